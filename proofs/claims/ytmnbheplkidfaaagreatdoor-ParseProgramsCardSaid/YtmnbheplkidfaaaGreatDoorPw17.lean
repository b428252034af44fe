/- Parsing: the reference's reader of processes: steps (mathematics), calls in short. (and what follows from it) -/
import Derived.Test.YtmnbheplkidfaaaGreatDoorPw16
set_option maxHeartbeats 16000000
set_option maxRecDepth 100000
namespace Go.Proofs.YtmnbheplkidfaaaGreatDoor
open Go.Lib (hid)
open Go.RowKit Go.Deep Go.Shelf
section
variable {R:Nat} {la:Option Addr} {all:List Tk} {E:Int} {st:RS} {W1 W:World}
theorem Xz(HP:Hid (RdIs R la all E st W))(HB:Hid (But R W1 W)){t:ByteArray}(ht:Qi st=t):Calls Tryz.prog 58 #[.pointer (some ⟨R,0,none⟩)] W fun e w'=>e= .returned (.string t)/\Hid (RdIs R la all E st w')/\Hid (But R W1 w'):=
 (Qw R la all E st W HP.out).mono (by rintro e w'⟨rfl,hb⟩;exact⟨by rw[ht],hid (HP.out.to hb),hid (HB.out.to hb)⟩)
theorem Zs{s:ByteArray}(HP:Hid (RdIs R la all E st W))(HB:Hid (But R W1 W))(hs:((⟨#[]⟩:ByteArray).toList==s.toList)=false:=by decide+kernel):Calls Tryz.prog 59 #[.pointer (some ⟨R,0,none⟩),.string s] W fun e w'=>e= .returned (.tuple #[])/\Hid (RdIs R la all E (Qa E (need s) st) w')/\Hid (But R W1 w'):=
 (QD R la all E s hs st W HP.out).mono (by rintro e w'⟨rfl,hp,hb⟩;exact⟨rfl,hid hp,hid (HB.out.trans hb)⟩)
theorem Ht(HP:Hid (RdIs R la all E st W))(HB:Hid (But R W1 W)):Calls Tryz.prog 60 #[.pointer (some ⟨R,0,none⟩)] W fun e w'=>∃n:ByteArray,e= .returned (.string n)/\Hid (n.size<=maxLen)/\Hid (∀y,Qj (Qk Qb) st=some y->n=y)/\Hid (RdIs R la all E (Qa E (Qk Qb) st) w')/\Hid (But R W1 w'):=
 (Zv R la all E st W HP.out).mono (by rintro e w'⟨⟨_,n,rfl,⟨rfl,hz⟩,hv⟩,hp,hb⟩;exact⟨n,rfl,hid hz,hid hv,hid hp,hid (HB.out.trans hb)⟩)
theorem failH(err:Int)(herr:err≠0)(HP:Hid (RdIs R la all E st W))(HB:Hid (But R W1 W)):Calls Tryz.prog 61 #[.pointer (some ⟨R,0,none⟩),.int .i64 err] W fun e w'=>e= .returned (.tuple #[])/\Hid (RdIs R la all E (XD E err st) w')/\Hid (But R W1 w'):=
 (ZG R la all E st err herr W HP.out).mono (by rintro e w'⟨rfl,hp,hb⟩;exact⟨rfl,hid hp,hid (HB.out.trans hb)⟩)
theorem valH(hall:UA all)(HP:Hid (RdIs R la all E st W))(HB:Hid (But R W1 W)):Calls Tryz.prog 119 #[.pointer (some ⟨R,0,none⟩)] W fun e w'=>∃a:Vl,e= .returned (.agg #[.int .i64 a.k,.string a.n,.int .i64 a.x])/\Hid (a.n.size<=maxLen)/\Hid (∀y,Qj (pval Qb) st=some y->a=y)/\Hid (RdIs R la all E (Qa E (pval Qb) st) w')/\Hid (But R W1 w'):=
 (NE R la all E hall st W HP.out).mono (by rintro e w'⟨⟨_,a,rfl,⟨rfl,hz⟩,hv⟩,hp,hb⟩;exact⟨a,rfl,hid hz,hid hv,hid hp,hid (HB.out.trans hb)⟩)
end
def Ju(p:Pr):List Pr:=if p.k=7 then p.ps else [p]
theorem Vy{p:Pr}(h:p.k≠7)(n:Nat):(Ju p).length<=n+1:=by rw[Ju,if_neg h];exact Nat.le_add_left 1 n
def GPn(b n:Nat)(w:World)(p:Pr)(v:Value):Prop:=GPr b w p v/\(Ju p).length<=n+1
def GPk(b:Nat)(w:World)(p:Pr)(v:Value):Prop:=GPr b w p v/\p.k≠7
def ProR(R:Nat)(la:Option Addr)(all:List Tk)(E:Int)(f:FuncId)(S:List Tk->PR Pr)(n:Nat):Prop:=∀st W,RdIs R la all E st W->st.len<n->Calls Tryz.prog f #[.pointer (some ⟨R,0,none⟩)] W (Red R la all E W S st (GPn W.heap.size st.len))
theorem Ri{R:Nat}{la:Option Addr}{all:List Tk}{E:Int}{st:RS}{W1 W:World}{f:FuncId}{S:List Tk->PR Pr}{n:Nat}(hS:ProR R la all E f S n)(hn:st.len<n)(HP:Hid (RdIs R la all E st W))(HB:Hid (But R W1 W)):Calls Tryz.prog f #[.pointer (some ⟨R,0,none⟩)] W fun e w'=>∃(p:Pr) (la':Option Addr) (ln lc:Nat) (aa:Option Addr) (an ac:Nat) (ta:Option Addr) (tn tc:Nat) (ua:Option Addr) (un uc:Nat) (ka:Option Addr) (kn kc:Nat),
 e= .returned (QW p (.slice la' ln lc) (.slice aa an ac) (.slice ta tn tc) (.slice ua un uc) (.slice ka kn kc))/\Hid (GPr W.heap.size w' p (QW p (.slice la' ln lc) (.slice aa an ac) (.slice ta tn tc) (.slice ua un uc) (.slice ka kn kc)))/\Hid (∀y,Qj S st=some y->p=y)/\Hid (RdIs R la all E (Qa E S st) w')/\Hid (But R W1 w'):=
 (hS st W HP.out hn).mono (by
  rintro e w'⟨⟨v,p,rfl,⟨hg,hk⟩,hv⟩,hp,hb⟩
  obtain⟨la',ln,lc,aa,an,ac,ta,tn,tc,ua,un,uc,ka,kn,kc,rfl⟩:=PrVal.open hg
  exact⟨p,_,_,_,_,_,_,_,_,_,_,_,_,_,_,_,rfl,hid hg,hid hv,hid hp,hid (HB.out.trans hb)⟩)
theorem Er{R:Nat}{la:Option Addr}{all:List Tk}{E:Int}{st:RS}{W1 W:World}{f:FuncId}{S:List Tk->PR Pr}{n:Nat}(hS:ProR R la all E f S n)(hn:st.len<n)(HP:Hid (RdIs R la all E st W))(HB:Hid (But R W1 W)):Calls Tryz.prog f #[.pointer (some ⟨R,0,none⟩)] W fun e w'=>∃(p:Pr) (la':Option Addr) (ln lc:Nat) (aa:Option Addr) (an ac:Nat) (ta:Option Addr) (tn tc:Nat) (ua:Option Addr) (un uc:Nat) (ka:Option Addr) (kn kc:Nat),
 e= .returned (QW p (.slice la' ln lc) (.slice aa an ac) (.slice ta tn tc) (.slice ua un uc) (.slice ka kn kc))/\Hid (GPr W.heap.size w' p (QW p (.slice la' ln lc) (.slice aa an ac) (.slice ta tn tc) (.slice ua un uc) (.slice ka kn kc)))/\Hid ((Ju p).length<=st.len+1)/\Hid (∀y,Qj S st=some y->p=y)/\Hid (RdIs R la all E (Qa E S st) w')/\Hid (But R W1 w'):=
 (hS st W HP.out hn).mono (by
  rintro e w'⟨⟨v,p,rfl,⟨hg,hk⟩,hv⟩,hp,hb⟩
  obtain⟨la',ln,lc,aa,an,ac,ta,tn,tc,ua,un,uc,ka,kn,kc,rfl⟩:=PrVal.open hg
  exact⟨p,_,_,_,_,_,_,_,_,_,_,_,_,_,_,_,rfl,hid hg,hid hk,hid hv,hid hp,hid (HB.out.trans hb)⟩)
section
variable (E:Int) (S P:List Tk->PR Pr) (c:ByteArray) (st:RS)
theorem UU:Qa E (JG S) st=Qa E S (Qa E (need sDot) st)/\∀y,Qj (JG S) st=some y->Qj S (Qa E (need sDot) st)=some y:=by
 constructor
 ·exact Qg (X:=fun s=>Qa E S s) (fun _=>rfl) (fun _=>rfl)
 ·intro y hy
  obtain⟨_,_,h2⟩:=Qh E hy
  exact h2
theorem RW:Qa E (ZC Qb S c) st=Qa E (JG S) (Qa E (need ZX) (Qa E (pval Qb) (Qa E (need Yp) st)))/\
 ∀y,Qj (ZC Qb S c) st=some y->∃v p,Qj (pval Qb) (Qa E (need Yp) st)=some v/\Qj (JG S) (Qa E (need ZX) (Qa E (pval Qb) (Qa E (need Yp) st)))=some p/\Pr.mk 2 c ⟨#[]⟩ [] [v] zT [p]=y:=by
 constructor
 ·exact Qg (X:=fun s=>Qa E (JG S) (Qa E (need ZX) (Qa E (pval Qb) s))) (fun _=>Qg (X:=fun s=>Qa E (JG S) (Qa E (need ZX) s)) (fun _=>Qg (X:=fun s=>Qa E (JG S) s) (fun _=>Qg (X:=fun s=>s) (fun _=>QU _ _ _) (fun _=>rfl)) (fun _=>rfl)) (fun _=>rfl)) (fun _=>rfl)
 ·intro y hy
  obtain⟨_,_,h2⟩:=Qh E hy
  obtain⟨v,h3,h4⟩:=Qh E h2
  obtain⟨_,_,h6⟩:=Qh E h4
  obtain⟨p,h7,h8⟩:=Qh E h6
  exact⟨v,p,h3,h7,Jq h8⟩
theorem Tc:Qa E (Yh Qb S c) st=Qa E (JG S) (Qa E (need Qy) (Qa E (Qk Qb) (Qa E (need QI) st)))/\
 ∀y,Qj (Yh Qb S c) st=some y->∃v p,Qj (Qk Qb) (Qa E (need QI) st)=some v/\Qj (JG S) (Qa E (need Qy) (Qa E (Qk Qb) (Qa E (need QI) st)))=some p/\Pr.mk 3 c v [] [] zT [p]=y:=by
 constructor
 ·exact Qg (X:=fun s=>Qa E (JG S) (Qa E (need Qy) (Qa E (Qk Qb) s))) (fun _=>Qg (X:=fun s=>Qa E (JG S) (Qa E (need Qy) s)) (fun _=>Qg (X:=fun s=>Qa E (JG S) s) (fun _=>Qg (X:=fun s=>s) (fun _=>QU _ _ _) (fun _=>rfl)) (fun _=>rfl)) (fun _=>rfl)) (fun _=>rfl)
 ·intro y hy
  obtain⟨_,_,h2⟩:=Qh E hy
  obtain⟨v,h3,h4⟩:=Qh E h2
  obtain⟨_,_,h6⟩:=Qh E h4
  obtain⟨p,h7,h8⟩:=Qh E h6
  exact⟨v,p,h3,h7,Jq h8⟩
theorem WL:Qa E (VG Qb S c) st=Qa E (JG S) (Qa E (Qk Qb) st)/\
 ∀y,Qj (VG Qb S c) st=some y->∃v p,Qj (Qk Qb) st=some v/\Qj (JG S) (Qa E (Qk Qb) st)=some p/\Pr.mk 4 c ⟨#[]⟩ [v] [] zT [p]=y:=by
 constructor
 ·exact Qg (X:=fun s=>Qa E (JG S) s) (fun _=>Qg (X:=fun s=>s) (fun _=>QU _ _ _) (fun _=>rfl)) (fun _=>rfl)
 ·intro y hy
  obtain⟨v,h3,h4⟩:=Qh E hy
  obtain⟨p,h7,h8⟩:=Qh E h4
  exact⟨v,p,h3,h7,Jq h8⟩
end
end Go.Proofs.YtmnbheplkidfaaaGreatDoor
namespace Go.Proofs.YtmnbheplkidfaaaGreatDoor
open Go.Lib (hid)
open Go.RowKit Go.Deep Go.Shelf
theorem UH{B:Nat->Prop}{W:World}{b:Nat}{p:Pr}{lv av tl tk kv:Value}(hb:B b)(hh:Blk W b #[.int .i64 p.k,.string p.c,.string p.x,lv,av,.int .i64 p.t.k,.int .i64 p.t.p,.string p.t.n,.int .i64 p.t.s,tl,tk,kv] 31)(hv:PrVal B W (QW p lv av tl tk kv) p):PrSl B W (.slice (some ⟨b,0,none⟩) 1 1) [p]:=by
 refine⟨.inr ⟨b,0,1,rfl,hb,?_⟩,(by decide:1<=maxLen)⟩
 simp only[PrsAt,and_true]
 obtain⟨⟨c0,c1,c2,c3,c4,c5,c6,c7,c8,c9,c10,c11⟩,-⟩:=c12p hh
 exact UI hb c0 c1 c2 c3 c4 c5 c6 c7 c8 c9 c10 c11 hv
theorem Ll{B:Nat->Prop}{W:World}{b:Nat}{a:Vl}(hb:B b)(hh:Blk W b #[.int .i64 a.k,.string a.n,.int .i64 a.x] 82)(hn:a.n.size<=maxLen):VlSl B W (.slice (some ⟨b,0,none⟩) 1 1) [a]:=by
 refine⟨.inr ⟨b,0,1,rfl,hb,lR,fun j x hj=>?_⟩,(by decide:1<=maxLen),fun x hx=>by rw[mS hx];exact hn⟩
 cases j with
 |succ j=>simp at hj
 |zero=>
  simp only[List.getElem?_cons_zero,Option.some.injEq] at hj
  subst hj
  refine⟨?_,?_,?_⟩ <;> simp only[World.cell?,hh] <;> rfl
theorem WD{B:Nat->Prop}{W:World}{b:Nat}{a:ByteArray}(hb:B b)(hh:Blk W b #[.string a] 9)(hn:a.size<=maxLen):StrSl B W (.slice (some ⟨b,0,none⟩) 1 1) [a]:=by
 refine⟨.inr ⟨b,0,1,rfl,hb,lR,fun j x hj=>?_⟩,(by decide:1<=maxLen),fun x hx=>by rw[mS hx];exact hn⟩
 cases j with
 |succ j=>simp at hj
 |zero=>
  simp only[List.getElem?_cons_zero,Option.some.injEq] at hj
  subst hj
  simp only[World.cell?,hh];rfl
theorem Yj{w:World}{b x:Nat}{v:Value}(hb:b<w.heap.size)(h:w.cell? ⟨b,x,none⟩=some v):∀o,(w.alloc o).cell? ⟨b,x,none⟩=some v:=fun o=>(((Below.refl w.heap.size w).alloc lR o).cell (p:=⟨b,x,none⟩) hb).trans h
theorem ZI{w:World}{b x:Nat}(hb:b<w.heap.size)(h:w.frozen? ⟨b,x,none⟩=false):∀o,(w.alloc o).frozen? ⟨b,x,none⟩=false:=fun o=>by
 have e:=Below.heap_alloc w o b hb
 simp only[World.frozen?] at h |-
 rw[e];exact h
theorem gl0{α:Type}{a:Array α}{i:Nat}{x:α}(h:a[i]? =some x):i<a.size:=(gl h)
theorem Jr(E:Int)(s:ByteArray)(st:RS):(Qa E (need s) st).len<=st.len:=len_le E (fun _ _ _ h=>Nat.le_of_lt (Qp h)) st
theorem Xa(E:Int)(st:RS):(Qa E (Qk Qb) st).len<=st.len:=len_le E (fun _ _ _ h=>Nat.le_of_lt (QJ h)) st
theorem GX(E:Int)(st:RS):(Qa E (pval Qb) st).len<=st.len:=len_le E (fun _ _ _ h=>Nat.le_of_lt (XP _ _ _ h)) st
theorem Dq(R:Nat)(la:Option Addr)(all:List Tk)(E:Int)(hall:UA all)(c:ByteArray)(hc:c.size<=maxLen)(st:RS)(w:World)(h:RdIs R la all E st w)(S:List Tk->PR Pr)(n:Nat)(hS:ProR R la all E 66 S n)(hn:st.len<=n)(q0:stHd sBang st=true):
 Calls Tryz.prog 92 #[.pointer (some ⟨R,0,none⟩),.string c] w (Red R la all E w (ZC Qb S c) (Qa E (need sBang) st) (GPk w.heap.size)):=by
 have HALL:=hid hall
 have HS:=hid hS
 have HCZ:=hid hc
 obtain⟨t1,ht1⟩:∃t1,Qi st=t1:=⟨_,rfl⟩
 have k0:(t1.toList==[33])=true:=by rw[<-ht1];exact Qt q0
 have HT1:=hid ht1
 have htw:=Zt w (cN 0 ⟨#[]⟩ ⟨#[]⟩ sN sN sN) (cN 0 c ⟨#[]⟩ sN sN sN) 31 31
 obtain⟨W3,hW3⟩:∃W3,(w.alloc (.cells z12 31)).alloc (.cells (cN 0 c ⟨#[]⟩ sN sN sN) 31)=W3:=⟨_,rfl⟩
 rw[hW3] at htw
 have hR:R<w.heap.size:=h.lt
 have HLA:=hid h.la
 have hs3:w.heap.size+1<W3.heap.size:=(Array.getElem?_eq_some_iff.1 htw.2.1).1
 have HP:Hid (RdIs R la all E st W3):=hid (h.to htw.2.2)
 have HB:Hid (But R W3 W3):=hid (But.refl _ _)
 have HD:Hid (But R w W3):=hid (But.of htw.2.2)
 have HX:Hid (∀W,But R W3 W->Blk W w.heap.size z12 31/\Blk W (w.heap.size+1) (cN 0 c ⟨#[]⟩ sN sN sN) 31):=hid (fun W hW=>⟨(hW.block _ (by omega) (by omega)).trans htw.1,(hW.block _ (by omega) (by omega)).trans htw.2.1⟩)
 have HW3:=hid hW3
 obtain⟨hm1,hm2⟩:=RW E S c (Qa E (need sBang) st)
 obtain⟨hm3,hm4⟩:=UU E S (Qa E (need ZX) (Qa E (pval Qb) (Qa E (need Yp) (Qa E (need sBang) st))))
 unfold Red
 rw[hm1,hm3]
 have HE:=hid hm2
 have HE2:=hid hm4
 clear hm1 hm2 hm3 hm4
 have HLS:Hid ((Qa E (need sDot) (Qa E (need ZX) (Qa E (pval Qb) (Qa E (need Yp) (Qa E (need sBang) st))))).len<n):=hid (by have a:=JQ E q0;have b:=Jr E Yp (Qa E (need sBang) st);have d:=GX E (Qa E (need Yp) (Qa E (need sBang) st));have e:=Jr E ZX (Qa E (pval Qb) (Qa E (need Yp) (Qa E (need sBang) st)));have g:=Jr E sDot (Qa E (need ZX) (Qa E (pval Qb) (Qa E (need Yp) (Qa E (need sBang) st))));omega)
 clear hall hS hc hn h htw ht1 q0 hW3
 go_enter Tryz.func92,Tryz.ntmps92
 go_upto_region 2 with fail
 rw[HW3.out]
 go_upto_region 7 with(first|(go_at_call 58;refine(Xz HP HB HT1.out).mono ?_;rintro _ wn⟨rfl,HP,HB⟩)|(go_at_call 59;refine(Zs HP HB).mono ?_;rintro _ wn⟨rfl,HP,HB⟩))
 have hx:=(HX.out wn HB.out)
 have dc:=(c12p hx.2).1.1
 have dz:=(c12p hx.2).2.1
 go_upto_region 8 with fail
 obtain⟨W4,hW4⟩:∃W,wn.setCell ⟨w.heap.size+1,0,none⟩ (.int .i64 2)=W:=⟨_,rfl⟩
 rw[hW4]
 have hx:=HX.out wn HB.out
 have hsz:W3.heap.size<=wn.heap.size:=HB.out.size
 have hlt:w.heap.size+1<wn.heap.size:=lL hs3 hsz
 have hxn:Blk W4 w.heap.size z12 31/\W4.heap[w.heap.size+1]? =some (.cells (cN 2 c ⟨#[]⟩ sN sN sN) 31 (0,0)):=by
  rw[<-hW4]
  exact⟨(oth1 _ _ _ (by omega)).trans (hx.1),Qd (hx.2) 0 _⟩
 have hs4:w.heap.size+1<W4.heap.size:=gl0 hxn.2
 have hw34:W3.heap.size<=W4.heap.size:=by rw[<-hW4];simp only[World.setCell,Array.size_modify];omega
 have HPn:=hid (by rw[<-hW4];exact HP.out.set (X:=w.heap.size+1) (by omega) HLA.out (by omega) 0 (.int .i64 2):RdIs R la all E _ W4)
 have HDn:Hid (But R w W4):=hid (by rw[<-hW4];exact(HD.out.trans HB.out).setX (by omega) 0 _)
 have HXn:Hid (∀W,But R W4 W->Blk W w.heap.size z12 31/\Blk W (w.heap.size+1) (cN 2 c ⟨#[]⟩ sN sN sN) 31):=hid (fun W hW=>⟨(hW.block _ (gl0 hxn.1) (by omega)).trans hxn.1,(hW.block _ (gl0 hxn.2) (by omega)).trans hxn.2⟩)
 clear HP HB HD HX hW4 hx dc dz
 have HP:=HPn
 have HD:=HDn
 have HX:=HXn
 have HB:Hid (But R W4 W4):=hid (But.refl _ _)
 clear HPn HDn HXn hxn
 go_upto_region 9 with(go_at_call 119;refine(valH HALL.out HP HB).mono ?_;rintro _ wv⟨a,rfl,HAZ,HAV,HP,HB⟩;have hx:=HX.out wv HB.out;have dc:=Yj (gl0 hx.2) (c12p hx.2).1.2.2.2.2.1;have dz:=ZI (gl0 hx.2) (c12p hx.2).2.2.2.2.2.1;clear hx)
 obtain⟨W5,hW5⟩:∃W,(wv.alloc (.cells #[.int .i64 a.k,.string a.n,.int .i64 a.x] 82)).setCell ⟨w.heap.size+1,4,none⟩ (.slice (some ⟨wv.heap.size,0,none⟩) 1 1)=W:=⟨_,rfl⟩
 rw[hW5]
 have hx:=HX.out wv HB.out
 have hsz:W4.heap.size<=wv.heap.size:=HB.out.size
 have hlt:w.heap.size+1<wv.heap.size:=lL hs4 hsz
 have hb0:Below wv.heap.size wv (wv.alloc (.cells #[.int .i64 a.k,.string a.n,.int .i64 a.x] 82)):=bR.alloc lR _
 have xb0:(wv.alloc (.cells #[.int .i64 a.k,.string a.n,.int .i64 a.x] 82)).heap[wv.heap.size]? =some (.cells #[.int .i64 a.k,.string a.n,.int .i64 a.x] 82 (0,0)):=World.alloc_heap_new _ _
 obtain⟨vb5,hvb5⟩:∃b,wv.heap.size=b:=⟨_,rfl⟩
 have HK5:Hid (But (w.heap.size+1) wv W5):=hid (by rw[<-hW5];exact((But.refl _ _).to hb0).set 4 _)
 have hxn:Blk W5 w.heap.size z12 31/\Blk W5 (w.heap.size+1) (cN 2 c ⟨#[]⟩ sN (.slice (some ⟨vb5,0,none⟩) 1 1) sN) 31/\W5.heap[vb5]? =some (.cells #[.int .i64 a.k,.string a.n,.int .i64 a.x] 82 (0,0)):=by
  rw[<-hW5,hvb5]
  exact⟨(oth1 _ _ _ (by omega)).trans ((hb0.block _ (gl0 hx.1)).trans hx.1),Qd ((hb0.block _ (gl0 hx.2)).trans hx.2) 4 _,(oth1 _ _ _ (by omega)).trans (by rw[<-hvb5];exact xb0)⟩
 have hvvb5:W3.heap.size<=vb5/\vb5<W5.heap.size:=⟨by rw[<-hvb5];omega,gl0 hxn.2.2⟩
 have hs5:w.heap.size+1<W5.heap.size:=gl0 hxn.2.1
 have hw35:W3.heap.size<=W5.heap.size:=by rw[<-hW5];simp only[World.setCell,Array.size_modify];rw[World.size_alloc];omega
 have HPn:=hid (by rw[<-hW5];exact(HP.out.to hb0).set (X:=w.heap.size+1) (by omega) HLA.out (by omega) 4 (.slice (some ⟨wv.heap.size,0,none⟩) 1 1):RdIs R la all E _ W5)
 have HDn:Hid (But R w W5):=hid (by rw[<-hW5];exact((HD.out.trans HB.out).to hb0).setX (by omega) 4 _)
 have HXn:Hid (∀W,But R W5 W->Blk W w.heap.size z12 31/\Blk W (w.heap.size+1) (cN 2 c ⟨#[]⟩ sN (.slice (some ⟨vb5,0,none⟩) 1 1) sN) 31/\Blk W vb5 #[.int .i64 a.k,.string a.n,.int .i64 a.x] 82):=hid (fun W hW=>⟨(hW.block _ (gl0 hxn.1) (by omega)).trans hxn.1,(hW.block _ (gl0 hxn.2.1) (by omega)).trans hxn.2.1,(hW.block _ (gl0 hxn.2.2) (by omega)).trans hxn.2.2⟩)
 rw[hvb5]
 clear HP HB HD HX hW5 hx dc dz hb0 xb0 hvb5
 have HP:=HPn
 have HD:=HDn
 have HX:=HXn
 have HB:Hid (But R W5 W5):=hid (But.refl _ _)
 clear HPn HDn HXn hxn
 go_upto_region 45 with(go_at_call 59;refine(Zs HP HB).mono ?_;rintro _ wn⟨rfl,HP,HB⟩)
 go_upto_region 46 with(go_at_call 66;have hwn:W5.heap.size<=wn.heap.size:=HB.out.size;refine(Ri HS.out HLS.out HP HB).mono ?_;rintro _ ws⟨p,la',ln,lc,aa,an,ac,ta,tn,tc,ua,un,uc,ka,kn,kc,rfl,HG,HVp,HP,HB⟩;have hx:=HX.out ws HB.out;have dc:=Yj (gl0 hx.2.1) (c12p hx.2.1).1.2.2.2.2.2.2.2.2.2.2.2;have dz:=ZI (gl0 hx.2.1) (c12p hx.2.1).2.2.2.2.2.2.2.2.2.2.2.2;clear hx)
 obtain⟨W6,hW6⟩:∃W,(ws.alloc (.cells (gP p la' ln lc aa an ac ta tn tc ua un uc ka kn kc) 31)).setCell ⟨w.heap.size+1,11,none⟩ (.slice (some ⟨ws.heap.size,0,none⟩) 1 1)=W:=⟨_,rfl⟩
 rw[hW6]
 have hx:=HX.out ws HB.out
 have hsz:W5.heap.size<=ws.heap.size:=HB.out.size
 have hlt:w.heap.size+1<ws.heap.size:=lL hs5 hsz
 have hb0:Below ws.heap.size ws (ws.alloc (.cells (gP p la' ln lc aa an ac ta tn tc ua un uc ka kn kc) 31)):=bR.alloc lR _
 have xb0:(ws.alloc (.cells (gP p la' ln lc aa an ac ta tn tc ua un uc ka kn kc) 31)).heap[ws.heap.size]? =some (.cells (gP p la' ln lc aa an ac ta tn tc ua un uc ka kn kc) 31 (0,0)):=World.alloc_heap_new _ _
 obtain⟨vb6,hvb6⟩:∃b,ws.heap.size=b:=⟨_,rfl⟩
 have HK6:Hid (But (w.heap.size+1) ws W6):=hid (by rw[<-hW6];exact((But.refl _ _).to hb0).set 11 _)
 have hxn:Blk W6 w.heap.size z12 31/\Blk W6 (w.heap.size+1) (cN 2 c ⟨#[]⟩ sN (.slice (some ⟨vb5,0,none⟩) 1 1) (.slice (some ⟨vb6,0,none⟩) 1 1)) 31/\Blk W6 vb5 #[.int .i64 a.k,.string a.n,.int .i64 a.x] 82/\W6.heap[vb6]? =some (.cells (gP p la' ln lc aa an ac ta tn tc ua un uc ka kn kc) 31 (0,0)):=by
  rw[<-hW6,hvb6]
  exact⟨(oth1 _ _ _ (by omega)).trans ((hb0.block _ (gl0 hx.1)).trans hx.1),Qd ((hb0.block _ (gl0 hx.2.1)).trans hx.2.1) 11 _,(oth1 _ _ _ (by omega)).trans ((hb0.block _ (gl0 hx.2.2)).trans hx.2.2),(oth1 _ _ _ (by omega)).trans (by rw[<-hvb6];exact xb0)⟩
 have hvvb6:W3.heap.size<=vb6/\vb6<W6.heap.size:=⟨by rw[<-hvb6];omega,gl0 hxn.2.2.2⟩
 have hs6:w.heap.size+1<W6.heap.size:=gl0 hxn.2.1
 have hw36:W3.heap.size<=W6.heap.size:=by rw[<-hW6];simp only[World.setCell,Array.size_modify];rw[World.size_alloc];omega
 have HPn:=hid (by rw[<-hW6];exact(HP.out.to hb0).set (X:=w.heap.size+1) (by omega) HLA.out (by omega) 11 (.slice (some ⟨ws.heap.size,0,none⟩) 1 1):RdIs R la all E _ W6)
 have HDn:Hid (But R w W6):=hid (by rw[<-hW6];exact((HD.out.trans HB.out).to hb0).setX (by omega) 11 _)
 have HXn:Hid (∀W,But R W6 W->Blk W w.heap.size z12 31/\Blk W (w.heap.size+1) (cN 2 c ⟨#[]⟩ sN (.slice (some ⟨vb5,0,none⟩) 1 1) (.slice (some ⟨vb6,0,none⟩) 1 1)) 31/\Blk W vb5 #[.int .i64 a.k,.string a.n,.int .i64 a.x] 82/\W.heap[vb6]? =some (.cells (gP p la' ln lc aa an ac ta tn tc ua un uc ka kn kc) 31 (0,0))):=hid (fun W hW=>⟨(hW.block _ (gl0 hxn.1) (by omega)).trans hxn.1,(hW.block _ (gl0 hxn.2.1) (by omega)).trans hxn.2.1,(hW.block _ (gl0 hxn.2.2.1) (by omega)).trans hxn.2.2.1,(hW.block _ (gl0 hxn.2.2.2) (by omega)).trans hxn.2.2.2⟩)
 rw[hvb6]
 clear HP HB HD HX hW6 hx dc dz hb0 xb0 hvb6
 have HP:=HPn
 have HD:=HDn
 have HX:=HXn
 have HB:Hid (But R W6 W6):=hid (But.refl _ _)
 clear HPn HDn HXn hxn
 have hx:=HX.out W6 (But.refl _ _)
 obtain⟨⟨q0,q1,q2,q3,q4,q5,q6,q7,q8,q9,q10,q11⟩,z0,z1,z2,z3,z4,z5,z6,z7,z8,z9,z10,z11⟩:=c12p hx.1
 obtain⟨⟨d0,d1,d2,d3,d4,d5,d6,d7,d8,d9,d10,d11⟩,-⟩:=c12p hx.2.1
 have HXX:=hid hx
 clear hx
 go_wp2_with fail
 have hx8:=JZ HXX.out.1 (.int .i64 2) (.string c) tE sN (.slice (some ⟨vb5,0,none⟩) 1 1) iZ iZ tE iZ sN sN (.slice (some ⟨vb6,0,none⟩) 1 1)
 obtain⟨⟨y0,y1,y2,y3,y4,y5,y6,y7,y8,y9,y10,y11⟩,-⟩:=c12p hx8
 refine bodyPost_ret (v:= .agg (cN 2 c ⟨#[]⟩ sN (.slice (some ⟨vb5,0,none⟩) 1 1) (.slice (some ⟨vb6,0,none⟩) 1 1))) (by simp[results,Tryz.results92,go_sem,y0,y1,y2,y3,y4,y5,y6,y7,y8,y9,y10,y11]) rfl ?_
 have hgp:=(GPr.mono HG.out (show W3.heap.size<=wn.heap.size by omega)).but HK6.out (by omega)
 have hnode:GPr W3.heap.size W6 (Pr.mk 2 c ⟨#[]⟩ [] [a] zT [p]) (.agg (cN 2 c ⟨#[]⟩ sN (.slice (some ⟨vb5,0,none⟩) 1 1) (.slice (some ⟨vb6,0,none⟩) 1 1))):=GPr.node (t:=zT) HCZ.out (Nat.zero_le _) (Jv _ _) (Ll ⟨hvvb5.1,gl0 HXX.out.2.2.1⟩ HXX.out.2.2.1 HAZ.out) (YF _ _) (UH hvvb6 HXX.out.2.2.2 hgp)
 refine⟨⟨_,Pr.mk 2 c ⟨#[]⟩ [] [a] zT [p],rfl,⟨(hnode.put12 (by omega) (.int .i64 2) (.string c) tE sN (.slice (some ⟨vb5,0,none⟩) 1 1) iZ iZ tE iZ sN sN (.slice (some ⟨vb6,0,none⟩) 1 1)).mono (by omega),by intro h;cases h⟩,fun y hy=>by obtain⟨v',p',h1,h2,rfl⟩:=HE.out y hy;rw[HAV.out v' h1,HVp.out p' (HE2.out p' h2)]⟩,HP.out.oth (X:=w.heap.size) (fun j hj=>QN hj (.int .i64 2) (.string c) tE sN (.slice (some ⟨vb5,0,none⟩) 1 1) iZ iZ tE iZ sN sN (.slice (some ⟨vb6,0,none⟩) 1 1)) (QF _ _ (.int .i64 2) (.string c) tE sN (.slice (some ⟨vb5,0,none⟩) 1 1) iZ iZ tE iZ sN sN (.slice (some ⟨vb6,0,none⟩) 1 1)) hR HLA.out,HD.out.put12 lR (.int .i64 2) (.string c) tE sN (.slice (some ⟨vb5,0,none⟩) 1 1) iZ iZ tE iZ sN sN (.slice (some ⟨vb6,0,none⟩) 1 1)⟩
theorem Th(R:Nat)(la:Option Addr)(all:List Tk)(E:Int)(c:ByteArray)(hc:c.size<=maxLen)(st:RS)(w:World)(h:RdIs R la all E st w)(S:List Tk->PR Pr)(n:Nat)(hS:ProR R la all E 66 S n)(hn:st.len<=n)(q0:stHd sBang st=false)(q1:stHd sAsk st=true):
 Calls Tryz.prog 92 #[.pointer (some ⟨R,0,none⟩),.string c] w (Red R la all E w (Yh Qb S c) (Qa E (need sAsk) st) (GPk w.heap.size)):=by
 have HS:=hid hS
 have HCZ:=hid hc
 obtain⟨t1,ht1⟩:∃t1,Qi st=t1:=⟨_,rfl⟩
 have k0:(t1.toList==[33])=false:=by rw[<-ht1];exact Qt q0
 have k1:(t1.toList==[63])=true:=by rw[<-ht1];exact Qt q1
 have HT1:=hid ht1
 have htw:=Zt w (cN 0 ⟨#[]⟩ ⟨#[]⟩ sN sN sN) (cN 0 c ⟨#[]⟩ sN sN sN) 31 31
 obtain⟨W3,hW3⟩:∃W3,(w.alloc (.cells z12 31)).alloc (.cells (cN 0 c ⟨#[]⟩ sN sN sN) 31)=W3:=⟨_,rfl⟩
 rw[hW3] at htw
 have hR:R<w.heap.size:=h.lt
 have HLA:=hid h.la
 have hs3:w.heap.size+1<W3.heap.size:=(Array.getElem?_eq_some_iff.1 htw.2.1).1
 have HP:Hid (RdIs R la all E st W3):=hid (h.to htw.2.2)
 have HB:Hid (But R W3 W3):=hid (But.refl _ _)
 have HD:Hid (But R w W3):=hid (But.of htw.2.2)
 have HX:Hid (∀W,But R W3 W->Blk W w.heap.size z12 31/\Blk W (w.heap.size+1) (cN 0 c ⟨#[]⟩ sN sN sN) 31):=hid (fun W hW=>⟨(hW.block _ (by omega) (by omega)).trans htw.1,(hW.block _ (by omega) (by omega)).trans htw.2.1⟩)
 have HW3:=hid hW3
 obtain⟨hm1,hm2⟩:=Tc E S c (Qa E (need sAsk) st)
 obtain⟨hm3,hm4⟩:=UU E S (Qa E (need Qy) (Qa E (Qk Qb) (Qa E (need QI) (Qa E (need sAsk) st))))
 unfold Red
 rw[hm1,hm3]
 have HE:=hid hm2
 have HE2:=hid hm4
 clear hm1 hm2 hm3 hm4
 have HLS:Hid ((Qa E (need sDot) (Qa E (need Qy) (Qa E (Qk Qb) (Qa E (need QI) (Qa E (need sAsk) st))))).len<n):=hid (by have a:=JQ E q1;have b:=Jr E QI (Qa E (need sAsk) st);have d:=Xa E (Qa E (need QI) (Qa E (need sAsk) st));have e:=Jr E Qy (Qa E (Qk Qb) (Qa E (need QI) (Qa E (need sAsk) st)));have g:=Jr E sDot (Qa E (need Qy) (Qa E (Qk Qb) (Qa E (need QI) (Qa E (need sAsk) st))));omega)
 clear hS hc hn h htw ht1 q0 q1 hW3
 go_enter Tryz.func92,Tryz.ntmps92
 go_upto_region 2 with fail
 rw[HW3.out]
 go_upto_region 13 with(first|(go_at_call 58;refine(Xz HP HB HT1.out).mono ?_;rintro _ wn⟨rfl,HP,HB⟩)|(go_at_call 59;refine(Zs HP HB).mono ?_;rintro _ wn⟨rfl,HP,HB⟩))
 have hx:=(HX.out wn HB.out)
 have dc:=(c12p hx.2).1.1
 have dz:=(c12p hx.2).2.1
 go_upto_region 14 with fail
 obtain⟨W4,hW4⟩:∃W,wn.setCell ⟨w.heap.size+1,0,none⟩ (.int .i64 3)=W:=⟨_,rfl⟩
 rw[hW4]
 have hx:=HX.out wn HB.out
 have hsz:W3.heap.size<=wn.heap.size:=HB.out.size
 have hlt:w.heap.size+1<wn.heap.size:=lL hs3 hsz
 have hxn:Blk W4 w.heap.size z12 31/\W4.heap[w.heap.size+1]? =some (.cells (cN 3 c ⟨#[]⟩ sN sN sN) 31 (0,0)):=by
  rw[<-hW4]
  exact⟨(oth1 _ _ _ (by omega)).trans (hx.1),Qd (hx.2) 0 _⟩
 have hs4:w.heap.size+1<W4.heap.size:=gl0 hxn.2
 have hw34:W3.heap.size<=W4.heap.size:=by rw[<-hW4];simp only[World.setCell,Array.size_modify];omega
 have HPn:=hid (by rw[<-hW4];exact HP.out.set (X:=w.heap.size+1) (by omega) HLA.out (by omega) 0 (.int .i64 3):RdIs R la all E _ W4)
 have HDn:Hid (But R w W4):=hid (by rw[<-hW4];exact(HD.out.trans HB.out).setX (by omega) 0 _)
 have HXn:Hid (∀W,But R W4 W->Blk W w.heap.size z12 31/\Blk W (w.heap.size+1) (cN 3 c ⟨#[]⟩ sN sN sN) 31):=hid (fun W hW=>⟨(hW.block _ (gl0 hxn.1) (by omega)).trans hxn.1,(hW.block _ (gl0 hxn.2) (by omega)).trans hxn.2⟩)
 clear HP HB HD HX hW4 hx dc dz
 have HP:=HPn
 have HD:=HDn
 have HX:=HXn
 have HB:Hid (But R W4 W4):=hid (But.refl _ _)
 clear HPn HDn HXn hxn
 go_upto_region 15 with(go_at_call 60;refine(Ht HP HB).mono ?_;rintro _ wv⟨nm,rfl,HNZ,HNV,HP,HB⟩;have hx:=HX.out wv HB.out;have dc:=(c12p hx.2).1.2.2.1;have dz:=(c12p hx.2).2.2.2.1;clear hx)
 obtain⟨W5,hW5⟩:∃W,wv.setCell ⟨w.heap.size+1,2,none⟩ (.string nm)=W:=⟨_,rfl⟩
 rw[hW5]
 have hx:=HX.out wv HB.out
 have hsz:W4.heap.size<=wv.heap.size:=HB.out.size
 have hlt:w.heap.size+1<wv.heap.size:=lL hs4 hsz
 have hxn:Blk W5 w.heap.size z12 31/\W5.heap[w.heap.size+1]? =some (.cells (cN 3 c nm sN sN sN) 31 (0,0)):=by
  rw[<-hW5]
  exact⟨(oth1 _ _ _ (by omega)).trans (hx.1),Qd (hx.2) 2 _⟩
 have hs5:w.heap.size+1<W5.heap.size:=gl0 hxn.2
 have hw35:W3.heap.size<=W5.heap.size:=by rw[<-hW5];simp only[World.setCell,Array.size_modify];omega
 have HPn:=hid (by rw[<-hW5];exact HP.out.set (X:=w.heap.size+1) (by omega) HLA.out (by omega) 2 (.string nm):RdIs R la all E _ W5)
 have HDn:Hid (But R w W5):=hid (by rw[<-hW5];exact(HD.out.trans HB.out).setX (by omega) 2 _)
 have HXn:Hid (∀W,But R W5 W->Blk W w.heap.size z12 31/\Blk W (w.heap.size+1) (cN 3 c nm sN sN sN) 31):=hid (fun W hW=>⟨(hW.block _ (gl0 hxn.1) (by omega)).trans hxn.1,(hW.block _ (gl0 hxn.2) (by omega)).trans hxn.2⟩)
 clear HP HB HD HX hW5 hx dc dz
 have HP:=HPn
 have HD:=HDn
 have HX:=HXn
 have HB:Hid (But R W5 W5):=hid (But.refl _ _)
 clear HPn HDn HXn hxn
 go_upto_region 45 with(go_at_call 59;refine(Zs HP HB).mono ?_;rintro _ wn⟨rfl,HP,HB⟩)
 go_upto_region 46 with(go_at_call 66;have hwn:W5.heap.size<=wn.heap.size:=HB.out.size;refine(Ri HS.out HLS.out HP HB).mono ?_;rintro _ ws⟨p,la',ln,lc,aa,an,ac,ta,tn,tc,ua,un,uc,ka,kn,kc,rfl,HG,HVp,HP,HB⟩;have hx:=HX.out ws HB.out;have dc:=Yj (gl0 hx.2) (c12p hx.2).1.2.2.2.2.2.2.2.2.2.2.2;have dz:=ZI (gl0 hx.2) (c12p hx.2).2.2.2.2.2.2.2.2.2.2.2.2;clear hx)
 obtain⟨W6,hW6⟩:∃W,(ws.alloc (.cells (gP p la' ln lc aa an ac ta tn tc ua un uc ka kn kc) 31)).setCell ⟨w.heap.size+1,11,none⟩ (.slice (some ⟨ws.heap.size,0,none⟩) 1 1)=W:=⟨_,rfl⟩
 rw[hW6]
 have hx:=HX.out ws HB.out
 have hsz:W5.heap.size<=ws.heap.size:=HB.out.size
 have hlt:w.heap.size+1<ws.heap.size:=lL hs5 hsz
 have hb0:Below ws.heap.size ws (ws.alloc (.cells (gP p la' ln lc aa an ac ta tn tc ua un uc ka kn kc) 31)):=bR.alloc lR _
 have xb0:(ws.alloc (.cells (gP p la' ln lc aa an ac ta tn tc ua un uc ka kn kc) 31)).heap[ws.heap.size]? =some (.cells (gP p la' ln lc aa an ac ta tn tc ua un uc ka kn kc) 31 (0,0)):=World.alloc_heap_new _ _
 obtain⟨vb6,hvb6⟩:∃b,ws.heap.size=b:=⟨_,rfl⟩
 have HK6:Hid (But (w.heap.size+1) ws W6):=hid (by rw[<-hW6];exact((But.refl _ _).to hb0).set 11 _)
 have hxn:Blk W6 w.heap.size z12 31/\Blk W6 (w.heap.size+1) (cN 3 c nm sN sN (.slice (some ⟨vb6,0,none⟩) 1 1)) 31/\W6.heap[vb6]? =some (.cells (gP p la' ln lc aa an ac ta tn tc ua un uc ka kn kc) 31 (0,0)):=by
  rw[<-hW6,hvb6]
  exact⟨(oth1 _ _ _ (by omega)).trans ((hb0.block _ (gl0 hx.1)).trans hx.1),Qd ((hb0.block _ (gl0 hx.2)).trans hx.2) 11 _,(oth1 _ _ _ (by omega)).trans (by rw[<-hvb6];exact xb0)⟩
 have hvvb6:W3.heap.size<=vb6/\vb6<W6.heap.size:=⟨by rw[<-hvb6];omega,gl0 hxn.2.2⟩
 have hs6:w.heap.size+1<W6.heap.size:=gl0 hxn.2.1
 have hw36:W3.heap.size<=W6.heap.size:=by rw[<-hW6];simp only[World.setCell,Array.size_modify];rw[World.size_alloc];omega
 have HPn:=hid (by rw[<-hW6];exact(HP.out.to hb0).set (X:=w.heap.size+1) (by omega) HLA.out (by omega) 11 (.slice (some ⟨ws.heap.size,0,none⟩) 1 1):RdIs R la all E _ W6)
 have HDn:Hid (But R w W6):=hid (by rw[<-hW6];exact((HD.out.trans HB.out).to hb0).setX (by omega) 11 _)
 have HXn:Hid (∀W,But R W6 W->Blk W w.heap.size z12 31/\Blk W (w.heap.size+1) (cN 3 c nm sN sN (.slice (some ⟨vb6,0,none⟩) 1 1)) 31/\W.heap[vb6]? =some (.cells (gP p la' ln lc aa an ac ta tn tc ua un uc ka kn kc) 31 (0,0))):=hid (fun W hW=>⟨(hW.block _ (gl0 hxn.1) (by omega)).trans hxn.1,(hW.block _ (gl0 hxn.2.1) (by omega)).trans hxn.2.1,(hW.block _ (gl0 hxn.2.2) (by omega)).trans hxn.2.2⟩)
 rw[hvb6]
 clear HP HB HD HX hW6 hx dc dz hb0 xb0 hvb6
 have HP:=HPn
 have HD:=HDn
 have HX:=HXn
 have HB:Hid (But R W6 W6):=hid (But.refl _ _)
 clear HPn HDn HXn hxn
 have hx:=HX.out W6 (But.refl _ _)
 obtain⟨⟨q0,q1,q2,q3,q4,q5,q6,q7,q8,q9,q10,q11⟩,z0,z1,z2,z3,z4,z5,z6,z7,z8,z9,z10,z11⟩:=c12p hx.1
 obtain⟨⟨d0,d1,d2,d3,d4,d5,d6,d7,d8,d9,d10,d11⟩,-⟩:=c12p hx.2.1
 have HXX:=hid hx
 clear hx
 go_wp2_with fail
 have hx8:=JZ HXX.out.1 (.int .i64 3) (.string c) (.string nm) sN sN iZ iZ tE iZ sN sN (.slice (some ⟨vb6,0,none⟩) 1 1)
 obtain⟨⟨y0,y1,y2,y3,y4,y5,y6,y7,y8,y9,y10,y11⟩,-⟩:=c12p hx8
 refine bodyPost_ret (v:= .agg (cN 3 c nm sN sN (.slice (some ⟨vb6,0,none⟩) 1 1))) (by simp[results,Tryz.results92,go_sem,y0,y1,y2,y3,y4,y5,y6,y7,y8,y9,y10,y11]) rfl ?_
 have hgp:=(GPr.mono HG.out (show W3.heap.size<=wn.heap.size by omega)).but HK6.out (by omega)
 have hnode:GPr W3.heap.size W6 (Pr.mk 3 c nm [] [] zT [p]) (.agg (cN 3 c nm sN sN (.slice (some ⟨vb6,0,none⟩) 1 1))):=GPr.node (t:=zT) HCZ.out (HNZ.out) (Jv _ _) (JK _ _) (YF _ _) (UH hvvb6 HXX.out.2.2 hgp)
 refine⟨⟨_,Pr.mk 3 c nm [] [] zT [p],rfl,⟨(hnode.put12 (by omega) (.int .i64 3) (.string c) (.string nm) sN sN iZ iZ tE iZ sN sN (.slice (some ⟨vb6,0,none⟩) 1 1)).mono (by omega),by intro h;cases h⟩,fun y hy=>by obtain⟨v',p',h1,h2,rfl⟩:=HE.out y hy;rw[HNV.out v' h1,HVp.out p' (HE2.out p' h2)]⟩,HP.out.oth (X:=w.heap.size) (fun j hj=>QN hj (.int .i64 3) (.string c) (.string nm) sN sN iZ iZ tE iZ sN sN (.slice (some ⟨vb6,0,none⟩) 1 1)) (QF _ _ (.int .i64 3) (.string c) (.string nm) sN sN iZ iZ tE iZ sN sN (.slice (some ⟨vb6,0,none⟩) 1 1)) hR HLA.out,HD.out.put12 lR (.int .i64 3) (.string c) (.string nm) sN sN iZ iZ tE iZ sN sN (.slice (some ⟨vb6,0,none⟩) 1 1)⟩
theorem Tg(R:Nat)(la:Option Addr)(all:List Tk)(E:Int)(c:ByteArray)(hc:c.size<=maxLen)(st:RS)(w:World)(h:RdIs R la all E st w)(S:List Tk->PR Pr)(n:Nat)(hS:ProR R la all E 66 S n)(hn:st.len<=n)(q0:stHd sBang st=false)(q1:stHd sAsk st=false)(q2:stHd sDot st=true):
 Calls Tryz.prog 92 #[.pointer (some ⟨R,0,none⟩),.string c] w (Red R la all E w (VG Qb S c) (Qa E (need sDot) st) (GPk w.heap.size)):=by
 have HS:=hid hS
 have HCZ:=hid hc
 obtain⟨t1,ht1⟩:∃t1,Qi st=t1:=⟨_,rfl⟩
 have k0:(t1.toList==[33])=false:=by rw[<-ht1];exact Qt q0
 have k1:(t1.toList==[63])=false:=by rw[<-ht1];exact Qt q1
 have k2:(t1.toList==[46])=true:=by rw[<-ht1];exact Qt q2
 have HT1:=hid ht1
 have htw:=Zt w (cN 0 ⟨#[]⟩ ⟨#[]⟩ sN sN sN) (cN 0 c ⟨#[]⟩ sN sN sN) 31 31
 obtain⟨W3,hW3⟩:∃W3,(w.alloc (.cells z12 31)).alloc (.cells (cN 0 c ⟨#[]⟩ sN sN sN) 31)=W3:=⟨_,rfl⟩
 rw[hW3] at htw
 have hR:R<w.heap.size:=h.lt
 have HLA:=hid h.la
 have hs3:w.heap.size+1<W3.heap.size:=(Array.getElem?_eq_some_iff.1 htw.2.1).1
 have HP:Hid (RdIs R la all E st W3):=hid (h.to htw.2.2)
 have HB:Hid (But R W3 W3):=hid (But.refl _ _)
 have HD:Hid (But R w W3):=hid (But.of htw.2.2)
 have HX:Hid (∀W,But R W3 W->Blk W w.heap.size z12 31/\Blk W (w.heap.size+1) (cN 0 c ⟨#[]⟩ sN sN sN) 31):=hid (fun W hW=>⟨(hW.block _ (by omega) (by omega)).trans htw.1,(hW.block _ (by omega) (by omega)).trans htw.2.1⟩)
 have HW3:=hid hW3
 obtain⟨hm1,hm2⟩:=WL E S c (Qa E (need sDot) st)
 obtain⟨hm3,hm4⟩:=UU E S (Qa E (Qk Qb) (Qa E (need sDot) st))
 unfold Red
 rw[hm1,hm3]
 have HE:=hid hm2
 have HE2:=hid hm4
 clear hm1 hm2 hm3 hm4
 have HLS:Hid ((Qa E (need sDot) (Qa E (Qk Qb) (Qa E (need sDot) st))).len<n):=hid (by have a:=JQ E q2;have b:=Xa E (Qa E (need sDot) st);have g:=Jr E sDot (Qa E (Qk Qb) (Qa E (need sDot) st));omega)
 clear hS hc hn h htw ht1 q0 q1 q2 hW3
 go_enter Tryz.func92,Tryz.ntmps92
 go_upto_region 2 with fail
 rw[HW3.out]
 go_upto_region 18 with(first|(go_at_call 58;refine(Xz HP HB HT1.out).mono ?_;rintro _ wn⟨rfl,HP,HB⟩)|(go_at_call 59;refine(Zs HP HB).mono ?_;rintro _ wn⟨rfl,HP,HB⟩))
 have hx:=(HX.out wn HB.out)
 have dc:=(c12p hx.2).1.1
 have dz:=(c12p hx.2).2.1
 go_upto_region 19 with fail
 obtain⟨W4,hW4⟩:∃W,wn.setCell ⟨w.heap.size+1,0,none⟩ (.int .i64 4)=W:=⟨_,rfl⟩
 rw[hW4]
 have hx:=HX.out wn HB.out
 have hsz:W3.heap.size<=wn.heap.size:=HB.out.size
 have hlt:w.heap.size+1<wn.heap.size:=lL hs3 hsz
 have hxn:Blk W4 w.heap.size z12 31/\W4.heap[w.heap.size+1]? =some (.cells (cN 4 c ⟨#[]⟩ sN sN sN) 31 (0,0)):=by
  rw[<-hW4]
  exact⟨(oth1 _ _ _ (by omega)).trans (hx.1),Qd (hx.2) 0 _⟩
 have hs4:w.heap.size+1<W4.heap.size:=gl0 hxn.2
 have hw34:W3.heap.size<=W4.heap.size:=by rw[<-hW4];simp only[World.setCell,Array.size_modify];omega
 have HPn:=hid (by rw[<-hW4];exact HP.out.set (X:=w.heap.size+1) (by omega) HLA.out (by omega) 0 (.int .i64 4):RdIs R la all E _ W4)
 have HDn:Hid (But R w W4):=hid (by rw[<-hW4];exact(HD.out.trans HB.out).setX (by omega) 0 _)
 have HXn:Hid (∀W,But R W4 W->Blk W w.heap.size z12 31/\Blk W (w.heap.size+1) (cN 4 c ⟨#[]⟩ sN sN sN) 31):=hid (fun W hW=>⟨(hW.block _ (gl0 hxn.1) (by omega)).trans hxn.1,(hW.block _ (gl0 hxn.2) (by omega)).trans hxn.2⟩)
 clear HP HB HD HX hW4 hx dc dz
 have HP:=HPn
 have HD:=HDn
 have HX:=HXn
 have HB:Hid (But R W4 W4):=hid (But.refl _ _)
 clear HPn HDn HXn hxn
 go_upto_region 44 with(go_at_call 60;refine(Ht HP HB).mono ?_;rintro _ wv⟨nm,rfl,HNZ,HNV,HP,HB⟩;have hx:=HX.out wv HB.out;have dc:=Yj (gl0 hx.2) (c12p hx.2).1.2.2.2.1;have dz:=ZI (gl0 hx.2) (c12p hx.2).2.2.2.2.1;clear hx)
 obtain⟨W5,hW5⟩:∃W,(wv.alloc (.cells #[.string nm] 9)).setCell ⟨w.heap.size+1,3,none⟩ (.slice (some ⟨wv.heap.size,0,none⟩) 1 1)=W:=⟨_,rfl⟩
 rw[hW5]
 have hx:=HX.out wv HB.out
 have hsz:W4.heap.size<=wv.heap.size:=HB.out.size
 have hlt:w.heap.size+1<wv.heap.size:=lL hs4 hsz
 have hb0:Below wv.heap.size wv (wv.alloc (.cells #[.string nm] 9)):=bR.alloc lR _
 have xb0:(wv.alloc (.cells #[.string nm] 9)).heap[wv.heap.size]? =some (.cells #[.string nm] 9 (0,0)):=World.alloc_heap_new _ _
 obtain⟨vb5,hvb5⟩:∃b,wv.heap.size=b:=⟨_,rfl⟩
 have HK5:Hid (But (w.heap.size+1) wv W5):=hid (by rw[<-hW5];exact((But.refl _ _).to hb0).set 3 _)
 have hxn:Blk W5 w.heap.size z12 31/\Blk W5 (w.heap.size+1) (cN 4 c ⟨#[]⟩ (.slice (some ⟨vb5,0,none⟩) 1 1) sN sN) 31/\W5.heap[vb5]? =some (.cells #[.string nm] 9 (0,0)):=by
  rw[<-hW5,hvb5]
  exact⟨(oth1 _ _ _ (by omega)).trans ((hb0.block _ (gl0 hx.1)).trans hx.1),Qd ((hb0.block _ (gl0 hx.2)).trans hx.2) 3 _,(oth1 _ _ _ (by omega)).trans (by rw[<-hvb5];exact xb0)⟩
 have hvvb5:W3.heap.size<=vb5/\vb5<W5.heap.size:=⟨by rw[<-hvb5];omega,gl0 hxn.2.2⟩
 have hs5:w.heap.size+1<W5.heap.size:=gl0 hxn.2.1
 have hw35:W3.heap.size<=W5.heap.size:=by rw[<-hW5];simp only[World.setCell,Array.size_modify];rw[World.size_alloc];omega
 have HPn:=hid (by rw[<-hW5];exact(HP.out.to hb0).set (X:=w.heap.size+1) (by omega) HLA.out (by omega) 3 (.slice (some ⟨wv.heap.size,0,none⟩) 1 1):RdIs R la all E _ W5)
 have HDn:Hid (But R w W5):=hid (by rw[<-hW5];exact((HD.out.trans HB.out).to hb0).setX (by omega) 3 _)
 have HXn:Hid (∀W,But R W5 W->Blk W w.heap.size z12 31/\Blk W (w.heap.size+1) (cN 4 c ⟨#[]⟩ (.slice (some ⟨vb5,0,none⟩) 1 1) sN sN) 31/\Blk W vb5 #[.string nm] 9):=hid (fun W hW=>⟨(hW.block _ (gl0 hxn.1) (by omega)).trans hxn.1,(hW.block _ (gl0 hxn.2.1) (by omega)).trans hxn.2.1,(hW.block _ (gl0 hxn.2.2) (by omega)).trans hxn.2.2⟩)
 rw[hvb5]
 clear HP HB HD HX hW5 hx dc dz hb0 xb0 hvb5
 have HP:=HPn
 have HD:=HDn
 have HX:=HXn
 have HB:Hid (But R W5 W5):=hid (But.refl _ _)
 clear HPn HDn HXn hxn
 go_upto_region 45 with(go_at_call 59;refine(Zs HP HB).mono ?_;rintro _ wn⟨rfl,HP,HB⟩)
 go_upto_region 46 with(go_at_call 66;have hwn:W5.heap.size<=wn.heap.size:=HB.out.size;refine(Ri HS.out HLS.out HP HB).mono ?_;rintro _ ws⟨p,la',ln,lc,aa,an,ac,ta,tn,tc,ua,un,uc,ka,kn,kc,rfl,HG,HVp,HP,HB⟩;have hx:=HX.out ws HB.out;have dc:=Yj (gl0 hx.2.1) (c12p hx.2.1).1.2.2.2.2.2.2.2.2.2.2.2;have dz:=ZI (gl0 hx.2.1) (c12p hx.2.1).2.2.2.2.2.2.2.2.2.2.2.2;clear hx)
 obtain⟨W6,hW6⟩:∃W,(ws.alloc (.cells (gP p la' ln lc aa an ac ta tn tc ua un uc ka kn kc) 31)).setCell ⟨w.heap.size+1,11,none⟩ (.slice (some ⟨ws.heap.size,0,none⟩) 1 1)=W:=⟨_,rfl⟩
 rw[hW6]
 have hx:=HX.out ws HB.out
 have hsz:W5.heap.size<=ws.heap.size:=HB.out.size
 have hlt:w.heap.size+1<ws.heap.size:=lL hs5 hsz
 have hb0:Below ws.heap.size ws (ws.alloc (.cells (gP p la' ln lc aa an ac ta tn tc ua un uc ka kn kc) 31)):=bR.alloc lR _
 have xb0:(ws.alloc (.cells (gP p la' ln lc aa an ac ta tn tc ua un uc ka kn kc) 31)).heap[ws.heap.size]? =some (.cells (gP p la' ln lc aa an ac ta tn tc ua un uc ka kn kc) 31 (0,0)):=World.alloc_heap_new _ _
 obtain⟨vb6,hvb6⟩:∃b,ws.heap.size=b:=⟨_,rfl⟩
 have HK6:Hid (But (w.heap.size+1) ws W6):=hid (by rw[<-hW6];exact((But.refl _ _).to hb0).set 11 _)
 have hxn:Blk W6 w.heap.size z12 31/\Blk W6 (w.heap.size+1) (cN 4 c ⟨#[]⟩ (.slice (some ⟨vb5,0,none⟩) 1 1) sN (.slice (some ⟨vb6,0,none⟩) 1 1)) 31/\Blk W6 vb5 #[.string nm] 9/\W6.heap[vb6]? =some (.cells (gP p la' ln lc aa an ac ta tn tc ua un uc ka kn kc) 31 (0,0)):=by
  rw[<-hW6,hvb6]
  exact⟨(oth1 _ _ _ (by omega)).trans ((hb0.block _ (gl0 hx.1)).trans hx.1),Qd ((hb0.block _ (gl0 hx.2.1)).trans hx.2.1) 11 _,(oth1 _ _ _ (by omega)).trans ((hb0.block _ (gl0 hx.2.2)).trans hx.2.2),(oth1 _ _ _ (by omega)).trans (by rw[<-hvb6];exact xb0)⟩
 have hvvb6:W3.heap.size<=vb6/\vb6<W6.heap.size:=⟨by rw[<-hvb6];omega,gl0 hxn.2.2.2⟩
 have hs6:w.heap.size+1<W6.heap.size:=gl0 hxn.2.1
 have hw36:W3.heap.size<=W6.heap.size:=by rw[<-hW6];simp only[World.setCell,Array.size_modify];rw[World.size_alloc];omega
 have HPn:=hid (by rw[<-hW6];exact(HP.out.to hb0).set (X:=w.heap.size+1) (by omega) HLA.out (by omega) 11 (.slice (some ⟨ws.heap.size,0,none⟩) 1 1):RdIs R la all E _ W6)
 have HDn:Hid (But R w W6):=hid (by rw[<-hW6];exact((HD.out.trans HB.out).to hb0).setX (by omega) 11 _)
 have HXn:Hid (∀W,But R W6 W->Blk W w.heap.size z12 31/\Blk W (w.heap.size+1) (cN 4 c ⟨#[]⟩ (.slice (some ⟨vb5,0,none⟩) 1 1) sN (.slice (some ⟨vb6,0,none⟩) 1 1)) 31/\Blk W vb5 #[.string nm] 9/\W.heap[vb6]? =some (.cells (gP p la' ln lc aa an ac ta tn tc ua un uc ka kn kc) 31 (0,0))):=hid (fun W hW=>⟨(hW.block _ (gl0 hxn.1) (by omega)).trans hxn.1,(hW.block _ (gl0 hxn.2.1) (by omega)).trans hxn.2.1,(hW.block _ (gl0 hxn.2.2.1) (by omega)).trans hxn.2.2.1,(hW.block _ (gl0 hxn.2.2.2) (by omega)).trans hxn.2.2.2⟩)
 rw[hvb6]
 clear HP HB HD HX hW6 hx dc dz hb0 xb0 hvb6
 have HP:=HPn
 have HD:=HDn
 have HX:=HXn
 have HB:Hid (But R W6 W6):=hid (But.refl _ _)
 clear HPn HDn HXn hxn
 have hx:=HX.out W6 (But.refl _ _)
 obtain⟨⟨q0,q1,q2,q3,q4,q5,q6,q7,q8,q9,q10,q11⟩,z0,z1,z2,z3,z4,z5,z6,z7,z8,z9,z10,z11⟩:=c12p hx.1
 obtain⟨⟨d0,d1,d2,d3,d4,d5,d6,d7,d8,d9,d10,d11⟩,-⟩:=c12p hx.2.1
 have HXX:=hid hx
 clear hx
 go_wp2_with fail
 have hx8:=JZ HXX.out.1 (.int .i64 4) (.string c) tE (.slice (some ⟨vb5,0,none⟩) 1 1) sN iZ iZ tE iZ sN sN (.slice (some ⟨vb6,0,none⟩) 1 1)
 obtain⟨⟨y0,y1,y2,y3,y4,y5,y6,y7,y8,y9,y10,y11⟩,-⟩:=c12p hx8
 refine bodyPost_ret (v:= .agg (cN 4 c ⟨#[]⟩ (.slice (some ⟨vb5,0,none⟩) 1 1) sN (.slice (some ⟨vb6,0,none⟩) 1 1))) (by simp[results,Tryz.results92,go_sem,y0,y1,y2,y3,y4,y5,y6,y7,y8,y9,y10,y11]) rfl ?_
 have hgp:=(GPr.mono HG.out (show W3.heap.size<=wn.heap.size by omega)).but HK6.out (by omega)
 have hnode:GPr W3.heap.size W6 (Pr.mk 4 c ⟨#[]⟩ [nm] [] zT [p]) (.agg (cN 4 c ⟨#[]⟩ (.slice (some ⟨vb5,0,none⟩) 1 1) sN (.slice (some ⟨vb6,0,none⟩) 1 1))):=GPr.node (t:=zT) HCZ.out (Nat.zero_le _) (WD ⟨hvvb5.1,gl0 HXX.out.2.2.1⟩ HXX.out.2.2.1 HNZ.out) (JK _ _) (YF _ _) (UH hvvb6 HXX.out.2.2.2 hgp)
 refine⟨⟨_,Pr.mk 4 c ⟨#[]⟩ [nm] [] zT [p],rfl,⟨(hnode.put12 (by omega) (.int .i64 4) (.string c) tE (.slice (some ⟨vb5,0,none⟩) 1 1) sN iZ iZ tE iZ sN sN (.slice (some ⟨vb6,0,none⟩) 1 1)).mono (by omega),by intro h;cases h⟩,fun y hy=>by obtain⟨v',p',h1,h2,rfl⟩:=HE.out y hy;rw[HNV.out v' h1,HVp.out p' (HE2.out p' h2)]⟩,HP.out.oth (X:=w.heap.size) (fun j hj=>QN hj (.int .i64 4) (.string c) tE (.slice (some ⟨vb5,0,none⟩) 1 1) sN iZ iZ tE iZ sN sN (.slice (some ⟨vb6,0,none⟩) 1 1)) (QF _ _ (.int .i64 4) (.string c) tE (.slice (some ⟨vb5,0,none⟩) 1 1) sN iZ iZ tE iZ sN sN (.slice (some ⟨vb6,0,none⟩) 1 1)) hR HLA.out,HD.out.put12 lR (.int .i64 4) (.string c) tE (.slice (some ⟨vb5,0,none⟩) 1 1) sN iZ iZ tE iZ sN sN (.slice (some ⟨vb6,0,none⟩) 1 1)⟩
theorem dead{α:Type}(E err:Int)(F:List Tk->PR α)(st:RS):Qa E F (XD E err st)=XD E err st:=by cases st <;> rfl
theorem SK(E err:Int)(st:RS):(XD E err st).len=0:=by cases st <;> rfl
theorem LX(E:Int)(g:Nat)(c:ByteArray){st:RS}(h:stHd Yp st=false):Qa E (ZE Qb g c) st=XD E 1 st/\Qj (ZE Qb g c) st=none:=by
 match st with
 | .inr z=>exact⟨rfl,rfl⟩
 | .inl ts=>
  have hh:need Yp ts= .bad 1 ts:=if_neg (by rw[show hd Yp ts=false from h];simp)
  have e:ZE Qb g c ts= .bad 1 ts:=by unfold ZE;rw[hh];rfl
  exact⟨QE E e,JM e⟩
theorem WY(R:Nat)(la:Option Addr)(all:List Tk)(E:Int)(g:Nat)(c:ByteArray)(hc:c.size<=maxLen)(st:RS)(w:World)(h:RdIs R la all E st w)(S:List Tk->PR Pr)(n:Nat)(hS:ProR R la all E 66 S n)(hn0:0<n)(q0:stHd sBang st=false)(q1:stHd sAsk st=false)(q2:stHd sDot st=false)(q3:stHd sAnd st=false)(q4:stHd Yp st=false):
 Calls Tryz.prog 92 #[.pointer (some ⟨R,0,none⟩),.string c] w (Red R la all E w (ZE Qb g c) (st) (GPk w.heap.size)):=by
 have HS:=hid hS
 have HCZ:=hid hc
 obtain⟨t1,ht1⟩:∃t1,Qi st=t1:=⟨_,rfl⟩
 have k0:(t1.toList==[33])=false:=by rw[<-ht1];exact Qt q0
 have k1:(t1.toList==[63])=false:=by rw[<-ht1];exact Qt q1
 have k2:(t1.toList==[46])=false:=by rw[<-ht1];exact Qt q2
 have k3:(t1.toList==[38])=false:=by rw[<-ht1];exact Qt q3
 have k4:(t1.toList==[60])=false:=by rw[<-ht1];exact Qt q4
 have HT1:=hid ht1
 have htw:=Zt w (cN 0 ⟨#[]⟩ ⟨#[]⟩ sN sN sN) (cN 0 c ⟨#[]⟩ sN sN sN) 31 31
 obtain⟨W3,hW3⟩:∃W3,(w.alloc (.cells z12 31)).alloc (.cells (cN 0 c ⟨#[]⟩ sN sN sN) 31)=W3:=⟨_,rfl⟩
 rw[hW3] at htw
 have hR:R<w.heap.size:=h.lt
 have HLA:=hid h.la
 have hs3:w.heap.size+1<W3.heap.size:=(Array.getElem?_eq_some_iff.1 htw.2.1).1
 have HP:Hid (RdIs R la all E st W3):=hid (h.to htw.2.2)
 have HB:Hid (But R W3 W3):=hid (But.refl _ _)
 have HD:Hid (But R w W3):=hid (But.of htw.2.2)
 have HX:Hid (∀W,But R W3 W->Blk W w.heap.size z12 31/\Blk W (w.heap.size+1) (cN 0 c ⟨#[]⟩ sN sN sN) 31):=hid (fun W hW=>⟨(hW.block _ (by omega) (by omega)).trans htw.1,(hW.block _ (by omega) (by omega)).trans htw.2.1⟩)
 have HW3:=hid hW3
 obtain⟨hm1,hm2⟩:=LX E g c q4
 unfold Red
 rw[hm1,hm2]
 have HLS:Hid ((Qa E (need sDot) (XD E 1 st)).len<n):=hid (by rw[dead,SK];exact hn0)
 clear hS hc hn0 h htw ht1 q0 q1 q2 q3 q4 hW3 hm1 hm2
 go_enter Tryz.func92,Tryz.ntmps92
 go_upto_region 2 with fail
 rw[HW3.out]
 go_upto_region 45 with(first|(go_at_call 58;refine(Xz HP HB HT1.out).mono ?_;rintro _ wn⟨rfl,HP,HB⟩)|(go_at_call 61;refine(failH 1 (by decide) HP HB).mono ?_;rintro _ wn⟨rfl,HP,HB⟩)|(go_at_call 59;refine(Zs HP HB).mono ?_;rintro _ wn⟨rfl,HP,HB⟩))
 go_upto_region 46 with(go_at_call 66;have hwn:W3.heap.size<=wn.heap.size:=HB.out.size;refine(Ri HS.out HLS.out HP HB).mono ?_;rintro _ ws⟨p,la',ln,lc,aa,an,ac,ta,tn,tc,ua,un,uc,ka,kn,kc,rfl,HG,HVp,HP,HB⟩;have hx:=HX.out ws HB.out;have dc:=Yj (gl0 hx.2) (c12p hx.2).1.2.2.2.2.2.2.2.2.2.2.2;have dz:=ZI (gl0 hx.2) (c12p hx.2).2.2.2.2.2.2.2.2.2.2.2.2;clear hx)
 obtain⟨W4,hW4⟩:∃W,(ws.alloc (.cells (gP p la' ln lc aa an ac ta tn tc ua un uc ka kn kc) 31)).setCell ⟨w.heap.size+1,11,none⟩ (.slice (some ⟨ws.heap.size,0,none⟩) 1 1)=W:=⟨_,rfl⟩
 rw[hW4]
 have hx:=HX.out ws HB.out
 have hsz:W3.heap.size<=ws.heap.size:=HB.out.size
 have hlt:w.heap.size+1<ws.heap.size:=lL hs3 hsz
 have hb0:Below ws.heap.size ws (ws.alloc (.cells (gP p la' ln lc aa an ac ta tn tc ua un uc ka kn kc) 31)):=bR.alloc lR _
 have xb0:(ws.alloc (.cells (gP p la' ln lc aa an ac ta tn tc ua un uc ka kn kc) 31)).heap[ws.heap.size]? =some (.cells (gP p la' ln lc aa an ac ta tn tc ua un uc ka kn kc) 31 (0,0)):=World.alloc_heap_new _ _
 obtain⟨vb4,hvb4⟩:∃b,ws.heap.size=b:=⟨_,rfl⟩
 have HK4:Hid (But (w.heap.size+1) ws W4):=hid (by rw[<-hW4];exact((But.refl _ _).to hb0).set 11 _)
 have hxn:Blk W4 w.heap.size z12 31/\Blk W4 (w.heap.size+1) (cN 0 c ⟨#[]⟩ sN sN (.slice (some ⟨vb4,0,none⟩) 1 1)) 31/\W4.heap[vb4]? =some (.cells (gP p la' ln lc aa an ac ta tn tc ua un uc ka kn kc) 31 (0,0)):=by
  rw[<-hW4,hvb4]
  exact⟨(oth1 _ _ _ (by omega)).trans ((hb0.block _ (gl0 hx.1)).trans hx.1),Qd ((hb0.block _ (gl0 hx.2)).trans hx.2) 11 _,(oth1 _ _ _ (by omega)).trans (by rw[<-hvb4];exact xb0)⟩
 have hvvb4:W3.heap.size<=vb4/\vb4<W4.heap.size:=⟨by rw[<-hvb4];omega,gl0 hxn.2.2⟩
 have hs4:w.heap.size+1<W4.heap.size:=gl0 hxn.2.1
 have hw34:W3.heap.size<=W4.heap.size:=by rw[<-hW4];simp only[World.setCell,Array.size_modify];rw[World.size_alloc];omega
 have HPn:=hid (by rw[<-hW4];exact(HP.out.to hb0).set (X:=w.heap.size+1) (by omega) HLA.out (by omega) 11 (.slice (some ⟨ws.heap.size,0,none⟩) 1 1):RdIs R la all E _ W4)
 have HDn:Hid (But R w W4):=hid (by rw[<-hW4];exact((HD.out.trans HB.out).to hb0).setX (by omega) 11 _)
 have HXn:Hid (∀W,But R W4 W->Blk W w.heap.size z12 31/\Blk W (w.heap.size+1) (cN 0 c ⟨#[]⟩ sN sN (.slice (some ⟨vb4,0,none⟩) 1 1)) 31/\W.heap[vb4]? =some (.cells (gP p la' ln lc aa an ac ta tn tc ua un uc ka kn kc) 31 (0,0))):=hid (fun W hW=>⟨(hW.block _ (gl0 hxn.1) (by omega)).trans hxn.1,(hW.block _ (gl0 hxn.2.1) (by omega)).trans hxn.2.1,(hW.block _ (gl0 hxn.2.2) (by omega)).trans hxn.2.2⟩)
 rw[hvb4]
 clear HP HB HD HX hW4 hx dc dz hb0 xb0 hvb4
 have HP:=HPn
 have HD:=HDn
 have HX:=HXn
 have HB:Hid (But R W4 W4):=hid (But.refl _ _)
 clear HPn HDn HXn hxn
 have hx:=HX.out W4 (But.refl _ _)
 obtain⟨⟨q0,q1,q2,q3,q4,q5,q6,q7,q8,q9,q10,q11⟩,z0,z1,z2,z3,z4,z5,z6,z7,z8,z9,z10,z11⟩:=c12p hx.1
 obtain⟨⟨d0,d1,d2,d3,d4,d5,d6,d7,d8,d9,d10,d11⟩,-⟩:=c12p hx.2.1
 have HXX:=hid hx
 clear hx
 go_wp2_with fail
 have hx8:=JZ HXX.out.1 iZ (.string c) tE sN sN iZ iZ tE iZ sN sN (.slice (some ⟨vb4,0,none⟩) 1 1)
 obtain⟨⟨y0,y1,y2,y3,y4,y5,y6,y7,y8,y9,y10,y11⟩,-⟩:=c12p hx8
 refine bodyPost_ret (v:= .agg (cN 0 c ⟨#[]⟩ sN sN (.slice (some ⟨vb4,0,none⟩) 1 1))) (by simp[results,Tryz.results92,go_sem,y0,y1,y2,y3,y4,y5,y6,y7,y8,y9,y10,y11]) rfl ?_
 have hgp:=(GPr.mono HG.out (show W3.heap.size<=wn.heap.size by omega)).but HK4.out (by omega)
 have hnode:GPr W3.heap.size W4 (Pr.mk 0 c ⟨#[]⟩ [] [] zT [p]) (.agg (cN 0 c ⟨#[]⟩ sN sN (.slice (some ⟨vb4,0,none⟩) 1 1))):=GPr.node (t:=zT) HCZ.out (Nat.zero_le _) (Jv _ _) (JK _ _) (YF _ _) (UH hvvb4 HXX.out.2.2 hgp)
 have HPF:Hid (RdIs R la all E (XD E 1 st) W4):=hid (by have h:=HP.out;rw[dead,dead] at h;exact h)
 refine⟨⟨_,Pr.mk 0 c ⟨#[]⟩ [] [] zT [p],rfl,⟨(hnode.put12 (by omega) iZ (.string c) tE sN sN iZ iZ tE iZ sN sN (.slice (some ⟨vb4,0,none⟩) 1 1)).mono (by omega),by intro h;cases h⟩,fun y hy=>by cases hy⟩,HPF.out.oth (X:=w.heap.size) (fun j hj=>QN hj iZ (.string c) tE sN sN iZ iZ tE iZ sN sN (.slice (some ⟨vb4,0,none⟩) 1 1)) (QF _ _ iZ (.string c) tE sN sN iZ iZ tE iZ sN sN (.slice (some ⟨vb4,0,none⟩) 1 1)) hR HLA.out,HD.out.put12 lR iZ (.string c) tE sN sN iZ iZ tE iZ sN sN (.slice (some ⟨vb4,0,none⟩) 1 1)⟩
theorem SO(E:Int)(P:List Tk->PR Pr)(g:Nat)(c:ByteArray)(st:RS):Qa E (VI Qb P g c) st=Qa E (need sKet) (Qa E (QP (QX Qb P) g) (Qa E (need sBra) st))/\
 ∀y,Qj (VI Qb P g c) st=some y->∃l,Qj (QP (QX Qb P) g) (Qa E (need sBra) st)=some l/\Pr.mk 5 c ⟨#[]⟩ (l.map (·.1)) [] zT (l.map (·.2))=y:=by
 have hc:∀st,Qa E (Ys Qb P g) st=Qa E (need sKet) (Qa E (QP (QX Qb P) g) (Qa E (need sBra) st)):=fun st=>
  Qg (X:=fun s=>Qa E (need sKet) (Qa E (QP (QX Qb P) g) s)) (fun _=>Qg (X:=fun s=>Qa E (need sKet) s) (fun l=>Qg (X:=fun s=>s) (fun _=>QU _ _ _) (fun _=>rfl)) (fun _=>rfl)) (fun _=>rfl)
 constructor
 ·exact(Qg (X:=fun s=>s) (fun l=>QU _ _ _) (fun _=>rfl)).trans (hc _)
 ·intro y hy
  obtain⟨l,h3,h4⟩:=Qh E hy
  obtain⟨_,_,h6⟩:=Qh E h3
  obtain⟨m,h7,h8⟩:=Qh E h6
  obtain⟨_,_,h10⟩:=Qh E h8
  obtain rfl:m=l:=Jq h10
  exact⟨m,h7,Jq h4⟩
abbrev Nk:List (Nat×Option Tmp):=[(0,some 58),(1,some 59),(2,some 60),(3,some 61),(4,some 62),(5,some 63),(6,some 64),(7,none)]
abbrev Nj:List (Nat×Option Tmp):=[(0,some 67),(1,some 68),(2,some 69),(3,some 70),(4,some 71),(5,some 72),(6,some 73),(7,none)]
theorem Ti(R:Nat)(la:Option Addr)(all:List Tk)(E:Int)(c:ByteArray)(hc:c.size<=maxLen)(st:RS)(w:World)(h:RdIs R la all E st w)(P:List Tk->PR Pr)(n g:Nat)(hS:ProR R la all E 33 P n)(hP:Qr P)(hg:st.len<=g)(hn:st.len<=n)(q0:stHd sBang st=false)(q1:stHd sAsk st=false)(q2:stHd sDot st=false)(q3:stHd sAnd st=true):
 Calls Tryz.prog 92 #[.pointer (some ⟨R,0,none⟩),.string c] w (Red R la all E w (VI Qb P g c) (Qa E (need sAnd) st) (GPk w.heap.size)):=by
 have HS:=hid hS
 have HCZ:=hid hc
 obtain⟨t1,ht1⟩:∃t1,Qi st=t1:=⟨_,rfl⟩
 have k0:(t1.toList==[33])=false:=by rw[<-ht1];exact Qt q0
 have k1:(t1.toList==[63])=false:=by rw[<-ht1];exact Qt q1
 have k2:(t1.toList==[46])=false:=by rw[<-ht1];exact Qt q2
 have k3:(t1.toList==[38])=true:=by rw[<-ht1];exact Qt q3
 have HT1:=hid ht1
 have htw:=Zt w (cN 0 ⟨#[]⟩ ⟨#[]⟩ sN sN sN) (cN 0 c ⟨#[]⟩ sN sN sN) 31 31
 obtain⟨W3,hW3⟩:∃W3,(w.alloc (.cells z12 31)).alloc (.cells (cN 0 c ⟨#[]⟩ sN sN sN) 31)=W3:=⟨_,rfl⟩
 rw[hW3] at htw
 have hR:R<w.heap.size:=h.lt
 have HLA:=hid h.la
 have hs3:w.heap.size+1<W3.heap.size:=(Array.getElem?_eq_some_iff.1 htw.2.1).1
 have HP:Hid (RdIs R la all E st W3):=hid (h.to htw.2.2)
 have HB:Hid (But R W3 W3):=hid (But.refl _ _)
 have HD:Hid (But R w W3):=hid (But.of htw.2.2)
 have HX:Hid (∀W,But R W3 W->Blk W w.heap.size z12 31/\Blk W (w.heap.size+1) (cN 0 c ⟨#[]⟩ sN sN sN) 31):=hid (fun W hW=>⟨(hW.block _ (by omega) (by omega)).trans htw.1,(hW.block _ (by omega) (by omega)).trans htw.2.1⟩)
 have HW3:=hid hW3
 obtain⟨hm1,hm2⟩:=SO E P g c (Qa E (need sAnd) st)
 unfold Red
 rw[hm1]
 have HSH:=hid hP
 obtain⟨st0,hst0⟩:∃st0,Qa E (need sBra) (Qa E (need sAnd) st)=st0:=⟨_,rfl⟩
 have hl0:st0.len<n/\st0.len<g:=by rw[<-hst0];have a:=JQ E q3;have b:=Jr E sBra (Qa E (need sAnd) st);omega
 rw[hst0] at hm2 |-
 have HE:Hid (∀y,Qj (VI Qb P g c) (Qa E (need sAnd) st)=some y->∃l,Qj (QP (QX Qb P) g) st0=some l/\Pr.mk 5 c ⟨#[]⟩ (l.map (·.1)) [] zT (l.map (·.2))=y):=hid hm2
 have HL0:=hid hl0
 have HST0:=hid hst0
 clear hS hc hn hg hP h htw ht1 q0 q1 q2 q3 hW3 hm1 hm2 hst0 hl0
 go_enter Tryz.func92,Tryz.ntmps92
 go_upto_region 2 with fail
 rw[HW3.out]
 go_upto_region 23 with(first|(go_at_call 58;refine(Xz HP HB HT1.out).mono ?_;rintro _ wn⟨rfl,HP,HB⟩)|(go_at_call 59;refine(Zs HP HB).mono ?_;rintro _ wn⟨rfl,HP,HB⟩))
 have hx:=(HX.out wn HB.out)
 have dc:=(c12p hx.2).1.1
 have dz:=(c12p hx.2).2.1
 go_upto_region 24 with fail
 obtain⟨W4,hW4⟩:∃W,wn.setCell ⟨w.heap.size+1,0,none⟩ (.int .i64 5)=W:=⟨_,rfl⟩
 rw[hW4]
 have hx:=HX.out wn HB.out
 have hsz:W3.heap.size<=wn.heap.size:=HB.out.size
 have hlt:w.heap.size+1<wn.heap.size:=lL hs3 hsz
 have hxn:Blk W4 w.heap.size z12 31/\W4.heap[w.heap.size+1]? =some (.cells (cN 5 c ⟨#[]⟩ sN sN sN) 31 (0,0)):=by
  rw[<-hW4]
  exact⟨(oth1 _ _ _ (by omega)).trans (hx.1),Qd (hx.2) 0 _⟩
 have hs4:w.heap.size+1<W4.heap.size:=gl0 hxn.2
 have hw34:W3.heap.size<=W4.heap.size:=by rw[<-hW4];simp only[World.setCell,Array.size_modify];omega
 have HPn:=hid (by rw[<-hW4];exact HP.out.set (X:=w.heap.size+1) (by omega) HLA.out (by omega) 0 (.int .i64 5):RdIs R la all E _ W4)
 have HDn:Hid (But R w W4):=hid (by rw[<-hW4];exact(HD.out.trans HB.out).setX (by omega) 0 _)
 have HXn:Hid (∀W,But R W4 W->Blk W w.heap.size z12 31/\Blk W (w.heap.size+1) (cN 5 c ⟨#[]⟩ sN sN sN) 31):=hid (fun W hW=>⟨(hW.block _ (gl0 hxn.1) (by omega)).trans hxn.1,(hW.block _ (gl0 hxn.2) (by omega)).trans hxn.2⟩)
 clear HP HB HD HX hW4 hx dc dz
 have HP:=HPn
 have HD:=HDn
 have HX:=HXn
 have HB:Hid (But R W4 W4):=hid (But.refl _ _)
 clear HPn HDn HXn hxn
 have HPn:Hid (RdIs R la all E st0 W4):=hid (by rw[<-HST0.out];exact HP.out)
 clear HP
 have HP:=HPn
 clear HPn HST0
 have HX4:=hid (HX.out W4 (But.refl _ _))
 have hR3:R<W4.heap.size:=by omega
 have hXR:w.heap.size+1≠R:=by omega
 have hXW:w.heap.size<=w.heap.size+1:=by omega
 have hWR:w.heap.size≠R:=by omega
 have HW14:Hid (w.heap.size<=W4.heap.size/\w.heap.size<=W4.heap.size):=hid (by omega)
 clear HX
 go_loopw [] (fun wr=>∃(ls:List ByteArray) (us:List Pr) (vs:List Value) (xa:Option Addr) (xn xc:Nat) (ya:Option Addr) (yn yc:Nat) (g2:Nat) (st2:RS),Hid (Blk wr ((w.heap.size+1)) (cN 5 c ⟨#[]⟩ (.slice xa xn xc) sN (.slice ya yn yc)) 31)/\Hid (GRow 9 1 W4.heap.size wr (.slice xa xn xc) (ls.map Jc))/\Hid (LRow 31 12 W4.heap.size (fun B w v t=>PrVal B w v t) (Jt (w.heap.size+1) (.slice xa xn xc)) wr (.slice ya yn yc) vs us)/\Hid (RdIs R la all E st2 wr)/\Hid (But R w wr)/\Hid (LabLeft E P g st0 ls us g2 st2)/\Hid (∀s∈ls,s.size<=maxLen)/\Hid (ls.length+st2.len<=1000001)/\Hid (st2.len<n)/\Hid (W4.heap.size<=wr.heap.size)/\Hid (Blk wr w.heap.size z12 31)) (fun wr=>lenW R all wr)
 case atStart=>
  exact⟨[],[],[],_,_,_,_,_,_,g,st0,hid HX4.out.2,hid (GRow.nil _ _ _ _),hid (LRow.nil _ _ _ _ _ _),HP,HD,hid (LabLeft.start E _ g st0 HL0.out.2),hid (fun s hs=>by cases hs),hid (by have:=HP.out.len_le;show 0+st0.len<=_;omega),hid HL0.out.1,hid lR,hid HX4.out.1⟩
 case round=>
  obtain⟨ls,us,vs,xa,xn,xc,ya,yn,yc,g2,st2,HBOX,HGR,HLR,HPa,HBo,HLL,HLZ,HLN,HLG,HWV,HZ0⟩:=hrel
  rename World=>V0
  clear HP HB HD HX4
  have hlv:(w.heap.size+1)<V0.heap.size:=gl0 HBOX.out
  have hls:=HLN.out
  have HLSZ:Hid (ls.length<=1000001):=hid (by omega)
  clear hls
  match st2,HPa,HLL,HLN,HLG with
  | .inr z,HPa,HLL,HLN,HLG=>
   obtain⟨er,y3,hne⟩:∃er:Int,V0.cell? ⟨R,3,none⟩=some (.int .i64 er)/\(er==0)=false:=by
    obtain⟨e0,p0⟩:=z
    obtain⟨cap,a,p,e,hx,_,_,he,_,hn⟩:=HPa.out
    exact⟨e,(c5 hx).1.2.2.2.1,by rw[he];simpa using hn⟩
   have HEND:=hid HLL.out.err.1
   have HVL:=hid HLL.out.err.2
   have HUS:=hid HLL.out.len
   go_upto_region 31 with(go_at_call 59;refine(QD R _ all E _ (by decide+kernel) _ _ HPa.out).mono ?_;rintro en wz⟨rfl,hp,hb⟩;have HP:=hid hp;have HC:=hid hb;clear hp hb)
   have hx3:=(HC.out.block (w.heap.size+1) hlv hXR).trans HBOX.out
   obtain⟨⟨d0,d1,d2,d3,d4,d5,d6,d7,d8,d9,d10,d11⟩,-⟩:=c12p hx3
   clear hx3
   have hx9:=(HC.out.block w.heap.size (gl0 HZ0.out) (by omega)).trans HZ0.out
   obtain⟨⟨q0,q1,q2,q3,q4,q5,q6,q7,q8,q9,q10,q11⟩,z0,z1,z2,z3,z4,z5,z6,z7,z8,z9,z10,z11⟩:=c12p hx9
   have HX9:=hid hx9
   clear hx9
   go_wp2_with fail
   have hgr:GRow 9 1 W4.heap.size wz (.slice xa xn xc) ((ls).map Jc):=HGR.out.kept (fun j hj=>HC.out.block j (HGR.out.lt j hj).2 (by have:=(HGR.out.lt j hj).1;omega))
   have hlr:=HLR.out.frame lyPr (HC.out.o _) hR3 (O':=fun _=>False) (fun _ h=>h.elim)
   have hlen:=HLSZ.out
   have hlus:=HUS.out
   have hnode:GPr W4.heap.size wz (.mk 5 c ⟨#[]⟩ (ls) [] zT (us)) (.agg (cN 5 c ⟨#[]⟩ (.slice xa xn xc) sN (.slice ya yn yc))):=GPr.node (t:=zT) HCZ.out (Nat.zero_le _) (StrSl.mono (fun j hj=>⟨hj.1,hj.2.1⟩) (hgr.texts (by unfold maxLen;omega) HLZ.out)) (JK _ _) (YF _ _) (PrSl.mono (fun j hj=>⟨hj.1,hj.2.1⟩) (hlr.prs (by unfold maxLen;omega)))
   have HPn:Hid (RdIs R la all E (Qa E (need sKet) (Qa E (QP (QX Qb P) g) st0)) wz):=hid (by rw[HEND.out];exact HP.out)
   have hx8:=JZ HX9.out (.int .i64 5) (.string c) tE (.slice xa xn xc) sN iZ iZ tE iZ sN sN (.slice ya yn yc)
   obtain⟨⟨y0,y1,y2,y3,y4,y5,y6,y7,y8,y9,y10,y11⟩,-⟩:=c12p hx8
   refine bodyPost_ret (v:= .agg (cN 5 c ⟨#[]⟩ (.slice xa xn xc) sN (.slice ya yn yc))) (by simp[results,Tryz.results92,go_sem,y0,y1,y2,y3,y4,y5,y6,y7,y8,y9,y10,y11]) rfl ?_
   refine⟨⟨_,.mk 5 c ⟨#[]⟩ (ls) [] zT (us),rfl,⟨(hnode.put12 (by omega) (.int .i64 5) (.string c) tE (.slice xa xn xc) sN iZ iZ tE iZ sN sN (.slice ya yn yc)).mono (by omega),by intro h;cases h⟩,fun y hy=>by obtain⟨l,h2,rfl⟩:=HE.out y hy;rw[(HVL.out l h2).1,(HVL.out l h2).2]⟩,HPn.out.oth (X:=w.heap.size) (fun j hj=>QN hj (.int .i64 5) (.string c) tE (.slice xa xn xc) sN iZ iZ tE iZ sN sN (.slice ya yn yc)) (QF _ _ (.int .i64 5) (.string c) tE (.slice xa xn xc) sN iZ iZ tE iZ sN sN (.slice ya yn yc)) hR HLA.out,(HBo.out.trans HC.out).put12 lR (.int .i64 5) (.string c) tE (.slice xa xn xc) sN iZ iZ tE iZ sN sN (.slice ya yn yc)⟩
  | .inl ts2,HPa,HLL,HLN,HLG=>
   obtain⟨y3,y4⟩:V0.cell? ⟨R,3,none⟩=some iZ/\True:=by
    obtain⟨cap,a,p,e,hx,_,_,rfl,_⟩:=HPa.out
    exact⟨(c5 hx).1.2.2.2.1,trivial⟩
   clear y4
   obtain⟨st2,hst2⟩:∃st2:RS,(Sum.inl ts2:RS)=st2:=⟨_,rfl⟩
   rw[hst2] at HPa HLL HLN HLG
   have HST2:=hid hst2
   have HLENV:=hid HPa.out.lenW
   clear hst2
   have HBXF:Hid (∀W,But R V0 W->Blk W ((w.heap.size+1)) (cN 5 c ⟨#[]⟩ (.slice xa xn xc) sN (.slice ya yn yc)) 31):=hid (fun W hW=>(hW.block (w.heap.size+1) hlv hXR).trans HBOX.out)
   have HGRL:Hid (∀k,(Value.slice xa xn xc).ownBlock=some k->W4.heap.size<=k/\k<V0.heap.size):=hid (fun k hk=>HGR.out.lt k hk)
   have HGRF:Hid (∀W,But R V0 W->GRow 9 1 W4.heap.size W (.slice xa xn xc) (ls.map Jc)):=hid (fun W hW=>HGR.out.kept (fun j hj=>hW.block j (HGR.out.lt j hj).2 (by have:=(HGR.out.lt j hj).1;omega)))
   have HBXO:Hid (∀W,ButO R (fun j=>some j=(Value.slice xa xn xc).ownBlock) V0 W->Blk W ((w.heap.size+1)) (cN 5 c ⟨#[]⟩ (.slice xa xn xc) sN (.slice ya yn yc)) 31):=hid (fun W hW=>(hW.block (w.heap.size+1) hlv hXR (fun e=>by have:=(HGRL.out (w.heap.size+1) e.symm).1;omega)).trans HBOX.out)
   have HW4V:Hid (W4.heap.size<=V0.heap.size):=hid (by have:=HWV.out;omega)
   go_upto_region 25 with fail
   clear y3
   refine wp_region_held_drew (S:=fun _=>True) (by kernel_rfl) trivial (fun hHeld=>?_)
   refine QY [0,1,2,3,4,5,6,7] (Rail [(5,1)] [(0,.pointer (some ⟨(w.heap.size+1),3,none⟩)),(1,.slice xa xn xc),(2,.pointer (some ⟨R,0,none⟩)),(6,.pointer (some ⟨(w.heap.size+1),3,none⟩))] [(3,fun v W=>∃nm:ByteArray,v= .string nm/\nm.size<=maxLen/\(∀y,Qj (Qk Qb) st2=some y->nm=y)/\RdIs R la all E (Qa E (Qk Qb) st2) W/\But R V0 W),(4,fun v W=>∃(nm:ByteArray) (nb:Nat),v= .slice (some ⟨nb,0,none⟩) 1 1/\nm.size<=maxLen/\(∀y,Qj (Qk Qb) st2=some y->nm=y)/\RdIs R la all E (Qa E (Qk Qb) st2) W/\But R V0 W/\V0.heap.size<=nb/\Blk W nb #[.string nm] 9),(5,fun v W=>∃(nm:ByteArray) (ga:Option Addr) (gn gc:Nat),v= .slice ga gn gc/\nm.size<=maxLen/\(∀y,Qj (Qk Qb) st2=some y->nm=y)/\RdIs R la all E (Qa E (Qk Qb) st2) W/\ButO R (fun j=>some j=(Value.slice xa xn xc).ownBlock) V0 W/\GRow 9 1 W4.heap.size W (.slice ga gn gc) ((ls++[nm]).map Jc)/\(∀k,(Value.slice ga gn gc).ownBlock=some k->(Value.slice xa xn xc).ownBlock=some k\/V0.heap.size<=k)),(7,fun _ W=>∃(nm:ByteArray) (ga:Option Addr) (gn gc:Nat),nm.size<=maxLen/\(∀y,Qj (Qk Qb) st2=some y->nm=y)/\RdIs R la all E (Qa E (Qk Qb) st2) W/\ButO R (Jt (w.heap.size+1) (.slice xa xn xc)) V0 W/\Blk W ((w.heap.size+1)) (cN 5 c ⟨#[]⟩ (.slice ga gn gc) sN (.slice ya yn yc)) 31/\GRow 9 1 W4.heap.size W (.slice ga gn gc) ((ls++[nm]).map Jc)/\(∀k,(Value.slice ga gn gc).ownBlock=some k->(Value.slice xa xn xc).ownBlock=some k\/V0.heap.size<=k))] (fun W=>W=V0.drew)) (by kernel_rfl) (by kernel_rfl) (fun _ _ _ _=>trivial) (Rail.start (S0:=fun W=>W=V0.drew) rfl _) ?stepsQ ?stopQ
   case stepsQ=>
    refine fC ⟨?_,fC ⟨?_,fC ⟨?_,fC ⟨?_,fC ⟨?_,fC ⟨?_,fC ⟨?_,fC ⟨?_,fN⟩⟩⟩⟩⟩⟩⟩⟩
    ·refine InvStep.lst 0 [] Nk (fun L vals olds wx hLk hdeps hRl K hK2=>?_)
     simp only[Qs,setD,sS,sZ] at hK2 |-
     clear hdeps
     go_simp
     exact hK2 _ _ (hRl.pure 0 _ rfl fN (fC ⟨rfl,fN⟩))
    ·refine InvStep.lst 1 [0] Nk (fun L vals olds wx hLk hdeps hRl K hK2=>?_)
     simp only[Qs,setD,sS,sZ] at hK2 |-
     simp only[List.all_cons,List.all_nil,Bool.and_true] at hdeps
     have es:=(Qe (vals:=vals) (olds:=olds) hdeps).trans (hRl.val 0 rfl hdeps)
     simp only[es] at hK2 |-
     clear es
     have hbx:Blk wx ((w.heap.size+1)) (cN 5 c ⟨#[]⟩ (.slice xa xn xc) sN (.slice ya yn yc)) 31:=hRl.before 2 1 (I:=fun W=>Blk W ((w.heap.size+1)) (cN 5 c ⟨#[]⟩ (.slice xa xn xc) sN (.slice ya yn yc)) 31) rfl rfl hLk (fun e=>by rw[e];exact HBXF.out _ (But.refl _ _).drew) (fC ⟨fun v h=>HBXF.out _ (by obtain⟨_,_,_,_,_,h⟩:=h;exact h),fC ⟨fun v h=>HBXF.out _ (by obtain⟨_,_,_,_,_,_,h,_⟩:=h;exact h),fN⟩⟩)
     have cl:=(c12p hbx).1.2.2.2.1
     clear hbx
     go_simp
     clear cl
     exact hK2 _ _ (hRl.pure 1 _ rfl fN (fC ⟨rfl,fN⟩))
    ·refine InvStep.lst 2 [] Nk (fun L vals olds wx hLk hdeps hRl K hK2=>?_)
     simp only[Qs,setD,sS,sZ] at hK2 |-
     clear hdeps
     go_simp
     exact hK2 _ _ (hRl.pure 2 _ rfl fN (fC ⟨rfl,fN⟩))
    ·refine InvStep.lst 3 [2] Nk (fun L vals olds wx hLk hdeps hRl K hK2=>?_)
     simp only[Qs,setD,sS,sZ] at hK2 |-
     simp only[List.all_cons,List.all_nil,Bool.and_true] at hdeps
     have es:=(Qe (vals:=vals) (olds:=olds) hdeps).trans (hRl.val 2 rfl hdeps)
     simp only[es] at hK2 |-
     clear es
     obtain⟨hc,hn⟩:=hRl.stat 0 rfl hLk trivial rfl fN rfl
     dsimp only[QR,List.take] at hc
     subst hc
     go_simp
     refine(Zv R _ all E _ _ (HPa.out.to bR.drew)).mono ?_
     rintro en w9⟨⟨_,nm,rfl,⟨rfl,hnz⟩,hv⟩,hp,hb⟩
     dsimp only
     exact hK2 _ _ (hn _ _ ⟨nm,rfl,hnz,hv,hp,(But.refl R V0).drew.trans hb⟩)
    ·refine InvStep.lst 4 [3] Nk (fun L vals olds wx hLk hdeps hRl K hK2=>?_)
     simp only[Qs,setD,sS,sZ] at hK2 |-
     simp only[List.all_cons,List.all_nil,Bool.and_true] at hdeps
     obtain⟨hc,hn⟩:=hRl.stat 1 rfl hLk hdeps rfl fN rfl
     dsimp only[QR,List.take] at hc
     obtain⟨nm,e3,hnz,hv,hp,hb⟩:=hc
     have es:=(Qe (vals:=vals) (olds:=olds) hdeps).trans e3
     simp only[es] at hK2 |-
     clear es e3
     go_simp
     obtain⟨Wa,hWa⟩:∃Wa,wx.alloc (.cells #[.string nm] 9)=Wa:=⟨_,rfl⟩
     have hbl:=(made hWa).1
     have xx:=(made hWa).2
     rw[hWa]
     exact hK2 _ _ (hn _ _ ⟨nm,wx.heap.size,rfl,hnz,hv,hp.to hbl,hb.to hbl,hb.size,xx⟩)
    ·refine InvStep.lst 5 [1,4] Nk (fun L vals olds wx hLk hdeps hRl K hK2=>?_)
     simp only[Qs,setD,sS,sZ] at hK2 |-
     simp only[List.all_cons,List.all_nil,Bool.and_true,Bool.and_eq_true] at hdeps
     obtain⟨hc,hn⟩:=hRl.stat 2 rfl hLk hdeps.2 rfl (fC ⟨hdeps.1,fN⟩) rfl
     dsimp only[QR,List.take] at hc
     have e1:=(Qe (vals:=vals) (olds:=olds) hdeps.1).trans (hRl.val 1 rfl hdeps.1)
     obtain⟨nm,nb,e4,hnz,hv,hp,hb,hnb,hx4⟩:=hc
     have e4':=(Qe (vals:=vals) (olds:=olds) hdeps.2).trans e4
     have hrow:=HGRF.out _ hb
     refine Za (ops:=#[]) rfl (Zb Uv (by rfl) _ _ (by rfl) (by exact e1) hrow (some ⟨nb,0,none⟩) 1 1 [Jc nm] (by exact e4') rfl (fun e he=>by rw[mS he];rfl) (JY hx4) (fun e he u hu=>by rw[mS he] at hu;rw[mS hu];rfl) (by have:=HLSZ.out;rw[List.length_map,List.length_singleton];omega) (lT HW4V.out hb.size) ((ls++[nm]).map Jc) (by rw[List.map_append];rfl) (fun ga gn gc w4 hr4 hg4 hq4=>?_))
     refine hK2 _ _ (hn _ _ ⟨nm,ga,gn,gc,rfl,hnz,hv,hp.grown hg4 HLA.out hR (fun k hk=>lT HW14.out.1 (hrow.lt k hk).1),(hb.o _).trans (ButO.grown hg4 R) (fun j h=> .inl h),hr4,fun k hk=>?_⟩)
     rcases hq4 with e|e
     ·exact .inl (e.symm.trans hk)
     ·refine .inr ?_
      have e':=Option.some.inj (e.symm.trans hk)
      have:=hb.size
      omega
    ·refine InvStep.lst 6 [] Nk (fun L vals olds wx hLk hdeps hRl K hK2=>?_)
     simp only[Qs,setD,sS,sZ] at hK2 |-
     clear hdeps
     go_simp
     exact hK2 _ _ (hRl.pure 6 _ rfl fN (fC ⟨rfl,fN⟩))
    ·refine InvStep.lst 7 [5,6] Nk (fun L vals olds wx hLk hdeps hRl K hK2=>?_)
     simp only[Qs,setD,sS,sZ] at hK2 |-
     simp only[List.all_cons,List.all_nil,Bool.and_true,Bool.and_eq_true] at hdeps
     obtain⟨hc,hn⟩:=hRl.stat 3 rfl hLk hdeps.1 rfl fN rfl
     dsimp only[QR,List.take] at hc
     have e6:=(Qe (vals:=vals) (olds:=olds) hdeps.2).trans (hRl.val 3 rfl hdeps.2)
     obtain⟨nm,ga,gn,gc,e5,hnz,hv,hp,hbo,hgr,how⟩:=hc
     have e5':=(Qe (vals:=vals) (olds:=olds) hdeps.1).trans e5
     have hbx:=HBXO.out _ hbo
     have cl:=(c12p hbx).1.2.2.2.1
     have fz:=(c12p hbx).2.2.2.2.1
     simp only[e5',e6] at hK2 |-
     have HH:=hid (And.intro hgr how)
     have HPP:=hid hp
     have HBB:=hid hbo
     have HXX:=hid hbx
     clear e5 e5' e6 hgr how hp hbo hbx
     go_simp
     clear cl fz
     exact hK2 undef _ (hn _ _ ⟨nm,ga,gn,gc,hnz,hv,HPP.out.set (by omega) HLA.out (by omega) 3 _,(HBB.out.mono (O':=Jt (w.heap.size+1) (.slice xa xn xc)) (fun k _ h=> .inr h)).setC (.inl rfl) 3 _,Qd HXX.out 3 _,HH.out.1.kept (fun k hk=>oth1 _ _ _ (by have:=(HH.out.1.lt k hk).1;omega)),HH.out.2⟩)
   case stopQ=>
    refine JI [(0,some 58),(1,some 59),(2,some 60),(3,some 61),(4,some 62),(5,some 63),(6,some 64),(7,none)] (by kernel_rfl) (by decide) (fun L vals olds wQ hall hRl=>?_)
    have hfin:=hRl.fin (by simp at hall |-;simp[hall])
    dsimp only[QR] at hfin
    clear hRl hall hHeld
    simp only[Qs,sS,sZ]
    obtain⟨s0,hs0⟩:∃s,QA L vals olds 0=s:=⟨_,rfl⟩
    rw[hs0]
    clear hs0
    obtain⟨s1,hs1⟩:∃s,QA L vals olds 1=s:=⟨_,rfl⟩
    rw[hs1]
    clear hs1
    obtain⟨s2,hs2⟩:∃s,QA L vals olds 2=s:=⟨_,rfl⟩
    rw[hs2]
    clear hs2
    obtain⟨s3,hs3⟩:∃s,QA L vals olds 3=s:=⟨_,rfl⟩
    rw[hs3]
    clear hs3
    obtain⟨s4,hs4⟩:∃s,QA L vals olds 4=s:=⟨_,rfl⟩
    rw[hs4]
    clear hs4
    obtain⟨s5,hs5⟩:∃s,QA L vals olds 5=s:=⟨_,rfl⟩
    rw[hs5]
    clear hs5
    obtain⟨s6,hs6⟩:∃s,QA L vals olds 6=s:=⟨_,rfl⟩
    rw[hs6]
    clear hs6
    obtain⟨nm,ga,gn,gc,hnz,hv,hp,hbo,hbx,hgr,how⟩:=hfin
    have hlr:=HLR.out.frame lyPr hbo hR3 (O':=Jt (w.heap.size+1) (.slice ga gn gc)) (fun k hk=>by
     rcases hk with rfl|hk
     ·exact .inl (.inl rfl)
     ·rcases how k hk.symm with e|e
      ·exact .inl (.inr e.symm)
      ·exact .inr e)
    have hb1:But R w wQ:=((HBo.out.o (fun _=>False)).trans hbo (fun j hj=> .inr (by
     rcases hj with rfl|hj
     ·exact hXW
     ·have:=(HGRL.out j hj.symm).1;have:=HW14.out.2;omega))).but (fun _ _ h=>h)
    have HNM:=hid (And.intro hnz hv)
    have HPa4:=hid hp
    have HBo4:=hid hb1
    have HBX4:=hid hbx
    have HGR4:=hid hgr
    have HLR4:=hid hlr
    have hl4:(w.heap.size+1)<wQ.heap.size:=(gl hbx)
    have HZ4:=hid ((hbo.block w.heap.size (gl0 HZ0.out) hWR (fun e=>by
     rcases e with e|e
     ·omega
     ·have:=(HGRL.out _ e.symm).1;omega)).trans HZ0.out)
    have HSZ4:=hid (show V0.heap.size<=wQ.heap.size from hbo.size)
    clear hnz hv hp hbo hbx hgr how hlr hb1
    go_upto_region 27 with(go_at_call 59;refine(QD R _ all E _ (by decide+kernel) _ _ HPa4.out).mono ?_;rintro en V5⟨rfl,hp,hb⟩;have HPa5:=hid hp;have HB5:=hid hb;clear hp hb)
    have hl5:(w.heap.size+1)<V5.heap.size:=lL hl4 HB5.out.size
    have HBX5:=hid ((HB5.out.block (w.heap.size+1) hl4 hXR).trans HBX4.out)
    have HZ5:=hid ((HB5.out.block w.heap.size (gl0 HZ4.out) hWR).trans HZ4.out)
    have HBo5:=hid (HBo4.out.trans HB5.out)
    have HGR5:Hid (GRow 9 1 W4.heap.size V5 (.slice ga gn gc) ((ls++[nm]).map Jc)):=hid (HGR4.out.kept (fun j hj=>HB5.out.block j (HGR4.out.lt j hj).2 (by have:=(HGR4.out.lt j hj).1;omega)))
    have HLR5:=hid (HLR4.out.frame lyPr (HB5.out.o _) hR3 (O':=Jt (w.heap.size+1) (.slice ga gn gc)) (fun k hk=> .inl hk))
    have HW4V5:Hid (W4.heap.size<=V5.heap.size):=hid (lT HW4V.out (lT HSZ4.out HB5.out.size))
    have HLE5:Hid ((Qa E (need QB) (Qa E (Qk Qb) st2)).len<=st2.len):=hid (lT (len_le E (F:=need QB) (fun _ _ _ h=>Nat.le_of_lt (Qp h)) _) (len_le E (F:=Qk Qb) (fun _ _ _ h=>Nat.le_of_lt (QJ h)) st2))
    clear HLR4 HGR4 HBX4 HPa4 HBo4 HB5 HPa HBXF HGRF HBXO HBOX HGR HLR HBo HGRL hl4
    have HN5:Hid ((Qa E (need QB) (Qa E (Qk Qb) st2)).len<n):=hid (Nat.lt_of_le_of_lt HLE5.out HLG.out)
    obtain⟨st4,hst4⟩:∃st4,Qa E (need QB) (Qa E (Qk Qb) st2)=st4:=⟨_,rfl⟩
    rw[hst4] at HPa5 HLE5 HN5
    have HST4:=hid hst4
    clear hst4
    have HBXF:Hid (∀W,But R V5 W->Blk W ((w.heap.size+1)) (cN 5 c ⟨#[]⟩ (.slice ga gn gc) sN (.slice ya yn yc)) 31):=hid (fun W hW=>(hW.block (w.heap.size+1) hl5 hXR).trans HBX5.out)
    have HLRL:Hid (∀k,(Value.slice ya yn yc).ownBlock=some k->W4.heap.size<=k/\k<V5.heap.size):=hid (fun k hk=>HLR5.out.row.lt k hk)
    have HGRL:Hid (∀k,(Value.slice ga gn gc).ownBlock=some k->W4.heap.size<=k/\k<V5.heap.size):=hid (fun k hk=>HGR5.out.lt k hk)
    have HLRF:Hid (∀W,But R V5 W->LRow 31 12 W4.heap.size (fun B w v t=>PrVal B w v t) (Jt (w.heap.size+1) (.slice ga gn gc)) W (.slice ya yn yc) vs us):=hid (fun W hW=>HLR5.out.frame lyPr (hW.o _) hR3 (fun k hk=> .inl hk))
    have HBXO:Hid (∀W,ButO R (fun j=>some j=(Value.slice ya yn yc).ownBlock) V5 W->Blk W ((w.heap.size+1)) (cN 5 c ⟨#[]⟩ (.slice ga gn gc) sN (.slice ya yn yc)) 31):=hid (fun W hW=>(hW.block (w.heap.size+1) hl5 hXR (fun e=>by have:=(HLRL.out (w.heap.size+1) e.symm).1;omega)).trans HBX5.out)
    have HVSZ:Hid (vs.length<=1000001):=hid (by have h1:=HLR5.out.len;have h2:=HLL.out.len;have h3:=HLSZ.out;omega)
    refine wp_region_held_drew (S:=fun _=>True) (by kernel_rfl) trivial (fun hHeld=>?_)
    refine QY [0,1,2,3,4,5,6,7] (Rail [(5,1)] [(0,.pointer (some ⟨(w.heap.size+1),11,none⟩)),(1,.slice ya yn yc),(2,.pointer (some ⟨R,0,none⟩)),(6,.pointer (some ⟨(w.heap.size+1),11,none⟩))] [(3,fun v W=>∃(u:Pr) (lb:Option Addr) (mn mc:Nat) (ab:Option Addr) (bn bc:Nat) (tb:Option Addr) (on oc:Nat) (ub:Option Addr) (pn pc:Nat) (kb:Option Addr) (jn jc:Nat),v= .agg (gP u lb mn mc ab bn bc tb on oc ub pn pc kb jn jc)/\GPr V5.heap.size W u (.agg (gP u lb mn mc ab bn bc tb on oc ub pn pc kb jn jc))/\(∀y,Qj (P) st4=some y->u=y)/\RdIs R la all E (Qa E (P) st4) W/\But R V5 W),(4,fun v W=>∃(u:Pr) (lb:Option Addr) (mn mc:Nat) (ab:Option Addr) (bn bc:Nat) (tb:Option Addr) (on oc:Nat) (ub:Option Addr) (pn pc:Nat) (kb:Option Addr) (jn jc:Nat) (nb:Nat),v= .slice (some ⟨nb,0,none⟩) 1 1/\GPr V5.heap.size W u (.agg (gP u lb mn mc ab bn bc tb on oc ub pn pc kb jn jc))/\(∀y,Qj (P) st4=some y->u=y)/\RdIs R la all E (Qa E (P) st4) W/\But R V5 W/\V5.heap.size<=nb/\W.heap[nb]? =some (.cells (gP u lb mn mc ab bn bc tb on oc ub pn pc kb jn jc) 31 (0,0))),(5,fun v W=>∃(u:Pr) (ha:Option Addr) (hn hc:Nat) (vs':List Value),v= .slice ha hn hc/\(∀y,Qj (P) st4=some y->u=y)/\RdIs R la all E (Qa E (P) st4) W/\ButO R (fun j=>some j=(Value.slice ya yn yc).ownBlock) V5 W/\LRow 31 12 W4.heap.size (fun B w v t=>PrVal B w v t) (Jt (w.heap.size+1) (.slice ga gn gc)) W (.slice ha hn hc) vs' (us++[u])),(7,fun _ W=>∃(u:Pr) (ha:Option Addr) (hn hc:Nat) (vs':List Value),(∀y,Qj (P) st4=some y->u=y)/\RdIs R la all E (Qa E (P) st4) W/\ButO R (Jt (w.heap.size+1) (.slice ya yn yc)) V5 W/\Blk W ((w.heap.size+1)) (cN 5 c ⟨#[]⟩ (.slice ga gn gc) sN (.slice ha hn hc)) 31/\LRow 31 12 W4.heap.size (fun B w v t=>PrVal B w v t) (Jt (w.heap.size+1) (.slice ga gn gc)) W (.slice ha hn hc) vs' (us++[u]))] (fun W=>W=V5.drew)) (by kernel_rfl) (by kernel_rfl) (fun _ _ _ _=>trivial) (Rail.start (S0:=fun W=>W=V5.drew) rfl _) ?stepsK ?stopK
    case stepsK=>
     refine fC ⟨?_,fC ⟨?_,fC ⟨?_,fC ⟨?_,fC ⟨?_,fC ⟨?_,fC ⟨?_,fC ⟨?_,fN⟩⟩⟩⟩⟩⟩⟩⟩
     ·refine InvStep.lst 0 [] Nj (fun L vals olds wx hLk hdeps hRl K hK2=>?_)
      simp only[Qs,setD,sS,sZ] at hK2 |-
      clear hdeps
      go_simp
      exact hK2 _ _ (hRl.pure 0 _ rfl fN (fC ⟨rfl,fN⟩))
     ·refine InvStep.lst 1 [0] Nj (fun L vals olds wx hLk hdeps hRl K hK2=>?_)
      simp only[Qs,setD,sS,sZ] at hK2 |-
      simp only[List.all_cons,List.all_nil,Bool.and_true] at hdeps
      have es:=(Qe (vals:=vals) (olds:=olds) hdeps).trans (hRl.val 0 rfl hdeps)
      simp only[es] at hK2 |-
      clear es
      have hbx:Blk wx ((w.heap.size+1)) (cN 5 c ⟨#[]⟩ (.slice ga gn gc) sN (.slice ya yn yc)) 31:=hRl.before 2 1 (I:=fun W=>Blk W ((w.heap.size+1)) (cN 5 c ⟨#[]⟩ (.slice ga gn gc) sN (.slice ya yn yc)) 31) rfl rfl hLk (fun e=>by rw[e];exact HBXF.out _ (But.refl _ _).drew) (fC ⟨fun v h=>HBXF.out _ (by obtain⟨_,_,_,_,_,_,_,_,_,_,_,_,_,_,_,_,_,_,_,_,h⟩:=h;exact h),fC ⟨fun v h=>HBXF.out _ (by obtain⟨_,_,_,_,_,_,_,_,_,_,_,_,_,_,_,_,_,_,_,_,_,h,_⟩:=h;exact h),fN⟩⟩)
      have cl:=(c12p hbx).1.2.2.2.2.2.2.2.2.2.2.2
      clear hbx
      go_simp
      clear cl
      exact hK2 _ _ (hRl.pure 1 _ rfl fN (fC ⟨rfl,fN⟩))
     ·refine InvStep.lst 2 [] Nj (fun L vals olds wx hLk hdeps hRl K hK2=>?_)
      simp only[Qs,setD,sS,sZ] at hK2 |-
      clear hdeps
      go_simp
      exact hK2 _ _ (hRl.pure 2 _ rfl fN (fC ⟨rfl,fN⟩))
     ·refine InvStep.lst 3 [2] Nj (fun L vals olds wx hLk hdeps hRl K hK2=>?_)
      simp only[Qs,setD,sS,sZ] at hK2 |-
      simp only[List.all_cons,List.all_nil,Bool.and_true] at hdeps
      have es:=(Qe (vals:=vals) (olds:=olds) hdeps).trans (hRl.val 2 rfl hdeps)
      simp only[es] at hK2 |-
      clear es
      obtain⟨hc,hn⟩:=hRl.stat 0 rfl hLk trivial rfl fN rfl
      dsimp only[QR,List.take] at hc
      subst hc
      go_simp
      refine(HS.out _ _ (HPa5.out.to bR.drew) HN5.out).mono ?_
      rintro en w9⟨⟨_,u,rfl,⟨hg,-⟩,hv⟩,hp,hb⟩
      obtain⟨lb,mn,mc,ab,bn,bc,tb,on,oc,ub,pn,pc,kb,jn,jc,rfl⟩:=PrVal.open hg
      dsimp only
      exact hK2 _ _ (hn _ _ ⟨u,lb,mn,mc,ab,bn,bc,tb,on,oc,ub,pn,pc,kb,jn,jc,rfl,hg,hv,hp,(But.refl R V5).drew.trans hb⟩)
     ·refine InvStep.lst 4 [3] Nj (fun L vals olds wx hLk hdeps hRl K hK2=>?_)
      simp only[Qs,setD,sS,sZ] at hK2 |-
      simp only[List.all_cons,List.all_nil,Bool.and_true] at hdeps
      obtain⟨hc,hn⟩:=hRl.stat 1 rfl hLk hdeps rfl fN rfl
      dsimp only[QR,List.take] at hc
      obtain⟨u,lb,mn,mc,ab,bn,bc,tb,on,oc,ub,pn,pc,kb,jn,jc,e3,hg,hv,hp,hb⟩:=hc
      have es:=(Qe (vals:=vals) (olds:=olds) hdeps).trans e3
      simp only[es] at hK2 |-
      clear es e3
      go_simp
      obtain⟨Wa,hWa⟩:∃Wa,wx.alloc (.cells (gP u lb mn mc ab bn bc tb on oc ub pn pc kb jn jc) 31)=Wa:=⟨_,rfl⟩
      have hbl:=(made hWa).1
      have xx:=(made hWa).2
      rw[hWa]
      exact hK2 _ _ (hn _ _ ⟨u,lb,mn,mc,ab,bn,bc,tb,on,oc,ub,pn,pc,kb,jn,jc,wx.heap.size,rfl,hg.but (But.of (P:=R) hbl) (lL hR3 HW4V5.out),hv,hp.to hbl,hb.to hbl,hb.size,xx⟩)
     ·refine InvStep.lst 5 [1,4] Nj (fun L vals olds wx hLk hdeps hRl K hK2=>?_)
      simp only[Qs,setD,sS,sZ] at hK2 |-
      simp only[List.all_cons,List.all_nil,Bool.and_true,Bool.and_eq_true] at hdeps
      obtain⟨hc,hn⟩:=hRl.stat 2 rfl hLk hdeps.2 rfl (fC ⟨hdeps.1,fN⟩) rfl
      dsimp only[QR,List.take] at hc
      have e1:=(Qe (vals:=vals) (olds:=olds) hdeps.1).trans (hRl.val 1 rfl hdeps.1)
      obtain⟨u,lb,mn,mc,ab,bn,bc,tb,on,oc,ub,pn,pc,kb,jn,jc,nb,e4,hg,hv,hp,hb,hnb,hx4⟩:=hc
      have e4':=(Qe (vals:=vals) (olds:=olds) hdeps.2).trans e4
      have hrow:=HLRF.out _ hb
      have hone:=lyPr.one hg
      refine Za (ops:=#[]) rfl (Zb Yv (by rfl) _ _ (by rfl) (by exact e1) hrow.row (some ⟨nb,0,none⟩) 1 1 [cl (.agg (gP u lb mn mc ab bn bc tb on oc ub pn pc kb jn jc))] (by exact e4') rfl (fun e he=>by rw[mS he];rfl) (JY hx4) (fun e he x hx=>hone x (by rw[mS he] at hx;exact hx)) (by have:=HVSZ.out;rw[List.length_map,List.length_singleton];omega) (lT HW4V5.out hb.size) (vs.map cl++[cl (.agg (gP u lb mn mc ab bn bc tb on oc ub pn pc kb jn jc))]) rfl (fun ha hn' hc' w4 hr4 hg4 hq4=>?_))
      have hOL:∀k,Jt (w.heap.size+1) (.slice ga gn gc) k->k<V5.heap.size:=fun k hk=>hk.elim (fun e=>e▸hl5) (fun e=>(HGRL.out k e.symm).2)
      have hgrow:=hrow.grow lyPr (x:=u) (lyPr.mono (fun k hk=>⟨lT HW4V5.out hk.1,hk.2,fun e=>by have:=hOL k e;have:=hk.1;omega,fun e=>by have:=(HLRL.out k e.symm).2;have:=hk.1;omega⟩) hg) hr4 hg4 hq4 (fun k hk=>lL (hOL k hk) hb.size)
      exact hK2 _ _ (hn _ _ ⟨u,ha,hn',hc',_,rfl,hv,hp.grown hg4 HLA.out hR (fun k hk=>lT HW14.out.1 (hrow.row.lt k hk).1),(hb.o _).trans (ButO.grown hg4 R) (fun j h=> .inl h),hgrow⟩)
     ·refine InvStep.lst 6 [] Nj (fun L vals olds wx hLk hdeps hRl K hK2=>?_)
      simp only[Qs,setD,sS,sZ] at hK2 |-
      clear hdeps
      go_simp
      exact hK2 _ _ (hRl.pure 6 _ rfl fN (fC ⟨rfl,fN⟩))
     ·refine InvStep.lst 7 [5,6] Nj (fun L vals olds wx hLk hdeps hRl K hK2=>?_)
      simp only[Qs,setD,sS,sZ] at hK2 |-
      simp only[List.all_cons,List.all_nil,Bool.and_true,Bool.and_eq_true] at hdeps
      obtain⟨hc,hn⟩:=hRl.stat 3 rfl hLk hdeps.1 rfl fN rfl
      dsimp only[QR,List.take] at hc
      have e6:=(Qe (vals:=vals) (olds:=olds) hdeps.2).trans (hRl.val 3 rfl hdeps.2)
      obtain⟨u,ha,hn',hc',vs',e5,hv,hp,hbo,hlr⟩:=hc
      have e5':=(Qe (vals:=vals) (olds:=olds) hdeps.1).trans e5
      have hbx:=HBXO.out _ hbo
      have cl:=(c12p hbx).1.2.2.2.2.2.2.2.2.2.2.2
      have fz:=(c12p hbx).2.2.2.2.2.2.2.2.2.2.2.2
      simp only[e5',e6] at hK2 |-
      have HH:=hid hlr
      have HPP:=hid hp
      have HBB:=hid hbo
      have HXX:=hid hbx
      clear e5 e5' e6 hlr hp hbo hbx
      go_simp
      clear cl fz
      exact hK2 undef _ (hn _ _ ⟨u,ha,hn',hc',vs',hv,HPP.out.set (by omega) HLA.out (by omega) 11 _,(HBB.out.mono (O':=Jt (w.heap.size+1) (.slice ya yn yc)) (fun k _ h=> .inr h)).setC (.inl rfl) 11 _,Qd HXX.out 11 _,HH.out.frame lyPr ((ButO.refl R _ _).setC (.inl rfl) 11 _) hR3 (fun k hk=> .inl hk)⟩)
    case stopK=>
     refine JI [(0,some 67),(1,some 68),(2,some 69),(3,some 70),(4,some 71),(5,some 72),(6,some 73),(7,none)] (by kernel_rfl) (by decide) (fun L vals olds wK hall hRl=>?_)
     have hfin:=hRl.fin (by simp at hall |-;simp[hall])
     dsimp only[QR] at hfin
     clear hRl hall hHeld
     simp only[Qs,sS,sZ]
     obtain⟨s0,hs0⟩:∃s,QA L vals olds 0=s:=⟨_,rfl⟩
     rw[hs0]
     clear hs0
     obtain⟨s1,hs1⟩:∃s,QA L vals olds 1=s:=⟨_,rfl⟩
     rw[hs1]
     clear hs1
     obtain⟨s2,hs2⟩:∃s,QA L vals olds 2=s:=⟨_,rfl⟩
     rw[hs2]
     clear hs2
     obtain⟨s3,hs3⟩:∃s,QA L vals olds 3=s:=⟨_,rfl⟩
     rw[hs3]
     clear hs3
     obtain⟨s4,hs4⟩:∃s,QA L vals olds 4=s:=⟨_,rfl⟩
     rw[hs4]
     clear hs4
     obtain⟨s5,hs5⟩:∃s,QA L vals olds 5=s:=⟨_,rfl⟩
     rw[hs5]
     clear hs5
     obtain⟨s6,hs6⟩:∃s,QA L vals olds 6=s:=⟨_,rfl⟩
     rw[hs6]
     clear hs6
     obtain⟨u,ha,hn',hc',vs',hv,hp,hbo,hbx,hlr⟩:=hfin
     have hgr:GRow 9 1 W4.heap.size wK (.slice ga gn gc) ((ls++[nm]).map Jc):=HGR5.out.kept (fun j hj=>hbo.block j (HGR5.out.lt j hj).2 (by have:=(HGR5.out.lt j hj).1;omega) (fun e=>by
      rcases e with rfl|e
      ·have:=(HGR5.out.lt _ hj).1;omega
      ·exact HLR5.out.out j e.symm (.inr hj.symm)))
     have hb1:But R w wK:=((HBo5.out.o (fun _=>False)).trans hbo (fun j hj=> .inr (by
      rcases hj with rfl|hj
      ·exact hXW
      ·have:=(HLRL.out j hj.symm).1;have:=HW14.out.2;omega))).but (fun _ _ h=>h)
     have hlK:(w.heap.size+1)<wK.heap.size:=(gl hbx)
     have HZK:=hid ((hbo.block w.heap.size (gl0 HZ5.out) hWR (fun e=>by
      rcases e with e|e
      ·omega
      ·have:=(HLRL.out _ e.symm).1;omega)).trans HZ5.out)
     have HVU:=hid hv
     have HPaK:=hid hp
     have HBoK:=hid hb1
     have HBXK:=hid hbx
     have HGRK:=hid hgr
     have HLRK:=hid hlr
     have HSZK:Hid (W4.heap.size<=wK.heap.size):=hid (lT HW4V5.out hbo.size)
     have hle:(Qa E (P) st4).len<=st2.len:=lT (len_le E (F:=P) (fun _ _ _ h=>Nat.le_of_lt (HSH.out _ _ _ h)) st4) HLE5.out
     have HPC:Hid (Qa E (QX Qb (P)) st2=Qa E (P) st4):=hid (by rw[(Xx E (P) st2).1,HST4.out])
     obtain⟨st5,hst5⟩:∃st5,Qa E (P) st4=st5:=⟨_,rfl⟩
     rw[hst5] at HPaK HPC hle
     have HLE:=hid hle
     clear hv hp hbo hbx hgr hlr hb1 hle hst5 HBXF HLRF HBXO HLR5 HGR5 HBX5 HBo5 HPa5 HGRL HLRL
     have hg2:0<g2:=Nat.lt_of_le_of_lt (Nat.zero_le _) HLL.out.fuel
     obtain⟨g3,rfl⟩:∃g3,g2=g3+1:=⟨g2-1,by omega⟩
     have HNMV:Hid (∀y,Qj (Qk Qb) st2=some y->nm=y):=hid HNM.out.2
     have HUV:Hid (∀y,Qj (P) (Qa E (need QB) (Qa E (Qk Qb) st2))=some y->u=y):=hid (by rw[HST4.out];exact HVU.out)
     have HLZ':Hid (∀s∈ls++[nm],s.size<=maxLen):=hid (fun s hs=>by
      rcases List.mem_append.1 hs with h|h
      ·exact HLZ.out s h
      ·rw[mS h];exact HNM.out.1)
     obtain⟨t1,ht1⟩:∃t1,Qi st5=t1:=⟨_,rfl⟩
     have HT1:=hid ht1
     cases hq:stHd QG st5 with
     |true=>
      have k0:(t1.toList==[44])=true:=by rw[<-ht1];exact Qt hq
      have k1:(t1.toList != [44])=false:=by rw[bne,k0];rfl
      have hnl:=JQ E hq
      have hmore:=HLL.out.more HNMV.out HUV.out (by rw[HPC.out];exact hq) (by rw[HPC.out];have:=HLE.out;have:=HLL.out.fuel;omega)
      rw[HPC.out] at hmore
      have HMORE:=hid hmore
      have HNL:=hid hnl
      clear hmore hnl ht1 hq
      go_wp2_with (first|(go_at_call 58;refine(Qw R _ all E _ _ HPaK.out).mono ?_;rw[HT1.out];rintro en w7⟨rfl,hb⟩;have HB7:=hid hb;have HP7:=hid (HPaK.out.to hb);clear hb)|(go_at_call 59;refine(QD R _ all E _ (by decide+kernel) _ _ HP7.out).mono ?_;rintro en w8⟨rfl,hp,hb⟩;have HP8:Hid (RdIs R la all E (Qa E (need QG) st5) w8):=hid hp;have HB8:=hid ((But.of HB7.out).trans hb);clear hp hb))
      go_roundw
      ·exact⟨ls++[nm],us++[u],vs',ga,gn,gc,ha,hn',hc',g3,_,hid ((HB8.out.block (w.heap.size+1) hlK hXR).trans HBXK.out),hid (HGRK.out.kept (fun j hj=>HB8.out.block j (HGRK.out.lt j hj).2 (by have:=(HGRK.out.lt j hj).1;omega))),hid (HLRK.out.frame lyPr (HB8.out.o _) hR3 (fun k hk=> .inl hk)),HP8,hid (HBoK.out.trans HB8.out),HMORE,HLZ',hid (by have:=HLN.out;have:=HLE.out;have:=HNL.out;rw[List.length_append,List.length_singleton];omega),hid (by have:=HLG.out;have:=HLE.out;have:=HNL.out;omega),hid (lT HSZK.out HB8.out.size),hid ((HB8.out.block w.heap.size (gl0 HZK.out) hWR).trans HZK.out)⟩
      ·rw[HP8.out.lenW,HLENV.out]
       have:=HLE.out
       have:=HNL.out
       omega
     |false=>
      have k0:(t1.toList==[44])=false:=by rw[<-ht1];exact Qt hq
      have k1:(t1.toList != [44])=true:=by rw[bne,k0];rfl
      have hlast:=HLL.out.last HNMV.out HUV.out (by rw[HPC.out];exact hq)
      have HEND:=hid (hlast.1.trans HPC.out)
      have HVL:=hid hlast.2
      have HUS:Hid ((ls++[nm]).length=(us++[u]).length):=hid (by simp[HLL.out.len])
      have HLSZn:Hid ((ls++[nm]).length<=1000002):=hid (by have:=HLSZ.out;rw[List.length_append,List.length_singleton];omega)
      clear hlast ht1 hq HLSZ HLZ hlv
      have HLSZ:=HLSZn
      have HLZ:=HLZ'
      go_upto_region 30 with(go_at_call 58;refine(Qw R _ all E _ _ HPaK.out).mono ?_;rw[HT1.out];rintro en w7⟨rfl,hb⟩;have HPa:=hid (HPaK.out.to hb);have HBo:=hid (HBoK.out.to hb);have HBOX:=hid ((hb.block (w.heap.size+1) hlK).trans HBXK.out);have HGR:=hid (HGRK.out.to hb);have HLR:=hid (HLRK.out.frame lyPr ((But.of (P:=R) hb).o _) hR3 (O':=Jt (w.heap.size+1) (.slice ga gn gc)) (fun k hk=> .inl hk));have hlv:=lL hlK hb.size;have HZ0:=hid ((hb.block w.heap.size (gl0 HZK.out)).trans HZK.out);clear hb)
      go_upto_region 31 with(go_at_call 59;refine(QD R _ all E _ (by decide+kernel) _ _ HPa.out).mono ?_;rintro en wz⟨rfl,hp,hb⟩;have HP:=hid hp;have HC:=hid hb;clear hp hb)
      have hx3:=(HC.out.block (w.heap.size+1) hlv hXR).trans HBOX.out
      obtain⟨⟨d0,d1,d2,d3,d4,d5,d6,d7,d8,d9,d10,d11⟩,-⟩:=c12p hx3
      clear hx3
      have hx9:=(HC.out.block w.heap.size (gl0 HZ0.out) (by omega)).trans HZ0.out
      obtain⟨⟨q0,q1,q2,q3,q4,q5,q6,q7,q8,q9,q10,q11⟩,z0,z1,z2,z3,z4,z5,z6,z7,z8,z9,z10,z11⟩:=c12p hx9
      have HX9:=hid hx9
      clear hx9
      go_wp2_with fail
      have hgr:GRow 9 1 W4.heap.size wz (.slice ga gn gc) ((ls++[nm]).map Jc):=HGR.out.kept (fun j hj=>HC.out.block j (HGR.out.lt j hj).2 (by have:=(HGR.out.lt j hj).1;omega))
      have hlr:=HLR.out.frame lyPr (HC.out.o _) hR3 (O':=fun _=>False) (fun _ h=>h.elim)
      have hlen:=HLSZ.out
      have hlus:=HUS.out
      have hnode:GPr W4.heap.size wz (.mk 5 c ⟨#[]⟩ (ls++[nm]) [] zT (us++[u])) (.agg (cN 5 c ⟨#[]⟩ (.slice ga gn gc) sN (.slice ha hn' hc'))):=GPr.node (t:=zT) HCZ.out (Nat.zero_le _) (StrSl.mono (fun j hj=>⟨hj.1,hj.2.1⟩) (hgr.texts (by unfold maxLen;omega) HLZ.out)) (JK _ _) (YF _ _) (PrSl.mono (fun j hj=>⟨hj.1,hj.2.1⟩) (hlr.prs (by unfold maxLen;omega)))
      have HPn:Hid (RdIs R la all E (Qa E (need sKet) (Qa E (QP (QX Qb P) g) st0)) wz):=hid (by rw[HEND.out];exact HP.out)
      have hx8:=JZ HX9.out (.int .i64 5) (.string c) tE (.slice ga gn gc) sN iZ iZ tE iZ sN sN (.slice ha hn' hc')
      obtain⟨⟨y0,y1,y2,y3,y4,y5,y6,y7,y8,y9,y10,y11⟩,-⟩:=c12p hx8
      refine bodyPost_ret (v:= .agg (cN 5 c ⟨#[]⟩ (.slice ga gn gc) sN (.slice ha hn' hc'))) (by simp[results,Tryz.results92,go_sem,y0,y1,y2,y3,y4,y5,y6,y7,y8,y9,y10,y11]) rfl ?_
      refine⟨⟨_,.mk 5 c ⟨#[]⟩ (ls++[nm]) [] zT (us++[u]),rfl,⟨(hnode.put12 (by omega) (.int .i64 5) (.string c) tE (.slice ga gn gc) sN iZ iZ tE iZ sN sN (.slice ha hn' hc')).mono (by omega),by intro h;cases h⟩,fun y hy=>by obtain⟨l,h2,rfl⟩:=HE.out y hy;rw[(HVL.out l h2).1,(HVL.out l h2).2]⟩,HPn.out.oth (X:=w.heap.size) (fun j hj=>QN hj (.int .i64 5) (.string c) tE (.slice ga gn gc) sN iZ iZ tE iZ sN sN (.slice ha hn' hc')) (QF _ _ (.int .i64 5) (.string c) tE (.slice ga gn gc) sN iZ iZ tE iZ sN sN (.slice ha hn' hc')) hR HLA.out,(HBo.out.trans HC.out).put12 lR (.int .i64 5) (.string c) tE (.slice ga gn gc) sN iZ iZ tE iZ sN sN (.slice ha hn' hc')⟩
end Go.Proofs.YtmnbheplkidfaaaGreatDoor
