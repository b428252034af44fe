/- Parsing: the reference's reader: values. (and what follows from it) -/
import Derived.Test.YtmnbheplkidfaaaGreatDoorPw14
set_option maxHeartbeats 16000000
set_option maxRecDepth 100000
namespace Go.Proofs.YtmnbheplkidfaaaGreatDoor
open Go.Lib (hid)
open Go.RowKit Go.Deep Go.Shelf
theorem NT:∀(f:Nat) (L:List UInt8) (a:Nat) (x:Tok.Item),x∈Tok.items f L a->x.k=2->Lx.wordLen x.t.data.toList=0
 |0,_,_,_,h,_=>by cases h
 |f+1,L,a,x,h,hk=>by
  rw[Tok.items] at h
  split at h
  ·split at h
   ·rw[mS h] at hk;cases hk
   ·next k n v htk=>
    rcases List.mem_cons.1 h with rfl|h
    ·have hk:k=2:=hk
     subst hk
     show Lx.wordLen ((L.drop a).take n)=0
     unfold Lx.tokL at htk
     split at htk
     ·injection htk with htk;injection htk with h1 _;cases h1
     ·next hw=>
      cases hd:L.drop a with
      |nil=>simp[Lx.wordLen]
      |cons c r=>
       rw[hd] at hw
       have hl:Lx.letU c=false:=by
        cases hc:Lx.letU c with
        |false=>rfl
        |true=>exact absurd (show 0<Lx.wordLen (c::r) by simp only[Lx.wordLen,hc,if_true];omega) hw
       cases n with
       |zero=>simp[Lx.wordLen]
       |succ n=>simp[Lx.wordLen,hl]
    ·exact NT f L _ x h hk
  ·cases h
def UA(all:List Tk):Prop:=∀x∈all,x.k=2->(x.t.toList==sTrue.toList)=false/\(x.t.toList==sFalse.toList)=false
theorem Scans.numOK{s:ByteArray}{I:List Tok.Item}(h:Scans s (.inl I)):UA (I.map tkOf):=by
 intro x hx hk
 obtain⟨y,hy,rfl⟩:=List.mem_map.1 hx
 rw[<-h.2.1] at hy
 have hw:=NT _ _ _ y hy hk
 have key:∀s:ByteArray,Lx.wordLen s.data.toList≠0->(y.t.toList==s.toList)=false:=fun s hs=>by
  cases hb:(y.t.toList==s.toList) with
  |false=>rfl
  |true=>exact absurd (by rw[<-XF hb];exact hw) hs
 exact⟨key sTrue (by decide+kernel),key sFalse (by decide+kernel)⟩
theorem NE(R:Nat)(la:Option Addr)(all:List Tk)(E:Int)(hall:UA all)(st:RS)(w:World)(h:RdIs R la all E st w):
 Calls Tryz.prog 119 #[.pointer (some ⟨R,0,none⟩)] w (Red R la all E w (pval Qb) st GVl):=by
 obtain⟨W1,hW1⟩:∃W1,w.alloc (.cells #[.int .i64 0,.string ⟨#[]⟩,.int .i64 0] 82)=W1:=⟨_,rfl⟩
 have hb1:=(made hW1).1
 have x1:=(made hW1).2
 have hs1:w.heap.size<W1.heap.size:=(gl x1)
 have hR:R<w.heap.size:=h.lt
 have HLA:=hid h.la
 have HP:Hid (RdIs R la all E st W1):=hid (h.to hb1)
 have HB:Hid (But R W1 W1):=hid (But.refl _ _)
 have HW1:=hid hW1
 have HB1:=hid hb1
 have HX1:=hid x1
 have HNUM:=hid (Gb R la all E st W1 HP.out)
 clear hW1 hb1 x1
 cases hb:Nf st with
 |true=>
  rw[hb] at HNUM
  obtain⟨x,r,rfl,hk⟩:=Ga hb
  have hmem:x∈all:=by
   obtain⟨_,_,_,_,_,_,_,_,n,_,_,hd⟩:=HP.out
   exact List.mem_of_getElem? (Zc hd).2.1
  have e:pval Qb (x::r)= .ok ⟨2,⟨#[]⟩,x.v⟩ r:=by rw[pval,if_neg (by rw[(hall x hmem hk).1];simp),if_neg (by rw[(hall x hmem hk).2];simp),if_pos hk]
  unfold Red
  rw[QM E e,JP e]
  clear e hk hb hmem h
  obtain⟨cap,a,p,e,h1,h2,h3,h4⟩:=HP.out
  obtain⟨rfl,n,rfl,hn,hd⟩:=h4
  obtain⟨hlt,hx,hdr⟩:=Zc hd
  obtain⟨hz,g,o,hla,hgl,hgR,e0,e1,e2,e3⟩:=h3 n x hx
  subst hla
  obtain⟨⟨q0,q1,q2,q3,q4⟩,z0,z1,z2,z3,z4⟩:=c5 h1
  have HX:=hid h1
  have HR3:=hid h3
  have HL2:=hid h2
  have HLT:=hid hlt
  have HDR:=hid hdr
  have HG:=hid (And.intro hgl hgR)
  clear h1 h3 hn hd hx hdr hgl hgR HP HB hz
  go_enter Tryz.func119,Tryz.ntmps119
  go_upto_region 1 with fail
  rw[HW1.out]
  go_upto_region 3 with(go_at_call 143;refine HNUM.out.mono ?_;rintro en wa⟨rfl,m,rfl⟩)
  have hrd:=MB (w':=W1.drewN m) HX.out HL2.out HR3.out ((But.refl R W1).to (below_drewN bR m)) HLT.out HDR.out
  have hx2:((W1.drewN m).setCell ⟨R,1,none⟩ (.int .i64 ((n:Int)+1))).heap[R]? =some (.cells #[.slice (some ⟨g,o,none⟩) all.length cap,.int .i64 ((n:Int)+1),.int .i64 E,.int .i64 0,.int .i64 p] 74 (0,0)):=Qd (W:=W1.drewN m) HX.out 1 _
  obtain⟨W2,hW2⟩:∃W2,(W1.drewN m).setCell ⟨R,1,none⟩ (.int .i64 ((n:Int)+1))=W2:=⟨_,rfl⟩
  rw[hW2] at hrd hx2 |-
  have HP:=hid hrd.1
  have HB:=hid hrd.2
  obtain⟨ln,hln⟩:∃ln,all.length=ln:=⟨_,rfl⟩
  rw[hln] at hx2 hlt h2
  replace e2:=(hrd.2.cell (p:=⟨g,_,none⟩) HG.out.1 HG.out.2).trans e2
  clear hW2 q0 q1 q2 q3 q4 z0 z1 z2 z3 z4 e0 e1 e3 hrd hln
  obtain⟨⟨q0,q1,q2,q3,q4⟩,z0,z1,z2,z3,z4⟩:=c5 hx2
  clear hx2 z0 z1 z2 z3 z4
  have hg1:decide ((n:Int)<(ln:Int))=true:=by simp;omega
  have hg2:decide ((0:Int)<=(n:Int))=true:=by simp
  have hsub:IntKind.i64.wrap (n:Int)=(n:Int):=by rw[IntKind.wrap_i64];omega
  have hsub2:(n:Int)+1-1=(n:Int):=by omega
  have hx9:Blk W2 w.heap.size #[.int .i64 0,.string ⟨#[]⟩,.int .i64 0] 82:=(HB.out.block w.heap.size hs1 (Nat.ne_of_gt hR)).trans HX1.out
  obtain⟨⟨r0,r1,r2⟩,z0,z1,z2⟩:=c3 hx9
  have HX9:=hid hx9
  clear hx9
  go_region
  obtain⟨W5,hW5⟩:∃W5,(put3 W2 w.heap.size (.int .i64 2) tE (.int .i64 x.v)).drew=W5:=⟨_,rfl⟩
  have hdrew:∀W:World,W.drew.heap=W.heap:=fun _=>rfl
  have hx8:W5.heap[w.heap.size]? =some (.cells #[.int .i64 2,.string ⟨#[]⟩,.int .i64 x.v] 82 (0,0)):=by rw[<-hW5,hdrew];exact Rk HX9.out (.int .i64 2) tE (.int .i64 x.v)
  have hp5:RdIs R (some ⟨g,o,none⟩) all E (.inl r) W5:=by rw[<-hW5];exact(HP.out.oth (fun _ hj=>Vi hj (.int .i64 2) tE (.int .i64 x.v)) (Xe _ _ (.int .i64 2) tE (.int .i64 x.v)) hR HLA.out).to bR.drew
  have hb5:But R w W5:=by rw[<-hW5];exact(((((But.of HB1.out).trans HB.out).setX lR 0 (.int .i64 2)).setX lR 1 tE).setX lR 2 (.int .i64 x.v)).to bR.drew
  have HP5:=hid hp5
  have HB5:=hid hb5
  rw[hW5]
  clear hW5 hdrew hp5 hb5 q0 q1 q2 q3 q4 r0 r1 r2 z0 z1 z2
  obtain⟨⟨y0,y1,y2⟩,-⟩:=c3 hx8
  clear hx8
  go_wp2_with fail
  refine bodyPost_ret (v:= .agg #[.int .i64 2,.string ⟨#[]⟩,.int .i64 x.v]) (by simp[results,Tryz.results119,go_sem,y0,y1,y2]) rfl ?_
  exact⟨⟨_,⟨2,⟨#[]⟩,x.v⟩,rfl,⟨rfl,Nat.zero_le _⟩,fun _ h=>by injection h⟩,HP5.out,HB5.out⟩
 |false=>
  rw[hb] at HNUM
  have hk:∀x r,st= .inl (x::r)->¬x.k=2:=fun x r e=>by subst e;have:(x.k==2)=false:=hb;simpa using this
  clear h
  cases q0:stHd sTrue st with
  |true=>
   have k0:((Qi st).toList==[116,114,117,101])=true:=Qt q0
   obtain⟨he1,he2⟩:=QC (F:=pval Qb) (G:=fun ts=> .ok ⟨3,⟨#[]⟩,1⟩ ts.tail) E (st:=st) (fun ts e=>by
    subst e
    cases ts with
    |nil=>cases q0
    |cons x r=>rw[pval,if_pos (show(x.t.toList==sTrue.toList)=true from q0)];rfl)
   obtain⟨hl1,hl2⟩:=Yb E (⟨3,⟨#[]⟩,1⟩:Vl) q0
   unfold Red
   rw[he1,he2,hl1]
   have HE:=hid hl2
   clear he1 he2 hl1 hl2
   obtain⟨t1,ht1⟩:∃t1,Qi st=t1:=⟨_,rfl⟩
   have HT1:=hid ht1
   rw[ht1] at k0
   clear ht1 hb hk q0
   go_enter Tryz.func119,Tryz.ntmps119
   go_upto_region 1 with fail
   rw[HW1.out]
   go_wp2_with (first|(go_at_call 143;refine HNUM.out.mono ?_;rintro en wa⟨rfl,m,rfl⟩;replace HP:=hid (HP.out.to (below_drewN bR m));replace HB:=hid (HB.out.to (below_drewN bR m)))|(go_at_call 58;refine(Qw R _ all E _ _ HP.out).mono ?_;rw[HT1.out];rintro en wn⟨rfl,hb⟩;replace HP:=hid (HP.out.to hb);replace HB:=hid (HB.out.to hb);clear hb)|(go_at_call 59;refine(QD R _ all E _ (by decide+kernel) _ _ HP.out).mono ?_;rintro en wo⟨rfl,hp,hb⟩;replace HP:=hid hp;replace HB:=hid (HB.out.trans hb);clear hp hb;have hx9:Blk wo w.heap.size #[.int .i64 0,.string ⟨#[]⟩,.int .i64 0] 82:=(HB.out.block w.heap.size hs1 (Nat.ne_of_gt hR)).trans HX1.out;obtain⟨⟨q0,q1,q2⟩,z0,z1,z2⟩:=c3 hx9;have HX9:=hid hx9;clear hx9))
   have hx8:=Rk HX9.out (.int .i64 3) tE (.int .i64 1)
   obtain⟨⟨y0,y1,y2⟩,-⟩:=c3 hx8
   refine bodyPost_ret (v:= .agg #[.int .i64 3,.string ⟨#[]⟩,.int .i64 1]) (by simp[results,Tryz.results119,go_sem,y0,y1,y2]) rfl ?_
   refine⟨⟨_,⟨3,⟨#[]⟩,1⟩,rfl,⟨rfl,Nat.zero_le _⟩,HE.out⟩,HP.out.oth (fun _ hj=>Vi hj (.int .i64 3) tE (.int .i64 1)) (Xe _ _ (.int .i64 3) tE (.int .i64 1)) hR HLA.out,((((But.of HB1.out).trans HB.out).setX lR 0 (.int .i64 3)).setX lR 1 tE).setX lR 2 (.int .i64 1)⟩
  |false=>
   cases q1:stHd sFalse st with
   |true=>
    have k0:((Qi st).toList==[116,114,117,101])=false:=Qt q0
    have k1:((Qi st).toList==[102,97,108,115,101])=true:=Qt q1
    obtain⟨he1,he2⟩:=QC (F:=pval Qb) (G:=fun ts=> .ok ⟨3,⟨#[]⟩,0⟩ ts.tail) E (st:=st) (fun ts e=>by
     subst e
     cases ts with
     |nil=>cases q1
     |cons x r=>rw[pval,if_neg (by rw[show(x.t.toList==sTrue.toList)=false from q0];simp),if_pos (show(x.t.toList==sFalse.toList)=true from q1)];rfl)
    obtain⟨hl1,hl2⟩:=Yb E (⟨3,⟨#[]⟩,0⟩:Vl) q1
    unfold Red
    rw[he1,he2,hl1]
    have HE:=hid hl2
    clear he1 he2 hl1 hl2
    obtain⟨t1,ht1⟩:∃t1,Qi st=t1:=⟨_,rfl⟩
    have HT1:=hid ht1
    rw[ht1] at k0 k1
    clear ht1 hb hk q0 q1
    go_enter Tryz.func119,Tryz.ntmps119
    go_upto_region 1 with fail
    rw[HW1.out]
    go_wp2_with (first|(go_at_call 143;refine HNUM.out.mono ?_;rintro en wa⟨rfl,m,rfl⟩;replace HP:=hid (HP.out.to (below_drewN bR m));replace HB:=hid (HB.out.to (below_drewN bR m)))|(go_at_call 58;refine(Qw R _ all E _ _ HP.out).mono ?_;rw[HT1.out];rintro en wn⟨rfl,hb⟩;replace HP:=hid (HP.out.to hb);replace HB:=hid (HB.out.to hb);clear hb)|(go_at_call 59;refine(QD R _ all E _ (by decide+kernel) _ _ HP.out).mono ?_;rintro en wo⟨rfl,hp,hb⟩;replace HP:=hid hp;replace HB:=hid (HB.out.trans hb);clear hp hb;have hx9:Blk wo w.heap.size #[.int .i64 0,.string ⟨#[]⟩,.int .i64 0] 82:=(HB.out.block w.heap.size hs1 (Nat.ne_of_gt hR)).trans HX1.out;obtain⟨⟨q0,q1,q2⟩,z0,z1,z2⟩:=c3 hx9;have HX9:=hid hx9;clear hx9))
    have hx8:=Rk HX9.out (.int .i64 3) tE iZ
    obtain⟨⟨y0,y1,y2⟩,-⟩:=c3 hx8
    refine bodyPost_ret (v:= .agg #[.int .i64 3,.string ⟨#[]⟩,.int .i64 0]) (by simp[results,Tryz.results119,go_sem,y0,y1,y2]) rfl ?_
    refine⟨⟨_,⟨3,⟨#[]⟩,0⟩,rfl,⟨rfl,Nat.zero_le _⟩,HE.out⟩,HP.out.oth (fun _ hj=>Vi hj (.int .i64 3) tE iZ) (Xe _ _ (.int .i64 3) tE iZ) hR HLA.out,((((But.of HB1.out).trans HB.out).setX lR 0 (.int .i64 3)).setX lR 1 tE).setX lR 2 iZ⟩
   |false=>
    have k0:((Qi st).toList==[116,114,117,101])=false:=Qt q0
    have k1:((Qi st).toList==[102,97,108,115,101])=false:=Qt q1
    obtain⟨he1,he2⟩:=QC (F:=pval Qb) (G:=fun ts=>(Qk Qb ts).bind fun n r=> .ok (⟨1,n,0⟩:Vl) r) E (st:=st) (fun ts e=>by
     subst e
     cases ts with
     |nil=>rfl
     |cons x r=>
      rw[pval,if_neg (by rw[show(x.t.toList==sTrue.toList)=false from q0];simp),if_neg (by rw[show(x.t.toList==sFalse.toList)=false from q1];simp),if_neg (hk x r rfl),Qk]
      split <;> rfl)
    have hl1:Qa E (fun ts=>(Qk Qb ts).bind fun n r=> .ok (⟨1,n,0⟩:Vl) r) st=Qa E (Qk Qb) st:=Qg (X:=fun s=>s) (fun _=>QU _ _ _) (fun _=>rfl)
    have hl2:∀y,Qj (fun ts=>(Qk Qb ts).bind fun n r=> .ok (⟨1,n,0⟩:Vl) r) st=some y->∃n,Qj (Qk Qb) st=some n/\(⟨1,n,0⟩:Vl)=y:=fun y hy=>by
     obtain⟨n,h1,h2⟩:=Qh E hy
     exact⟨n,h1,Jq h2⟩
    unfold Red
    rw[he1,he2,hl1]
    have HE:=hid hl2
    clear he1 he2 hl1 hl2
    obtain⟨t1,ht1⟩:∃t1,Qi st=t1:=⟨_,rfl⟩
    have HT1:=hid ht1
    rw[ht1] at k0 k1
    clear ht1 hb hk q0 q1
    go_enter Tryz.func119,Tryz.ntmps119
    go_upto_region 1 with fail
    rw[HW1.out]
    go_wp2_with (first|(go_at_call 143;refine HNUM.out.mono ?_;rintro en wa⟨rfl,m,rfl⟩;replace HP:=hid (HP.out.to (below_drewN bR m));replace HB:=hid (HB.out.to (below_drewN bR m)))|(go_at_call 58;refine(Qw R _ all E _ _ HP.out).mono ?_;rw[HT1.out];rintro en wn⟨rfl,hb⟩;replace HP:=hid (HP.out.to hb);replace HB:=hid (HB.out.to hb);clear hb)|(go_at_call 60;refine(Zv R _ all E _ _ HP.out).mono ?_;rintro en wo⟨⟨_,n,rfl,⟨rfl,hnz⟩,hv⟩,hp,hb⟩;have HNZ:=hid hnz;have HVn:=hid hv;clear hv hnz;replace HP:=hid hp;replace HB:=hid (HB.out.trans hb);clear hp hb;have hx9:Blk wo w.heap.size #[.int .i64 0,.string ⟨#[]⟩,.int .i64 0] 82:=(HB.out.block w.heap.size hs1 (Nat.ne_of_gt hR)).trans HX1.out;obtain⟨⟨q0,q1,q2⟩,z0,z1,z2⟩:=c3 hx9;have HX9:=hid hx9;clear hx9))
    have hx8:=Rk HX9.out (.int .i64 1) (.string n) iZ
    obtain⟨⟨y0,y1,y2⟩,-⟩:=c3 hx8
    refine bodyPost_ret (v:= .agg #[.int .i64 1,.string n,.int .i64 0]) (by simp[results,Tryz.results119,go_sem,y0,y1,y2]) rfl ?_
    refine⟨⟨_,⟨1,n,0⟩,rfl,⟨rfl,HNZ.out⟩,fun y hy=>by obtain⟨n',h1,rfl⟩:=HE.out y hy;rw[HVn.out n' h1]⟩,HP.out.oth (fun _ hj=>Vi hj (.int .i64 1) (.string n) iZ) (Xe _ _ (.int .i64 1) (.string n) iZ) hR HLA.out,((((But.of HB1.out).trans HB.out).setX lR 0 (.int .i64 1)).setX lR 1 (.string n)).setX lR 2 iZ⟩
end Go.Proofs.YtmnbheplkidfaaaGreatDoor
namespace Go.Proofs.YtmnbheplkidfaaaGreatDoor
open Go.RowKit Go.Deep Go.Shelf
def RRes{α:Type}(w:World)(r:α ⊕ (Int×Int))(G:Nat->World->α->Value->Prop)(zero:Value)(e:Ending)(w':World):Prop:=match r with
 | .inl x=>(∃v,e= .returned (.tuple #[v,.int .i64 0,.int .i64 0])/\G w.heap.size w' x v)/\Below w.heap.size w w'
 | .inr (er,p)=>e= .returned (.tuple #[zero,.int .i64 er,.int .i64 p])/\Below w.heap.size w w'
theorem Nz(R:Nat)(la:Option Addr)(all:List Tk)(E:Int)(hLab:∀g,KG R la all E (Ql Qb g) g->LabR R la all E (Ql Qb g) g g):∀f,KG R la all E (Ql Qb f) f
 |0,_,_,_,h=>absurd h (Nat.not_lt_zero _)
 |f+1,st,W,h,hl=>by
  match st with
  | .inr z=>exact Dm R la all E z _ W h
  | .inl ts=>
   have hl:ts.length+1<f+1:=hl
   obtain⟨g,rfl⟩:∃g,f=g+1:=⟨f-1,by omega⟩
   have ih:=Nz R la all E hLab (g+1)
   exact Dn R la all E ts W h g (by omega) ih (hLab (g+1) ih)
end Go.Proofs.YtmnbheplkidfaaaGreatDoor
namespace Go.Proofs.YtmnbheplkidfaaaGreatDoor
theorem GQ(E:Int)(S:List Tk->PR Ty)(g:Nat)(k:Int)(st:RS):Qa E (Jp Qb S g k) st=Qa E (need sKet) (Qa E (QP (QX Qb S) g) (Qa E (need sBra) (Qa E Zj st)))/\
 ∀y,Qj (Jp Qb S g k) st=some y->∃p l,Qj Zj st=some p/\Qj (QP (QX Qb S) g) (Qa E (need sBra) (Qa E Zj st))=some l/\Ty.mk k p ⟨#[]⟩ 0 (l.map (·.1)) (l.map (·.2))=y:=by
 have hc:∀st,Qa E (Ys Qb S g) st=Qa E (need sKet) (Qa E (QP (QX Qb S) g) (Qa E (need sBra) st)):=fun st=>
  Qg (X:=fun s=>Qa E (need sKet) (Qa E (QP (QX Qb S) g) s)) (fun _=>Qg (X:=fun s=>Qa E (need sKet) s) (fun l=>Qg (X:=fun s=>s) (fun _=>QU _ _ _) (fun _=>rfl)) (fun _=>rfl)) (fun _=>rfl)
 constructor
 ·exact Qg (X:=fun s=>Qa E (need sKet) (Qa E (QP (QX Qb S) g) (Qa E (need sBra) s))) (fun p=>(Qg (X:=fun s=>s) (fun l=>QU _ _ _) (fun _=>rfl)).trans (hc _)) (fun _=>rfl)
 ·intro y hy
  obtain⟨p,h1,h2⟩:=Qh E hy
  obtain⟨l,h3,h4⟩:=Qh E h2
  obtain⟨_,_,h6⟩:=Qh E h3
  obtain⟨m,h7,h8⟩:=Qh E h6
  obtain⟨_,_,h10⟩:=Qh E h8
  obtain rfl:m=l:=Jq h10
  exact⟨p,m,h1,h7,Jq h4⟩
theorem Xx{α:Type}(E:Int)(F:List Tk->PR α)(st:RS):Qa E (QX Qb F) st=Qa E F (Qa E (need QB) (Qa E (Qk Qb) st))/\
 ∀y,Qj (QX Qb F) st=some y->Qj (Qk Qb) st=some y.1/\Qj F (Qa E (need QB) (Qa E (Qk Qb) st))=some y.2:=by
 constructor
 ·exact Qg (X:=fun s=>Qa E F (Qa E (need QB) s)) (fun _=>Qg (X:=fun s=>Qa E F s) (fun l=>Qg (X:=fun s=>s) (fun _=>QU _ _ _) (fun _=>rfl)) (fun _=>rfl)) (fun _=>rfl)
 ·intro y hy
  obtain⟨n,h1,h2⟩:=Qh E hy
  obtain⟨_,_,h4⟩:=Qh E h2
  obtain⟨x,h5,h6⟩:=Qh E h4
  have e:=Jq h6
  subst e
  exact⟨h1,h5⟩
theorem Mh{α:Type}(E:Int)(F:List Tk->PR α)(g:Nat)(st:RS)(h:stHd QG (Qa E F st)=true):Qa E (QP F (g+1)) st=Qa E (QP F g) (Qa E (need QG) (Qa E F st))/\
 ∀l,Qj (QP F (g+1)) st=some l->∃x m,Qj F st=some x/\Qj (QP F g) (Qa E (need QG) (Qa E F st))=some m/\l=x::m:=by
 constructor
 ·exact Qg (X:=fun s=>Qa E (QP F g) (Qa E (need QG) s)) (fun a=>(Xc (P:=fun ts=>(QP F g ts).bind _) h).trans (Qg (X:=fun s=>s) (fun _=>QU _ _ _) (fun _=>rfl))) (fun _=>rfl)
 ·intro l hl
  obtain⟨x,h1,h2⟩:=Qh E hl
  rw[Vg (P:=fun ts=>(QP F g ts).bind _) E h] at h2
  obtain⟨m,h3,h4⟩:=Qh E h2
  exact⟨x,m,h1,h3,(Jq h4).symm⟩
theorem Mi{α:Type}(E:Int)(F:List Tk->PR α)(g:Nat)(st:RS)(h:stHd QG (Qa E F st)=false):Qa E (QP F (g+1)) st=Qa E F st/\
 ∀l,Qj (QP F (g+1)) st=some l->∃x,Qj F st=some x/\l=[x]:=by
 constructor
 ·exact Qg (X:=fun s=>s) (fun a=>(Xd h).trans (QU _ _ _)) (fun _=>rfl)
 ·intro l hl
  obtain⟨x,h1,h2⟩:=Qh E hl
  rw[Vh h] at h2
  exact⟨x,h1,(Jq h2).symm⟩
structure LabLeft{α:Type}(E:Int)(S:List Tk->PR α)(g:Nat)(st:RS)(ls:List ByteArray)(us:List α)(g2:Nat)(st2:RS):Prop where
 len:ls.length=us.length
 fuel:st2.len<g2
 step:Qa E (QP (QX Qb S) g) st=Qa E (QP (QX Qb S) g2) st2
 val:∀l,Qj (QP (QX Qb S) g) st=some l->∃m,Qj (QP (QX Qb S) g2) st2=some m/\l.map (·.1)=ls++m.map (·.1)/\l.map (·.2)=us++m.map (·.2)
theorem LabLeft.start{α:Type}(E:Int)(S:List Tk->PR α)(g:Nat)(st:RS)(h:st.len<g):LabLeft E S g st [] [] g st:=⟨rfl,h,rfl,fun l hl=>⟨l,hl,rfl,rfl⟩⟩
theorem LabLeft.more{α:Type}{E:Int}{S:List Tk->PR α}{g g2:Nat}{st st2:RS}{ls:List ByteArray}{us:List α}(h:LabLeft E S g st ls us (g2+1) st2){n:ByteArray}{u:α}
 (hn:∀y,Qj (Qk Qb) st2=some y->n=y) (hu:∀y,Qj S (Qa E (need QB) (Qa E (Qk Qb) st2))=some y->u=y)
 (hc:stHd QG (Qa E (QX Qb S) st2)=true) (hl:(Qa E (need QG) (Qa E (QX Qb S) st2)).len<g2):
 LabLeft E S g st (ls++[n]) (us++[u]) g2 (Qa E (need QG) (Qa E (QX Qb S) st2)):=by
 obtain⟨h1,h2⟩:=Mh E (QX Qb S) g2 st2 hc
 refine⟨by simp[h.len],hl,h.step.trans h1,fun l hl=>?_⟩
 obtain⟨m,hm,e1,e2⟩:=h.val l hl
 obtain⟨x,m2,h3,h4,rfl⟩:=h2 m hm
 obtain⟨h5,h6⟩:=(Xx E S st2).2 x h3
 refine⟨m2,h4,?_,?_⟩
 ·rw[e1,hn _ h5];simp
 ·rw[e2,hu _ h6];simp
theorem LabLeft.last{α:Type}{E:Int}{S:List Tk->PR α}{g g2:Nat}{st st2:RS}{ls:List ByteArray}{us:List α}(h:LabLeft E S g st ls us (g2+1) st2){n:ByteArray}{u:α}
 (hn:∀y,Qj (Qk Qb) st2=some y->n=y) (hu:∀y,Qj S (Qa E (need QB) (Qa E (Qk Qb) st2))=some y->u=y)
 (hc:stHd QG (Qa E (QX Qb S) st2)=false):
 Qa E (QP (QX Qb S) g) st=Qa E (QX Qb S) st2/\∀l,Qj (QP (QX Qb S) g) st=some l->l.map (·.1)=ls++[n]/\l.map (·.2)=us++[u]:=by
 obtain⟨h1,h2⟩:=Mi E (QX Qb S) g2 st2 hc
 refine⟨h.step.trans h1,fun l hl=>?_⟩
 obtain⟨m,hm,e1,e2⟩:=h.val l hl
 obtain⟨x,h3,rfl⟩:=h2 m hm
 obtain⟨h5,h6⟩:=(Xx E S st2).2 x h3
 rw[e1,e2,hn _ h5,hu _ h6]
 exact⟨rfl,rfl⟩
theorem LabLeft.err{α:Type}{E:Int}{S:List Tk->PR α}{g g2:Nat}{st:RS}{z:Int×Int}{ls:List ByteArray}{us:List α}(h:LabLeft E S g st ls us g2 (.inr z)):
 Qa E (QP (QX Qb S) g) st= .inr z/\∀l,Qj (QP (QX Qb S) g) st=some l->l.map (·.1)=ls/\l.map (·.2)=us:=
 ⟨h.step,fun l hl=>by obtain⟨m,hm,_⟩:=h.val l hl;cases hm⟩
end Go.Proofs.YtmnbheplkidfaaaGreatDoor
