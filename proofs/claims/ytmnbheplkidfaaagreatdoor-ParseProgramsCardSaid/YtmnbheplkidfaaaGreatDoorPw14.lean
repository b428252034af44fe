/- Parsing: the reference's reader: variables, payloads. (and what follows from it) -/
import Derived.Test.YtmnbheplkidfaaaGreatDoorPw13
set_option maxHeartbeats 16000000
set_option maxRecDepth 100000
namespace Go.Proofs.YtmnbheplkidfaaaGreatDoor
open Go.Lib (hid)
open Go.RowKit Go.Deep Go.Shelf
theorem QU{α:Type}(E:Int)(x:α)(st:RS):Qa E (fun r=> .ok x r) st=st:=by cases st <;> rfl
theorem Jq{α:Type}{x y:α}{st:RS}(h:Qj (fun r=> .ok x r) st=some y):x=y:=by
 cases st with
 |inr z=>cases h
 |inl ts=>injection h
theorem Qg{α β:Type}{E:Int}{A:List Tk->PR α}{B:α->List Tk->PR β}{st:RS}(X:RS->RS)(hB:∀a,Qa E (B a) (Qa E A st)=X (Qa E A st))(hX:∀z,X (.inr z)= .inr z):
 Qa E (fun ts=>(A ts).bind B) st=X (Qa E A st):=by
 match st with
 | .inr z=>exact(hX z).symm
 | .inl ts=>
  cases h:A ts with
  |bad e r=>
   rw[QE E h,hX]
   exact QE E (by show(A ts).bind B=_;rw[h];rfl)
  |ok a r=>
   have hB:=hB a
   rw[QM E h] at hB |-
   rw[<-hB]
   unfold Qa
   dsimp only
   rw[h]
   rfl
theorem Qh{α β:Type}(E:Int){A:List Tk->PR α}{B:α->List Tk->PR β}{st:RS}{y:β}(h:Qj (fun ts=>(A ts).bind B) st=some y):
 ∃a,Qj A st=some a/\Qj (B a) (Qa E A st)=some y:=by
 match st with
 | .inr z=>cases h
 | .inl ts=>
  cases hA:A ts with
  |bad e r=>
   rw[JM (show(A ts).bind B= .bad e r by rw[hA];rfl)] at h
   cases h
  |ok a r=>
   refine⟨a,JP hA,?_⟩
   rw[QM E hA]
   have e:Qj (fun ts=>(A ts).bind B) (.inl ts)=Qj (B a) (.inl r):=by
    unfold Qj
    dsimp only
    rw[hA]
    rfl
   rw[<-e];exact h
def stHd(s:ByteArray):RS->Bool
 | .inl ts=>hd s ts
 | .inr _=>false
theorem ZF{s:ByteArray}(hs:((⟨#[]⟩:ByteArray).toList==s.toList)=false)(st:RS):((Qi st).toList==s.toList)=stHd s st:=by
 match st with
 | .inr z=>exact hs
 | .inl []=>exact hs
 | .inl (x::r)=>rfl
theorem Qt{s:ByteArray}{L:List UInt8}{st:RS}{b:Bool}(hq:stHd s st=b)(h1:s.toList=L:=by decide +kernel)(h2:((⟨#[]⟩:ByteArray).toList==s.toList)=false:=by decide +kernel):((Qi st).toList==L)=b:=by rw[<-h1];exact(ZF h2 _).trans hq
theorem Xc{α:Type}{E:Int}{s:ByteArray}{P Q:List Tk->PR α}{st:RS}(h:stHd s st=true):Qa E (fun ts=>if hd s ts=true then P ts.tail else Q ts) st=Qa E P (Qa E (need s) st):=by
 match st with
 | .inr z=>cases h
 | .inl ts=>
  have h:hd s ts=true:=h
  rw[QM E (show need s ts= .ok () ts.tail from if_pos h)]
  unfold Qa
  dsimp only
  rw[if_pos h]
theorem Xd{α:Type}{E:Int}{s:ByteArray}{P Q:List Tk->PR α}{st:RS}(h:stHd s st=false):Qa E (fun ts=>if hd s ts=true then P ts else Q ts) st=Qa E Q st:=by
 match st with
 | .inr z=>rfl
 | .inl ts=>
  have h:¬hd s ts=true:=by rw[show hd s ts=false from h];simp
  unfold Qa
  dsimp only
  rw[if_neg h]
theorem Vg{α:Type}(E:Int){s:ByteArray}{P Q:List Tk->PR α}{st:RS}(h:stHd s st=true):Qj (fun ts=>if hd s ts=true then P ts.tail else Q ts) st=Qj P (Qa E (need s) st):=by
 match st with
 | .inr z=>cases h
 | .inl ts=>
  have h:hd s ts=true:=h
  rw[QM E (show need s ts= .ok () ts.tail from if_pos h)]
  unfold Qj
  dsimp only
  rw[if_pos h]
theorem Vh{α:Type}{s:ByteArray}{P Q:List Tk->PR α}{st:RS}(h:stHd s st=false):Qj (fun ts=>if hd s ts=true then P ts else Q ts) st=Qj Q st:=by
 match st with
 | .inr z=>rfl
 | .inl ts=>
  have h:¬hd s ts=true:=by rw[show hd s ts=false from h];simp
  unfold Qj
  dsimp only
  rw[if_neg h]
def LaLt(la:Option Addr)(all:List Tk)(n:Nat):Prop:=∀(j:Nat) (x:Tk),all[j]? =some x->∀g o,la=some ⟨g,o,none⟩->g<n
theorem RdIs.la{R:Nat}{la:Option Addr}{all:List Tk}{E:Int}{st:RS}{w:World}(h:RdIs R la all E st w):LaLt la all w.heap.size:=by
 obtain⟨cap,a,p,e,h1,h2,h3,h4⟩:=h
 intro j x hj g o hla
 obtain⟨_,g',o',e0,e1,_⟩:=h3 j x hj
 rw[hla] at e0
 injection e0 with e0
 injection e0 with e0 _ _
 omega
theorem RdIs.oth{R X:Nat}{la:Option Addr}{all:List Tk}{E:Int}{st:RS}{w w':World}(h:RdIs R la all E st w)(hk:∀k,k≠X->w'.heap[k]? =w.heap[k]?)(hs:w'.heap.size=w.heap.size)(hX:R<X)(hne:LaLt la all X):RdIs R la all E st w':=by
 obtain⟨cap,a,p,e,h1,h2,h3,h4⟩:=h
 refine⟨cap,a,p,e,(hk R (Nat.ne_of_lt hX)).trans h1,h2,fun j x hj=>?_,h4⟩
 obtain⟨h0,g,o,e0,e1,e2,c0,c1,c2,c3⟩:=h3 j x hj
 have hb:=hk g (Nat.ne_of_lt (hne j x hj g o e0))
 exact⟨h0,g,o,e0,by rw[hs];exact e1,e2,by simpa only[World.cell?,hb] using c0,by simpa only[World.cell?,hb] using c1,by simpa only[World.cell?,hb] using c2,by simpa only[World.cell?,hb] using c3⟩
theorem LaLt.mono{la:Option Addr}{all:List Tk}{n m:Nat}(h:LaLt la all n)(hm:n<=m):LaLt la all m:=fun j x hj g o e=>lL (h j x hj g o e) hm
theorem RdIs.put6{R X:Nat}{la:Option Addr}{all:List Tk}{E:Int}{st:RS}{w:World}(h:RdIs R la all E st w)(hX:R<X)(hne:LaLt la all X)(a b c d e f:Value):RdIs R la all E st (put6 w X a b c d e f):=
 h.oth (fun _ hj=>ZS hj a b c d e f) (Yu _ _ a b c d e f) hX hne
theorem Wy{st:RS}(E:Int)(h:stHd sPlus (Qa E (Qk Qb) st)=false):Qa E (pvar Qb) st=Qa E (Qk Qb) st/\∀y,Qj (pvar Qb) st=some y->∃n,Qj (Qk Qb) st=some n/\Ty.mk 9 0 n 0 [] []=y:=by
 constructor
 ·exact Qg (X:=fun s=>s) (fun a=>(Xd h).trans (QU _ _ _)) (fun _=>rfl)
 ·intro y hy
  obtain⟨n,h1,h2⟩:=Qh E hy
  rw[Vh h] at h2
  exact⟨n,h1,Jq h2⟩
theorem RH{st:RS}(E:Int)(h:stHd sPlus (Qa E (Qk Qb) st)=true):Qa E (pvar Qb) st=Qa E QO (Qa E (need sPlus) (Qa E (Qk Qb) st))/\∀y,Qj (pvar Qb) st=some y->∃n s,Qj (Qk Qb) st=some n/\Qj QO (Qa E (need sPlus) (Qa E (Qk Qb) st))=some s/\Ty.mk 9 0 n s [] []=y:=by
 constructor
 ·exact Qg (X:=fun s=>Qa E QO (Qa E (need sPlus) s)) (fun a=>(Xc (P:=fun ts=>(QO ts).bind _) h).trans (Qg (X:=fun s=>s) (fun _=>QU _ _ _) (fun _=>rfl))) (fun _=>rfl)
 ·intro y hy
  obtain⟨n,h1,h2⟩:=Qh E hy
  rw[Vg (P:=fun ts=>(QO ts).bind _) E h] at h2
  obtain⟨s,h3,h4⟩:=Qh E h2
  exact⟨n,s,h1,h3,Jq h4⟩
theorem ND(R:Nat)(la:Option Addr)(all:List Tk)(E:Int)(st:RS)(w:World)(h:RdIs R la all E st w):
 Calls Tryz.prog 100 #[.pointer (some ⟨R,0,none⟩)] w (Red R la all E w (pvar Qb) st (GTy w.heap.size)):=by
 obtain⟨W1,hW1⟩:∃W1,w.alloc (.cells z6 28)=W1:=⟨_,rfl⟩
 have hb1:=(made hW1).1
 have x1:=(made hW1).2
 have hs1:w.heap.size<W1.heap.size:=(gl x1)
 have hR:R<w.heap.size:=h.lt
 have HLA:=hid h.la
 have HP:Hid (RdIs R la all E st W1):=hid (h.to hb1)
 have HB:Hid (But R W1 W1):=hid (But.refl _ _)
 have HW1:=hid hW1
 have HB1:=hid hb1
 have HX1:=hid x1
 clear hW1 hb1 x1 h
 cases hq:stHd sPlus (Qa E (Qk Qb) st) with
 |false=>
  obtain⟨he1,he2⟩:=Wy E hq
  unfold Red
  rw[he1]
  have HE:=hid he2
  have hq2:((Qi (Qa E (Qk Qb) st)).toList==[43])=false:=Qt hq
  obtain⟨t1,ht1⟩:∃t1,Qi (Qa E (Qk Qb) st)=t1:=⟨_,rfl⟩
  have HT1:=hid ht1
  rw[ht1] at hq2
  clear he1 he2 ht1 hq
  go_enter Tryz.func100,Tryz.ntmps100
  go_upto_region 1 with fail
  rw[HW1.out]
  go_upto_region 2 with(go_at_call 60;refine(Zv R _ all E _ _ HP.out).mono ?_;rintro en wn⟨⟨_,n,rfl,⟨rfl,hnz⟩,hv⟩,hp,hb⟩;have HNZ:=hid hnz;have HVn:=hid hv;clear hv hnz;replace HP:=hid hp;replace HB:=hid (HB.out.trans hb);clear hp hb)
  obtain⟨W3,hW3⟩:∃W3,wn.alloc (.cells #[.int .i64 9,.int .i64 0,.string n,.int .i64 0,.slice none 0 0,.slice none 0 0] 28)=W3:=⟨_,rfl⟩
  have hbx:=(made hW3).1
  have xx:=(made hW3).2
  have hlx:wn.heap.size<W3.heap.size:=(gl xx)
  have hsx:W1.heap.size<=wn.heap.size:=HB.out.size
  have hnx:wn.heap.size≠R:=by omega
  have HPn:=hid (HP.out.to hbx)
  have HBn:=hid (HB.out.to hbx)
  have HC:Hid (But R W3 W3):=hid (But.refl _ _)
  have HXX:=hid xx
  rw[hW3]
  clear HP HB hW3 hbx xx
  have HP:=HPn
  have HB:=HBn
  clear HPn HBn
  go_upto_region 5 with(go_at_call 58;refine(Qw R _ all E _ _ HP.out).mono ?_;rw[HT1.out];rintro en wm⟨rfl,hb⟩;replace HP:=hid (HP.out.to hb);replace HB:=hid (HB.out.to hb);replace HC:=hid (HC.out.to hb);clear hb)
  have hx3:=(HC.out.block wn.heap.size hlx hnx).trans HXX.out
  obtain⟨⟨d0,d1,d2,d3,d4,d5⟩,-⟩:=c6 hx3
  clear hx3
  have hx9:Blk wm w.heap.size z6 28:=(HB.out.block w.heap.size hs1 (Nat.ne_of_gt hR)).trans HX1.out
  obtain⟨⟨q0,q1,q2,q3,q4,q5⟩,z0,z1,z2,z3,z4,z5⟩:=c6 hx9
  have HX9:=hid hx9
  clear hx9
  go_wp2_with fail
  have hx8:=ZB HX9.out (.int .i64 9) iZ (.string n) iZ sN sN
  obtain⟨⟨y0,y1,y2,y3,y4,y5⟩,-⟩:=c6 hx8
  refine bodyPost_ret (v:= .agg #[.int .i64 9,.int .i64 0,.string n,.int .i64 0,.slice none 0 0,.slice none 0 0]) (by simp[results,Tryz.results100,go_sem,y0,y1,y2,y3,y4,y5]) rfl ?_
  refine⟨⟨_,Ty.mk 9 0 n 0 [] [],rfl,GTy.leaf _ _ 9 0 0 n HNZ.out,fun y hy=>by obtain⟨n',h1,rfl⟩:=HE.out y hy;rw[HVn.out n' h1]⟩,HP.out.put6 hR HLA.out (.int .i64 9) iZ (.string n) iZ sN sN,((But.of HB1.out).trans HB.out).put6 lR (.int .i64 9) iZ (.string n) iZ sN sN⟩
 |true=>
  obtain⟨he1,he2⟩:=RH E hq
  unfold Red
  rw[he1]
  have HE:=hid he2
  have hq2:((Qi (Qa E (Qk Qb) st)).toList==[43])=true:=Qt hq
  obtain⟨t1,ht1⟩:∃t1,Qi (Qa E (Qk Qb) st)=t1:=⟨_,rfl⟩
  have HT1:=hid ht1
  rw[ht1] at hq2
  clear he1 he2 ht1 hq
  go_enter Tryz.func100,Tryz.ntmps100
  go_upto_region 1 with fail
  rw[HW1.out]
  go_upto_region 2 with(go_at_call 60;refine(Zv R _ all E _ _ HP.out).mono ?_;rintro en wn⟨⟨_,n,rfl,⟨rfl,hnz⟩,hv⟩,hp,hb⟩;have HNZ:=hid hnz;have HVn:=hid hv;clear hv hnz;replace HP:=hid hp;replace HB:=hid (HB.out.trans hb);clear hp hb)
  obtain⟨W3,hW3⟩:∃W3,wn.alloc (.cells #[.int .i64 9,.int .i64 0,.string n,.int .i64 0,.slice none 0 0,.slice none 0 0] 28)=W3:=⟨_,rfl⟩
  have hbx:=(made hW3).1
  have xx:=(made hW3).2
  have hlx:wn.heap.size<W3.heap.size:=(gl xx)
  have hsx:W1.heap.size<=wn.heap.size:=HB.out.size
  have hnx:wn.heap.size≠R:=by omega
  have HPn:=hid (HP.out.to hbx)
  have HBn:=hid (HB.out.to hbx)
  have HC:Hid (But R W3 W3):=hid (But.refl _ _)
  have HXX:=hid xx
  rw[hW3]
  clear HP HB hW3 hbx xx
  have HP:=HPn
  have HB:=HBn
  clear HPn HBn
  go_upto_region 4 with(first|(go_at_call 58;refine(Qw R _ all E _ _ HP.out).mono ?_;rw[HT1.out];rintro en wm⟨rfl,hb⟩;replace HP:=hid (HP.out.to hb);replace HB:=hid (HB.out.to hb);replace HC:=hid (HC.out.to hb);clear hb)|(go_at_call 59;refine(QD R _ all E _ (by decide+kernel) _ _ HP.out).mono ?_;rintro en wo⟨rfl,hp,hb⟩;replace HP:=hid hp;replace HB:=hid (HB.out.trans hb);replace HC:=hid (HC.out.trans hb);clear hp hb))
  go_upto_region 5 with(go_at_call 127;refine(Nx R _ all E _ _ HP.out).mono ?_;rintro en wp⟨⟨_,sh,rfl,rfl,hv⟩,hp,hb⟩;have HVsh:=hid hv;clear hv;replace HP:=hid hp;replace HB:=hid (HB.out.trans hb);replace HC:=hid (HC.out.trans hb);clear hp hb;have hx3:=(HC.out.block wn.heap.size hlx hnx).trans HXX.out;obtain⟨⟨e0,e1,e2,e3,e4,e5⟩,g0,g1,g2,g3,g4,g5⟩:=c6 hx3;have HX3:=hid hx3;clear hx3)
  obtain⟨W6,hW6⟩:∃W6,wp.setCell ⟨wn.heap.size,3,none⟩ (.int .i64 sh)=W6:=⟨_,rfl⟩
  have hx6:W6.heap[wn.heap.size]? =some (.cells #[.int .i64 9,.int .i64 0,.string n,.int .i64 sh,.slice none 0 0,.slice none 0 0] 28 (0,0)):=by rw[<-hW6];exact Qd HX3.out 3 _
  have HPn:Hid (RdIs R la all E _ W6):=hid (by rw[<-hW6];exact HP.out.oth (X:=wn.heap.size) (fun j hj=>oth1 _ _ _ hj) (by simp[World.setCell]) (by omega) (HLA.out.mono (by omega)))
  have HBn:Hid (But R W1 W6):=hid (by rw[<-hW6];exact HB.out.setX hsx 3 _)
  rw[hW6]
  clear HP HB HC hW6 e0 e1 e2 e3 e4 e5 g0 g1 g2 g3 g4 g5
  have HP:=HPn
  have HB:=HBn
  clear HPn HBn
  obtain⟨⟨d0,d1,d2,d3,d4,d5⟩,-⟩:=c6 hx6
  clear hx6
  have hx9:Blk W6 w.heap.size z6 28:=(HB.out.block w.heap.size hs1 (Nat.ne_of_gt hR)).trans HX1.out
  obtain⟨⟨q0,q1,q2,q3,q4,q5⟩,z0,z1,z2,z3,z4,z5⟩:=c6 hx9
  have HX9:=hid hx9
  clear hx9
  go_wp2_with fail
  have hx8:=ZB HX9.out (.int .i64 9) iZ (.string n) (.int .i64 sh) sN sN
  obtain⟨⟨y0,y1,y2,y3,y4,y5⟩,-⟩:=c6 hx8
  refine bodyPost_ret (v:= .agg #[.int .i64 9,.int .i64 0,.string n,.int .i64 sh,.slice none 0 0,.slice none 0 0]) (by simp[results,Tryz.results100,go_sem,y0,y1,y2,y3,y4,y5]) rfl ?_
  refine⟨⟨_,Ty.mk 9 0 n sh [] [],rfl,GTy.leaf _ _ 9 0 sh n HNZ.out,fun y hy=>by obtain⟨n',s',h1,h2,rfl⟩:=HE.out y hy;rw[HVn.out n' h1,HVsh.out s' h2]⟩,HP.out.put6 hR HLA.out (.int .i64 9) iZ (.string n) (.int .i64 sh) sN sN,((But.of HB1.out).trans HB.out).put6 lR (.int .i64 9) iZ (.string n) (.int .i64 sh) sN sN⟩
theorem XF{a b:ByteArray}(h:(a.toList==b.toList)=true):a=b:=by
 have h:a.toList=b.toList:=by simpa using h
 rw[Lib.toList_data,Lib.toList_data] at h
 obtain⟨⟨l⟩⟩:=a
 obtain⟨⟨m⟩⟩:=b
 obtain rfl:l=m:=h
 rfl
theorem Qx{s s':ByteArray}{ts:List Tk}(h:hd s ts=true)(hne:(s.toList==s'.toList)=false):hd s' ts=false:=by
 cases ts with
 |nil=>rfl
 |cons x r=>
  have e:x.t=s:=XF h
  show(x.t.toList==s'.toList)=false
  rw[e];exact hne
theorem QC{α:Type}(E:Int){F G:List Tk->PR α}{st:RS}(h:∀ts,st= .inl ts->F ts=G ts):Qa E F st=Qa E G st/\Qj F st=Qj G st:=by
 match st with
 | .inr z=>exact⟨rfl,rfl⟩
 | .inl ts=>
  have h:=h ts rfl
  unfold Qa Qj
  dsimp only
  rw[h]
  exact⟨rfl,rfl⟩
theorem Yb{α:Type}(E:Int)(x:α){s:ByteArray}{st:RS}(h:stHd s st=true):Qa E (fun ts=> .ok x ts.tail) st=Qa E (need s) st/\∀y,Qj (fun ts=>PR.ok x ts.tail) st=some y->x=y:=by
 match st with
 | .inr z=>cases h
 | .inl ts=>
  rw[QM E (show need s ts= .ok () ts.tail from if_pos h)]
  exact⟨rfl,fun y hy=>by injection hy⟩
abbrev lfT(k:Int):Ty:= .mk k 0 ⟨#[]⟩ 0 [] []
theorem Rw{S:List Tk->PR Ty}{ts:List Tk}(h1:hd sBang ts=false)(h2:hd sAsk ts=false)(h3:hd sPlus ts=false)(h4:hd sAnd ts=false)(h5:hd sRec ts=false):JO S ts=Js S ts:=by
 unfold JO
 rw[if_neg (by rw[h1,h2,h3,h4,h5];simp)]
theorem UK{s:ByteArray}{ts:List Tk}(h:hd s ts=true)(c:((s.toList==sBang.toList)||(s.toList==sAsk.toList)||(s.toList==sPlus.toList)||(s.toList==sAnd.toList)||(s.toList==sRec.toList))=false)(S:List Tk->PR Ty):JO S ts=Js S ts:=by
 simp only[Bool.or_eq_false_iff] at c
 exact Rw (Qx h c.1.1.1.1) (Qx h c.1.1.1.2) (Qx h c.1.1.2) (Qx h c.1.2) (Qx h c.2)
theorem LJ{S:List Tk->PR Ty}{ts:List Tk}(h:hd sInt ts=true):JO S ts= .ok (lfT 1) ts.tail:=by
 rw[UK h (by decide+kernel)]
 unfold Js
 rw[if_pos h]
theorem Su{S:List Tk->PR Ty}{ts:List Tk}(h:hd sBool ts=true):JO S ts= .ok (lfT 2) ts.tail:=by
 rw[UK h (by decide+kernel)]
 unfold Js
 rw[if_neg (by rw[Qx h (by decide+kernel)];simp),if_pos h]
theorem Fv{s:ByteArray}{S:List Tk->PR Ty}{ts:List Tk}(h:hd s ts=true)(c:((s.toList==sBang.toList)||(s.toList==sAsk.toList)||(s.toList==sPlus.toList)||(s.toList==sAnd.toList)||(s.toList==sRec.toList))=false)(c1:(s.toList==sInt.toList)=false)(c2:(s.toList==sBool.toList)=false):JO S ts=S ts:=by
 rw[UK h c]
 unfold Js
 rw[if_neg (by rw[Qx h c1];simp),if_neg (by rw[Qx h c2];simp)]
theorem LK{g:Nat}{ts:List Tk}(h:hd sEnd ts=true):JO (Ql Qb (g+1)) ts= .ok (lfT 3) ts.tail:=by
 rw[Fv h (by decide+kernel) (by decide+kernel) (by decide+kernel),Ql,if_pos h]
theorem Ss{S:List Tk->PR Ty}{ts:List Tk}(h:hd QI ts=true):JO S ts=S ts:=Fv h (by decide+kernel) (by decide+kernel) (by decide+kernel)
theorem Ln{s:ByteArray}{ts:List Tk}(h:hd s ts=true)(hs:Qb s=false):pvar Qb ts= .bad 1 ts:=by
 cases ts with
 |nil=>cases h
 |cons x r=>
  have e:x.t=s:=XF h
  have e2:Qk Qb (x::r)= .bad 1 (x::r):=by rw[Qk,if_neg (by rw[e,hs];simp)]
  unfold pvar
  rw[e2]
  rfl
theorem Fi{g:Nat}{ts:List Tk}(h0:hd sEnd ts=false)(h1:hd sBang ts=false)(h2:hd sAsk ts=false)(h3:hd sPlus ts=false)(h4:hd sAnd ts=false)(h5:hd sRec ts=false)(h6:hd QI ts=false):Ql Qb (g+1) ts=pvar Qb ts:=by
 rw[Ql,if_neg (by rw[h0];simp),if_neg (by rw[h1];simp),if_neg (by rw[h2];simp),if_neg (by rw[h3];simp),if_neg (by rw[h4];simp),if_neg (by rw[h5];simp),if_neg (by rw[h6];simp)]
theorem LI{g:Nat}{ts:List Tk}(hi:hd sInt ts=false)(hb:hd sBool ts=false)(h0:hd sEnd ts=false)(h6:hd QI ts=false):JO (Ql Qb (g+1)) ts=pvar Qb ts:=by
 by_cases hh:hd sBang ts=true\/hd sAsk ts=true\/hd sPlus ts=true\/hd sAnd ts=true\/hd sRec ts=true
 ·have e:JO (Ql Qb (g+1)) ts= .bad 1 ts:=by unfold JO;rw[if_pos hh]
  rw[e]
  rcases hh with h|h|h|h|h <;> exact(Ln h (by decide+kernel)).symm
 ·have hh':=hh
  simp only[not_or,Bool.not_eq_true] at hh'
  obtain⟨h1,h2,h3,h4,h5⟩:=hh'
  rw[Rw h1 h2 h3 h4 h5]
  unfold Js
  rw[if_neg (by rw[hi];simp),if_neg (by rw[hb];simp)]
  exact Fi h0 h1 h2 h3 h4 h5 h6
def RS.len:RS->Nat
 | .inl ts=>ts.length+1
 | .inr _=>0
def KG(R:Nat)(la:Option Addr)(all:List Tk)(E:Int)(S:List Tk->PR Ty)(n:Nat):Prop:=∀st W,RdIs R la all E st W->st.len<n->Calls Tryz.prog 72 #[.pointer (some ⟨R,0,none⟩)] W (Red R la all E W S st (GTy W.heap.size))
theorem UV(R:Nat)(la:Option Addr)(all:List Tk)(E:Int)(st:RS)(w:World)(h:RdIs R la all E st w)(g n:Nat)(hS:KG R la all E (Ql Qb (g+1)) n)(hn:st.len<n):
 Calls Tryz.prog 71 #[.pointer (some ⟨R,0,none⟩)] w (Red R la all E w (JO (Ql Qb (g+1))) st (GTy w.heap.size)):=by
 have HS:=hid hS
 have HN:=hid hn
 clear hS hn
 obtain⟨W1,hW1⟩:∃W1,w.alloc (.cells z6 28)=W1:=⟨_,rfl⟩
 have hb1:=(made hW1).1
 have x1:=(made hW1).2
 have hs1:w.heap.size<W1.heap.size:=(gl x1)
 have hR:R<w.heap.size:=h.lt
 have HLA:=hid h.la
 have HP:Hid (RdIs R la all E st W1):=hid (h.to hb1)
 have HB:Hid (But R W1 W1):=hid (But.refl _ _)
 have HW1:=hid hW1
 have HB1:=hid hb1
 have HX1:=hid x1
 clear hW1 hb1 x1 h
 cases q0:stHd sInt st with
 |true=>
  have k0:((Qi st).toList==[105,110,116])=true:=Qt q0
  obtain⟨he1,he2⟩:=QC (F:=JO (Ql Qb (g+1))) (G:=fun ts=> .ok (lfT 1) ts.tail) E (st:=st) (fun ts e=>LJ (by rw[e] at q0;exact q0))
  obtain⟨hl1,hl2⟩:=Yb E (lfT 1) q0
  unfold Red
  rw[he1,he2,hl1]
  have HE:=hid hl2
  clear he1 he2 hl1 hl2
  obtain⟨t1,ht1⟩:∃t1,Qi st=t1:=⟨_,rfl⟩
  have HT1:=hid ht1
  rw[ht1] at k0
  clear ht1 q0
  go_enter Tryz.func71,Tryz.ntmps71
  go_upto_region 1 with fail
  rw[HW1.out]
  go_wp2_with (first|(go_at_call 58;refine(Qw R _ all E _ _ HP.out).mono ?_;rw[HT1.out];rintro en wn⟨rfl,hb⟩;replace HP:=hid (HP.out.to hb);replace HB:=hid (HB.out.to hb);clear hb)|(go_at_call 59;refine(QD R _ all E _ (by decide+kernel) _ _ HP.out).mono ?_;rintro en wo⟨rfl,hp,hb⟩;replace HP:=hid hp;replace HB:=hid (HB.out.trans hb);clear hp hb;have hx9:Blk wo w.heap.size z6 28:=(HB.out.block w.heap.size hs1 (Nat.ne_of_gt hR)).trans HX1.out;obtain⟨⟨q0,q1,q2,q3,q4,q5⟩,z0,z1,z2,z3,z4,z5⟩:=c6 hx9;have HX9:=hid hx9;clear hx9))
  have hx8:=ZB HX9.out (.int .i64 1) iZ tE iZ sN sN
  obtain⟨⟨y0,y1,y2,y3,y4,y5⟩,-⟩:=c6 hx8
  refine bodyPost_ret (v:= .agg #[.int .i64 1,.int .i64 0,.string ⟨#[]⟩,.int .i64 0,.slice none 0 0,.slice none 0 0]) (by simp[results,Tryz.results71,go_sem,y0,y1,y2,y3,y4,y5]) rfl ?_
  refine⟨⟨_,lfT 1,rfl,GTy.leaf _ _ 1 0 0 ⟨#[]⟩ (Nat.zero_le _),HE.out⟩,HP.out.put6 hR HLA.out (.int .i64 1) iZ tE iZ sN sN,((But.of HB1.out).trans HB.out).put6 lR (.int .i64 1) iZ tE iZ sN sN⟩
 |false=>
  cases q1:stHd sBool st with
  |true=>
   have k0:((Qi st).toList==[105,110,116])=false:=Qt q0
   have k1:((Qi st).toList==[98,111,111,108])=true:=Qt q1
   obtain⟨he1,he2⟩:=QC (F:=JO (Ql Qb (g+1))) (G:=fun ts=> .ok (lfT 2) ts.tail) E (st:=st) (fun ts e=>Su (by rw[e] at q1;exact q1))
   obtain⟨hl1,hl2⟩:=Yb E (lfT 2) q1
   unfold Red
   rw[he1,he2,hl1]
   have HE:=hid hl2
   clear he1 he2 hl1 hl2
   obtain⟨t1,ht1⟩:∃t1,Qi st=t1:=⟨_,rfl⟩
   have HT1:=hid ht1
   rw[ht1] at k0 k1
   clear ht1 q0 q1
   go_enter Tryz.func71,Tryz.ntmps71
   go_upto_region 1 with fail
   rw[HW1.out]
   go_wp2_with (first|(go_at_call 58;refine(Qw R _ all E _ _ HP.out).mono ?_;rw[HT1.out];rintro en wn⟨rfl,hb⟩;replace HP:=hid (HP.out.to hb);replace HB:=hid (HB.out.to hb);clear hb)|(go_at_call 59;refine(QD R _ all E _ (by decide+kernel) _ _ HP.out).mono ?_;rintro en wo⟨rfl,hp,hb⟩;replace HP:=hid hp;replace HB:=hid (HB.out.trans hb);clear hp hb;have hx9:Blk wo w.heap.size z6 28:=(HB.out.block w.heap.size hs1 (Nat.ne_of_gt hR)).trans HX1.out;obtain⟨⟨q0,q1,q2,q3,q4,q5⟩,z0,z1,z2,z3,z4,z5⟩:=c6 hx9;have HX9:=hid hx9;clear hx9))
   have hx8:=ZB HX9.out (.int .i64 2) iZ tE iZ sN sN
   obtain⟨⟨y0,y1,y2,y3,y4,y5⟩,-⟩:=c6 hx8
   refine bodyPost_ret (v:= .agg #[.int .i64 2,.int .i64 0,.string ⟨#[]⟩,.int .i64 0,.slice none 0 0,.slice none 0 0]) (by simp[results,Tryz.results71,go_sem,y0,y1,y2,y3,y4,y5]) rfl ?_
   refine⟨⟨_,lfT 2,rfl,GTy.leaf _ _ 2 0 0 ⟨#[]⟩ (Nat.zero_le _),HE.out⟩,HP.out.put6 hR HLA.out (.int .i64 2) iZ tE iZ sN sN,((But.of HB1.out).trans HB.out).put6 lR (.int .i64 2) iZ tE iZ sN sN⟩
  |false=>
   cases q2:stHd sEnd st with
   |true=>
    have k0:((Qi st).toList==[105,110,116])=false:=Qt q0
    have k1:((Qi st).toList==[98,111,111,108])=false:=Qt q1
    have k2:((Qi st).toList==[101,110,100])=true:=Qt q2
    obtain⟨he1,he2⟩:=QC (F:=JO (Ql Qb (g+1))) (G:=fun ts=> .ok (lfT 3) ts.tail) E (st:=st) (fun ts e=>LK (by rw[e] at q2;exact q2))
    obtain⟨hl1,hl2⟩:=Yb E (lfT 3) q2
    unfold Red
    rw[he1,he2,hl1]
    have HE:=hid hl2
    clear he1 he2 hl1 hl2
    obtain⟨t1,ht1⟩:∃t1,Qi st=t1:=⟨_,rfl⟩
    have HT1:=hid ht1
    rw[ht1] at k0 k1 k2
    clear ht1 q0 q1 q2
    go_enter Tryz.func71,Tryz.ntmps71
    go_upto_region 1 with fail
    rw[HW1.out]
    go_wp2_with (first|(go_at_call 58;refine(Qw R _ all E _ _ HP.out).mono ?_;rw[HT1.out];rintro en wn⟨rfl,hb⟩;replace HP:=hid (HP.out.to hb);replace HB:=hid (HB.out.to hb);clear hb)|(go_at_call 59;refine(QD R _ all E _ (by decide+kernel) _ _ HP.out).mono ?_;rintro en wo⟨rfl,hp,hb⟩;replace HP:=hid hp;replace HB:=hid (HB.out.trans hb);clear hp hb;have hx9:Blk wo w.heap.size z6 28:=(HB.out.block w.heap.size hs1 (Nat.ne_of_gt hR)).trans HX1.out;obtain⟨⟨q0,q1,q2,q3,q4,q5⟩,z0,z1,z2,z3,z4,z5⟩:=c6 hx9;have HX9:=hid hx9;clear hx9))
    have hx8:=ZB HX9.out (.int .i64 3) iZ tE iZ sN sN
    obtain⟨⟨y0,y1,y2,y3,y4,y5⟩,-⟩:=c6 hx8
    refine bodyPost_ret (v:= .agg #[.int .i64 3,.int .i64 0,.string ⟨#[]⟩,.int .i64 0,.slice none 0 0,.slice none 0 0]) (by simp[results,Tryz.results71,go_sem,y0,y1,y2,y3,y4,y5]) rfl ?_
    refine⟨⟨_,lfT 3,rfl,GTy.leaf _ _ 3 0 0 ⟨#[]⟩ (Nat.zero_le _),HE.out⟩,HP.out.put6 hR HLA.out (.int .i64 3) iZ tE iZ sN sN,((But.of HB1.out).trans HB.out).put6 lR (.int .i64 3) iZ tE iZ sN sN⟩
   |false=>
    cases q3:stHd QI st with
    |true=>
     have k0:((Qi st).toList==[105,110,116])=false:=Qt q0
     have k1:((Qi st).toList==[98,111,111,108])=false:=Qt q1
     have k2:((Qi st).toList==[101,110,100])=false:=Qt q2
     have k3:((Qi st).toList==[40])=true:=Qt q3
     obtain⟨he1,he2⟩:=QC (F:=JO (Ql Qb (g+1))) (G:=Ql Qb (g+1)) E (st:=st) (fun ts e=>Ss (by rw[e] at q3;exact q3))
     unfold Red
     rw[he1,he2]
     clear he1 he2
     obtain⟨t1,ht1⟩:∃t1,Qi st=t1:=⟨_,rfl⟩
     have HT1:=hid ht1
     rw[ht1] at k0 k1 k2 k3
     clear ht1 q0 q1 q2 q3
     go_enter Tryz.func71,Tryz.ntmps71
     go_upto_region 1 with fail
     rw[HW1.out]
     go_wp2_with (first|(go_at_call 58;refine(Qw R _ all E _ _ HP.out).mono ?_;rw[HT1.out];rintro en wn⟨rfl,hb⟩;replace HP:=hid (HP.out.to hb);replace HB:=hid (HB.out.to hb);clear hb)|(go_at_call 72;refine(HS.out _ _ HP.out HN.out).mono ?_;rintro en wo⟨⟨_,x,rfl,hg,hv⟩,hp,hb⟩;obtain⟨la',ln,lc,ka,kn,kc,rfl⟩:=hg.open;have HV:=hid hv;have HG:=hid (hg.mono (show W1.heap.size<=_ from HB.out.size));clear hv hg;replace HP:=hid hp;replace HB:=hid (HB.out.trans hb);clear hp hb;have hx9:Blk wo w.heap.size z6 28:=(HB.out.block w.heap.size hs1 (Nat.ne_of_gt hR)).trans HX1.out;obtain⟨⟨q0,q1,q2,q3,q4,q5⟩,z0,z1,z2,z3,z4,z5⟩:=c6 hx9;have HX9:=hid hx9;clear hx9))
     have hx8:=ZB HX9.out (.int .i64 x.k) (.int .i64 x.p) (.string x.n) (.int .i64 x.s) (.slice la' ln lc) (.slice ka kn kc)
     obtain⟨⟨y0,y1,y2,y3,y4,y5⟩,-⟩:=c6 hx8
     refine bodyPost_ret (v:= .agg (cT x la' ln lc ka kn kc)) (by simp[results,Tryz.results71,go_sem,y0,y1,y2,y3,y4,y5]) rfl ?_
     refine⟨⟨_,x,rfl,(HG.out.put6 hs1 (.int .i64 x.k) (.int .i64 x.p) (.string x.n) (.int .i64 x.s) (.slice la' ln lc) (.slice ka kn kc)).mono (Nat.le_of_lt hs1),HV.out⟩,HP.out.put6 hR HLA.out (.int .i64 x.k) (.int .i64 x.p) (.string x.n) (.int .i64 x.s) (.slice la' ln lc) (.slice ka kn kc),((But.of HB1.out).trans HB.out).put6 lR (.int .i64 x.k) (.int .i64 x.p) (.string x.n) (.int .i64 x.s) (.slice la' ln lc) (.slice ka kn kc)⟩
    |false=>
     have k0:((Qi st).toList==[105,110,116])=false:=Qt q0
     have k1:((Qi st).toList==[98,111,111,108])=false:=Qt q1
     have k2:((Qi st).toList==[101,110,100])=false:=Qt q2
     have k3:((Qi st).toList==[40])=false:=Qt q3
     obtain⟨he1,he2⟩:=QC (F:=JO (Ql Qb (g+1))) (G:=pvar Qb) E (st:=st) (fun ts e=>LI (by rw[e] at q0;exact q0) (by rw[e] at q1;exact q1) (by rw[e] at q2;exact q2) (by rw[e] at q3;exact q3))
     unfold Red
     rw[he1,he2]
     clear he1 he2
     obtain⟨t1,ht1⟩:∃t1,Qi st=t1:=⟨_,rfl⟩
     have HT1:=hid ht1
     rw[ht1] at k0 k1 k2 k3
     clear ht1 q0 q1 q2 q3
     go_enter Tryz.func71,Tryz.ntmps71
     go_upto_region 1 with fail
     rw[HW1.out]
     go_wp2_with (first|(go_at_call 58;refine(Qw R _ all E _ _ HP.out).mono ?_;rw[HT1.out];rintro en wn⟨rfl,hb⟩;replace HP:=hid (HP.out.to hb);replace HB:=hid (HB.out.to hb);clear hb)|(go_at_call 100;refine(ND R _ all E _ _ HP.out).mono ?_;rintro en wo⟨⟨_,x,rfl,hg,hv⟩,hp,hb⟩;obtain⟨la',ln,lc,ka,kn,kc,rfl⟩:=hg.open;have HV:=hid hv;have HG:=hid (hg.mono (show W1.heap.size<=_ from HB.out.size));clear hv hg;replace HP:=hid hp;replace HB:=hid (HB.out.trans hb);clear hp hb;have hx9:Blk wo w.heap.size z6 28:=(HB.out.block w.heap.size hs1 (Nat.ne_of_gt hR)).trans HX1.out;obtain⟨⟨q0,q1,q2,q3,q4,q5⟩,z0,z1,z2,z3,z4,z5⟩:=c6 hx9;have HX9:=hid hx9;clear hx9))
     have hx8:=ZB HX9.out (.int .i64 x.k) (.int .i64 x.p) (.string x.n) (.int .i64 x.s) (.slice la' ln lc) (.slice ka kn kc)
     obtain⟨⟨y0,y1,y2,y3,y4,y5⟩,-⟩:=c6 hx8
     refine bodyPost_ret (v:= .agg (cT x la' ln lc ka kn kc)) (by simp[results,Tryz.results71,go_sem,y0,y1,y2,y3,y4,y5]) rfl ?_
     refine⟨⟨_,x,rfl,(HG.out.put6 hs1 (.int .i64 x.k) (.int .i64 x.p) (.string x.n) (.int .i64 x.s) (.slice la' ln lc) (.slice ka kn kc)).mono (Nat.le_of_lt hs1),HV.out⟩,HP.out.put6 hR HLA.out (.int .i64 x.k) (.int .i64 x.p) (.string x.n) (.int .i64 x.s) (.slice la' ln lc) (.slice ka kn kc),((But.of HB1.out).trans HB.out).put6 lR (.int .i64 x.k) (.int .i64 x.p) (.string x.n) (.int .i64 x.s) (.slice la' ln lc) (.slice ka kn kc)⟩
theorem Te(R:Nat)(la:Option Addr)(all:List Tk)(E:Int)(st:RS)(w:World)(h:RdIs R la all E st w)(g n:Nat)(hS:KG R la all E (Ql Qb (g+1)) n)(hn:st.len<n):
 Calls Tryz.prog 38 #[.pointer (some ⟨R,0,none⟩)] w (Red R la all E w (Js (Ql Qb (g+1))) st (GTy w.heap.size)):=by
 have HS:=hid hS
 have HN:=hid hn
 clear hS hn
 obtain⟨W1,hW1⟩:∃W1,w.alloc (.cells z6 28)=W1:=⟨_,rfl⟩
 have hb1:=(made hW1).1
 have x1:=(made hW1).2
 have hs1:w.heap.size<W1.heap.size:=(gl x1)
 have hR:R<w.heap.size:=h.lt
 have HLA:=hid h.la
 have HP:Hid (RdIs R la all E st W1):=hid (h.to hb1)
 have HB:Hid (But R W1 W1):=hid (But.refl _ _)
 have HW1:=hid hW1
 have HB1:=hid hb1
 have HX1:=hid x1
 clear hW1 hb1 x1 h
 cases q0:stHd sInt st with
 |true=>
  have k0:((Qi st).toList==[105,110,116])=true:=Qt q0
  obtain⟨he1,he2⟩:=QC (F:=Js (Ql Qb (g+1))) (G:=JO (Ql Qb (g+1))) E (st:=st) (fun ts e=>(UK (s:=sInt) (by rw[e] at q0;exact q0) (by decide+kernel) _).symm)
  unfold Red
  rw[he1,he2]
  clear he1 he2
  obtain⟨t1,ht1⟩:∃t1,Qi st=t1:=⟨_,rfl⟩
  have HT1:=hid ht1
  rw[ht1] at k0
  clear ht1 q0
  go_enter Tryz.func38,Tryz.ntmps38
  go_upto_region 1 with fail
  rw[HW1.out]
  go_wp2_with (first|(go_at_call 58;refine(Qw R _ all E _ _ HP.out).mono ?_;rw[HT1.out];rintro en wn⟨rfl,hb⟩;replace HP:=hid (HP.out.to hb);replace HB:=hid (HB.out.to hb);clear hb)|(go_at_call 71;refine(UV R _ all E _ _ HP.out g n HS.out HN.out).mono ?_;rintro en wo⟨⟨_,x,rfl,hg,hv⟩,hp,hb⟩;obtain⟨la',ln,lc,ka,kn,kc,rfl⟩:=hg.open;have HV:=hid hv;have HG:=hid (hg.mono (show W1.heap.size<=_ from HB.out.size));clear hv hg;replace HP:=hid hp;replace HB:=hid (HB.out.trans hb);clear hp hb;have hx9:Blk wo w.heap.size z6 28:=(HB.out.block w.heap.size hs1 (Nat.ne_of_gt hR)).trans HX1.out;obtain⟨⟨q0,q1,q2,q3,q4,q5⟩,z0,z1,z2,z3,z4,z5⟩:=c6 hx9;have HX9:=hid hx9;clear hx9))
  have hx8:=ZB HX9.out (.int .i64 x.k) (.int .i64 x.p) (.string x.n) (.int .i64 x.s) (.slice la' ln lc) (.slice ka kn kc)
  obtain⟨⟨y0,y1,y2,y3,y4,y5⟩,-⟩:=c6 hx8
  refine bodyPost_ret (v:= .agg (cT x la' ln lc ka kn kc)) (by simp[results,Tryz.results38,go_sem,y0,y1,y2,y3,y4,y5]) rfl ?_
  refine⟨⟨_,x,rfl,(HG.out.put6 hs1 (.int .i64 x.k) (.int .i64 x.p) (.string x.n) (.int .i64 x.s) (.slice la' ln lc) (.slice ka kn kc)).mono (Nat.le_of_lt hs1),HV.out⟩,HP.out.put6 hR HLA.out (.int .i64 x.k) (.int .i64 x.p) (.string x.n) (.int .i64 x.s) (.slice la' ln lc) (.slice ka kn kc),((But.of HB1.out).trans HB.out).put6 lR (.int .i64 x.k) (.int .i64 x.p) (.string x.n) (.int .i64 x.s) (.slice la' ln lc) (.slice ka kn kc)⟩
 |false=>
  cases q1:stHd sBool st with
  |true=>
   have k0:((Qi st).toList==[105,110,116])=false:=Qt q0
   have k1:((Qi st).toList==[98,111,111,108])=true:=Qt q1
   obtain⟨he1,he2⟩:=QC (F:=Js (Ql Qb (g+1))) (G:=JO (Ql Qb (g+1))) E (st:=st) (fun ts e=>(UK (s:=sBool) (by rw[e] at q1;exact q1) (by decide+kernel) _).symm)
   unfold Red
   rw[he1,he2]
   clear he1 he2
   obtain⟨t1,ht1⟩:∃t1,Qi st=t1:=⟨_,rfl⟩
   have HT1:=hid ht1
   rw[ht1] at k0 k1
   clear ht1 q0 q1
   go_enter Tryz.func38,Tryz.ntmps38
   go_upto_region 1 with fail
   rw[HW1.out]
   go_wp2_with (first|(go_at_call 58;refine(Qw R _ all E _ _ HP.out).mono ?_;rw[HT1.out];rintro en wn⟨rfl,hb⟩;replace HP:=hid (HP.out.to hb);replace HB:=hid (HB.out.to hb);clear hb)|(go_at_call 71;refine(UV R _ all E _ _ HP.out g n HS.out HN.out).mono ?_;rintro en wo⟨⟨_,x,rfl,hg,hv⟩,hp,hb⟩;obtain⟨la',ln,lc,ka,kn,kc,rfl⟩:=hg.open;have HV:=hid hv;have HG:=hid (hg.mono (show W1.heap.size<=_ from HB.out.size));clear hv hg;replace HP:=hid hp;replace HB:=hid (HB.out.trans hb);clear hp hb;have hx9:Blk wo w.heap.size z6 28:=(HB.out.block w.heap.size hs1 (Nat.ne_of_gt hR)).trans HX1.out;obtain⟨⟨q0,q1,q2,q3,q4,q5⟩,z0,z1,z2,z3,z4,z5⟩:=c6 hx9;have HX9:=hid hx9;clear hx9))
   have hx8:=ZB HX9.out (.int .i64 x.k) (.int .i64 x.p) (.string x.n) (.int .i64 x.s) (.slice la' ln lc) (.slice ka kn kc)
   obtain⟨⟨y0,y1,y2,y3,y4,y5⟩,-⟩:=c6 hx8
   refine bodyPost_ret (v:= .agg (cT x la' ln lc ka kn kc)) (by simp[results,Tryz.results38,go_sem,y0,y1,y2,y3,y4,y5]) rfl ?_
   refine⟨⟨_,x,rfl,(HG.out.put6 hs1 (.int .i64 x.k) (.int .i64 x.p) (.string x.n) (.int .i64 x.s) (.slice la' ln lc) (.slice ka kn kc)).mono (Nat.le_of_lt hs1),HV.out⟩,HP.out.put6 hR HLA.out (.int .i64 x.k) (.int .i64 x.p) (.string x.n) (.int .i64 x.s) (.slice la' ln lc) (.slice ka kn kc),((But.of HB1.out).trans HB.out).put6 lR (.int .i64 x.k) (.int .i64 x.p) (.string x.n) (.int .i64 x.s) (.slice la' ln lc) (.slice ka kn kc)⟩
  |false=>
   have k0:((Qi st).toList==[105,110,116])=false:=Qt q0
   have k1:((Qi st).toList==[98,111,111,108])=false:=Qt q1
   obtain⟨he1,he2⟩:=QC (F:=Js (Ql Qb (g+1))) (G:=Ql Qb (g+1)) E (st:=st) (fun ts e=>by
    subst e
    unfold Js
    rw[if_neg (by rw[show hd sInt ts=false from q0];simp),if_neg (by rw[show hd sBool ts=false from q1];simp)])
   unfold Red
   rw[he1,he2]
   clear he1 he2
   obtain⟨t1,ht1⟩:∃t1,Qi st=t1:=⟨_,rfl⟩
   have HT1:=hid ht1
   rw[ht1] at k0 k1
   clear ht1 q0 q1
   go_enter Tryz.func38,Tryz.ntmps38
   go_upto_region 1 with fail
   rw[HW1.out]
   go_wp2_with (first|(go_at_call 58;refine(Qw R _ all E _ _ HP.out).mono ?_;rw[HT1.out];rintro en wn⟨rfl,hb⟩;replace HP:=hid (HP.out.to hb);replace HB:=hid (HB.out.to hb);clear hb)|(go_at_call 72;refine(HS.out _ _ HP.out HN.out).mono ?_;rintro en wo⟨⟨_,x,rfl,hg,hv⟩,hp,hb⟩;obtain⟨la',ln,lc,ka,kn,kc,rfl⟩:=hg.open;have HV:=hid hv;have HG:=hid (hg.mono (show W1.heap.size<=_ from HB.out.size));clear hv hg;replace HP:=hid hp;replace HB:=hid (HB.out.trans hb);clear hp hb;have hx9:Blk wo w.heap.size z6 28:=(HB.out.block w.heap.size hs1 (Nat.ne_of_gt hR)).trans HX1.out;obtain⟨⟨q0,q1,q2,q3,q4,q5⟩,z0,z1,z2,z3,z4,z5⟩:=c6 hx9;have HX9:=hid hx9;clear hx9))
   have hx8:=ZB HX9.out (.int .i64 x.k) (.int .i64 x.p) (.string x.n) (.int .i64 x.s) (.slice la' ln lc) (.slice ka kn kc)
   obtain⟨⟨y0,y1,y2,y3,y4,y5⟩,-⟩:=c6 hx8
   refine bodyPost_ret (v:= .agg (cT x la' ln lc ka kn kc)) (by simp[results,Tryz.results38,go_sem,y0,y1,y2,y3,y4,y5]) rfl ?_
   refine⟨⟨_,x,rfl,(HG.out.put6 hs1 (.int .i64 x.k) (.int .i64 x.p) (.string x.n) (.int .i64 x.s) (.slice la' ln lc) (.slice ka kn kc)).mono (Nat.le_of_lt hs1),HV.out⟩,HP.out.put6 hR HLA.out (.int .i64 x.k) (.int .i64 x.p) (.string x.n) (.int .i64 x.s) (.slice la' ln lc) (.slice ka kn kc),((But.of HB1.out).trans HB.out).put6 lR (.int .i64 x.k) (.int .i64 x.p) (.string x.n) (.int .i64 x.s) (.slice la' ln lc) (.slice ka kn kc)⟩
theorem len_le{α:Type}(E:Int){F:List Tk->PR α}(h:∀ts x r,F ts= .ok x r->r.length<=ts.length)(st:RS):(Qa E F st).len<=st.len:=by
 match st with
 | .inr z=>exact lR
 | .inl ts=>
  cases hF:F ts with
  |bad e r=>rw[QE E hF];exact Nat.zero_le _
  |ok x r=>rw[QM E hF];exact Nat.succ_le_succ (h ts x r hF)
theorem TY(E:Int)(S:List Tk->PR Ty)(k:Int)(st:RS):Qa E (Zg S k) st=Qa E S (Qa E (need sDot) (Qa E (JO S) (Qa E Zj st)))/\
 ∀y,Qj (Zg S k) st=some y->∃p t u,Qj Zj st=some p/\Qj (JO S) (Qa E Zj st)=some t/\Qj S (Qa E (need sDot) (Qa E (JO S) (Qa E Zj st)))=some u/\Ty.mk k p ⟨#[]⟩ 0 [] [t,u]=y:=by
 constructor
 ·exact Qg (X:=fun s=>Qa E S (Qa E (need sDot) (Qa E (JO S) s))) (fun p=>Qg (X:=fun s=>Qa E S (Qa E (need sDot) s)) (fun t=>Qg (X:=fun s=>Qa E S s) (fun _=>Qg (X:=fun s=>s) (fun u=>QU _ _ _) (fun _=>rfl)) (fun _=>rfl)) (fun _=>rfl)) (fun _=>rfl)
 ·intro y hy
  obtain⟨p,h1,h2⟩:=Qh E hy
  obtain⟨t,h3,h4⟩:=Qh E h2
  obtain⟨_,_,h6⟩:=Qh E h4
  obtain⟨u,h7,h8⟩:=Qh E h6
  exact⟨p,t,u,h1,h3,h7,Jq h8⟩
theorem Kn(R:Nat)(la:Option Addr)(all:List Tk)(E:Int)(k:Int)(st:RS)(w:World)(h:RdIs R la all E st w)(g n:Nat)(hS:KG R la all E (Ql Qb (g+1)) n)(hn:st.len<n):
 Calls Tryz.prog 101 #[.pointer (some ⟨R,0,none⟩),.int .i64 k] w (Red R la all E w (Zg (Ql Qb (g+1)) k) st (GTy w.heap.size)):=by
 obtain⟨he1,he2⟩:=TY E (Ql Qb (g+1)) k st
 have hn1:(Qa E Zj st).len<n:=Nat.lt_of_le_of_lt (len_le E (fun _ _ _ h=>Yi h) st) hn
 have hn2:(Qa E (need sDot) (Qa E (JO (Ql Qb (g+1))) (Qa E Zj st))).len<n:=Nat.lt_of_le_of_lt (lT (len_le E (fun _ _ _ h=>Nat.le_of_lt (Qp h)) _) (len_le E (fun _ _ _ h=>Nat.le_of_lt (Hz (ZT (g+1)) _ _ _ h)) _)) hn1
 unfold Red
 rw[he1]
 have HE:=hid he2
 have HN1:=hid hn1
 have HN2:=hid hn2
 have HS:=hid hS
 clear he1 he2 hn1 hn2 hS hn
 obtain⟨W1,hW1⟩:∃W1,w.alloc (.cells z6 28)=W1:=⟨_,rfl⟩
 have hb1:=(made hW1).1
 have x1:=(made hW1).2
 have hs1:w.heap.size<W1.heap.size:=(gl x1)
 have hR:R<w.heap.size:=h.lt
 have HLA:=hid h.la
 have HP:Hid (RdIs R la all E st W1):=hid (h.to hb1)
 have HB:Hid (But R W1 W1):=hid (But.refl _ _)
 have HW1:=hid hW1
 have HB1:=hid hb1
 have HX1:=hid x1
 clear hW1 hb1 x1 h
 go_enter Tryz.func101,Tryz.ntmps101
 go_upto_region 1 with fail
 rw[HW1.out]
 go_upto_region 2 with(go_at_call 128;refine(Mb R _ all E _ _ HP.out).mono ?_;rintro en wn⟨⟨_,pr,rfl,rfl,hv⟩,hp,hb⟩;have HVpr:=hid hv;clear hv;replace HP:=hid hp;replace HB:=hid (HB.out.trans hb);clear hp hb)
 obtain⟨W3,hW3⟩:∃W3,wn.alloc (.cells #[.int .i64 k,.int .i64 pr,.string ⟨#[]⟩,.int .i64 0,.slice none 0 0,.slice none 0 0] 28)=W3:=⟨_,rfl⟩
 have hbx:=(made hW3).1
 have xx:=(made hW3).2
 have hlA:wn.heap.size<W3.heap.size:=(gl xx)
 have hsA:W1.heap.size<=wn.heap.size:=HB.out.size
 have hnA:wn.heap.size≠R:=by omega
 rw[hW3]
 have HPn:=hid (HP.out.to hbx)
 have HBn:=hid (HB.out.to hbx)
 have HXA:=hid xx
 have HAB:=hid hbx
 clear HP HB hW3 hbx xx
 have HP:=HPn
 have HB:=HBn
 clear HPn HBn
 obtain⟨XA,hXA⟩:∃XA,wn.heap.size=XA:=⟨_,rfl⟩
 rw[hXA] at HXA hlA hsA hnA |-
 clear hXA HAB
 have HC:Hid (But R W3 W3):=hid (But.refl _ _)
 go_upto_region 3 with(go_at_call 71;refine(UV R _ all E _ _ HP.out g n HS.out HN1.out).mono ?_;rintro en wo⟨⟨_,x,rfl,hg,hv⟩,hp,hb⟩;obtain⟨la',ln,lc,ka,kn,kc,rfl⟩:=hg.open;have HVx:=hid hv;have HG:=hid (hg.mono (show W3.heap.size<=_ from HC.out.size));clear hv hg;replace HP:=hid hp;replace HB:=hid (HB.out.trans hb);replace HC:=hid (HC.out.trans hb);clear hp hb)
 have hw3:W3.heap.size<=wo.heap.size:=HC.out.size
 obtain⟨W4,hW4⟩:∃W4,wo.alloc (.cells (cT x la' ln lc ka kn kc) 28)=W4:=⟨_,rfl⟩
 have hbx:=(made hW4).1
 have xx:=(made hW4).2
 have hlB:wo.heap.size<W4.heap.size:=(gl xx)
 have hsB:W1.heap.size<=wo.heap.size:=HB.out.size
 have hnB:wo.heap.size≠R:=by omega
 rw[hW4]
 have HPn:=hid (HP.out.to hbx)
 have HBn:=hid (HB.out.to hbx)
 have HCn:=hid (HC.out.to hbx)
 have HXB:=hid xx
 have HBB:=hid hbx
 clear HP HB HC hW4 hbx xx
 have HP:=HPn
 have HB:=HBn
 have HC:=HCn
 clear HPn HBn HCn
 have hAB:XA<wo.heap.size:=by omega
 obtain⟨XB,hXB⟩:∃XB,wo.heap.size=XB:=⟨_,rfl⟩
 have HGT:=hid (HG.out.but (But.of (P:=R) HBB.out) (by omega))
 have HWO:=hid hXB
 rw[hXB] at HXB hlB hsB hnB hAB |-
 clear hXB HBB HG hw3
 have HD:Hid (But R W4 W4):=hid (But.refl _ _)
 go_upto_region 4 with(go_at_call 59;refine(QD R _ all E _ (by decide+kernel) _ _ HP.out).mono ?_;rintro en wq⟨rfl,hp,hb⟩;replace HP:=hid hp;replace HB:=hid (HB.out.trans hb);replace HC:=hid (HC.out.trans hb);replace HD:=hid (HD.out.trans hb);clear hp hb)
 have HSS:Hid (∀W,But R W4 W->W.cell? ⟨XB,0,none⟩=some (.int .i64 x.k)/\W.cell? ⟨XB,1,none⟩=some (.int .i64 x.p)/\W.cell? ⟨XB,2,none⟩=some (.string x.n)/\W.cell? ⟨XB,3,none⟩=some (.int .i64 x.s)/\W.cell? ⟨XB,4,none⟩=some (.slice la' ln lc)/\W.cell? ⟨XB,5,none⟩=some (.slice ka kn kc)):=hid (fun W hW=>(c6 ((hW.block XB hlB hnB).trans HXB.out)).1)
 refine wp_region_held_drew (S:=fun W=>W.cell? ⟨XB,0,none⟩=some (.int .i64 x.k)/\W.cell? ⟨XB,1,none⟩=some (.int .i64 x.p)/\W.cell? ⟨XB,2,none⟩=some (.string x.n)/\W.cell? ⟨XB,3,none⟩=some (.int .i64 x.s)/\W.cell? ⟨XB,4,none⟩=some (.slice la' ln lc)/\W.cell? ⟨XB,5,none⟩=some (.slice ka kn kc)) (by kernel_rfl) (HSS.out _ HD.out.drew) (fun hHeld=>?_)
 refine ZU 0 (v:= ?vc0) rfl rfl (by kernel_rfl) (by kernel_rfl) (by kernel_rfl) (fun _ _ _ h=>h) ?hc0 (by assumption) ?rc0
 case hc0=>(intro w hSw;(try dsimp only at hSw);go_simp;try rfl)
 case' rc0=>simp only[setD,sS,sZ]
 refine ZU 1 (v:= ?vc1) rfl rfl (by kernel_rfl) (by kernel_rfl) (by kernel_rfl) (fun _ _ _ h=>h) ?hc1 (by assumption) ?rc1
 case hc1=>(intro w hSw;(try dsimp only at hSw);go_simp;try rfl)
 case' rc1=>simp only[setD,sS,sZ]
 refine Jj 2 rfl rfl (by kernel_rfl) (fun K hK=>?_)
 have hK2:=hK.out
 clear hK
 simp only[setD,sS,sZ] at hK2 |-
 go_simp
 refine(HS.out _ _ (HP.out.to bR.drew) HN2.out).mono ?_
 rintro en wm⟨⟨_,u,rfl,hg,hv⟩,hp,hb⟩
 obtain⟨lb',mn,mc,kb,jn,jc,rfl⟩:=hg.open
 dsimp only
 have HVu:=hid hv
 have HPm:=hid hp
 have HGU:=hid (hg.mono (show W3.heap.size<=_ from HC.out.drew.size))
 have HDm:=hid (HD.out.drew.trans hb)
 have HCm:=hid (HC.out.drew.trans hb)
 have HBm:=hid (HB.out.drew.trans hb)
 refine hK2 _ _ (HSS.out wm HDm.out) (fun hHeld2=>?_)
 clear hK2 K hHeld hg hp hb hv HB HC HD HP
 refine Jj 3 rfl rfl (by kernel_rfl) (fun K hK=>?_)
 have hK2:=hK.out
 clear hK
 simp only[setD,sS,sZ] at hK2 |-
 go_simp
 obtain⟨W5,hW5⟩:∃W5,wm.alloc (.cells #[.int .i64 x.k,.int .i64 x.p,.string x.n,.int .i64 x.s,.slice la' ln lc,.slice ka kn kc,.int .i64 u.k,.int .i64 u.p,.string u.n,.int .i64 u.s,.slice lb' mn mc,.slice kb jn jc] 28)=W5:=⟨_,rfl⟩
 have hb5:=(made hW5).1
 have x5:=(made hW5).2
 rw[hW5]
 refine hK2 _ _ (HSS.out W5 (HDm.out.to hb5)) (fun hHeld3=>?_)
 clear hK2 K hHeld2 hW5
 have hxa:=(hb5.block _ (lL hlA HCm.out.size)).trans ((HCm.out.block XA hlA hnA).trans HXA.out)
 obtain⟨⟨d0,d1,d2,d3,d4,d5⟩,f0,f1,f2,f3,f4,f5⟩:=c6 hxa
 have HA5:=hid hxa
 have HB5:=hid hb5
 have HX5:=hid x5
 clear hxa hb5 x5
 refine ZU 4 (v:= ?vc4) rfl rfl (by kernel_rfl) (by kernel_rfl) (by kernel_rfl) (fun _ _ _ h=>h) ?hc4 (by assumption) ?rc4
 case hc4=>(intro w hSw;(try dsimp only at hSw);go_simp;try rfl)
 case' rc4=>simp only[setD,sS,sZ]
 refine Jj 5 rfl rfl (by kernel_rfl) (fun K hK=>?_)
 have hK2:=hK.out
 clear hK
 simp only[setD] at hK2 |-
 go_simp
 obtain⟨W6,hW6⟩:∃W6,W5.setCell ⟨XA,5,none⟩ (.slice (some ⟨wm.heap.size,0,none⟩) 2 2)=W6:=⟨_,rfl⟩
 have x6:W6.heap[XA]? =some (.cells #[.int .i64 k,.int .i64 pr,.string ⟨#[]⟩,.int .i64 0,.slice none 0 0,.slice (some ⟨wm.heap.size,0,none⟩) 2 2] 28 (0,0)):=by rw[<-hW6];exact Qd HA5.out 5 _
 have hS6:W6.cell? ⟨XB,0,none⟩=some (.int .i64 x.k)/\W6.cell? ⟨XB,1,none⟩=some (.int .i64 x.p)/\W6.cell? ⟨XB,2,none⟩=some (.string x.n)/\W6.cell? ⟨XB,3,none⟩=some (.int .i64 x.s)/\W6.cell? ⟨XB,4,none⟩=some (.slice la' ln lc)/\W6.cell? ⟨XB,5,none⟩=some (.slice ka kn kc):=by
  refine(c6 (?_ :Blk W6 XB (cT x la' ln lc ka kn kc) 28)).1
  rw[<-hW6]
  exact(oth1 _ _ _ (Nat.ne_of_gt hAB)).trans (((HDm.out.to HB5.out).block XB hlB hnB).trans HXB.out)
 have HPn:Hid (RdIs R la all E _ W6):=hid (by rw[<-hW6];exact(HPm.out.to HB5.out).oth (X:=XA) (fun j hj=>oth1 _ _ _ hj) (by simp[World.setCell]) (by omega) (HLA.out.mono (by omega)))
 have HBn:Hid (But R W1 W6):=hid (by rw[<-hW6];exact(HBm.out.to HB5.out).setX hsA 5 _)
 have hwm:W1.heap.size<=wm.heap.size:=HBm.out.size
 have hDm:W4.heap.size<=wm.heap.size:=HDm.out.size
 have hne5:wm.heap.size≠XA:=by omega
 have hy5:W6.heap[wm.heap.size]? =some (.cells #[.int .i64 x.k,.int .i64 x.p,.string x.n,.int .i64 x.s,.slice la' ln lc,.slice ka kn kc,.int .i64 u.k,.int .i64 u.p,.string u.n,.int .i64 u.s,.slice lb' mn mc,.slice kb jn jc] 28 (0,0)):=by rw[<-hW6];exact(oth1 _ _ _ hne5).trans HX5.out
 have hgt6:GTy W1.heap.size W6 (.mk k pr ⟨#[]⟩ 0 [] [x,u]) (.agg #[.int .i64 k,.int .i64 pr,.string ⟨#[]⟩,.int .i64 0,.slice none 0 0,.slice (some ⟨wm.heap.size,0,none⟩) 2 2]):=by
  have hw3m:W3.heap.size<=wm.heap.size:=HCm.out.size
  have h3:GTy W3.heap.size W6 x (.agg (cT x la' ln lc ka kn kc)):=by rw[<-hW6];exact(HGT.out.but (HDm.out.to HB5.out) (by omega)).but ((But.refl XA W5).set 5 _) hlA
  have h4:GTy W3.heap.size W6 u (.agg (cT u lb' mn mc kb jn jc)):=by rw[<-hW6];exact(HGU.out.but (But.of (P:=R) HB5.out) (by omega)).but ((But.refl XA W5).set 5 _) hlA
  exact(GTy.node (Nat.zero_le _) (Mz _ _) (Rr hy5 ⟨hw3m,(gl hy5)⟩ h3 h4)).mono (by omega)
 rw[hW6]
 refine hK2 undef W6 hS6 (fun hHeld4=>?_)
 clear hK2 K hHeld3 hHeld4 hS6 d0 d1 d2 d3 d4 d5 f0 f1 f2 f3 f4 f5 hW6
 refine wpAnyH_done (by kernel_rfl) ?_ _
 have HP:=HPn
 have HB:=HBn
 have HGT6:=hid hgt6
 clear HPn HBn HPm HBm hgt6 hne5 hy5
 obtain⟨⟨d0,d1,d2,d3,d4,d5⟩,-⟩:=c6 x6
 clear x6
 have hx9:Blk W6 w.heap.size z6 28:=(HB.out.block w.heap.size hs1 (Nat.ne_of_gt hR)).trans HX1.out
 obtain⟨⟨q0,q1,q2,q3,q4,q5⟩,z0,z1,z2,z3,z4,z5⟩:=c6 hx9
 have HX9:=hid hx9
 clear hx9
 go_wp2_with fail
 have hx8:=ZB HX9.out (.int .i64 k) (.int .i64 pr) tE iZ sN (.slice (some ⟨wm.heap.size,0,none⟩) 2 2)
 obtain⟨⟨y0,y1,y2,y3,y4,y5⟩,-⟩:=c6 hx8
 refine bodyPost_ret (v:= .agg #[.int .i64 k,.int .i64 pr,.string ⟨#[]⟩,.int .i64 0,.slice none 0 0,.slice (some ⟨wm.heap.size,0,none⟩) 2 2]) (by simp[results,Tryz.results101,go_sem,y0,y1,y2,y3,y4,y5]) rfl ?_
 refine⟨⟨_,Ty.mk k pr ⟨#[]⟩ 0 [] [x,u],rfl,(HGT6.out.put6 hs1 (.int .i64 k) (.int .i64 pr) tE iZ sN (.slice (some ⟨wm.heap.size,0,none⟩) 2 2)).mono (Nat.le_of_lt hs1),fun y hy=>by obtain⟨p',t',u',h1,h2,h3,rfl⟩:=HE.out y hy;rw[HVpr.out p' h1,HVx.out t' h2,HVu.out u' h3]⟩,HP.out.put6 hR HLA.out (.int .i64 k) (.int .i64 pr) tE iZ sN (.slice (some ⟨wm.heap.size,0,none⟩) 2 2),((But.of HB1.out).trans HB.out).put6 lR (.int .i64 k) (.int .i64 pr) tE iZ sN (.slice (some ⟨wm.heap.size,0,none⟩) 2 2)⟩
theorem JH{α:Type}(E:Int){s:ByteArray}{P:List Tk->PR α}{st:RS}(h:stHd s st=true):Qa E (fun ts=>P ts.tail) st=Qa E P (Qa E (need s) st)/\Qj (fun ts=>P ts.tail) st=Qj P (Qa E (need s) st):=by
 match st with
 | .inr z=>cases h
 | .inl ts=>
  rw[QM E (show need s ts= .ok () ts.tail from if_pos h)]
  exact⟨rfl,rfl⟩
theorem RV{g:Nat}{ts:List Tk}(h:hd sBang ts=true):Ql Qb (g+1) ts=Zg (Ql Qb g) 4 ts.tail:=by
 rw[Ql,if_neg (by rw[Qx h (by decide+kernel)];simp),if_pos h]
theorem WJ{g:Nat}{ts:List Tk}(h:hd sAsk ts=true):Ql Qb (g+1) ts=Zg (Ql Qb g) 5 ts.tail:=by
 rw[Ql,if_neg (by rw[Qx h (by decide+kernel)];simp),if_neg (by rw[Qx h (by decide+kernel)];simp),if_pos h]
theorem RT{g:Nat}{ts:List Tk}(h:hd sPlus ts=true):Ql Qb (g+1) ts=Jp Qb (Ql Qb g) g 6 ts.tail:=by
 rw[Ql,if_neg (by rw[Qx h (by decide+kernel)];simp),if_neg (by rw[Qx h (by decide+kernel)];simp),if_neg (by rw[Qx h (by decide+kernel)];simp),if_pos h]
theorem WK{g:Nat}{ts:List Tk}(h:hd sAnd ts=true):Ql Qb (g+1) ts=Jp Qb (Ql Qb g) g 7 ts.tail:=by
 rw[Ql,if_neg (by rw[Qx h (by decide+kernel)];simp),if_neg (by rw[Qx h (by decide+kernel)];simp),if_neg (by rw[Qx h (by decide+kernel)];simp),if_neg (by rw[Qx h (by decide+kernel)];simp),if_pos h]
theorem WH{g:Nat}{ts:List Tk}(h:hd sRec ts=true):Ql Qb (g+1) ts=VH Qb (Ql Qb g) ts.tail:=by
 rw[Ql,if_neg (by rw[Qx h (by decide+kernel)];simp),if_neg (by rw[Qx h (by decide+kernel)];simp),if_neg (by rw[Qx h (by decide+kernel)];simp),if_neg (by rw[Qx h (by decide+kernel)];simp),if_neg (by rw[Qx h (by decide+kernel)];simp),if_pos h]
theorem RU{g:Nat}{ts:List Tk}(h:hd QI ts=true):Ql Qb (g+1) ts=(Ql Qb g ts.tail).bind fun t r=>(need Qy r).bind fun _ r=> .ok t r:=by
 rw[Ql,if_neg (by rw[Qx h (by decide+kernel)];simp),if_neg (by rw[Qx h (by decide+kernel)];simp),if_neg (by rw[Qx h (by decide+kernel)];simp),if_neg (by rw[Qx h (by decide+kernel)];simp),if_neg (by rw[Qx h (by decide+kernel)];simp),if_neg (by rw[Qx h (by decide+kernel)];simp),if_pos h]
theorem WI{g:Nat}{ts:List Tk}(h:hd sEnd ts=true):Ql Qb (g+1) ts= .ok (lfT 3) ts.tail:=by
 rw[Ql,if_pos h]
theorem WW(E:Int)(S:List Tk->PR Ty)(st:RS):Qa E (VH Qb S) st=Qa E S (Qa E (need sDot) (Qa E (Qk Qb) st))/\
 ∀y,Qj (VH Qb S) st=some y->∃n u,Qj (Qk Qb) st=some n/\Qj S (Qa E (need sDot) (Qa E (Qk Qb) st))=some u/\Ty.mk 8 0 n 0 [] [u]=y:=by
 constructor
 ·exact Qg (X:=fun s=>Qa E S (Qa E (need sDot) s)) (fun p=>Qg (X:=fun s=>Qa E S s) (fun t=>Qg (X:=fun s=>s) (fun u=>QU _ _ _) (fun _=>rfl)) (fun _=>rfl)) (fun _=>rfl)
 ·intro y hy
  obtain⟨p,h1,h2⟩:=Qh E hy
  obtain⟨_,_,h4⟩:=Qh E h2
  obtain⟨u,h5,h6⟩:=Qh E h4
  exact⟨p,u,h1,h5,Jq h6⟩
theorem Sv(E:Int)(S:List Tk->PR Ty)(st:RS):Qa E (fun ts=>(S ts).bind fun t r=>(need Qy r).bind fun _ r=> .ok t r) st=Qa E (need Qy) (Qa E S st)/\
 ∀y,Qj (fun ts=>(S ts).bind fun t r=>(need Qy r).bind fun _ r=> .ok t r) st=some y->Qj S st=some y:=by
 constructor
 ·exact Qg (X:=fun s=>Qa E (need Qy) s) (fun t=>Qg (X:=fun s=>s) (fun u=>QU _ _ _) (fun _=>rfl)) (fun _=>rfl)
 ·intro y hy
  obtain⟨t,h1,h2⟩:=Qh E hy
  obtain⟨_,_,h4⟩:=Qh E h2
  rw[<-Jq h4];exact h1
def LabR(R:Nat)(la:Option Addr)(all:List Tk)(E:Int)(S:List Tk->PR Ty)(g n:Nat):Prop:=∀(k:Int) st W,RdIs R la all E st W->st.len<n->Calls Tryz.prog 102 #[.pointer (some ⟨R,0,none⟩),.int .i64 k] W (Red R la all E W (Jp Qb S g k) st (GTy W.heap.size))
theorem Dn(R:Nat)(la:Option Addr)(all:List Tk)(E:Int)(ts:List Tk)(w:World)(h:RdIs R la all E (.inl ts) w)(g:Nat)(hts:ts.length<=g)(hS:KG R la all E (Ql Qb (g+1)) (g+1))(hL:LabR R la all E (Ql Qb (g+1)) (g+1) (g+1)):
 Calls Tryz.prog 72 #[.pointer (some ⟨R,0,none⟩)] w (Red R la all E w (Ql Qb (g+1+1)) (.inl ts) (GTy w.heap.size)):=by
 have HS:=hid hS
 have HL:=hid hL
 clear hS hL
 have HNX:Hid (∀s,stHd s (.inl ts)=true->(Qa E (need s) (.inl ts)).len<g+1):=hid (fun s hs=>by
  rw[QM E (show need s ts= .ok () ts.tail from if_pos hs)]
  have:=QH (show hd s ts=true from hs)
  show ts.tail.length+1<g+1
  omega)
 obtain⟨W1,hW1⟩:∃W1,w.alloc (.cells z6 28)=W1:=⟨_,rfl⟩
 have hb1:=(made hW1).1
 have x1:=(made hW1).2
 have hs1:w.heap.size<W1.heap.size:=(gl x1)
 have hR:R<w.heap.size:=h.lt
 have HLA:=hid h.la
 have HP:Hid (RdIs R la all E (.inl ts) W1):=hid (h.to hb1)
 have HB:Hid (But R W1 W1):=hid (But.refl _ _)
 have HW1:=hid hW1
 have HB1:=hid hb1
 have HX1:=hid x1
 clear hW1 hb1 x1 h
 obtain⟨y3,y4⟩:W1.cell? ⟨R,3,none⟩=some iZ/\True:=by
  obtain⟨cap,a,p,e,hx,_,_,rfl,_⟩:=HP.out
  exact⟨(c5 hx).1.2.2.2.1,trivial⟩
 clear y4
 cases q0:stHd sEnd (.inl ts) with
 |true=>
  have k0:((Qi (.inl ts)).toList==[101,110,100])=true:=Qt q0
  have htb:Qi (.inl ts)=sEnd:=XF ((ZF (by decide+kernel) _).trans q0)
  obtain⟨he1,he2⟩:=QC (F:=Ql Qb (g+1+1)) (G:=fun ts=> .ok (lfT 3) ts.tail) E (st:= .inl ts) (fun t e=>WI (by injection e with e;rw[<-e];exact q0))
  unfold Red
  obtain⟨hl1,hl2⟩:=Yb E (lfT 3) q0
  rw[he1,he2,hl1]
  have HE:=hid hl2
  clear he1 he2 hl1 hl2
  obtain⟨t1,ht1⟩:∃t1,Qi (.inl ts)=t1:=⟨_,rfl⟩
  have HT1:=hid ht1
  rw[ht1] at k0 htb
  have HTB:=hid htb
  clear htb
  clear ht1 q0
  go_enter Tryz.func72,Tryz.ntmps72
  go_upto_region 1 with fail
  rw[HW1.out]
  go_wp2_with (first|(go_at_call 58;refine(Qw R _ all E _ _ HP.out).mono ?_;rw[HT1.out];rintro en wn⟨rfl,hb⟩;replace HP:=hid (HP.out.to hb);replace HB:=hid (HB.out.to hb);clear hb)|(go_at_call 59;refine(QD R _ all E t1 (by rw[HTB.out];decide+kernel) _ _ HP.out).mono ?_;rintro en wo⟨rfl,hp,hb⟩;rw[HTB.out] at hp;replace HP:=hid hp;replace HB:=hid (HB.out.trans hb);clear hp hb;have hx9:Blk wo w.heap.size z6 28:=(HB.out.block w.heap.size hs1 (Nat.ne_of_gt hR)).trans HX1.out;obtain⟨⟨q0,q1,q2,q3,q4,q5⟩,z0,z1,z2,z3,z4,z5⟩:=c6 hx9;have HX9:=hid hx9;clear hx9))
  have hx8:=ZB HX9.out (.int .i64 3) iZ tE iZ sN sN
  obtain⟨⟨y0,y1,y2,y3,y4,y5⟩,-⟩:=c6 hx8
  refine bodyPost_ret (v:= .agg #[.int .i64 3,.int .i64 0,.string ⟨#[]⟩,.int .i64 0,.slice none 0 0,.slice none 0 0]) (by simp[results,Tryz.results72,go_sem,y0,y1,y2,y3,y4,y5]) rfl ?_
  refine⟨⟨_,lfT 3,rfl,GTy.leaf _ _ 3 0 0 ⟨#[]⟩ (Nat.zero_le _),HE.out⟩,HP.out.put6 hR HLA.out (.int .i64 3) iZ tE iZ sN sN,((But.of HB1.out).trans HB.out).put6 lR (.int .i64 3) iZ tE iZ sN sN⟩
 |false=>
  cases q1:stHd sBang (.inl ts) with
  |true=>
   have k0:((Qi (.inl ts)).toList==[101,110,100])=false:=Qt q0
   have k1:((Qi (.inl ts)).toList==[33])=true:=Qt q1
   have htb:Qi (.inl ts)=sBang:=XF ((ZF (by decide+kernel) _).trans q1)
   obtain⟨he1,he2⟩:=QC (F:=Ql Qb (g+1+1)) (G:=fun ts=>Zg (Ql Qb (g+1)) 4 ts.tail) E (st:= .inl ts) (fun t e=>RV (by injection e with e;rw[<-e];exact q1))
   unfold Red
   obtain⟨hl1,hl2⟩:=JH (P:=Zg (Ql Qb (g+1)) 4) E q1
   rw[he1,he2,hl1,hl2]
   have HNX1:=hid (HNX.out sBang q1)
   clear he1 he2 hl1 hl2
   obtain⟨t1,ht1⟩:∃t1,Qi (.inl ts)=t1:=⟨_,rfl⟩
   have HT1:=hid ht1
   rw[ht1] at k0 k1 htb
   have HTB:=hid htb
   clear htb
   clear ht1 q0 q1
   go_enter Tryz.func72,Tryz.ntmps72
   go_upto_region 1 with fail
   rw[HW1.out]
   go_wp2_with (first|(go_at_call 58;refine(Qw R _ all E _ _ HP.out).mono ?_;rw[HT1.out];rintro en wn⟨rfl,hb⟩;replace HP:=hid (HP.out.to hb);replace HB:=hid (HB.out.to hb);clear hb)|(go_at_call 59;refine(QD R _ all E t1 (by rw[HTB.out];decide+kernel) _ _ HP.out).mono ?_;rintro en wo⟨rfl,hp,hb⟩;rw[HTB.out] at hp;replace HP:=hid hp;replace HB:=hid (HB.out.trans hb);clear hp hb)|(go_at_call 101;refine(Kn R _ all E 4 _ _ HP.out g (g+1) HS.out HNX1.out).mono ?_;rintro en wp⟨⟨_,x,rfl,hg,hv⟩,hp,hb⟩;obtain⟨la',ln,lc,ka,kn,kc,rfl⟩:=hg.open;have HV:=hid hv;have HG:=hid (hg.mono (show W1.heap.size<=_ from HB.out.size));clear hv hg;replace HP:=hid hp;replace HB:=hid (HB.out.trans hb);clear hp hb;have hx9:Blk wp w.heap.size z6 28:=(HB.out.block w.heap.size hs1 (Nat.ne_of_gt hR)).trans HX1.out;obtain⟨⟨q0,q1,q2,q3,q4,q5⟩,z0,z1,z2,z3,z4,z5⟩:=c6 hx9;have HX9:=hid hx9;clear hx9))
   have hx8:=ZB HX9.out (.int .i64 x.k) (.int .i64 x.p) (.string x.n) (.int .i64 x.s) (.slice la' ln lc) (.slice ka kn kc)
   obtain⟨⟨y0,y1,y2,y3,y4,y5⟩,-⟩:=c6 hx8
   refine bodyPost_ret (v:= .agg (cT x la' ln lc ka kn kc)) (by simp[results,Tryz.results72,go_sem,y0,y1,y2,y3,y4,y5]) rfl ?_
   refine⟨⟨_,x,rfl,(HG.out.put6 hs1 (.int .i64 x.k) (.int .i64 x.p) (.string x.n) (.int .i64 x.s) (.slice la' ln lc) (.slice ka kn kc)).mono (Nat.le_of_lt hs1),HV.out⟩,HP.out.put6 hR HLA.out (.int .i64 x.k) (.int .i64 x.p) (.string x.n) (.int .i64 x.s) (.slice la' ln lc) (.slice ka kn kc),((But.of HB1.out).trans HB.out).put6 lR (.int .i64 x.k) (.int .i64 x.p) (.string x.n) (.int .i64 x.s) (.slice la' ln lc) (.slice ka kn kc)⟩
  |false=>
   cases q2:stHd sAsk (.inl ts) with
   |true=>
    have k0:((Qi (.inl ts)).toList==[101,110,100])=false:=Qt q0
    have k1:((Qi (.inl ts)).toList==[33])=false:=Qt q1
    have k2:((Qi (.inl ts)).toList==[63])=true:=Qt q2
    have htb:Qi (.inl ts)=sAsk:=XF ((ZF (by decide+kernel) _).trans q2)
    obtain⟨he1,he2⟩:=QC (F:=Ql Qb (g+1+1)) (G:=fun ts=>Zg (Ql Qb (g+1)) 5 ts.tail) E (st:= .inl ts) (fun t e=>WJ (by injection e with e;rw[<-e];exact q2))
    unfold Red
    obtain⟨hl1,hl2⟩:=JH (P:=Zg (Ql Qb (g+1)) 5) E q2
    rw[he1,he2,hl1,hl2]
    have HNX1:=hid (HNX.out sAsk q2)
    clear he1 he2 hl1 hl2
    obtain⟨t1,ht1⟩:∃t1,Qi (.inl ts)=t1:=⟨_,rfl⟩
    have HT1:=hid ht1
    rw[ht1] at k0 k1 k2 htb
    have HTB:=hid htb
    clear htb
    clear ht1 q0 q1 q2
    go_enter Tryz.func72,Tryz.ntmps72
    go_upto_region 1 with fail
    rw[HW1.out]
    go_wp2_with (first|(go_at_call 58;refine(Qw R _ all E _ _ HP.out).mono ?_;rw[HT1.out];rintro en wn⟨rfl,hb⟩;replace HP:=hid (HP.out.to hb);replace HB:=hid (HB.out.to hb);clear hb)|(go_at_call 59;refine(QD R _ all E t1 (by rw[HTB.out];decide+kernel) _ _ HP.out).mono ?_;rintro en wo⟨rfl,hp,hb⟩;rw[HTB.out] at hp;replace HP:=hid hp;replace HB:=hid (HB.out.trans hb);clear hp hb)|(go_at_call 101;refine(Kn R _ all E 5 _ _ HP.out g (g+1) HS.out HNX1.out).mono ?_;rintro en wp⟨⟨_,x,rfl,hg,hv⟩,hp,hb⟩;obtain⟨la',ln,lc,ka,kn,kc,rfl⟩:=hg.open;have HV:=hid hv;have HG:=hid (hg.mono (show W1.heap.size<=_ from HB.out.size));clear hv hg;replace HP:=hid hp;replace HB:=hid (HB.out.trans hb);clear hp hb;have hx9:Blk wp w.heap.size z6 28:=(HB.out.block w.heap.size hs1 (Nat.ne_of_gt hR)).trans HX1.out;obtain⟨⟨q0,q1,q2,q3,q4,q5⟩,z0,z1,z2,z3,z4,z5⟩:=c6 hx9;have HX9:=hid hx9;clear hx9))
    have hx8:=ZB HX9.out (.int .i64 x.k) (.int .i64 x.p) (.string x.n) (.int .i64 x.s) (.slice la' ln lc) (.slice ka kn kc)
    obtain⟨⟨y0,y1,y2,y3,y4,y5⟩,-⟩:=c6 hx8
    refine bodyPost_ret (v:= .agg (cT x la' ln lc ka kn kc)) (by simp[results,Tryz.results72,go_sem,y0,y1,y2,y3,y4,y5]) rfl ?_
    refine⟨⟨_,x,rfl,(HG.out.put6 hs1 (.int .i64 x.k) (.int .i64 x.p) (.string x.n) (.int .i64 x.s) (.slice la' ln lc) (.slice ka kn kc)).mono (Nat.le_of_lt hs1),HV.out⟩,HP.out.put6 hR HLA.out (.int .i64 x.k) (.int .i64 x.p) (.string x.n) (.int .i64 x.s) (.slice la' ln lc) (.slice ka kn kc),((But.of HB1.out).trans HB.out).put6 lR (.int .i64 x.k) (.int .i64 x.p) (.string x.n) (.int .i64 x.s) (.slice la' ln lc) (.slice ka kn kc)⟩
   |false=>
    cases q3:stHd sPlus (.inl ts) with
    |true=>
     have k0:((Qi (.inl ts)).toList==[101,110,100])=false:=Qt q0
     have k1:((Qi (.inl ts)).toList==[33])=false:=Qt q1
     have k2:((Qi (.inl ts)).toList==[63])=false:=Qt q2
     have k3:((Qi (.inl ts)).toList==[43])=true:=Qt q3
     have htb:Qi (.inl ts)=sPlus:=XF ((ZF (by decide+kernel) _).trans q3)
     obtain⟨he1,he2⟩:=QC (F:=Ql Qb (g+1+1)) (G:=fun ts=>Jp Qb (Ql Qb (g+1)) (g+1) 6 ts.tail) E (st:= .inl ts) (fun t e=>RT (by injection e with e;rw[<-e];exact q3))
     unfold Red
     obtain⟨hl1,hl2⟩:=JH (P:=Jp Qb (Ql Qb (g+1)) (g+1) 6) E q3
     rw[he1,he2,hl1,hl2]
     have HNX1:=hid (HNX.out sPlus q3)
     clear he1 he2 hl1 hl2
     obtain⟨t1,ht1⟩:∃t1,Qi (.inl ts)=t1:=⟨_,rfl⟩
     have HT1:=hid ht1
     rw[ht1] at k0 k1 k2 k3 htb
     have HTB:=hid htb
     clear htb
     clear ht1 q0 q1 q2 q3
     go_enter Tryz.func72,Tryz.ntmps72
     go_upto_region 1 with fail
     rw[HW1.out]
     go_wp2_with (first|(go_at_call 58;refine(Qw R _ all E _ _ HP.out).mono ?_;rw[HT1.out];rintro en wn⟨rfl,hb⟩;replace HP:=hid (HP.out.to hb);replace HB:=hid (HB.out.to hb);clear hb)|(go_at_call 59;refine(QD R _ all E t1 (by rw[HTB.out];decide+kernel) _ _ HP.out).mono ?_;rintro en wo⟨rfl,hp,hb⟩;rw[HTB.out] at hp;replace HP:=hid hp;replace HB:=hid (HB.out.trans hb);clear hp hb)|(go_at_call 102;refine(HL.out 6 _ _ HP.out HNX1.out).mono ?_;rintro en wp⟨⟨_,x,rfl,hg,hv⟩,hp,hb⟩;obtain⟨la',ln,lc,ka,kn,kc,rfl⟩:=hg.open;have HV:=hid hv;have HG:=hid (hg.mono (show W1.heap.size<=_ from HB.out.size));clear hv hg;replace HP:=hid hp;replace HB:=hid (HB.out.trans hb);clear hp hb;have hx9:Blk wp w.heap.size z6 28:=(HB.out.block w.heap.size hs1 (Nat.ne_of_gt hR)).trans HX1.out;obtain⟨⟨q0,q1,q2,q3,q4,q5⟩,z0,z1,z2,z3,z4,z5⟩:=c6 hx9;have HX9:=hid hx9;clear hx9))
     have hx8:=ZB HX9.out (.int .i64 x.k) (.int .i64 x.p) (.string x.n) (.int .i64 x.s) (.slice la' ln lc) (.slice ka kn kc)
     obtain⟨⟨y0,y1,y2,y3,y4,y5⟩,-⟩:=c6 hx8
     refine bodyPost_ret (v:= .agg (cT x la' ln lc ka kn kc)) (by simp[results,Tryz.results72,go_sem,y0,y1,y2,y3,y4,y5]) rfl ?_
     refine⟨⟨_,x,rfl,(HG.out.put6 hs1 (.int .i64 x.k) (.int .i64 x.p) (.string x.n) (.int .i64 x.s) (.slice la' ln lc) (.slice ka kn kc)).mono (Nat.le_of_lt hs1),HV.out⟩,HP.out.put6 hR HLA.out (.int .i64 x.k) (.int .i64 x.p) (.string x.n) (.int .i64 x.s) (.slice la' ln lc) (.slice ka kn kc),((But.of HB1.out).trans HB.out).put6 lR (.int .i64 x.k) (.int .i64 x.p) (.string x.n) (.int .i64 x.s) (.slice la' ln lc) (.slice ka kn kc)⟩
    |false=>
     cases q4:stHd sAnd (.inl ts) with
     |true=>
      have k0:((Qi (.inl ts)).toList==[101,110,100])=false:=Qt q0
      have k1:((Qi (.inl ts)).toList==[33])=false:=Qt q1
      have k2:((Qi (.inl ts)).toList==[63])=false:=Qt q2
      have k3:((Qi (.inl ts)).toList==[43])=false:=Qt q3
      have k4:((Qi (.inl ts)).toList==[38])=true:=Qt q4
      have htb:Qi (.inl ts)=sAnd:=XF ((ZF (by decide+kernel) _).trans q4)
      obtain⟨he1,he2⟩:=QC (F:=Ql Qb (g+1+1)) (G:=fun ts=>Jp Qb (Ql Qb (g+1)) (g+1) 7 ts.tail) E (st:= .inl ts) (fun t e=>WK (by injection e with e;rw[<-e];exact q4))
      unfold Red
      obtain⟨hl1,hl2⟩:=JH (P:=Jp Qb (Ql Qb (g+1)) (g+1) 7) E q4
      rw[he1,he2,hl1,hl2]
      have HNX1:=hid (HNX.out sAnd q4)
      clear he1 he2 hl1 hl2
      obtain⟨t1,ht1⟩:∃t1,Qi (.inl ts)=t1:=⟨_,rfl⟩
      have HT1:=hid ht1
      rw[ht1] at k0 k1 k2 k3 k4 htb
      have HTB:=hid htb
      clear htb
      clear ht1 q0 q1 q2 q3 q4
      go_enter Tryz.func72,Tryz.ntmps72
      go_upto_region 1 with fail
      rw[HW1.out]
      go_wp2_with (first|(go_at_call 58;refine(Qw R _ all E _ _ HP.out).mono ?_;rw[HT1.out];rintro en wn⟨rfl,hb⟩;replace HP:=hid (HP.out.to hb);replace HB:=hid (HB.out.to hb);clear hb)|(go_at_call 59;refine(QD R _ all E t1 (by rw[HTB.out];decide+kernel) _ _ HP.out).mono ?_;rintro en wo⟨rfl,hp,hb⟩;rw[HTB.out] at hp;replace HP:=hid hp;replace HB:=hid (HB.out.trans hb);clear hp hb)|(go_at_call 102;refine(HL.out 7 _ _ HP.out HNX1.out).mono ?_;rintro en wp⟨⟨_,x,rfl,hg,hv⟩,hp,hb⟩;obtain⟨la',ln,lc,ka,kn,kc,rfl⟩:=hg.open;have HV:=hid hv;have HG:=hid (hg.mono (show W1.heap.size<=_ from HB.out.size));clear hv hg;replace HP:=hid hp;replace HB:=hid (HB.out.trans hb);clear hp hb;have hx9:Blk wp w.heap.size z6 28:=(HB.out.block w.heap.size hs1 (Nat.ne_of_gt hR)).trans HX1.out;obtain⟨⟨q0,q1,q2,q3,q4,q5⟩,z0,z1,z2,z3,z4,z5⟩:=c6 hx9;have HX9:=hid hx9;clear hx9))
      have hx8:=ZB HX9.out (.int .i64 x.k) (.int .i64 x.p) (.string x.n) (.int .i64 x.s) (.slice la' ln lc) (.slice ka kn kc)
      obtain⟨⟨y0,y1,y2,y3,y4,y5⟩,-⟩:=c6 hx8
      refine bodyPost_ret (v:= .agg (cT x la' ln lc ka kn kc)) (by simp[results,Tryz.results72,go_sem,y0,y1,y2,y3,y4,y5]) rfl ?_
      refine⟨⟨_,x,rfl,(HG.out.put6 hs1 (.int .i64 x.k) (.int .i64 x.p) (.string x.n) (.int .i64 x.s) (.slice la' ln lc) (.slice ka kn kc)).mono (Nat.le_of_lt hs1),HV.out⟩,HP.out.put6 hR HLA.out (.int .i64 x.k) (.int .i64 x.p) (.string x.n) (.int .i64 x.s) (.slice la' ln lc) (.slice ka kn kc),((But.of HB1.out).trans HB.out).put6 lR (.int .i64 x.k) (.int .i64 x.p) (.string x.n) (.int .i64 x.s) (.slice la' ln lc) (.slice ka kn kc)⟩
     |false=>
      cases q5:stHd sRec (.inl ts) with
      |true=>
       have k0:((Qi (.inl ts)).toList==[101,110,100])=false:=Qt q0
       have k1:((Qi (.inl ts)).toList==[33])=false:=Qt q1
       have k2:((Qi (.inl ts)).toList==[63])=false:=Qt q2
       have k3:((Qi (.inl ts)).toList==[43])=false:=Qt q3
       have k4:((Qi (.inl ts)).toList==[38])=false:=Qt q4
       have k5:((Qi (.inl ts)).toList==[114,101,99])=true:=Qt q5
       have htb:Qi (.inl ts)=sRec:=XF ((ZF (by decide+kernel) _).trans q5)
       obtain⟨he1,he2⟩:=QC (F:=Ql Qb (g+1+1)) (G:=fun ts=>VH Qb (Ql Qb (g+1)) ts.tail) E (st:= .inl ts) (fun t e=>WH (by injection e with e;rw[<-e];exact q5))
       unfold Red
       obtain⟨hl1,hl2⟩:=JH (P:=VH Qb (Ql Qb (g+1))) E q5
       rw[he1,he2,hl1,hl2]
       have HNX1:=hid (HNX.out sRec q5)
       have hnx2:(Qa E (need sDot) (Qa E (Qk Qb) (Qa E (need sRec) (.inl ts)))).len<g+1:=Nat.lt_of_le_of_lt (lT (len_le E (F:=need sDot) (fun _ _ _ h=>Nat.le_of_lt (Qp h)) _) (len_le E (F:=Qk Qb) (fun _ _ _ h=>Nat.le_of_lt (QJ h)) _)) HNX1.out
       have HNX2:=hid hnx2
       clear hnx2
       obtain⟨hm1,hm2⟩:=WW E (Ql Qb (g+1)) (Qa E (need sRec) (.inl ts))
       rw[hm1]
       have HE:=hid hm2
       clear hm1 hm2
       clear he1 he2 hl1 hl2
       obtain⟨t1,ht1⟩:∃t1,Qi (.inl ts)=t1:=⟨_,rfl⟩
       have HT1:=hid ht1
       rw[ht1] at k0 k1 k2 k3 k4 k5 htb
       have HTB:=hid htb
       clear htb
       clear ht1 q0 q1 q2 q3 q4 q5
       go_enter Tryz.func72,Tryz.ntmps72
       go_upto_region 1 with fail
       rw[HW1.out]
       go_upto_region 23 with(first|(go_at_call 58;refine(Qw R _ all E _ _ HP.out).mono ?_;rw[HT1.out];rintro en wn⟨rfl,hb⟩;replace HP:=hid (HP.out.to hb);replace HB:=hid (HB.out.to hb);clear hb)|(go_at_call 60;refine(Zv R _ all E _ _ HP.out).mono ?_;rintro en wp⟨⟨_,n,rfl,⟨rfl,hnz⟩,hv⟩,hp,hb⟩;have HNZ:=hid hnz;have HVn:=hid hv;clear hv hnz;replace HP:=hid hp;replace HB:=hid (HB.out.trans hb);clear hp hb)|(go_at_call 59;refine(QD R _ all E t1 (by rw[HTB.out];decide+kernel) _ _ HP.out).mono ?_;rintro en wo⟨rfl,hp,hb⟩;rw[HTB.out] at hp;replace HP:=hid hp;replace HB:=hid (HB.out.trans hb);clear hp hb))
       go_wp2_with (first|(go_at_call 59;refine(QD R _ all E _ (by decide+kernel) _ _ HP.out).mono ?_;rintro en wq⟨rfl,hp,hb⟩;replace HP:=hid hp;replace HB:=hid (HB.out.trans hb);clear hp hb)|(go_at_call 72;refine(HS.out _ _ HP.out HNX2.out).mono ?_;rintro en wr⟨⟨_,x,rfl,hg,hv⟩,hp,hb⟩;obtain⟨la',ln,lc,ka,kn,kc,rfl⟩:=hg.open;have HV:=hid hv;have HG:=hid (hg.mono (show W1.heap.size<=_ from HB.out.size));clear hv hg;replace HP:=hid hp;replace HB:=hid (HB.out.trans hb);clear hp hb;have hx9:(wr.alloc (.cells (cT x la' ln lc ka kn kc) 28)).heap[w.heap.size]? =some (.cells z6 28 (0,0)):=(((Below.refl _ wr).alloc lR _).block w.heap.size (lL hs1 HB.out.size)).trans ((HB.out.block w.heap.size hs1 (Nat.ne_of_gt hR)).trans HX1.out);obtain⟨⟨q0,q1,q2,q3,q4,q5⟩,z0,z1,z2,z3,z4,z5⟩:=c6 hx9;have HX9:=hid hx9;clear hx9))
       obtain⟨W5,hW5⟩:∃W5,wr.alloc (.cells (cT x la' ln lc ka kn kc) 28)=W5:=⟨_,rfl⟩
       have hb5:=(made hW5).1
       have x5:=(made hW5).2
       rw[hW5] at HX9 |-
       have hwm:W1.heap.size<=wr.heap.size:=HB.out.size
       have hg5:GTy W1.heap.size W5 (.mk 8 0 n 0 [] [x]) (.agg #[.int .i64 8,.int .i64 0,.string n,.int .i64 0,.slice none 0 0,.slice (some ⟨wr.heap.size,0,none⟩) 1 1]):=GTy.node HNZ.out (Mz _ _) (Rs x5 ⟨hwm,(gl x5)⟩ (HG.out.but (But.of (P:=R) hb5) (Nat.lt_trans hR hs1)))
       have HPn:=hid (HP.out.to hb5)
       have HBn:=hid (HB.out.to hb5)
       clear HP HB
       have HP:=HPn
       have HB:=HBn
       have hx8:=ZB HX9.out (.int .i64 8) iZ (.string n) iZ sN (.slice (some ⟨wr.heap.size,0,none⟩) 1 1)
       obtain⟨⟨y0,y1,y2,y3,y4,y5⟩,-⟩:=c6 hx8
       refine bodyPost_ret (v:= .agg #[.int .i64 8,.int .i64 0,.string n,.int .i64 0,.slice none 0 0,.slice (some ⟨wr.heap.size,0,none⟩) 1 1]) (by simp[results,Tryz.results72,go_sem,y0,y1,y2,y3,y4,y5]) rfl ?_
       refine⟨⟨_,Ty.mk 8 0 n 0 [] [x],rfl,(hg5.put6 hs1 (.int .i64 8) iZ (.string n) iZ sN (.slice (some ⟨wr.heap.size,0,none⟩) 1 1)).mono (Nat.le_of_lt hs1),fun y hy=>by obtain⟨n',u',h1,h2,rfl⟩:=HE.out y hy;rw[HVn.out n' h1,HV.out u' h2]⟩,HP.out.put6 hR HLA.out (.int .i64 8) iZ (.string n) iZ sN (.slice (some ⟨wr.heap.size,0,none⟩) 1 1),((But.of HB1.out).trans HB.out).put6 lR (.int .i64 8) iZ (.string n) iZ sN (.slice (some ⟨wr.heap.size,0,none⟩) 1 1)⟩
      |false=>
       cases q6:stHd QI (.inl ts) with
       |true=>
        have k0:((Qi (.inl ts)).toList==[101,110,100])=false:=Qt q0
        have k1:((Qi (.inl ts)).toList==[33])=false:=Qt q1
        have k2:((Qi (.inl ts)).toList==[63])=false:=Qt q2
        have k3:((Qi (.inl ts)).toList==[43])=false:=Qt q3
        have k4:((Qi (.inl ts)).toList==[38])=false:=Qt q4
        have k5:((Qi (.inl ts)).toList==[114,101,99])=false:=Qt q5
        have k6:((Qi (.inl ts)).toList==[40])=true:=Qt q6
        have htb:Qi (.inl ts)=QI:=XF ((ZF (by decide+kernel) _).trans q6)
        obtain⟨he1,he2⟩:=QC (F:=Ql Qb (g+1+1)) (G:=fun ts=>(Ql Qb (g+1) ts.tail).bind fun t r=>(need Qy r).bind fun _ r=> .ok t r) E (st:= .inl ts) (fun t e=>RU (by injection e with e;rw[<-e];exact q6))
        unfold Red
        obtain⟨hl1,hl2⟩:=JH (P:=fun ts=>(Ql Qb (g+1) ts).bind fun t r=>(need Qy r).bind fun _ r=> .ok t r) E q6
        rw[he1,he2,hl1,hl2]
        have HNX1:=hid (HNX.out QI q6)
        obtain⟨hm1,hm2⟩:=Sv E (Ql Qb (g+1)) (Qa E (need QI) (.inl ts))
        rw[hm1]
        have HE:=hid hm2
        clear hm1 hm2
        clear he1 he2 hl1 hl2
        obtain⟨t1,ht1⟩:∃t1,Qi (.inl ts)=t1:=⟨_,rfl⟩
        have HT1:=hid ht1
        rw[ht1] at k0 k1 k2 k3 k4 k5 k6 htb
        have HTB:=hid htb
        clear htb
        clear ht1 q0 q1 q2 q3 q4 q5 q6
        go_enter Tryz.func72,Tryz.ntmps72
        go_upto_region 1 with fail
        rw[HW1.out]
        go_upto_region 28 with(first|(go_at_call 58;refine(Qw R _ all E _ _ HP.out).mono ?_;rw[HT1.out];rintro en wn⟨rfl,hb⟩;replace HP:=hid (HP.out.to hb);replace HB:=hid (HB.out.to hb);clear hb)|(go_at_call 59;refine(QD R _ all E t1 (by rw[HTB.out];decide+kernel) _ _ HP.out).mono ?_;rintro en wo⟨rfl,hp,hb⟩;rw[HTB.out] at hp;replace HP:=hid hp;replace HB:=hid (HB.out.trans hb);clear hp hb)|(go_at_call 72;refine(HS.out _ _ HP.out HNX1.out).mono ?_;rintro en wp⟨⟨_,x,rfl,hg,hv⟩,hp,hb⟩;obtain⟨la',ln,lc,ka,kn,kc,rfl⟩:=hg.open;have HV:=hid hv;have HG:=hid (hg.mono (show W1.heap.size<=_ from HB.out.size));clear hv hg;replace HP:=hid hp;replace HB:=hid (HB.out.trans hb);clear hp hb))
        obtain⟨W4,hW4⟩:∃W4,wp.alloc (.cells (cT x la' ln lc ka kn kc) 28)=W4:=⟨_,rfl⟩
        have hbx:=(made hW4).1
        have xx:=(made hW4).2
        have hlB:wp.heap.size<W4.heap.size:=(gl xx)
        have hsB:W1.heap.size<=wp.heap.size:=HB.out.size
        have hnB:wp.heap.size≠R:=by omega
        rw[hW4]
        have HPn:=hid (HP.out.to hbx)
        have HBn:=hid (HB.out.to hbx)
        have HXB:=hid xx
        have HBB:=hid hbx
        clear HP HB hW4 hbx xx
        have HP:=HPn
        have HB:=HBn
        clear HPn HBn
        have HGT:=hid (HG.out.but (But.of (P:=R) HBB.out) (Nat.lt_trans hR hs1))
        have HC:Hid (But R W4 W4):=hid (But.refl _ _)
        clear HG HBB
        go_upto_region 29 with((go_at_call 59;refine(QD R _ all E _ (by decide+kernel) _ _ HP.out).mono ?_;rintro en wq⟨rfl,hp,hb⟩;replace HP:=hid hp;replace HB:=hid (HB.out.trans hb);replace HC:=hid (HC.out.trans hb);clear hp hb))
        have hx3:=(HC.out.block wp.heap.size hlB hnB).trans HXB.out
        obtain⟨⟨d0,d1,d2,d3,d4,d5⟩,-⟩:=c6 hx3
        clear hx3
        have hx9:Blk wq w.heap.size z6 28:=(HB.out.block w.heap.size hs1 (Nat.ne_of_gt hR)).trans HX1.out
        obtain⟨⟨q0,q1,q2,q3,q4,q5⟩,z0,z1,z2,z3,z4,z5⟩:=c6 hx9
        have HX9:=hid hx9
        clear hx9
        go_wp2_with fail
        have hx8:=ZB HX9.out (.int .i64 x.k) (.int .i64 x.p) (.string x.n) (.int .i64 x.s) (.slice la' ln lc) (.slice ka kn kc)
        obtain⟨⟨y0,y1,y2,y3,y4,y5⟩,-⟩:=c6 hx8
        refine bodyPost_ret (v:= .agg (cT x la' ln lc ka kn kc)) (by simp[results,Tryz.results72,go_sem,y0,y1,y2,y3,y4,y5]) rfl ?_
        refine⟨⟨_,x,rfl,((HGT.out.but HC.out (Nat.lt_trans hR hs1)).put6 hs1 (.int .i64 x.k) (.int .i64 x.p) (.string x.n) (.int .i64 x.s) (.slice la' ln lc) (.slice ka kn kc)).mono (Nat.le_of_lt hs1),fun y hy=>HV.out y (HE.out y hy)⟩,HP.out.put6 hR HLA.out (.int .i64 x.k) (.int .i64 x.p) (.string x.n) (.int .i64 x.s) (.slice la' ln lc) (.slice ka kn kc),((But.of HB1.out).trans HB.out).put6 lR (.int .i64 x.k) (.int .i64 x.p) (.string x.n) (.int .i64 x.s) (.slice la' ln lc) (.slice ka kn kc)⟩
       |false=>
        have k0:((Qi (.inl ts)).toList==[101,110,100])=false:=Qt q0
        have k1:((Qi (.inl ts)).toList==[33])=false:=Qt q1
        have k2:((Qi (.inl ts)).toList==[63])=false:=Qt q2
        have k3:((Qi (.inl ts)).toList==[43])=false:=Qt q3
        have k4:((Qi (.inl ts)).toList==[38])=false:=Qt q4
        have k5:((Qi (.inl ts)).toList==[114,101,99])=false:=Qt q5
        have k6:((Qi (.inl ts)).toList==[40])=false:=Qt q6
        obtain⟨he1,he2⟩:=QC (F:=Ql Qb (g+1+1)) (G:=pvar Qb) E (st:= .inl ts) (fun t e=>by injection e with e;rw[<-e];exact Fi q0 q1 q2 q3 q4 q5 q6)
        unfold Red
        rw[he1,he2]
        clear he1 he2
        obtain⟨t1,ht1⟩:∃t1,Qi (.inl ts)=t1:=⟨_,rfl⟩
        have HT1:=hid ht1
        rw[ht1] at k0 k1 k2 k3 k4 k5 k6
        clear ht1 q0 q1 q2 q3 q4 q5 q6
        go_enter Tryz.func72,Tryz.ntmps72
        go_upto_region 1 with fail
        rw[HW1.out]
        go_wp2_with (first|(go_at_call 58;refine(Qw R _ all E _ _ HP.out).mono ?_;rw[HT1.out];rintro en wn⟨rfl,hb⟩;replace HP:=hid (HP.out.to hb);replace HB:=hid (HB.out.to hb);clear hb)|(go_at_call 100;refine(ND R _ all E _ _ HP.out).mono ?_;rintro en wp⟨⟨_,x,rfl,hg,hv⟩,hp,hb⟩;obtain⟨la',ln,lc,ka,kn,kc,rfl⟩:=hg.open;have HV:=hid hv;have HG:=hid (hg.mono (show W1.heap.size<=_ from HB.out.size));clear hv hg;replace HP:=hid hp;replace HB:=hid (HB.out.trans hb);clear hp hb;have hx9:Blk wp w.heap.size z6 28:=(HB.out.block w.heap.size hs1 (Nat.ne_of_gt hR)).trans HX1.out;obtain⟨⟨q0,q1,q2,q3,q4,q5⟩,z0,z1,z2,z3,z4,z5⟩:=c6 hx9;have HX9:=hid hx9;clear hx9))
        have hx8:=ZB HX9.out (.int .i64 x.k) (.int .i64 x.p) (.string x.n) (.int .i64 x.s) (.slice la' ln lc) (.slice ka kn kc)
        obtain⟨⟨y0,y1,y2,y3,y4,y5⟩,-⟩:=c6 hx8
        refine bodyPost_ret (v:= .agg (cT x la' ln lc ka kn kc)) (by simp[results,Tryz.results72,go_sem,y0,y1,y2,y3,y4,y5]) rfl ?_
        refine⟨⟨_,x,rfl,(HG.out.put6 hs1 (.int .i64 x.k) (.int .i64 x.p) (.string x.n) (.int .i64 x.s) (.slice la' ln lc) (.slice ka kn kc)).mono (Nat.le_of_lt hs1),HV.out⟩,HP.out.put6 hR HLA.out (.int .i64 x.k) (.int .i64 x.p) (.string x.n) (.int .i64 x.s) (.slice la' ln lc) (.slice ka kn kc),((But.of HB1.out).trans HB.out).put6 lR (.int .i64 x.k) (.int .i64 x.p) (.string x.n) (.int .i64 x.s) (.slice la' ln lc) (.slice ka kn kc)⟩
theorem Dm(R:Nat)(la:Option Addr)(all:List Tk)(E:Int)(z:Int×Int)(S:List Tk->PR Ty)(w:World)(h:RdIs R la all E (.inr z) w):
 Calls Tryz.prog 72 #[.pointer (some ⟨R,0,none⟩)] w (Red R la all E w S (.inr z) (GTy w.heap.size)):=by
 obtain⟨W1,hW1⟩:∃W1,w.alloc (.cells z6 28)=W1:=⟨_,rfl⟩
 have hb1:=(made hW1).1
 have x1:=(made hW1).2
 have hs1:w.heap.size<W1.heap.size:=(gl x1)
 have hR:R<w.heap.size:=h.lt
 have HLA:=hid h.la
 have HP:Hid (RdIs R la all E (.inr z) W1):=hid (h.to hb1)
 have HB:Hid (But R W1 W1):=hid (But.refl _ _)
 have HW1:=hid hW1
 have HB1:=hid hb1
 have HX1:=hid x1
 clear hW1 hb1 x1 h
 obtain⟨er,y3,hne⟩:∃er:Int,W1.cell? ⟨R,3,none⟩=some (.int .i64 er)/\(er != 0)=true:=by
  obtain⟨e0,p0⟩:=z
  obtain⟨cap,a,p,e,hx,_,_,he,_,hn⟩:=HP.out
  exact⟨e,(c5 hx).1.2.2.2.1,by rw[he];simpa using hn⟩
 go_enter Tryz.func72,Tryz.ntmps72
 go_upto_region 1 with fail
 rw[HW1.out]
 have hx9:Blk W1 w.heap.size z6 28:=(HB.out.block w.heap.size hs1 (Nat.ne_of_gt hR)).trans HX1.out
 obtain⟨⟨q0,q1,q2,q3,q4,q5⟩,z0,z1,z2,z3,z4,z5⟩:=c6 hx9
 have HX9:=hid hx9
 clear hx9
 go_wp2_with fail
 have hx8:=Ew HX9.out
 obtain⟨⟨y0,y1,y2,y3,y4,y5⟩,-⟩:=c6 hx8
 refine bodyPost_ret (v:= .agg z6) (by simp[results,Tryz.results72,go_sem,y0,y1,y2,y3,y4,y5]) rfl ?_
 refine⟨⟨_,lfT 0,rfl,GTy.leaf _ _ 0 0 0 ⟨#[]⟩ (Nat.zero_le _),fun _ h=>by cases h⟩,HP.out.put6 hR HLA.out iZ iZ tE iZ sN sN,((But.of HB1.out).trans HB.out).put6 lR iZ iZ tE iZ sN sN⟩
def stOf:List Tok.Item ⊕ (Int×Int)->RS
 | .inl I=> .inl (I.map tkOf)
 | .inr z=> .inr z
theorem WX{R:Nat}{base:Nat}{el:TypeId}{W:World}{v:Value}{ts:List Tk}(h:GRow el 4 base W v (ts.map Qz))(hz:∀x∈ts,x.t.size<=maxLen)(hR:W.heap.size<=R):∃la cap,v= .slice la ts.length cap/\RdRow R la ts W:=by
 rcases h.parts with⟨rfl,e⟩|⟨g,cap,rfl,h1,h2,h3,_⟩
 ·have e:ts=[]:=List.map_eq_nil_iff.1 e
  subst e
  exact⟨none,0,rfl,fun j x hj=>by simp at hj⟩
 ·refine⟨some ⟨g,0,none⟩,cap,by rw[List.length_map],fun j x hj=>⟨hz x (List.mem_of_getElem? hj),g,0,rfl,h2,by omega,?_⟩⟩
  have hes:(ts.map Qz)[j]? =some (Qz x):=by rw[List.getElem?_map,hj];rfl
  have hc:∀i u,(Qz x)[i]? =some u->W.cell? ⟨g,0+j*4+i,none⟩=some u:=fun i u hu=>by
   obtain⟨g',cap',e,hc⟩:=h.cell hes hu
   simp only[Value.slice.injEq,Option.some.injEq,Addr.mk.injEq,and_true,true_and] at e
   rw[<-e.1] at hc
   rw[Nat.zero_add]
   exact hc
  exact⟨hc 0 _ rfl,hc 1 _ rfl,hc 2 _ rfl,hc 3 _ rfl⟩
def Wt:List Tok.Item ⊕ (Int×Int)->List Tk
 | .inl I=>I.map tkOf
 | .inr _=>[]
theorem RO(s:ByteArray)(r:List Tok.Item ⊕ (Int×Int))(hr:Scans s r)(w:World):
 Calls Tryz.prog 26 #[.string s] w fun e w'=>∃R la all,e= .returned (.pointer (some ⟨R,0,none⟩))/\w.heap.size<=R/\RdIs R la all (s.size:Int) (stOf r) w'/\Below w.heap.size w w'/\all=Wt r:=by
 match r with
 | .inr (er,p)=>
  have HT:=hid (hr.refBad w)
  have HNE:=hid hr.ne
  clear hr
  go_enter Tryz.func26,Tryz.ntmps26
  go_wp2_with (go_at_call 19;refine HT.out.mono ?_;rintro en w1⟨rfl,hb⟩;have HB:=hid hb;clear hb)
  go_ret
  exact⟨w1.heap.size,none,[],rfl,HB.out.size,⟨0,0,p,er,World.alloc_heap_new _ _,Nat.zero_le _,fun j x hj=>by simp at hj,rfl,rfl,HNE.out⟩,HB.out.trans (bR.alloc HB.out.size _),rfl⟩
 | .inl I=>
  have HT:=hid (hr.refOK w)
  have HZ:=hid hr.txt
  have HLN:=hid hr.len
  clear hr
  go_enter Tryz.func26,Tryz.ntmps26
  go_wp2_with (go_at_call 19;refine HT.out.mono ?_;rintro en w1⟨v,rfl,hown,hb⟩;obtain⟨la,cap,rfl,hrow⟩:=WX (R:=w1.heap.size) (Yl hown) (fun x hx=>by obtain⟨y,hy,rfl⟩:=List.mem_map.1 hx;exact HZ.out y hy) lR;have HB:=hid hb;have HROW:=hid hrow;clear hb hown hrow)
  go_ret
  exact⟨w1.heap.size,la,I.map tkOf,rfl,HB.out.size,⟨cap,0,0,0,by rw[List.length_map];exact World.alloc_heap_new _ _,by rw[List.length_map];have:=HLN.out;omega,HROW.out.to (bR.alloc lR _),rfl,0,rfl,Nat.zero_le _,rfl⟩,HB.out.trans (bR.alloc HB.out.size _),rfl⟩
def Rh(E:Int)(ok:Bool):RS->RS
 | .inl (x::r)=> .inr (1,posE E (x::r))
 | .inl []=>if ok=true then .inl [] else .inr (2,E)
 | .inr z=> .inr z
theorem Mr(R:Nat)(la:Option Addr)(all:List Tk)(E:Int)(ok:Bool)(st:RS)(w:World)(h:RdIs R la all E st w)(hin:∀er p,st= .inr (er,p)->ok=true):
 Calls Tryz.prog 28 #[.pointer (some ⟨R,0,none⟩),.bool ok] w fun e w'=>e= .returned (.tuple #[])/\RdIs R la all E (Rh E ok st) w'/\But R w w':=by
 have HH:=hid h
 have HF:=hid (fun W hW=>ZG R la all E st 1 (by decide) W hW)
 obtain⟨cap,a,p,e,h1,h2,h3,h4⟩:=h
 obtain⟨⟨q0,q1,q2,q3,q4⟩,z0,z1,z2,z3,z4⟩:=c5 h1
 obtain⟨ln,hln⟩:∃ln,all.length=ln:=⟨_,rfl⟩
 rw[hln] at q0 h1 h2
 have HX:=hid h1
 clear h1 h3
 match st with
 | .inl []=>
  obtain⟨rfl,n,rfl,hn,hd⟩:=h4
  have hnn:=Vp hd hn
  rw[hln] at hnn
  subst hnn
  have hg:decide ((n:Int)<(n:Int))=false:=by simp
  have HD:=hid hd
  clear hd hn h2
  cases ok with
  |true=>
   go_enter Tryz.func28,Tryz.ntmps28
   go_upto_region 0 with fail
   go_quiet (fail)
   go_wp2_with fail
   go_end0
   exact⟨rfl,HH.out.to (below_drewN bR _),(But.refl R w).to (below_drewN bR _)⟩
  |false=>
   go_enter Tryz.func28,Tryz.ntmps28
   go_upto_region 0 with fail
   go_quiet (fail)
   go_wp2_with fail
   go_end0
   obtain⟨cap',a',p',e',i1,i2,i3,i4⟩:=HH.out
   exact⟨rfl,⟨cap',a',E,2,Qd (Qd (W:=w.drewN nq) i1 3 _) 4 _,i2,i3.but ((((But.refl R w).to (below_drewN bR nq)).set 3 _).set 4 _),rfl,rfl,by decide⟩,(((But.refl R w).to (below_drewN bR nq)).set 3 _).set 4 _⟩
 | .inl (x::r)=>
  obtain⟨rfl,n,rfl,hn,hd⟩:=h4
  obtain⟨hlt,hx,hdr⟩:=Zc hd
  rw[hln] at hlt
  have hg:decide ((n:Int)<(ln:Int))=true:=by simp;omega
  clear hd hn h2 hx hdr
  go_enter Tryz.func28,Tryz.ntmps28
  go_upto_region 0 with fail
  go_quiet (fail)
  go_wp2_with (go_at_call 61;refine(HF.out _ (HH.out.to (below_drewN bR nq))).mono ?_;rintro en w2⟨rfl,hp,hb⟩;have HP2:=hid hp;have HB2:=hid hb;have c3:∃er:Int,w2.cell? ⟨R,3,none⟩=some (.int .i64 er)/\(er==0)=false:=(by obtain⟨_,_,p5,e5,j1,_,_,rfl,_,j4⟩:=hp;exact⟨1,(c5 j1).1.2.2.2.1,by decide⟩);obtain⟨er,c3,c4⟩:=c3;clear hp hb)
  go_end0
  exact⟨rfl,HP2.out,((But.refl R w).to (below_drewN bR nq)).trans HB2.out⟩
 | .inr (er,pos)=>
  obtain rfl:=hin er pos rfl
  obtain⟨rfl,rfl,hne⟩:=h4
  have hn2:(e==0)=false:=by simpa using hne
  cases hg:decide (a<(ln:Int)) with
  |true=>
   go_enter Tryz.func28,Tryz.ntmps28
   go_upto_region 0 with fail
   go_quiet (fail)
   go_wp2_with (go_at_call 61;refine(HF.out _ (HH.out.to (below_drewN bR nq))).mono ?_;rintro en w2⟨rfl,hp,hb⟩;have HP2:=hid hp;have HB2:=hid hb;have c3:w2.cell? ⟨R,3,none⟩=some (.int .i64 e):=(by obtain⟨_,_,p5,e5,j1,_,_,rfl,_,j4⟩:=hp;exact(c5 j1).1.2.2.2.1);clear hp hb)
   go_end0
   exact⟨rfl,HP2.out,((But.refl R w).to (below_drewN bR nq)).trans HB2.out⟩
  |false=>
   go_enter Tryz.func28,Tryz.ntmps28
   go_upto_region 0 with fail
   go_quiet (fail)
   go_wp2_with fail
   go_end0
   exact⟨rfl,HH.out.to (below_drewN bR _),(But.refl R w).to (below_drewN bR _)⟩
end Go.Proofs.YtmnbheplkidfaaaGreatDoor
