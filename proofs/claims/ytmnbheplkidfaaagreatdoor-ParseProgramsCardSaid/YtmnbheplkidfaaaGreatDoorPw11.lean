/- The reference's values. (and what follows from it) -/
import Derived.Test.YtmnbheplkidfaaaGreatDoorPw10
import Derived.Deep.WholeRow
set_option maxHeartbeats 16000000
set_option maxRecDepth 100000
namespace Go.Proofs.YtmnbheplkidfaaaGreatDoor.Tok
open Go.Lib (hid)
open Go.RowKit Go.Shelf Go.Deep
theorem Db(A:Nat):Int.tdiv (-(A:Int)) 10= -((A / 10:Nat):Int):=by
 rw[Int.neg_tdiv];rfl
theorem Da(A:Nat):Int.tdiv (A:Int) 10=((A / 10:Nat):Int):=rfl
def okT(v:Int):Value:= .tuple #[.int .i64 v,.bool true]
def noT:Value:= .tuple #[.int .i64 0,.bool false]
def negT(x:Nat):Value:=if x<=2 ^ 63 then okT (-(x:Int)) else noT
def posT(x:Nat):Value:=if x<2 ^ 63 then okT x else noT
theorem Hf(s:ByteArray)(hs:s.size<=281474976710656)(h0:0<s.size)(h45:((s[0].toNat:Int)==45)=true)(hd:Hid (∀j (h:j<s.size),1<=j->48<=s[j].toNat/\s[j].toNat<=57))(w:World):
 Calls Tryz.prog 45 #[.string s] w fun e w'=>e= .returned (negT (vAt s 1 (s.size-1)))/\Drew w w':=by
 go_enter Tryz.func45,Tryz.ntmps45
 go_wp2_with fail
 go_loopw [4,5] (fun v n wr=>∃k x:Nat,1+k<=s.size/\n= .int .i64 ((1+k:Nat):Int)/\x<=9223372036854775808/\Hid (vAt s 1 k=x)/\v= .int .i64 (-(x:Int))/\Drew w wr) (fun _ n _=>s.size-(intOf n).toNat)
 case atStart=>exact⟨0,0,by omega,by go_num,by omega,hid (Fb _ _),by go_num,Drew.refl _⟩
 case round=>
  obtain⟨k,x,hk,rfl,hx,hv,rfl,hdr⟩:=hrel
  by_cases hlt:1+k<s.size
  ·obtain⟨hc1,hc2⟩:=hd.out (1+k) hlt (by omega)
   have hvs:=Fc s 1 k hlt
   have hvl:=SU s 1 (k+1) (s.size-1) (by omega)
   rw[hv.out] at hvs
   have hq:(-9223372036854775808+((s[1+k].toNat:Int)-48)).tdiv 10= -(((9223372036854775808-(s[1+k].toNat-48)) / 10:Nat):Int):=by
    rw[<-Db];congr 1;omega
   by_cases hov:10*x+(s[1+k].toNat-48)<=9223372036854775808
   ·have hqd:decide (-(x:Int)<(-9223372036854775808+((s[1+k].toNat:Int)-48)).tdiv 10)=false:=by
     rw[hq];simp;omega
    have HVS:=hid hvs
    clear hvs hvl hq
    go_wp2_with fail
    go_roundw
    case rel=>exact⟨k+1,10*x+(s[1+k].toNat-48),by omega,by go_num,hov,HVS,by go_num,hdr⟩
    case measure=>simp[intOf];omega
   ·have hqd:decide (-(x:Int)<(-9223372036854775808+((s[1+k].toNat:Int)-48)).tdiv 10)=true:=by
     rw[hq];simp;omega
    have HR:=hid (show negT (vAt s 1 (s.size-1))=noT by unfold negT;rw[if_neg (by omega)])
    clear hvs hvl hq
    go_wp2_with fail
    rw[HR.out]
    exact bodyPost_ret (v:=noT) (by simp[results,Tryz.results45,go_sem,noT]) rfl ⟨rfl,hdr⟩
  ·have e:s.size-1=k:=by omega
   have HR:=hid (show negT (vAt s 1 (s.size-1))=okT (-(x:Int)) by unfold negT;rw[e,hv.out,if_pos (by omega)])
   clear e
   go_wp2_with fail
   rw[HR.out]
   exact bodyPost_ret (v:=okT (-(x:Int))) (by simp[results,Tryz.results45,go_sem,okT]) rfl ⟨rfl,hdr⟩
theorem He(s:ByteArray)(hs:s.size<=281474976710656)(h0:0<s.size)(h45:((s[0].toNat:Int)==45)=false)(hd:Hid (∀j (h:j<s.size),48<=s[j].toNat/\s[j].toNat<=57))(w:World):
 Calls Tryz.prog 45 #[.string s] w fun e w'=>e= .returned (posT (vAt s 0 s.size))/\Drew w w':=by
 go_enter Tryz.func45,Tryz.ntmps45
 go_wp2_with fail
 go_loopw [7,8] (fun v n wr=>∃k x:Nat,k<=s.size/\n= .int .i64 (k:Int)/\x<=9223372036854775807/\Hid (vAt s 0 k=x)/\v= .int .i64 (x:Int)/\Drew w wr) (fun _ n _=>s.size-(intOf n).toNat)
 case atStart=>exact⟨0,0,by omega,by go_num,by omega,hid (Fb _ _),by go_num,Drew.refl _⟩
 case round=>
  obtain⟨k,x,hk,rfl,hx,hv,rfl,hdr⟩:=hrel
  by_cases hlt:k<s.size
  ·obtain⟨hc1,hc2⟩:=hd.out k hlt
   have hvs:=Fc s 0 k (by omega)
   have hvl:=SU s 0 (k+1) s.size (by omega)
   rw[hv.out] at hvs
   simp only[Nat.zero_add] at hvs
   have hq:(9223372036854775807-((s[k].toNat:Int)-48)).tdiv 10=(((9223372036854775807-(s[k].toNat-48)) / 10:Nat):Int):=by
    rw[<-Da];congr 1;omega
   by_cases hov:10*x+(s[k].toNat-48)<=9223372036854775807
   ·have hqd:decide ((9223372036854775807-((s[k].toNat:Int)-48)).tdiv 10<(x:Int))=false:=by
     rw[hq];simp;omega
    have HVS:=hid hvs
    clear hvs hvl hq
    go_wp2_with fail
    go_roundw
    case rel=>exact⟨k+1,10*x+(s[k].toNat-48),by omega,by go_num,hov,HVS,by go_num,hdr⟩
    case measure=>simp[intOf];omega
   ·have hqd:decide ((9223372036854775807-((s[k].toNat:Int)-48)).tdiv 10<(x:Int))=true:=by
     rw[hq];simp;omega
    have HR:=hid (show posT (vAt s 0 s.size)=noT by unfold posT;rw[if_neg (by omega)])
    clear hvs hvl hq
    go_wp2_with fail
    rw[HR.out]
    exact bodyPost_ret (v:=noT) (by simp[results,Tryz.results45,go_sem,noT]) rfl ⟨rfl,hdr⟩
  ·have e:s.size=k:=by omega
   have HR:=hid (show posT (vAt s 0 s.size)=okT (x:Int) by unfold posT;rw[e,hv.out,if_pos (by omega)])
   clear e
   go_wp2_with fail
   rw[HR.out]
   exact bodyPost_ret (v:=okT (x:Int)) (by simp[results,Tryz.results45,go_sem,okT]) rfl ⟨rfl,hdr⟩
def XR(l:List UInt8):Prop:=(∃r,l=45::r/\r≠[]/\∀c∈r,Lx.digU c=true)\/(∃c r,l=c::r/\∀d∈c::r,Lx.digU d=true)
theorem Hn(l:List UInt8)(h:0<Lx.numberLen l):XR (l.take (Lx.numberLen l)):=by
 cases l with
 |nil=>simp[Lx.numberLen] at h
 |cons c r=>
  simp only[Lx.numberLen] at h |-
  by_cases h48:c=48
  ·subst h48;right;exact⟨48,[],by rw[if_pos rfl];rfl,by simp;decide⟩
  ·rw[if_neg h48] at h |-
   by_cases h45:c=45
   ·subst h45
    rw[if_pos rfl] at h |-
    cases r with
    |nil=>simp at h
    |cons d r'=>
     simp only at h |-
     by_cases hd48:d=48
     ·rw[if_pos hd48] at h;exact absurd h (by decide)
     ·rw[if_neg hd48] at h |-
      by_cases hd:Lx.digU d=true
      ·rw[if_pos hd] at h |-
       rw[Nat.add_comm 1,List.take_succ_cons]
       left
       refine⟨_,rfl,?_,Lx.take_span _ _⟩
       rw[Lx.span_cons,if_pos hd,Nat.add_comm 1,List.take_succ_cons];simp
      ·rw[if_neg hd] at h;exact absurd h (by decide)
   ·rw[if_neg h45] at h |-
    by_cases hd:Lx.digU c=true
    ·rw[if_pos hd] at h |-
     rw[Nat.add_comm 1,List.take_succ_cons]
     right
     refine⟨_,_,rfl,?_⟩
     intro x hx
     rcases List.mem_cons.1 hx with rfl|hx
     ·exact hd
     ·exact Lx.take_span _ _ x hx
    ·rw[if_neg hd] at h;exact absurd h (by decide)
def ovT:Option Int->Value
 |some v=>okT v
 |none=>noT
theorem SY(s:ByteArray)(j:Nat)(h:j<s.size)(hd:Lx.digU s[j]=true):48<=s[j].toNat/\s[j].toNat<=57:=Gg hd
theorem MG(s:ByteArray)(l:List UInt8)(h:s.data.toList=l)(j:Nat)(hj:j<s.size):∃hj':j<l.length,s[j]=l[j]:=by
 subst h;exact⟨hj,rfl⟩
theorem Dd(s:ByteArray)(hs:s.size<=281474976710656)(hf:XR s.data.toList)(w:World):
 Calls Tryz.prog 45 #[.string s] w fun e w'=>e= .returned (ovT (rv s.data.toList))/\Drew w w':=by
 have hsz:s.size=s.data.toList.length:=rfl
 rcases hf with⟨r,hl,hr,hd⟩|⟨c,r,hl,hd⟩
 ·rw[hl,List.length_cons] at hsz
  have h0:0<s.size:=by omega
  obtain⟨_,e0⟩:=MG s _ hl 0 h0
  simp only[List.getElem_cons_zero] at e0
  have hv:=Rq s 1 (by omega)
  rw[hl,List.drop_one,List.tail_cons] at hv
  have hR:negT (vAt s 1 (s.size-1))=ovT (rv s.data.toList):=by
   rw[hv,hl,WQ r hr hd];unfold negT
   by_cases h:dval 0 r<=2 ^ 63
   ·rw[if_pos h,if_pos h];rfl
   ·rw[if_neg h,if_neg h];rfl
  rw[<-hR]
  refine Hf s hs h0 (by rw[e0];rfl) (hid fun j hj h1=>?_) w
  obtain⟨hj',ej⟩:=MG s _ hl j hj
  refine SY s j hj ?_
  rw[ej]
  obtain⟨i,rfl⟩:∃i,j=i+1:=⟨j-1,by omega⟩
  rw[List.getElem_cons_succ]
  exact hd _ (List.getElem_mem _)
 ·rw[hl,List.length_cons] at hsz
  have h0:0<s.size:=by omega
  obtain⟨_,e0⟩:=MG s _ hl 0 h0
  simp only[List.getElem_cons_zero] at e0
  have hv:=Rq s 0 (by omega)
  rw[hl,List.drop_zero,Nat.sub_zero] at hv
  have hR:posT (vAt s 0 s.size)=ovT (rv s.data.toList):=by
   rw[hv,hl,WP c r hd];unfold posT
   by_cases h:dval 0 (c::r)<2 ^ 63
   ·rw[if_pos h,if_pos h];rfl
   ·rw[if_neg h,if_neg h];rfl
  rw[<-hR]
  refine He s hs h0 ?_ (hid fun j hj=>?_) w
  ·have:=Gg (hd c (by simp))
   rw[e0,beq_eq_false_iff_ne];omega
  ·obtain⟨hj',ej⟩:=MG s _ hl j hj
   refine SY s j hj ?_
   rw[ej]
   exact hd _ (List.getElem_mem _)
end Go.Proofs.YtmnbheplkidfaaaGreatDoor.Tok
namespace Go.Proofs.YtmnbheplkidfaaaGreatDoor.Tok
open Go.RowKit Go.Shelf Go.Deep
theorem Lo(l:List UInt8):Lx.tokL l=if tl l=0 then .inl 1 else if tk l=2 then (match rv (l.take (tl l)) with|some v=> .inr (2,tl l,v)|none=> .inl 2) else .inr ((tk l:Nat),tl l,0):=by
 unfold Lx.tokL tl tk rv
 by_cases hw:0<Lx.wordLen l
 ·simp only[hw,if_true]
  rw[if_neg (by omega)];simp
 ·simp only[hw,if_false]
  by_cases hn:0<Lx.numberLen l
  ·simp only[hn,if_true]
   rw[if_neg (by omega)]
   cases Lib.parseIntB 64 (l.take (Lx.numberLen l)) <;> rfl
  ·simp only[hn,if_false]
   cases l with
   |nil=>rfl
   |cons c r=>
    simp only
    cases Lx.isSign c <;> simp
def Left(L:List UInt8)(a:Nat)(I ys:List Item):Prop:=∃f,L.length<f+a/\I=ys++items f L (a+Lx.skipG false (L.drop a))
theorem DW{s:ByteArray}{a:Nat}(h:a<s.size){I ys:List Item}(hb:Lx.blank s[a]=true)(hl:Left s.data.toList a I ys):Left s.data.toList (a+1) I ys:=by
 obtain⟨f,hf,e⟩:=hl
 refine⟨f,by omega,?_⟩
 rw[e,YI s a h,Lx.skipG_blank _ _ hb,Nat.add_assoc]
theorem NQ{s:ByteArray}{a j:Nat}(h:a<s.size){I ys:List Item}(hb:s[a]=35)(hj:Lx.commentLen (s.data.toList.drop a)=j)(hl:Left s.data.toList a I ys):Left s.data.toList (a+j) I ys:=by
 obtain⟨f,hf,e⟩:=hl
 refine⟨f,by omega,?_⟩
 have hd:=YI s a h
 rw[hb] at hd
 rw[e,hd,Lx.skipG_hash,<-hd,hj,List.drop_drop,Nat.add_assoc]
theorem NP{s:ByteArray}{a:Nat}(h:a<s.size){I ys:List Item}(hb:Lx.blank s[a]=false)(h35:s[a]≠35)(hl:Left s.data.toList a I ys):∃f,s.size<f+1+a/\I=ys++items (f+1) s.data.toList a:=by
 obtain⟨f,hf,e⟩:=hl
 have hf':s.size<f+a:=hf
 obtain⟨f',rfl⟩:∃f',f=f'+1:=⟨f-1,by omega⟩
 refine⟨f',by omega,?_⟩
 rw[e,YI s a h,Lx.skipG_stop _ _ hb h35]
 rfl
theorem Sy{L:List UInt8}{a:Nat}(h:¬a<L.length){I ys:List Item}(hl:Left L a I ys):I=ys:=by
 obtain⟨f,hf,e⟩:=hl
 rw[e,NV _ _ _ (by omega),List.append_nil]
theorem FA{s:ByteArray}{a:Nat}(h:a<s.size){I ys:List Item}(hb:Lx.blank s[a]=false)(h35:s[a]≠35)(hl:Left s.data.toList a I ys)(e:Int)(he:Lx.tokL (s.data.toList.drop a)= .inl e):I=ys++[⟨0,⟨#[]⟩,0,0,e,a⟩]:=by
 obtain⟨f,hf,ee⟩:=NP h hb h35 hl
 rw[ee,NU _ _ _ (by exact h) e he]
theorem Fz{s:ByteArray}{a:Nat}(h:a<s.size){I ys:List Item}(hb:Lx.blank s[a]=false)(h35:s[a]≠35)(hl:Left s.data.toList a I ys)(k:Int)(m:Nat)(v:Int)(hm:0<m)(hml:a+m<=s.size)(ht:Lx.tokL (s.data.toList.drop a)= .inr (k,m,v)):
 Left s.data.toList (a+m) I (ys++[⟨k,s.extract a (a+m),v,a,0,0⟩]):=by
 obtain⟨f,hf,ee⟩:=NP h hb h35 hl
 have hz:(s.extract a (a+m)).size=m:=by rw[ByteArray.size_extract];omega
 have hx:s.extract a (a+m)=txt ((s.data.toList.drop a).take m):=by
  have:=Hx s a (a+m)
  rw[show a+m-a=m by omega] at this
  rw[<-this];rfl
 refine⟨f,by show s.size<_;omega,?_⟩
 rw[ee,NS f _ a (by exact h) k (s.extract a (a+m)) v (by rw[hz];exact ht) (by rw[hz];exact hx),hz,List.append_assoc]
 rfl
theorem Mt(s:ByteArray)(a j:Nat)(h:a+j<=s.size)(h1:∀i (hi:i<j),s[a+i]'(by omega)≠10)(h2:∀h:a+j<s.size,s[a+j]=10):Lx.commentLen (s.data.toList.drop a)=j:=by
 have hlen:(s.data.toList.drop a).length=s.size-a:=by rw[List.length_drop];rfl
 unfold Lx.commentLen
 refine Lx.span_eq _ _ _ (by omega) (fun i hi hij=>?_) (fun hj=>?_)
 ·rw[List.getElem_drop]
  have:=h1 i hij
  have e:s.data.toList[a+i]'(by show a+i<s.size;omega)=s[a+i]'(by omega):=rfl
  rw[e];simpa using this
 ·rw[List.getElem_drop]
  have:=h2 (by omega)
  have e:s.data.toList[a+j]'(by show a+j<s.size;omega)=s[a+j]'(by omega):=rfl
  rw[e,this];rfl
end Go.Proofs.YtmnbheplkidfaaaGreatDoor.Tok
namespace Go.Proofs.YtmnbheplkidfaaaGreatDoor.Tok
open Go.Lib (hid)
open Go.RowKit Go.Shelf Go.Deep
theorem Ry{c d:UInt8}(h:c=d):((c.toNat:Int)==(d.toNat:Int))=true:=by rw[h];simp
theorem Rx{c d:UInt8}(h:c≠d):((c.toNat:Int)==(d.toNat:Int))=false:=by
 rw[beq_eq_false_iff_ne];intro e;apply h;apply UInt8.toNat_inj.1;omega
def Eb(w:World)(I:List Item)(e:Ending)(w':World):Prop:=
 ((∃q x,I=q++[x]/\x.e≠0/\e= .returned (.tuple #[.slice none 0 0,.int .i64 x.e,.int .i64 x.p]))\/
  ((∀x∈I,x.e=0)/\∃v,e= .returned (.tuple #[v,.int .i64 0,.int .i64 0])/\w'.ownsRow w.heap.size 93 4 v I.length (rowOf I)))/\Below w.heap.size w w'
structure RInv(s:ByteArray)(I:List Item)(w:World)(a:Nat)(ys:List Item)(v:Value)(wr:World):Prop where
 left:Left s.data.toList a I ys
 ok:∀x∈ys,x.e=0
 row:wr.ownsRow w.heap.size 93 4 v ys.length (rowOf ys)
 below:Below w.heap.size w wr
 len:ys.length<=a
theorem TQ(s:ByteArray)(hs:s.size<=281474976710656)(a:Nat)(ha:a<s.size)(hm:Hid (tl (s.data.toList.drop a)=0))(w:World):
 Calls Tryz.prog 43 #[.string s,.int .i64 a] w fun e w'=>e= .returned (.int .i64 (a:Int))/\Drew w w':=by
 have:=Ku s hs a ha w
 rw[hm.out,Nat.add_zero] at this;exact this
theorem Ka(s:ByteArray)(hs:s.size<=281474976710656)(a b:Nat)(ha:a<s.size)(hm:Hid (a+tl (s.data.toList.drop a)=b))(w:World):
 Calls Tryz.prog 43 #[.string s,.int .i64 a] w fun e w'=>e= .returned (.int .i64 (b:Int))/\Drew w w':=by
 have:=Ku s hs a ha w
 rw[hm.out] at this;exact this
theorem Fa(s:ByteArray)(hs:s.size<=281474976710656)(a b:Nat)(hf:Hid (XR ((s.data.toList.drop a).take (b-a))))(o:Option Int)(h:Hid (rv ((s.data.toList.drop a).take (b-a))=o))(w:World):
 Calls Tryz.prog 45 #[.string (s.extract a b)] w fun e w'=>e= .returned (ovT o)/\Drew w w':=by
 have e:=Hx s a b
 have:=Dd (s.extract a b) (by rw[ByteArray.size_extract];omega) (by rw[e];exact hf.out) w
 rw[e,h.out] at this;exact this
theorem FY(s:ByteArray)(hs:s.size<=281474976710656)(a b:Nat)(hf:Hid (XR ((s.data.toList.drop a).take (b-a))))(h:Hid (rv ((s.data.toList.drop a).take (b-a))=none))(w:World):
 Calls Tryz.prog 45 #[.string (s.extract a b)] w fun e w'=>e= .returned (.tuple #[.int .i64 0,.bool false])/\Drew w w':=Fa s hs a b hf none h w
theorem FX(s:ByteArray)(hs:s.size<=281474976710656)(a b:Nat)(hf:Hid (XR ((s.data.toList.drop a).take (b-a))))(v:Int)(h:Hid (rv ((s.data.toList.drop a).take (b-a))=some v))(w:World):
 Calls Tryz.prog 45 #[.string (s.extract a b)] w fun e w'=>e= .returned (.tuple #[.int .i64 v,.bool true])/\Drew w w':=Fa s hs a b hf (some v) h w
theorem DR(l:List UInt8)(h:tk l=2){n:Nat}(hn:tl l=n):XR (l.take n):=by
 subst hn
 unfold tk at h
 unfold tl
 by_cases hw:0<Lx.wordLen l
 ·rw[if_pos hw] at h;cases h
 ·rw[if_neg hw] at h |-
  by_cases h2:0<Lx.numberLen l
  ·rw[if_pos h2];exact Hn l h2
  ·rw[if_neg h2] at h
   cases l with
   |nil=>cases h
   |cons c r=>simp only at h;split at h <;> cases h
theorem Xu:(Tryz.prog.info? 93).map (·.size)=some 4:=by kernel_rfl
theorem YN(w:World)(o:Obj)(n:Nat):(w.alloc o).drewN n=(w.drewN n).alloc o:=rfl
theorem Ub(w:World)(o:Obj):(w.alloc o).drew=w.drew.alloc o:=rfl
theorem rtokens_any(s:ByteArray)(hs:s.size<=65536)(I:List Item)(hI:items (s.size+1) s.data.toList (Lx.skipG false s.data.toList)=I)(w:World):
 Calls Tryz.prog 19 #[.string s] w (Eb w I):=by
 have hl0:Left s.data.toList 0 I []:=⟨s.size+1,by show s.size<_;omega,by rw[List.drop_zero,Nat.zero_add,hI];rfl⟩
 have HL:=hid hl0
 clear hl0 hI
 obtain⟨i0,hi,hz0,hz1,hz2⟩:=info_parts WR
 go_enter Tryz.func19,Tryz.ntmps19
 go_wp2_with fail
 go_loopw [5,6] (fun v n wr=>∃(a:Nat) (ys:List Item),n= .int .i64 (a:Int)/\a<=s.size/\RInv s I w a ys v wr) (fun _ n _=>s.size-(intOf n).toNat)
 case atStart=>exact⟨0,[],rfl,by omega,RInv.mk HL.out (fun x h=>nomatch h) (World.ownsRow_nil _ _ _ _) bR (Nat.zero_le _)⟩
 case round=>
  obtain⟨a,ys,rfl,ha,hinv⟩:=hrel
  by_cases hlt:a<s.size
  ·have hk0:(0:Int)<=(a:Int):=Int.natCast_nonneg _
   have hk3:(a:Int)<(s.size:Int):=by omega
   by_cases hbl:Lx.blank s[a]=true
   ·have hL2:=hid (DW hlt hbl hinv.left)
    go_wp2_with (go_at_call 42;refine(Yw _ _).mono ?_;rintro e w'⟨rfl,rfl⟩)
    go_roundw
    case rel=>exact⟨a+1,ys,by go_num,by omega,⟨hL2.out,hinv.ok,hinv.row,hinv.below,by have:=hinv.len;omega⟩⟩
    case measure=>simp[intOf];omega
   ·have hbl':Lx.blank s[a]=false:=by simpa using hbl
    clear hbl
    by_cases h35:s[a]=35
    ·have hb35:((s[a].toNat:Int)==35)=true:=Ry (d:=35) h35
     have h35':=hid h35
     clear h35
     go_wp2_with (go_at_call 42;refine(Yw _ _).mono ?_;rintro e w'⟨rfl,rfl⟩)
     go_loop [6] (fun n=>∃j:Nat,n= .int .i64 ((a+j:Nat):Int)/\∃hj:a+j<=s.size,Hid (∀i (hi:i<j),s[a+i]'(by omega)≠10)) (fun n=>s.size-(intOf n).toNat)
     case atStart=>exact⟨0,by go_num,by omega,hid fun i hi=>by omega⟩
     case round=>
      obtain⟨j,rfl,hj,hno⟩:=hrel
      by_cases hjl:a+j<s.size
      ·have hj0:(0:Int)<=((a+j:Nat):Int):=Int.natCast_nonneg _
       have hj3:((a+j:Nat):Int)<(s.size:Int):=by omega
       by_cases h10:s[a+j]=10
       ·have hb10:((s[a+j].toNat:Int)==10)=true:=Ry (d:=10) h10
        have hcl:=Mt s a j hj hno.out (fun _=>h10)
        have hcl1:=Lx.commentLen_hash (s.data.toList.drop (a+1))
        have hL2:=hid (NQ hlt h35'.out hcl hinv.left)
        have hj1:1<=j:=by
         have e:=YI s a hlt
         rw[h35'.out] at e
         rw[<-e,hcl] at hcl1;exact hcl1
        clear h10 hcl hcl1
        go_wp2_with fail
        go_roundw
        case rel=>exact⟨a+j,ys,by go_num,by omega,⟨hL2.out,hinv.ok,hinv.row,hinv.below,by have:=hinv.len;omega⟩⟩
        case measure=>simp[intOf];omega
       ·have hb10:((s[a+j].toNat:Int)==10)=false:=Rx (d:=10) h10
        have hno2:Hid (∀i (hi:i<j+1),s[a+i]'(by omega)≠10):=hid fun i hi=>by
         by_cases e:i=j
         ·subst e;exact h10
         ·exact hno.out i (by omega)
        clear h10
        go_wp2_with fail
        go_round
        case rel=>exact⟨j+1,by go_num,by omega,hno2⟩
        case measure=>simp[intOf];omega
      ·have hcl:=Mt s a j hj hno.out (fun h=>absurd h hjl)
       have hcl1:=Lx.commentLen_hash (s.data.toList.drop (a+1))
       have hL2:=hid (NQ hlt h35'.out hcl hinv.left)
       have hj1:1<=j:=by
        have e:=YI s a hlt
        rw[h35'.out] at e
        rw[<-e,hcl] at hcl1;exact hcl1
       clear hcl hcl1
       go_wp2_with fail
       go_roundw
       case rel=>exact⟨a+j,ys,by go_num,by omega,⟨hL2.out,hinv.ok,hinv.row,hinv.below,by have:=hinv.len;omega⟩⟩
       case measure=>simp[intOf];omega
    ·have hb35:((s[a].toNat:Int)==35)=false:=Rx (d:=35) h35
     have h35':=hid h35
     clear h35
     obtain⟨m,hm⟩:∃m,Hid (tl (s.data.toList.drop a)=m):=⟨_,hid rfl⟩
     have hT:=Lo (s.data.toList.drop a)
     rw[hm.out] at hT
     have hLg:=Fy (s.data.toList.drop a) (by rw[YI s a hlt];simp)
     have hml:=hLg.le
     rw[hm.out,List.length_drop] at hml
     have hml':a+m<=s.size:=by have:s.data.toList.length=s.size:=rfl;omega
     have hkd:=hLg.kind
     rw[hm.out] at hkd
     clear hml
     by_cases hm0:m=0
     ·subst hm0
      rw[if_pos rfl] at hT
      have hE:=hid (FA hlt hbl' h35'.out hinv.left 1 hT)
      clear hT hLg hkd
      go_wp2_with (first|(go_at_call 42;refine(Yw _ _).mono ?_;rintro e w'⟨rfl,rfl⟩)|(go_at_call 43;refine(TQ s (by omega) a hlt hm _).mono ?_;rintro e w'⟨rfl,hd1⟩))
      exact bodyPost_ret (v:= .tuple #[.slice none 0 0,.int .i64 1,.int .i64 (a:Int)]) (by simp[results,Tryz.results19,go_sem]) rfl ⟨.inl ⟨ys,_,hE.out,by simp,rfl⟩,hinv.below.trans (hd1.below _)⟩
     ·rw[if_neg hm0] at hT
      obtain⟨b,hb⟩:∃b,a+m=b:=⟨_,rfl⟩
      have hmb:Hid (a+tl (s.data.toList.drop a)=b):=hid (by rw[hm.out];exact hb)
      have hmf:((b:Int)==(a:Int))=false:=by rw[beq_eq_false_iff_ne];omega
      have hk4:(a:Int)<=(b:Int):=by omega
      have hk5:(b:Int)<=(s.size:Int):=by omega
      have hk6:(0:Int)<=(b:Int):=by omega
      have hS:Hid (s.size<=9223372036854775807):=hid (by omega)
      obtain⟨k,hk⟩:∃k,tk (s.data.toList.drop a)=k:=⟨_,rfl⟩
      rw[hk] at hT
      have hK:=hkd (by omega)
      rw[hk] at hK
      rw[show m=b-a by omega] at hK
      replace hK:=hid hK
      clear hLg hkd
      by_cases hk2:k=2
      ·have hk2t:((k:Int)==2)=true:=by rw[hk2];rfl
       rw[if_pos hk2,show m=b-a by omega] at hT
       obtain⟨o,ho⟩:∃o,rv ((s.data.toList.drop a).take (b-a))=o:=⟨_,rfl⟩
       rw[ho] at hT
       replace ho:=hid ho
       have hf:Hid (XR ((s.data.toList.drop a).take (b-a))):=hid (DR _ (by rw[hk,hk2]) (by rw[hm.out];omega))
       cases o with
       |none=>
        have hE:=hid (FA hlt hbl' h35'.out hinv.left 2 hT)
        clear hT hk hk2
        go_wp2_with (first|(go_at_call 42;refine(Yw _ _).mono ?_;rintro e w'⟨rfl,rfl⟩)|(go_at_call 43;refine(Ka s (by omega) a b hlt hmb _).mono ?_;rintro e w1⟨rfl,hd1⟩))
        have hr1:w1.ownsRow w.heap.size 93 4 u5 ys.length (rowOf ys):=by obtain⟨n,rfl⟩:=hd1;exact hinv.row
        have HB1:=hid (hinv.below.trans (hd1.below _))
        have hst:∀w:World,(Instr.storeAt 93 (.pointer (some ⟨w.heap.size,0,none⟩)) (.agg #[.int .i64 k,.string (s.extract a b),.int .i64 0,.int .i64 a])).run Tryz.prog (w.alloc (.cells #[.int .i64 0,.string ⟨#[]⟩,.int .i64 0,.int .i64 0] 93))= .ok () (w.alloc (.cells #[.int .i64 k,.string (s.extract a b),.int .i64 0,.int .i64 a] 93)):=fun w=>run_storeAt_new w _ _ _ Xu rfl (by simp[Value.oneCell'])
        have hsc:∀w:World,(storeCells ⟨w.heap.size,0,none⟩ [.int .i64 k,.string (s.extract a b),.int .i64 0,.int .i64 a] 0).run Tryz.prog (w.alloc (.cells #[.int .i64 0,.string ⟨#[]⟩,.int .i64 0,.int .i64 0] 93))= .ok () (w.alloc (.cells #[.int .i64 k,.string (s.extract a b),.int .i64 0,.int .i64 a] 93)):=fun w=>run_storeCells_new w _ _ #[.int .i64 k,.string (s.extract a b),.int .i64 0,.int .i64 a] Xu rfl (by simp[Value.oneCell'])
        go_region_held3 (fun w'=>w1.heap.size<=w'.heap.size) (first|omega|(simp;done)|(simp;omega)) ((go_simp;go_at_call 44;refine(MF s hS a b k hK _).mono ?_;rintro e w2⟨rfl,nq2,rfl⟩;dsimp only;have hdr:w1.drew=w1.drewN 1:=rfl;(try simp only[Ub]);(try simp only[hdr]);(try simp only[YN]);(try simp only[World.drewN_drewN]);clear hdr;have hb3:Below w1.heap.size w1 (w1.drewN (1+nq2)):=below_drewN (Below.refl w1.heap.size w1) _;have hz3:w1.heap.size=(w1.drewN (1+nq2)).heap.size:=rfl;have hr3:(w1.drewN (1+nq2)).ownsRow w.heap.size 93 4 u5 ys.length (rowOf ys):=hr1;generalize w1.drewN (1+nq2)=w3 at hb3 hz3 hr3 |-;(try simp only[hz3]);clear hz3;have hs3:=hb3.size;replace hb3:=hid hb3))
        all_goals (
         clear hst hsc
         have hsz5:=HB1.out.size
         have hw6:=hid (HB1.out.trans (hb3.out.mono hsz5))
         go_wp2_with (go_at_call 45;refine(FY s (by omega) a b hf ho _).mono ?_;rintro e w5⟨rfl,hd5⟩)
         exact bodyPost_ret (v:= .tuple #[.slice none 0 0,.int .i64 2,.int .i64 (a:Int)]) (by simp[results,Tryz.results19,go_sem]) rfl ⟨.inl ⟨ys,_,hE.out,by simp,rfl⟩,hw6.out.trans (((Below.refl w.heap.size w3).alloc (by omega) _).trans (hd5.below _))⟩)
       |some v=>
        have hE:=hid (Fz hlt hbl' h35'.out hinv.left 2 m v (by omega) hml' (by rw[show m=b-a by omega];exact hT))
        rw[hb] at hE
        clear hT hk
        go_wp2_with (first|(go_at_call 42;refine(Yw _ _).mono ?_;rintro e w'⟨rfl,rfl⟩)|(go_at_call 43;refine(Ka s (by omega) a b hlt hmb _).mono ?_;rintro e w1⟨rfl,hd1⟩))
        have hr1:w1.ownsRow w.heap.size 93 4 u5 ys.length (rowOf ys):=by obtain⟨n,rfl⟩:=hd1;exact hinv.row
        have HB1:=hid (hinv.below.trans (hd1.below _))
        have hst:∀w:World,(Instr.storeAt 93 (.pointer (some ⟨w.heap.size,0,none⟩)) (.agg #[.int .i64 k,.string (s.extract a b),.int .i64 0,.int .i64 a])).run Tryz.prog (w.alloc (.cells #[.int .i64 0,.string ⟨#[]⟩,.int .i64 0,.int .i64 0] 93))= .ok () (w.alloc (.cells #[.int .i64 k,.string (s.extract a b),.int .i64 0,.int .i64 a] 93)):=fun w=>run_storeAt_new w _ _ _ Xu rfl (by simp[Value.oneCell'])
        have hsc:∀w:World,(storeCells ⟨w.heap.size,0,none⟩ [.int .i64 k,.string (s.extract a b),.int .i64 0,.int .i64 a] 0).run Tryz.prog (w.alloc (.cells #[.int .i64 0,.string ⟨#[]⟩,.int .i64 0,.int .i64 0] 93))= .ok () (w.alloc (.cells #[.int .i64 k,.string (s.extract a b),.int .i64 0,.int .i64 a] 93)):=fun w=>run_storeCells_new w _ _ #[.int .i64 k,.string (s.extract a b),.int .i64 0,.int .i64 a] Xu rfl (by simp[Value.oneCell'])
        go_region_held3 (fun w'=>w1.heap.size<=w'.heap.size) (first|omega|(simp;done)|(simp;omega)) ((go_simp;go_at_call 44;refine(MF s hS a b k hK _).mono ?_;rintro e w2⟨rfl,nq2,rfl⟩;dsimp only;have hdr:w1.drew=w1.drewN 1:=rfl;(try simp only[Ub]);(try simp only[hdr]);(try simp only[YN]);(try simp only[World.drewN_drewN]);clear hdr;have hb3:Below w1.heap.size w1 (w1.drewN (1+nq2)):=below_drewN (Below.refl w1.heap.size w1) _;have hz3:w1.heap.size=(w1.drewN (1+nq2)).heap.size:=rfl;have hr3:(w1.drewN (1+nq2)).ownsRow w.heap.size 93 4 u5 ys.length (rowOf ys):=hr1;generalize w1.drewN (1+nq2)=w3 at hb3 hz3 hr3 |-;(try simp only[hz3]);clear hz3;have hs3:=hb3.size;replace hb3:=hid hb3))
        all_goals (
         clear hst hsc
         have hsz5:=HB1.out.size
         have hw6:=hid (HB1.out.trans (hb3.out.mono hsz5))
         have hlen5:ys.length<=65536:=by have:=hinv.len;omega
         go_wp2_with (first|(go_at_call 45;refine(FX s (by omega) a b hf v ho _).mono ?_;rintro e w5⟨rfl,nq5,rfl⟩;(simp only[YN]);have hb6:Below w.heap.size w3 (w3.drewN nq5):=below_drewN (Below.refl w.heap.size w3) _;have hz6:w3.heap.size=(w3.drewN nq5).heap.size:=rfl;have hr6:(w3.drewN nq5).ownsRow w.heap.size 93 4 u5 ys.length (rowOf ys):=hr3;generalize w3.drewN nq5=w6 at hb6 hz6 hr6 |-;(try simp only[hz6]);clear hz6;replace hb6:=hid hb6;replace hr6:=hid hr6;have hs6:=hb6.out.size;have HC6:=hid (Kw (w6.alloc (.cells #[.int .i64 2,.string (s.extract a b),.int .i64 v,.int .i64 a] 93)) ⟨2,s.extract a b,v,a,0,0⟩))|(at_builtin;refine BigFrame.wpList_want (by rfl) (fun K hK=>?_);go_must (refine wp_append_own _ _ _ 55 rfl w.heap.size 93 i0 (.agg #[.int .i64 0,.string ⟨#[]⟩,.int .i64 0,.int .i64 0]) 4 40 Tryz.underlying55 hi hz0 hz1 hz2 rfl (by decide) u5 ys.length (rowOf ys) rfl ((hr6.out.alloc (.cells #[.int .i64 2,.string (s.extract a b),.int .i64 v,.int .i64 a] 93)).alloc _) ⟨(w6.alloc (.cells #[.int .i64 2,.string (s.extract a b),.int .i64 v,.int .i64 a] 93)).heap.size,0,none⟩ 1 1 (cellsOf ⟨2,s.extract a b,v,a,0,0⟩) (by simp[Act.eval]) rfl HC6.out (one4 _) (by unfold maxLen;omega) (by omega) (by simp;omega) ?_);intro v' w7 hown' hgrow _;refine hK _ _ ?_;clear hK))
         have hb7:Below w.heap.size w6 w7:=(((Below.refl w.heap.size w6).alloc (by omega) (.cells #[.int .i64 2,.string (s.extract a b),.int .i64 v,.int .i64 a] 93)).alloc (by simp;omega) (.cells #[.int .i64 2,.string (s.extract a b),.int .i64 v,.int .i64 a] 93)).grown hgrow (by simp;omega) (fun j ej=>(Zp hr6.out ej).1)
         have hsn:rowOf (ys++[⟨2,s.extract a b,v,a,0,0⟩])=rowOf ys++cellsOf ⟨2,s.extract a b,v,a,0,0⟩:=VN _ _
         have hlen7:=hinv.len
         go_roundw
         case rel=>exact⟨b,ys++[⟨2,s.extract a b,v,a,0,0⟩],rfl,by omega,RInv.mk hE.out (fun x hx=>(List.mem_append.1 hx).elim (hinv.ok x) (fun h=>by rw[mS h])) (by rw[hsn,List.length_append];exact hown') (hw6.out.trans (hb6.out.trans hb7)) (by rw[List.length_append];simp;omega)⟩
         case measure=>simp[intOf];omega)
      ·have hk2f:((k:Int)==2)=false:=by rw[beq_eq_false_iff_ne];omega
       rw[if_neg hk2] at hT
       have hE:=hid (Fz hlt hbl' h35'.out hinv.left k m 0 (by omega) hml' hT)
       rw[hb] at hE
       clear hT hk
       go_wp2_with (first|(go_at_call 42;refine(Yw _ _).mono ?_;rintro e w'⟨rfl,rfl⟩)|(go_at_call 43;refine(Ka s (by omega) a b hlt hmb _).mono ?_;rintro e w1⟨rfl,hd1⟩))
       have hr1:w1.ownsRow w.heap.size 93 4 u5 ys.length (rowOf ys):=by obtain⟨n,rfl⟩:=hd1;exact hinv.row
       have HB1:=hid (hinv.below.trans (hd1.below _))
       have hst:∀w:World,(Instr.storeAt 93 (.pointer (some ⟨w.heap.size,0,none⟩)) (.agg #[.int .i64 k,.string (s.extract a b),.int .i64 0,.int .i64 a])).run Tryz.prog (w.alloc (.cells #[.int .i64 0,.string ⟨#[]⟩,.int .i64 0,.int .i64 0] 93))= .ok () (w.alloc (.cells #[.int .i64 k,.string (s.extract a b),.int .i64 0,.int .i64 a] 93)):=fun w=>run_storeAt_new w _ _ _ Xu rfl (by simp[Value.oneCell'])
       have hsc:∀w:World,(storeCells ⟨w.heap.size,0,none⟩ [.int .i64 k,.string (s.extract a b),.int .i64 0,.int .i64 a] 0).run Tryz.prog (w.alloc (.cells #[.int .i64 0,.string ⟨#[]⟩,.int .i64 0,.int .i64 0] 93))= .ok () (w.alloc (.cells #[.int .i64 k,.string (s.extract a b),.int .i64 0,.int .i64 a] 93)):=fun w=>run_storeCells_new w _ _ #[.int .i64 k,.string (s.extract a b),.int .i64 0,.int .i64 a] Xu rfl (by simp[Value.oneCell'])
       go_region_held3 (fun w'=>w1.heap.size<=w'.heap.size) (first|omega|(simp;done)|(simp;omega)) ((go_simp;go_at_call 44;refine(MF s hS a b k hK _).mono ?_;rintro e w2⟨rfl,nq2,rfl⟩;dsimp only;have hdr:w1.drew=w1.drewN 1:=rfl;(try simp only[Ub]);(try simp only[hdr]);(try simp only[YN]);(try simp only[World.drewN_drewN]);clear hdr;have hb3:Below w1.heap.size w1 (w1.drewN (1+nq2)):=below_drewN (Below.refl w1.heap.size w1) _;have hz3:w1.heap.size=(w1.drewN (1+nq2)).heap.size:=rfl;have hr3:(w1.drewN (1+nq2)).ownsRow w.heap.size 93 4 u5 ys.length (rowOf ys):=hr1;generalize w1.drewN (1+nq2)=w3 at hb3 hz3 hr3 |-;(try simp only[hz3]);clear hz3;have hs3:=hb3.size;replace hb3:=hid hb3))
       all_goals (
        have hr5:(w3.alloc (.cells #[.int .i64 k,.string (s.extract a b),.int .i64 0,.int .i64 a] 93)).ownsRow w.heap.size 93 4 u5 ys.length (rowOf ys):=hr3.alloc _
        have hB5:=hb3.out
        have hsz5:=HB1.out.size
        have hlen5:ys.length<=65536:=by have:=hinv.len;omega
        have hw5:Below w.heap.size w3 ((w3.alloc (.cells #[.int .i64 k,.string (s.extract a b),.int .i64 0,.int .i64 a] 93)).alloc (.cells #[.int .i64 k,.string (s.extract a b),.int .i64 0,.int .i64 a] 93)):=((Below.refl w.heap.size w3).alloc (by omega) _).alloc (by simp;omega) _
        have hw6:Below w.heap.size w w3:=HB1.out.trans (hB5.mono hsz5)
        have hc5:=Kw (w3.alloc (.cells #[.int .i64 k,.string (s.extract a b),.int .i64 0,.int .i64 a] 93)) ⟨k,s.extract a b,0,a,0,0⟩
        have HW5:=hid hw5
        have HW6:=hid hw6
        have HC5:=hid hc5
        have HR5:=hid hr5
        clear hw5 hw6 hc5 hB5 hst hsc hr5
        go_wp2_with (at_builtin;refine BigFrame.wpList_want (by rfl) (fun K hK=>?_);go_must (refine wp_append_own _ _ _ 55 rfl w.heap.size 93 i0 (.agg #[.int .i64 0,.string ⟨#[]⟩,.int .i64 0,.int .i64 0]) 4 40 Tryz.underlying55 hi hz0 hz1 hz2 rfl (by decide) u5 ys.length (rowOf ys) rfl (HR5.out.alloc _) ⟨(w3.alloc (.cells #[.int .i64 k,.string (s.extract a b),.int .i64 0,.int .i64 a] 93)).heap.size,0,none⟩ 1 1 (cellsOf ⟨k,s.extract a b,0,a,0,0⟩) (by simp[Act.eval]) rfl HC5.out (one4 _) (by unfold maxLen;omega) (by omega) (by simp;omega) ?_);intro v' w7 hown' hgrow _;refine hK _ _ ?_;clear hK)
        have hb7:Below w.heap.size w3 w7:=HW5.out.grown hgrow (by simp;omega) (fun j ej=>(Zp HR5.out ej).1)
        have hsn:rowOf (ys++[⟨k,s.extract a b,0,a,0,0⟩])=rowOf ys++cellsOf ⟨k,s.extract a b,0,a,0,0⟩:=VN _ _
        have hlen7:=hinv.len
        go_roundw
        case rel=>exact⟨b,ys++[⟨k,s.extract a b,0,a,0,0⟩],rfl,by omega,RInv.mk hE.out (fun x hx=>(List.mem_append.1 hx).elim (hinv.ok x) (fun h=>by rw[mS h])) (by rw[hsn,List.length_append];exact hown') (HW6.out.trans hb7) (by rw[List.length_append];simp;omega)⟩
        case measure=>simp[intOf];omega)
  ·have e:=Sy (by exact hlt) hinv.left
   subst e
   go_wp2_with fail
   refine bodyPost_ret (v:= .tuple #[u5,.int .i64 0,.int .i64 0]) (by simp[results,Tryz.results19,go_sem]) rfl ⟨.inr ⟨hinv.ok,_,rfl,hinv.row⟩,hinv.below⟩
end Go.Proofs.YtmnbheplkidfaaaGreatDoor.Tok
namespace Go.Proofs.YtmnbheplkidfaaaGreatDoor.Tok
open Go.RowKit
end Go.Proofs.YtmnbheplkidfaaaGreatDoor.Tok
namespace Go.Proofs.YtmnbheplkidfaaaGreatDoor.Tok
open Go.RowKit Go.Shelf Go.Deep
theorem items_either(s:ByteArray):(∃q x,items (s.size+1) s.data.toList (Lx.skipG false s.data.toList)=q++[x]/\x.e≠0/\∀y∈q,y.e=0)\/∀x∈items (s.size+1) s.data.toList (Lx.skipG false s.data.toList),x.e=0:=by
 rcases GJ s with h|h|⟨_,h⟩
 ·exact .inl h
 ·right;intro x hx;rw[h] at hx;cases hx
 ·exact .inr h
theorem rtokens_long(s:ByteArray)(hs:65536<s.size)(w:World):
 Calls Tryz.prog 19 #[.string s] w fun e W'=>e= .returned (.tuple #[.slice none 0 0,.int .i64 2,.int .i64 65536])/\W'=w:=by
 have hd:decide ((65536:Int)<(s.size:Int))=true:=by simp;omega
 go_enter Tryz.func19,Tryz.ntmps19
 go_wp2
 exact bodyPost_ret (v:= .tuple #[.slice none 0 0,.int .i64 2,.int .i64 65536]) (by simp[results,Tryz.results19,go_sem]) rfl ⟨rfl,rfl⟩
end Go.Proofs.YtmnbheplkidfaaaGreatDoor.Tok
