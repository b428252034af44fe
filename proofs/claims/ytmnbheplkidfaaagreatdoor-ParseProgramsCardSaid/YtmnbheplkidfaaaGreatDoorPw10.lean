/- Plain mathematics of the tokens of a text: the token at a place, and the tokens of all of it. (and what follows from it) -/
import Derived.Test.YtmnbheplkidfaaaGreatDoorPw9
import Derived.Lib.ParseIntBCases
import Derived.Lib.IndexAny
import Derived.Lib.Join
set_option maxHeartbeats 16000000
set_option maxRecDepth 100000
namespace Go.Proofs.YtmnbheplkidfaaaGreatDoor.Lx
def signs:List UInt8:=[33,63,46,40,41,123,125,60,62,44,58,59,124,38,43,61]
def isSign(c:UInt8):Bool:=signs.contains c
def tokL(l:List UInt8):Sum Int (Int×Nat×Int):=
 if 0<wordLen l then .inr (1,wordLen l,0)
 else if 0<numberLen l then
  match Lib.parseIntB 64 (l.take (numberLen l)) with
  | .ok v=> .inr (2,numberLen l,v)
  |_=> .inl 2
 else match l with
  |[]=> .inl 1
  |c::_=>if isSign c then .inr (3,1,0) else .inl 1
theorem tokL_word{l:List UInt8}(h:0<wordLen l):tokL l= .inr (1,wordLen l,0):=by unfold tokL;rw[if_pos h]
theorem tokL_number{l:List UInt8}{v:Int}(h:¬0<wordLen l)(h2:0<numberLen l)(hv:Lib.parseIntB 64 (l.take (numberLen l))= .ok v):tokL l= .inr (2,numberLen l,v):=by
 unfold tokL;rw[if_neg h,if_pos h2,hv]
theorem tokL_range{l:List UInt8}(h:¬0<wordLen l)(h2:0<numberLen l)(hv:Lib.parseIntB 64 (l.take (numberLen l))= .range):tokL l= .inl 2:=by
 unfold tokL;rw[if_neg h,if_pos h2,hv]
theorem tokL_sign{c:UInt8}{r:List UInt8}(h:¬0<wordLen (c::r))(h2:¬0<numberLen (c::r))(hv:isSign c=true):tokL (c::r)= .inr (3,1,0):=by
 unfold tokL;rw[if_neg h,if_neg h2];simp only;rw[if_pos hv]
theorem tokL_none{c:UInt8}{r:List UInt8}(h:¬0<wordLen (c::r))(h2:¬0<numberLen (c::r))(hv:¬isSign c=true):tokL (c::r)= .inl 1:=by
 unfold tokL;rw[if_neg h,if_neg h2];simp only;rw[if_neg hv]
theorem wordLen_le(l:List UInt8):wordLen l<=l.length:=by
 cases l with
 |nil=>simp[wordLen]
 |cons c r=>simp only[wordLen];have:=span_le wcU r;split <;> simp <;> omega
theorem numberLen_le(l:List UInt8):numberLen l<=l.length:=by
 cases l with
 |nil=>simp[numberLen]
 |cons c r=>
  have h1:=span_le digU r
  simp only[numberLen]
  split
  ·simp
  ·split
   ·cases r with
    |nil=>simp
    |cons d r'=>simp only;split <;> (try split) <;> simp at h1 |- <;> omega
   ·split <;> simp <;> omega
def Num{α:Type}(e:Lib.NumEnd α):Prop:=(∃u,e= .ok u)\/e= .range
theorem Uk(M:Nat):∀(l:List UInt8) (acc:Nat),(∀c∈l,digU c=true)->Num (Lib.parseUintM M acc l)
 |[],acc,_=> .inl ⟨acc,rfl⟩
 |c::r,acc,h=>by
  have hc:=h c (by simp)
  have hd:48<=c.toNat/\c.toNat<=57:=by simp[digU,digB] at hc;omega
  simp only[Lib.parseUintM,if_pos hd]
  split
  ·exact .inr rfl
  ·split
   ·exact .inr rfl
   ·exact Uk M r _ (fun d hd=>h d (by simp[hd]))
theorem take_span(p:UInt8->Bool):∀(l:List UInt8),∀c∈l.take (span p l),p c=true
 |[]=>by simp[Fh]
 |d::r=>by
  rw[span_cons]
  by_cases h:p d=true
  ·rw[if_pos h,Nat.add_comm 1,List.take_succ_cons]
   intro c hc
   rcases List.mem_cons.1 hc with rfl|hc
   ·exact h
   ·exact take_span p r c hc
  ·rw[if_neg h];simp
theorem MX{M:Nat}{e:Lib.NumEnd Nat}(h:Num e):Num (Lib.signlessC M e):=by
 rcases h with⟨u,rfl⟩|rfl
 ·simp only[Lib.signlessC];split
  ·exact .inr rfl
  ·exact .inl ⟨_,rfl⟩
 ·exact .inr rfl
theorem Gk{M:Nat}{e:Lib.NumEnd Nat}(h:Num e):Num (Lib.signedC M e):=by
 rcases h with⟨u,rfl⟩|rfl
 ·simp only[Lib.signedC];split
  ·exact .inr rfl
  ·exact .inl ⟨_,rfl⟩
 ·exact .inr rfl
theorem XI(B:Nat)(l:List UInt8)(h0:l≠[])(h:∀c∈l,digU c=true):Num (Lib.parseUintB B l):=by
 unfold Lib.parseUintB;rw[if_neg h0];exact Uk _ _ _ h
theorem plain_of_dig{c:UInt8}(h:digU c=true):c.toNat≠43/\c.toNat≠45:=by
 simp[digU,digB] at h;omega
theorem numberLen_num(l:List UInt8)(h:0<numberLen l):Num (Lib.parseIntB 64 (l.take (numberLen l))):=by
 cases l with
 |nil=>simp[numberLen] at h
 |cons c r=>
  simp only[numberLen] at h |-
  by_cases h48:c=48
  ·subst h48;left;exact⟨0,by rw[if_pos rfl];rfl⟩
  ·rw[if_neg h48] at h |-
   by_cases h45:c=45
   ·subst h45
    rw[if_pos rfl] at h |-
    cases r with
    |nil=>simp at h
    |cons d r'=>
     simp only at h |-
     by_cases hd48:d=48
     ·rw[if_pos hd48] at h;exact absurd h (by decide)
     ·rw[if_neg hd48] at h |-
      by_cases hd:digU d=true
      ·rw[if_pos hd] at h |-
       rw[Nat.add_comm 1,List.take_succ_cons,Lib.parseIntB_minus]
       refine Gk (XI _ _ ?_ (take_span _ _))
       rw[span_cons,if_pos hd,Nat.add_comm 1,List.take_succ_cons];simp
      ·rw[if_neg hd] at h;exact absurd h (by decide)
   ·rw[if_neg h45] at h |-
    by_cases hd:digU c=true
    ·rw[if_pos hd] at h |-
     rw[Nat.add_comm 1,List.take_succ_cons,Lib.parseIntB_plain _ _ _ (plain_of_dig hd).1 (plain_of_dig hd).2]
     refine MX (XI _ _ (by simp) ?_)
     intro x hx
     rcases List.mem_cons.1 hx with rfl|hx
     ·exact hd
     ·exact take_span _ _ x hx
    ·rw[if_neg hd] at h;exact absurd h (by decide)
end Go.Proofs.YtmnbheplkidfaaaGreatDoor.Lx
namespace Go.Proofs.YtmnbheplkidfaaaGreatDoor.Tok
open Go.Lib (hid)
open Go.RowKit
theorem Yy(s:ByteArray)(hs:s.size<=9223372036854775807)(j:Nat)(n:Nat)(h:Hid (Lx.wordLen (s.data.toList.drop j)=n))(w:World):
 Calls Tryz.prog 131 #[.string (s.extract j s.size)] w fun e w'=>e= .returned (.int .i64 n)/\w=w':=by
 have:=XT (s.extract j s.size) (by unfold maxLen;rw[ByteArray.size_extract];omega) w
 rw[Lib.extract_to_end,h.out] at this;exact this
theorem Ym(s:ByteArray)(hs:s.size<=9223372036854775807)(j:Nat)(n:Nat)(h:Hid (Lx.numberLen (s.data.toList.drop j)=n))(w:World):
 Calls Tryz.prog 132 #[.string (s.extract j s.size)] w fun e w'=>e= .returned (.int .i64 n)/\w=w':=by
 have:=MY (s.extract j s.size) (by unfold maxLen;rw[ByteArray.size_extract];omega) w
 rw[Lib.extract_to_end,h.out] at this;exact this
theorem Jg(w:World)(cs:Array Value)(t:TypeId):Below w.heap.size w (w.alloc (.cells cs t)):=bR.alloc lR _
theorem Hb(s:ByteArray)(hs:s.size<=9223372036854775807)(a:Nat)(ha:a<s.size)(n:Nat)(h:Lx.wordLen (s.data.toList.drop a)=n)(h0:0<n)(h1:a+n<=s.size)(w:World):
 Calls Tryz.prog 107 #[.string s,.int .i64 a] w fun e w'=>e= .returned (.tuple #[.agg #[.int .i64 1,.string ((s.extract a s.size).extract 0 n),.int .i64 0,.int .i64 a],.int .i64 0])/\Below w.heap.size w w':=by
 have H:=hid h
 clear h
 go_enter Tryz.func107,Tryz.ntmps107
 go_wp2_with (go_at_call 131;refine(Yy s hs a _ H _).mono ?_;rintro e w1⟨rfl,rfl⟩)
 refine bodyPost_ret (v:= .tuple #[.agg #[.int .i64 1,.string ((s.extract a s.size).extract 0 n),.int .i64 0,.int .i64 a],.int .i64 0]) (by simp[results,Tryz.results107,go_sem]) rfl ⟨rfl,?_⟩
 exact Jg w _ _
theorem KH(s:ByteArray)(hs:s.size<=9223372036854775806)(a:Nat)(ha:a<s.size)(n:Nat)(h:Lx.wordLen (s.data.toList.drop a)=0)(h2:Lx.numberLen (s.data.toList.drop a)=n)(h0:0<n)(h1:a+n<=s.size)(v:Int)
 (hv:Lib.parseIntB 64 ((s.extract a s.size).extract 0 n).data.toList= .ok v) (w:World):
 Calls Tryz.prog 107 #[.string s,.int .i64 a] w fun e w'=>e= .returned (.tuple #[.agg #[.int .i64 2,.string ((s.extract a s.size).extract 0 n),.int .i64 v,.int .i64 a],.int .i64 0])/\Below w.heap.size w w':=by
 have H:=hid h
 have H2:=hid h2
 have HV:=hid hv
 have hz:((s.extract a s.size).extract 0 n).size<=9223372036854775806:=by rw[ByteArray.size_extract,ByteArray.size_extract];omega
 have HZ:=hid hz
 have hs':s.size<=9223372036854775807:=by omega
 clear h h2 hv hz
 go_enter Tryz.func107,Tryz.ntmps107
 go_wp2_with (first|(go_at_call 131;refine(Yy s hs' a _ H _).mono ?_;rintro e w1⟨rfl,rfl⟩)|(go_at_call 132;refine(Ym s hs' a _ H2 _).mono ?_;rintro e w1⟨rfl,rfl⟩)|(go_at_call 133;refine(TL _ HZ.out v HV.out _ _).mono ?_;rintro e w1⟨rfl,hb⟩;obtain⟨hc,hf⟩:=FL hb))
 refine bodyPost_ret (v:= .tuple #[.agg #[.int .i64 2,.string ((s.extract a s.size).extract 0 n),.int .i64 v,.int .i64 a],.int .i64 0]) (by simp[results,Tryz.results107,go_sem,hc]) rfl ⟨rfl,?_⟩
 have h0:Below w.heap.size w w1:=(Jg w _ _).trans (hb.mono (by simp))
 exact(((h0.setCell lR _).setCell lR _).setCell lR _).setCell lR _
theorem MW(s:ByteArray)(hs:s.size<=281474976710656)(a:Nat)(ha:a<s.size)(n:Nat)(h:Lx.wordLen (s.data.toList.drop a)=0)(h2:Lx.numberLen (s.data.toList.drop a)=n)(h0:0<n)(h1:a+n<=s.size)
 (hv:Lib.parseIntB 64 ((s.extract a s.size).extract 0 n).data.toList= .range) (B:Nat) (w:World) (he:Env B w):
 Calls Tryz.prog 107 #[.string s,.int .i64 a] w fun e w'=>e= .returned (.tuple #[.agg #[.int .i64 0,.string ⟨#[]⟩,.int .i64 0,.int .i64 0],.int .i64 2])/\Below w.heap.size w w':=by
 have H:=hid h
 have H2:=hid h2
 have HV:=hid hv
 have hz:((s.extract a s.size).extract 0 n).size<=281474976710656:=by rw[ByteArray.size_extract,ByteArray.size_extract];omega
 have HZ:=hid hz
 have hs':s.size<=9223372036854775807:=by omega
 have HE:=hid (he.to (Jg w #[.int .i64 0,.string ⟨#[]⟩,.int .i64 0,.int .i64 0] 99))
 clear h h2 hv hz he
 go_enter Tryz.func107,Tryz.ntmps107
 go_wp2_with (first|(go_at_call 131;refine(Yy s hs' a _ H _).mono ?_;rintro e w1⟨rfl,rfl⟩)|(go_at_call 132;refine(Ym s hs' a _ H2 _).mono ?_;rintro e w1⟨rfl,rfl⟩)|(go_at_call 133;refine(Ho _ HZ.out HV.out _ B _ HE.out).mono ?_;rintro e w1⟨rfl,hb⟩;obtain⟨hc,hf⟩:=FL hb))
 refine bodyPost_ret (v:= .tuple #[.agg #[.int .i64 0,.string ⟨#[]⟩,.int .i64 0,.int .i64 0],.int .i64 2]) (by simp[results,Tryz.results107,go_sem,hc]) rfl ⟨rfl,?_⟩
 have h0:Below w.heap.size w w1:=(Jg w _ _).trans (hb.mono (by simp))
 exact(((h0.setCell lR _).setCell lR _).setCell lR _).setCell lR _
theorem FD(s:ByteArray)(a:Nat)(ha:a<s.size)(h0:0<(s.extract a s.size).size):(s.extract a s.size)[0]=s[a]:=by
 simp[ByteArray.getElem_eq_getElem_data]
theorem Hc(s:ByteArray)(hs:s.size<=9223372036854775807)(a:Nat)(ha:a<s.size)(h:Lx.wordLen (s.data.toList.drop a)=0)(h2:Lx.numberLen (s.data.toList.drop a)=0)
 (hv:0<=ibv ⟨#[33,63,46,40,41,123,125,60,62,44,58,59,124,38,43,61]⟩ (s[a].toNat:Int)) (w:World):
 Calls Tryz.prog 107 #[.string s,.int .i64 a] w fun e w'=>e= .returned (.tuple #[.agg #[.int .i64 3,.string ((s.extract a s.size).extract 0 1),.int .i64 0,.int .i64 a],.int .i64 0])/\Below w.heap.size w w':=by
 have H:=hid h
 have H2:=hid h2
 have hsz:0<s.size-a:=by omega
 have hsz2:0<(s.extract a s.size).size:=by rw[ByteArray.size_extract];omega
 have H3:=hid (FD s a ha hsz2)
 clear h h2
 go_enter Tryz.func107,Tryz.ntmps107
 go_wp2_with (first|(go_at_call 131;refine(Yy s hs a _ H _).mono ?_;rintro e w1⟨rfl,rfl⟩)|(go_at_call 132;refine(Ym s hs a _ H2 _).mono ?_;rintro e w1⟨rfl,rfl⟩)|(go_at_call 129;rw[H3.out];refine(UB _ _ _).mono ?_;rintro e w1⟨rfl,rfl⟩))
 refine bodyPost_ret (v:= .tuple #[.agg #[.int .i64 3,.string ((s.extract a s.size).extract 0 1),.int .i64 0,.int .i64 a],.int .i64 0]) (by simp[results,Tryz.results107,go_sem]) rfl ⟨rfl,?_⟩
 exact Jg w _ _
theorem Hd(s:ByteArray)(hs:s.size<=9223372036854775807)(a:Nat)(ha:a<s.size)(h:Lx.wordLen (s.data.toList.drop a)=0)(h2:Lx.numberLen (s.data.toList.drop a)=0)
 (hv:ibv ⟨#[33,63,46,40,41,123,125,60,62,44,58,59,124,38,43,61]⟩ (s[a].toNat:Int)<0) (w:World):
 Calls Tryz.prog 107 #[.string s,.int .i64 a] w fun e w'=>e= .returned (.tuple #[.agg #[.int .i64 0,.string ⟨#[]⟩,.int .i64 0,.int .i64 0],.int .i64 1])/\Below w.heap.size w w':=by
 have H:=hid h
 have H2:=hid h2
 have hsz:0<s.size-a:=by omega
 have hsz2:0<(s.extract a s.size).size:=by rw[ByteArray.size_extract];omega
 have H3:=hid (FD s a ha hsz2)
 clear h h2
 go_enter Tryz.func107,Tryz.ntmps107
 go_wp2_with (first|(go_at_call 131;refine(Yy s hs a _ H _).mono ?_;rintro e w1⟨rfl,rfl⟩)|(go_at_call 132;refine(Ym s hs a _ H2 _).mono ?_;rintro e w1⟨rfl,rfl⟩)|(go_at_call 129;rw[H3.out];refine(UB _ _ _).mono ?_;rintro e w1⟨rfl,rfl⟩))
 refine bodyPost_ret (v:= .tuple #[.agg #[.int .i64 0,.string ⟨#[]⟩,.int .i64 0,.int .i64 0],.int .i64 1]) (by simp[results,Tryz.results107,go_sem]) rfl ⟨rfl,?_⟩
 exact Jg w _ _
def txt(l:List UInt8):ByteArray:=⟨l.toArray⟩
theorem Yf(s:ByteArray)(a n:Nat):(s.extract a s.size).extract 0 n=txt ((s.data.toList.drop a).take n):=by
 apply ByteArray.ext
 apply Array.toList_inj.1
 unfold txt
 rw[Lib.extract_from_zero,Lib.extract_to_end]
theorem Fd(l:List UInt8):(txt l).data.toList=l:=rfl
theorem Rv(c:UInt8):Lx.isSign c=decide (0<=ibv ⟨#[33,63,46,40,41,123,125,60,62,44,58,59,124,38,43,61]⟩ (c.toNat:Int)):=by
 unfold ibv;rw[NZ];exact Lib.contains_iff_indexByte _ _
def tokV(k:Int)(l:List UInt8)(v:Int)(a:Nat):Value:= .agg #[.int .i64 k,.string (txt l),.int .i64 v,.int .i64 a]
def Lj:Value:= .agg #[.int .i64 0,.string ⟨#[]⟩,.int .i64 0,.int .i64 0]
def tokR(l:List UInt8)(a:Nat):Sum Int (Int×Nat×Int)->Value×Value
 | .inl e=>(Lj,.int .i64 e)
 | .inr (k,n,v)=>(tokV k (l.take n) v a,.int .i64 0)
theorem Ki(s:ByteArray)(hs:s.size<=281474976710656)(a:Nat)(ha:a<s.size)(B:Nat)(w:World)(he:Env B w):
 Calls Tryz.prog 107 #[.string s,.int .i64 a] w fun e w'=>
  e= .returned (.tuple #[(tokR (s.data.toList.drop a) a (Lx.tokL (s.data.toList.drop a))).1,(tokR (s.data.toList.drop a) a (Lx.tokL (s.data.toList.drop a))).2])/\Below w.heap.size w w':=by
 have hl:(s.data.toList.drop a).length=s.size-a:=by rw[List.length_drop];rfl
 have h1:=Lx.wordLen_le (s.data.toList.drop a)
 have h2:=Lx.numberLen_le (s.data.toList.drop a)
 by_cases hw:0<Lx.wordLen (s.data.toList.drop a)
 ·refine(Hb s (by omega) a ha _ rfl hw (by omega) w).mono ?_
  rintro e w'⟨rfl,hb⟩
  refine⟨?_,hb⟩
  rw[Lx.tokL_word hw,Yf];rfl
 ·have hw0:Lx.wordLen (s.data.toList.drop a)=0:=by omega
  by_cases hn:0<Lx.numberLen (s.data.toList.drop a)
  ·have hnum:=Lx.numberLen_num _ hn
   rcases hnum with⟨v,hv⟩|hr
   ·refine(KH s (by omega) a ha _ hw0 rfl hn (by omega) v (by rw[Yf,Fd];exact hv) w).mono ?_
    rintro e w'⟨rfl,hb⟩
    refine⟨?_,hb⟩
    rw[Lx.tokL_number hw hn hv,Yf];rfl
   ·refine(MW s hs a ha _ hw0 rfl hn (by omega) (by rw[Yf,Fd];exact hr) B w he).mono ?_
    rintro e w'⟨rfl,hb⟩
    refine⟨?_,hb⟩
    rw[Lx.tokL_range hw hn hr];rfl
  ·have hn0:Lx.numberLen (s.data.toList.drop a)=0:=by omega
   by_cases hg:Lx.isSign s[a]=true
   ·have hg':=hg
    rw[Rv,decide_eq_true_eq] at hg'
    refine(Hc s (by omega) a ha hw0 hn0 hg' w).mono ?_
    rintro e w'⟨rfl,hb⟩
    refine⟨?_,hb⟩
    have hd:=YI s a ha
    rw[Yf]
    rw[hd] at hw hn |-
    rw[Lx.tokL_sign hw hn hg];rfl
   ·have hg':=hg
    rw[Rv,decide_eq_true_eq] at hg'
    refine(Hd s (by omega) a ha hw0 hn0 (by omega) w).mono ?_
    rintro e w'⟨rfl,hb⟩
    refine⟨?_,hb⟩
    have hd:=YI s a ha
    rw[hd] at hw hn |-
    rw[Lx.tokL_none hw hn hg];rfl
end Go.Proofs.YtmnbheplkidfaaaGreatDoor.Tok
namespace Go.Proofs.YtmnbheplkidfaaaGreatDoor.Tok
open Go.RowKit Go.Shelf
attribute [local go_sem] Oper.semAt_some
structure Item where
 k:Int
 t:ByteArray
 v:Int
 a:Int
 e:Int
 p:Int
def items:Nat->List UInt8->Nat->List Item
 |0,_,_=>[]
 |f+1,L,a=>if a<L.length then
  match Lx.tokL (L.drop a) with
  | .inl e=>[⟨0,⟨#[]⟩,0,0,e,a⟩]
  | .inr (k,n,v)=>⟨k,txt ((L.drop a).take n),v,a,0,0⟩::items f L (a+n+Lx.skipG false (L.drop (a+n)))
  else []
theorem FZ(L:List UInt8)(a:Nat)(ha:a<L.length):
 (∃e,Lx.tokL (L.drop a)= .inl e/\(e=1\/e=2))\/
 (∃(k:Int) (t:ByteArray) (v:Int),Lx.tokL (L.drop a)= .inr (k,t.size,v)/\t=txt ((L.drop a).take t.size)/\1<=t.size/\a+t.size<=L.length):=by
 have h1:=Lx.wordLen_le (L.drop a)
 have h2:=Lx.numberLen_le (L.drop a)
 rw[List.length_drop] at h1 h2
 have key:∀(k:Int) (n:Nat) (v:Int),Lx.tokL (L.drop a)= .inr (k,n,v)->1<=n->a+n<=L.length->
  ∃(k:Int) (t:ByteArray) (v:Int),Lx.tokL (L.drop a)= .inr (k,t.size,v)/\t=txt ((L.drop a).take t.size)/\1<=t.size/\a+t.size<=L.length:=by
  intro k n v h hn hl
  have hs:(txt ((L.drop a).take n)).size=n:=by
   show((L.drop a).take n).length=n
   rw[List.length_take,List.length_drop];omega
  exact⟨k,txt ((L.drop a).take n),v,by rw[hs];exact h,by rw[hs],by omega,by omega⟩
 by_cases hw:0<Lx.wordLen (L.drop a)
 ·exact .inr (key 1 _ 0 (Lx.tokL_word hw) hw (by omega))
 ·by_cases hn:0<Lx.numberLen (L.drop a)
  ·rcases Lx.numberLen_num _ hn with⟨v,hv⟩|hr
   ·exact .inr (key 2 _ v (Lx.tokL_number hw hn hv) hn (by omega))
   ·exact .inl ⟨2,Lx.tokL_range hw hn hr,.inr rfl⟩
  ·obtain⟨c,r,hd⟩:∃c r,L.drop a=c::r:=by
    cases h:L.drop a with
    |nil=>have:=congrArg List.length h;simp at this;omega
    |cons c r=>exact⟨c,r,rfl⟩
   rw[hd] at hw hn
   by_cases hg:Lx.isSign c=true
   ·exact .inr (key 3 1 0 (by rw[hd];exact Lx.tokL_sign hw hn hg) (by omega) (by omega))
   ·exact .inl ⟨1,by rw[hd];exact Lx.tokL_none hw hn hg,.inl rfl⟩
theorem NV(f:Nat)(L:List UInt8)(a:Nat)(h:¬a<L.length):items f L a=[]:=by
 cases f with
 |zero=>rfl
 |succ f=>rw[items,if_neg h]
theorem NU(f:Nat)(L:List UInt8)(a:Nat)(h:a<L.length)(e:Int)(he:Lx.tokL (L.drop a)= .inl e):items (f+1) L a=[⟨0,⟨#[]⟩,0,0,e,a⟩]:=by
 rw[items,if_pos h,he]
theorem NS(f:Nat)(L:List UInt8)(a:Nat)(h:a<L.length)(k:Int)(t:ByteArray)(v:Int)(ht:Lx.tokL (L.drop a)= .inr (k,t.size,v))(hx:t=txt ((L.drop a).take t.size)):
 items (f+1) L a=⟨k,t,v,a,0,0⟩::items f L (a+t.size+Lx.skipG false (L.drop (a+t.size))):=by
 rw[items,if_pos h,ht];simp only;rw[<-hx]
theorem Gi(s:ByteArray)(hs:s.size<=281474976710656)(a:Nat)(ha:a<s.size)(k:Int)(t:ByteArray)(v:Int)(ht:Hid (Lx.tokL (s.data.toList.drop a)= .inr (k,t.size,v)))(hx:Hid (t=txt ((s.data.toList.drop a).take t.size)))(B:Nat)(w:World)(he:Env B w):
 Calls Tryz.prog 107 #[.string s,.int .i64 a] w fun e w'=>e= .returned (.tuple #[.agg #[.int .i64 k,.string t,.int .i64 v,.int .i64 a],.int .i64 0])/\Below w.heap.size w w':=by
 have h:=Ki s hs a ha B w he
 rw[ht.out] at h
 simp only[tokR,tokV,<-hx.out] at h
 exact h
theorem Gj(s:ByteArray)(hs:s.size<=281474976710656)(a:Nat)(ha:a<s.size)(e:Int)(ht:Hid (Lx.tokL (s.data.toList.drop a)= .inl e))(B:Nat)(w:World)(he:Env B w):
 Calls Tryz.prog 107 #[.string s,.int .i64 a] w fun e' w'=>e'= .returned (.tuple #[.agg #[.int .i64 0,.string ⟨#[]⟩,.int .i64 0,.int .i64 0],.int .i64 e])/\Below w.heap.size w w':=by
 have h:=Ki s hs a ha B w he
 rw[ht.out] at h
 exact h
theorem WF(s:ByteArray)(hs:s.size<=9223372036854775807)(a m:Nat)(ha:a+m<=s.size)(nx:Nat)(hn:Hid (a+m+Lx.skipG false (s.data.toList.drop (a+m))=nx))(w:World):
 Calls Tryz.prog 106 #[.string s,.int .i64 ((a:Int)+(m:Int))] w fun e w'=>e= .returned (.int .i64 nx)/\w=w':=by
 have h:=YK s hs (a+m) ha w
 rw[hn.out,Int.natCast_add] at h
 exact h
theorem RP(s:ByteArray)(hs:s.size<=9223372036854775807)(nx:Nat)(hn:Hid (Lx.skipG false s.data.toList=nx))(w:World):
 Calls Tryz.prog 106 #[.string s,.int .i64 0] w fun e w'=>e= .returned (.int .i64 nx)/\w=w':=by
 have h:=YK s hs 0 (by omega) w
 rw[List.drop_zero,hn.out,Nat.zero_add] at h
 exact h
def Refers(O:Nat)(W:World)(k:Nat):Prop:=∃v,W.cell? ⟨O,0,none⟩=some v/\v.ownBlock=some k
def Good(O n₀:Nat)(W:World):Prop:=∀k,Refers O W k->n₀<=k/\k<W.heap.size
structure Kp(O n₀:Nat)(W W':World):Prop where
 size:W.heap.size<=W'.heap.size
 keep:∀(k:Nat) (o:Obj),W.heap[k]? =some o->o.isCells=true->k≠O->¬Refers O W k->W'.heap[k]? =some o
 refs:∀k,Refers O W' k->Refers O W k\/W.heap.size<=k
 good:Good O n₀ W->Good O n₀ W'
theorem Kp.trans{O n₀:Nat}{A B C:World}(h:Kp O n₀ A B)(g:Kp O n₀ B C):Kp O n₀ A C where
 size:=lT h.size g.size
 keep k o hk hc hO hr:=g.keep k o (h.keep k o hk hc hO hr) hc hO (fun hr'=>by
  rcases h.refs k hr' with h1|h1
  ·exact hr h1
  ·have:=(Array.getElem?_eq_some_iff.1 hk).1;omega)
 refs k hk:=by
  rcases g.refs k hk with h1|h1
  ·exact h.refs k h1
  ·exact .inr (lT h.size h1)
 good hg:=g.good (h.good hg)
theorem Kp.put{O n₀:Nat}{w:World}(hO:O<w.heap.size)(W:World)(l:Nat)(o o':Obj)(hl:w.heap.size<=l)(h:W.heap[l]? =some o)(ho:o.isCells=false)(_:o.isWalk=false):Kp O n₀ W (W.putObj l o'):=by
 have hOl:O≠l:=by omega
 have hc:(W.putObj l o').cell? ⟨O,0,none⟩=W.cell? ⟨O,0,none⟩:=World.cell?_of_block (World.putObj_heap_other hOl)
 have hsz:(W.putObj l o').heap.size=W.heap.size:=by simp
 refine⟨by omega,fun k ob hk hcl _ _=>?_,fun k ⟨v,hv,hb⟩=> .inl ⟨v,by rw[<-hc];exact hv,hb⟩,fun hg k ⟨v,hv,hb⟩=>?_⟩
 ·rw[World.putObj_heap_other (fun e=>?_)]
  ·exact hk
  ·subst e;rw[hk] at h;cases h;rw[hcl] at ho;cases ho
 ·have:=hg k ⟨v,by rw[<-hc];exact hv,hb⟩;omega
theorem VZ{W W':World}(h:Below W.heap.size W W'):W.grownBy W' none:=⟨h.os,h.tape,h.output,h.size,fun k hk _=>h.block k hk⟩
theorem Env.keep{B:Nat}{W W':World}(h:Env B W)(hsz:W.heap.size<=W'.heap.size)(hk:∀(g:Nat) (o:Obj),g<B->W.heap[g]? =some o->o.isCells=true->W'.heap[g]? =some o):Env B W':=by
 have var:∀ {n:String} {g:Nat} {cs:Array Value},Tryz.prog.globalNamed n=some g->g<B->W.var? Tryz.prog n=some cs->W'.var? Tryz.prog n=some cs:=by
  intro n g cs hg hgB hv
  unfold World.var? at hv |-
  simp only[hg,Option.bind_some] at hv |-
  cases ho:W.heap[g]? with
  |none=>rw[ho] at hv;cases hv
  |some o=>
   rw[ho] at hv
   cases o with
   |cells cs' ty fr=>rw[hk g _ hgB ho rfl];exact hv
   |_=>cases hv
 obtain⟨tp,p,hr⟩:=h.range
 exact⟨⟨tp,p,var gRange h.above.1 hr⟩,var gWords h.above.2 h.words,h.above,lT h.size hsz⟩
abbrev encs(x:Item):Array Value:=#[.agg #[.int .i64 x.k,.string x.t,.int .i64 x.v,.int .i64 x.a],.agg #[.int .i64 x.e,.int .i64 x.p]]
structure Inv(O n₀ Bn B:Nat)(s:ByteArray)(W:World):Prop where
 box:Boxed W Bn 9 (.string s)
 env:Env B W
 good:Good O n₀ W
 le:n₀<=W.heap.size
theorem Refers.old{O k:Nat}{W W':World}(hO:O<W.heap.size)(hb:Below W.heap.size W W')(h:Refers O W' k):Refers O W k:=by
 obtain⟨v,hv,hk⟩:=h
 exact⟨v,(hb.cell (p:=⟨O,0,none⟩) hO).symm.trans hv,hk⟩
theorem Inv.to{O n₀ Bn B:Nat}{s:ByteArray}{W W':World}(h:Inv O n₀ Bn B s W)(hO:O<n₀)(hb:Below W.heap.size W W'):Inv O n₀ Bn B s W' where
 box:=h.box.kept (VZ hb) (by simp)
 env:=h.env.to hb
 good k hk:=by
  have:=h.good k (hk.old (lL hO h.le) hb)
  exact⟨this.1,lL this.2 hb.size⟩
 le:=lT h.le hb.size
theorem Inv.over{O n₀ Bn B:Nat}{s:ByteArray}{W W':World}(h:Inv O n₀ Bn B s W)(hBn:Bn<n₀)(hBO:Bn≠O)(hB:B<=O)(hO:O<n₀)(hk:Kp O n₀ W W'):Inv O n₀ Bn B s W' where
 box:=hk.keep Bn _ h.box rfl hBO (fun hr=>by have:=(h.good Bn hr).1;omega)
 env:=h.env.keep hk.size (fun g o hg ho hc=>hk.keep g o ho hc (by omega) (fun hr=>by have:=(h.good g hr).1;omega))
 good:=hk.good h.good
 le:=lT h.le hk.size
theorem Boxed.at4{W:World}{b:Nat}{t:TypeId}{x0 x1 x2 x3:Value}(h:W.heap[b]? =some (.cells #[x0,x1,x2,x3] t (0,0))):W.cell? ⟨b,1,none⟩=some x1:=by simp[World.cell?,h]
theorem items_len:∀(f:Nat) (L:List UInt8) (a:Nat),(items f L a).length<=f
 |0,_,_=>by simp[items]
 |f+1,L,a=>by
  rw[items]
  split
  ·split
   ·simp
   ·have:=items_len f L;simp only[List.length_cons];have:=this (a+ ‹Nat› +Lx.skipG false (L.drop (a+ ‹Nat›)));omega
  ·simp
theorem Kp.of_below{O n₀:Nat}{W W':World}(hO:O<W.heap.size)(hb:Below W.heap.size W W'):Kp O n₀ W W' where
 size:=hb.size
 keep k o hk _ _ _:=(hb.block k (Array.getElem?_eq_some_iff.1 hk).1).trans hk
 refs k hk:= .inl (hk.old hO hb)
 good hg k hk:=by
  have:=hg k (hk.old hO hb)
  exact⟨this.1,lL this.2 hb.size⟩
theorem Zi{O k:Nat}{W:World}{t:TypeId}{v:Value}(hv:Boxed W O t v):Refers O W k↔v.ownBlock=some k:=
 ⟨fun⟨u,hu,hk⟩=>by rw[hv.cell] at hu;cases hu;exact hk,fun h=>⟨v,hv.cell,h⟩⟩
theorem Zp{W:World}{base:Nat}{e:TypeId}{size:Nat}{v:Value}{n k:Nat}{xs:List Value}(h:W.ownsRow base e size v n xs)(hk:v.ownBlock=some k):base<=k/\k<W.heap.size:=by
 rcases h.2 with⟨rfl,_⟩|⟨g,cap,cur,rfl,hb,hg,_⟩
 ·simp[Value.ownBlock] at hk
 ·obtain rfl:g=k:=by simpa [Value.ownBlock] using hk
  exact⟨hb,(Array.getElem?_eq_some_iff.1 hg).1⟩
theorem Xm{W:World}{base base':Nat}{e:TypeId}{size:Nat}{v:Value}{n:Nat}{xs:List Value}(h:W.ownsRow base e size v n xs)(hb:base'<=base):W.ownsRow base' e size v n xs:=by
 refine⟨h.1,?_⟩
 rcases h.2 with hn|⟨g,cap,cur,rfl,hg,r⟩
 ·exact .inl hn
 ·exact .inr ⟨g,cap,cur,rfl,lT hb hg,r⟩
theorem Kp.append{O n₀ n₁:Nat}{W w1:World}{t e:TypeId}{size k m:Nat}{v v':Value}{xs ys:List Value}{tmp:Obj}(hv:Boxed W O t v)(hte:t≠e)(hrow:W.ownsRow n₁ e size v k xs)(hn:n₀<=n₁)
 (hown':w1.ownsRow n₁ e size v' m ys) (hgrow:(W.alloc tmp).grownBy w1 v.ownBlock) (hw:v'.ownBlock=v.ownBlock\/v'.ownBlock=some (W.alloc tmp).heap.size):Kp O n₀ W (w1.setCell ⟨O,0,none⟩ v'):=by
 have hv1:Boxed w1 O t v:=(hv.alloc tmp).kept hgrow (hv.not_row hte hrow)
 have hv2:=hv1.set v'
 have hsz:W.heap.size<=w1.heap.size:=by have:=hgrow.size;simp at this;omega
 have hsz2:(w1.setCell ⟨O,0,none⟩ v').heap.size=w1.heap.size:=by simp
 refine⟨by omega,fun j o hj hc hO hr=>?_,fun j hj=>?_,fun _ j hj=>?_⟩
 ·rw[Below.heap_setCell _ _ _ j (fun e=>hO e)]
  have hlt:=(Array.getElem?_eq_some_iff.1 hj).1
  rw[hgrow.block j (by simp;omega) (fun e=>hr ((Zi hv).2 e.symm))]
  exact(Below.heap_alloc W tmp j hlt).trans hj
 ·rw[Zi hv2] at hj
  rcases hw with h|h
  ·exact .inl ((Zi hv).2 (h▸hj))
  ·rw[h] at hj;simp at hj;exact .inr (by omega)
 ·rw[Zi hv2] at hj
  have:=Zp hown' hj
  omega
theorem VY:∀(f:Nat) (L:List UInt8) (a:Nat) (q r:List Item) (x:Item),items f L a=q++x::r->x.e≠0->r=[]
 |0,_,_,q,r,x,h,_=>by have:=congrArg List.length h;simp[items] at this
 |f+1,L,a,q,r,x,h,hx=>by
  rw[items] at h
  split at h
  ·split at h
   ·cases q with
    |nil=>simp at h;exact h.2
    |cons y q=>have:=congrArg List.length h;simp at this
   ·cases q with
    |nil=>simp at h;exact absurd (by rw[<-h.1]) hx
    |cons y q=>
     simp only[List.cons_append,List.cons.injEq] at h
     exact VY f L _ q r x h.2 hx
  ·have:=congrArg List.length h;simp at this
theorem ZW{W W':World}{row:Option Nat}{b:Nat}{cs:Array Value}{t:TypeId}{fr:Nat×Nat}(h:W.heap[b]? =some (.cells cs t fr))(hg:W.grownBy W' row)(hr:∀r,row=some r->∃o:Obj,W.heap[r]? =some o/\o.isCells=false):W'.heap[b]? =some (.cells cs t fr):=by
 refine(hg.block b (Array.getElem?_eq_some_iff.1 h).1 (fun e=>?_)).trans h
 obtain⟨o,ho,hc⟩:=hr b e.symm
 rw[h] at ho;cases ho;cases hc
end Go.Proofs.YtmnbheplkidfaaaGreatDoor.Tok
namespace Go.Proofs.YtmnbheplkidfaaaGreatDoor.Tok
open Go.Lib (hid)
open Go.RowKit Go.Shelf
attribute [local go_sem] Oper.semAt_some
theorem WO(n:Nat)(hn:1<=n)(l Bn O n₀ B:Nat)(hBn:Bn<n₀)(hBO:Bn≠O)(hB:B<=O)(hO:O<n₀)(s:ByteArray)(hs:s.size<=281474976710656)(xs:List Item)
 (hxs:xs=items (s.size+1) s.data.toList (Lx.skipG false s.data.toList)) (J Jx:List Item->World->Prop)
 (W:World) (hI:Inv O n₀ Bn B s W) (hJ:AbidesFrom W.heap.size J)
 (hY:∀pre x W,J pre W->pre.length<xs.length->YieldAt Fence.wide (n-1) Tryz.prog l (encs x) W fun e W'=>
  (e= .returned (.bool true)/\J (pre++[x]) W'/\Kp O n₀ W W')\/(e= .returned (.bool false)/\Jx (pre++[x]) W'))
 (h0:J [] W):
 CallsIn Fence.wide n Tryz.prog 105 #[.func (.yield l) #[] #[],.pointer (some ⟨Bn,0,none⟩)] W fun e W'=>(∃v,e= .returned v)/\
  ((∃ys,ys=xs/\J ys W')\/(∃pre,pre <+:xs/\Jx pre W')):=by
 have hc:=hI.box.cell
 have hs':s.size<=9223372036854775807:=by omega
 obtain⟨nx0,hnx0⟩:∃nx,Hid (Lx.skipG false s.data.toList=nx):=⟨_,hid rfl⟩
 have HX:=hid hxs
 clear hxs
 refine callsIn_of_wp Tryz.func105 rfl trivial ?_ rfl
 simp only[Tryz.ntmps105,List.size_toArray,List.length_cons,List.length_nil,Nat.reduceAdd,Nat.reduceSub,Array.replicate_succ,Array.replicate_zero,List.push_toArray,List.append_toArray,List.nil_append,List.cons_append]
 gi_wp2_with (refine⟨trivial,?_⟩;gi_at_call 106;refine(callsIn_wide.2 (RP s hs' nx0 hnx0 _)).mono ?_;rintro e w1⟨rfl,rfl⟩)
 gi_loopw [3] (fun p wr=>∃(pre:List Item) (a f:Nat),p= .int .i64 a/\a<=s.size/\Hid (xs=pre++items f s.data.toList a)/\s.size-a<f/\J pre wr/\Inv O n₀ Bn B s wr/\W.heap.size<=wr.heap.size)
  (fun p _=>s.size-(intOf p).toNat)
 case atStart=>
  have hle:=Lx.skipG_le false s.data.toList
  have hll:s.data.toList.length=s.size:=rfl
  rw[<-hnx0.out]
  exact⟨[],_,s.size+1,rfl,by omega,hid HX.out,by omega,h0,hI,lR⟩
 case round=>
  obtain⟨pre,a,f,rfl,ha,hx,hf,hJs,hinv,hsz⟩:=hrel
  have hc:=hinv.box.cell
  by_cases hlt:a<s.size
  ·rcases FZ s.data.toList a hlt with⟨e,he,he'⟩|⟨k,t,v,ht,htx,ht1,ht2⟩
   ·have HT:=hid he
    have hne:(e != 0)=true:=by rcases he' with rfl|rfl <;> rfl
    cases f with
    |zero=>omega
    |succ f=>
     have hit:=NU f s.data.toList a hlt e he
     have hx':xs=pre++[⟨0,⟨#[]⟩,0,0,e,a⟩]:=by rw[hx.out,hit]
     have hlen:pre.length<xs.length:=by rw[hx.out,hit];simp
     have HX':=hid hx'
     clear hit hx' he he' hx
     gi_wp2_with fail
     refine⟨trivial,?_⟩
     refine(callsIn_wide.2 (Gj s hs a hlt e HT B _ hinv.env)).mono ?_
     rintro e1 w1⟨rfl,hb⟩
     have hb2:=hb.trans ((Jg w1 #[.int .i64 0,.string ⟨#[]⟩,.int .i64 0,.int .i64 0] 99).mono hb.size)
     have hinv2:=hinv.to hO hb2
     have hJ2:=hJ pre _ _ none hJs (VZ hb2) (fun r e=>by cases e)
     obtain⟨fn,tmps,assign,body,hy,hR⟩:=hY pre ⟨0,⟨#[]⟩,0,0,e,a⟩ _ hJ2 hlen
     simp only[encs] at hy
     gi_wp2_with fail
     refine hR.mono ?_
     rintro e1 W3 (⟨rfl,hJ3,hk3⟩|⟨rfl,hJx3⟩)
     ·gi_wp2
      refine bodyPost_ret (results_none rfl _ _ _) rfl ?_
      exact⟨⟨_,rfl⟩,.inl ⟨_,HX'.out.symm,hJ3⟩⟩
     ·gi_wp2
      refine bodyPost_ret (results_none rfl _ _ _) rfl ?_
      exact⟨⟨_,rfl⟩,.inr ⟨_,⟨[],by rw[List.append_nil];exact HX'.out.symm⟩,hJx3⟩⟩
   ·have HT:=hid ht
    have HTX:=hid htx
    cases f with
    |zero=>omega
    |succ f=>
     have hit:=NS f s.data.toList a hlt k t v ht htx
     have hx':xs=(pre++[⟨k,t,v,a,0,0⟩])++items f s.data.toList (a+t.size+Lx.skipG false (s.data.toList.drop (a+t.size))):=by
      rw[hx.out,hit];simp
     have hlen:pre.length<xs.length:=by rw[hx.out,hit];simp
     obtain⟨nx,hnx⟩:∃nx,Hid (a+t.size+Lx.skipG false (s.data.toList.drop (a+t.size))=nx):=⟨_,hid rfl⟩
     have hnle:nx<=s.size:=by
      have h1:=Lx.skipG_le false (s.data.toList.drop (a+t.size))
      have h2:s.data.toList.length=s.size:=rfl
      rw[List.length_drop] at h1;have:=hnx.out;omega
     have hnge:a+t.size<=nx:=by have:=hnx.out;omega
     have ht2':a+t.size<=s.size:=ht2
     have HX':=hid hx'
     clear hit hx' ht htx hx ht2
     gi_wp2_with fail
     refine⟨trivial,?_⟩
     refine(callsIn_wide.2 (Gi s hs a hlt k t v HT HTX B _ hinv.env)).mono ?_
     rintro e w1⟨rfl,hb⟩
     have hb2:=hb.trans ((Jg w1 #[.int .i64 k,.string t,.int .i64 v,.int .i64 a] 99).mono hb.size)
     have hinv2:=hinv.to hO hb2
     have hJ2:=hJ pre _ _ none hJs (VZ hb2) (fun r e=>by cases e)
     obtain⟨fn,tmps,assign,body,hy,hR⟩:=hY pre ⟨k,t,v,a,0,0⟩ _ hJ2 hlen
     simp only[encs] at hy
     gi_wp2_with fail
     refine hR.mono ?_
     rintro e W3 (⟨rfl,hJ3,hk3⟩|⟨rfl,hJx3⟩)
     ·have hinv3:=hinv2.over hBn hBO hB hO hk3
      have hbox:=hinv3.box.cell
      have htok:=Boxed.at4 (hk3.keep w1.heap.size _ (World.alloc_heap_new w1 _) rfl (by have:=hinv.le;have:=hb.size;omega) (fun hr=>by
       have h1:=(hr.old (by have:=hinv.le;have:=hb.size;omega) (Jg w1 _ _)).old (by have:=hinv.le;omega) hb
       have:=(hinv.good _ h1).2;have:=hb.size;omega))
      gi_wp2_with (refine⟨trivial,?_⟩;gi_at_call 106;refine(callsIn_wide.2 (WF s hs' a t.size ht2' nx hnx _)).mono ?_;rintro e w1⟨rfl,rfl⟩)
      have hz3:=hk3.size
      have hz1:=hb.size
      rw[World.size_alloc] at hz3
      exact⟨⟨pre++[⟨k,t,v,a,0,0⟩],nx,f,rfl,hnle,hid (by rw[HX'.out,hnx.out]),by omega,hJ3,hinv3,by omega⟩,by simp[intOf];omega⟩
     ·gi_wp2
      refine bodyPost_ret (results_none rfl _ _ _) rfl ?_
      exact⟨⟨_,rfl⟩,.inr ⟨pre++[⟨k,t,v,a,0,0⟩],⟨_,HX'.out.symm⟩,hJx3⟩⟩
  ·have hit:=NV f s.data.toList a hlt
   have hx':xs=pre:=by rw[hx.out,hit,List.append_nil]
   have HX':=hid hx'
   clear hit hx' hx
   gi_wp2
   go_end0
   exact⟨⟨_,rfl⟩,.inl ⟨_,HX'.out.symm,hJs⟩⟩
end Go.Proofs.YtmnbheplkidfaaaGreatDoor.Tok
namespace Go.Proofs.YtmnbheplkidfaaaGreatDoor.Tok
open Go.Lib (hid)
open Go.RowKit Go.Shelf
attribute [local go_sem] Oper.semAt_some
theorem WN(s:ByteArray)(w:World):
 Calls Tryz.prog 75 #[.string s] w fun e w'=>e= .returned (.func (.func 105) #[] #[.pointer (some ⟨w.heap.size,0,none⟩)])/\w'=w.alloc (.cells #[.string s] 9):=by
 go_enter Tryz.func75,Tryz.ntmps75
 go_wp2
 go_ret
 exact⟨rfl,rfl⟩
theorem Dc(n:Nat)(hn:1<=n)(Bn O n₀ B:Nat)(hBn:Bn<n₀)(hBO:Bn≠O)(hB:B<=O)(hO:O<n₀)(s:ByteArray)(hs:s.size<=281474976710656)(w:World)(hI:Inv O n₀ Bn B s w):
 SeqStopsK Fence.wide n Tryz.prog 105 #[.pointer (some ⟨Bn,0,none⟩)] encs (Kp O n₀) (fun ys=>ys=items (s.size+1) s.data.toList (Lx.skipG false s.data.toList))
  (fun pre=>pre <+:items (s.size+1) s.data.toList (Lx.skipG false s.data.toList)) (items (s.size+1) s.data.toList (Lx.skipG false s.data.toList)).length w:=
 fun l J Jx W hW hJ _ hY h0=>WO n hn l Bn O n₀ B hBn hBO hB hO s hs _ rfl J Jx W (hI.to hO hW) hJ hY h0
theorem Lp:(Tryz.prog.info? 99).map (fun i=>(i.zero,i.size,i.bytes))=some (some (.agg #[.int .i64 0,.string ⟨#[]⟩,.int .i64 0,.int .i64 0]),4,40):=by kernel_rfl
def cellsOf(x:Item):List Value:=[.int .i64 x.k,.string x.t,.int .i64 x.v,.int .i64 x.a]
def rowOf(xs:List Item):List Value:=xs.flatMap cellsOf
theorem VN(pre:List Item)(x:Item):rowOf (pre++[x])=rowOf pre++cellsOf x:=by simp[rowOf]
theorem Rc(W:World)(x:Item):∀(j:Nat) u,(cellsOf x)[j]? =some u->(W.alloc (.cells #[.int .i64 x.k,.string x.t,.int .i64 x.v,.int .i64 x.a] 99)).cell? ((⟨W.heap.size,0,none⟩:Addr).add j)=some u:=by
 intro j u hj
 match j,hj with
 |0,hj=>simp[cellsOf] at hj;subst hj;simp[Addr.add]
 |1,hj=>simp[cellsOf] at hj;subst hj;simp[Addr.add]
 |2,hj=>simp[cellsOf] at hj;subst hj;simp[Addr.add]
 |3,hj=>simp[cellsOf] at hj;subst hj;simp[Addr.add]
 |j+4,hj=>simp[cellsOf] at hj
theorem one4(x:Item):∀u∈cellsOf x,u.oneCell'=true:=by
 intro u hu
 simp only[cellsOf,List.mem_cons,List.not_mem_nil,or_false] at hu
 rcases hu with rfl|rfl|rfl|rfl <;> rfl
theorem JC{W:World}{b o k:Nat}{v:Value}(h:k≠b):(W.setCell ⟨b,o,none⟩ v).heap[k]? =W.heap[k]? :=Below.heap_setCell _ _ _ k h
theorem XY(W:World)(b o:Nat)(v:Value):W.grownBy (W.setCell ⟨b,o,none⟩ v) (some b):=
 ⟨rfl,rfl,rfl,by simp,fun k _ hk=>Below.heap_setCell _ _ _ k (fun e=>hk (by rw[e]))⟩
theorem Qd{W:World}{b:Nat}{cs:Array Value}{t:TypeId}{fr:Nat×Nat}(h:W.heap[b]? =some (.cells cs t fr))(o:Nat)(v:Value):(W.setCell ⟨b,o,none⟩ v).heap[b]? =some (.cells (cs.setIfInBounds o v) t fr):=by
 obtain⟨hlt,hk⟩:=Array.getElem?_eq_some_iff.1 h
 show(W.heap.modify b _)[b]? =_
 rw[Array.getElem?_eq_getElem (by rw[Array.size_modify];exact hlt),Array.getElem_modify_self,hk]
 rfl
def TokI(w:World)(pre:List Item)(W:World):Prop:=
 (((∃v,Boxed W (w.heap.size+1+1) 96 v/\W.ownsRow (w.heap.size+1+1+1+1) 99 4 v pre.length (rowOf pre)/\(v= .slice none 0 0↔pre=[]))/\
  (Boxed W w.heap.size 96 (.slice none 0 0)/\W.heap[w.heap.size+1]? =some (.cells #[.int .i64 0,.int .i64 0] 36 (0,0))))/\(∀x∈pre,x.e=0))/\Below w.heap.size w W
def TokX(w:World)(c:Code)(pre:List Item)(W:World):Prop:=
 (c= .ret/\∃q x,pre=q++[x]/\x.e≠0/\Boxed W w.heap.size 96 (.slice none 0 0)/\W.heap[w.heap.size+1]? =some (.cells #[.int .i64 x.e,.int .i64 x.p] 36 (0,0)))/\Below w.heap.size w W
theorem TokI.own(w:World)(D:Nat)(hD:w.heap.size<=D):OwnFrom D (TokI w):=by
 refine OwnFrom.and (OwnFrom.and (OwnFrom.and (Own.from (holdsRow_own _ _ 96 99 4 (fun pre=>pre.length) rowOf (fun pre v=>v= .slice none 0 0↔pre=[])) _) ?_) ?_) (ownFrom_below lR hD)
 ·exact fun s A B row hs hg hr=>⟨ZW hs.1 hg (fun r e=>(hr r e).2),ZW hs.2 hg (fun r e=>(hr r e).2)⟩
 ·exact fun s A B row hs _ _=>hs
theorem TokX.own(w:World)(D:Nat)(hD:w.heap.size<=D)(c:Code):OwnFrom D (TokX w c):=by
 refine OwnFrom.and ?_ (ownFrom_below lR hD)
 rintro s A B row⟨hc,q,x,h1,h2,h3,h4⟩ hg hr
 exact⟨hc,q,x,h1,h2,ZW h3 hg (fun r e=>(hr r e).2),ZW h4 hg (fun r e=>(hr r e).2)⟩
def RA(w:World)(xs:List Item)(e:Ending)(W':World):Prop:=
 ((∃q x,xs=q++[x]/\x.e≠0/\e= .returned (.tuple #[.slice none 0 0,.agg #[.int .i64 x.e,.int .i64 x.p]]))\/
  ((∀x∈xs,x.e=0)/\∃v,e= .returned (.tuple #[v,.agg #[.int .i64 0,.int .i64 0]])/\W'.ownsRow w.heap.size 99 4 v xs.length (rowOf xs)/\(v= .slice none 0 0↔xs=[])))/\Below w.heap.size w W'
theorem RJ(n:Nat)(hn:3<=n)(s:ByteArray)(hs:s.size<=65536)(xs:List Item)(hxs:items (s.size+1) s.data.toList (Lx.skipG false s.data.toList)=xs)(B:Nat)(w:World)(he:Env B w):
 CallsIn Fence.wide n Tryz.prog 46 #[.string s] w (RA w xs):=by
 have h1:1<=n:=by omega
 have hxl:=items_len (s.size+1) s.data.toList (Lx.skipG false s.data.toList)
 have hlast:=VY (s.size+1) s.data.toList (Lx.skipG false s.data.toList)
 have hdec:decide ((65536:Int)<(s.size:Int))=false:=by simp;omega
 rw[hxs] at hxl hlast
 have HX:=hid hxs
 have HL:=hid hlast
 clear hxs hlast
 obtain⟨i0,hi,hz0,hz1,hz2⟩:=info_parts Lp
 refine callsIn_of_wp_marks Tryz.func46 rfl trivial ?_ rfl
 simp only[Tryz.ntmps46,List.size_toArray,List.length_cons,List.length_nil,Nat.reduceAdd,Nat.reduceSub,Array.replicate_succ,Array.replicate_zero,List.push_toArray,List.append_toArray,List.nil_append,List.cons_append]
 gi_wp2_with (refine⟨trivial,?_⟩;gi_at_call 75;refine(callsIn_wide.2 (WN _ _)).mono ?_;rintro e w'⟨rfl,rfl⟩)
 have b2:=(((Boxed.new w 96 (.slice none 0 0)).alloc (.cells #[.int .i64 0,.int .i64 0] 36)).alloc (.cells #[.slice none 0 0] 96)).alloc (.cells #[.string s] 9)
 have b3:((((w.alloc (.cells #[.slice none 0 0] 96)).alloc (.cells #[.int .i64 0,.int .i64 0] 36)).alloc (.cells #[.slice none 0 0] 96)).alloc (.cells #[.string s] 9)).heap[w.heap.size+1]? =some (.cells #[.int .i64 0,.int .i64 0] 36 (0,0)):=by
  have h:=World.alloc_heap_new (w.alloc (.cells #[.slice none 0 0] 96)) (.cells #[.int .i64 0,.int .i64 0] 36)
  rw[World.size_alloc] at h
  exact(Below.heap_alloc _ _ _ (by simp)).trans ((Below.heap_alloc _ _ _ (by simp)).trans h)
 have b4:=(Boxed.new ((w.alloc (.cells #[.slice none 0 0] 96)).alloc (.cells #[.int .i64 0,.int .i64 0] 36)) 96 (.slice none 0 0)).alloc (.cells #[.string s] 9)
 have b5:=Boxed.new (((w.alloc (.cells #[.slice none 0 0] 96)).alloc (.cells #[.int .i64 0,.int .i64 0] 36)).alloc (.cells #[.slice none 0 0] 96)) 9 (.string s)
 simp only[World.size_alloc] at b4 b5
 have hB0:Below w.heap.size w ((((w.alloc (.cells #[.slice none 0 0] 96)).alloc (.cells #[.int .i64 0,.int .i64 0] 36)).alloc (.cells #[.slice none 0 0] 96)).alloc (.cells #[.string s] 9)):=
  ((((Below.refl _ w).alloc lR _).alloc (by simp) _).alloc (by simp;omega) _).alloc (by simp;omega) _
 have hsz:((((w.alloc (.cells #[.slice none 0 0] 96)).alloc (.cells #[.int .i64 0,.int .i64 0] 36)).alloc (.cells #[.slice none 0 0] 96)).alloc (.cells #[.string s] 9)).heap.size=w.heap.size+4:=by simp
 obtain⟨W0,hW0⟩:∃W0,((((w.alloc (.cells #[.slice none 0 0] 96)).alloc (.cells #[.int .i64 0,.int .i64 0] 36)).alloc (.cells #[.slice none 0 0] 96)).alloc (.cells #[.string s] 9))=W0:=⟨_,rfl⟩
 rw[hW0] at b2 b3 b4 b5 hB0 hsz |-
 clear hW0
 have hInv:Inv (w.heap.size+1+1) (w.heap.size+1+1+1+1) (w.heap.size+1+1+1) B s W0:=⟨b5,he.to hB0,fun k hk=>by rw[Zi b4] at hk;simp[Value.ownBlock] at hk,by omega⟩
 have hbw:=he.size
 refine wpIn_rangeFunc_ownH rfl h1 (gf:=105) (lb:=#[.pointer (some ⟨w.heap.size+1+1+1,0,none⟩)]) rfl trivial (enters_of Tryz.func105 (by kernel_rfl) rfl)
  (Dc (n-1) (by omega) (w.heap.size+1+1+1) (w.heap.size+1+1) (w.heap.size+1+1+1+1) B (by omega) (by omega) (by omega) (by omega) s (by omega) W0 hInv) Kp.trans (Kp.put (by omega)) bR (fun _=>rfl)
  (TokI w) (TokX w) (TokI.own w _ (by omega)) (fun c=>TokX.own w _ (by omega) c)
  ⟨⟨⟨⟨_,b4,World.ownsRow_nil _ _ _ _,by simp⟩,b2,b3⟩,fun x hx=>by cases hx⟩,hB0⟩
  (fun x a' W=>∃bT bF,w.heap.size+1+1+1+1<=bF/\W.heap[bT]? =some (.cells #[.int .i64 x.k,.string x.t,.int .i64 x.v,.int .i64 x.a] 99 (0,0))/\W.heap[bF]? =some (.cells #[.int .i64 x.e,.int .i64 x.p] 36 (0,0))/\
   a'={ tmps:=#[.string s,undef,.pointer (some ⟨w.heap.size,0,none⟩),.pointer (some ⟨w.heap.size+1,0,none⟩),.pointer (some ⟨w.heap.size+1+1,0,none⟩),.pointer (some ⟨bT,0,none⟩),.pointer (some ⟨bF,0,none⟩),.string s,.int .i64 s.size,.bool false,undef,.string s,
    .func (.func 105) #[] #[.pointer (some ⟨w.heap.size+1+1+1,0,none⟩)],.agg #[.int .i64 x.k,.string x.t,.int .i64 x.v,.int .i64 x.a],.agg #[.int .i64 x.e,.int .i64 x.p],undef,undef,undef,undef,undef,undef,undef,undef,undef,undef],defers:=[] })
  (fun x a' _ X Y row hs hg hr=>by obtain⟨bT,bF,h0,h1,h2,h3⟩:=hs;exact⟨bT,bF,h0,ZW h1 hg (fun r e=>(hr r e).2),ZW h2 hg (fun r e=>(hr r e).2),h3⟩)
  ?assign ?body ?done ?stop
 case assign=>
  rintro l pre x W K hI hK
  gi_wp2
  have hO:w.heap.size+1+1<W.heap.size:=by obtain⟨⟨⟨⟨v,hv,_⟩,_⟩,_⟩,_⟩:=hI;exact hv.lt
  have hbA:Below W.heap.size W ((W.alloc (.cells #[.int .i64 x.k,.string x.t,.int .i64 x.v,.int .i64 x.a] 99)).alloc (.cells #[.int .i64 x.e,.int .i64 x.p] 36)):=((Below.refl _ W).alloc lR _).alloc (by simp) _
  have hT:=World.alloc_heap_new W (.cells #[.int .i64 x.k,.string x.t,.int .i64 x.v,.int .i64 x.a] 99)
  have hF:=World.alloc_heap_new (W.alloc (.cells #[.int .i64 x.k,.string x.t,.int .i64 x.v,.int .i64 x.a] 99)) (.cells #[.int .i64 x.e,.int .i64 x.p] 36)
  rw[World.size_alloc] at hF
  exact hK _ _ (((KeepsOthers.alloc _ _).trans (KeepsOthers.alloc _ _)).from _) (Kp.of_below hO hbA) ((TokI.own w _ lR).alloc _ ((TokI.own w _ lR).alloc _ hI))
   ⟨_,_,by omega,(Below.heap_alloc _ _ _ (by simp)).trans hT,hF,rfl⟩
 case body=>
  rintro l pre x a' W hl⟨r,hr⟩ ⟨⟨⟨⟨v,hv,hrow,hnil⟩,hr1,hr2⟩,hok⟩,hB⟩ ⟨bT,bF,hbF,hT,hF,rfl⟩ hlt
  rw[HX.out] at hlt
  have hc:=hv.cell
  have hfz:=hv.frozen
  have f0:W.cell? ⟨bF,0,none⟩=some (.int .i64 x.e):=by simp[World.cell?,hF]
  have f1:W.cell? ⟨bF,1,none⟩=some (.int .i64 x.p):=by simp[World.cell?,hF]
  have t0:W.cell? ⟨bT,0,none⟩=some (.int .i64 x.k):=by simp[World.cell?,hT]
  have t1:W.cell? ⟨bT,1,none⟩=some (.string x.t):=by simp[World.cell?,hT]
  have t2:W.cell? ⟨bT,2,none⟩=some (.int .i64 x.v):=by simp[World.cell?,hT]
  have t3:W.cell? ⟨bT,3,none⟩=some (.int .i64 x.a):=by simp[World.cell?,hT]
  by_cases he0:x.e=0
  ·have hne:(x.e != 0)=false:=by rw[he0];rfl
   have HE:=hid he0
   have HR:=hid hr2
   have HR1:=hid hr1
   have HT:=hid hT
   clear he0 hr2 hr1 hF hT
   have hle:w.heap.size+1+1+1+1<=W.heap.size:=by have:=(Array.getElem?_eq_some_iff.1 hr).1;omega
   clear hr
   have hb1:w.heap.size+1+1+1+1<=(W.alloc (.cells #[.int .i64 x.k,.string x.t,.int .i64 x.v,.int .i64 x.a] 99)).heap.size:=by simp;omega
   gi_wp2_with (gi_at_builtin;go_must (refine wpListIn_append_own_at _ rfl _ _ 96 rfl (w.heap.size+1+1+1+1) 99 i0 (.agg #[.int .i64 0,.string ⟨#[]⟩,.int .i64 0,.int .i64 0]) 4 40 Tryz.underlying96 hi hz0 hz1 hz2 rfl (by decide) _ _ _ rfl (hrow.alloc _) ⟨W.heap.size,0,none⟩ 1 1 (cellsOf x) rfl rfl (Rc W x) (one4 x) (by unfold maxLen;omega) (by omega) hb1 ?_);intro v' w1 hown' hgrow _ hwh;obtain⟨g',cap',rfl⟩:=ownsRow_succ hown';obtain⟨hv1,hv2,_,hk2,hb2⟩:=hv.appended (n₀:=w.heap.size) (by decide) (Xm hrow (by omega)) (by omega) (by omega) (Xm hown' (by omega)) hgrow;have hrw:=hown'.kept (grownBy_setCell' w1 (w.heap.size+1+1) (.slice (some ⟨g',0,none⟩) (pre.length+1) cap')) (.inr (hv1.not_row (by decide) hown').symm);have hkp:=Kp.append hv (by decide) hrow lR hown' hgrow hwh;have hc1:=hv1.cell;have hf1:=hv1.frozen)
   have nref:∀k,k<w.heap.size+1+1+1+1->¬Refers (w.heap.size+1+1) W k:=fun k hk hr=>by
    have:=(Zp hrow ((Zi hv).1 hr)).1;omega
   have hok':∀y∈pre++[x],y.e=0:=fun y hy=>(List.mem_append.1 hy).elim (hok y) (fun h=>by simp at h;rw[h];exact HE.out)
   exact⟨hk2.from _,hkp,⟨⟨⟨_,hv2,by rw[VN,List.length_append];exact hrw,by simp⟩,hkp.keep _ _ HR1.out rfl (by omega) (nref _ (by omega)),hkp.keep _ _ HR.out rfl (by omega) (nref _ (by omega))⟩,hok'⟩,hB.trans hb2⟩
  ·have hne:(x.e != 0)=true:=by simpa using he0
   have HE:Hid (x.e≠0):=hid he0
   clear he0
   have e1:¬w.heap.size=bF:=by omega
   have e2:¬w.heap.size+1=bF:=by omega
   have e3:¬bF=w.heap.size:=by omega
   have e4:¬bF=w.heap.size+1:=by omega
   have g1:=hr1.cell
   have g2:=hr1.frozen
   have g3:W.cell? ⟨w.heap.size+1,0,none⟩=some iZ:=by simp[World.cell?,hr2]
   have g4:W.cell? ⟨w.heap.size+1,1,none⟩=some iZ:=by simp[World.cell?,hr2]
   have g5:∀o,W.frozen? ⟨w.heap.size+1,o,none⟩=false:=by simp[World.frozen?,hr2]
   gi_wp2
   have mixed:Tryz.prog.follows .mixedOrders=true:=by kernel_rfl
   have hO:w.heap.size+1+1<W.heap.size:=hv.lt
   have k1:Boxed ((((W.setCell ⟨w.heap.size,0,none⟩ sN).setCell ⟨w.heap.size+1,0,none⟩ (.int .i64 x.e)).setCell ⟨w.heap.size+1,1,none⟩ (.int .i64 x.p)).drew) w.heap.size 96 (.slice none 0 0):=by
    show(((W.setCell ⟨w.heap.size,0,none⟩ sN).setCell ⟨w.heap.size+1,0,none⟩ (.int .i64 x.e)).setCell ⟨w.heap.size+1,1,none⟩ (.int .i64 x.p)).heap[w.heap.size]? =_
    exact(JC (by omega)).trans ((JC (by omega)).trans (hr1.set _))
   have k2:((((W.setCell ⟨w.heap.size,0,none⟩ sN).setCell ⟨w.heap.size+1,0,none⟩ (.int .i64 x.e)).setCell ⟨w.heap.size+1,1,none⟩ (.int .i64 x.p)).drew).heap[w.heap.size+1]? =some (.cells #[.int .i64 x.e,.int .i64 x.p] 36 (0,0)):=
    Qd (Qd ((JC (by omega)).trans hr2) 0 (.int .i64 x.e)) 1 (.int .i64 x.p)
   have k3:KeepsOthers W ((((W.setCell ⟨w.heap.size,0,none⟩ sN).setCell ⟨w.heap.size+1,0,none⟩ (.int .i64 x.e)).setCell ⟨w.heap.size+1,1,none⟩ (.int .i64 x.p)).drew):=
    (((KeepsOthers.setCell _ _ _).trans (KeepsOthers.setCell _ _ _)).trans (KeepsOthers.setCell _ _ _)).trans (KeepsOthers.drew _)
   have k4:Below w.heap.size w ((((W.setCell ⟨w.heap.size,0,none⟩ sN).setCell ⟨w.heap.size+1,0,none⟩ (.int .i64 x.e)).setCell ⟨w.heap.size+1,1,none⟩ (.int .i64 x.p)).drew):=
    (((hB.setCell (p:=⟨w.heap.size,0,none⟩) lR _).setCell (p:=⟨w.heap.size+1,0,none⟩) (by simp) _).setCell (p:=⟨w.heap.size+1,1,none⟩) (by simp) _).drew
   have K1:=hid k1
   have K2:=hid k2
   clear k1 k2 hr1 hr2 hF hT hr
   gi_region_with_o (fail)
   all_goals gi_wp2
   all_goals exact⟨k3.from _,⟨rfl,pre,x,rfl,HE.out,K1.out,K2.out⟩,k4⟩
 case done=>
  rintro D ys W hD hys⟨⟨⟨⟨v,hv,hrow,hnil⟩,hr1,hr2⟩,hok⟩,hB⟩ hK
  rw[HX.out] at hys
  obtain⟨ba,le,ca,rfl⟩:∃a k c,v= .slice a k c:=by
   rcases hrow.2 with⟨rfl,_⟩|⟨g,cap,cur,rfl,_⟩
   ·exact⟨_,_,_,rfl⟩
   ·exact⟨_,_,_,rfl⟩
  have hc:=hv.cell
  have g1:=hr1.cell
  have g2:=hr1.frozen
  have g3:W.cell? ⟨w.heap.size+1,0,none⟩=some iZ:=by simp[World.cell?,hr2]
  have g4:W.cell? ⟨w.heap.size+1,1,none⟩=some iZ:=by simp[World.cell?,hr2]
  have g5:∀o,W.frozen? ⟨w.heap.size+1,o,none⟩=false:=by simp[World.frozen?,hr2]
  have HN:=hid hnil
  have HY:=hid hys
  have HR2:=hid hr2
  have HK:=hid hK
  clear hnil hys hr2 hK
  gi_wp2
  have hsW:W0.heap.size<=W.heap.size:=by have:=(Array.getElem?_eq_some_iff.1 HK.out).1;have:=hv.lt;omega
  have k1:Boxed (((W.setCell ⟨w.heap.size,0,none⟩ (.slice ba le ca)).setCell ⟨w.heap.size+1,0,none⟩ iZ).setCell ⟨w.heap.size+1,1,none⟩ iZ) w.heap.size 96 (.slice ba le ca):=
   (JC (by omega)).trans ((JC (by omega)).trans (hr1.set _))
  have k2:(((W.setCell ⟨w.heap.size,0,none⟩ (.slice ba le ca)).setCell ⟨w.heap.size+1,0,none⟩ iZ).setCell ⟨w.heap.size+1,1,none⟩ iZ).heap[w.heap.size+1]? =some (.cells #[.int .i64 0,.int .i64 0] 36 (0,0)):=
   Qd (Qd ((JC (by omega)).trans HR2.out) 0 iZ) 1 iZ
  have k3:(((W.setCell ⟨w.heap.size,0,none⟩ (.slice ba le ca)).setCell ⟨w.heap.size+1,0,none⟩ iZ).setCell ⟨w.heap.size+1,1,none⟩ iZ).heap[D]? =some (.deferred (some [])):=
   (JC (by omega)).trans ((JC (by omega)).trans ((JC (by omega)).trans HK.out))
  have k4:Below w.heap.size w (((W.setCell ⟨w.heap.size,0,none⟩ (.slice ba le ca)).setCell ⟨w.heap.size+1,0,none⟩ iZ).setCell ⟨w.heap.size+1,1,none⟩ iZ):=
   ((hB.setCell (p:=⟨w.heap.size,0,none⟩) lR _).setCell (p:=⟨w.heap.size+1,0,none⟩) (by simp) _).setCell (p:=⟨w.heap.size+1,1,none⟩) (by simp) _
  have k5:(((W.setCell ⟨w.heap.size,0,none⟩ (.slice ba le ca)).setCell ⟨w.heap.size+1,0,none⟩ iZ).setCell ⟨w.heap.size+1,1,none⟩ iZ).ownsRow w.heap.size 99 4 (.slice ba le ca) ys.length (rowOf ys):=by
   have nr:∀b,b<w.heap.size+1+1+1+1->Value.ownBlock (.slice ba le ca)≠some b:=fun b hb e=>by have:=(Zp hrow e).1;omega
   exact Xm (((hrow.kept (XY W _ 0 _) (.inr (nr _ (by omega)))).kept (XY _ _ 0 _) (.inr (nr _ (by omega)))).kept (XY _ _ 1 _) (.inr (nr _ (by omega)))) (by omega)
  generalize (((W.setCell ⟨w.heap.size,0,none⟩ (.slice ba le ca)).setCell ⟨w.heap.size+1,0,none⟩ iZ).setCell ⟨w.heap.size+1,1,none⟩ iZ)=W3 at *
  refine⟨by simp,.inl ⟨_,_,rfl,run_takeDeferred k3,?_⟩⟩
  have k1':(W3.putObj D (.deferred none)).heap[w.heap.size]? =some (.cells #[.slice ba le ca] 96 (0,0)):=(World.putObj_heap_other (by omega)).trans k1
  have k2':(W3.putObj D (.deferred none)).heap[w.heap.size+1]? =some (.cells #[.int .i64 0,.int .i64 0] 36 (0,0)):=(World.putObj_heap_other (by omega)).trans k2
  have c1:(W3.putObj D (.deferred none)).cell? ⟨w.heap.size,0,none⟩=some (.slice ba le ca):=by simp[World.cell?,k1']
  have c2:(W3.putObj D (.deferred none)).cell? ⟨w.heap.size+1,0,none⟩=some iZ:=by simp[World.cell?,k2']
  have c3:(W3.putObj D (.deferred none)).cell? ⟨w.heap.size+1,1,none⟩=some iZ:=by simp[World.cell?,k2']
  have k6:=ownsRow_putObj k5 (.deferred none) k3 rfl
  have k7:Below w.heap.size w (W3.putObj D (.deferred none)):=k4.trans (belowK_b (w:=w) lR W3 D _ _ (by omega) k3 rfl rfl)
  generalize W3.putObj D (.deferred none)=W4 at *
  refine⟨.tuple #[.slice ba le ca,.agg #[.int .i64 0,.int .i64 0]],by simp[results,Tryz.results46,go_sem,c1,c2,c3],?_⟩
  have hys':=HY.out
  subst hys'
  exact⟨.inr ⟨hok,_,rfl,k6,HN.out⟩,k7⟩
 case stop=>
  rintro D c pre W hD hpre⟨⟨rfl,q,x,rfl,hx,hr1,hr2⟩,hB⟩ hK
  rw[HX.out] at hpre
  gi_wp2
  refine⟨by simp,.inl ⟨_,_,rfl,run_takeDeferred hK,?_⟩⟩
  have k1':(W.putObj D (.deferred none)).heap[w.heap.size]? =some (.cells #[.slice none 0 0] 96 (0,0)):=(World.putObj_heap_other (by omega)).trans hr1
  have k2':(W.putObj D (.deferred none)).heap[w.heap.size+1]? =some (.cells #[.int .i64 x.e,.int .i64 x.p] 36 (0,0)):=(World.putObj_heap_other (by omega)).trans hr2
  have c1:(W.putObj D (.deferred none)).cell? ⟨w.heap.size,0,none⟩=some sN:=by simp[World.cell?,k1']
  have c2:(W.putObj D (.deferred none)).cell? ⟨w.heap.size+1,0,none⟩=some (.int .i64 x.e):=by simp[World.cell?,k2']
  have c3:(W.putObj D (.deferred none)).cell? ⟨w.heap.size+1,1,none⟩=some (.int .i64 x.p):=by simp[World.cell?,k2']
  have k7:Below w.heap.size w (W.putObj D (.deferred none)):=hB.trans (belowK_b (w:=w) lR W D _ _ (by omega) hK rfl rfl)
  generalize W.putObj D (.deferred none)=W4 at *
  refine⟨.tuple #[.slice none 0 0,.agg #[.int .i64 x.e,.int .i64 x.p]],by simp[results,Tryz.results46,go_sem,c1,c2,c3],?_⟩
  obtain⟨r,hr⟩:=hpre
  have hr':r=[]:=HL.out q r x (by rw[<-hr];simp) hx
  subst hr'
  exact⟨.inl ⟨q,x,by rw[<-hr];simp,hx,rfl⟩,k7⟩
end Go.Proofs.YtmnbheplkidfaaaGreatDoor.Tok
namespace Go.Proofs.YtmnbheplkidfaaaGreatDoor.Tok
open Go.RowKit Go.Shelf
theorem tokens_any(s:ByteArray)(hs:s.size<=65536)(B:Nat)(w:World)(he:Env B w):
 Calls Tryz.prog 46 #[.string s] w (RA w (items (s.size+1) s.data.toList (Lx.skipG false s.data.toList))):=
 callsIn_wide.1 (RJ 3 lR s hs _ rfl B w he)
theorem tokens_long(s:ByteArray)(hs:65536<s.size)(w:World):
 Calls Tryz.prog 46 #[.string s] w fun e W'=>e= .returned (.tuple #[.slice none 0 0,.agg #[.int .i64 2,.int .i64 65536]])/\Below w.heap.size w W':=by
 have hd:decide ((65536:Int)<(s.size:Int))=true:=by simp;omega
 go_enter Tryz.func46,Tryz.ntmps46
 go_wp2
 refine bodyPost_ret (v:= .tuple #[.slice none 0 0,.agg #[.int .i64 2,.int .i64 65536]]) (by simp[results,Tryz.results46,go_sem]) rfl ⟨rfl,?_⟩
 exact((Below.refl _ w).alloc lR _).alloc (by simp) _
def kwAt:Nat->ByteArray
 |0=>⟨#[100,101,102]⟩
 |1=>⟨#[109,97,105,110]⟩
 |2=>⟨#[115,116,111,112]⟩
 |3=>⟨#[110,101,119]⟩
 |4=>⟨#[105,110,116]⟩
 |5=>⟨#[98,111,111,108]⟩
 |6=>⟨#[101,110,100]⟩
 |7=>⟨#[114,101,99]⟩
 |8=>⟨#[116,114,117,101]⟩
 |_=>⟨#[102,97,108,115,101]⟩
def JL:Array Value:=#[.string (kwAt 0),.string (kwAt 1),.string (kwAt 2),.string (kwAt 3),.string (kwAt 4),.string (kwAt 5),.string (kwAt 6),.string (kwAt 7),.string (kwAt 8),.string (kwAt 9)]
theorem kwU:Tryz.prog.underlying 180=some (.array 10 9):=by kernel_rfl
def kwB:Nat->ByteArray->Bool
 |0,_=>false
 |k+1,s=>kwB k s||(kwAt k).toList==s.toList
def Qb(s:ByteArray):Bool:= !s.toList.isEmpty&&decide (Lx.wordLen s.data.toList=s.size)&& !kwB 10 s
end Go.Proofs.YtmnbheplkidfaaaGreatDoor.Tok
namespace Go.Proofs.YtmnbheplkidfaaaGreatDoor.Tok
open Go.RowKit Go.Shelf Go.Deep
theorem tokens_bad(s:ByteArray)(hs:s.size<=65536)(q:List Item)(x:Item)(hx:items (s.size+1) s.data.toList (Lx.skipG false s.data.toList)=q++[x])(hxe:x.e≠0)(B:Nat)(w:World)(he:Env B w):
 Calls Tryz.prog 46 #[.string s] w fun e W'=>e= .returned (.tuple #[.slice none 0 0,.agg #[.int .i64 x.e,.int .i64 x.p]])/\Below w.heap.size w W':=by
 refine(tokens_any s hs B w he).mono ?_
 rw[hx]
 rintro e W'⟨⟨q',x',h,_,rfl⟩|⟨hok,_⟩,hb⟩
 ·obtain⟨_,h⟩:=List.append_inj' h rfl
  cases h
  exact⟨rfl,hb⟩
 ·exact absurd (hok x (by simp)) hxe
theorem GJ(s:ByteArray):(∃q x,items (s.size+1) s.data.toList (Lx.skipG false s.data.toList)=q++[x]/\x.e≠0/\∀y∈q,y.e=0)\/
 items (s.size+1) s.data.toList (Lx.skipG false s.data.toList)=[]\/
 (items (s.size+1) s.data.toList (Lx.skipG false s.data.toList)≠[]/\∀x∈items (s.size+1) s.data.toList (Lx.skipG false s.data.toList),x.e=0):=by
 have hl:=VY (s.size+1) s.data.toList (Lx.skipG false s.data.toList)
 generalize items (s.size+1) s.data.toList (Lx.skipG false s.data.toList)=xs at hl |-
 by_cases h:∀x∈xs,x.e=0
 ·by_cases h0:xs=[]
  ·exact .inr (.inl h0)
  ·exact .inr (.inr ⟨h0,h⟩)
 ·left
  have:∀l:List Item,¬(∀x∈l,x.e=0)->∃q x r,l=q++x::r/\x.e≠0/\∀y∈q,y.e=0:=by
   intro l
   induction l with
   |nil=>intro h;exact absurd (fun x hx=>by cases hx) h
   |cons y l ih=>
    intro h
    by_cases hy:y.e=0
    ·obtain⟨q,x,r,e,hx,hq⟩:=ih (fun hl=>h (fun x hx=>(List.mem_cons.1 hx).elim (fun e=>by rw[e];exact hy) (hl x)))
     exact⟨y::q,x,r,by rw[e];rfl,hx,fun z hz=>(List.mem_cons.1 hz).elim (fun e=>by rw[e];exact hy) (hq z)⟩
    ·exact⟨[],y,l,rfl,hy,fun z hz=>by cases hz⟩
  obtain⟨q,x,r,e,hx,hq⟩:=this xs h
  have hr:=hl q r x e hx
  subst hr
  exact⟨q,x,e,hx,hq⟩
end Go.Proofs.YtmnbheplkidfaaaGreatDoor.Tok
namespace Go.Proofs.YtmnbheplkidfaaaGreatDoor.Tok
open Go.RowKit Go.Shelf Go.Deep
theorem WR:(Tryz.prog.info? 93).map (fun i=>(i.zero,i.size,i.bytes))=some (some (.agg #[.int .i64 0,.string ⟨#[]⟩,.int .i64 0,.int .i64 0]),4,40):=by kernel_rfl
theorem Kw(W:World)(x:Item):∀(j:Nat) u,(cellsOf x)[j]? =some u->(W.alloc (.cells #[.int .i64 x.k,.string x.t,.int .i64 x.v,.int .i64 x.a] 93)).cell? ((⟨W.heap.size,0,none⟩:Addr).add j)=some u:=by
 intro j u hj
 match j,hj with
 |0,hj=>simp[cellsOf] at hj;subst hj;simp[Addr.add]
 |1,hj=>simp[cellsOf] at hj;subst hj;simp[Addr.add]
 |2,hj=>simp[cellsOf] at hj;subst hj;simp[Addr.add]
 |3,hj=>simp[cellsOf] at hj;subst hj;simp[Addr.add]
 |j+4,hj=>simp[cellsOf] at hj
section
variable {P:Program} (w:World)
end
end Go.Proofs.YtmnbheplkidfaaaGreatDoor.Tok
namespace Go.Proofs.YtmnbheplkidfaaaGreatDoor.Tok
open Go.RowKit Go.Shelf Go.Deep
def inB(c:UInt8)(s:ByteArray):Bool:=s.data.toList.contains c
def Rm(c:UInt8)(s:ByteArray)(k:Nat):Prop:=∀j (h:j<s.size),j<k->s[j]≠c
theorem XE(c:UInt8)(s:ByteArray)(hs:s.size<=9223372036854775807)(w:World):
 Calls Tryz.prog 42 #[.int .u8 (c.toNat:Int),.string s] w fun e w'=>e= .returned (.bool (inB c s))/\w'=w:=by
 go_enter Tryz.func42,Tryz.ntmps42
 go_wp2_with fail
 go_loop [5] (fun n=>∃k:Nat,k<=s.size/\n= .int .i64 k/\Rm c s k) (fun n=>s.size-(intOf n).toNat)
 case atStart=>exact⟨0,by omega,rfl,fun j _ h=>by omega⟩
 case round=>
  obtain⟨k,hk,rfl,ha⟩:=hrel
  by_cases hlt:k<s.size
  ·by_cases hc:s[k]=c
   ·have hb:((s[k].toNat:Int)==(c.toNat:Int))=true:=by rw[hc];simp
    have hr:true=inB c s:=by
     symm;unfold inB;rw[List.contains_iff_mem,<-hc]
     exact List.getElem_mem (show k<s.data.toList.length from hlt)
    have HR:=Lib.hid hr
    clear hr hc
    go_wp2_with fail
    go_ret
    exact⟨Qm HR.out,rfl⟩
   ·have hb:((s[k].toNat:Int)==(c.toNat:Int))=false:=by
     rw[beq_eq_false_iff_ne];intro e;apply hc;apply UInt8.toNat_inj.1;omega
    have hnext:Rm c s (k+1):=fun j hj h=>by
     by_cases e:j=k
     ·subst e;exact hc
     ·exact ha j hj (by omega)
    clear hc
    go_wp2_with fail
    go_round
    case rel=>exact⟨k+1,by omega,by go_num,hnext⟩
    case measure=>simp[intOf];omega
  ·have hr:false=inB c s:=by
    symm
    unfold inB
    rw[Bool.eq_false_iff]
    intro h
    rw[List.contains_iff_mem] at h
    obtain⟨j,hj,e⟩:=List.mem_iff_getElem.1 h
    have hj':j<s.size:=hj
    exact ha j hj' (by omega) e
   have HR:=Lib.hid hr
   clear hr
   go_wp2_with fail
   go_ret
   exact⟨Qm HR.out,rfl⟩
theorem Jn(w:World):
 Calls Tryz.prog 103 #[] w fun e w'=>e= .returned (.string ⟨#[65,66,67,68,69,70,71,72,73,74,75,76,77,78,79,80,81,82,83,84,85,86,87,88,89,90,97,98,99,100,101,102,103,104,105,106,107,108,109,110,111,112,113,114,115,116,117,118,119,120,121,122,95]⟩)/\w'=w:=by
 go_enter Tryz.func103,Tryz.ntmps103
 go_wp2_with fail
 go_ret
 exact⟨rfl,rfl⟩
theorem JV(w:World):
 Calls Tryz.prog 104 #[] w fun e w'=>e= .returned (.string ⟨#[48,49,50,51,52,53,54,55,56,57]⟩)/\w'=w:=by
 go_enter Tryz.func104,Tryz.ntmps104
 go_wp2_with fail
 go_ret
 exact⟨rfl,rfl⟩
theorem Zd{p q:UInt8->Bool}(h:∀n:Fin 256,p (UInt8.ofNat n.val)=q (UInt8.ofNat n.val))(c:UInt8):p c=q c:=by
 have:=h ⟨c.toNat,c.toNat_lt⟩
 simpa using this
theorem Zx(c:UInt8)(w:World):
 Calls Tryz.prog 42 #[.int .u8 (c.toNat:Int),.string ⟨#[65,66,67,68,69,70,71,72,73,74,75,76,77,78,79,80,81,82,83,84,85,86,87,88,89,90,97,98,99,100,101,102,103,104,105,106,107,108,109,110,111,112,113,114,115,116,117,118,119,120,121,122,95]⟩] w fun e w'=>e= .returned (.bool (Lx.letB (c.toNat:Int)))/\w'=w:=by
 refine(XE c _ (by decide) w).mono ?_
 rintro e w'⟨rfl,rfl⟩
 refine⟨Qm ?_,rfl⟩
 exact Zd (p:=fun c=>List.contains _ c) (q:=fun c=>Lx.letB (c.toNat:Int)) (by decide+kernel) c
theorem Vw(c:UInt8)(w:World):
 Calls Tryz.prog 42 #[.int .u8 (c.toNat:Int),.string ⟨#[48,49,50,51,52,53,54,55,56,57]⟩] w fun e w'=>e= .returned (.bool (Lx.digB (c.toNat:Int)))/\w'=w:=by
 refine(XE c _ (by decide) w).mono ?_
 rintro e w'⟨rfl,rfl⟩
 refine⟨Qm ?_,rfl⟩
 exact Zd (p:=fun c=>List.contains _ c) (q:=fun c=>Lx.digB (c.toNat:Int)) (by decide+kernel) c
theorem Yw(c:UInt8)(w:World):
 Calls Tryz.prog 42 #[.int .u8 (c.toNat:Int),.string ⟨#[32,9,10,13]⟩] w fun e w'=>e= .returned (.bool (Lx.blank c))/\w'=w:=by
 refine(XE c _ (by decide) w).mono ?_
 rintro e w'⟨rfl,rfl⟩
 refine⟨Qm ?_,rfl⟩
 exact Zd (p:=fun c=>List.contains _ c) (q:=Lx.blank) (by decide+kernel) c
theorem SE(c:UInt8)(w:World):
 Calls Tryz.prog 42 #[.int .u8 (c.toNat:Int),.string ⟨#[33,63,46,40,41,123,125,60,62,44,58,59,124,38,43,61]⟩] w fun e w'=>e= .returned (.bool (Lx.isSign c))/\w'=w:=by
 refine(XE c _ (by decide) w).mono ?_
 rintro e w'⟨rfl,rfl⟩
 exact⟨rfl,rfl⟩
theorem Ye(c:UInt8):inB c ⟨#[65,66,67,68,69,70,71,72,73,74,75,76,77,78,79,80,81,82,83,84,85,86,87,88,89,90,97,98,99,100,101,102,103,104,105,106,107,108,109,110,111,112,113,114,115,116,117,118,119,120,121,122,95]⟩=Lx.letB (c.toNat:Int):=Zd (p:=fun c=>inB c ⟨#[65,66,67,68,69,70,71,72,73,74,75,76,77,78,79,80,81,82,83,84,85,86,87,88,89,90,97,98,99,100,101,102,103,104,105,106,107,108,109,110,111,112,113,114,115,116,117,118,119,120,121,122,95]⟩) (q:=fun c=>Lx.letB (c.toNat:Int)) (by decide+kernel) c
theorem YC(c:UInt8):inB c ⟨#[48,49,50,51,52,53,54,55,56,57]⟩=Lx.digB (c.toNat:Int):=Zd (p:=fun c=>inB c ⟨#[48,49,50,51,52,53,54,55,56,57]⟩) (q:=fun c=>Lx.digB (c.toNat:Int)) (by decide+kernel) c
def Drew(w wr:World):Prop:=∃nq,wr=w.drewN nq
theorem Drew.refl(w:World):Drew w w:=⟨0,rfl⟩
theorem Drew.more{w wr:World}(h:Drew w wr)(n:Nat):Drew w (wr.drewN n):=by
 obtain⟨m,rfl⟩:=h;exact⟨m+n,by rw[World.drewN_drewN]⟩
theorem Drew.trans{a b c:World}(h:Drew a b)(g:Drew b c):Drew a c:=by
 obtain⟨n,rfl⟩:=g;exact h.more n
theorem Drew.below{w wr:World}(h:Drew w wr)(B:Nat):Below B w wr:=by
 obtain⟨n,rfl⟩:=h;exact below_drewN bR n
def JE:List UInt8->Bool
 |[]=>false
 |c::r=>Lx.letU c&&r.all Lx.wcU
theorem VM(s:ByteArray)(h0:s.size=0)(w:World):
 Calls Tryz.prog 73 #[.string s] w fun e w'=>e= .returned (.bool false)/\Drew w w':=by
 have hb:((s.size:Int)==0)=true:=by rw[beq_iff_eq];omega
 go_enter Tryz.func73,Tryz.ntmps73
 go_wp2_with fail
 go_quiet (fail)
 go_wp2
 go_ret
 exact⟨rfl,(Drew.refl _).more _⟩
theorem ML(s:ByteArray)(h0:0<s.size)(hl:Lx.letB (s[0].toNat:Int)=false)(w:World):
 Calls Tryz.prog 73 #[.string s] w fun e w'=>e= .returned (.bool false)/\Drew w w':=by
 have hb:((s.size:Int)==0)=false:=by rw[beq_eq_false_iff_ne];omega
 go_enter Tryz.func73,Tryz.ntmps73
 go_wp2_with fail
 go_quiet (first|(go_at_call 103;exact Calls.quiet_of_same (Jn _))|(go_at_call 42;exact Calls.quiet_of_same (Zx _ _)))
 go_wp2
 go_ret
 exact⟨rfl,(Drew.refl _).more _⟩
def Xh(s:ByteArray)(k:Nat):Prop:=∀j (h:j<s.size),1<=j->j<k->Lx.wcU s[j]=true
theorem UR(s:ByteArray)(h0:0<s.size)(hs:s.size<=9223372036854775807)(hl:Lx.letB (s[0].toNat:Int)=true)(w:World):
 Calls Tryz.prog 73 #[.string s] w fun e w'=>e= .returned (.bool (JE s.data.toList))/\Drew w w':=by
 have hb:((s.size:Int)==0)=false:=by rw[beq_eq_false_iff_ne];omega
 have hd:=Jl s h0
 have hlen:s.data.toList.length=s.size:=rfl
 have htail:∀j (h:j+1<s.size),s.data.toList.tail[j]'(by rw[List.length_tail];omega)=s[j+1]:=fun j h=>by rw[List.getElem_tail];rfl
 have HD:=Lib.hid hd
 have HT:=Lib.hid htail
 clear hd htail
 go_enter Tryz.func73,Tryz.ntmps73
 go_wp2_with fail
 go_quiet (first|(go_at_call 103;exact Calls.quiet_of_same (Jn _))|(go_at_call 42;exact Calls.quiet_of_same (Zx _ _)))
 go_wp2_with fail
 go_loopw [3] (fun n wr=>∃k:Nat,1<=k/\k<=s.size/\n= .int .i64 k/\Xh s k/\Drew w wr) (fun n _=>s.size-(intOf n).toNat)
 case atStart=>exact⟨1,by omega,by omega,rfl,fun j _ h3 h4=>by omega,(Drew.refl _).more _⟩
 case round=>
  obtain⟨k,hk1,hk2,rfl,ha,hdr⟩:=hrel
  by_cases hlt:k<s.size
  ·have hnext:Lx.wcU s[k]=true->Xh s (k+1):=by
    intro hw j hj h3 h4
    by_cases e:j=k
    ·subst e;exact hw
    ·exact ha j hj h3 (by omega)
   have HNX:=Lib.hid hnext
   clear hnext
   have hk0:(0:Int)<=(k:Int):=Int.natCast_nonneg _
   have hk3:(k:Int)<(s.size:Int):=by omega
   by_cases hle:Lx.letB (s[k].toNat:Int)=true
   ·have hw:Lx.wcU s[k]=true:=by unfold Lx.wcU Lx.letU;rw[hle];rfl
    have HW:=Lib.hid (HNX.out hw)
    clear hw hl
    go_wp2_with fail
    go_quiet (first|(go_at_call 103;exact Calls.quiet_of_same (Jn _))|(go_at_call 42;exact Calls.quiet_of_same (Zx _ _)))
    go_wp2_with fail
    go_roundw
    case rel=>exact⟨k+1,by omega,by omega,by go_num,HW.out,hdr.more _⟩
    case measure=>simp[intOf];omega
   ·have hle':Lx.letB (s[k].toNat:Int)=false:=by simpa using hle
    by_cases hdg:Lx.digB (s[k].toNat:Int)=true
    ·have hw:Lx.wcU s[k]=true:=by unfold Lx.wcU Lx.digU;rw[hdg,Bool.or_true]
     have hil:=Ye s[k]
     have hid:=YC s[k]
     rw[hle'] at hil
     rw[hdg] at hid
     have HW:=Lib.hid (HNX.out hw)
     clear hw hl hle
     go_wp2_with fail
     go_quiet (first|(go_at_call 103;exact Calls.quiet_of_same (Jn _))|(go_at_call 104;exact Calls.quiet_of_same (JV _))|(go_at_call 42;exact Calls.quiet_of_same (XE _ _ (by decide) _)))
     go_wp2_with fail
     go_roundw
     case rel=>exact⟨k+1,by omega,by omega,by go_num,HW.out,hdr.more _⟩
     case measure=>simp[intOf];omega
    ·have hdg':Lx.digB (s[k].toNat:Int)=false:=by simpa using hdg
     have hr:false=JE s.data.toList:=by
      symm
      rw[HD.out];simp only[JE]
      rw[Bool.and_eq_false_iff];right
      rw[Bool.eq_false_iff];intro h
      rw[List.all_eq_true] at h
      have h2:=h (s.data.toList.tail[k-1]'(by rw[List.length_tail];omega)) (List.getElem_mem _)
      rw[HT.out (k-1) (by omega)] at h2
      have e:k-1+1=k:=by omega
      simp only[e] at h2
      simp[Lx.wcU,Lx.letU,Lx.digU,hle',hdg'] at h2
     have HR:=Lib.hid hr
     have hil:=Ye s[k]
     have hid:=YC s[k]
     rw[hle'] at hil
     rw[hdg'] at hid
     clear hr hl hle hdg
     go_wp2_with fail
     go_quiet (first|(go_at_call 103;exact Calls.quiet_of_same (Jn _))|(go_at_call 104;exact Calls.quiet_of_same (JV _))|(go_at_call 42;exact Calls.quiet_of_same (XE _ _ (by decide) _)))
     go_wp2
     go_ret
     exact⟨Qm HR.out,hdr.more _⟩
  ·have hr:true=JE s.data.toList:=by
    symm
    rw[HD.out];simp only[JE]
    rw[Bool.and_eq_true]
    refine⟨hl,?_⟩
    rw[List.all_eq_true]
    intro x hx
    obtain⟨j,hj,e⟩:=List.mem_iff_getElem.1 hx
    rw[List.length_tail] at hj
    rw[HT.out j (by omega)] at e
    rw[<-e];exact ha (j+1) (by omega) (by omega) (by omega)
   have HR:=Lib.hid hr
   clear hr hl
   go_wp2
   go_ret
   exact⟨Qm HR.out,hdr⟩
theorem US(s:ByteArray)(hs:s.size<=9223372036854775807)(w:World):
 Calls Tryz.prog 73 #[.string s] w fun e w'=>e= .returned (.bool (JE s.data.toList))/\Drew w w':=by
 by_cases h0:0<s.size
 ·by_cases hl:Lx.letB (s[0].toNat:Int)=true
  ·exact UR s h0 hs hl w
  ·have hl':Lx.letB (s[0].toNat:Int)=false:=by simpa using hl
   refine(ML s h0 hl' w).mono ?_
   rintro e w'⟨rfl,h⟩
   refine⟨Qm ?_,h⟩
   rw[Jl s h0];simp only[JE]
   rw[show Lx.letU s[0]=false from hl'];rfl
 ·refine(VM s (by omega) w).mono ?_
  rintro e w'⟨rfl,h⟩
  have:=JT s (by omega)
  rw[Lib.toList_data] at this
  exact⟨Qm (by rw[this];rfl),h⟩
end Go.Proofs.YtmnbheplkidfaaaGreatDoor.Tok
namespace Go.Proofs.YtmnbheplkidfaaaGreatDoor.Tok
open Go.Lib (hid)
open Go.RowKit Go.Shelf Go.Deep
def Zy(s:ByteArray)(k:Nat):Prop:=∀j (h:j<s.size),j<k->Lx.digU s[j]=true
def XK:List UInt8->Bool
 |[]=>false
 |c::r=>c != 48&&(c::r).all Lx.digU
def rNum(l:List UInt8):Bool:=
 if l=[48] then true else if l.head?=some 45 then XK l.tail else XK l
theorem NA(s:ByteArray)(h:s.size=0):XK s.data.toList=false:=by
 have:=JT s h
 rw[Lib.toList_data] at this
 rw[this];rfl
theorem Kk(s:ByteArray)(h:0<s.size)(h48:s[0]=48):XK s.data.toList=false:=by
 rw[Jl s h,h48];rfl
theorem KU(s:ByteArray)(h:0<s.size)(h48:s[0]≠48)(ha:Zy s s.size):XK s.data.toList=true:=by
 have hall:s.data.toList.all Lx.digU=true:=by
  rw[List.all_eq_true]
  intro x hx
  obtain⟨j,hj,e⟩:=List.mem_iff_getElem.1 hx
  rw[<-e];exact ha j hj hj
 rw[Jl s h] at hall |-
 simp only[XK]
 rw[hall,Bool.and_true];simpa using h48
theorem Kl(s:ByteArray)(k:Nat)(hk:k<s.size)(hd:Lx.digU s[k]=false):XK s.data.toList=false:=by
 have hall:s.data.toList.all Lx.digU=false:=by
  rw[Bool.eq_false_iff];intro h
  rw[List.all_eq_true] at h
  have:=h (s.data.toList[k]'hk) (List.getElem_mem _)
  have e:s.data.toList[k]'hk=s[k]:=rfl
  rw[e,hd] at this;cases this
 have h:0<s.size:=by omega
 rw[Jl s h] at hall |-
 simp only[XK]
 rw[hall,Bool.and_false]
theorem Di(s:ByteArray)(h:0<s.size)(h45:s[0]=45):rNum s.data.toList=XK (s.extract 1 s.size).data.toList:=by
 have e:(s.extract 1 s.size).data.toList=s.data.toList.tail:=by rw[Lib.extract_to_end,List.drop_one]
 rw[e]
 unfold rNum
 rw[Jl s h,h45];simp
theorem KY(s:ByteArray)(h1:(s.toList==[48])=false)(h45:∀h:0<s.size,s[0]≠45):rNum s.data.toList=XK s.data.toList:=by
 unfold rNum
 have h1':s.data.toList≠[48]:=by rw[<-Lib.toList_data];simpa using h1
 rw[if_neg h1']
 by_cases h:0<s.size
 ·have h2:=h45 h
  rw[Jl s h];simp[h2]
 ·have:=JT s (by omega)
  rw[Lib.toList_data] at this
  rw[this];rfl
theorem RZ(s:ByteArray)(h0:(s.toList==[48])=true)(w:World):
 Calls Tryz.prog 74 #[.string s] w fun e w'=>e= .returned (.bool true)/\Drew w w':=by
 go_enter Tryz.func74,Tryz.ntmps74
 go_wp2_with fail
 go_ret
 exact⟨rfl,Drew.refl _⟩
theorem Lv(s:ByteArray)(h0:(s.toList==[48])=false)(hs:0<s.size)(hm:((s[0].toNat:Int)==45)=true)(h1:s.size-1=0)(w:World):
 Calls Tryz.prog 74 #[.string s] w fun e w'=>e= .returned (.bool false)/\Drew w w':=by
 go_enter Tryz.func74,Tryz.ntmps74
 go_wp2_with fail
 go_ret
 exact⟨rfl,Drew.refl _⟩
theorem Lu(s:ByteArray)(h0:(s.toList==[48])=false)(hs:0<s.size)(hm:((s[0].toNat:Int)==45)=true)(_h1:¬s.size-1=0)(_h2:0<s.size-1)(_h3:(((s.size-1:Nat):Int)==0)=false)(_h4:((((s.extract 1 s.size)[0]'(by simp;omega)).toNat:Int)==48)=true)(w:World):
 Calls Tryz.prog 74 #[.string s] w fun e w'=>e= .returned (.bool false)/\Drew w w':=by
 go_enter Tryz.func74,Tryz.ntmps74
 go_wp2_with fail
 go_ret
 exact⟨rfl,Drew.refl _⟩
theorem Ls(s:ByteArray)(h0:(s.toList==[48])=false)(hs:s.size=0)(w:World):
 Calls Tryz.prog 74 #[.string s] w fun e w'=>e= .returned (.bool false)/\Drew w w':=by
 go_enter Tryz.func74,Tryz.ntmps74
 go_wp2_with fail
 go_ret
 exact⟨rfl,Drew.refl _⟩
theorem Lr(s:ByteArray)(h0:(s.toList==[48])=false)(hs:0<s.size)(hm:((s[0].toNat:Int)==45)=false)(_h3:((s.size:Int)==0)=false)(_h4:((s[0].toNat:Int)==48)=true)(w:World):
 Calls Tryz.prog 74 #[.string s] w fun e w'=>e= .returned (.bool false)/\Drew w w':=by
 go_enter Tryz.func74,Tryz.ntmps74
 go_wp2_with fail
 go_ret
 exact⟨rfl,Drew.refl _⟩
theorem Lt(s:ByteArray)(hsz:s.size<=9223372036854775807)(h0:(s.toList==[48])=false)(hs:0<s.size)(hm:((s[0].toNat:Int)==45)=true)(_h1:¬s.size-1=0)(_h2:0<s.size-1)(_h3:(((s.size-1:Nat):Int)==0)=false)(_h4:((((s.extract 1 s.size)[0]'(by simp;omega)).toNat:Int)==48)=false)(h48:Hid ((s.extract 1 s.size)[0]'(by simp;omega)≠48))(w:World):
 Calls Tryz.prog 74 #[.string s] w fun e w'=>e= .returned (.bool (XK (s.extract 1 s.size).data.toList))/\Drew w w':=by
 have hS:(s.extract 1 s.size).size=s.size-1:=by simp
 have HS:=hid hS
 clear hS
 go_enter Tryz.func74,Tryz.ntmps74
 go_wp2_with fail
 go_loopw [3] (fun n wr=>∃k:Nat,k<=s.size-1/\n= .int .i64 k/\Zy (s.extract 1 s.size) k/\Drew w wr) (fun n _=>s.size-1-(intOf n).toNat)
 case atStart=>exact⟨0,by omega,rfl,fun j _ h=>by omega,Drew.refl _⟩
 case round=>
  obtain⟨k,hk,rfl,ha,hdr⟩:=hrel
  by_cases hlt:k<s.size-1
  ·have hk0:(0:Int)<=(k:Int):=Int.natCast_nonneg _
   have hk3:(k:Int)<((s.size-1:Nat):Int):=by omega
   have hlt':k<(s.extract 1 s.size).size:=by rw[HS.out];exact hlt
   by_cases hd:Lx.digB (((s.extract 1 s.size)[k]'hlt').toNat:Int)=true
   ·have hnext:Zy (s.extract 1 s.size) (k+1):=fun j hj h=>by
     by_cases e:j=k
     ·subst e;exact hd
     ·exact ha j hj (by omega)
    go_wp2_with fail
    go_quiet (first|(go_at_call 104;exact Calls.quiet_of_same (JV _))|(go_at_call 42;exact Calls.quiet_of_same (Vw _ _)))
    go_wp2_with fail
    go_roundw
    case rel=>exact⟨k+1,by omega,by go_num,hnext,hdr.more _⟩
    case measure=>simp[intOf];omega
   ·have hd':Lx.digB (((s.extract 1 s.size)[k]'hlt').toNat:Int)=false:=by simpa using hd
    have HR:=hid (Kl (s.extract 1 s.size) k hlt' hd')
    clear hd
    go_wp2_with fail
    go_quiet (first|(go_at_call 104;exact Calls.quiet_of_same (JV _))|(go_at_call 42;exact Calls.quiet_of_same (Vw _ _)))
    go_wp2
    go_ret
    exact⟨Qm HR.out.symm,hdr.more _⟩
  ·have ha':Zy (s.extract 1 s.size) (s.extract 1 s.size).size:=by
    have e:k=s.size-1:=by omega
    rw[HS.out,<-e];exact ha
   have HR:=hid (KU (s.extract 1 s.size) (by rw[HS.out];omega) h48.out ha')
   go_wp2
   go_ret
   exact⟨Qm HR.out.symm,hdr⟩
theorem Lq(s:ByteArray)(hsz:s.size<=9223372036854775807)(h0:(s.toList==[48])=false)(hs:0<s.size)(hm:((s[0].toNat:Int)==45)=false)(_h3:((s.size:Int)==0)=false)(_h4:((s[0].toNat:Int)==48)=false)(h48:Hid (s[0]≠48))(w:World):
 Calls Tryz.prog 74 #[.string s] w fun e w'=>e= .returned (.bool (XK s.data.toList))/\Drew w w':=by
 go_enter Tryz.func74,Tryz.ntmps74
 go_wp2_with fail
 go_loopw [3] (fun n wr=>∃k:Nat,k<=s.size/\n= .int .i64 k/\Zy (s) k/\Drew w wr) (fun n _=>s.size-(intOf n).toNat)
 case atStart=>exact⟨0,by omega,rfl,fun j _ h=>by omega,Drew.refl _⟩
 case round=>
  obtain⟨k,hk,rfl,ha,hdr⟩:=hrel
  by_cases hlt:k<s.size
  ·have hk0:(0:Int)<=(k:Int):=Int.natCast_nonneg _
   have hk3:(k:Int)<((s.size:Nat):Int):=by omega
   have hlt':k<s.size:=hlt
   by_cases hd:Lx.digB ((s[k]'hlt').toNat:Int)=true
   ·have hnext:Zy (s) (k+1):=fun j hj h=>by
     by_cases e:j=k
     ·subst e;exact hd
     ·exact ha j hj (by omega)
    go_wp2_with fail
    go_quiet (first|(go_at_call 104;exact Calls.quiet_of_same (JV _))|(go_at_call 42;exact Calls.quiet_of_same (Vw _ _)))
    go_wp2_with fail
    go_roundw
    case rel=>exact⟨k+1,by omega,by go_num,hnext,hdr.more _⟩
    case measure=>simp[intOf];omega
   ·have hd':Lx.digB ((s[k]'hlt').toNat:Int)=false:=by simpa using hd
    have HR:=hid (Kl (s) k hlt' hd')
    clear hd
    go_wp2_with fail
    go_quiet (first|(go_at_call 104;exact Calls.quiet_of_same (JV _))|(go_at_call 42;exact Calls.quiet_of_same (Vw _ _)))
    go_wp2
    go_ret
    exact⟨Qm HR.out.symm,hdr.more _⟩
  ·have ha':Zy s s.size:=by
    have e:k=s.size:=by omega
    rw[<-e];exact ha
   have HR:=hid (KU s (by omega) h48.out ha')
   go_wp2
   go_ret
   exact⟨Qm HR.out.symm,hdr⟩
theorem WV(s:ByteArray)(hs:s.size<=9223372036854775807)(w:World):
 Calls Tryz.prog 74 #[.string s] w fun e w'=>e= .returned (.bool (rNum s.data.toList))/\Drew w w':=by
 have b48:∀c:UInt8,c≠48->((c.toNat:Int)==48)=false:=fun c h=>by
  rw[beq_eq_false_iff_ne];intro e;apply h;apply UInt8.toNat_inj.1;have:(48:UInt8).toNat=48:=rfl;omega
 cases hz:(s.toList==[48]) with
 |true=>
  refine(RZ s hz w).mono ?_
  rintro e w'⟨rfl,h⟩
  refine⟨Qm ?_,h⟩
  unfold rNum;rw[if_pos (by rw[<-Lib.toList_data];simpa using hz)]
 |false=>
  by_cases h0:0<s.size
  ·by_cases h45:s[0]=45
   ·have hm:((s[0].toNat:Int)==45)=true:=by rw[h45];rfl
    rw[Di s h0 h45]
    by_cases h1:s.size-1=0
    ·refine(Lv s hz h0 hm h1 w).mono ?_
     rintro e w'⟨rfl,h⟩
     exact⟨Qm (NA _ (by rw[ByteArray.size_extract];omega)).symm,h⟩
    ·have h2:0<s.size-1:=by omega
     have h3:(((s.size-1:Nat):Int)==0)=false:=by rw[beq_eq_false_iff_ne];omega
     have hz2:0<(s.extract 1 s.size).size:=by rw[ByteArray.size_extract];omega
     by_cases h48:(s.extract 1 s.size)[0]'hz2=48
     ·refine(Lu s hz h0 hm h1 h2 h3 (by rw[h48];rfl) w).mono ?_
      rintro e w'⟨rfl,h⟩
      exact⟨Qm (Kk _ hz2 h48).symm,h⟩
     ·exact Lt s hs hz h0 hm h1 h2 h3 (b48 _ h48) (hid h48) w
   ·have hm:((s[0].toNat:Int)==45)=false:=by
     rw[beq_eq_false_iff_ne];intro e;apply h45;apply UInt8.toNat_inj.1;have:(45:UInt8).toNat=45:=rfl;omega
    have h3:((s.size:Int)==0)=false:=by rw[beq_eq_false_iff_ne];omega
    rw[KY s hz (fun _=>h45)]
    by_cases h48:s[0]=48
    ·refine(Lr s hz h0 hm h3 (by rw[h48];rfl) w).mono ?_
     rintro e w'⟨rfl,h⟩
     exact⟨Qm (Kk _ h0 h48).symm,h⟩
    ·exact Lq s hs hz h0 hm h3 (b48 _ h48) (hid h48) w
  ·refine(Ls s hz (by omega) w).mono ?_
   rintro e w'⟨rfl,h⟩
   rw[KY s hz (fun h=>absurd h h0)]
   exact⟨Qm (NA _ (by omega)).symm,h⟩
def FJ:List UInt8->Bool
 |[c]=>Lx.isSign c
 |_=>false
def JF(l:List UInt8):Nat:=if JE l then 1 else if rNum l then 2 else if FJ l then 3 else 0
theorem YL(s:ByteArray)(hs:s.size<=9223372036854775807)(b:Bool)(h:Hid (JE s.data.toList=b))(w:World):
 Calls Tryz.prog 73 #[.string s] w fun e w'=>e= .returned (.bool b)/\Drew w w':=by
 have:=US s hs w
 rw[h.out] at this;exact this
theorem Hy(s:ByteArray)(hs:s.size<=9223372036854775807)(b:Bool)(h:Hid (rNum s.data.toList=b))(w:World):
 Calls Tryz.prog 74 #[.string s] w fun e w'=>e= .returned (.bool b)/\Drew w w':=by
 have:=WV s hs w
 rw[h.out] at this;exact this
theorem TT(s:ByteArray)(hs:Hid (s.size<=9223372036854775807))(h1:Hid (JE s.data.toList=true))(w:World):
 Calls Tryz.prog 44 #[.string s] w fun e w'=>e= .returned (.int .i64 1)/\Drew w w':=by
 go_enter Tryz.func44,Tryz.ntmps44
 go_wp2_with (go_at_call 73;refine(YL s hs.out _ h1 _).mono ?_;rintro e w'⟨rfl,hd1⟩)
 go_ret
 exact⟨rfl,hd1⟩
theorem SB(s:ByteArray)(hs:Hid (s.size<=9223372036854775807))(h1:Hid (JE s.data.toList=false))(h2:Hid (rNum s.data.toList=true))(w:World):
 Calls Tryz.prog 44 #[.string s] w fun e w'=>e= .returned (.int .i64 2)/\Drew w w':=by
 go_enter Tryz.func44,Tryz.ntmps44
 go_wp2_with (first|(go_at_call 73;refine(YL s hs.out _ h1 _).mono ?_;rintro e w'⟨rfl,hd1⟩)|(go_at_call 74;refine(Hy s hs.out _ h2 _).mono ?_;rintro e w'⟨rfl,hd2⟩))
 go_ret
 exact⟨rfl,hd1.trans hd2⟩
theorem TU(s:ByteArray)(hs:Hid (s.size<=9223372036854775807))(h1:Hid (JE s.data.toList=false))(h2:Hid (rNum s.data.toList=false))(h3:((s.size:Int)==1)=false)(w:World):
 Calls Tryz.prog 44 #[.string s] w fun e w'=>e= .returned iZ/\Drew w w':=by
 go_enter Tryz.func44,Tryz.ntmps44
 go_wp2_with (first|(go_at_call 73;refine(YL s hs.out _ h1 _).mono ?_;rintro e w'⟨rfl,hd1⟩)|(go_at_call 74;refine(Hy s hs.out _ h2 _).mono ?_;rintro e w'⟨rfl,hd2⟩))
 go_ret
 exact⟨rfl,hd1.trans hd2⟩
theorem SA(s:ByteArray)(hs:Hid (s.size<=9223372036854775807))(h1:Hid (JE s.data.toList=false))(h2:Hid (rNum s.data.toList=false))(h3:((s.size:Int)==1)=true)(h0:0<s.size)(b:Bool)(hb:Lx.isSign s[0]=b)(w:World):
 Calls Tryz.prog 44 #[.string s] w fun e w'=>e= .returned (.int .i64 (if b then 3 else 0))/\Drew w w':=by
 go_enter Tryz.func44,Tryz.ntmps44
 go_wp2_with (first|(go_at_call 73;refine(YL s hs.out _ h1 _).mono ?_;rintro e w'⟨rfl,hd1⟩)|(go_at_call 74;refine(Hy s hs.out _ h2 _).mono ?_;rintro e w'⟨rfl,hd2⟩)|(go_at_call 42;refine(SE _ _).mono ?_;rintro e w'⟨rfl,rfl⟩))
 all_goals (go_ret;exact⟨rfl,hd1.trans hd2⟩)
theorem LR(s:ByteArray)(h:s.size=1)(h0:0<s.size):s.data.toList=[s[0]]:=by
 rw[Jl s h0]
 have:s.data.toList.tail.length=0:=by rw[List.length_tail];show s.size-1=0;omega
 rw[List.eq_nil_of_length_eq_zero this]
theorem KW(l:List UInt8)(h:l.length≠1):FJ l=false:=by
 match l,h with
 |[],_=>rfl
 |[_],h=>exact absurd rfl h
 |_::_::_,_=>rfl
theorem SD(s:ByteArray)(hs:s.size<=9223372036854775807)(w:World):
 Calls Tryz.prog 44 #[.string s] w fun e w'=>e= .returned (.int .i64 (JF s.data.toList))/\Drew w w':=by
 cases h1:JE s.data.toList with
 |true=>
  have hk:JF s.data.toList=1:=by unfold JF;rw[if_pos h1]
  rw[hk];exact TT s (hid hs) (hid h1) w
 |false=>
  cases h2:rNum s.data.toList with
  |true=>
   have hk:JF s.data.toList=2:=by unfold JF;rw[if_neg (by simp[h1]),if_pos h2]
   rw[hk];exact SB s (hid hs) (hid h1) (hid h2) w
  |false=>
   by_cases h3:s.size=1
   ·have h0:0<s.size:=by omega
    have hk:JF s.data.toList=if Lx.isSign s[0] then 3 else 0:=by unfold JF;rw[if_neg (by simp[h1]),if_neg (by simp[h2]),LR s h3 h0];rfl
    rw[hk]
    refine(SA s (hid hs) (hid h1) (hid h2) (by rw[beq_iff_eq];omega) h0 _ rfl w).mono ?_
    rintro e w'⟨rfl,h⟩
    refine⟨?_,h⟩
    split <;> rfl
   ·have hk:JF s.data.toList=0:=by unfold JF;rw[if_neg (by simp[h1]),if_neg (by simp[h2]),KW _ (by exact h3)];rfl
    rw[hk];exact TU s (hid hs) (hid h1) (hid h2) (by rw[beq_eq_false_iff_ne];omega) w
end Go.Proofs.YtmnbheplkidfaaaGreatDoor.Tok
namespace Go.Proofs.YtmnbheplkidfaaaGreatDoor.Tok
open Go.RowKit Go.Shelf Go.Deep
theorem Yk(p:UInt8->Bool):∀(l:List UInt8) (k:Nat),k<=l.length->(l.take k).all p=decide (k<=Lx.span p l)
 |_,0,_=>by simp
 |[],k+1,h=>by simp at h
 |c::r,k+1,h=>by
  rw[List.take_succ_cons,List.all_cons,Lx.span_cons]
  by_cases hc:p c=true
  ·rw[hc,if_pos rfl,Bool.true_and,Yk p r k (by simpa using h)]
   rw[decide_eq_decide];omega
  ·have hc':p c=false:=by simpa using hc
   rw[hc',Bool.false_and,if_neg (by simp)];simp
theorem SN(c:UInt8):(!Lx.letU c||(!Lx.digU c&&c != 48&&c != 45))=true:=
 Zd (p:=fun c=>(!Lx.letU c||(!Lx.digU c&&c != 48&&c != 45))) (q:=fun _=>true) (by decide+kernel) c
theorem LQ{c:UInt8}(h:Lx.letU c=true):Lx.digU c=false/\c≠48/\c≠45:=by
 have:=SN c
 rw[h] at this;simpa [and_assoc] using this
theorem Yz(c:UInt8)(r:List UInt8)(i:Nat)(hi:i<=r.length):JE (c::r.take i)=(Lx.letU c&&decide (i<=Lx.span Lx.wcU r)):=by
 simp only[JE];rw[Yk _ _ _ hi]
theorem Gn(r:List UInt8)(i:Nat)(hi:i<=r.length):rNum (48::r.take i)=decide (i=0):=by
 cases i with
 |zero=>rw[List.take_zero];rfl
 |succ i=>
  cases r with
  |nil=>simp at hi
  |cons d r'=>
   rw[List.take_succ_cons]
   unfold rNum
   rw[if_neg (by simp),if_neg (by simp)];simp[XK]
theorem Km(d:UInt8)(r:List UInt8)(i:Nat)(hi:i<=r.length):rNum (45::d::r.take i)=(d != 48&&(Lx.digU d&&decide (i<=Lx.span Lx.digU r))):=by
 unfold rNum
 rw[if_neg (by simp),if_pos (by simp)]
 simp only[List.tail_cons,XK,List.all_cons]
 rw[Yk _ _ _ hi]
theorem YQ:rNum [45]=false:=by decide
theorem UT(c:UInt8)(h48:c≠48)(h45:c≠45)(r:List UInt8)(i:Nat)(hi:i<=r.length):rNum (c::r.take i)=(Lx.digU c&&decide (i<=Lx.span Lx.digU r)):=by
 unfold rNum
 rw[if_neg (by simp[h48]),if_neg (by simp[h45])]
 simp only[XK,List.all_cons]
 rw[Yk _ _ _ hi];simp[h48]
theorem YA(c:UInt8)(r:List UInt8)(i:Nat)(hi:i<=r.length):FJ (c::r.take i)=(Lx.isSign c&&decide (i=0)):=by
 cases i with
 |zero=>simp[FJ]
 |succ i=>
  rw[KW _ (by rw[List.length_cons,List.length_take];omega)];simp
def tl(l:List UInt8):Nat:=
 if 0<Lx.wordLen l then Lx.wordLen l else if 0<Lx.numberLen l then Lx.numberLen l else match l with
  |[]=>0
  |c::_=>if Lx.isSign c then 1 else 0
def tk(l:List UInt8):Nat:=
 if 0<Lx.wordLen l then 1 else if 0<Lx.numberLen l then 2 else match l with
  |[]=>0
  |c::_=>if Lx.isSign c then 3 else 0
structure Long(l:List UInt8):Prop where
 le:tl l<=l.length
 more:∀i,2<=i->i<=tl l->0<JF (l.take i)
 one:tl l=1->0<JF (l.take 1)
 stop:tl l+1<=l.length->JF (l.take (tl l+1))=0
 none:tl l=0->2<=l.length->JF (l.take 2)=0
 kind:0<tl l->JF (l.take (tl l))=tk l
theorem Lw{l:List UInt8}(h:JE l=true):JF l=1:=by unfold JF;rw[if_pos h]
theorem Ep{l:List UInt8}(h:JE l=false)(h2:rNum l=true):JF l=2:=by unfold JF;rw[if_neg (by simp[h]),if_pos h2]
theorem Ly{l:List UInt8}(h:JE l=false)(h2:rNum l=false)(h3:FJ l=true):JF l=3:=by unfold JF;rw[if_neg (by simp[h]),if_neg (by simp[h2]),if_pos h3]
theorem MA{l:List UInt8}(h:JE l=false)(h2:rNum l=false)(h3:FJ l=false):JF l=0:=by unfold JF;rw[if_neg (by simp[h]),if_neg (by simp[h2]),if_neg (by simp[h3])]
theorem TS(c:UInt8)(r:List UInt8)(h:Lx.letU c=true):Long (c::r):=by
 have hw:Lx.wordLen (c::r)=1+Lx.span Lx.wcU r:=by simp only[Lx.wordLen];rw[if_pos h]
 have ht:tl (c::r)=1+Lx.span Lx.wcU r:=by unfold tl;rw[hw,if_pos (by omega)]
 have hk:tk (c::r)=1:=by unfold tk;rw[hw,if_pos (by omega)]
 have hsp:=Lx.span_le Lx.wcU r
 have hyes:∀i,i<=Lx.span Lx.wcU r->JF ((c::r).take (i+1))=1:=fun i hi=>by
  rw[List.take_succ_cons];apply Lw;rw[Yz _ _ _ (by omega),h,decide_eq_true hi];rfl
 obtain⟨n1,n2,n3⟩:=LQ h
 refine⟨?_,?_,?_,?_,?_,?_⟩
 ·rw[ht];simp;omega
 ·intro i h2 h3
  rw[ht] at h3
  have:=hyes (i-1) (by omega)
  rw[show i-1+1=i by omega] at this;omega
 ·intro _;have:JF ((c::r).take 1)=1:=hyes 0 (by omega)
  omega
 ·intro h4
  rw[ht,Nat.add_comm 1] at h4 |-
  simp at h4
  rw[List.take_succ_cons]
  refine MA ?_ ?_ ?_
  ·rw[Yz _ _ _ (by omega),decide_eq_false (by omega),Bool.and_false]
  ·rw[UT c n2 n3 _ _ (by omega),n1,Bool.false_and]
  ·rw[YA _ _ _ (by omega),decide_eq_false (by omega),Bool.and_false]
 ·intro h0;rw[ht] at h0;omega
 ·intro _;rw[ht,hk,Nat.add_comm 1];exact hyes _ lR
theorem MU(c:UInt8)(r:List UInt8)(h:Lx.letU c=false)(m b:Nat)(hb:b<=1)(hbm:b<m)(hm:Lx.numberLen (c::r)=m)
 (hn:∀i,i<=r.length->rNum (c::r.take i)=decide (b<=i/\i+1<=m)):Long (c::r):=by
 have hw:Lx.wordLen (c::r)=0:=by simp only[Lx.wordLen];rw[if_neg (by simp[h])]
 have ht:tl (c::r)=m:=by unfold tl;rw[hw,hm,if_neg (by omega),if_pos (by omega)]
 have hk:tk (c::r)=2:=by unfold tk;rw[hw,hm,if_neg (by omega),if_pos (by omega)]
 have hle:=Lx.numberLen_le (c::r)
 rw[hm] at hle
 simp at hle
 have hyes:∀i,i<=r.length->b<=i->i+1<=m->JF ((c::r).take (i+1))=2:=fun i h1 h2 h3=>by
  rw[List.take_succ_cons];apply Ep
  ·rw[Yz _ _ _ h1,h,Bool.false_and]
  ·rw[hn i h1,decide_eq_true ⟨h2,h3⟩]
 refine⟨?_,?_,?_,?_,?_,?_⟩
 ·rw[ht];simpa using hle
 ·intro i h2 h3
  rw[ht] at h3
  have:=hyes (i-1) (by omega) (by omega) (by omega)
  rw[show i-1+1=i by omega] at this;omega
 ·intro h1;rw[ht] at h1;have:JF ((c::r).take 1)=2:=hyes 0 (by omega) (by omega) (by omega)
  omega
 ·intro h4
  rw[ht] at h4 |-
  simp at h4
  rw[List.take_succ_cons]
  refine MA ?_ ?_ ?_
  ·rw[Yz _ _ _ (by omega),h,Bool.false_and]
  ·rw[hn _ (by omega),decide_eq_false (by omega)]
  ·rw[YA _ _ _ (by omega),decide_eq_false (by omega),Bool.and_false]
 ·intro h0;rw[ht] at h0;omega
 ·intro _;rw[ht,hk]
  have:=hyes (m-1) (by omega) (by omega) (by omega)
  rw[show m-1+1=m by omega] at this;exact this
theorem Kb(c:UInt8)(r:List UInt8)(h:Lx.letU c=false)(hm:Lx.numberLen (c::r)=0)
 (hn:∀i,i<=r.length->i<=1->rNum (c::r.take i)=false):Long (c::r):=by
 have hw:Lx.wordLen (c::r)=0:=by simp only[Lx.wordLen];rw[if_neg (by simp[h])]
 have ht:tl (c::r)=if Lx.isSign c then 1 else 0:=by unfold tl;rw[hw,hm,if_neg (by omega),if_neg (by omega)]
 have hk:tk (c::r)=if Lx.isSign c then 3 else 0:=by unfold tk;rw[hw,hm,if_neg (by omega),if_neg (by omega)]
 have hno:∀i,i<=r.length->JE (c::r.take i)=false:=fun i hi=>by rw[Yz _ _ _ hi,h,Bool.false_and]
 have h2:1<=r.length->JF ((c::r).take 2)=0:=fun h1=>by
  rw[List.take_succ_cons]
  refine MA (hno _ h1) (hn _ h1 (by omega)) ?_
  rw[YA _ _ _ h1];simp
 cases hs:Lx.isSign c with
 |true=>
  rw[hs,if_pos rfl] at ht hk
  have h1:JF ((c::r).take 1)=3:=by
   rw[List.take_succ_cons]
   refine Ly (hno _ (by omega)) (hn _ (by omega) (by omega)) ?_
   rw[YA _ _ _ (by omega),hs];rfl
  refine⟨by rw[ht];simp,fun i h2 h3=>by omega,fun _=>by omega,fun h4=>?_,fun h4=>by omega,fun _=>by rw[ht,hk];exact h1⟩
  rw[ht] at h4 |-;exact h2 (by simpa using h4)
 |false=>
  rw[hs] at ht hk
  simp only[Bool.false_eq_true,if_false] at ht hk
  have h1:JF ((c::r).take 1)=0:=by
   rw[List.take_succ_cons]
   refine MA (hno _ (by omega)) (hn _ (by omega) (by omega)) ?_
   rw[YA _ _ _ (by omega),hs];rfl
  refine⟨by rw[ht];simp,fun i h2 h3=>by omega,fun _=>by omega,fun h4=>by rw[ht];exact h1,fun _ h4=>h2 (by simpa using h4),fun h4=>by omega⟩
theorem Fy:∀l:List UInt8,l≠[]->Long l
 |[],h=>absurd rfl h
 |c::r,_=>by
  cases hl:Lx.letU c with
  |true=>exact TS c r hl
  |false=>
   by_cases h48:c=48
   ·subst h48
    refine MU 48 r hl 1 0 (by omega) (by omega) (by simp[Lx.numberLen]) (fun i hi=>?_)
    rw[Gn _ _ hi,decide_eq_decide];omega
   ·by_cases h45:c=45
    ·subst h45
     cases r with
     |nil=>exact Kb 45 [] hl (by simp[Lx.numberLen]) (fun i hi _=>by rw[List.take_nil];exact YQ)
     |cons d r'=>
      by_cases hd:d≠48/\Lx.digU d=true
      ·have hm:Lx.numberLen (45::d::r')=2+Lx.span Lx.digU r':=by
        simp only[Lx.numberLen]
        rw[if_neg (by decide),if_pos trivial,if_neg hd.1,if_pos hd.2,Lx.span_cons,if_pos hd.2];omega
       refine MU 45 (d::r') hl _ 1 (by omega) (by omega) hm (fun i hi=>?_)
       cases i with
       |zero=>rw[List.take_zero,YQ];symm;rw[decide_eq_false_iff_not];omega
       |succ i=>
        rw[List.take_succ_cons,Km _ _ _ (by simpa using hi),hd.2]
        have:(d != 48)=true:=by simpa using hd.1
        rw[this,Bool.true_and,Bool.true_and,decide_eq_decide];omega
      ·have hd':d=48\/Lx.digU d=false:=by
        by_cases e:d=48
        ·exact .inl e
        ·right;have:=fun x=>hd ⟨e,x⟩;simpa using this
       have hm:Lx.numberLen (45::d::r')=0:=by
        simp only[Lx.numberLen]
        rw[if_neg (by decide),if_pos trivial]
        rcases hd' with e|e
        ·rw[if_pos e]
        ·by_cases h0:d=48
         ·rw[if_pos h0]
         ·rw[if_neg h0,if_neg (by simp[e])]
       refine Kb 45 (d::r') hl hm (fun i hi h1=>?_)
       cases i with
       |zero=>rw[List.take_zero];exact YQ
       |succ i=>
        rw[List.take_succ_cons,Km _ _ _ (by simpa using hi)]
        rcases hd' with e|e
        ·subst e;rfl
        ·rw[e,Bool.false_and,Bool.and_false]
    ·cases hd:Lx.digU c with
     |true=>
      have hm:Lx.numberLen (c::r)=1+Lx.span Lx.digU r:=by
       simp only[Lx.numberLen]
       rw[if_neg h48,if_neg h45,if_pos hd]
      refine MU c r hl _ 0 (by omega) (by omega) hm (fun i hi=>?_)
      rw[UT c h48 h45 _ _ hi,hd,Bool.true_and,decide_eq_decide];omega
     |false=>
      refine Kb c r hl ?_ (fun i hi _=>?_)
      ·simp only[Lx.numberLen]
       rw[if_neg h48,if_neg h45,if_neg (by simp[hd])]
      ·rw[UT c h48 h45 _ _ hi,hd,Bool.false_and]
end Go.Proofs.YtmnbheplkidfaaaGreatDoor.Tok
namespace Go.Proofs.YtmnbheplkidfaaaGreatDoor.Tok
open Go.Lib (hid)
open Go.RowKit Go.Shelf Go.Deep
theorem Hx(s:ByteArray)(a k:Nat):(s.extract a k).data.toList=(s.data.toList.drop a).take (k-a):=by
 rw[<-Lib.toList_data,Lib.extract_toList]
theorem MF(s:ByteArray)(hs:Hid (s.size<=9223372036854775807))(a k m:Nat)(h:Hid (JF ((s.data.toList.drop a).take (k-a))=m))(w:World):
 Calls Tryz.prog 44 #[.string (s.extract a k)] w fun e w'=>e= .returned (.int .i64 (m:Int))/\Drew w w':=by
 have h1:=hs.out
 have:=SD (s.extract a k) (by rw[ByteArray.size_extract];omega) w
 rw[Hx,h.out] at this;exact this
def UG(l:List UInt8)(j e:Nat):Prop:=e=j/\j<=tl l\/j=1/\e=0/\JF (l.take 1)=0
theorem DU{l:List UInt8}(L:Long l){j e:Nat}(h:UG l j e)(hj:j+1<=l.length)(hk:0<JF (l.take (j+1))):UG l (j+1) (j+1):=by
 rcases h with⟨rfl,h⟩|⟨rfl,rfl,h⟩
 ·left
  refine⟨rfl,?_⟩
  by_cases e0:e=tl l
  ·subst e0;have:=L.stop hj;omega
  ·omega
 ·left
  refine⟨rfl,?_⟩
  by_cases h0:tl l=0
  ·have:JF (l.take (1+1))=0:=L.none h0 hj
   omega
  ·by_cases h1:tl l=1
   ·have:=L.one h1;omega
   ·omega
theorem Hp{l:List UInt8}{e:Nat}(h:UG l 0 e)(hk:JF (l.take (0+1))=0):UG l 1 e:=by
 rcases h with⟨rfl,h⟩|⟨h,_⟩
 ·exact .inr ⟨rfl,rfl,hk⟩
 ·cases h
theorem GH{l:List UInt8}(L:Long l){j e:Nat}(h:UG l j e)(hj:1<=j)(hk:JF (l.take (j+1))=0):e=tl l:=by
 rcases h with⟨rfl,h⟩|⟨rfl,rfl,h⟩
 ·by_cases e0:e=tl l
  ·exact e0
  ·have:=L.more (e+1) (by omega) (by omega);omega
 ·by_cases h0:tl l=0
  ·exact h0.symm
  ·by_cases h1:tl l=1
   ·have:=L.one h1;omega
   ·have:=L.more (1+1) (by omega) (by omega);omega
theorem DV{l:List UInt8}(L:Long l){j e:Nat}(h:UG l j e)(hj:l.length=j):e=tl l:=by
 have hle:=L.le
 rcases h with⟨rfl,h⟩|⟨rfl,rfl,h⟩
 ·omega
 ·by_cases h1:tl l=1
  ·have:=L.one h1;omega
  ·omega
theorem Ku(s:ByteArray)(hs:s.size<=281474976710656)(a:Nat)(ha:a<s.size)(w:World):
 Calls Tryz.prog 43 #[.string s,.int .i64 a] w fun e w'=>e= .returned (.int .i64 ((a+tl (s.data.toList.drop a):Nat):Int))/\Drew w w':=by
 have hS:Hid (s.size<=9223372036854775807):=hid (by omega)
 have hlen:(s.data.toList.drop a).length=s.size-a:=by rw[List.length_drop];rfl
 have L:=hid (Fy (s.data.toList.drop a) (fun h=>by rw[h] at hlen;simp at hlen;omega))
 have HL:=hid hlen
 clear hlen
 obtain⟨l,hl⟩:∃l,s.data.toList.drop a=l:=⟨_,rfl⟩
 have kd:=fun(k m:Nat) (h:Hid (JF (l.take (k-a))=m)) (w:World)=>MF s hS a k m (by rw[hl];exact h) w
 rw[hl] at L HL |-
 clear hl
 go_enter Tryz.func43,Tryz.ntmps43
 go_wp2_with fail
 go_loopw [5,6] (fun en n wr=>∃j e:Nat,a+j<=s.size/\en= .int .i64 ((a+e:Nat):Int)/\a+e<=s.size/\n= .int .i64 ((a+j+1:Nat):Int)/\Hid (UG l j e)/\Drew w wr) (fun _ n _=>s.size+1-(intOf n).toNat)
 case atStart=>exact⟨0,0,by omega,rfl,by omega,by go_num,hid (.inl ⟨rfl,Nat.zero_le _⟩),(Drew.refl _)⟩
 case round=>
  obtain⟨j,e,hj,rfl,he,rfl,hlk,hdr⟩:=hrel
  by_cases hlt:a+j<s.size
  ·have hk0:(0:Int)<=((a+j+1:Nat):Int):=Int.natCast_nonneg _
   have hk3:((a+j+1:Nat):Int)<=(s.size:Int):=by omega
   obtain⟨m,hm⟩:∃m,Hid (JF (l.take (a+j+1-a))=m):=⟨_,hid rfl⟩
   have hm':Hid (JF (l.take (j+1))=m):=hid (by have:=hm.out;rw[show a+j+1-a=j+1 by omega] at this;exact this)
   by_cases hm0:0<m
   ·have hmd:decide ((0:Int)<(m:Int))=true:=by simp;omega
    go_wp2_with (go_at_call 44;refine(kd (a+j+1) m hm _).mono ?_;rintro e w'⟨rfl,hd1⟩)
    go_roundw
    case rel=>exact⟨j+1,j+1,by omega,by go_num,by omega,by go_num,hid (DU L.out hlk.out (by rw[HL.out];omega) (by rw[hm'.out];exact hm0)),hdr.trans hd1⟩
    case measure=>simp[intOf];omega
   ·obtain rfl:m=0:=by omega
    by_cases hj0:j=0
    ·subst hj0
     go_wp2_with (go_at_call 44;refine(kd (a+0+1) 0 hm _).mono ?_;rintro e w'⟨rfl,hd1⟩)
     go_roundw
     case rel=>exact⟨1,e,by omega,by go_num,by omega,by go_num,hid (Hp hlk.out hm'.out),hdr.trans hd1⟩
     case measure=>simp[intOf];omega
    ·have hjd:decide ((a:Int)+1<((a+j+1:Nat):Int))=true:=by simp;omega
     obtain rfl:=GH L.out hlk.out (by omega) hm'.out
     go_wp2_with (go_at_call 44;refine(kd (a+j+1) 0 hm _).mono ?_;rintro e w'⟨rfl,hd1⟩)
     go_ret
     exact⟨rfl,hdr.trans hd1⟩
  ·obtain rfl:=DV L.out hlk.out (by rw[HL.out];omega)
   go_wp2_with fail
   go_ret
   exact⟨rfl,hdr⟩
end Go.Proofs.YtmnbheplkidfaaaGreatDoor.Tok
namespace Go.Proofs.YtmnbheplkidfaaaGreatDoor.Tok
open Go.RowKit Go.Shelf Go.Deep
theorem MV(p:UInt8->Bool)(l:List UInt8):l.all p=decide (Lx.span p l=l.length):=by
 have h:=Yk p l l.length lR
 rw[List.take_length] at h
 rw[h,decide_eq_decide]
 have:=Lx.span_le p l
 omega
theorem Kj(s:ByteArray):JE s.data.toList=(!s.toList.isEmpty&&decide (Lx.wordLen s.data.toList=s.size)):=by
 rw[Lib.toList_data]
 have hsz:s.size=s.data.toList.length:=rfl
 rw[hsz]
 cases s.data.toList with
 |nil=>rfl
 |cons c r=>
  have hr:JE (c::r)=(Lx.letU c&&decide (Lx.span Lx.wcU r=r.length)):=by simp only[JE];rw[MV]
  rw[hr,List.isEmpty_cons,Bool.not_false,Bool.true_and]
  have hw:Lx.wordLen (c::r)=if Lx.letU c then 1+Lx.span Lx.wcU r else 0:=rfl
  by_cases hc:Lx.letU c=true
  ·rw[if_pos hc] at hw
   rw[hc,Bool.true_and,decide_eq_decide,hw,List.length_cons];omega
  ·have hc':Lx.letU c=false:=by simpa using hc
   rw[if_neg hc] at hw
   rw[hc',Bool.false_and];symm;rw[decide_eq_false_iff_not,hw,List.length_cons];omega
def dval(acc:Nat)(l:List UInt8):Nat:=l.foldl (fun a c=>10*a+(c.toNat-48)) acc
theorem SH(a:Nat):dval a []=a:=rfl
theorem NY(a:Nat)(c:UInt8)(r:List UInt8):dval a (c::r)=dval (10*a+(c.toNat-48)) r:=by
 unfold dval;rw[List.foldl_cons]
theorem Wk(a:Nat)(l:List UInt8)(c:UInt8):dval a (l++[c])=10*dval a l+(c.toNat-48):=by
 unfold dval;rw[List.foldl_append,List.foldl_cons,List.foldl_nil]
theorem Gf:∀(l:List UInt8) (a:Nat),a<=dval a l
 |[],a=>Nat.le_refl a
 |c::r,a=>by rw[NY];have:=Gf r (10*a+(c.toNat-48));omega
theorem GP(a:Nat)(l m:List UInt8):dval a (l++m)=dval (dval a l) m:=by unfold dval;rw[List.foldl_append]
theorem Gg{c:UInt8}(h:Lx.digU c=true):48<=c.toNat/\c.toNat<=57:=by
 simp[Lx.digU,Lx.digB] at h;omega
theorem UX:∀(l:List UInt8) (a:Nat),(∀c∈l,Lx.digU c=true)->a<=2 ^ 64-1->
 Lib.parseUintM (2 ^ 64-1) a l=if dval a l<=2 ^ 64-1 then .ok (dval a l) else .range
 |[],a,_,ha=>by rw[SH,if_pos ha];rfl
 |c::r,a,h,ha=>by
  have hc:=Gg (h c (by simp))
  have hle:=Gf r (10*a+(c.toNat-48))
  simp only[Lib.parseUintM,if_pos hc]
  rw[NY]
  by_cases h1:1844674407370955162<=a
  ·rw[if_pos h1,if_neg (by omega)]
  ·rw[if_neg h1,Nat.mul_comm a 10]
   by_cases h2:2 ^ 64-1<10*a+(c.toNat-48)
   ·rw[if_pos h2,if_neg (by omega)]
   ·rw[if_neg h2,UX r _ (fun d hd=>h d (by simp[hd])) (by omega)]
def rv(l:List UInt8):Option Int:=match Lib.parseIntB 64 l with
 | .ok v=>some v
 |_=>none
theorem WQ(r:List UInt8)(h0:r≠[])(h:∀c∈r,Lx.digU c=true):rv (45::r)=if dval 0 r<=2 ^ 63 then some (-(dval 0 r:Int)) else none:=by
 unfold rv
 rw[Lib.parseIntB_minus]
 unfold Lib.parseUintB
 rw[if_neg h0,UX r 0 h (by omega)]
 by_cases h1:dval 0 r<=2 ^ 63
 ·rw[if_pos (by omega),if_pos h1]
  simp only[Lib.signedC]
  rw[if_neg (by omega)]
 ·rw[if_neg h1]
  by_cases h2:dval 0 r<=2 ^ 64-1
  ·rw[if_pos h2];simp only[Lib.signedC];rw[if_pos (by omega)]
  ·rw[if_neg h2];rfl
theorem WP(c:UInt8)(r:List UInt8)(h:∀d∈c::r,Lx.digU d=true):rv (c::r)=if dval 0 (c::r)<2 ^ 63 then some (dval 0 (c::r):Int) else none:=by
 unfold rv
 have hc:=Lx.plain_of_dig (h c (by simp))
 rw[Lib.parseIntB_plain _ _ _ hc.1 hc.2]
 unfold Lib.parseUintB
 rw[if_neg (by simp),UX _ 0 h (by omega)]
 by_cases h1:dval 0 (c::r)<2 ^ 63
 ·rw[if_pos (by omega),if_pos h1]
  simp only[Lib.signlessC]
  rw[if_neg (by omega)]
 ·rw[if_neg h1]
  by_cases h2:dval 0 (c::r)<=2 ^ 64-1
  ·rw[if_pos h2];simp only[Lib.signlessC];rw[if_pos (by omega)]
  ·rw[if_neg h2];rfl
def vAt(s:ByteArray)(b k:Nat):Nat:=dval 0 ((s.data.toList.drop b).take k)
theorem Fb(s:ByteArray)(b:Nat):vAt s b 0=0:=by unfold vAt;rw[List.take_zero];rfl
theorem Fc(s:ByteArray)(b k:Nat)(h:b+k<s.size):vAt s b (k+1)=10*vAt s b k+(s[b+k].toNat-48):=by
 unfold vAt
 have hk:k<(s.data.toList.drop b).length:=by rw[List.length_drop];show k<s.size-b;omega
 rw[List.take_add_one,List.getElem?_eq_getElem hk,Option.toList_some,Wk,List.getElem_drop]
 rfl
theorem SU(s:ByteArray)(b k m:Nat)(h:k<=m):vAt s b k<=vAt s b m:=by
 unfold vAt
 have e:(s.data.toList.drop b).take m=(s.data.toList.drop b).take k++((s.data.toList.drop b).take m).drop k:=by
  have:=(List.take_append_drop k ((s.data.toList.drop b).take m)).symm
  rw[List.take_take,Nat.min_eq_left h] at this
  exact this
 rw[e,GP]
 exact Gf _ _
theorem Rq(s:ByteArray)(b:Nat)(_h:b<=s.size):vAt s b (s.size-b)=dval 0 (s.data.toList.drop b):=by
 unfold vAt
 rw[List.take_of_length_le]
 rw[List.length_drop];exact lR
end Go.Proofs.YtmnbheplkidfaaaGreatDoor.Tok
