/- Types: nodes; Size. (and what follows from it) -/
import Derived.Test.YtmnbheplkidfaaaGreatDoorPw1
import Derived.Lib.IndexBytes
import Derived.Deep.RegionHeld
import Derived.Deep.Cut
set_option maxHeartbeats 16000000
set_option maxRecDepth 100000
namespace Go.Proofs.YtmnbheplkidfaaaGreatDoor
open Go.Lib (hid)
open Go.RowKit Go.Deep Go.Shelf
attribute [local go_sem] Oper.semAt_some
theorem ARow.low{D D':Nat}{S:Nat->Prop}{W:World}{ar:Value}{path:List Ty}(h:ARow D S W ar path)(hd:D'<=D):ARow D' S W ar path:=by
 obtain⟨ads,h1,h2,h3⟩:=h
 refine⟨ads,h1,⟨h2.1,?_⟩,h3⟩
 rcases h2.2 with h0|⟨g,cap,cur,rfl,hb,r⟩
 ·exact .inl h0
 ·exact .inr ⟨g,cap,cur,rfl,lT hd hb,r⟩
theorem TN(a:Option Addr)(w:World):
 Calls Tryz.prog 99 #[.pointer a] w fun e w'=>e= .returned (.func (.func 125) #[] #[.pointer (some ⟨w.heap.size,0,none⟩)])/\w'=w.alloc (.cells #[.pointer a] 136):=by
 go_enter Tryz.func99,Tryz.ntmps99
 go_wp2
 go_ret
 exact⟨rfl,rfl⟩
theorem GF(n:Nat)(Bt b o:Nat)(t:Ty)(S X:Nat->Prop)(w:World)(hX:∀k,X k->¬S k/\k<w.heap.size)(hS:∀k,S k->k<w.heap.size)(hBt:Bt<w.heap.size)(hc:w.cell? ⟨Bt,0,none⟩=some (.pointer (some ⟨b,o,none⟩)))(hty:TyAt S w t b o)(hdep:t.depth<=100000):
 Li Fence.wide n Tryz.prog 125 #[.pointer (some ⟨Bt,0,none⟩)] Nq (Px w.heap.size S) (Kp X) (fun ys=>ys.map Nd.g=preT [] 0 t) (fun pre=>pre.map Nd.g <+:preT [] 0 t) w:=by
 intro l J Jx W hW hJ _ hY h0
 have hp:=Wx Fence.wide rfl (fun _=>trivial) rfl l W.heap.size S X (fun k hk=>⟨(hX k hk).1,lL (hX k hk).2 hW.size⟩) (fun k hk=>lL (hS k hk) hW.size) J Jx hJ
  (fun m pre x W1 hj hpx _=>UL rfl m (hY pre x W1 hj ⟨hpx.1.low hW.size,hpx.2⟩)) t (n-1) [] 0 none 0 0 b o [] W lR h0 (hty.keep (hW.keeps'.mono hS)) ⟨[],rfl,World.ownsRow_nil _ _ _ _,fun i a u ha _=>by simp at ha⟩ (by simpa using hdep)
 have hc':=(hW.cell (p:=⟨Bt,0,none⟩) hBt).trans hc
 have HP:=hid hp
 clear hp hY h0 hJ
 refine callsIn_of_wp Tryz.func125 rfl trivial ?_ rfl
 simp only[Tryz.ntmps125,List.size_toArray,List.length_cons,List.length_nil,Nat.reduceAdd,Nat.reduceSub,Array.replicate_succ,Array.replicate_zero,List.push_toArray,List.append_toArray,List.nil_append,List.cons_append]
 gi_wp2_with fail
 refine⟨trivial,⟨fun h=>(by cases h),?_⟩⟩
 refine HP.out.mono ?_
 rintro e W1 (⟨rfl,⟨ys,h1,h2⟩,_,_⟩|⟨rfl,ys,h1,h2⟩)
 ·have H1:=hid h1
  have H2:=hid h2
  clear h1 h2
  gi_wp2
  go_end0
  exact⟨⟨_,rfl⟩,.inl ⟨ys,H1.out,by simpa using H2.out⟩⟩
 ·have H1:=hid h1
  have H2:=hid h2
  clear h1 h2
  gi_wp2
  go_end0
  exact⟨⟨_,rfl⟩,.inr ⟨ys,H1.out,by simpa using H2.out⟩⟩
theorem Gw:∀(t:Ty) (path:List Ty) (kid:Int),(preT path kid t).length=t.size:=by
 refine Ty.ind ?_
 intro k p n s ls ts ih path kid
 rw[MC,Ty.size_eq,List.length_cons]
 have h:∀(l:List Ty) (path:List Ty) (kid:Int),(∀t∈l,∀(path:List Ty) (kid:Int),(preT path kid t).length=t.size)->(Yn path kid l).length=Ty.sizes l:=by
  intro l
  induction l with
  |nil=>intro _ _ _;simp[Yn,Ty.sizes]
  |cons u r ihl=>
   intro path kid hh
   rw[Yn,List.length_append,Ty.sizes,hh u (by simp),ihl path (kid+1) (fun t ht=>hh t (by simp[ht]))]
 show(Yn (path++[Ty.mk k p n s ls ts]) 0 ts).length+1=Ty.sizes ts+1
 rw[h _ _ _ ih]
theorem GV(n:Int)(h1: -9223372036854775808<=n)(h2:n<=9223372036854775807):wrap64 n=n:=by unfold wrap64;omega
theorem Wv(x:Nd)(pre:List Nd):wrap64 (wrap64 ((pre.length:Nat):Int)+1)=wrap64 (((pre++[x]).length:Nat):Int):=by
 rw[List.length_append];simp only[List.length_cons,List.length_nil];unfold wrap64;omega
theorem Uo{β:Type}{D b:Nat}(hb:b<D)(t:TypeId)(f:β->Value):AbidesAll D (fun s W=>W.heap[b]? =some (.cells #[f s] t (0,0))):=
 fun _ _ _ _ hs hg hr=>(hg.block b (Array.getElem?_eq_some_iff.1 hs).1 (fun e=>by have:=hr b e.symm;omega)).trans hs
theorem Rd{B:Nat->Prop}{S:Nat->Prop}{W:World}{b:Nat}{t:Ty}{lv kv:Value}(h6:Six W b (.int .i64 t.k) (.int .i64 t.p) (.string t.n) (.int .i64 t.s) lv kv)(hv:TyVal B W (.agg #[.int .i64 t.k,.int .i64 t.p,.string t.n,.int .i64 t.s,lv,kv]) t)(hB:∀k,B k->S k)(hb:S b):TyAt S W t b 0:=by
 obtain⟨⟨c0,c1,c2,c3,c4,c5⟩,_⟩:=h6.cells
 exact XO hb c0 c1 c2 c3 c4 c5 (hv.mono hB)
theorem WB(n:Nat)(hn:3<=n)(B:Nat->Prop)(t:Ty)(hsz:t.size<=1000000)(hdep:t.depth<=100000)(lv kv:Value)(w:World)(hB:Low B w)(hv:TyVal B w (.agg #[.int .i64 t.k,.int .i64 t.p,.string t.n,.int .i64 t.s,lv,kv]) t):
 CallsIn Fence.wide n Tryz.prog 70 #[.agg #[.int .i64 t.k,.int .i64 t.p,.string t.n,.int .i64 t.s,lv,kv]] w fun e w'=>e= .returned (.int .i64 t.size)/\Below w.heap.size w w':=by
 have h1:1<=n:=by omega
 refine callsIn_of_wp_marks Tryz.func70 rfl trivial ?_ rfl
 simp only[Tryz.ntmps70,List.size_toArray,List.length_cons,List.length_nil,Nat.reduceAdd,Nat.reduceSub,Array.replicate_succ,Array.replicate_zero,List.push_toArray,List.append_toArray,List.nil_append,List.cons_append]
 gi_wp2_with (refine⟨trivial,?_⟩;gi_at_call 99;refine(callsIn_wide.2 (TN _ _)).mono ?_;rintro e w'⟨rfl,rfl⟩)
 have h6:=(Six.new w (.int .i64 t.k) (.int .i64 t.p) (.string t.n) (.int .i64 t.s) lv kv).to (Jb _ (.cells #[.int .i64 0] 3) (.cells #[.pointer (some ⟨w.heap.size,0,none⟩)] 136))
 have hc:(((w.alloc (Uz t.k t.p t.n t.s lv kv)).alloc (.cells #[.int .i64 0] 3)).alloc (.cells #[.pointer (some ⟨w.heap.size,0,none⟩)] 136)).heap[w.heap.size+1]? =some (.cells #[.int .i64 0] 3 (0,0)):=by
  have h:=World.alloc_heap_new (w.alloc (Uz t.k t.p t.n t.s lv kv)) (.cells #[.int .i64 0] 3)
  rw[World.size_alloc] at h
  exact(Below.heap_alloc _ _ _ (by simp)).trans h
 have hp:(((w.alloc (Uz t.k t.p t.n t.s lv kv)).alloc (.cells #[.int .i64 0] 3)).alloc (.cells #[.pointer (some ⟨w.heap.size,0,none⟩)] 136)).cell? ⟨w.heap.size+1+1,0,none⟩=some (.pointer (some ⟨w.heap.size,0,none⟩)):=by
  have h:=JB (w:=(w.alloc (Uz t.k t.p t.n t.s lv kv)).alloc (.cells #[.int .i64 0] 3)) (cs:=#[.pointer (some ⟨w.heap.size,0,none⟩)]) (t:=136) bR 0 rfl
  simpa using h
 have hbel:=Mu w (Uz t.k t.p t.n t.s lv kv) (.cells #[.int .i64 0] 3) (.cells #[.pointer (some ⟨w.heap.size,0,none⟩)] 136)
 have hsz0:(((w.alloc (Uz t.k t.p t.n t.s lv kv)).alloc (.cells #[.int .i64 0] 3)).alloc (.cells #[.pointer (some ⟨w.heap.size,0,none⟩)] 136)).heap.size=w.heap.size+3:=by simp
 obtain⟨W0,hW0⟩:∃W0,(((w.alloc (Uz t.k t.p t.n t.s lv kv)).alloc (.cells #[.int .i64 0] 3)).alloc (.cells #[.pointer (some ⟨w.heap.size,0,none⟩)] 136))=W0:=⟨_,rfl⟩
 rw[hW0] at h6 hc hp hbel hsz0 |-
 clear hW0
 have hty:=Rd (S:=fun k=>B k\/k=w.heap.size) h6 (hv.to hB hbel) (fun _ h=> .inl h) (.inr rfl)
 have hX:∀k,k=w.heap.size+1->¬(B k\/k=w.heap.size)/\k<W0.heap.size:=fun k e=>⟨fun h=>h.elim (fun h=>by have:=hB k h;omega) (fun h=>by omega),by omega⟩
 have hS:∀k,(B k\/k=w.heap.size)->k<W0.heap.size:=fun k h=>h.elim (fun h=>by have:=hB k h;omega) (fun h=>by omega)
 refine Xq rfl h1 (gf:=125) (lb:=#[.pointer (some ⟨w.heap.size+1+1,0,none⟩)]) rfl trivial (enters_of Tryz.func125 (by kernel_rfl) rfl)
  (GF (n-1) (w.heap.size+1+1) w.heap.size 0 t (fun k=>B k\/k=w.heap.size) (fun k=>k=w.heap.size+1) W0 hX hS (by omega) hp hty hdep) (fun h g=>KV.trans h g) (fun W l o o' _ h ho _=>KV.of_cells (by simp) (JD h ho)) (fun x A B h hp=>Px.kept h hp) bR (fun _=>rfl)
  (fun pre W=>W.heap[w.heap.size+1]? =some (.cells #[.int .i64 (wrap64 pre.length)] 3 (0,0))/\Below w.heap.size w W) (fun _ _ _=>False)
  ((Uo (by omega) _ _).and (Xr (by omega) lR)) (fun _ _ _ _ _ h _ _=>h) ⟨by rw[show wrap64 ((([]:List Nd).length:Nat):Int)=0 from GV _ (by simp) (by simp)];exact hc,hbel⟩
  (fun x a' _=>a'={ tmps:=#[.agg #[.int .i64 t.k,.int .i64 t.p,.string t.n,.int .i64 t.s,lv,kv],.pointer (some ⟨w.heap.size,0,none⟩),.int .i64 0,.pointer (some ⟨w.heap.size+1,0,none⟩),
   .func (.func 125) #[] #[.pointer (some ⟨w.heap.size+1+1,0,none⟩)],.agg #[x.ar,.int .i64 x.kid],.pointer (some ⟨x.b,x.o,none⟩),undef,undef,undef],defers:=[] }) (fun _ _ _ _ _ h=>h) ?assign ?body ?done ?stop
 case assign=>
  intro l pre x W K hi hp hK
  simp only[Nq]
  gi_wp2
  exact hK _ _ (KeepsFrom.refl _ _) (KV.refl _ _ _) hi hp (by simp)
 case body=>
  rintro l pre x a' W hl _⟨hb,hbw⟩ hpx rfl
  have c0:W.cell? ⟨w.heap.size+1,0,none⟩=some (.int .i64 (wrap64 pre.length)):=by simp[World.cell?,hb]
  have f0:W.frozen? ⟨w.heap.size+1,0,none⟩=false:=by simp[World.frozen?,hb]
  have HB:=hid hb
  clear hb hpx
  gi_wp2
  refine⟨(KeepsOthers.setCell _ _ _).from _,?_,?_,hbw.setCell (p:=⟨w.heap.size+1,0,none⟩) (by simp) _⟩
  ·exact⟨by simp,fun k o hk hc hx _=>(Below.heap_setCell _ _ _ k (fun e=>hx e)).trans hk⟩
  ·rw[Wv x pre]
   exact Qd HB.out 0 _
 case done=>
  rintro D ys W hD hys⟨hb,hbw⟩ hK
  have hlen:ys.length=t.size:=by
   have:=congrArg List.length hys
   rwa[List.length_map,Gw] at this
  rw[hlen,GV _ (by omega) (by omega)] at hb
  have c0:W.cell? ⟨w.heap.size+1,0,none⟩=some (.int .i64 t.size):=by simp[World.cell?,hb]
  have HK:=hid hK
  clear hb hys hlen hK
  gi_wp2
  refine⟨by simp,.inl ⟨_,_,rfl,run_takeDeferred HK.out,?_⟩⟩
  exact⟨_,results_tmp rfl _ _ _,rfl,hbw.trans (belowK_b (w:=w) lR W D _ _ (by omega) HK.out rfl rfl)⟩
 case stop=>
  rintro D c pre W _ _ h _
  exact h.elim
theorem UM(B:Nat->Prop)(t:Ty)(hsz:t.size<=1000000)(hdep:t.depth<=100000)(v:Value)(w:World)(hB:Low B w)(hv:TyVal B w v t):
 Calls Tryz.prog 70 #[v] w fun e w'=>e= .returned (.int .i64 t.size)/\Below w.heap.size w w':=by
 have hv':=hv
 obtain⟨lv,kv,rfl,_⟩:=hv'
 exact callsIn_wide.1 (WB 3 (by omega) B t hsz hdep lv kv w hB hv)
end Go.Proofs.YtmnbheplkidfaaaGreatDoor
namespace Go.Proofs.YtmnbheplkidfaaaGreatDoor
open Go.RowKit Go.Deep Go.Shelf
attribute [local go_sem] Oper.semAt_some
end Go.Proofs.YtmnbheplkidfaaaGreatDoor
namespace Go.Proofs.YtmnbheplkidfaaaGreatDoor
open Go.RowKit Go.Deep Go.Shelf
attribute [local go_sem] Oper.semAt_some
end Go.Proofs.YtmnbheplkidfaaaGreatDoor
namespace Go.Proofs.YtmnbheplkidfaaaGreatDoor.Lx
def letB(b:Int):Bool:=decide (65<=b/\b<=90\/97<=b/\b<=122\/b=95)
def digB(b:Int):Bool:=decide (48<=b/\b<=57)
def letU(c:UInt8):Bool:=letB (c.toNat:Int)
def digU(c:UInt8):Bool:=digB (c.toNat:Int)
def wcU(c:UInt8):Bool:=letU c||digU c
def span(p:UInt8->Bool)(l:List UInt8):Nat:=(l.takeWhile p).length
def wordLen:List UInt8->Nat
 |[]=>0
 |c::r=>if letU c then 1+span wcU r else 0
def numberLen:List UInt8->Nat
 |[]=>0
 |c::r=>
  if c=48 then 1
  else if c=45 then
   match r with
   |[]=>0
   |d::_=>if d=48 then 0 else if digU d then 1+span digU r else 0
  else if digU c then 1+span digU r else 0
def commentLen(l:List UInt8):Nat:=span (fun c=>c != 10) l
def blank(c:UInt8):Bool:=c==32||c==9||c==10||c==13
def skipG:Bool->List UInt8->Nat
 |_,[]=>0
 |false,c::r=>if blank c then 1+skipG false r else if c=35 then 1+skipG true r else 0
 |true,c::r=>if c=10 then 1+skipG false r else 1+skipG true r
theorem span_le(p:UInt8->Bool)(l:List UInt8):span p l<=l.length:=by
 unfold span;exact(List.takeWhile_sublist p).length_le
theorem Fh(p:UInt8->Bool):span p []=0:=rfl
theorem span_cons(p:UInt8->Bool)(c:UInt8)(r:List UInt8):span p (c::r)=if p c then 1+span p r else 0:=by
 unfold span;rw[List.takeWhile_cons];split <;> simp;omega
theorem span_eq(p:UInt8->Bool):∀(l:List UInt8) (k:Nat),k<=l.length->(∀j (h:j<l.length),j<k->p l[j]=true)->(∀h:k<l.length,p l[k]=false)->span p l=k
 |[],k,hk,_,_=>by simp at hk;subst hk;rfl
 |c::r,0,_,_,h2=>by have:=h2 (by simp);rw[span_cons];simp at this;simp[this]
 |c::r,k+1,hk,h1,h2=>by
  have hc:=h1 0 (by simp) (by omega)
  rw[span_cons];simp at hc;rw[if_pos hc]
  have:=span_eq p r k (by simp at hk;omega) (fun j h hj=>by have:=h1 (j+1) (by simp;omega) (by omega);simpa using this) (fun h=>by have:=h2 (by simp;omega);simpa using this)
  omega
theorem skipG_nil(b:Bool):skipG b []=0:=by cases b <;> simp[skipG]
theorem skipG_blank(c:UInt8)(r:List UInt8)(h:blank c=true):skipG false (c::r)=1+skipG false r:=by
 rw[skipG,if_pos h]
theorem skipG_stop(c:UInt8)(r:List UInt8)(h:blank c=false)(h2:c≠35):skipG false (c::r)=0:=by
 rw[skipG,if_neg (by simp[h]),if_neg h2]
theorem VL:∀l:List UInt8,skipG true l=commentLen l+skipG false (l.drop (commentLen l))
 |[]=>by simp[skipG,commentLen,Fh]
 |c::r=>by
  rw[skipG]
  unfold commentLen
  rw[span_cons]
  by_cases h:c=10
  ·rw[if_pos h,if_neg (by simp[h]),List.drop_zero,h,skipG_blank 10 r (by decide)];omega
  ·rw[if_neg h,if_pos (by simpa using h),VL r];unfold commentLen
   rw[Nat.add_comm 1 (span _ r),List.drop_succ_cons];omega
theorem skipG_hash(r:List UInt8):skipG false (35::r)=commentLen (35::r)+skipG false ((35::r).drop (commentLen (35::r))):=by
 rw[skipG,if_neg (by decide),if_pos rfl,VL]
 have:commentLen (35::r)=commentLen r+1:=by unfold commentLen;rw[span_cons,if_pos (by decide)];omega
 rw[this,List.drop_succ_cons];omega
theorem commentLen_hash(r:List UInt8):1<=commentLen (35::r):=by
 unfold commentLen;rw[span_cons,if_pos (by decide)];omega
theorem commentLen_le(l:List UInt8):commentLen l<=l.length:=span_le _ _
theorem skipG_le:∀(b:Bool) (l:List UInt8),skipG b l<=l.length:=by
 have h:∀(n:Nat) (l:List UInt8),l.length<=n->skipG false l<=l.length:=by
  intro n
  induction n with
  |zero=>intro l hl;have:l=[]:=List.eq_nil_of_length_eq_zero (by omega);subst this;simp[skipG]
  |succ n ih=>
   intro l hl
   cases l with
   |nil=>simp[skipG]
   |cons c r=>
    by_cases hb:blank c=true
    ·rw[skipG_blank c r hb];have:=ih r (by simp at hl;omega);simp;omega
    ·by_cases h35:c=35
     ·subst h35
      rw[skipG_hash]
      have h1:=commentLen_hash r
      have h2:=commentLen_le (35::r)
      have:=ih ((35::r).drop (commentLen (35::r))) (by rw[List.length_drop];omega)
      rw[List.length_drop] at this;omega
     ·rw[skipG_stop c r (by simpa using hb) h35];omega
 intro b l
 cases b with
 |false=>exact h _ l lR
 |true=>
  rw[VL]
  have h2:=commentLen_le l
  have:=h _ (l.drop (commentLen l)) lR
  rw[List.length_drop] at this;omega
end Go.Proofs.YtmnbheplkidfaaaGreatDoor.Lx
namespace Go.Proofs.YtmnbheplkidfaaaGreatDoor
open Go.Lib (hid)
open Go.RowKit
theorem VX(b:Int)(h0:0<=b)(h1:b<256)(w:World):
 Calls Tryz.prog 147 #[.int .u8 b] w fun e w'=>e= .returned (.bool (Lx.letB b))/\w=w':=by
 go_enter Tryz.func147,Tryz.ntmps147
 go_wp2
 all_goals (go_ret;refine⟨Qm ?_,rfl⟩;unfold Lx.letB;rw[Bool.eq_iff_iff];simp;try omega)
theorem Kf(b:Int)(h0:0<=b)(h1:b<256)(w:World):
 Calls Tryz.prog 148 #[.int .u8 b] w fun e w'=>e= .returned (.bool (Lx.digB b))/\w=w':=by
 go_enter Tryz.func148,Tryz.ntmps148
 go_wp2
 all_goals (go_ret;refine⟨Qm ?_,rfl⟩;unfold Lx.digB;rw[Bool.eq_iff_iff];simp;try omega)
theorem UN(s:ByteArray)(h:0<s.size):¬s.toList=[]:=by
 rw[Lib.toList_data];intro e
 have h2:s.data.toList.length=0:=by rw[e];rfl
 have h3:s.data.toList.length=s.size:=rfl
 omega
theorem JT(s:ByteArray)(h:s.size=0):s.toList=[]:=by
 rw[Lib.toList_data];apply List.eq_nil_of_length_eq_zero;exact h
theorem Vu(l:List UInt8)(h:0<l.length):l=l[0]::l.tail:=by
 cases l with
 |nil=>simp at h
 |cons c r=>simp
theorem Jl(s:ByteArray)(h:0<s.size):s.data.toList=s[0]::s.data.toList.tail:=Vu s.data.toList h
theorem YJ(c:UInt8):0<=(c.toNat:Int)/\(c.toNat:Int)<256:=⟨by omega,by have:=c.toNat_lt;omega⟩
theorem Jo(c:UInt8)(w:World):
 Calls Tryz.prog 147 #[.int .u8 (c.toNat:Int)] w fun e w'=>e= .returned (.bool (Lx.letB (c.toNat:Int)))/\w=w':=
 VX _ (YJ c).1 (YJ c).2 w
theorem Ja(c:UInt8)(w:World):
 Calls Tryz.prog 148 #[.int .u8 (c.toNat:Int)] w fun e w'=>e= .returned (.bool (Lx.digB (c.toNat:Int)))/\w=w':=
 Kf _ (YJ c).1 (YJ c).2 w
theorem Xi(s:ByteArray)(h0:s.toList=[])(w:World):
 Calls Tryz.prog 131 #[.string s] w fun e w'=>e= .returned iZ/\w=w':=by
 go_enter Tryz.func131,Tryz.ntmps131
 go_wp2_with fail
 go_ret
 exact⟨rfl,rfl⟩
theorem VK(s:ByteArray)(_h0:¬s.toList=[])(h0':s.toList.isEmpty=false)(h1:0<s.size)(hl:Lx.letB (s[0].toNat:Int)=false)(w:World):
 Calls Tryz.prog 131 #[.string s] w fun e w'=>e= .returned iZ/\w=w':=by
 go_enter Tryz.func131,Tryz.ntmps131
 go_wp2_with (go_at_call 147;refine(Jo _ _).mono ?_;rintro e w'⟨rfl,rfl⟩)
 go_ret
 exact⟨rfl,rfl⟩
def Hu(s:ByteArray)(k:Nat):Prop:=∀j (h:j<s.size),1<=j->j<k->Lx.wcU s[j]=true
theorem XS(s:ByteArray)(_h0:¬s.toList=[])(h0':s.toList.isEmpty=false)(h1:0<s.size)(hs:s.size<=9223372036854775807)(hl:Lx.letB (s[0].toNat:Int)=true)(w:World):
 Calls Tryz.prog 131 #[.string s] w fun e w'=>(∃k:Nat,e= .returned (.int .i64 k)/\1<=k/\k<=s.size/\Hu s k/\(∀h:k<s.size,Lx.wcU s[k]=false))/\w=w':=by
 go_enter Tryz.func131,Tryz.ntmps131
 go_wp2_with (go_at_call 147;refine(Jo _ _).mono ?_;rintro e w'⟨rfl,rfl⟩)
 go_loop [3] (fun n=>∃k:Nat,1<=k/\k<=s.size/\n= .int .i64 k/\Hu s k) (fun n=>s.size-(intOf n).toNat)
 case atStart=>exact⟨1,by omega,by omega,rfl,fun j _ h3 h4=>by omega⟩
 case round=>
  obtain⟨k,hk1,hk2,rfl,ha⟩:=hrel
  by_cases hlt:k<s.size
  ·by_cases hw:Lx.wcU s[k]=true
   ·have hnext:Hu s (k+1):=by
     intro j hj h3 h4
     by_cases e:j=k
     ·subst e;exact hw
     ·exact ha j hj h3 (by omega)
    by_cases hle:Lx.letB (s[k].toNat:Int)=true
    ·clear hw
     go_wp2_with (first|(go_at_call 147;refine(Jo _ _).mono ?_;rintro e w'⟨rfl,rfl⟩)|(go_at_call 148;refine(Ja _ _).mono ?_;rintro e w'⟨rfl,rfl⟩))
     go_round
     case rel=>exact⟨k+1,by omega,by omega,by go_num,hnext⟩
     case measure=>simp[intOf];omega
    ·have hle':Lx.letB (s[k].toNat:Int)=false:=by simpa using hle
     have hd:Lx.digB (s[k].toNat:Int)=true:=by simpa [Lx.wcU,Lx.letU,Lx.digU,hle'] using hw
     clear hw hle
     go_wp2_with (first|(go_at_call 147;refine(Jo _ _).mono ?_;rintro e w'⟨rfl,rfl⟩)|(go_at_call 148;refine(Ja _ _).mono ?_;rintro e w'⟨rfl,rfl⟩))
     go_round
     case rel=>exact⟨k+1,by omega,by omega,by go_num,hnext⟩
     case measure=>simp[intOf];omega
   ·have hw':Lx.wcU s[k]=false:=by simpa using hw
    have hle:Lx.letB (s[k].toNat:Int)=false:=by simp[Lx.wcU,Lx.letU] at hw';exact hw'.1
    have hd:Lx.digB (s[k].toNat:Int)=false:=by simp[Lx.wcU,Lx.digU] at hw';exact hw'.2
    clear hw
    have H:=hid hw'
    clear hw'
    go_wp2_with (first|(go_at_call 147;refine(Jo _ _).mono ?_;rintro e w'⟨rfl,rfl⟩)|(go_at_call 148;refine(Ja _ _).mono ?_;rintro e w'⟨rfl,rfl⟩))
    go_ret
    exact⟨⟨k,rfl,hk1,hk2,ha,fun _=>H.out⟩,rfl⟩
  ·go_wp2
   go_ret
   exact⟨⟨k,rfl,hk1,hk2,ha,fun h=>absurd h hlt⟩,rfl⟩
theorem XT(s:ByteArray)(hs:s.size<=maxLen)(w:World):
 Calls Tryz.prog 131 #[.string s] w fun e w'=>e= .returned (.int .i64 (Lx.wordLen s.data.toList))/\w=w':=by
 unfold maxLen at hs
 by_cases h1:0<s.size
 ·have hc:=Jl s h1
  have h0:=UN s h1
  have h0':s.toList.isEmpty=false:=by simpa using h0
  by_cases hl:Lx.letB (s[0].toNat:Int)=true
  ·refine(XS s h0 h0' h1 (by omega) hl w).mono ?_
   rintro e w'⟨⟨k,rfl,hk1,hk2,ha,hb⟩,rfl⟩
   refine⟨Jh ?_,rfl⟩
   rw[hc];simp only[Lx.wordLen]
   rw[if_pos (show Lx.letU s[0]=true from hl)]
   have hz:s.data.toList.tail.length+1=s.size:=by have:=congrArg List.length hc;simp at this;simp;omega
   have:Lx.span Lx.wcU s.data.toList.tail=k-1:=by
    refine Lx.span_eq _ _ _ (by omega) (fun j h hj=>?_) (fun h=>?_)
    ·have:=ha (j+1) (by omega) (by omega) (by omega)
     rw[List.getElem_tail];exact this
    ·have:=hb (by omega)
     rw[List.getElem_tail]
     have e:k-1+1=k:=by omega
     simp only[e];exact this
   omega
  ·have hl':Lx.letB (s[0].toNat:Int)=false:=by simpa using hl
   refine(VK s h0 h0' h1 hl' w).mono ?_
   rintro e w'⟨rfl,rfl⟩
   refine⟨Jh ?_,rfl⟩
   rw[hc];simp only[Lx.wordLen]
   rw[if_neg (by simpa [Lx.letU] using hl)];rfl
 ·have h0:=JT s (by omega)
  refine(Xi s h0 w).mono ?_
  rintro e w'⟨rfl,rfl⟩
  rw[Lib.toList_data] at h0
  refine⟨Jh ?_,rfl⟩
  rw[h0];rfl
end Go.Proofs.YtmnbheplkidfaaaGreatDoor
namespace Go.Proofs.YtmnbheplkidfaaaGreatDoor
open Go.Lib (hid)
open Go.RowKit Go.Shelf
structure Env(B:Nat)(w:World):Prop where
 words:w.var? Tryz.prog "duologue/lex.keywords" =some #[.string ⟨#[100,101,102]⟩,.string ⟨#[109,97,105,110]⟩,.string ⟨#[115,116,111,112]⟩,.string ⟨#[110,101,119]⟩,.string ⟨#[105,110,116]⟩,.string ⟨#[98,111,111,108]⟩,.string ⟨#[101,110,100]⟩,.string ⟨#[114,101,99]⟩,.string ⟨#[116,114,117,101]⟩,.string ⟨#[102,97,108,115,101]⟩]
 above:0<B
 size:B<=w.heap.size
theorem gWords:Tryz.prog.globalNamed "duologue/lex.keywords" =some 0:=by kernel_rfl
theorem Env.below{B:Nat}{w w':World}(h:Env B w)(hb:Below B w w'):Env B w':=⟨var?_below hb gWords h.above h.words,h.above,lT h.size hb.size⟩
theorem Env.to{B:Nat}{w w':World}(h:Env B w)(hb:Below w.heap.size w w'):Env B w':=h.below (hb.mono h.size)
def kwAt:Nat->ByteArray
 |0=>⟨#[100,101,102]⟩
 |1=>⟨#[109,97,105,110]⟩
 |2=>⟨#[115,116,111,112]⟩
 |3=>⟨#[110,101,119]⟩
 |4=>⟨#[105,110,116]⟩
 |5=>⟨#[98,111,111,108]⟩
 |6=>⟨#[101,110,100]⟩
 |7=>⟨#[114,101,99]⟩
 |8=>⟨#[116,114,117,101]⟩
 |_=>⟨#[102,97,108,115,101]⟩
def JL:Array Value:=#[.string (kwAt 0),.string (kwAt 1),.string (kwAt 2),.string (kwAt 3),.string (kwAt 4),.string (kwAt 5),.string (kwAt 6),.string (kwAt 7),.string (kwAt 8),.string (kwAt 9)]
theorem kwIdx:∀(k:Nat) (_:k<10) (w:World),(Instr.index 180 (.agg JL) (.int .i64 k)).run Tryz.prog w= .ok (.string (kwAt k)) w
 |0,_,_=>by kernel_rfl
 |1,_,_=>by kernel_rfl
 |2,_,_=>by kernel_rfl
 |3,_,_=>by kernel_rfl
 |4,_,_=>by kernel_rfl
 |5,_,_=>by kernel_rfl
 |6,_,_=>by kernel_rfl
 |7,_,_=>by kernel_rfl
 |8,_,_=>by kernel_rfl
 |9,_,_=>by kernel_rfl
 |k+10,h,_=>by omega
theorem Env.row{B:Nat}{w:World}(h:Env B w):∃t fr,w.heap[0]? =some (.cells JL t fr):=by
 have hv:=h.words
 unfold World.var? at hv
 rw[gWords] at hv
 simp only[Option.bind_some] at hv
 cases ho:w.heap[0]? with
 |none=>rw[ho] at hv;cases hv
 |some o=>
  rw[ho] at hv
  cases o with
  |cells cs ty fr=>simp only[Option.some.injEq] at hv;subst hv;exact⟨ty,fr,rfl⟩
  |_=>cases hv
theorem kwU:Tryz.prog.underlying 180=some (.array 10 9):=by kernel_rfl
def kwB:Nat->ByteArray->Bool
 |0,_=>false
 |k+1,s=>kwB k s||(kwAt k).toList==s.toList
theorem Gc(s:ByteArray)(k:Nat)(h:((kwAt k).toList==s.toList)=true):∀m,k<m->kwB m s=true
 |0,hm=>by omega
 |m+1,hm=>by
  rw[kwB,Bool.or_eq_true]
  by_cases e:k=m
  ·subst e;exact .inr h
  ·exact .inl (Gc s k h m (by omega))
theorem GI(s:ByteArray)(B:Nat)(w:World)(he:Env B w):
 Calls Tryz.prog 134 #[.string s] w fun e w'=>e= .returned (.bool (kwB 10 s))/\w=w':=by
 obtain⟨t,fr,hrow⟩:=he.row
 have HR:=hid hrow
 clear hrow he
 go_enter Tryz.func134,Tryz.ntmps134
 go_wp2_with (refine wpList_load_row rfl 180 _ rfl 0 rfl t JL fr _ HR.out kwU rfl (by kernel_rfl) ?_)
 go_loop [6] (fun n=>∃k:Nat,k<=10/\n= .int .i64 k/\Hid (kwB k s=false)) (fun n=>10-(intOf n).toNat)
 case atStart=>exact⟨0,by omega,rfl,hid rfl⟩
 case round=>
  obtain⟨k,hk,rfl,hf⟩:=hrel
  by_cases hlt:k<10
  ·have hidx:=kwIdx k hlt
   have hlt':(k:Int)<10:=by omega
   go_wp2_with fail
   ·have ht:((kwAt k).toList==s.toList)=true:=by assumption
    go_ret
    exact⟨Qm (Gc s k ht 10 hlt).symm,rfl⟩
   ·have ht:((kwAt k).toList==s.toList)=false:=by assumption
    go_round
    case rel=>exact⟨k+1,by omega,by go_num,hid (by rw[kwB,hf.out,ht];rfl)⟩
    case measure=>simp[intOf];omega
  ·obtain rfl:k=10:=by omega
   go_wp2
   go_ret
   exact⟨Qm hf.out.symm,rfl⟩
def Qb(s:ByteArray):Bool:= !s.toList.isEmpty&&decide (Lx.wordLen s.data.toList=s.size)&& !kwB 10 s
theorem kw_is(s:ByteArray)(b:Bool)(h:Hid (kwB 10 s=b))(B:Nat)(w:World)(he:Env B w):
 Calls Tryz.prog 134 #[.string s] w fun e w'=>e= .returned (.bool b)/\w=w':=by
 have:=GI s B w he
 rw[h.out] at this;exact this
theorem Ej(s:ByteArray)(hs:s.size<=maxLen)(n:Nat)(h:Hid (Lx.wordLen s.data.toList=n))(w:World):
 Calls Tryz.prog 131 #[.string s] w fun e w'=>e= .returned (.int .i64 n)/\w=w':=by
 have:=XT s hs w
 rw[h.out] at this;exact this
theorem Fw(s:ByteArray)(hs:s.size<=maxLen)(B:Nat)(w:World)(he:Env B w):
 Calls Tryz.prog 108 #[.string s] w fun e w'=>e= .returned (.bool (Qb s))/\w=w':=by
 have HS:=hid hs
 obtain⟨n,hn⟩:∃n,Hid (Lx.wordLen s.data.toList=n):=⟨_,hid rfl⟩
 obtain⟨b,hb⟩:∃b,Hid (kwB 10 s=b):=⟨_,hid rfl⟩
 by_cases h0:s.toList=[]
 ·have h0':s.toList.isEmpty=true:=by rw[h0];rfl
  have hr:false=Qb s:=by unfold Qb;rw[h0'];rfl
  have HR:=hid hr
  clear hr hs
  go_enter Tryz.func108,Tryz.ntmps108
  go_wp2_with fail
  go_ret
  exact⟨Qm HR.out,rfl⟩
 ·have h0':s.toList.isEmpty=false:=by simpa using h0
  by_cases hw:n=s.size
  ·have hw':((n:Int)==(s.size:Int))=true:=by rw[beq_iff_eq];omega
   have hr:(!b)=Qb s:=by unfold Qb;rw[h0',hn.out,hb.out,decide_eq_true hw];rfl
   have HR:=hid hr
   clear hr hs hw
   go_enter Tryz.func108,Tryz.ntmps108
   go_wp2_with (first|(go_at_call 131;refine(Ej s HS.out n hn _).mono ?_;rintro e w'⟨rfl,rfl⟩)|(go_at_call 134;refine(kw_is s b hb B _ he).mono ?_;rintro e w'⟨rfl,rfl⟩))
   go_ret
   exact⟨Qm HR.out,rfl⟩
  ·have hw':((n:Int)==(s.size:Int))=false:=by rw[beq_eq_false_iff_ne];omega
   have hr:false=Qb s:=by unfold Qb;rw[h0',hn.out,decide_eq_false hw];rfl
   have HR:=hid hr
   clear hr hs hw
   go_enter Tryz.func108,Tryz.ntmps108
   go_wp2_with (go_at_call 131;refine(Ej s HS.out n hn _).mono ?_;rintro e w'⟨rfl,rfl⟩)
   go_ret
   exact⟨Qm HR.out,rfl⟩
end Go.Proofs.YtmnbheplkidfaaaGreatDoor
namespace Go.Proofs.YtmnbheplkidfaaaGreatDoor
def Zq (ops : Array Oper) (k : Nat) : Option Tmp := (ops[k]?).bind (·.dst)
def JX (ops : Array Oper) (L : Nat -> Bool) (vals : Nat -> Value) : List Nat -> Array Value -> Array Value
  | [], t => t
  | k :: r, t => JX ops L vals r (match Zq ops k with | some d => t.setIfInBounds d (if L k = true then vals k else t.getD d undef) | none => t)
def Jw (ops : Array Oper) (a0 : Act) (rem : List Nat) (L : Nat -> Bool) (vals : Nat -> Value) : Act := ⟨JX ops L vals rem a0.tmps, a0.defers⟩
def updL (L : Nat -> Bool) (k : Nat) : Nat -> Bool := fun j => j == k || L j
def updV (vals : Nat -> Value) (k : Nat) (v : Value) : Nat -> Value := fun j => if j = k then v else vals j
def UE (md : Region.Mode) (ops : Array Oper) (rem : List Nat) (k : Nat) : List Nat :=
  match ops[k]? with
  | some o => ((o.after.toList.filter (Region.binds md)).map (·.on)).filter rem.contains
  | none => []
def Rj (md : Region.Mode) (ops : Array Oper) (rem : List Nat) (listed : Array Bool) : Bool :=
  decide (listed.size = ops.size) && ((List.range ops.size).all fun i => listed.getD i true == !rem.contains i) && (rem.all fun i => decide (i < ops.size)) &&
  (rem.all fun i => rem.all fun j => i == j || (match Zq ops i with | some d => !(Zq ops j == some d) | none => true)) &&
  (rem.all fun k => match ops[k]? with | some o => o.after.all fun e => !Region.binds md e || decide (e.on < k) | none => false) && decide rem.Nodup
section
variable {ops : Array Oper} {vals : Nat -> Value}
theorem ZJ {L : Nat -> Bool} : ∀ (rem : List Nat) (t : Array Value), (JX ops L vals rem t).size = t.size
  | [], t => rfl
  | k :: r, t => by
    rw [JX, ZJ r]
    cases Zq ops k with
    | none => rfl
    | some d => simp
theorem ZV {L : Nat -> Bool} {s : Nat} : ∀ (rem : List Nat) (t : Array Value), (∀ k ∈ rem, L k = true -> Zq ops k ≠ some s) -> (JX ops L vals rem t)[s]? = t[s]?
  | [], t, _ => rfl
  | k :: r, t, h => by
    rw [JX, ZV r _ (fun j hj => h j (by simp [hj]))]
    cases hd : Zq ops k with
    | none => rfl
    | some d =>
      simp only []
      by_cases hL : L k = true
      . have hne : d ≠ s := fun e => h k (by simp) hL (by rw [hd, e])
        rw [Array.getElem?_setIfInBounds]
        simp [hne]
      . rw [if_neg hL, Array.getElem?_setIfInBounds]
        by_cases e : d = s
        . subst e
          by_cases hlt : d < t.size
          . simp [hlt, Array.getD]
          . simp [hlt]
        . simp [e]
theorem Ua {L : Nat -> Bool} {k d : Nat} : ∀ (rem : List Nat) (t : Array Value), k ∈ rem -> L k = true -> Zq ops k = some d -> d < t.size -> (∀ j ∈ rem, j ≠ k -> Zq ops j ≠ some d) -> (JX ops L vals rem t)[d]? = some (vals k)
  | [], _, h, _, _, _, _ => by cases h
  | j :: r, t, hm, hL, hd, hlt, hne => by
    rw [JX]
    by_cases hjr : k ∈ r
    . refine Ua r _ hjr hL hd ?_ (fun i hi => hne i (by simp [hi]))
      cases Zq ops j with
      | none => exact hlt
      | some e => simpa using hlt
    . have hjk : k = j := by
        rcases List.mem_cons.1 hm with h | h
        . exact h
        . exact absurd h hjr
      subst hjk
      rw [hd]
      simp only [hL, if_true]
      rw [ZV r _ (fun i hi _ => hne i (by simp [hi]) (fun e => hjr (e ▸ hi)))]
      simp [hlt]
theorem DS {a0 : Act} {rem : List Nat} {L : Nat -> Bool} {k : Nat} {o : Oper} (hk : k ∈ rem) (ho : ops[k]? = some o)
    (hd : ∀ i ∈ rem, ∀ j ∈ rem, i ≠ j -> ∀ d, Zq ops i = some d -> Zq ops j ≠ some d) (v : Value) :
    (Jw ops a0 rem L vals).put o.dst v = Jw ops a0 rem (updL L k) (updV vals k v) := by
  have hdk : Zq ops k = o.dst := by simp [Zq, ho]
  have key : ∀ s : Nat, ((Jw ops a0 rem L vals).put o.dst v).tmps[s]? = (JX ops (updL L k) (updV vals k v) rem a0.tmps)[s]? := by
    intro s
    by_cases hs : ∃ j ∈ rem, updL L k j = true /\ Zq ops j = some s
    . obtain ⟨j, hj, hLj, hdj⟩ := hs
      by_cases hlt : s < a0.tmps.size
      . rw [Ua rem a0.tmps hj hLj hdj hlt (fun i hi hij => fun e => hd i hi j hj hij s e hdj)]
        by_cases hjk : j = k
        . subst hjk
          rw [hdk] at hdj
          rw [hdj]
          simp only [Act.put, Jw, updV, if_true]
          rw [Array.getElem?_setIfInBounds]
          simp [ZJ, hlt]
        . have hL : L j = true := by
            simp only [updL, Bool.or_eq_true, beq_iff_eq] at hLj
            rcases hLj with h | h
            . exact absurd h hjk
            . exact h
          have hne : o.dst ≠ some s := by rw [<- hdk]; exact hd j hj k hk hjk s hdj
          have e2 := Ua (vals := vals) rem a0.tmps hj hL hdj hlt (fun i hi hij => fun e => hd i hi j hj hij s e hdj)
          rw [updV, if_neg hjk, <- e2]
          cases hod : o.dst with
          | none => rfl
          | some d =>
            have : d ≠ s := fun e => hne (by rw [hod, e])
            simp [Act.put, Jw, this]
      . have h1 : (JX ops (updL L k) (updV vals k v) rem a0.tmps)[s]? = none := by
          rw [Array.getElem?_eq_none]; rw [ZJ]; omega
        rw [h1]
        rw [Array.getElem?_eq_none]
        cases o.dst with
        | none => simp [Act.put, Jw, ZJ]; omega
        | some d => simp [Act.put, Jw, ZJ]; omega
    . have hno : ∀ j ∈ rem, updL L k j = true -> Zq ops j ≠ some s := fun j hj hL he => hs ⟨j, hj, hL, he⟩
      rw [ZV (s := s) rem a0.tmps hno]
      have hne : o.dst ≠ some s := by rw [<- hdk]; exact hno k hk (by simp [updL])
      have h2 := ZV (ops := ops) (vals := vals) (L := L) (s := s) rem a0.tmps (fun j hj hL => hno j hj (by simp [updL, hL]))
      rw [<- h2]
      cases hod : o.dst with
      | none => rfl
      | some d =>
        have : d ≠ s := fun e => hne (by rw [hod, e])
        simp [Act.put, Jw, this]
  have h1 : ((Jw ops a0 rem L vals).put o.dst v).tmps = JX ops (updL L k) (updV vals k v) rem a0.tmps := Array.ext_getElem? key
  have h2 : ((Jw ops a0 rem L vals).put o.dst v).defers = a0.defers := by cases o.dst <;> rfl
  have h3 : Jw ops a0 rem (updL L k) (updV vals k v) = ⟨((Jw ops a0 rem L vals).put o.dst v).tmps, ((Jw ops a0 rem L vals).put o.dst v).defers⟩ := by rw [h1, h2]; rfl
  exact h3.symm
end
def InvStep (P : Program) (md : Region.Mode) (ops : Array Oper) (Q : Exit -> Act -> World -> Prop) (a0 : Act) (rem : List Nat) (R : (Nat -> Bool) -> (Nat -> Value) -> World -> Prop) (k : Nat) : Prop :=
  ∀ o, ops[k]? = some o -> ∀ (L : Nat -> Bool) (vals : Nat -> Value) (w : World), L k = false -> (UE md ops rem k).all L = true -> R L vals w ->
    ∀ K : Act -> World -> Prop, (∀ v w', R (updL L k) (updV vals k v) w' -> K ((Jw ops a0 rem L vals).put o.dst v) w') ->
    if Region.wanted o (yielded ops (Jw ops a0 rem L vals).tmps) = true then Oper.wp P o (Jw ops a0 rem L vals) w K Q else K ((Jw ops a0 rem L vals).put o.dst undef) w
theorem Ms {L : Nat -> Bool} {k : Nat} : ∀ (rem : List Nat), rem.Nodup -> k ∈ rem -> L k = false -> (rem.filter fun j => !updL L k j).length + 1 = (rem.filter fun j => !L j).length
  | [], _, h, _ => by cases h
  | j :: r, hn, hm, hL => by
    have hn' := List.nodup_cons.1 hn
    by_cases hjk : j = k
    . subst hjk
      have h1 : updL L j j = true := by simp [updL]
      have h2 : ∀ i ∈ r, (!updL L j i) = !L i := fun i hi => by
        have : i ≠ j := fun e => hn'.1 (e ▸ hi)
        simp [updL, this]
      simp only [List.filter_cons, h1, hL, Bool.not_true, Bool.not_false, if_true, Bool.false_eq_true, if_false, List.length_cons]
      rw [List.filter_congr h2]
    . have hk : k ∈ r := by
        rcases List.mem_cons.1 hm with h | h
        . exact absurd h.symm hjk
        . exact h
      have h1 : updL L k j = L j := by simp [updL, hjk]
      have ih := Ms r hn'.2 hk hL
      simp only [List.filter_cons, h1]
      split <;> (try simp only [List.length_cons]) <;> omega
theorem FP {P : Program} {md : Region.Mode} {ops : Array Oper} {Q : Exit -> Act -> World -> Prop} {S : World -> Prop} (a0 : Act) (rem : List Nat) (listed0 : Array Bool)
    (R : (Nat -> Bool) -> (Nat -> Value) -> World -> Prop) (hok : Rj md ops rem listed0 = true) (hS : ∀ L vals w, R L vals w -> S w)
    (hstep : ∀ k ∈ rem, InvStep P md ops Q a0 rem R k) (hend : ∀ L vals w, (∀ k ∈ rem, L k = true) -> R L vals w -> Q .normal (Jw ops a0 rem L vals) w) :
    ∀ (fuel : Nat) (listed : Array Bool) (L : Nat -> Bool) (vals : Nat -> Value) (w : World), listed.size = ops.size -> (∀ i < ops.size, listed.getD i true = (!rem.contains i || L i)) -> (rem.filter fun j => !L j).length = fuel -> R L vals w ->
      wpAnyH P md ops Q S fuel listed (Jw ops a0 rem L vals) w := by
  simp only [Rj, Bool.and_eq_true, decide_eq_true_eq, List.all_eq_true, List.mem_range] at hok
  obtain ⟨⟨⟨⟨⟨hsz, hls⟩, hlt⟩, hdd⟩, hor⟩, hnd⟩ := hok
  have hd : ∀ i ∈ rem, ∀ j ∈ rem, i ≠ j -> ∀ d, Zq ops i = some d -> Zq ops j ≠ some d := by
    intro i hi j hj hij d hdi
    have h := hdd i hi j hj
    rw [hdi] at h
    simp only [Bool.or_eq_true, beq_iff_eq, Bool.not_eq_true'] at h
    rcases h with h | h
    . exact absurd h hij
    . intro e; rw [e] at h; simp at h
  have hdone : ∀ L : Nat -> Bool, (∀ k ∈ rem, L k = true) -> ∀ listed : Array Bool, listed.size = ops.size -> (∀ i < ops.size, listed.getD i true = (!rem.contains i || L i)) -> Region.ready md ops listed = [] := by
    intro L hL listed hs hli
    rw [List.eq_nil_iff_forall_not_mem]
    intro i hi
    obtain ⟨h1, o, ho, _⟩ := mem_ready.1 hi
    have hilt : i < ops.size := (Array.getElem?_eq_some_iff.1 ho).1
    rw [hli i hilt] at h1
    by_cases hc : i ∈ rem
    . rw [hL i hc] at h1; simp at h1
    . simp [hc] at h1
  intro fuel
  induction fuel with
  | zero =>
    intro listed L vals w hs hli hf hR
    have hL : ∀ k ∈ rem, L k = true := by
      intro k hk
      cases h : L k with
      | true => rfl
      | false =>
        have : k ∈ rem.filter fun j => !L j := List.mem_filter.2 ⟨hk, by simp [h]⟩
        rw [List.length_eq_zero_iff.1 hf] at this
        cases this
    exact ⟨hdone L hL listed hs hli, hend L vals w hL hR⟩
  | succ fuel ih =>
    intro listed L vals w hs hli hf hR
    have hex : ∃ k ∈ rem, L k = false := by
      cases hl : rem.filter fun j => !L j with
      | nil => rw [hl] at hf; cases hf
      | cons k r =>
        have : k ∈ rem.filter fun j => !L j := by rw [hl]; simp
        obtain ⟨h1, h2⟩ := List.mem_filter.1 this
        exact ⟨k, h1, by simpa using h2⟩
    constructor
    . intro hr
      exfalso
      have hmin : ∀ n k, k <= n -> k ∈ rem -> L k = false -> False := by
        intro n
        induction n with
        | zero =>
          intro k hkn hk hLk
          have h0 : k ∈ Region.ready md ops listed := by
            have ho := hor k hk
            cases hok : ops[k]? with
            | none => rw [hok] at ho; cases ho
            | some o =>
              rw [hok] at ho
              refine mem_ready.2 ⟨?_, o, hok, ?_⟩
              . rw [hli k (hlt k hk)]; simp [hk, hLk]
              . intro e he hb
                have := Array.all_eq_true'.1 ho e he
                simp only [hb, Bool.not_true, Bool.false_or, decide_eq_true_eq] at this
                omega
          rw [hr] at h0; cases h0
        | succ n ihn =>
          intro k hkn hk hLk
          by_cases hall : ∀ j ∈ rem, j < k -> L j = true
          . have h0 : k ∈ Region.ready md ops listed := by
              have ho := hor k hk
              cases hok : ops[k]? with
              | none => rw [hok] at ho; cases ho
              | some o =>
                rw [hok] at ho
                refine mem_ready.2 ⟨?_, o, hok, ?_⟩
                . rw [hli k (hlt k hk)]; simp [hk, hLk]
                . intro e he hb
                  have hlt2 := Array.all_eq_true'.1 ho e he
                  simp only [hb, Bool.not_true, Bool.false_or, decide_eq_true_eq] at hlt2
                  have hes : e.on < ops.size := Nat.lt_trans hlt2 (hlt k hk)
                  have h1 := hli e.on hes
                  have h2 : listed.getD e.on true = true := by
                    rw [h1]
                    by_cases hc : e.on ∈ rem
                    . simp [hall e.on hc hlt2]
                    . simp [hc]
                  have h3 : e.on < listed.size := by omega
                  simp [Array.getD, h3] at h2 |-
                  exact h2
            rw [hr] at h0; cases h0
          . have : ∃ j, j ∈ rem /\ j < k /\ L j = false := by
              refine Classical.byContradiction fun hn => hall fun j hj hjk => ?_
              cases h : L j with
              | true => rfl
              | false => exact absurd ⟨j, hj, hjk, h⟩ hn
            obtain ⟨j, hj, hjk, hLj⟩ := this
            exact ihn j (by omega) hj hLj
      obtain ⟨k, hk, hLk⟩ := hex
      exact hmin k k lR hk hLk
    . intro i hi
      obtain ⟨h1, o, ho, h3⟩ := mem_ready.1 hi
      have hilt : i < ops.size := (Array.getElem?_eq_some_iff.1 ho).1
      rw [hli i hilt] at h1
      have hc : i ∈ rem /\ L i = false := by
        by_cases hc : i ∈ rem
        . simp [hc] at h1; exact ⟨hc, h1⟩
        . simp [hc] at h1
      have hdeps : (UE md ops rem i).all L = true := by
        rw [List.all_eq_true]
        intro j hj
        simp only [UE, ho, List.mem_filter, List.mem_map] at hj
        obtain ⟨⟨e, ⟨he, hb⟩, rfl⟩, hcr⟩ := hj
        have hm := h3 e (by simpa using he) hb
        have hlt2 := hor i hc.1
        rw [ho] at hlt2
        have hlt3 := Array.all_eq_true'.1 hlt2 e (by simpa using he)
        simp only [hb, Bool.not_true, Bool.false_or, decide_eq_true_eq] at hlt3
        have hes : e.on < ops.size := by omega
        have h4 := hli e.on hes
        have h5 : e.on < listed.size := by omega
        simp [Array.getD, h5] at hm h4
        rw [hm] at h4
        simpa [List.contains_iff_mem.1 hcr] using h4
      have st := hstep i hc.1 o ho L vals w hc.2 hdeps hR (fun a' w' => S w' /\ wpAnyH P md ops Q S fuel (listed.setIfInBounds i true) a' w') (fun v w' hR' => by
        rw [DS hc.1 ho hd v]
        refine ⟨hS _ _ _ hR', ih _ _ _ _ (by simpa using hs) ?_ ?_ hR'⟩
        . intro j hj
          by_cases hji : i = j
          . subst hji
            simp [Array.getD, hs, hilt, updL]
          . have := hli j hj
            have h6 : j < listed.size := by omega
            simp [Array.getD, h6] at this
            have hij : (j == i) = false := by simpa using Ne.symm hji
            simp [Array.getD, h6, hji, updL, hij, this]
        . have := Ms rem hnd hc.1 hc.2
          omega)
      unfold wpOp
      simp only [ho]
      split at st
      . next hw => rw [if_pos hw]; exact .inl st
      . next hw => rw [if_neg hw]; exact st
theorem Ks {ops : Array Oper} {a0 : Act} {vals : Nat -> Value} : ∀ (rem : List Nat) (t : Array Value), JX ops (fun _ => false) vals rem t = t
  | [], t => rfl
  | k :: r, t => by
    rw [JX]
    have : (match Zq ops k with | some d => t.setIfInBounds d (if (fun _ => false) k = true then vals k else t.getD d undef) | none => t) = t := by
      cases Zq ops k with
      | none => rfl
      | some d =>
        simp only [Bool.false_eq_true, if_false]
        refine Array.ext_getElem? fun s => ?_
        rw [Array.getElem?_setIfInBounds]
        split
        . next e => subst e; split
                    . next h => simp [h]
                    . next h => simp [h]
        . rfl
    rw [this, Ks (a0 := a0) r t]
theorem QY {P : Program} {md : Region.Mode} {ops : Array Oper} {Q : Exit -> Act -> World -> Prop} {S : World -> Prop} {a0 : Act} {w : World} {listed : Array Bool} {fuel : Nat} (rem : List Nat)
    (R : (Nat -> Bool) -> (Nat -> Value) -> World -> Prop) (hok : Rj md ops rem listed = true) (hf : rem.length = fuel) (hS : ∀ L vals w, R L vals w -> S w) (h0 : R (fun _ => false) (fun _ => undef) w)
    (hstep : ∀ k ∈ rem, InvStep P md ops Q a0 rem R k) (hend : ∀ L vals w, (∀ k ∈ rem, L k = true) -> R L vals w -> Q .normal (Jw ops a0 rem L vals) w) :
    wpAnyH P md ops Q S fuel listed a0 w := by
  have h := FP a0 rem listed R hok hS hstep hend fuel listed (fun _ => false) (fun _ => undef) w
    (by simp only [Rj, Bool.and_eq_true, decide_eq_true_eq] at hok; exact hok.1.1.1.1.1)
    (fun i hi => by
      simp only [Rj, Bool.and_eq_true, List.all_eq_true, List.mem_range, beq_iff_eq] at hok
      rw [hok.1.1.1.1.2 i hi]; simp)
    (by rw [show (rem.filter fun j => !(fun _ => false) j) = rem from List.filter_eq_self.2 (fun _ _ => rfl)]; exact hf) h0
  have e : Jw ops a0 rem (fun _ => false) (fun _ => undef) = a0 := by rw [Jw, Ks (a0 := a0)]
  rwa [e] at h
def QA (L : Nat -> Bool) (vals olds : Nat -> Value) (k : Nat) : Value := if L k = true then vals k else olds k
theorem Qe {L : Nat -> Bool} {vals olds : Nat -> Value} {k : Nat} (h : L k = true) : QA L vals olds k = vals k := if_pos h
def YG (L : Nat -> Bool) (vals olds : Nat -> Value) : List (Nat × Option Tmp) -> Array Value -> Array Value
  | [], t => t
  | (k, some d) :: r, t => YG L vals olds r (t.setIfInBounds d (QA L vals olds k))
  | (_, none) :: r, t => YG L vals olds r t
theorem Va {L : Nat -> Bool} {vals olds olds' : Nat -> Value} : ∀ (l : List (Nat × Option Tmp)) (t : Array Value), (∀ x ∈ l, olds x.1 = olds' x.1) -> YG L vals olds l t = YG L vals olds' l t
  | [], _, _ => rfl
  | (k, some d) :: r, t, h => by
    have hk : QA L vals olds k = QA L vals olds' k := by unfold QA; rw [h (k, some d) (by simp)]
    simp only [YG, hk]; exact Va r _ (fun x hx => h x (by simp [hx]))
  | (k, none) :: r, t, h => by simp only [YG]; exact Va r _ (fun x hx => h x (by simp [hx]))
theorem Xn {ops : Array Oper} (L : Nat -> Bool) (vals : Nat -> Value) : ∀ (rem : List Nat) (t : Array Value), rem.Nodup -> ∃ olds : Nat -> Value, JX ops L vals rem t = YG L vals olds (rem.map fun k => (k, Zq ops k)) t
  | [], t, _ => ⟨fun _ => undef, rfl⟩
  | k :: r, t, hn => by
    have hn' := List.nodup_cons.1 hn
    obtain ⟨olds, e⟩ := Xn (ops := ops) L vals r (match Zq ops k with | some d => t.setIfInBounds d (if L k = true then vals k else t.getD d undef) | none => t) hn'.2
    cases hd : Zq ops k with
    | none =>
      refine ⟨olds, ?_⟩
      rw [JX, e]; simp only [hd, List.map_cons, YG]
    | some d =>
      refine ⟨fun j => if j = k then t.getD d undef else olds j, ?_⟩
      have hs : (if L k = true then vals k else t.getD d undef) = QA L vals (fun j => if j = k then t.getD d undef else olds j) k := by simp [QA]
      rw [JX, e]; simp only [hd, List.map_cons, YG, <- hs]
      refine Va _ _ (fun x hx => ?_)
      obtain ⟨j, hj, rfl⟩ := List.mem_map.1 hx
      have : j ≠ k := fun e => hn'.1 (e ▸ hj)
      simp [this]
theorem InvStep.lit {P : Program} {md : Region.Mode} {ops : Array Oper} {Q : Exit -> Act -> World -> Prop} {a0 : Act} {rem : List Nat} {R : (Nat -> Bool) -> (Nat -> Value) -> World -> Prop} {k : Nat} {o : Oper} (ho : ops[k]? = some o)
    (deps : List Nat) (hdeps : UE md ops rem k = deps) (lst : List (Nat × Option Tmp)) (hl : (rem.map fun k => (k, Zq ops k)) = lst) (hn : rem.Nodup)
    (h : ∀ (L : Nat -> Bool) (vals olds : Nat -> Value) (w : World), L k = false -> deps.all L = true -> R L vals w ->
      ∀ K : Act -> World -> Prop, Shut (∀ v w', R (updL L k) (updV vals k v) w' -> K (Act.put ⟨YG L vals olds lst a0.tmps, a0.defers⟩ o.dst v) w') ->
      if Region.wanted o (yielded ops (YG L vals olds lst a0.tmps)) = true then Oper.wp P o ⟨YG L vals olds lst a0.tmps, a0.defers⟩ w K Q else K (Act.put ⟨YG L vals olds lst a0.tmps, a0.defers⟩ o.dst undef) w) : InvStep P md ops Q a0 rem R k := by
  intro o' ho' L vals w hL hd hR K hK
  obtain rfl := Option.some.inj (ho.symm.trans ho')
  obtain ⟨olds, e⟩ := Xn (ops := ops) L vals rem a0.tmps hn
  rw [hl] at e
  rw [hdeps] at hd
  have em : Jw ops a0 rem L vals = ⟨YG L vals olds lst a0.tmps, a0.defers⟩ := by rw [Jw, e]
  rw [em] at hK |-
  exact h L vals olds w hL hd hR K hK
theorem LW {ops : Array Oper} {Q : Exit -> Act -> World -> Prop} {a0 : Act} {rem : List Nat} {R : (Nat -> Bool) -> (Nat -> Value) -> World -> Prop} (lst : List (Nat × Option Tmp)) (hl : (rem.map fun k => (k, Zq ops k)) = lst) (hn : rem.Nodup)
    (h : ∀ (L : Nat -> Bool) (vals olds : Nat -> Value) (w : World), rem.all L = true -> R L vals w -> Q .normal ⟨YG L vals olds lst a0.tmps, a0.defers⟩ w) :
    ∀ L vals w, (∀ k ∈ rem, L k = true) -> R L vals w -> Q .normal (Jw ops a0 rem L vals) w := by
  intro L vals w hL hR
  obtain ⟨olds, e⟩ := Xn (ops := ops) L vals rem a0.tmps hn
  rw [hl] at e
  rw [Jw, e]
  exact h L vals olds w (List.all_eq_true.2 hL) hR
theorem RI (L : Nat -> Bool) (k : Nat) : updL L k k = true := by simp [updL]
theorem XN {L : Nat -> Bool} {k j : Nat} (h : (j == k) = false) : updL L k j = L j := by simp [updL, h]
theorem Nu (vals : Nat -> Value) (k : Nat) (v : Value) : updV vals k v k = v := if_pos rfl
theorem Hv {vals : Nat -> Value} {k j : Nat} {v : Value} (h : j ≠ k) : updV vals k v j = vals j := if_neg h
def Qs (L : Nat -> Bool) (vals olds : Nat -> Value) : List (Nat × Option Tmp) -> List Value -> List Value
  | [], t => t
  | (k, some d) :: r, t => Qs L vals olds r (t.set d (QA L vals olds k))
  | (_, none) :: r, t => Qs L vals olds r t
def setD (t : List Value) : Option Tmp -> Value -> List Value
  | some d, v => t.set d v
  | none, _ => t
theorem Xy {L : Nat -> Bool} {vals olds : Nat -> Value} : ∀ (l : List (Nat × Option Tmp)) (t : List Value), YG L vals olds l t.toArray = (Qs L vals olds l t).toArray
  | [], _ => rfl
  | (k, some d) :: r, t => by rw [YG, Qs, List.setIfInBounds_toArray, Xy r]
  | (k, none) :: r, t => by rw [YG, Qs, Xy r]
theorem Fo (t : List Value) (ds : List Deferred) (d : Option Tmp) (v : Value) : Act.put ⟨t.toArray, ds⟩ d v = ⟨(setD t d v).toArray, ds⟩ := by
  cases d with
  | none => rfl
  | some d => rw [Act.put, setD, List.setIfInBounds_toArray]
theorem Za {P : Program} {ops : Array Oper} {o : Oper} {a : Act} {w : World} {K : Act -> World -> Prop} {Q : Exit -> Act -> World -> Prop} (hg : o.guard = none) (h : if Region.wanted o (yielded ops a.tmps) = true then Oper.wp P o a w K Q else False) : Oper.wp P o a w K Q := by
  have hw : Region.wanted o (yielded ops a.tmps) = true := by simp [Region.wanted, hg]
  rwa [if_pos hw] at h
theorem InvStep.plain {P : Program} {md : Region.Mode} {ops : Array Oper} {Q : Exit -> Act -> World -> Prop} {T : List Value} {ds : List Deferred} {rem : List Nat} {R : (Nat -> Bool) -> (Nat -> Value) -> World -> Prop} {k : Nat} {o : Oper} (ho : ops[k]? = some o) (hg : o.guard = none)
    (deps : List Nat) (hdeps : UE md ops rem k = deps) (lst : List (Nat × Option Tmp)) (hl : (rem.map fun k => (k, Zq ops k)) = lst) (hn : rem.Nodup)
    (h : ∀ (L : Nat -> Bool) (vals olds : Nat -> Value) (w : World), L k = false -> deps.all L = true -> R L vals w ->
      ∀ K : Act -> World -> Prop, Shut (∀ v w', R (updL L k) (updV vals k v) w' -> K ⟨(setD (Qs L vals olds lst T) o.dst v).toArray, ds⟩ w') ->
      Oper.wp P o ⟨(Qs L vals olds lst T).toArray, ds⟩ w K Q) : InvStep P md ops Q ⟨T.toArray, ds⟩ rem R k := by
  refine InvStep.lit ho deps hdeps lst hl hn (fun L vals olds w hL hd hR K hK => ?_)
  have hw : Region.wanted o (yielded ops (YG L vals olds lst T.toArray)) = true := by simp [Region.wanted, hg]
  rw [if_pos hw]
  have h' := h L vals olds w hL hd hR K
  rw [Xy] at hK |-
  refine h' (fun v w' hr => ?_)
  rw [<- Fo]
  exact hK v w' hr
theorem JI {ops : Array Oper} {Q : Exit -> Act -> World -> Prop} {T : List Value} {ds : List Deferred} {rem : List Nat} {R : (Nat -> Bool) -> (Nat -> Value) -> World -> Prop} (lst : List (Nat × Option Tmp)) (hl : (rem.map fun k => (k, Zq ops k)) = lst) (hn : rem.Nodup)
    (h : ∀ (L : Nat -> Bool) (vals olds : Nat -> Value) (w : World), rem.all L = true -> R L vals w -> Q .normal ⟨(Qs L vals olds lst T).toArray, ds⟩ w) :
    ∀ L vals w, (∀ k ∈ rem, L k = true) -> R L vals w -> Q .normal (Jw ops ⟨T.toArray, ds⟩ rem L vals) w :=
  LW lst hl hn (fun L vals olds w ha hr => by rw [Xy]; exact h L vals olds w ha hr)
theorem ZU {P : Program} {md : Region.Mode} {l : List Oper} {Q : Exit -> Act -> World -> Prop} {S : World -> Prop} {fuel : Nat} {B : List Bool} {T : List Value} {ds : List Deferred} {w : World} (i : Nat) {oi : Oper} {v : Value} (hi : l[i]? = some oi) (hg : oi.guard = none)
    (hs : Region.noSelect l.toArray = true) (hf : Region.free md l.toArray B.toArray i = true) (hr : (Region.ready md l.toArray B.toArray).contains i = true)
    (hQ : ∀ c a w, Q (.panic c) (a.put oi.dst v) w -> Q (.panic c) a w) (hv : ∀ w, S w -> (execOp (Act.eval ⟨T.toArray, ds⟩) oi).run P w = .ok (.value v) w) (hS : S w)
    (h : wpAnyH P md l.toArray Q S fuel (B.set i true).toArray ⟨(setD T oi.dst v).toArray, ds⟩ w) : wpAnyH P md l.toArray Q S (fuel + 1) B.toArray ⟨T.toArray, ds⟩ w := by
  refine wpAnyH_take (i := i) (oi := oi) (v := v) (by simpa using hi) hs hf hr hQ (.inl ⟨by simp [Region.wanted, hg], hv⟩) hS ?_
  rw [Fo, List.setIfInBounds_toArray]
  exact h
theorem InvStep.list {P : Program} {md : Region.Mode} {l : List Oper} {Q : Exit -> Act -> World -> Prop} {T : List Value} {ds : List Deferred} {rem : List Nat} {R : (Nat -> Bool) -> (Nat -> Value) -> World -> Prop} {k : Nat} {o : Oper} (ho : l[k]? = some o) (hg : o.guard = none)
    (deps : List Nat) (hdeps : (deps.all (UE md l.toArray rem k).contains) = true) (lst : List (Nat × Option Tmp)) (hl : (rem.map fun k => (k, Zq l.toArray k)) = lst) (hn : rem.Nodup)
    (h : ∀ (L : Nat -> Bool) (vals olds : Nat -> Value) (w : World), L k = false -> deps.all L = true -> R L vals w ->
      ∀ K : Act -> World -> Prop, Shut (∀ v w', R (updL L k) (updV vals k v) w' -> K ⟨(setD (Qs L vals olds lst T) o.dst v).toArray, ds⟩ w') ->
      Oper.wp P o ⟨(Qs L vals olds lst T).toArray, ds⟩ w K Q) : InvStep P md l.toArray Q ⟨T.toArray, ds⟩ rem R k :=
  InvStep.plain (by simpa using ho) hg _ rfl lst hl hn (fun L vals olds w h1 h2 => h L vals olds w h1 (by
    rw [List.all_eq_true] at hdeps h2 |-
    exact fun j hj => h2 j (by simpa using hdeps j hj)))
end Go.Proofs.YtmnbheplkidfaaaGreatDoor
namespace Go.Proofs.YtmnbheplkidfaaaGreatDoor
open Go.Lib (hid)
open Go.RowKit Go.Shelf
structure But(P:Nat)(w w':World):Prop where
 os:w'.os=w.os
 tape:w'.tape=w.tape
 output:w'.output=w.output
 size:w.heap.size<=w'.heap.size
 block:∀k,k<w.heap.size->k≠P->w'.heap[k]? =w.heap[k]?
section
variable {P:Nat} {w w' w'':World}
theorem But.refl(P:Nat)(w:World):But P w w:=⟨rfl,rfl,rfl,lR,fun _ _ _=>rfl⟩
theorem But.trans(h:But P w w')(k:But P w' w''):But P w w'':=⟨k.os.trans h.os,k.tape.trans h.tape,k.output.trans h.output,lT h.size k.size,fun j hj hn=>(k.block j (lL hj h.size) hn).trans (h.block j hj hn)⟩
theorem But.of(h:Below w.heap.size w w'):But P w w':=⟨h.os,h.tape,h.output,h.size,fun j hj _=>h.block j hj⟩
theorem But.to(h:But P w w')(k:Below w'.heap.size w' w''):But P w w'':=h.trans (But.of k)
theorem But.set(h:But P w w')(i:Nat)(v:Value):But P w (w'.setCell ⟨P,i,none⟩ v):=⟨h.os,h.tape,h.output,by simpa [World.setCell] using h.size,fun j hj hn=>(Below.heap_setCell _ _ _ j hn).trans (h.block j hj hn)⟩
theorem But.below{B:Nat}(h:But P w w')(hP:B<=P)(hB:B<=w.heap.size):Below B w w':=⟨h.os,h.tape,h.output,h.size,fun j hj=>h.block j (by omega) (by omega)⟩
theorem But.keeps{B:Nat->Prop}(h:But P w w')(hB:∀k,B k->k<w.heap.size/\k≠P):Keeps B w w':=fun k _ hk ho _=>(h.block k (hB k hk).1 (hB k hk).2).trans ho
theorem But.cell(h:But P w w'){p:Addr}(hp:p.block<w.heap.size)(hn:p.block≠P):w'.cell? p=w.cell? p:=by
 simp only[World.cell?,h.block _ hp hn]
end
def ZY(E:Int):Tk:=⟨0,⟨#[]⟩,0,E⟩
def hdTk(E:Int):List Tk->Tk
 |[]=>ZY E
 |x::_=>x
abbrev tkV(x:Tk):Value:= .agg #[.int .i64 x.k,.string x.t,.int .i64 x.v,.int .i64 x.a]
def TkRow(w:World)(b o:Nat)(xs:List Tk):Prop:=∀(j:Nat) (x:Tk),xs[j]? =some x->x.t.size<=maxLen/\w.cell? ⟨b,o+j*4,none⟩=some (.int .i64 x.k)/\w.cell? ⟨b,o+j*4+1,none⟩=some (.string x.t)/\w.cell? ⟨b,o+j*4+2,none⟩=some (.int .i64 x.v)/\w.cell? ⟨b,o+j*4+3,none⟩=some (.int .i64 x.a)
def PaIs(P tb:Nat)(E:Int)(ts:List Tk)(w:World):Prop:=
 ∃o cap,Blk w P #[.slice (some ⟨tb,o,none⟩) (ts.length+1) cap] 101/\tb<w.heap.size/\tb≠P/\ts.length+1<=cap/\ts.length<=1000000/\TkRow w tb o (ts++[ZY E])
theorem PaIs.to{P tb:Nat}{E:Int}{ts:List Tk}{w w':World}(h:PaIs P tb E ts w)(k:Below w.heap.size w w'):PaIs P tb E ts w':=by
 obtain⟨o,cap,h1,h2,h3,h4,h5,h6⟩:=h
 have hP:=(gl h1)
 refine⟨o,cap,(k.block P hP).trans h1,lL h2 k.size,h3,h4,h5,fun j x hj=>?_⟩
 obtain⟨e0,e1,e2,e3,e4⟩:=h6 j x hj
 exact⟨e0,(k.cell (p:=⟨tb,_,none⟩) h2).trans e1,(k.cell (p:=⟨tb,_,none⟩) h2).trans e2,(k.cell (p:=⟨tb,_,none⟩) h2).trans e3,(k.cell (p:=⟨tb,_,none⟩) h2).trans e4⟩
def posE(E:Int)(ts:List Tk):Int:=(hdTk E ts).a
abbrev YT(e p:Int):List PanicEntry:=[{ v:= .iface 36 (.agg #[.int .i64 e,.int .i64 p]),recovered:=false }]
def Parsed{α:Type}(P tb:Nat)(E:Int)(w:World)(r:PR α)(G:World->α->Value->Prop)(e:Ending)(w':World):Prop:=
 match r with
 | .ok x ts=>(∃v,e= .returned v/\G w' x v)/\PaIs P tb E ts w'/\But P w w'
 | .bad err ts=>e= .panicked (YT err (posE E ts))/\But P w w'
theorem VJ{P tb:Nat}{E:Int}{ts:List Tk}{w:World}(h:PaIs P tb E ts w):∃o cap,w.cell? ⟨P,0,none⟩=some (.slice (some ⟨tb,o,none⟩) (ts.length+1) cap)/\w.frozen? ⟨P,0,none⟩=false/\(hdTk E ts).t.size<=maxLen/\w.cell? ⟨tb,o,none⟩=some (.int .i64 (hdTk E ts).k)/\w.cell? ⟨tb,o+1,none⟩=some (.string (hdTk E ts).t)/\w.cell? ⟨tb,o+2,none⟩=some (.int .i64 (hdTk E ts).v)/\w.cell? ⟨tb,o+3,none⟩=some (.int .i64 (hdTk E ts).a)/\ts.length<=1000000:=by
 obtain⟨o,cap,h1,h2,h3,h4,h5,h6⟩:=h
 have hh:(ts++[ZY E])[0]? =some (hdTk E ts):=by cases ts <;> rfl
 obtain⟨e0,e1,e2,e3,e4⟩:=h6 0 _ hh
 refine⟨o,cap,by simp[World.cell?,h1],Qc h1 0,e0,by simpa using e1,by simpa using e2,by simpa using e3,by simpa using e4,h5⟩
theorem My(x:Tk)(w:World):(Instr.field 99 (tkV x) 1).run Tryz.prog w= .ok (.string x.t) w:=by kernel_rfl
theorem Hw(x:Tk)(w:World):(Instr.field 99 (tkV x) 0).run Tryz.prog w= .ok (.int .i64 x.k) w:=by kernel_rfl
theorem Ek(x:Tk)(w:World):(Instr.field 99 (tkV x) 3).run Tryz.prog w= .ok (.int .i64 x.a) w:=by kernel_rfl
theorem c4{w:World}{X:Nat}{T:TypeId}{a b c d:Value}(h:w.heap[X]? =some (.cells #[a,b,c,d] T (0,0))):(w.cell? ⟨X,0,none⟩=some a/\w.cell? ⟨X,1,none⟩=some b/\w.cell? ⟨X,2,none⟩=some c/\w.cell? ⟨X,3,none⟩=some d)/\w.frozen? ⟨X,0,none⟩=false/\w.frozen? ⟨X,1,none⟩=false/\w.frozen? ⟨X,2,none⟩=false/\w.frozen? ⟨X,3,none⟩=false:=by
 refine⟨⟨?_,?_,?_,?_⟩,Qc h 0,Qc h 1,Qc h 2,Qc h 3⟩ <;> simp[World.cell?,h]
theorem fill4{w:World}{X:Nat}{T:TypeId}{a b c d:Value}(h:w.heap[X]? =some (.cells #[a,b,c,d] T (0,0)))(a' b' c' d':Value):((((w.setCell ⟨X,0,none⟩ a').setCell ⟨X,1,none⟩ b').setCell ⟨X,2,none⟩ c').setCell ⟨X,3,none⟩ d').heap[X]? =some (.cells #[a',b',c',d'] T (0,0)):=Qd (Qd (Qd (Qd h 0 a') 1 b') 2 c') 3 d'
theorem YM(P tb:Nat)(E:Int)(ts:List Tk)(w:World)(h:PaIs P tb E ts w):
 Calls Tryz.prog 76 #[.pointer (some ⟨P,0,none⟩)] w fun e w'=>e= .returned (tkV (hdTk E ts))/\Below w.heap.size w w':=by
 obtain⟨W1,hW1⟩:∃W1,w.alloc (.cells #[.int .i64 0,.string ⟨#[]⟩,.int .i64 0,.int .i64 0] 99)=W1:=⟨_,rfl⟩
 have hb1:=(made hW1).1
 have x1:=(made hW1).2
 obtain⟨o,cap,c0,-,hz,t0,t1,t2,t3,hl⟩:=VJ (h.to hb1)
 obtain⟨x,hx⟩:∃x,hdTk E ts=x:=⟨_,rfl⟩
 rw[hx] at t0 t1 t2 t3 hz |-
 obtain⟨n,hn⟩:∃n,ts.length=n:=⟨_,rfl⟩
 rw[hn] at c0 hl
 have HW1:=hid hW1
 have HB1:=hid hb1
 have HX1:=hid x1
 obtain⟨⟨y0,y1,y2,y3⟩,z0,z1,z2,z3⟩:=c4 x1
 clear hW1 hb1 x1 h hx hn
 go_enter Tryz.func76,Tryz.ntmps76
 go_upto_region 1 with fail
 rw[HW1.out]
 go_wp2_with fail
 obtain⟨⟨q0,q1,q2,q3⟩,_⟩:=c4 (fill4 HX1.out (.int .i64 x.k) (.string x.t) (.int .i64 x.v) (.int .i64 x.a))
 refine bodyPost_ret (v:=tkV x) (by simp[results,Tryz.results76,go_sem,q0,q1,q2,q3]) rfl ?_
 exact⟨rfl,(((HB1.out.setCell (p:=⟨w.heap.size,0,none⟩) lR _).setCell (p:=⟨w.heap.size,1,none⟩) lR _).setCell (p:=⟨w.heap.size,2,none⟩) lR _).setCell (p:=⟨w.heap.size,3,none⟩) lR _⟩
theorem YK(P tb:Nat)(E:Int)(x:Tk)(ts:List Tk)(w:World)(h:PaIs P tb E (x::ts) w):
 Calls Tryz.prog 77 #[.pointer (some ⟨P,0,none⟩)] w fun e w'=>e= .returned (.tuple #[])/\PaIs P tb E ts w'/\But P w w':=by
 obtain⟨o,cap,h1,h2,h3,h4,h5,h6⟩:=h
 have c0:w.cell? ⟨P,0,none⟩=some (.slice (some ⟨tb,o,none⟩) (ts.length+1+1) cap):=by simp[World.cell?,h1]
 have f0:=Qc h1 0
 rw[List.length_cons] at h4 h5
 obtain⟨n,hn⟩:∃n,ts.length=n:=⟨_,rfl⟩
 rw[hn] at c0 h4 h5
 have HX:=hid h1
 have H6:=hid h6
 have HN:=hid hn
 clear h1 h6 hn
 go_enter Tryz.func77,Tryz.ntmps77
 go_wp2_with fail
 go_end0
 refine⟨rfl,⟨o+4,cap-1,?_,by simpa [World.setCell] using h2,h3,by rw[HN.out];omega,by rw[HN.out];omega,fun j y hj=>?_⟩,(But.refl P w).set 0 _⟩
 ·rw[HN.out];exact Qd HX.out 0 _
 ·obtain⟨e0,e1,e2,e3,e4⟩:=H6.out (j+1) y (by simpa using hj)
  have hk:∀i,(w.setCell ⟨P,0,none⟩ (.slice (some ⟨tb,o+4,none⟩) (n+1) (cap-1))).cell? ⟨tb,i,none⟩=w.cell? ⟨tb,i,none⟩:=fun i=>by
   have h:(w.setCell ⟨P,0,none⟩ (.slice (some ⟨tb,o+4,none⟩) (n+1) (cap-1))).heap[tb]? =w.heap[tb]? :=Below.heap_setCell _ _ _ tb h3
   simp only[World.cell?,h]
  have ea:o+4+j*4=o+(j+1)*4:=by omega
  refine⟨e0,?_,?_,?_,?_⟩
  ·rw[hk,ea];exact e1
  ·rw[hk,ea];exact e2
  ·rw[hk,ea];exact e3
  ·rw[hk,ea];exact e4
theorem Zo(P tb:Nat)(E:Int)(ts:List Tk)(err:Int)(w:World)(h:PaIs P tb E ts w):
 Calls Tryz.prog 49 #[.pointer (some ⟨P,0,none⟩),.int .i64 err] w fun e w'=>e= .panicked (YT err (posE E ts))/\But P w w':=by
 have HN:=hid (YM P tb E ts w h)
 have hf0:=Hw
 have hf1:=My
 have hf3:=Ek
 clear h
 go_enter Tryz.func49,Tryz.ntmps49
 go_wp2_with (go_at_call 76;refine HN.out.mono ?_;rintro en w1⟨rfl,hb1⟩;have HB1:=hid hb1;clear hb1)
 exact⟨rfl,rfl,But.of HB1.out⟩
theorem MI(P tb:Nat)(E:Int)(s:ByteArray)(hs:((⟨#[]⟩:ByteArray).toList==s.toList)=false)(ts:List Tk)(w:World)(h:PaIs P tb E ts w):
 Calls Tryz.prog 50 #[.pointer (some ⟨P,0,none⟩),.string s] w fun e w'=>e= .returned (.bool (hd s ts))/\PaIs P tb E (if hd s ts=true then ts.tail else ts) w'/\But P w w':=by
 have HN:=hid (YM P tb E ts w h)
 have hf0:=Hw
 have hf1:=My
 have hf3:=Ek
 have HH:=hid h
 have h0:=h
 obtain⟨_,_,_,_,hz,_⟩:=VJ h
 clear h
 cases hh:hd s ts with
 |false=>
  have hne:((hdTk E ts).t.toList==s.toList)=false:=by
   cases ts with
   |nil=>exact hs
   |cons x r=>exact hh
  obtain⟨x,hx⟩:∃x,hdTk E ts=x:=⟨_,rfl⟩
  rw[hx] at hne HN hz
  clear hh hx
  go_enter Tryz.func50,Tryz.ntmps50
  go_wp2_with (go_at_call 76;refine HN.out.mono ?_;rintro en w1⟨rfl,hb1⟩;have HB1:=hid hb1;clear hb1)
  go_ret
  exact⟨rfl,by simpa using HH.out.to HB1.out,But.of HB1.out⟩
 |true=>
  match ts,h0,hh with
  |x::r,h0,hh=>
   have hne:(x.t.toList==s.toList)=true:=hh
   have HX:=hid h0
   have HNX:Hid (Calls Tryz.prog 76 #[.pointer (some ⟨P,0,none⟩)] w fun e w'=>e= .returned (tkV x)/\Below w.heap.size w w'):=HN
   clear hh h0 HN
   go_enter Tryz.func50,Tryz.ntmps50
   go_wp2_with (first|(go_at_call 76;refine HNX.out.mono ?_;rintro en w1⟨rfl,hb1⟩;have HB1:=hid hb1;clear hb1)|(go_at_call 77;refine(YK P tb E x r _ (HX.out.to HB1.out)).mono ?_;rintro en w2⟨rfl,hp2,hb2⟩;have HP2:=hid hp2;have HB2:=hid hb2;clear hp2 hb2))
   go_ret
   exact⟨rfl,by simpa using HP2.out,(But.of HB1.out).trans HB2.out⟩
end Go.Proofs.YtmnbheplkidfaaaGreatDoor
namespace Go.Proofs.YtmnbheplkidfaaaGreatDoor
open Go.RowKit Go.Deep Go.Shelf
theorem Xo(e p:Int)(w:World):(Instr.typeAssert (.iface 36 (.agg #[.int .i64 e,.int .i64 p])) 20 36 false).run Tryz.prog w= .ok (.agg #[.int .i64 e,.int .i64 p]) w:=by kernel_rfl
theorem ZM(X:Nat)(e p e0 p0:Int)(older:List PanicEntry)(w:World)(hX:Blk w X #[.int .i64 e0,.int .i64 p0] 36):
 CallsD Tryz.prog 67 #[.pointer (some ⟨X,0,none⟩)] (.panicking ({ v:= .iface 36 (.agg #[.int .i64 e,.int .i64 p]),recovered:=false }::older)) w fun en u' w'=>
  en= .returned (.tuple #[])/\u'= .panicking ({ v:= .iface 36 (.agg #[.int .i64 e,.int .i64 p]),recovered:=true }::older)/\w'=(w.setCell ⟨X,0,none⟩ (.int .i64 e)).setCell ⟨X,1,none⟩ (.int .i64 p):=by
 have c0:w.cell? ⟨X,0,none⟩=some (.int .i64 e0):=by simp[World.cell?,hX]
 have c1:w.cell? ⟨X,1,none⟩=some (.int .i64 p0):=by simp[World.cell?,hX]
 have f0:=Qc hX 0
 have f1:=Qc hX 1
 have hta:=Xo
 clear hX
 refine callsD_of_wpS Tryz.func67 rfl fun c₀ cs hu=>?_
 apply wpS_seq
 apply wpS_region
 simp[wpOpsS,go_sem,recoverD,hu,Tryz.ntmps67,Exit.thenS]
 refine wpS_of_wp ?_
 simp only[List.setIfInBounds_toArray,Array.replicate_succ,Array.replicate_zero,List.push_toArray,List.append_toArray,List.nil_append,List.cons_append,sS,sZ]
 go_wp2_with fail
 simp[bodyPostS,results,Tryz.results67]
theorem GR(X:Nat)(w:World):
 CallsD Tryz.prog 67 #[.pointer (some ⟨X,0,none⟩)] .returning w fun en u' w'=>en= .returned (.tuple #[])/\u'= .returning/\w'=w:=by
 refine callsD_of_wpS Tryz.func67 rfl fun c₀ cs hu=>?_
 apply wpS_seq
 apply wpS_region
 simp[wpOpsS,go_sem,recoverD,hu,Tryz.ntmps67,Exit.thenS]
 refine wpS_of_wp ?_
 simp only[List.setIfInBounds_toArray,Array.replicate_succ,Array.replicate_zero,List.push_toArray,List.append_toArray,List.nil_append,List.cons_append,sS,sZ]
 go_wp2_with fail
 cases c₀
 simp_all [bodyPostS,results,Tryz.results67]
theorem ZN(X:Nat)(e p e0 p0:Int)(older:List PanicEntry)(w:World)(hX:Blk w X #[.int .i64 e0,.int .i64 p0] 36):
 CallsD Tryz.prog 64 #[.pointer (some ⟨X,0,none⟩)] (.panicking ({ v:= .iface 36 (.agg #[.int .i64 e,.int .i64 p]),recovered:=false }::older)) w fun en u' w'=>
  en= .returned (.tuple #[])/\u'= .panicking ({ v:= .iface 36 (.agg #[.int .i64 e,.int .i64 p]),recovered:=true }::older)/\w'=(w.setCell ⟨X,0,none⟩ (.int .i64 e)).setCell ⟨X,1,none⟩ (.int .i64 p):=by
 have c0:w.cell? ⟨X,0,none⟩=some (.int .i64 e0):=by simp[World.cell?,hX]
 have c1:w.cell? ⟨X,1,none⟩=some (.int .i64 p0):=by simp[World.cell?,hX]
 have f0:=Qc hX 0
 have f1:=Qc hX 1
 have hta:=Xo
 clear hX
 refine callsD_of_wpS Tryz.func64 rfl fun c₀ cs hu=>?_
 apply wpS_seq
 apply wpS_region
 simp[wpOpsS,go_sem,recoverD,hu,Tryz.ntmps64,Exit.thenS]
 refine wpS_of_wp ?_
 simp only[List.setIfInBounds_toArray,Array.replicate_succ,Array.replicate_zero,List.push_toArray,List.append_toArray,List.nil_append,List.cons_append,sS,sZ]
 go_wp2_with fail
 simp[bodyPostS,results,Tryz.results64]
theorem GS(X:Nat)(w:World):
 CallsD Tryz.prog 64 #[.pointer (some ⟨X,0,none⟩)] .returning w fun en u' w'=>en= .returned (.tuple #[])/\u'= .returning/\w'=w:=by
 refine callsD_of_wpS Tryz.func64 rfl fun c₀ cs hu=>?_
 apply wpS_seq
 apply wpS_region
 simp[wpOpsS,go_sem,recoverD,hu,Tryz.ntmps64,Exit.thenS]
 refine wpS_of_wp ?_
 simp only[List.setIfInBounds_toArray,Array.replicate_succ,Array.replicate_zero,List.push_toArray,List.append_toArray,List.nil_append,List.cons_append,sS,sZ]
 go_wp2_with fail
 cases c₀
 simp_all [bodyPostS,results,Tryz.results64]
theorem ZO(X:Nat)(e p e0 p0:Int)(older:List PanicEntry)(w:World)(hX:Blk w X #[.int .i64 e0,.int .i64 p0] 36):
 CallsD Tryz.prog 47 #[.pointer (some ⟨X,0,none⟩)] (.panicking ({ v:= .iface 36 (.agg #[.int .i64 e,.int .i64 p]),recovered:=false }::older)) w fun en u' w'=>
  en= .returned (.tuple #[])/\u'= .panicking ({ v:= .iface 36 (.agg #[.int .i64 e,.int .i64 p]),recovered:=true }::older)/\w'=(w.setCell ⟨X,0,none⟩ (.int .i64 e)).setCell ⟨X,1,none⟩ (.int .i64 p):=by
 have c0:w.cell? ⟨X,0,none⟩=some (.int .i64 e0):=by simp[World.cell?,hX]
 have c1:w.cell? ⟨X,1,none⟩=some (.int .i64 p0):=by simp[World.cell?,hX]
 have f0:=Qc hX 0
 have f1:=Qc hX 1
 have hta:=Xo
 clear hX
 refine callsD_of_wpS Tryz.func47 rfl fun c₀ cs hu=>?_
 apply wpS_seq
 apply wpS_region
 simp[wpOpsS,go_sem,recoverD,hu,Tryz.ntmps47,Exit.thenS]
 refine wpS_of_wp ?_
 simp only[List.setIfInBounds_toArray,Array.replicate_succ,Array.replicate_zero,List.push_toArray,List.append_toArray,List.nil_append,List.cons_append,sS,sZ]
 go_wp2_with fail
 simp[bodyPostS,results,Tryz.results47]
theorem GT(X:Nat)(w:World):
 CallsD Tryz.prog 47 #[.pointer (some ⟨X,0,none⟩)] .returning w fun en u' w'=>en= .returned (.tuple #[])/\u'= .returning/\w'=w:=by
 refine callsD_of_wpS Tryz.func47 rfl fun c₀ cs hu=>?_
 apply wpS_seq
 apply wpS_region
 simp[wpOpsS,go_sem,recoverD,hu,Tryz.ntmps47,Exit.thenS]
 refine wpS_of_wp ?_
 simp only[List.setIfInBounds_toArray,Array.replicate_succ,Array.replicate_zero,List.push_toArray,List.append_toArray,List.nil_append,List.cons_append,sS,sZ]
 go_wp2_with fail
 cases c₀
 simp_all [bodyPostS,results,Tryz.results47]
end Go.Proofs.YtmnbheplkidfaaaGreatDoor
namespace Go.Proofs.YtmnbheplkidfaaaGreatDoor
open Go.Lib (hid)
open Go.RowKit Go.Shelf
def GU(_:World)(_:Unit)(v:Value):Prop:=v= .tuple #[]
def GStr(_:World)(s:ByteArray)(v:Value):Prop:=v= .string s/\s.size<=maxLen
def GInt(_:World)(x:Int)(v:Value):Prop:=v= .int .i64 x
theorem PaIs.lt{P tb:Nat}{E:Int}{ts:List Tk}{w:World}(h:PaIs P tb E ts w):P<w.heap.size:=by
 obtain⟨o,cap,h1,_⟩:=h
 exact(gl h1)
theorem Env.but{B P:Nat}{w w':World}(h:Env B w)(k:But P w w')(hP:B<=P):Env B w':=h.below (k.below hP h.size)
theorem Qv(P tb:Nat)(E:Int)(s:ByteArray)(hs:((⟨#[]⟩:ByteArray).toList==s.toList)=false)(ts:List Tk)(w:World)(h:PaIs P tb E ts w):
 Calls Tryz.prog 52 #[.pointer (some ⟨P,0,none⟩),.string s] w (Parsed P tb E w (need s ts) GU):=by
 have HT:=hid (MI P tb E s hs ts w h)
 unfold need
 clear h
 cases hh:hd s ts with
 |true=>
  rw[hh] at HT
  clear hh
  go_enter Tryz.func52,Tryz.ntmps52
  go_wp2_with (go_at_call 50;refine HT.out.mono ?_;rintro en w1⟨rfl,hp1,hb1⟩;have HP1:=hid hp1;have HB1:=hid hb1;clear hp1 hb1)
  go_end0
  exact⟨⟨_,rfl,rfl⟩,by simpa using HP1.out,HB1.out⟩
 |false=>
  rw[hh] at HT
  clear hh
  go_enter Tryz.func52,Tryz.ntmps52
  go_wp2_with (first|(go_at_call 50;refine HT.out.mono ?_;rintro en w1⟨rfl,hp1,hb1⟩;have HP1:Hid (PaIs P tb E ts w1):=hid (by simpa using hp1);have HB1:=hid hb1;clear hp1 hb1)|(go_at_call 49;refine(Zo P tb E ts 1 _ HP1.out).mono ?_;rintro en w2⟨rfl,hb2⟩;have HB2:=hid hb2;clear hb2))
  exact⟨rfl,rfl,HB1.out.trans HB2.out⟩
theorem JW(P tb:Nat)(E:Int)(ts:List Tk)(w:World)(h:PaIs P tb E ts w):
 Calls Tryz.prog 48 #[.pointer (some ⟨P,0,none⟩)] w (Parsed P tb E w (if ts=[] then .ok () [] else .bad 1 ts) GU):=by
 have HH:=hid h
 obtain⟨o,cap,c0,-,-,-,-,-,-,hl⟩:=VJ h
 have HF:=hid (Zo P tb E ts 1 w h)
 clear h
 cases ts with
 |nil=>
  rw[if_pos rfl]
  go_enter Tryz.func48,Tryz.ntmps48
  go_wp2_with fail
  go_end0
  exact⟨⟨_,rfl,rfl⟩,HH.out,But.refl _ _⟩
 |cons x r=>
  rw[if_neg (by simp)]
  obtain⟨n,hn⟩:∃n,r.length=n:=⟨_,rfl⟩
  rw[List.length_cons,hn] at c0 hl
  have hd:decide (1<n+1+1)=true:=by simp
  have hd':decide ((1:Int)<(n:Int)+1+1)=true:=by simp;omega
  clear hn
  go_enter Tryz.func48,Tryz.ntmps48
  go_wp2_with (go_at_call 49;refine HF.out.mono ?_;rintro en w2⟨rfl,hb2⟩;have HB2:=hid hb2;clear hb2)
  exact⟨rfl,rfl,HB2.out⟩
theorem Ya(P tb:Nat)(E:Int)(ts:List Tk)(B:Nat)(w:World)(he:Env B w)(h:PaIs P tb E ts w):
 Calls Tryz.prog 78 #[.pointer (some ⟨P,0,none⟩)] w (Parsed P tb E w (Qk Qb ts) GStr):=by
 have HN:=hid (YM P tb E ts w h)
 have HE:=hid he
 have hf1:=My
 have HH:=hid h
 obtain⟨_,_,_,_,hz,_⟩:=VJ h
 clear h he
 cases ts with
 |nil=>
  have hn:Qb (hdTk E []).t=false:=show Qb ⟨#[]⟩=false by decide+kernel
  have HNM:=hid (fun W hW=>Fw (hdTk E []).t hz B W hW)
  rw[hn] at HNM
  clear hn
  obtain⟨x,hx⟩:∃x,hdTk E []=x:=⟨_,rfl⟩
  rw[hx] at HN HNM hz
  clear hx
  go_enter Tryz.func78,Tryz.ntmps78
  go_wp2_with (first|(go_at_call 76;refine HN.out.mono ?_;rintro en w1⟨rfl,hb1⟩;have HB1:=hid hb1;have HP1:=hid (HH.out.to HB1.out);clear hb1)|(go_at_call 108;refine(HNM.out _ (HE.out.to HB1.out)).mono ?_;rintro en w2⟨rfl,rfl⟩)|(go_at_call 49;refine(Zo P tb E [] 1 _ HP1.out).mono ?_;rintro en w8⟨rfl,hb8⟩;have HB8:=hid hb8;clear hb8))
  exact⟨rfl,rfl,(But.of HB1.out).trans HB8.out⟩
 |cons x r=>
  have hz':x.t.size<=maxLen:=hz
  obtain⟨b,hb⟩:∃b,Qb x.t=b:=⟨_,rfl⟩
  have HNM:=hid (fun W hW=>Fw x.t hz' B W hW)
  rw[hb] at HNM
  replace HN:Hid (Calls Tryz.prog 76 #[.pointer (some ⟨P,0,none⟩)] w fun e w'=>e= .returned (tkV x)/\Below w.heap.size w w'):=HN
  cases b with
  |true=>
   have e:Qk Qb (x::r)= .ok x.t r:=by rw[Qk,if_pos hb]
   rw[e]
   clear e hb hz
   go_enter Tryz.func78,Tryz.ntmps78
   go_wp2_with (first|(go_at_call 76;refine HN.out.mono ?_;rintro en w1⟨rfl,hb1⟩;have HB1:=hid hb1;have HP1:=hid (HH.out.to HB1.out);clear hb1)|(go_at_call 108;refine(HNM.out _ (HE.out.to HB1.out)).mono ?_;rintro en w2⟨rfl,rfl⟩)|(go_at_call 77;refine(YK P tb E x r _ HP1.out).mono ?_;rintro en w9⟨rfl,hp9,hb9⟩;have HP9:=hid hp9;have HB9:=hid hb9;clear hp9 hb9))
   go_ret
   exact⟨⟨_,rfl,rfl,hz'⟩,HP9.out,(But.of HB1.out).trans HB9.out⟩
  |false=>
   have e:Qk Qb (x::r)= .bad 1 (x::r):=by rw[Qk,if_neg (by rw[hb];simp)]
   rw[e]
   clear e hb hz
   go_enter Tryz.func78,Tryz.ntmps78
   go_wp2_with (first|(go_at_call 76;refine HN.out.mono ?_;rintro en w1⟨rfl,hb1⟩;have HB1:=hid hb1;have HP1:=hid (HH.out.to HB1.out);clear hb1)|(go_at_call 108;refine(HNM.out _ (HE.out.to HB1.out)).mono ?_;rintro en w2⟨rfl,rfl⟩)|(go_at_call 49;refine(Zo P tb E (x::r) 1 _ HP1.out).mono ?_;rintro en w8⟨rfl,hb8⟩;have HB8:=hid hb8;clear hb8))
   exact⟨rfl,rfl,(But.of HB1.out).trans HB8.out⟩
theorem XV(P tb:Nat)(E:Int)(ts:List Tk)(w:World)(h:PaIs P tb E ts w):
 Calls Tryz.prog 123 #[.pointer (some ⟨P,0,none⟩)] w (Parsed P tb E w (QO ts) GInt):=by
 have HN:=hid (YM P tb E ts w h)
 have HH:=hid h
 clear h
 obtain⟨⟨k,t,v,a⟩,hx⟩:∃x,hdTk E ts=x:=⟨_,rfl⟩
 rw[hx] at HN
 by_cases hk:k=2
 case neg=>
  have e:QO ts= .bad 1 ts:=by
   cases ts with
   |nil=>rfl
   |cons y r=>obtain rfl:y=⟨k,t,v,a⟩:=hx;rw[QO,if_pos (.inl hk)]
  rw[e]
  have hk1:(k==2)=false:=by simpa using hk
  have hk2:(k != 2)=true:=by simpa using hk
  clear e hk hx
  go_enter Tryz.func123,Tryz.ntmps123
  go_upto_region 2 with(go_at_call 76;refine HN.out.mono ?_;rintro en w1⟨rfl,hb1⟩;have HB1:=hid hb1;have HP1:=hid (HH.out.to HB1.out);clear hb1)
  obtain⟨W2,hW2⟩:∃W2,w1.alloc (.cells #[.int .i64 k,.string t,.int .i64 v,.int .i64 a] 99)=W2:=⟨_,rfl⟩
  have hb2:=(made hW2).1
  have x2:=(made hW2).2
  obtain⟨⟨c0,c1,c2,c3⟩,-⟩:=c4 x2
  have HP2:=hid (HP1.out.to hb2)
  have HB2:=hid hb2
  have HX2:=hid x2
  have hne:w1.heap.size≠P:=fun e=>by have:=HH.out.lt;have:=HB1.out.size;omega
  have hs2:w1.heap.size<W2.heap.size:=(gl x2)
  rw[hW2]
  clear hW2 hb2 x2
  go_wp2_with (go_at_call 49;refine(Zo P tb E ts 1 _ HP2.out).mono ?_;rintro en w8⟨rfl,hb8⟩;have HB8:=hid hb8;clear hb8)
  exact⟨rfl,rfl,((But.of HB1.out).to HB2.out).trans HB8.out⟩
 subst hk
 match ts,hx,HN,HH with
 |[],hx,_,_=>exact absurd (show(0:Int)=2 from congrArg Tk.k hx) (by decide)
 |y::r,hx,HN,HH=>
  obtain rfl:y=⟨2,t,v,a⟩:=hx
  clear hx
  by_cases hv:v<0
  ·have e:QO (⟨2,t,v,a⟩::r)= .bad 1 (⟨2,t,v,a⟩::r):=by rw[QO,if_pos (.inr hv)]
   rw[e]
   have hv1:decide (v<0)=true:=decide_eq_true hv
   clear e hv
   go_enter Tryz.func123,Tryz.ntmps123
   go_upto_region 2 with(go_at_call 76;refine HN.out.mono ?_;rintro en w1⟨rfl,hb1⟩;have HB1:=hid hb1;have HP1:=hid (HH.out.to HB1.out);clear hb1)
   obtain⟨W2,hW2⟩:∃W2,w1.alloc (.cells #[.int .i64 2,.string t,.int .i64 v,.int .i64 a] 99)=W2:=⟨_,rfl⟩
   have hb2:=(made hW2).1
   have x2:=(made hW2).2
   obtain⟨⟨c0,c1,c2,c3⟩,-⟩:=c4 x2
   have HP2:=hid (HP1.out.to hb2)
   have HB2:=hid hb2
   have HX2:=hid x2
   have hne:w1.heap.size≠P:=fun e=>by have:=HH.out.lt;have:=HB1.out.size;omega
   have hs2:w1.heap.size<W2.heap.size:=(gl x2)
   rw[hW2]
   clear hW2 hb2 x2
   go_wp2_with (go_at_call 49;refine(Zo P tb E _ 1 _ HP2.out).mono ?_;rintro en w8⟨rfl,hb8⟩;have HB8:=hid hb8;clear hb8)
   exact⟨rfl,rfl,((But.of HB1.out).to HB2.out).trans HB8.out⟩
  have hv1:decide (v<0)=false:=decide_eq_false hv
  by_cases hm:1000000<v
  ·have e:QO (⟨2,t,v,a⟩::r)= .bad 2 (⟨2,t,v,a⟩::r):=by rw[QO,if_neg (fun h=>h.elim (fun h=>h rfl) hv),if_pos hm]
   rw[e]
   have hm1:decide (1000000<v)=true:=decide_eq_true hm
   clear e hv hm
   go_enter Tryz.func123,Tryz.ntmps123
   go_upto_region 2 with(go_at_call 76;refine HN.out.mono ?_;rintro en w1⟨rfl,hb1⟩;have HB1:=hid hb1;have HP1:=hid (HH.out.to HB1.out);clear hb1)
   obtain⟨W2,hW2⟩:∃W2,w1.alloc (.cells #[.int .i64 2,.string t,.int .i64 v,.int .i64 a] 99)=W2:=⟨_,rfl⟩
   have hb2:=(made hW2).1
   have x2:=(made hW2).2
   obtain⟨⟨c0,c1,c2,c3⟩,-⟩:=c4 x2
   have HP2:=hid (HP1.out.to hb2)
   have HB2:=hid hb2
   have HX2:=hid x2
   have hne:w1.heap.size≠P:=fun e=>by have:=HH.out.lt;have:=HB1.out.size;omega
   have hs2:w1.heap.size<W2.heap.size:=(gl x2)
   rw[hW2]
   clear hW2 hb2 x2
   go_wp2_with (go_at_call 49;refine(Zo P tb E _ 2 _ HP2.out).mono ?_;rintro en w8⟨rfl,hb8⟩;have HB8:=hid hb8;clear hb8)
   exact⟨rfl,rfl,((But.of HB1.out).to HB2.out).trans HB8.out⟩
  ·have e:QO (⟨2,t,v,a⟩::r)= .ok v r:=by rw[QO,if_neg (fun h=>h.elim (fun h=>h rfl) hv),if_neg hm]
   rw[e]
   have hm1:decide (1000000<v)=false:=decide_eq_false hm
   clear e hv hm
   go_enter Tryz.func123,Tryz.ntmps123
   go_upto_region 2 with(go_at_call 76;refine HN.out.mono ?_;rintro en w1⟨rfl,hb1⟩;have HB1:=hid hb1;have HP1:=hid (HH.out.to HB1.out);clear hb1)
   obtain⟨W2,hW2⟩:∃W2,w1.alloc (.cells #[.int .i64 2,.string t,.int .i64 v,.int .i64 a] 99)=W2:=⟨_,rfl⟩
   have hb2:=(made hW2).1
   have x2:=(made hW2).2
   obtain⟨⟨c0,c1,c2,c3⟩,-⟩:=c4 x2
   have HP2:=hid (HP1.out.to hb2)
   have HB2:=hid hb2
   have HX2:=hid x2
   have hne:w1.heap.size≠P:=fun e=>by have:=HH.out.lt;have:=HB1.out.size;omega
   have hs2:w1.heap.size<W2.heap.size:=(gl x2)
   rw[hW2]
   clear hW2 hb2 x2
   go_wp2_with (go_at_call 77;refine(YK P tb E _ r _ HP2.out).mono ?_;rintro en w9⟨rfl,hp9,hb9⟩;have HP9:=hid hp9;have HB9:=hid hb9;have d2:=(hb9.cell (p:=⟨w1.heap.size,2,none⟩) hs2 hne).trans c2;clear hp9 hb9)
   go_ret
   exact⟨⟨_,rfl,rfl⟩,HP9.out,((But.of HB1.out).to HB2.out).trans HB9.out⟩
theorem NN(P tb:Nat)(E:Int)(ts:List Tk)(w:World)(h:PaIs P tb E ts w):
 Calls Tryz.prog 120 #[.pointer (some ⟨P,0,none⟩)] w (Parsed P tb E w (Zj ts) GInt):=by
 have HN:=hid (YM P tb E ts w h)
 have hf0:=Hw
 have HH:=hid h
 clear h
 obtain⟨⟨k,t,v,a⟩,hx⟩:∃x,hdTk E ts=x:=⟨_,rfl⟩
 rw[hx] at HN
 by_cases hk:k=2
 case neg=>
  have e:Zj ts= .ok 0 ts:=by
   cases ts with
   |nil=>rfl
   |cons y r=>obtain rfl:y=⟨k,t,v,a⟩:=hx;rw[Zj,if_pos hk]
  rw[e]
  have hk1:(k==2)=false:=by simpa using hk
  have hk2:(k != 2)=true:=by simpa using hk
  clear e hk hx
  go_enter Tryz.func120,Tryz.ntmps120
  go_wp2_with (go_at_call 76;refine HN.out.mono ?_;rintro en w1⟨rfl,hb1⟩;have HB1:=hid hb1;have HP1:=hid (HH.out.to HB1.out);clear hb1)
  go_ret
  exact⟨⟨_,rfl,rfl⟩,HP1.out,But.of HB1.out⟩
 subst hk
 match ts,hx,HN,HH with
 |[],hx,_,_=>exact absurd (show(0:Int)=2 from congrArg Tk.k hx) (by decide)
 |y::r,hx,HN,HH=>
  obtain rfl:y=⟨2,t,v,a⟩:=hx
  clear hx
  have e:Zj (⟨2,t,v,a⟩::r)=QO (⟨2,t,v,a⟩::r):=by rw[Zj,if_neg (fun h=>h rfl)]
  rw[e]
  clear e
  cases hr:QO (⟨2,t,v,a⟩::r) with
  |ok y s=>
   go_enter Tryz.func120,Tryz.ntmps120
   go_wp2_with (first|(go_at_call 76;refine HN.out.mono ?_;rintro en w1⟨rfl,hb1⟩;have HB1:=hid hb1;have HP1:=hid (HH.out.to HB1.out);clear hb1)|(go_at_call 123;refine(XV P tb E _ _ HP1.out).mono ?_;rw[hr];rintro en w7⟨⟨_,rfl,rfl⟩,hp7,hb7⟩;have HP7:=hid hp7;have HB7:=hid hb7;clear hp7 hb7))
   go_ret
   exact⟨⟨_,rfl,rfl⟩,HP7.out,(But.of HB1.out).trans HB7.out⟩
  |bad er s=>
   go_enter Tryz.func120,Tryz.ntmps120
   go_wp2_with (first|(go_at_call 76;refine HN.out.mono ?_;rintro en w1⟨rfl,hb1⟩;have HB1:=hid hb1;have HP1:=hid (HH.out.to HB1.out);clear hb1)|(go_at_call 123;refine(XV P tb E _ _ HP1.out).mono ?_;rw[hr];rintro en w7⟨rfl,hb7⟩;have HB7:=hid hb7;clear hb7))
   exact⟨rfl,rfl,(But.of HB1.out).trans HB7.out⟩
theorem Zm(P tb:Nat)(E:Int)(s:ByteArray)(hs:((⟨#[]⟩:ByteArray).toList==s.toList)=false)(ts:List Tk)(w:World)(hh:hd s ts=false)(h:PaIs P tb E ts w):
 Calls Tryz.prog 50 #[.pointer (some ⟨P,0,none⟩),.string s] w fun e w'=>e= .returned (.bool false)/\PaIs P tb E ts w'/\But P w w':=by
 have h:=MI P tb E s hs ts w h
 rw[hh] at h
 exact h
theorem JJ(P tb:Nat)(E:Int)(s:ByteArray)(hs:((⟨#[]⟩:ByteArray).toList==s.toList)=false)(ts:List Tk)(w:World)(hh:hd s ts=true)(h:PaIs P tb E ts w):
 Calls Tryz.prog 50 #[.pointer (some ⟨P,0,none⟩),.string s] w fun e w'=>e= .returned (.bool true)/\PaIs P tb E ts.tail w'/\But P w w':=by
 have h:=MI P tb E s hs ts w h
 rw[hh] at h
 exact h
def GTy(b:Nat)(w':World)(t:Ty)(v:Value):Prop:=TyVal (fun k=>b<=k/\k<w'.heap.size) w' v t
theorem noH{P tb:Nat}{E:Int}{s:ByteArray}{W1 W:World}{ts:List Tk}(HP:Hid (PaIs P tb E ts W))(HB:Hid (But P W1 W))(hs:((⟨#[]⟩:ByteArray).toList==s.toList)=false:=by decide+kernel)(hh:hd s ts=false:=by assumption):Calls Tryz.prog 50 #[.pointer (some ⟨P,0,none⟩),.string s] W fun e w'=>e= .returned (.bool false)/\Hid (PaIs P tb E ts w')/\Hid (But P W1 w'):=(Zm P tb E s hs ts W hh HP.out).mono (by rintro e w'⟨rfl,hp,hb⟩;exact⟨rfl,hid hp,hid (HB.out.trans hb)⟩)
theorem yesH{P tb:Nat}{E:Int}{s:ByteArray}{W1 W:World}{ts:List Tk}(HP:Hid (PaIs P tb E ts W))(HB:Hid (But P W1 W))(hs:((⟨#[]⟩:ByteArray).toList==s.toList)=false:=by decide+kernel)(hh:hd s ts=true:=by assumption):Calls Tryz.prog 50 #[.pointer (some ⟨P,0,none⟩),.string s] W fun e w'=>e= .returned (.bool true)/\Hid (PaIs P tb E ts.tail w')/\Hid (But P W1 w'):=(JJ P tb E s hs ts W hh HP.out).mono (by rintro e w'⟨rfl,hp,hb⟩;exact⟨rfl,hid hp,hid (HB.out.trans hb)⟩)
theorem expH{P tb:Nat}{E:Int}{s:ByteArray}{W1 W:World}{ts r:List Tk}{u:Unit}(HP:Hid (PaIs P tb E ts W))(HB:Hid (But P W1 W))(h:need s ts= .ok u r)(hs:((⟨#[]⟩:ByteArray).toList==s.toList)=false:=by decide+kernel):Calls Tryz.prog 52 #[.pointer (some ⟨P,0,none⟩),.string s] W fun e w'=>e= .returned (.tuple #[])/\Hid (PaIs P tb E r w')/\Hid (But P W1 w'):=(Qv P tb E s hs ts W HP.out).mono (by rw[h];rintro e w'⟨⟨_,rfl,rfl⟩,hp,hb⟩;exact⟨rfl,hid hp,hid (HB.out.trans hb)⟩)
theorem expB{P tb:Nat}{E er:Int}{s:ByteArray}{W1 W:World}{ts r:List Tk}(HP:Hid (PaIs P tb E ts W))(HB:Hid (But P W1 W))(h:need s ts= .bad er r)(hs:((⟨#[]⟩:ByteArray).toList==s.toList)=false:=by decide+kernel):Calls Tryz.prog 52 #[.pointer (some ⟨P,0,none⟩),.string s] W fun e w'=>e= .panicked (YT er (posE E r))/\Hid (But P W1 w'):=(Qv P tb E s hs ts W HP.out).mono (by rw[h];rintro e w'⟨rfl,hb⟩;exact⟨rfl,hid (HB.out.trans hb)⟩)
theorem namH{P tb B:Nat}{E:Int}{x:ByteArray}{W1 W:World}{ts r:List Tk}(he:Env B W)(HP:Hid (PaIs P tb E ts W))(HB:Hid (But P W1 W))(h:Qk Qb ts= .ok x r):Calls Tryz.prog 78 #[.pointer (some ⟨P,0,none⟩)] W fun e w'=>e= .returned (.string x)/\x.size<=maxLen/\Hid (PaIs P tb E r w')/\Hid (But P W1 w'):=(Ya P tb E ts B W he HP.out).mono (by rw[h];rintro e w'⟨⟨_,rfl,rfl,hz⟩,hp,hb⟩;exact⟨rfl,hz,hid hp,hid (HB.out.trans hb)⟩)
theorem namB{P tb B:Nat}{E er:Int}{W1 W:World}{ts r:List Tk}(he:Env B W)(HP:Hid (PaIs P tb E ts W))(HB:Hid (But P W1 W))(h:Qk Qb ts= .bad er r):Calls Tryz.prog 78 #[.pointer (some ⟨P,0,none⟩)] W fun e w'=>e= .panicked (YT er (posE E r))/\Hid (But P W1 w'):=(Ya P tb E ts B W he HP.out).mono (by rw[h];rintro e w'⟨rfl,hb⟩;exact⟨rfl,hid (HB.out.trans hb)⟩)
theorem GTy.open{b:Nat}{w':World}{t:Ty}{v:Value}(h:GTy b w' t v):∃la ln lc ka kn kc,v= .agg (cT t la ln lc ka kn kc):=by
 obtain⟨lv,kv,rfl,_,hl,hk⟩:=h
 obtain⟨la,ln,lc,rfl,_⟩:=hl.open
 obtain⟨ka,kn,kc,rfl,_⟩:=hk.open
 exact⟨_,_,_,_,_,_,rfl⟩
theorem GTy.but{b P:Nat}{w w':World}{t:Ty}{v:Value}(h:GTy b w t v)(hb:But P w w')(hP:P<b):GTy b w' t v:=
 (TyVal.keep (hb.keeps (fun k hk=>⟨hk.2,by omega⟩)) h).mono (fun k hk=>⟨hk.1,lL hk.2 hb.size⟩)
theorem GTy.mono{b c:Nat}{w:World}{t:Ty}{v:Value}(h:GTy b w t v)(hc:c<=b):GTy c w t v:=TyVal.mono (fun _ hk=>⟨lT hc hk.1,hk.2⟩) h
theorem GTy.leaf(b:Nat)(w:World)(k p s:Int)(n:ByteArray)(hn:n.size<=maxLen):GTy b w (.mk k p n s [] []) (.agg #[.int .i64 k,.int .i64 p,.string n,.int .i64 s,.slice none 0 0,.slice none 0 0]):=
 ⟨_,_,rfl,hn,⟨.inl ⟨⟨_,_,rfl⟩,rfl⟩,Nat.zero_le _,fun s hs=>by cases hs⟩,⟨.inl ⟨⟨_,_,rfl⟩,rfl⟩,Nat.zero_le _⟩⟩
theorem c6{w:World}{X:Nat}{T:TypeId}{a b c d e f:Value}(h:w.heap[X]? =some (.cells #[a,b,c,d,e,f] T (0,0))):(w.cell? ⟨X,0,none⟩=some a/\w.cell? ⟨X,1,none⟩=some b/\w.cell? ⟨X,2,none⟩=some c/\w.cell? ⟨X,3,none⟩=some d/\w.cell? ⟨X,4,none⟩=some e/\w.cell? ⟨X,5,none⟩=some f)/\w.frozen? ⟨X,0,none⟩=false/\w.frozen? ⟨X,1,none⟩=false/\w.frozen? ⟨X,2,none⟩=false/\w.frozen? ⟨X,3,none⟩=false/\w.frozen? ⟨X,4,none⟩=false/\w.frozen? ⟨X,5,none⟩=false:=by
 refine⟨⟨?_,?_,?_,?_,?_,?_⟩,Qc h 0,Qc h 1,Qc h 2,Qc h 3,Qc h 4,Qc h 5⟩ <;> simp[World.cell?,h]
abbrev put6(w:World)(X:Nat)(a b c d e f:Value):World:=(((((w.setCell ⟨X,0,none⟩ a).setCell ⟨X,1,none⟩ b).setCell ⟨X,2,none⟩ c).setCell ⟨X,3,none⟩ d).setCell ⟨X,4,none⟩ e).setCell ⟨X,5,none⟩ f
theorem ZB{w:World}{X:Nat}{T:TypeId}{a b c d e f:Value}(h:w.heap[X]? =some (.cells #[a,b,c,d,e,f] T (0,0)))(a' b' c' d' e' f':Value):(put6 w X a' b' c' d' e' f').heap[X]? =some (.cells #[a',b',c',d',e',f'] T (0,0)):=Qd (Qd (Qd (Qd (Qd (Qd h 0 a') 1 b') 2 c') 3 d') 4 e') 5 f'
theorem oth1(w:World){X k:Nat}(i:Nat)(v:Value)(h:k≠X):(w.setCell ⟨X,i,none⟩ v).heap[k]? =w.heap[k]? :=Below.heap_setCell _ _ _ k h
theorem ZS{w:World}{X k:Nat}(h:k≠X)(a b c d e f:Value):(put6 w X a b c d e f).heap[k]? =w.heap[k]? :=by
 rw[oth1 _ _ _ h,oth1 _ _ _ h,oth1 _ _ _ h,oth1 _ _ _ h,oth1 _ _ _ h,oth1 _ _ _ h]
theorem Yu(w:World)(X:Nat)(a b c d e f:Value):(put6 w X a b c d e f).heap.size=w.heap.size:=by simp[put6,World.setCell]
theorem PaIs.tlt{P tb:Nat}{E:Int}{ts:List Tk}{w:World}(h:PaIs P tb E ts w):tb<w.heap.size:=h.choose_spec.choose_spec.2.1
theorem But.setX{P X:Nat}{w w':World}(h:But P w w')(hX:w.heap.size<=X)(i:Nat)(v:Value):But P w (w'.setCell ⟨X,i,none⟩ v):=
 ⟨h.os,h.tape,h.output,by simpa [World.setCell] using h.size,fun j hj hn=>(Below.heap_setCell _ _ _ j (show j≠X by omega)).trans (h.block j hj hn)⟩
theorem But.put6{P X:Nat}{w w':World}(h:But P w w')(hX:w.heap.size<=X)(a b c d e f:Value):But P w (put6 w' X a b c d e f):=
 (((((h.setX hX 0 a).setX hX 1 b).setX hX 2 c).setX hX 3 d).setX hX 4 e).setX hX 5 f
theorem PaIs.oth{P X tb:Nat}{E:Int}{ts:List Tk}{w w':World}(h:PaIs P tb E ts w)(hk:∀k,k≠X->w'.heap[k]? =w.heap[k]?)(hs:w'.heap.size=w.heap.size)(hX:X≠P)(hne:tb≠X):PaIs P tb E ts w':=by
 obtain⟨o,cap,h1,h2,h3,h4,h5,h6⟩:=h
 refine⟨o,cap,(hk P (Ne.symm hX)).trans h1,by rw[hs];exact h2,h3,h4,h5,fun j x hj=>?_⟩
 obtain⟨e0,e1,e2,e3,e4⟩:=h6 j x hj
 have hb:=hk tb hne
 exact⟨e0,by simpa only[World.cell?,hb] using e1,by simpa only[World.cell?,hb] using e2,by simpa only[World.cell?,hb] using e3,by simpa only[World.cell?,hb] using e4⟩
def SessOK(P tb:Nat)(E:Int)(B:Nat)(S:List Tk->PR Ty)(n:Nat):Prop:=∀(ts:List Tk) (W:World),ts.length<n->Env B W->PaIs P tb E ts W->Calls Tryz.prog 68 #[.pointer (some ⟨P,0,none⟩)] W (Parsed P tb E W (S ts) (GTy W.heap.size))
theorem GTy.put6{c X:Nat}{w:World}{t:Ty}{v:Value}(h:GTy c w t v)(hX:X<c)(a b c' d e f:Value):GTy c (put6 w X a b c' d e f) t v:=
 (TyVal.keep (fun k o hk ho _=>(ZS (show k≠X from fun e=>by have:=hk.1;omega) a b c' d e f).trans ho) h).mono (fun _ hk=>⟨hk.1,by rw[Yu];exact hk.2⟩)
theorem UJ{E:Int}{s:ByteArray}(hs:((⟨#[]⟩:ByteArray).toList==s.toList)=false)(ts:List Tk):((hdTk E ts).t.toList==s.toList)=hd s ts:=by
 cases ts with
 |nil=>exact hs
 |cons x r=>rfl
theorem QJ{isN:ByteArray->Bool}{ts:List Tk}{x:ByteArray}{r:List Tk}(h:Qk isN ts= .ok x r):r.length<ts.length:=by
 cases ts with
 |nil=>cases h
 |cons y s=>
  rw[Qk] at h
  split at h
  ·cases h;simp
  ·cases h
theorem Qp{s:ByteArray}{ts:List Tk}{x:Unit}{r:List Tk}(h:need s ts= .ok x r):r.length<ts.length:=by
 unfold need at h
 split at h
 ·next hh=>
  cases h
  cases ts with
  |nil=>cases hh
  |cons y s=>simp
 ·cases h
theorem Rs{B:Nat->Prop}{W:World}{b:Nat}{T:TypeId}{fr:Nat×Nat}{t:Ty}{la:Option Addr}{ln lc:Nat}{ka:Option Addr}{kn kc:Nat}(h:W.heap[b]? =some (.cells (cT t la ln lc ka kn kc) T fr))(hb:B b)(ht:TyVal B W (.agg (cT t la ln lc ka kn kc)) t):TySl B W (.slice (some ⟨b,0,none⟩) 1 1) [t]:=by
 have cell:∀i v,[Value.int .i64 t.k,.int .i64 t.p,.string t.n,.int .i64 t.s,.slice la ln lc,.slice ka kn kc][i]? =some v->W.cell? ⟨b,i,none⟩=some v:=by
  intro i v hi
  simp only[World.cell?,h]
  simpa using hi
 have a1:TyAt B W t b 0:=XO hb (cell 0 _ rfl) (cell 1 _ rfl) (cell 2 _ rfl) (cell 3 _ rfl) (cell 4 _ rfl) (cell 5 _ rfl) ht
 exact⟨.inr ⟨b,0,1,rfl,hb,by simp only[TysAt];exact⟨a1,trivial⟩⟩,by simp[maxLen]⟩
theorem GTy.node{c:Nat}{w:World}{k p s:Int}{n:ByteArray}{ls:List ByteArray}{ts:List Ty}{lv kv:Value}(hn:n.size<=maxLen)(hl:StrSl (fun j=>c<=j/\j<w.heap.size) w lv ls)(hk:TySl (fun j=>c<=j/\j<w.heap.size) w kv ts):GTy c w (.mk k p n s ls ts) (.agg #[.int .i64 k,.int .i64 p,.string n,.int .i64 s,lv,kv]):=⟨_,_,rfl,hn,hl,hk⟩
theorem Mz(B:Nat->Prop)(w:World):StrSl B w sN []:=⟨.inl ⟨⟨_,_,rfl⟩,rfl⟩,Nat.zero_le _,fun s hs=>by cases hs⟩
theorem PR.bind_ok{α β:Type}{p:PR α}{f:α->List Tk->PR β}{x:β}{r:List Tk}(h:p.bind f= .ok x r):∃y s,p= .ok y s/\f y s= .ok x r:=by
 cases p with
 |ok y s=>exact⟨y,s,rfl,h⟩
 |bad e s=>cases h
abbrev putz6(w:World)(X:Nat):World:=put6 w X iZ iZ tE iZ sN sN
theorem Ew{w:World}{X:Nat}{T:TypeId}{v0 v1 v2 v3 v4 v5:Value}(h:w.heap[X]? =some (.cells #[v0,v1,v2,v3,v4,v5] T (0,0))):(putz6 w X).heap[X]? =some (.cells z6 T (0,0)):=ZB h iZ iZ tE iZ sN sN
theorem putz6_oth{w:World}{X k:Nat}(h:k≠X):(putz6 w X).heap[k]? =w.heap[k]? :=ZS h iZ iZ tE iZ sN sN
theorem Eh(w:World)(X:Nat):(putz6 w X).heap.size=w.heap.size:=Yu _ _ iZ iZ tE iZ sN sN
theorem Parsed.part{α:Type}{P tb:Nat}{E:Int}{W1 W w':World}{r0:PR α}{G:World->α->Value->Prop}{e:Ending}(HB:Hid (But P W1 W))(h:Parsed P tb E W r0 G e w'):
 (∃x r v,r0= .ok x r/\e= .returned v/\G w' x v/\Hid (PaIs P tb E r w')/\Hid (But P W1 w'))\/∃er r,r0= .bad er r/\e= .panicked (YT er (posE E r))/\Hid (But P W1 w'):=by
 cases r0 with
 |ok x r=>obtain⟨⟨v,h1,h2⟩,h3,h4⟩:=h;exact .inl ⟨x,r,v,rfl,h1,h2,hid h3,hid (HB.out.trans h4)⟩
 |bad er r=>exact .inr ⟨er,r,rfl,h.1,hid (HB.out.trans h.2)⟩
theorem expC{P tb:Nat}{E:Int}{s:ByteArray}{W1 W:World}{ts:List Tk}(HP:Hid (PaIs P tb E ts W))(HB:Hid (But P W1 W))(hs:((⟨#[]⟩:ByteArray).toList==s.toList)=false:=by decide+kernel):Calls Tryz.prog 52 #[.pointer (some ⟨P,0,none⟩),.string s] W fun e w'=>(∃u r,need s ts= .ok u r/\e= .returned (.tuple #[])/\r.length<ts.length/\Hid (PaIs P tb E r w')/\Hid (But P W1 w'))\/∃er r,need s ts= .bad er r/\e= .panicked (YT er (posE E r))/\Hid (But P W1 w'):=
 (Qv P tb E s hs ts W HP.out).mono (by
  intro e w' h
  rcases Parsed.part HB h with⟨u,r,v,h1,h2,h3,h4,h5⟩|⟨er,r,h1,h2,h3⟩
  ·exact .inl ⟨u,r,h1,by rw[h2,h3],Qp h1,h4,h5⟩
  ·exact .inr ⟨er,r,h1,h2,h3⟩)
theorem namC{P tb B:Nat}{E:Int}{W1 W:World}{ts:List Tk}(HP:Hid (PaIs P tb E ts W))(HB:Hid (But P W1 W))(he:Env B W):Calls Tryz.prog 78 #[.pointer (some ⟨P,0,none⟩)] W fun e w'=>(∃x r,Qk Qb ts= .ok x r/\e= .returned (.string x)/\r.length<ts.length/\x.size<=maxLen/\Hid (PaIs P tb E r w')/\Hid (But P W1 w'))\/∃er r,Qk Qb ts= .bad er r/\e= .panicked (YT er (posE E r))/\Hid (But P W1 w'):=
 (Ya P tb E ts B W he HP.out).mono (by
  intro e w' h
  rcases Parsed.part HB h with⟨x,r,v,h1,h2,⟨h3,hz⟩,h4,h5⟩|⟨er,r,h1,h2,h3⟩
  ·exact .inl ⟨x,r,h1,by rw[h2,h3],QJ h1,hz,h4,h5⟩
  ·exact .inr ⟨er,r,h1,h2,h3⟩)
theorem takC{P tb:Nat}{E:Int}{s:ByteArray}{W1 W:World}{ts:List Tk}(HP:Hid (PaIs P tb E ts W))(HB:Hid (But P W1 W))(hs:((⟨#[]⟩:ByteArray).toList==s.toList)=false:=by decide+kernel):Calls Tryz.prog 50 #[.pointer (some ⟨P,0,none⟩),.string s] W fun e w'=>(hd s ts=true/\e= .returned (.bool true)/\Hid (PaIs P tb E ts.tail w')/\Hid (But P W1 w'))\/(hd s ts=false/\e= .returned (.bool false)/\Hid (PaIs P tb E ts w')/\Hid (But P W1 w')):=by
 cases h:hd s ts with
 |true=>exact(JJ P tb E s hs ts W h HP.out).mono (by rintro e w'⟨rfl,hp,hb⟩;exact .inl ⟨rfl,rfl,hid hp,hid (HB.out.trans hb)⟩)
 |false=>exact(Zm P tb E s hs ts W h HP.out).mono (by rintro e w'⟨rfl,hp,hb⟩;exact .inr ⟨rfl,rfl,hid hp,hid (HB.out.trans hb)⟩)
theorem exq{α:Type}(x:α):∃q,Hid (x=q):=⟨x,hid rfl⟩
theorem pro{P tb B:Nat}{E:Int}{w:World}{ts:List Tk}(cs:Array Value)(T:TypeId)(he:Env B w)(h:PaIs P tb E ts w):∃W1,Hid (w.alloc (.cells cs T)=W1)/\w.heap.size<W1.heap.size/\P<w.heap.size/\tb≠w.heap.size/\Hid (tb<w.heap.size)/\Hid (PaIs P tb E ts W1)/\Hid (But P W1 W1)/\Hid (Below w.heap.size w W1)/\Hid (W1.heap[w.heap.size]? =some (.cells cs T (0,0)))/\Hid (Env B W1):=by
 have hb1:Below w.heap.size w (w.alloc (.cells cs T)):=bR.alloc lR _
 have x1:(w.alloc (.cells cs T)).heap[w.heap.size]? =some (.cells cs T (0,0)):=World.alloc_heap_new _ _
 exact⟨_,hid rfl,(gl x1),h.lt,Nat.ne_of_lt h.tlt,hid h.tlt,hid (h.to hb1),hid (But.refl _ _),hid hb1,hid x1,hid (he.to hb1)⟩
theorem exw{α:Type}(x:α):∃q,x=q:=⟨x,rfl⟩
theorem box{P tb:Nat}{E:Int}{W1 w2:World}{r:List Tk}(cs:Array Value)(T:TypeId)(HP:Hid (PaIs P tb E r w2))(HB:Hid (But P W1 w2))(hP:P<W1.heap.size):∃W3,Hid (w2.alloc (.cells cs T)=W3)/\w2.heap.size<W3.heap.size/\w2.heap.size≠P/\W1.heap.size<=w2.heap.size/\Hid (Below w2.heap.size w2 W3)/\Hid (PaIs P tb E r W3)/\Hid (But P W1 W3)/\Hid (But P W3 W3)/\Hid (W3.heap[w2.heap.size]? =some (.cells cs T (0,0))):=by
 have hb:Below w2.heap.size w2 (w2.alloc (.cells cs T)):=bR.alloc lR _
 have x:(w2.alloc (.cells cs T)).heap[w2.heap.size]? =some (.cells cs T (0,0)):=World.alloc_heap_new _ _
 have h:=HB.out.size
 exact⟨_,hid rfl,(gl x),by omega,h,hid hb,hid (HP.out.to hb),hid (HB.out.to hb),hid (But.refl _ _),hid x⟩
theorem YX{P X:Nat}{W1 W:World}{T:TypeId}{v0 v1 v2 v3 v4 v5:Value}(HX1:Hid (W1.heap[X]? =some (.cells #[v0,v1,v2,v3,v4,v5] T (0,0))))(HB:Hid (But P W1 W))(hs1:X<W1.heap.size)(hP:P<X):((W.cell? ⟨X,0,none⟩=some v0/\W.cell? ⟨X,1,none⟩=some v1/\W.cell? ⟨X,2,none⟩=some v2/\W.cell? ⟨X,3,none⟩=some v3/\W.cell? ⟨X,4,none⟩=some v4/\W.cell? ⟨X,5,none⟩=some v5)/\W.frozen? ⟨X,0,none⟩=false/\W.frozen? ⟨X,1,none⟩=false/\W.frozen? ⟨X,2,none⟩=false/\W.frozen? ⟨X,3,none⟩=false/\W.frozen? ⟨X,4,none⟩=false/\W.frozen? ⟨X,5,none⟩=false)/\Hid (W.heap[X]? =some (.cells #[v0,v1,v2,v3,v4,v5] T (0,0))):=
 have h:=(HB.out.block X hs1 (Nat.ne_of_gt hP)).trans HX1.out
 ⟨c6 h,hid h⟩
theorem y6{w:World}{X:Nat}{T:TypeId}{v0 v1 v2 v3 v4 v5:Value}(h:Hid (w.heap[X]? =some (.cells #[v0,v1,v2,v3,v4,v5] T (0,0))))(u0 u1 u2 u3 u4 u5:Value):(put6 w X u0 u1 u2 u3 u4 u5).cell? ⟨X,0,none⟩=some u0/\(put6 w X u0 u1 u2 u3 u4 u5).cell? ⟨X,1,none⟩=some u1/\(put6 w X u0 u1 u2 u3 u4 u5).cell? ⟨X,2,none⟩=some u2/\(put6 w X u0 u1 u2 u3 u4 u5).cell? ⟨X,3,none⟩=some u3/\(put6 w X u0 u1 u2 u3 u4 u5).cell? ⟨X,4,none⟩=some u4/\(put6 w X u0 u1 u2 u3 u4 u5).cell? ⟨X,5,none⟩=some u5:=(c6 (ZB h.out u0 u1 u2 u3 u4 u5)).1
theorem ZK{P tb:Nat}{E:Int}{w W1 W:World}{t:Ty}{r:List Tk}{v0 v1 v2 v3 v4 v5:Value}(hg:GTy W1.heap.size W t (.agg #[v0,v1,v2,v3,v4,v5]))(hs1:w.heap.size<W1.heap.size)(hP:P<w.heap.size)(htb:tb≠w.heap.size)(HP:Hid (PaIs P tb E r W))(HB1:Hid (Below w.heap.size w W1))(HB:Hid (But P W1 W)):
 Parsed P tb E w (.ok t r) (GTy w.heap.size) (.returned (.agg #[v0,v1,v2,v3,v4,v5])) (put6 W w.heap.size v0 v1 v2 v3 v4 v5):=
 ⟨⟨_,rfl,(hg.put6 hs1 v0 v1 v2 v3 v4 v5).mono (Nat.le_of_lt hs1)⟩,HP.out.oth (X:=w.heap.size) (fun _ hj=>ZS hj v0 v1 v2 v3 v4 v5) (Yu _ _ v0 v1 v2 v3 v4 v5) (Nat.ne_of_gt hP) htb,((But.of HB1.out).trans HB.out).put6 lR v0 v1 v2 v3 v4 v5⟩
theorem WZ(P tb:Nat)(E:Int)(ts:List Tk)(B:Nat)(w:World)(he:Env B w)(h:PaIs P tb E ts w):
 Calls Tryz.prog 96 #[.pointer (some ⟨P,0,none⟩)] w (Parsed P tb E w (pvar Qb ts) (GTy w.heap.size)):=by
 obtain⟨W1,HW1,hs1,hP,htb,HTB,HP,HB,HB1,HX1,HE⟩:=pro #[.int .i64 0,.int .i64 0,.string ⟨#[]⟩,.int .i64 0,.slice none 0 0,.slice none 0 0] 28 he h
 clear he h
 obtain⟨q,HQ⟩:=exq (pvar Qb ts)
 rw[HQ.out]
 go_enter Tryz.func96,Tryz.ntmps96
 go_upto_region 1 with fail
 rw[HW1.out]
 go_upto_region 2 with(go_at_call 78;refine(namC HP HB HE.out).mono ?_;rintro _ w2 (⟨n,r1,h0,rfl,l0,hnz,HP,HB⟩|⟨er,r,h0,rfl,HB⟩))
 any_goals (first|(obtain rfl:q= .bad er r:=HQ.out.symm.trans (by simp[pvar,PR.bind, *]);exact⟨rfl,rfl,(But.of HB1.out).trans HB.out⟩)|fail)
 obtain⟨W3,HW3,hl3,hn3,hl13,HB3,HP,HB,HC,HX3⟩:=box #[.int .i64 9,.int .i64 0,.string n,.int .i64 0,.slice none 0 0,.slice none 0 0] 28 HP HB (Nat.lt_trans hP hs1)
 rw[HW3.out]
 go_upto_region 4 with(first|(go_at_call 50;refine(takC HP HC).mono ?_;rintro _ wn (⟨h1,rfl,HP,HC⟩|⟨h1,rfl,HP,HC⟩))|(go_at_call 123;refine(XV P tb E _ _ HP.out).mono ?_;rintro _ wn h;rcases Parsed.part HC h with⟨sh,r2,v,h0,rfl,rfl,HP,HC⟩|⟨er,r,h0,rfl,HC⟩;obtain⟨⟨⟨d0,d1,d2,d3,d4,d5⟩,g0,g1,g2,g3,g4,g5⟩,HX4⟩:=YX HX3 HC hl3 (by omega)))
 any_goals (first|(obtain rfl:q= .bad er r:=HQ.out.symm.trans (by simp[pvar,PR.bind, *]);exact⟨rfl,rfl,(But.of HB1.out).trans (HB.out.trans HC.out)⟩)|fail)
 ·obtain⟨W5,hW5⟩:=exw (wn.setCell ⟨w2.heap.size,3,none⟩ (.int .i64 sh))
  have HP:Hid (PaIs P tb E r2 W5):=hid (by rw[<-hW5];exact HP.out.oth (fun k hk=>oth1 _ _ _ hk) (by simp[World.setCell]) hn3 (by have:=HTB.out;omega))
  have HB:Hid (But P W1 W5):=hid (by rw[<-hW5];exact(HB.out.trans HC.out).setX hl13 3 _)
  have hx3:W5.heap[w2.heap.size]? =some (.cells #[.int .i64 9,.int .i64 0,.string n,.int .i64 sh,.slice none 0 0,.slice none 0 0] 28 (0,0)):=by rw[<-hW5];exact Qd HX4.out 3 _
  rw[hW5]
  clear hW5 d0 d1 d2 d3 d4 d5 g0 g1 g2 g3 g4 g5
  obtain⟨⟨d0,d1,d2,d3,d4,d5⟩,-⟩:=c6 hx3
  clear hx3
  obtain⟨⟨⟨q0,q1,q2,q3,q4,q5⟩,z0,z1,z2,z3,z4,z5⟩,HX9⟩:=YX HX1 HB hs1 hP
  go_wp2_with fail
  obtain rfl:q= .ok (.mk 9 0 n sh [] []) r2:=HQ.out.symm.trans (by simp[pvar,PR.bind, *])
  refine bodyPost_ret ?_ rfl (ZK (GTy.leaf _ _ 9 0 sh n hnz) hs1 hP htb HP HB1 HB)
  simp[results,Tryz.results96,go_sem,y6 HX9]
 ·replace HB:=hid (HB.out.trans HC.out)
  obtain⟨⟨⟨d0,d1,d2,d3,d4,d5⟩,-⟩,-⟩:=YX HX3 HC hl3 (by omega)
  obtain⟨⟨⟨q0,q1,q2,q3,q4,q5⟩,z0,z1,z2,z3,z4,z5⟩,HX9⟩:=YX HX1 HB hs1 hP
  go_wp2_with fail
  obtain rfl:q= .ok (.mk 9 0 n 0 [] []) r1:=HQ.out.symm.trans (by simp[pvar,PR.bind, *])
  refine bodyPost_ret ?_ rfl (ZK (GTy.leaf _ _ 9 0 0 n hnz) hs1 hP htb HP HB1 HB)
  simp[results,Tryz.results96,go_sem,y6 HX9]
end Go.Proofs.YtmnbheplkidfaaaGreatDoor
