/- A range over a function whose iterator tells the body, at each round, what lies in memory at the moment of the round. (After the library's law for a round that is told of its record; here with the word Px, and with iterators that write rows of their own.) (and what follows from it) -/
import Derived.Test.YtmnbheplkidfaaaGreatDoorProg
import Derived.RangeFuncNested
import Derived.RangeFuncBound
import Derived.Lib.Hide
import Derived.WalkSpells
import Derived.WalkLawsBesides
import Derived.Lib.Strings
import Derived.StillTailTactics
import Derived.Deep.OwnRows
import Derived.Shelf.RegionOpen
import Derived.LoopNIn
import Derived.LoopIn
import Derived.Maps.OwnIn
set_option maxHeartbeats 16000000
set_option maxRecDepth 100000
namespace Go.Proofs.YtmnbheplkidfaaaGreatDoor
open Go.RowKit
abbrev sN:Value:=.slice none 0 0
abbrev iZ:Value:=.int .i64 0
abbrev tE:Value:=.string ⟨#[]⟩
theorem lR{n:Nat}:n<=n:=n.le_refl
theorem bR{n:Nat}{w:World}:Below n w w:=.refl n w
theorem sS{α:Type}{x a:α}{l:List α}{n:Nat}:(x::l).set (n+1) a=x::l.set n a:=rfl
theorem sZ{α:Type}{x a:α}{l:List α}:(x::l).set 0 a=a::l:=rfl
theorem lL{a b c:Nat}:a<b->b<=c->a<c:=Nat.lt_of_lt_of_le
theorem lT{a b c:Nat}:a<=b->b<=c->a<=c:=Nat.le_trans
theorem mS{α:Type}{a b:α}:a∈[b]->a=b:=List.mem_singleton.1
def AbidesAll{β:Type}(B:Nat)(J:β->World->Prop):Prop:=
 ∀s W W' row,J s W->W.grownBy W' row->(∀r,row=some r->B<=r)->J s W'
theorem AbidesAll.alloc{β:Type}{B:Nat}{J:β->World->Prop}(h:AbidesAll B J){s:β}{W:World}(o:Obj)(hs:J s W):J s (W.alloc o):=
 h s W _ none hs (World.grownBy_alloc W o none) (fun r e=>by cases e)
theorem AbidesAll.put{β:Type}{B:Nat}{J:β->World->Prop}(h:AbidesAll B J){s:β}{W:World}{l:Nat}(o:Obj)(hs:J s W)(hB:B<=l):J s (W.putObj l o):=
 h s W _ (some l) hs (grownBy_putObj' W l o) (fun r e=>by cases e;exact hB)
theorem AbidesAll.and{β:Type}{B:Nat}{J K:β->World->Prop}(h:AbidesAll B J)(k:AbidesAll B K):AbidesAll B (fun s W=>J s W/\K s W):=
 fun s A B' row hs hg hr=>⟨h s A B' row hs.1 hg hr,k s A B' row hs.2 hg hr⟩
theorem AbidesAll.mono{β:Type}{B C:Nat}{J:β->World->Prop}(h:AbidesAll B J)(hBC:B<=C):AbidesAll C J:=
 fun s A B' row hs hg hr=>h s A B' row hs hg (fun r e=>lT hBC (hr r e))
theorem Xr{β:Type}{n₀ B:Nat}{w:World}(hn:n₀<=B)(hw:n₀<=w.heap.size):AbidesAll B (fun(_:β) W=>Below n₀ w W):=
 fun _ _ _ _ hs hg hr=>hs.grown hg (lT hw hs.size) (fun k e=>lT hn (hr k e))
theorem Je{β:Type}{B k:Nat}{o:Obj}(hk:k<B):AbidesAll B (fun(_:β) W=>W.heap[k]? =some o):=
 fun _ _ _ _ hs hg hr=>(hg.block k (Array.getElem?_eq_some_iff.1 hs).1 (fun e=>by have:=hr k e.symm;omega)).trans hs
theorem KP{β:Type}(B:Nat)(p:β->Prop):AbidesAll B (fun s (_:World)=>p s):=fun _ _ _ _ hs _ _=>hs
def Li{α:Type}(F:Fence)(n:Nat)(P:Program)(g:Nat)(lb:Array Value)(encs:α->Array Value)(Px:α->World->Prop)(Kp:World->World->Prop)(S Sp:List α->Prop)(w:World):Prop:=
 ∀(l:Nat) (J Jx:List α->World->Prop) (W:World),Below w.heap.size w W->AbidesAll W.heap.size J->AbidesAll W.heap.size Jx->
  (∀pre x W1,J pre W1->Px x W1->YieldAt F (n-1) P l (encs x) W1 fun e W'=>
   (e= .returned (.bool true)/\J (pre++[x]) W'/\Kp W1 W')\/(e= .returned (.bool false)/\Jx (pre++[x]) W'))->
  J [] W->
  CallsIn F n P g (#[.func (.yield l) #[] #[]]++lb) W fun e W'=>(∃v,e= .returned v)/\((∃xs,S xs/\J xs W')\/(∃pre,Sp pre/\Jx pre W'))
def CellsKept(A B:World):Prop:=∀(k:Nat) (o:Obj),A.heap[k]? =some o->o.isCells=true->B.heap[k]? =some o
theorem JD{W:World}{l:Nat}{o o':Obj}(h:W.heap[l]? =some o)(ho:o.isCells=false):CellsKept W (W.putObj l o'):=fun k ob hk hc=>by
 by_cases e:k=l
 ·subst e;rw[h] at hk;cases hk;rw[ho] at hc;cases hc
 ·exact(World.putObj_heap_other e).trans hk
variable {F:Fence} {n:Nat} {P:Program}
theorem Xq{α:Type}{g:Operand}{ps:Array Tmp}{assign body:Code}{Q:Exit->Act->World->Prop}{a:Act}{w:World}
 (hro:F.round=none) (h1:1<=n) {gf:Nat} {lb:Array Value} (hg:a.eval g= .func (.func gf) #[] lb) (hFg:F.fn gf) (eg:∀args w,(callFunc gf args).run P w= .ok (.enter gf args) w)
 {encs:α->Array Value} {Px:α->World->Prop} {Kp:World->World->Prop} {S Sp:List α->Prop} {w0:World} (hseq:Li F (n-1) P gf lb encs Px Kp S Sp w0)
 (hKt:∀ {A B C:World},Kp A B->Kp B C->Kp A C) (hKb:∀(W:World) (l:Nat) (o o':Obj),w.heap.size<=l->W.heap[l]? =some o->o.isCells=false->o.isWalk=false->Kp W (W.putObj l o'))
 (hPx:∀x A B,CellsKept A B->Px x A->Px x B) (hb0:Below w0.heap.size w0 w) (hps:∀x,(encs x).size=ps.size)
 (I:List α->World->Prop) (Ix:Code->List α->World->Prop) (hI:AbidesAll w.heap.size I) (hIx:∀c,AbidesAll w.heap.size (Ix c)) (h0:I [] w) (Ax:α->Act->World->Prop) (hAx:∀x a' A B,CellsKept A B->Ax x a' A->Ax x a' B)
 (hassign:∀(l:Nat) (pre:List α) (x:α) (W:World) (K:Act->World->Prop),I pre W->Px x W->(∀a' W',KeepsFrom w.heap.size W W'->Kp W W'->I pre W'->Px x W'->Ax x a' W'->K a' W')->
  assign.wpIn (F.inRound l) (n-1-1) P (Exit.then K (fun _ _ _=>False)) { tmps:=(ps.zip (encs x)).foldl (fun t (p,v)=>t.setIfInBounds p v) a.tmps,defers:=[] } W)
 (hbody:∀(l:Nat) (pre:List α) (x:α) (a':Act) (W:World),w.heap.size<=l->(∃r,W.heap[l]? =some (.loop r))->I pre W->Px x W->Ax x a' W->body.wpIn (F.inRound l) (n-1-1) P (ownPostG w.heap.size Kp I Ix (pre++[x]) W) a' W)
 (hdone:∀(D:Nat) (xs:List α) (W:World),w.heap.size<=D->S xs->I xs W->W.heap[D]? =some (.deferred (some []))->Q .normal { a with defers:={ target:= .collected D,args:=#[] }::a.defers } W)
 (hstop:∀(D:Nat) (c:Code) (pre:List α) (W:World),w.heap.size<=D->Sp pre->Ix c pre W->W.heap[D]? =some (.deferred (some []))->c.wpIn F n P Q { a with defers:={ target:= .collected D,args:=#[] }::a.defers } W):
 (Code.rangeFunc g ps assign body).wpIn F n P Q a w:=by
 refine wpIn_rangeFunc ?_
 intro fn hfn
 rw[hro]
 generalize hL:w.heap.size+1=L
 have hLw:w.heap.size<L:=by omega
 let rec_ (st:LoopState) (pe:Option Code):Loop:={ state:=st,pending:=pe,fn,tmps:=a.tmps,params:=ps,assign,body,defers:=w.heap.size }
 obtain⟨W1,hW1⟩:∃W1,(w.alloc (.deferred (some []))).alloc (.loop (rec_ .ready none))=W1:=⟨_,rfl⟩
 have hs1:W1.heap.size=L+1:=by rw[<-hW1];simp;omega
 have hL1:W1.heap[L]? =some (.loop (rec_ .ready none)):=by
  have h:=World.alloc_heap_new (w.alloc (.deferred (some []))) (.loop (rec_ .ready none))
  rw[World.size_alloc,hL,hW1] at h;exact h
 have hK1:W1.heap[w.heap.size]? =some (.deferred (some [])):=by
  rw[<-hW1];exact(Below.heap_alloc _ _ _ (by simp)).trans (World.alloc_heap_new w _)
 have hI1:I [] W1:=by rw[<-hW1];exact hI.alloc _ (hI.alloc _ h0)
 have hb1:Below w0.heap.size w0 W1:=by
  rw[<-hW1];exact hb0.trans ((((Below.refl _ w).alloc lR _).alloc (by simp) _).mono hb0.size)
 refine⟨L,[{ target:= .collected w.heap.size,args:=#[] }],W1,{ target:= .fn (.func gf) lb,args:=#[.func (.yield L) #[] #[]] },W1,gf,#[.func (.yield L) #[] #[]]++lb,W1,?_,?_,?_,?_,fun _=>h1,?_⟩
 ·rw[<-hW1,<-hL];exact run_enterLoop_outer _ _ _ _ _
 ·simp only[resolve,hg]
  simp[go_sem]
 ·intro f' hf';simp[Target.leads] at hf';subst hf';exact hFg
 ·simp[invoke,go_sem,eg]
 refine(hseq L (fun pre W=>I pre W/\W.heap[L]? =some (.loop (rec_ .ready none))/\W.heap[w.heap.size]? =some (.deferred (some [])))
  (fun pre W=>∃c,Ix c pre W/\W.heap[L]? =some (.loop (rec_ .done (some c)))/\W.heap[w.heap.size]? =some (.deferred (some []))) W1 hb1
  ((hI.mono (by omega)).and ((Je (by omega)).and (Je (by omega)))) ?_ ?_ ⟨hI1,hL1,hK1⟩).mono ?_
 ·rintro s A B row⟨c,hc⟩ hg' hr
  exact⟨c,((hIx c).mono (by omega)).and ((Je (by omega)).and (Je (by omega))) s A B row hc hg' hr⟩
 . -- one round
  rintro pre x W⟨hi,hl,hk⟩ hpx
  have hy:=run_yield (P:=P) (args:=encs x) hl (hps x)
  refine⟨fn,_,assign,body,hy,roundIn_of_wpIn hfn (hassign _ pre x W _ hi hpx ?_)⟩
  clear hy
  intro a' V hkf hkp hiV hpV hax
  have hlV:=hkf.same _ _ (by omega) hl rfl
  have hkV:=hkf.same _ _ lR hk rfl
  refine⟨_,run_beginRound hlV rfl,?_⟩
  have hl2:(V.putObj L (.loop (rec_ .busy none))).heap[L]? =some (.loop (rec_ .busy none)):=World.putObj_heap_same (Array.getElem?_eq_some_iff.1 hlV).1
  have hk2:(V.putObj L (.loop (rec_ .busy none))).heap[w.heap.size]? =some (.deferred (some [])):=(World.putObj_heap_other (by omega)).trans hkV
  have hp2:Kp V (V.putObj L (.loop (rec_ .busy none))):=hKb _ _ _ _ (by omega) hlV rfl rfl
  refine wpIn_mono (hbody _ pre x a' _ (by omega) ⟨_,hl2⟩ (hI.put _ hiV (by omega)) (hPx x _ _ (JD hlV rfl) hpV) (hAx x a' _ _ (JD hlV rfl) hax)) ?_
  have fin:∀(jump:Option Code) (X:World),KeepsFrom w.heap.size (V.putObj L (.loop (rec_ .busy none))) X->
   (Instr.endRound L jump).run P X= .ok (.bool jump.isNone) (X.putObj L (.loop (rec_ (if jump.isNone then .ready else .done) jump)))/\X.heap[L]? =some (.loop (rec_ .busy none))/\
   (X.putObj L (.loop (rec_ (if jump.isNone then .ready else .done) jump))).heap[L]? =some (.loop (rec_ (if jump.isNone then .ready else .done) jump))/\
   (X.putObj L (.loop (rec_ (if jump.isNone then .ready else .done) jump))).heap[w.heap.size]? =some (.deferred (some [])):=fun jump X hX=>by
   have h3:=hX.same _ _ (by omega) hl2 rfl
   exact⟨run_endRound (P:=P) jump h3,h3,World.putObj_heap_same (Array.getElem?_eq_some_iff.1 h3).1,(World.putObj_heap_other (by omega)).trans (hX.same _ _ lR hk2 rfl)⟩
  rintro e a3 X hp
  cases e with
  |normal=>
   obtain⟨hX,hkp3,hi3⟩:=hp
   obtain⟨hr,hl3,hl4,hk4⟩:=fin none X hX
   exact⟨_,_,hr,.inl ⟨rfl,⟨hI.put _ hi3 (by omega),hl4,hk4⟩,hKt hkp (hKt (hKt hp2 hkp3) (hKb _ _ _ _ (by omega) hl3 rfl rfl))⟩⟩
  |ret=>
   obtain⟨hX,hi3⟩:=hp
   obtain⟨hr,hl3,hl4,hk4⟩:=fin (some .ret) X hX
   exact⟨_,_,hr,.inr ⟨rfl,.ret,(hIx _).put _ hi3 (by omega),hl4,hk4⟩⟩
  |exit id=>
   obtain⟨hX,hi3⟩:=hp
   obtain⟨hr,hl3,hl4,hk4⟩:=fin (some (.exit id)) X hX
   exact⟨_,_,hr,.inr ⟨rfl,.exit id,(hIx _).put _ hi3 (by omega),hl4,hk4⟩⟩
  |goto t=>
   obtain⟨hX,hi3⟩:=hp
   obtain⟨hr,hl3,hl4,hk4⟩:=fin (some (.goto t)) X hX
   exact⟨_,_,hr,.inr ⟨rfl,.goto t,(hIx _).put _ hi3 (by omega),hl4,hk4⟩⟩
  |panic ch=>exact hp.elim
  |outgrown=>exact hp.elim
 . -- behind the iterator
  rintro e W2⟨⟨v,rfl⟩,(⟨xs,hS,hi,hl,hk⟩|⟨pre,hSp,c,hi,hl,hk⟩)⟩
  ·exact⟨none,_,run_endLoop (P:=P) hl (by simp[rec_]),hdone _ xs _ lR hS (hI.put _ hi (by omega)) ((World.putObj_heap_other (by omega)).trans hk)⟩
  ·exact⟨some c,_,run_endLoop (P:=P) hl (by simp[rec_]),hstop _ c pre _ lR hSp ((hIx c).put _ hi (by omega)) ((World.putObj_heap_other (by omega)).trans hk)⟩
end Go.Proofs.YtmnbheplkidfaaaGreatDoor
namespace Go.Proofs.YtmnbheplkidfaaaGreatDoor
open Go.Lib (hid)
open Go.RowKit
theorem made{w W:World}{cs:Array Value}{T:TypeId}(h:w.alloc (.cells cs T)=W):Below w.heap.size w W/\W.heap[w.heap.size]? =some (.cells cs T (0,0)):=by
 subst h
 exact⟨bR.alloc lR _,World.alloc_heap_new _ _⟩
theorem gl{α:Type}{a:Array α}{i:Nat}{x:α}(h:a[i]? =some x):i<a.size:=(Array.getElem?_eq_some_iff.1 h).1
inductive Ty where
 |mk (k p:Int) (n:ByteArray) (s:Int) (ls:List ByteArray) (ts:List Ty)
instance:Inhabited Ty:=⟨.mk 0 0 ⟨#[]⟩ 0 [] []⟩
namespace Ty
def k:Ty->Int | .mk k _ _ _ _ _=>k
def p:Ty->Int | .mk _ p _ _ _ _=>p
def n:Ty->ByteArray | .mk _ _ n _ _ _=>n
def s:Ty->Int | .mk _ _ _ s _ _=>s
def ls:Ty->List ByteArray | .mk _ _ _ _ ls _=>ls
def ts:Ty->List Ty | .mk _ _ _ _ _ ts=>ts
end Ty
mutual
theorem Ty.ind{M:Ty->Prop}(h:∀k p n s ls ts,(∀t∈ts,M t)->M (.mk k p n s ls ts)):∀t,M t
 | .mk k p n s ls ts=>h k p n s ls ts (Ty.inds h ts)
theorem Ty.inds{M:Ty->Prop}(h:∀k p n s ls ts,(∀t∈ts,M t)->M (.mk k p n s ls ts)):∀ts:List Ty,∀t∈ts,M t
 |[],_,hm=>by cases hm
 |t::r,u,hm=>by
  rcases List.mem_cons.1 hm with e|hm
  ·rw[e];exact Ty.ind h t
  ·exact Ty.inds h r u hm
end
mutual
def Ty.size:Ty->Nat
 | .mk _ _ _ _ _ ts=>Ty.sizes ts+1
def Ty.sizes:List Ty->Nat
 |[]=>0
 |t::r=>t.size+Ty.sizes r
end
mutual
def Ty.depth:Ty->Nat
 | .mk _ _ _ _ _ ts=>Ty.depths ts+1
def Ty.depths:List Ty->Nat
 |[]=>0
 |t::r=>max t.depth (Ty.depths r)
end
theorem Ty.size_eq(t:Ty):t.size=Ty.sizes t.ts+1:=by cases t;simp[Ty.size,Ty.ts]
theorem Ty.depth_eq(t:Ty):t.depth=Ty.depths t.ts+1:=by cases t;simp[Ty.depth,Ty.ts]
theorem Ty.depth_pos(t:Ty):1<=t.depth:=by rw[Ty.depth_eq];omega
theorem Ty.sizes_append(l r:List Ty):Ty.sizes (l++r)=Ty.sizes l+Ty.sizes r:=by
 induction l with
 |nil=>simp[Ty.sizes]
 |cons t l ih=>simp only[List.cons_append,Ty.sizes,ih];omega
theorem Ty.depths_append(l r:List Ty):Ty.depths (l++r)=max (Ty.depths l) (Ty.depths r):=by
 induction l with
 |nil=>simp[Ty.depths]
 |cons t l ih=>simp only[List.cons_append,Ty.depths,ih];omega
theorem Qn{α:Type}{l:List α}{i:Nat}{x:α}(h:l[i]? =some x):l.take (i+1)=l.take i++[x]:=by
 rw[List.take_add_one,h];rfl
theorem Ty.sizes_take{l:List Ty}{i:Nat}{t:Ty}(h:l[i]? =some t):Ty.sizes (l.take (i+1))=Ty.sizes (l.take i)+t.size:=by
 rw[Qn h,Ty.sizes_append];simp[Ty.sizes]
theorem Ty.depths_take{l:List Ty}{i:Nat}{t:Ty}(h:l[i]? =some t):Ty.depths (l.take (i+1))=max (Ty.depths (l.take i)) t.depth:=by
 rw[Qn h,Ty.depths_append];simp[Ty.depths]
theorem Ty.sizes_take_le(l:List Ty)(i:Nat):Ty.sizes (l.take i)<=Ty.sizes l:=by
 have:=Ty.sizes_append (l.take i) (l.drop i);rw[List.take_append_drop] at this;omega
theorem Ty.depths_take_le(l:List Ty)(i:Nat):Ty.depths (l.take i)<=Ty.depths l:=by
 have:=Ty.depths_append (l.take i) (l.drop i);rw[List.take_append_drop] at this;omega
theorem Ty.depth_mem{l:List Ty}{t:Ty}(h:t∈l):t.depth<=Ty.depths l:=by
 induction l with
 |nil=>cases h
 |cons u l ih=>
  simp only[Ty.depths]
  rcases List.mem_cons.1 h with rfl|h
  ·omega
  ·have:=ih h;omega
theorem Ty.size_mem{l:List Ty}{t:Ty}(h:t∈l):t.size<=Ty.sizes l:=by
 induction l with
 |nil=>cases h
 |cons u l ih=>
  simp only[Ty.sizes]
  rcases List.mem_cons.1 h with rfl|h
  ·omega
  ·have:=ih h;omega
def EB(w:World)(b o:Nat)(ls:List ByteArray):Prop:=∀(j:Nat) (s:ByteArray),ls[j]? =some s->w.cell? ⟨b,o+j,none⟩=some (.string s)
def StrSl(B:Nat->Prop)(w:World)(v:Value)(ls:List ByteArray):Prop:=
 (((∃a c,v= .slice a 0 c)/\ls=[])\/∃b o c,v= .slice (some ⟨b,o,none⟩) ls.length c/\B b/\ls.length<=c/\EB w b o ls)/\ls.length<=maxLen/\∀s∈ls,s.size<=maxLen
mutual
def TyAt(B:Nat->Prop)(w:World):Ty->Nat->Nat->Prop
 | .mk k p n s ls ts,b,o=>B b/\n.size<=maxLen/\
  (w.cell? ⟨b,o,none⟩=some (.int .i64 k)/\w.cell? ⟨b,o+1,none⟩=some (.int .i64 p)/\w.cell? ⟨b,o+2,none⟩=some (.string n)/\w.cell? ⟨b,o+3,none⟩=some (.int .i64 s))/\
  ∃lv kv,w.cell? ⟨b,o+4,none⟩=some lv/\w.cell? ⟨b,o+5,none⟩=some kv/\StrSl B w lv ls/\
   (((∃a c,kv= .slice a 0 c)/\ts=[])\/∃kb ko c,kv= .slice (some ⟨kb,ko,none⟩) ts.length c/\B kb/\TysAt B w ts kb ko)/\ts.length<=maxLen
def TysAt(B:Nat->Prop)(w:World):List Ty->Nat->Nat->Prop
 |[],_,_=>True
 |t::r,b,o=>TyAt B w t b o/\TysAt B w r b (o+6)
end
def TySl(B:Nat->Prop)(w:World)(kv:Value)(ts:List Ty):Prop:=
 (((∃a c,kv= .slice a 0 c)/\ts=[])\/∃kb ko c,kv= .slice (some ⟨kb,ko,none⟩) ts.length c/\B kb/\TysAt B w ts kb ko)/\ts.length<=maxLen
def TyVal(B:Nat->Prop)(w:World)(v:Value)(t:Ty):Prop:=
 ∃lv kv,v= .agg #[.int .i64 t.k,.int .i64 t.p,.string t.n,.int .i64 t.s,lv,kv]/\t.n.size<=maxLen/\StrSl B w lv t.ls/\TySl B w kv t.ts
theorem TyAt.eq{B:Nat->Prop}{w:World}{t:Ty}{b o:Nat}:TyAt B w t b o↔B b/\t.n.size<=maxLen/\
 (w.cell? ⟨b,o,none⟩=some (.int .i64 t.k)/\w.cell? ⟨b,o+1,none⟩=some (.int .i64 t.p)/\w.cell? ⟨b,o+2,none⟩=some (.string t.n)/\w.cell? ⟨b,o+3,none⟩=some (.int .i64 t.s))/\
 ∃lv kv,w.cell? ⟨b,o+4,none⟩=some lv/\w.cell? ⟨b,o+5,none⟩=some kv/\StrSl B w lv t.ls/\TySl B w kv t.ts:=by
 cases t;simp only[TyAt,TySl,Ty.k,Ty.p,Ty.n,Ty.s,Ty.ls,Ty.ts]
def Keeps(B:Nat->Prop)(w w':World):Prop:=∀(k:Nat) (o:Obj),B k->w.heap[k]? =some o->o.isCells=true->w'.heap[k]? =some o
theorem Keeps.mono{B C:Nat->Prop}{a b:World}(h:Keeps B a b)(hc:∀k,C k->B k):Keeps C a b:=fun k o hk ho h'=>h k o (hc k hk) ho h'
theorem Keeps.cell{B:Nat->Prop}{w w':World}(h:Keeps B w w'){b o:Nat}{v:Value}(hb:B b)(hv:w.cell? ⟨b,o,none⟩=some v):w'.cell? ⟨b,o,none⟩=some v:=by
 unfold World.cell? at hv |-
 cases ho:w.heap[b]? with
 |none=>simp[ho] at hv
 |some ob=>
  cases ob with
  |cells cs t fr=>
   have:=h b _ hb ho rfl
   simp only[ho] at hv
   simp only[this];exact hv
  |_=>simp[ho] at hv
theorem _root_.Go.RowKit.Below.keeps'{n:Nat}{w w':World}(h:Below n w w'):Keeps (fun k=>k<n) w w':=fun k _ hk ho _=>(h.block k hk).trans ho
def Low(B:Nat->Prop)(w:World):Prop:=∀k,B k->k<w.heap.size
theorem Low.le{B:Nat->Prop}{w w':World}(h:Low B w)(hs:w.heap.size<=w'.heap.size):Low B w':=fun k hk=>lL (h k hk) hs
theorem Jg(w:World)(cs:Array Value)(t:TypeId):Below w.heap.size w (w.alloc (.cells cs t)):=bR.alloc lR _
theorem JB{w wr:World}{cs:Array Value}{t:TypeId}(hb:Below (w.heap.size+1) (w.alloc (.cells cs t)) wr)(j:Nat){v:Value}(h:cs[j]? =some v):wr.cell? ⟨w.heap.size,j,none⟩=some v:=
 (hb.cell (p:=⟨w.heap.size,j,none⟩) (Nat.lt_succ_self _)).trans (by simp[h])
theorem Yc{w wr:World}{cs:Array Value}{t:TypeId}(hb:Below (w.heap.size+1) (w.alloc (.cells cs t)) wr):Below w.heap.size w wr:=(Jg w cs t).trans (hb.mono (Nat.le_succ _))
def Drew(w wr:World):Prop:=∃nq,wr=w.drewN nq
theorem Drew.refl(w:World):Drew w w:=⟨0,rfl⟩
theorem Drew.more{w wr:World}(h:Drew w wr)(n:Nat):Drew w (wr.drewN n):=by
 obtain⟨m,rfl⟩:=h;exact⟨m+n,by rw[World.drewN_drewN]⟩
theorem Drew.below{w wr:World}(h:Drew w wr)(B:Nat):Below B w wr:=by
 obtain⟨m,rfl⟩:=h;exact below_drewN bR m
theorem Qf{a b c:World}(h:Below a.heap.size a b)(k:Below b.heap.size b c):Below a.heap.size a c:=h.trans (k.mono h.size)
theorem FL{W w1:World}(hb:Below W.heap.size W w1):(∀b o,b<W.heap.size->w1.cell? ⟨b,o,none⟩=W.cell? ⟨b,o,none⟩)/\(∀b o,b<W.heap.size->w1.frozen? ⟨b,o,none⟩=W.frozen? ⟨b,o,none⟩):=
 ⟨fun b o h=>hb.cell (p:=⟨b,o,none⟩) h,fun b o h=>hb.frozen (p:=⟨b,o,none⟩) h⟩
theorem StrSl.keep{B:Nat->Prop}{w w':World}(h:Keeps B w w'){v:Value}{ls:List ByteArray}(hv:StrSl B w v ls):StrSl B w' v ls:=by
 refine⟨?_,hv.2⟩
 rcases hv.1 with h1|⟨b,o,c,h1,h2,hc,h3⟩
 ·exact .inl h1
 ·exact .inr ⟨b,o,c,h1,h2,hc,fun j s hj=>h.cell h2 (h3 j s hj)⟩
mutual
theorem TyAt.keep{B:Nat->Prop}{w w':World}(h:Keeps B w w'):∀(t:Ty) (b o:Nat),TyAt B w t b o->TyAt B w' t b o
 | .mk k p n s ls ts,b,o,ht=>by
  simp only[TyAt] at ht |-
  obtain⟨hb,hn,⟨c0,c1,c2,c3⟩,lv,kv,c4,c5,hl,hk,hm⟩:=ht
  refine⟨hb,hn,⟨h.cell hb c0,h.cell hb c1,h.cell hb c2,h.cell hb c3⟩,lv,kv,h.cell hb c4,h.cell hb c5,hl.keep h,?_,hm⟩
  rcases hk with h1|⟨kb,ko,c,h1,h2,h3⟩
  ·exact .inl h1
  ·exact .inr ⟨kb,ko,c,h1,h2,TysAt.keep h ts kb ko h3⟩
theorem TysAt.keep{B:Nat->Prop}{w w':World}(h:Keeps B w w'):∀(ts:List Ty) (b o:Nat),TysAt B w ts b o->TysAt B w' ts b o
 |[],_,_,_=>by simp[TysAt]
 |t::r,b,o,ht=>by
  simp only[TysAt] at ht |-
  exact⟨TyAt.keep h t b o ht.1,TysAt.keep h r b (o+6) ht.2⟩
end
theorem TySl.keep{B:Nat->Prop}{w w':World}(h:Keeps B w w'){v:Value}{ts:List Ty}(hv:TySl B w v ts):TySl B w' v ts:=by
 refine⟨?_,hv.2⟩
 rcases hv.1 with h1|⟨b,o,c,h1,h2,h3⟩
 ·exact .inl h1
 ·exact .inr ⟨b,o,c,h1,h2,TysAt.keep h _ _ _ h3⟩
theorem TyVal.keep{B:Nat->Prop}{w w':World}(h:Keeps B w w'){v:Value}{t:Ty}(hv:TyVal B w v t):TyVal B w' v t:=by
 obtain⟨lv,kv,e,hn,hl,hk⟩:=hv
 exact⟨lv,kv,e,hn,hl.keep h,hk.keep h⟩
theorem StrSl.mono{B C:Nat->Prop}{w:World}(h:∀k,B k->C k){v:Value}{ls:List ByteArray}(hv:StrSl B w v ls):StrSl C w v ls:=by
 refine⟨?_,hv.2⟩
 rcases hv.1 with h1|⟨b,o,c,h1,h2,hc,h3⟩
 ·exact .inl h1
 ·exact .inr ⟨b,o,c,h1,h _ h2,hc,h3⟩
mutual
theorem TyAt.mono{B C:Nat->Prop}{w:World}(h:∀k,B k->C k):∀(t:Ty) (b o:Nat),TyAt B w t b o->TyAt C w t b o
 | .mk k p n s ls ts,b,o,ht=>by
  simp only[TyAt] at ht |-
  obtain⟨hb,hn,hc,lv,kv,c4,c5,hl,hk,hm⟩:=ht
  refine⟨h _ hb,hn,hc,lv,kv,c4,c5,hl.mono h,?_,hm⟩
  rcases hk with h1|⟨kb,ko,c,h1,h2,h3⟩
  ·exact .inl h1
  ·exact .inr ⟨kb,ko,c,h1,h _ h2,TysAt.mono h ts kb ko h3⟩
theorem TysAt.mono{B C:Nat->Prop}{w:World}(h:∀k,B k->C k):∀(ts:List Ty) (b o:Nat),TysAt B w ts b o->TysAt C w ts b o
 |[],_,_,_=>by simp[TysAt]
 |t::r,b,o,ht=>by
  simp only[TysAt] at ht |-
  exact⟨TyAt.mono h t b o ht.1,TysAt.mono h r b (o+6) ht.2⟩
end
theorem TySl.mono{B C:Nat->Prop}{w:World}(h:∀k,B k->C k){v:Value}{ts:List Ty}(hv:TySl B w v ts):TySl C w v ts:=by
 refine⟨?_,hv.2⟩
 rcases hv.1 with h1|⟨b,o,c,h1,h2,h3⟩
 ·exact .inl h1
 ·exact .inr ⟨b,o,c,h1,h _ h2,TysAt.mono h _ _ _ h3⟩
theorem TyVal.mono{B C:Nat->Prop}{w:World}(h:∀k,B k->C k){v:Value}{t:Ty}(hv:TyVal B w v t):TyVal C w v t:=by
 obtain⟨lv,kv,e,hn,hl,hk⟩:=hv
 exact⟨lv,kv,e,hn,hl.mono h,hk.mono h⟩
theorem TyVal.to{B:Nat->Prop}{C:Nat}{w w':World}(hBC:∀k,B k->k<C)(hb:Below C w w'){v:Value}{t:Ty}(hv:TyVal B w v t):TyVal B w' v t:=hv.keep (hb.keeps'.mono hBC)
theorem TysAt.get{B:Nat->Prop}{w:World}:∀ {ts:List Ty} {b o:Nat},TysAt B w ts b o->∀ {i:Nat} {t:Ty},ts[i]? =some t->TyAt B w t b (o+i*6)
 |[],_,_,_,i,t,hi=>by simp at hi
 |u::r,b,o,h,i,t,hi=>by
  simp only[TysAt] at h
  cases i with
  |zero=>simp at hi;subst hi;simpa using h.1
  |succ i=>
   have:=TysAt.get h.2 (i:=i) (t:=t) (by simpa using hi)
   rw[show o+(i+1)*6=o+6+i*6 by omega];exact this
theorem TySl.open{B:Nat->Prop}{w:World}{kv:Value}{ts:List Ty}(h:TySl B w kv ts):
 ∃pa len c,kv= .slice pa len c/\Hid (len=ts.length)/\len<=9223372036854775807/\∀i t,ts[i]? =some t->∃kb ko,pa=some ⟨kb,ko,none⟩/\B kb/\TyAt B w t kb (ko+i*6):=by
 obtain⟨h,hm⟩:=h
 unfold maxLen at hm
 rcases h with⟨⟨a,c,rfl⟩,rfl⟩|⟨kb,ko,c,rfl,hkb,hrow⟩
 ·exact⟨a,0,c,rfl,hid rfl,by omega,fun i t hi=>by simp at hi⟩
 ·exact⟨_,_,_,rfl,hid rfl,by omega,fun i t hi=>⟨kb,ko,rfl,hkb,hrow.get hi⟩⟩
theorem StrSl.open{B:Nat->Prop}{w:World}{v:Value}{ls:List ByteArray}(h:StrSl B w v ls):
 ∃pa len c,v= .slice pa len c/\Hid (len=ls.length)/\len<=9223372036854775807/\∀i s,ls[i]? =some s->s.size<=maxLen/\∃kb ko,pa=some ⟨kb,ko,none⟩/\B kb/\w.cell? ⟨kb,ko+i,none⟩=some (.string s):=by
 obtain⟨h,hm,hz⟩:=h
 unfold maxLen at hm
 rcases h with⟨⟨a,c,rfl⟩,rfl⟩|⟨b,o,c,rfl,hb,_,hrow⟩
 ·exact⟨a,0,c,rfl,hid rfl,by omega,fun i t hi=>by simp at hi⟩
 ·exact⟨_,_,_,rfl,hid rfl,by omega,fun i t hi=>⟨hz _ (List.mem_of_getElem? hi),b,o,rfl,hb,hrow i t hi⟩⟩
theorem TyAt.load{B:Nat->Prop}{w:World}{t:Ty}{b o:Nat}(h:TyAt B w t b o):
 ∃lv kv,(w.cell? ⟨b,o,none⟩=some (.int .i64 t.k)/\w.cell? ⟨b,o+1,none⟩=some (.int .i64 t.p)/\w.cell? ⟨b,o+2,none⟩=some (.string t.n)/\w.cell? ⟨b,o+3,none⟩=some (.int .i64 t.s)/\
  w.cell? ⟨b,o+4,none⟩=some lv/\w.cell? ⟨b,o+5,none⟩=some kv)/\TyVal B w (.agg #[.int .i64 t.k,.int .i64 t.p,.string t.n,.int .i64 t.s,lv,kv]) t:=by
 obtain⟨_,hn,⟨c0,c1,c2,c3⟩,lv,kv,c4,c5,hl,hk⟩:=TyAt.eq.1 h
 exact⟨lv,kv,⟨c0,c1,c2,c3,c4,c5⟩,lv,kv,rfl,hn,hl,hk⟩
theorem TyAt.load'{B:Nat->Prop}{w:World}{t:Ty}{b o:Nat}(h:TyAt B w t b o):
 ∃(la:Option Addr) (ln lc:Nat) (ka:Option Addr) (kn kc:Nat),(w.cell? ⟨b,o,none⟩=some (.int .i64 t.k)/\w.cell? ⟨b,o+1,none⟩=some (.int .i64 t.p)/\w.cell? ⟨b,o+2,none⟩=some (.string t.n)/\w.cell? ⟨b,o+3,none⟩=some (.int .i64 t.s)/\
  w.cell? ⟨b,o+4,none⟩=some (.slice la ln lc)/\w.cell? ⟨b,o+5,none⟩=some (.slice ka kn kc))/\TyVal B w (.agg #[.int .i64 t.k,.int .i64 t.p,.string t.n,.int .i64 t.s,.slice la ln lc,.slice ka kn kc]) t:=by
 obtain⟨lv,kv,hc,hv⟩:=h.load
 obtain⟨lv',kv',e,hn,hl,hk⟩:=hv
 obtain⟨la,ln,lc,el,_⟩:=hl.open
 obtain⟨ka,kn,kc,ek,_⟩:=hk.open
 simp only[Value.agg.injEq,Array.mk.injEq,List.cons.injEq,and_true,true_and] at e
 obtain⟨rfl,rfl⟩:=e
 subst el ek
 exact⟨la,ln,lc,ka,kn,kc,hc,_,_,rfl,hn,hl,hk⟩
theorem Jh{k:IntKind}{a b:Int}(h:a=b):Ending.returned (.int k a)= .returned (.int k b):=by rw[h]
theorem YZ{a b:Int}(h:a=b):Value.int .i64 a= .int .i64 b:=by rw[h]
theorem Qm{a b:Bool}(h:a=b):Ending.returned (.bool a)= .returned (.bool b):=by rw[h]
theorem Dg(B:Nat->Prop)(k p s:Int)(n:ByteArray)(lv kv:Value)(ts:List Ty)(hts:Ty.sizes ts<=1000000)
 (ih:∀t∈ts,∀(v:Value) (w:World),Low B w->TyVal B w v t->Calls Tryz.prog 40 #[v] w fun e w'=>e= .returned (.int .i64 t.size)/\Below w.heap.size w w')
 (w:World) (hB:Low B w) (hk:TySl B w kv ts):
 Calls Tryz.prog 40 #[.agg #[.int .i64 k,.int .i64 p,.string n,.int .i64 s,lv,kv]] w fun e w'=>e= .returned (.int .i64 ((Ty.sizes ts+1:Nat):Int))/\Below w.heap.size w w':=by
 obtain⟨pa,len,c,rfl,hlen,hm,hget⟩:=hk.open
 have HG:=hid hget
 clear hget hk
 go_enter Tryz.func40,Tryz.ntmps40
 go_wp2_with fail
 go_loopw [3,4] (fun a i wr=>∃j:Nat,i= .int .i64 j/\j<=len/\a= .int .i64 ((Ty.sizes (ts.take j)+1:Nat):Int)/\Below (w.heap.size+1) (w.alloc (.cells #[.int .i64 k,.int .i64 p,.string n,.int .i64 s,lv,.slice pa len c] 28)) wr) (fun _ i _=>len-(intOf i).toNat)
 case atStart=>exact⟨0,rfl,by omega,by simp[Ty.sizes],bR⟩
 case round=>
  obtain⟨j,rfl,hj,rfl,hb⟩:=hrel
  have c5:=JB hb 5 rfl
  have hw:=Yc hb
  by_cases hlt:j<len
  ·obtain⟨t,ht⟩:∃t,ts[j]? =some t:=⟨_,List.getElem?_eq_getElem (by rw[<-hlen.out];exact hlt)⟩
   obtain⟨kb,ko,rfl,hkb,hty⟩:=HG.out j t ht
   obtain⟨lv',kv',⟨d0,d1,d2,d3,d4,d5⟩,hval⟩:=(hty.keep (hw.keeps'.mono hB)).load
   have hsz:=Ty.sizes_take ht
   have hle:=Ty.sizes_take_le ts (j+1)
   have IH:=hid (ih t (List.mem_of_getElem? ht) _ wr (hB.le hw.size) hval)
   obtain⟨a0,ha0⟩:∃a0,Ty.sizes (ts.take j)+1=a0:=⟨_,rfl⟩
   have HA:=hid hsz
   have ha1:a0+t.size<=1000001:=by omega
   have HA0:=hid ha0
   rw[ha0]
   clear hsz ha0 ht
   go_wp2_with (go_at_call 40;refine IH.out.mono ?_;rintro e w1⟨rfl,hb1⟩)
   go_roundw
   case rel=>exact⟨j+1,by go_num,by omega,YZ (by rw[HA.out];have:=HA0.out;omega),hb.trans (hb1.mono (by have:=hb.size;simpa using this))⟩
   case measure=>simp[intOf];omega
  ·obtain rfl:j=len:=by omega
   go_wp2_with fail
   go_ret
   exact⟨Jh (by rw[List.take_of_length_le (by rw[hlen.out];exact lR)]),hw⟩
theorem NB(B:Nat->Prop):∀(t:Ty),t.size<=1000000->∀(v:Value) (w:World),Low B w->TyVal B w v t->Calls Tryz.prog 40 #[v] w fun e w'=>e= .returned (.int .i64 t.size)/\Below w.heap.size w w':=by
 refine Ty.ind ?_
 intro k p n s ls ts ih hsz v w hB hv
 obtain⟨lv,kv,rfl,_,_,hk⟩:=hv
 have h1:Ty.sizes ts<=1000000:=by rw[Ty.size_eq] at hsz;simp only[Ty.ts] at hsz;omega
 have:=Dg B k p s n lv kv ts h1 (fun t ht=>ih t ht (lT (Ty.size_mem ht) h1)) w hB hk
 rw[Ty.size_eq];exact this
theorem Gs(B:Nat->Prop)(k p s:Int)(n:ByteArray)(lv kv:Value)(ts:List Ty)(hts:Ty.depths ts<=1000000)
 (ih:∀t∈ts,∀(v:Value) (w:World),Low B w->TyVal B w v t->Calls Tryz.prog 39 #[v] w fun e w'=>e= .returned (.int .i64 t.depth)/\Below w.heap.size w w')
 (w:World) (hB:Low B w) (hk:TySl B w kv ts):
 Calls Tryz.prog 39 #[.agg #[.int .i64 k,.int .i64 p,.string n,.int .i64 s,lv,kv]] w fun e w'=>e= .returned (.int .i64 ((Ty.depths ts+1:Nat):Int))/\Below w.heap.size w w':=by
 obtain⟨pa,len,c,rfl,hlen,hm,hget⟩:=hk.open
 have HG:=hid hget
 clear hget hk
 go_enter Tryz.func39,Tryz.ntmps39
 go_wp2_with fail
 go_loopw [3,4] (fun a i wr=>∃j:Nat,i= .int .i64 j/\j<=len/\a= .int .i64 ((Ty.depths (ts.take j):Nat):Int)/\Below (w.heap.size+1) (w.alloc (.cells #[.int .i64 k,.int .i64 p,.string n,.int .i64 s,lv,.slice pa len c] 28)) wr) (fun _ i _=>len-(intOf i).toNat)
 case atStart=>exact⟨0,rfl,by omega,by simp[Ty.depths],bR⟩
 case round=>
  obtain⟨j,rfl,hj,rfl,hb⟩:=hrel
  have c5:=JB hb 5 rfl
  have hw:=Yc hb
  by_cases hlt:j<len
  ·obtain⟨t,ht⟩:∃t,ts[j]? =some t:=⟨_,List.getElem?_eq_getElem (by rw[<-hlen.out];exact hlt)⟩
   obtain⟨kb,ko,rfl,hkb,hty⟩:=HG.out j t ht
   obtain⟨lv',kv',⟨d0,d1,d2,d3,d4,d5⟩,hval⟩:=(hty.keep (hw.keeps'.mono hB)).load
   have hsz:=Ty.depths_take ht
   have hle:=Ty.depths_take_le ts (j+1)
   have IH:=hid (ih t (List.mem_of_getElem? ht) _ wr (hB.le hw.size) hval)
   obtain⟨a0,ha0⟩:∃a0,Ty.depths (ts.take j)=a0:=⟨_,rfl⟩
   have HA:=hid hsz
   have ha1:max a0 t.depth<=1000000:=by omega
   have HA0:=hid ha0
   rw[ha0]
   clear hsz ha0 ht
   go_wp2_with (go_at_call 39;refine IH.out.mono ?_;rintro e w1⟨rfl,hb1⟩)
   go_roundw
   case rel=>exact⟨j+1,by go_num,by omega,YZ (by rw[HA.out];have:=HA0.out;omega),hb.trans (hb1.mono (by have:=hb.size;simpa using this))⟩
   case measure=>simp[intOf];omega
  ·obtain rfl:j=len:=by omega
   have hle:=Ty.depths_take_le ts j
   go_wp2_with fail
   go_ret
   exact⟨Jh (by rw[List.take_of_length_le (by rw[hlen.out];exact lR)];omega),hw⟩
theorem Mc(B:Nat->Prop):∀(t:Ty),t.depth<=1000000->∀(v:Value) (w:World),Low B w->TyVal B w v t->Calls Tryz.prog 39 #[v] w fun e w'=>e= .returned (.int .i64 t.depth)/\Below w.heap.size w w':=by
 refine Ty.ind ?_
 intro k p n s ls ts ih hsz v w hB hv
 obtain⟨lv,kv,rfl,_,_,hk⟩:=hv
 have h1:Ty.depths ts<=1000000:=by rw[Ty.depth_eq] at hsz;simp only[Ty.ts] at hsz;omega
 have:=Gs B k p s n lv kv ts h1 (fun t ht=>ih t ht (lT (Ty.depth_mem ht) h1)) w hB hk
 rw[Ty.depth_eq];exact this
mutual
theorem Ty.depth_le_size:∀t:Ty,t.depth<=t.size
 | .mk k p n s ls ts=>by rw[Ty.depth_eq,Ty.size_eq];have:=Ty.depths_le_sizes ts;simp only[Ty.ts];omega
theorem Ty.depths_le_sizes:∀ts:List Ty,Ty.depths ts<=Ty.sizes ts
 |[]=>by simp[Ty.depths]
 |t::r=>by have:=Ty.depth_le_size t;have:=Ty.depths_le_sizes r;simp only[Ty.depths,Ty.sizes];omega
end
theorem Ue{s s':ByteArray}(h:s≠s'):(s.toList != s'.toList)=true:=by
 simp only[bne_iff_ne,ne_eq]
 intro e
 apply h
 rw[Lib.toList_data,Lib.toList_data] at e
 obtain⟨⟨a⟩⟩:=s
 obtain⟨⟨b⟩⟩:=s'
 simp at e
 rw[e]
theorem De(B:Nat->Prop)(v v':Value)(ls ls':List ByteArray)(w:World)(h:StrSl B w v ls)(h':StrSl B w v' ls'):
 Calls Tryz.prog 41 #[v,v'] w fun e w'=>e= .returned (.bool (decide (ls=ls')))/\Drew w w':=by
 obtain⟨pa,len,c,rfl,hlen,hm,hget⟩:=h.open
 obtain⟨pa',len',c',rfl,hlen',hm',hget'⟩:=h'.open
 have HG:=hid hget
 have HG':=hid hget'
 clear hget hget' h h'
 by_cases hl:len=len'
 ·subst hl
  go_enter Tryz.func41,Tryz.ntmps41
  go_wp2_with fail
  go_loopw [5] (fun i wr=>∃(j:Nat),i= .int .i64 j/\j<=len/\Hid (ls.take j=ls'.take j)/\Drew w wr) (fun i _=>len-(intOf i).toNat)
  case atStart=>exact⟨0,rfl,by omega,hid (by simp),Drew.refl _⟩
  case round=>
   obtain⟨j,rfl,hj,HT,hd⟩:=hrel
   by_cases hlt:j<len
   ·obtain⟨s,hs⟩:∃s,ls[j]? =some s:=⟨_,List.getElem?_eq_getElem (by rw[<-hlen.out];exact hlt)⟩
    obtain⟨s',hs'⟩:∃s',ls'[j]? =some s':=⟨_,List.getElem?_eq_getElem (by rw[<-hlen'.out];exact hlt)⟩
    obtain⟨_,kb,ko,rfl,hkb,hc⟩:=HG.out j s hs
    obtain⟨_,kb',ko',rfl,hkb',hc'⟩:=HG'.out j s' hs'
    replace hc:wr.cell? ⟨kb,ko+j,none⟩=some (.string s):=by obtain⟨m,rfl⟩:=hd;exact hc
    replace hc':wr.cell? ⟨kb',ko'+j,none⟩=some (.string s'):=by obtain⟨m,rfl⟩:=hd;exact hc'
    by_cases hss:s=s'
    ·subst hss
     have hn:Hid (ls.take (j+1)=ls'.take (j+1)):=hid (by rw[Qn hs,Qn hs',HT.out])
     clear hs hs'
     go_wp2_with fail
     go_quiet (fail)
     go_wp2_with fail
     go_roundw
     case rel=>exact⟨j+1,by go_num,by omega,hn,hd.more _⟩
     case measure=>simp[intOf];omega
    ·have hne:Hid (ls≠ls'):=hid (fun e=>hss (by rw[e,hs'] at hs;exact(Option.some.inj hs).symm))
     have hb1:=Ue hss
     have hb2:(s.toList==s'.toList)=false:=by simpa using hb1
     clear hs hs' hss
     go_wp2_with fail
     go_quiet (fail)
     go_wp2_with fail
     go_ret
     exact⟨Qm (by simp[hne.out]),hd.more _⟩
   ·obtain rfl:j=len:=by omega
    go_wp2_with fail
    go_ret
    refine⟨Qm ?_,hd⟩
    have:=HT.out
    rw[List.take_of_length_le (by rw[hlen.out];exact lR),List.take_of_length_le (by rw[hlen'.out];exact lR)] at this
    simp[this]
 ·have hl':(len != len')=true:=by simpa using hl
  have hne:ls≠ls':=fun e=>hl (by rw[hlen.out,hlen'.out,e])
  have HN:=hid hne
  clear hne
  go_enter Tryz.func41,Tryz.ntmps41
  go_wp2_with fail
  go_ret
  exact⟨Qm (by simp[HN.out]),Drew.refl _⟩
noncomputable def eqB (t u:Ty):Bool:= @decide (t=u) (Classical.propDecidable _)
theorem eqB_true{t u:Ty}:eqB t u=true↔t=u:=by unfold eqB;simp
theorem Nr{t u:Ty}(h:t≠u):eqB t u=false:=by
 cases e:eqB t u with
 |false=>rfl
 |true=>exact absurd (eqB_true.1 e) h
def Lc(f:Nat)(B:Nat->Prop)(t:Ty):Prop:=∀(u:Ty) (v v':Value) (w:World),Low B w->TyVal B w v t->TyVal B w v' u->Calls Tryz.prog f #[v,v'] w fun e w'=>e= .returned (.bool (eqB t u))/\Below w.heap.size w w'
abbrev Uz(k p:Int)(n:ByteArray)(s:Int)(lv kv:Value):Obj:= .cells #[.int .i64 k,.int .i64 p,.string n,.int .i64 s,lv,kv] 28
abbrev box2(w:World)(k p:Int)(n:ByteArray)(s:Int)(lv kv:Value)(k' p':Int)(n':ByteArray)(s':Int)(lv' kv':Value):World:=(w.alloc (Uz k p n s lv kv)).alloc (Uz k' p' n' s' lv' kv')
theorem Jb(w:World)(o o':Obj):Below w.heap.size w ((w.alloc o).alloc o'):=(bR.alloc lR _).alloc (by simp) _
theorem WS(k p s k' p' s':Int)(n n':ByteArray)(lv kv lv' kv':Value)(h:¬(k=k'/\p=p'/\n=n'/\s=s'))(w:World):
 Calls Tryz.prog 18 #[.agg #[.int .i64 k,.int .i64 p,.string n,.int .i64 s,lv,kv],.agg #[.int .i64 k',.int .i64 p',.string n',.int .i64 s',lv',kv']] w fun e w'=>e= .returned (.bool false)/\Below w.heap.size w w':=by
 by_cases h1:k=k'
 ·subst h1
  by_cases h2:p=p'
  ·subst h2
   by_cases h3:n=n'
   ·subst h3
    have h4:(s != s')=true:=by simp;intro e;exact h ⟨rfl,rfl,rfl,e⟩
    clear h
    go_enter Tryz.func18,Tryz.ntmps18
    go_wp2_with fail
    go_ret
    exact⟨rfl,Jb _ _ _⟩
   ·have h4:=Ue h3
    have h5:(n.toList==n'.toList)=false:=by simpa using h4
    clear h
    go_enter Tryz.func18,Tryz.ntmps18
    go_wp2_with fail
    go_ret
    exact⟨rfl,Jb _ _ _⟩
  ·have h4:(p != p')=true:=by simpa using h2
   clear h
   go_enter Tryz.func18,Tryz.ntmps18
   go_wp2_with fail
   go_ret
   exact⟨rfl,Jb _ _ _⟩
 ·have h4:(k != k')=true:=by simpa using h1
  clear h
  go_enter Tryz.func18,Tryz.ntmps18
  go_wp2_with fail
  go_ret
  exact⟨rfl,Jb _ _ _⟩
theorem Vo{α:Type}{l l':List α}{n:Nat}(h:n=l.length)(h':n=l'.length)(ht:l.take n=l'.take n):l=l':=by
 rw[List.take_of_length_le (by omega),List.take_of_length_le (by omega)] at ht;exact ht
theorem QL{w wr:World}{cs cs':Array Value}{t t':TypeId}(hb:Below (w.heap.size+2) ((w.alloc (.cells cs t)).alloc (.cells cs' t')) wr)(j:Nat){v:Value}(h:cs[j]? =some v):wr.cell? ⟨w.heap.size,j,none⟩=some v:=by
 refine(hb.cell (p:=⟨w.heap.size,j,none⟩) (by simp)).trans ?_
 rw[(bR |>.alloc lR (.cells cs' t'):Below (w.alloc (.cells cs t)).heap.size (w.alloc (.cells cs t)) _).cell (by simp)]
 simp[h]
theorem QK{w wr:World}{cs cs':Array Value}{t t':TypeId}(hb:Below (w.heap.size+2) ((w.alloc (.cells cs t)).alloc (.cells cs' t')) wr)(j:Nat){v:Value}(h:cs'[j]? =some v):wr.cell? ⟨w.heap.size+1,j,none⟩=some v:=by
 refine(hb.cell (p:=⟨w.heap.size+1,j,none⟩) (by simp)).trans ?_
 have:=JB (w:=w.alloc (.cells cs t)) (cs:=cs') (t:=t') bR j h
 simpa using this
theorem JR{w wr:World}{o o':Obj}(hb:Below (w.heap.size+2) ((w.alloc o).alloc o') wr):Below w.heap.size w wr:=(Jb w o o').trans (hb.mono (by omega))
theorem Dh(B:Nat->Prop)(k p s:Int)(n:ByteArray)(lv lv' kv kv':Value)(ls ls':List ByteArray)(ts ts':List Ty)(ih:∀t∈ts,Lc 18 B t)(w:World)(hB:Low B w)
 (hl:StrSl B w lv ls) (hl':StrSl B w lv' ls') (hk:TySl B w kv ts) (hk':TySl B w kv' ts'):
 Calls Tryz.prog 18 #[.agg #[.int .i64 k,.int .i64 p,.string n,.int .i64 s,lv,kv],.agg #[.int .i64 k,.int .i64 p,.string n,.int .i64 s,lv',kv']] w
  fun e w'=>e= .returned (.bool (eqB (.mk k p n s ls ts) (.mk k p n s ls' ts')))/\Below w.heap.size w w':=by
 obtain⟨pa,len,c,rfl,hlen,hm,hget⟩:=hk.open
 obtain⟨pa',len',c',rfl,hlen',hm',hget'⟩:=hk'.open
 have HG:=hid hget
 have HG':=hid hget'
 have hb0:=Jb w (Uz k p n s lv (.slice pa len c)) (Uz k p n s lv' (.slice pa' len' c'))
 have HT:=hid (De B lv lv' ls ls' (box2 w k p n s lv (.slice pa len c) k p n s lv' (.slice pa' len' c')) (hl.keep (hb0.keeps'.mono hB)) (hl'.keep (hb0.keeps'.mono hB)))
 clear hget hget' hk hk' hl hl' hb0
 by_cases he:ls=ls'
 ·subst he
  rw[show decide (ls=ls)=true by simp] at HT
  by_cases hz:len=len'
  ·subst hz
   go_enter Tryz.func18,Tryz.ntmps18
   go_wp2_with (go_at_call 41;refine HT.out.mono ?_;rintro e w1⟨rfl,nq,rfl⟩)
   clear HT
   generalize hW0:((box2 w k p n s lv (.slice pa len c) k p n s lv' (.slice pa' len c')).drewN nq)=W0
   have hB0:Below (w.heap.size+2) (box2 w k p n s lv (.slice pa len c) k p n s lv' (.slice pa' len c')) W0:=by rw[<-hW0];exact below_drewN bR _
   clear hW0
   go_loopw [5] (fun i wr=>∃(j:Nat),i= .int .i64 j/\j<=len/\Hid (ts.take j=ts'.take j)/\Below (w.heap.size+2) (box2 w k p n s lv (.slice pa len c) k p n s lv' (.slice pa' len c')) wr) (fun i _=>len-(intOf i).toNat)
   case atStart=>exact⟨0,rfl,by omega,hid (by simp),hB0⟩
   case round=>
    obtain⟨j,rfl,hj,HT,hb⟩:=hrel
    have c5:=QL hb 5 rfl
    have d5:=QK hb 5 rfl
    have hw:=JR hb
    by_cases hlt:j<len
    ·obtain⟨t,ht⟩:∃t,ts[j]? =some t:=⟨_,List.getElem?_eq_getElem (by rw[<-hlen.out];exact hlt)⟩
     obtain⟨t',ht'⟩:∃t',ts'[j]? =some t':=⟨_,List.getElem?_eq_getElem (by rw[<-hlen'.out];exact hlt)⟩
     obtain⟨kb,ko,rfl,hkb,hty⟩:=HG.out j t ht
     obtain⟨kb',ko',rfl,hkb',hty'⟩:=HG'.out j t' ht'
     obtain⟨lv1,kv1,⟨a0,a1,a2,a3,a4,a5⟩,hval⟩:=(hty.keep (hw.keeps'.mono hB)).load
     obtain⟨lv2,kv2,⟨b0,b1,b2,b3,b4,b5⟩,hval'⟩:=(hty'.keep (hw.keeps'.mono hB)).load
     have IH:=hid (ih t (List.mem_of_getElem? ht) t' _ _ wr.drew (hB.le hw.size) (hval.to (hB.le hw.size) (Below.drew bR)) (hval'.to (hB.le hw.size) (Below.drew bR)))
     by_cases htt:t=t'
     ·rw[eqB_true.2 htt] at IH
      have hn:Hid (ts.take (j+1)=ts'.take (j+1)):=hid (by rw[Qn ht,Qn ht',HT.out,htt])
      clear ht ht' htt hty hty' hval hval'
      go_wp2_with fail
      go_still_tail 10,(by kernel_rfl)
      change wpList _ _ _ _ _ wr.drew
      generalize hw2:wr.drew=w2 at *
      have hb2:Below (w.heap.size+2) (box2 w k p n s lv (.slice (some ⟨kb,ko,none⟩) len c) k p n s lv' (.slice (some ⟨kb',ko',none⟩) len c')) w2:=by rw[<-hw2];exact hb.drew
      clear hw2
      go_wp2_with (go_at_call 18;refine IH.out.mono ?_;rintro e w3⟨rfl,hb3⟩)
      go_roundw
      case rel=>exact⟨j+1,by go_num,by omega,hn,hb2.trans (hb3.mono (by have:=hb2.size;simpa using this))⟩
      case measure=>simp[intOf];omega
     ·rw[Nr htt] at IH
      have hne:Hid (eqB (.mk k p n s ls ts) (.mk k p n s ls ts')=false):=hid (Nr (fun e=>htt (by cases e;rw[ht] at ht';exact Option.some.inj ht')))
      clear ht ht' htt hty hty' hval hval'
      go_wp2_with fail
      go_still_tail 10,(by kernel_rfl)
      change wpList _ _ _ _ _ wr.drew
      generalize hw2:wr.drew=w2 at *
      have hb2:Below (w.heap.size+2) (box2 w k p n s lv (.slice (some ⟨kb,ko,none⟩) len c) k p n s lv' (.slice (some ⟨kb',ko',none⟩) len c')) w2:=by rw[<-hw2];exact hb.drew
      clear hw2
      go_wp2_with (go_at_call 18;refine IH.out.mono ?_;rintro e w3⟨rfl,hb3⟩)
      go_ret
      exact⟨Qm hne.out.symm,Qf (JR hb2) hb3⟩
    ·obtain rfl:j=len:=by omega
     have hq:Hid (eqB (.mk k p n s ls ts) (.mk k p n s ls ts')=true):=hid (eqB_true.2 (by rw[Vo hlen.out hlen'.out HT.out]))
     go_wp2_with fail
     go_ret
     exact⟨Qm hq.out.symm,hw⟩
  ·have hz':(len != len')=true:=by simpa using hz
   have hne:Hid (eqB (.mk k p n s ls ts) (.mk k p n s ls ts')=false):=hid (Nr (fun e=>hz (by rw[hlen.out,hlen'.out];cases e;rfl)))
   go_enter Tryz.func18,Tryz.ntmps18
   go_wp2_with (go_at_call 41;refine HT.out.mono ?_;rintro e w1⟨rfl,nq,rfl⟩)
   go_ret
   exact⟨Qm hne.out.symm,below_drewN (Jb _ _ _) _⟩
 ·rw[show decide (ls=ls')=false by simpa using he] at HT
  have hne:Hid (eqB (.mk k p n s ls ts) (.mk k p n s ls' ts')=false):=hid (Nr (fun e=>he (by cases e;rfl)))
  clear he
  go_enter Tryz.func18,Tryz.ntmps18
  go_wp2_with (go_at_call 41;refine HT.out.mono ?_;rintro e w1⟨rfl,nq,rfl⟩)
  go_ret
  exact⟨Qm hne.out.symm,below_drewN (Jb _ _ _) _⟩
theorem NC(B:Nat->Prop):∀(t:Ty),Lc 18 B t:=by
 refine Ty.ind ?_
 intro k p n s ls ts ih u v v' w hB hv hv'
 obtain⟨lv,kv,rfl,_,hl,hk⟩:=hv
 obtain⟨k',p',n',s',ls',ts'⟩:=u
 obtain⟨lv',kv',rfl,_,hl',hk'⟩:=hv'
 by_cases h:k=k'/\p=p'/\n=n'/\s=s'
 ·obtain⟨rfl,rfl,rfl,rfl⟩:=h
  exact Dh B _ _ _ _ lv lv' kv kv' ls ls' ts ts' ih w hB hl hl' hk hk'
 ·rw[Nr (fun e=>h (by cases e;exact⟨rfl,rfl,rfl,rfl⟩))]
  exact WS _ _ _ _ _ _ _ _ _ _ _ _ h w
end Go.Proofs.YtmnbheplkidfaaaGreatDoor
namespace Go.Proofs.YtmnbheplkidfaaaGreatDoor
open Go.RowKit
end Go.Proofs.YtmnbheplkidfaaaGreatDoor
namespace Go.Proofs.YtmnbheplkidfaaaGreatDoor
open Go.RowKit Go.Deep
theorem Qc{w:World}{g:Nat}{cs:Array Value}{t:TypeId}(h:w.heap[g]? =some (.cells cs t (0,0)))(j:Nat):w.frozen? ⟨g,j,none⟩=false:=by simp[World.frozen?,h]
theorem XO{B:Nat->Prop}{w:World}{t:Ty}{b o:Nat}{v5 v6:Value}(hb:B b)(c0:w.cell? ⟨b,o,none⟩=some (.int .i64 t.k))(c1:w.cell? ⟨b,o+1,none⟩=some (.int .i64 t.p))(c2:w.cell? ⟨b,o+2,none⟩=some (.string t.n))(c3:w.cell? ⟨b,o+3,none⟩=some (.int .i64 t.s))
 (c4:w.cell? ⟨b,o+4,none⟩=some v5) (c5:w.cell? ⟨b,o+5,none⟩=some v6) (h:TyVal B w (.agg #[.int .i64 t.k,.int .i64 t.p,.string t.n,.int .i64 t.s,v5,v6]) t):TyAt B w t b o:=by
 obtain⟨lv,kv,e,hn,hl,hk⟩:=h
 simp only[Value.agg.injEq,Array.mk.injEq,List.cons.injEq,and_true,true_and] at e
 obtain⟨rfl,rfl⟩:=e
 exact TyAt.eq.2 ⟨hb,hn,⟨c0,c1,c2,c3⟩,_,_,c4,c5,hl,hk⟩
end Go.Proofs.YtmnbheplkidfaaaGreatDoor
namespace Go.Proofs.YtmnbheplkidfaaaGreatDoor
open Go.Lib (hid)
open Go.RowKit
structure Vl where
 k:Int
 n:ByteArray
 x:Int
inductive Pr where
 |mk (k:Int) (c x:ByteArray) (ls:List ByteArray) (vs:List Vl) (t:Ty) (ps:List Pr)
instance:Inhabited Pr:=⟨.mk 0 ⟨#[]⟩ ⟨#[]⟩ [] [] default []⟩
namespace Pr
def k:Pr->Int | .mk k _ _ _ _ _ _=>k
def c:Pr->ByteArray | .mk _ c _ _ _ _ _=>c
def x:Pr->ByteArray | .mk _ _ x _ _ _ _=>x
def ls:Pr->List ByteArray | .mk _ _ _ ls _ _ _=>ls
def vs:Pr->List Vl | .mk _ _ _ _ vs _ _=>vs
def t:Pr->Ty | .mk _ _ _ _ _ t _=>t
def ps:Pr->List Pr | .mk _ _ _ _ _ _ ps=>ps
end Pr
mutual
theorem Pr.ind{M:Pr->Prop}(h:∀k c x ls vs t ps,(∀p∈ps,M p)->M (.mk k c x ls vs t ps)):∀p,M p
 | .mk k c x ls vs t ps=>h k c x ls vs t ps (Pr.inds h ps)
theorem Pr.inds{M:Pr->Prop}(h:∀k c x ls vs t ps,(∀p∈ps,M p)->M (.mk k c x ls vs t ps)):∀ps:List Pr,∀p∈ps,M p
 |[],_,hm=>by cases hm
 |p::r,u,hm=>by
  rcases List.mem_cons.1 hm with e|hm
  ·rw[e];exact Pr.ind h p
  ·exact Pr.inds h r u hm
end
mutual
def Pr.size:Pr->Nat
 | .mk _ _ _ _ _ _ ps=>Pr.sizes ps+1
def Pr.sizes:List Pr->Nat
 |[]=>0
 |p::r=>p.size+Pr.sizes r
end
mutual
def Pr.depth:Pr->Nat
 | .mk _ _ _ _ _ _ ps=>Pr.depths ps+1
def Pr.depths:List Pr->Nat
 |[]=>0
 |p::r=>max p.depth (Pr.depths r)
end
theorem Pr.size_eq(p:Pr):p.size=Pr.sizes p.ps+1:=by cases p;simp[Pr.size,Pr.ps]
theorem Pr.depth_eq(p:Pr):p.depth=Pr.depths p.ps+1:=by cases p;simp[Pr.depth,Pr.ps]
theorem Pr.depth_pos(p:Pr):1<=p.depth:=by rw[Pr.depth_eq];omega
theorem Pr.sizes_append(l r:List Pr):Pr.sizes (l++r)=Pr.sizes l+Pr.sizes r:=by
 induction l with
 |nil=>simp[Pr.sizes]
 |cons t l ih=>simp only[List.cons_append,Pr.sizes,ih];omega
theorem Pr.depths_append(l r:List Pr):Pr.depths (l++r)=max (Pr.depths l) (Pr.depths r):=by
 induction l with
 |nil=>simp[Pr.depths]
 |cons t l ih=>simp only[List.cons_append,Pr.depths,ih];omega
theorem Pr.sizes_take{l:List Pr}{i:Nat}{p:Pr}(h:l[i]? =some p):Pr.sizes (l.take (i+1))=Pr.sizes (l.take i)+p.size:=by
 rw[Qn h,Pr.sizes_append];simp[Pr.sizes]
theorem Pr.depths_take{l:List Pr}{i:Nat}{p:Pr}(h:l[i]? =some p):Pr.depths (l.take (i+1))=max (Pr.depths (l.take i)) p.depth:=by
 rw[Qn h,Pr.depths_append];simp[Pr.depths]
theorem Pr.sizes_take_le(l:List Pr)(i:Nat):Pr.sizes (l.take i)<=Pr.sizes l:=by
 have:=Pr.sizes_append (l.take i) (l.drop i);rw[List.take_append_drop] at this;omega
theorem Pr.depths_take_le(l:List Pr)(i:Nat):Pr.depths (l.take i)<=Pr.depths l:=by
 have:=Pr.depths_append (l.take i) (l.drop i);rw[List.take_append_drop] at this;omega
theorem Pr.depth_mem{l:List Pr}{p:Pr}(h:p∈l):p.depth<=Pr.depths l:=by
 induction l with
 |nil=>cases h
 |cons u l ih=>
  simp only[Pr.depths]
  rcases List.mem_cons.1 h with rfl|h
  ·omega
  ·have:=ih h;omega
theorem Pr.size_mem{l:List Pr}{p:Pr}(h:p∈l):p.size<=Pr.sizes l:=by
 induction l with
 |nil=>cases h
 |cons u l ih=>
  simp only[Pr.sizes]
  rcases List.mem_cons.1 h with rfl|h
  ·omega
  ·have:=ih h;omega
mutual
theorem Pr.depth_le_size:∀p:Pr,p.depth<=p.size
 | .mk k c x ls vs t ps=>by have:=Pr.depths_le_sizes ps;simp only[Pr.depth,Pr.size];omega
theorem Pr.depths_le_sizes:∀ps:List Pr,Pr.depths ps<=Pr.sizes ps
 |[]=>by simp[Pr.depths,Pr.sizes]
 |p::r=>by have:=Pr.depth_le_size p;have:=Pr.depths_le_sizes r;simp only[Pr.depths,Pr.sizes];omega
end
def VlRow(w:World)(b o:Nat)(vs:List Vl):Prop:=∀(j:Nat) (a:Vl),vs[j]? =some a->w.cell? ⟨b,o+j*3,none⟩=some (.int .i64 a.k)/\w.cell? ⟨b,o+j*3+1,none⟩=some (.string a.n)/\w.cell? ⟨b,o+j*3+2,none⟩=some (.int .i64 a.x)
def VlSl(B:Nat->Prop)(w:World)(v:Value)(vs:List Vl):Prop:=
 (((∃a c,v= .slice a 0 c)/\vs=[])\/∃b o c,v= .slice (some ⟨b,o,none⟩) vs.length c/\B b/\vs.length<=c/\VlRow w b o vs)/\vs.length<=maxLen/\∀a∈vs,a.n.size<=maxLen
mutual
def PrAt(B:Nat->Prop)(w:World):Pr->Nat->Nat->Prop
 | .mk k c x ls vs t ps,b,o=>B b/\(c.size<=maxLen/\x.size<=maxLen)/\
  (w.cell? ⟨b,o,none⟩=some (.int .i64 k)/\w.cell? ⟨b,o+1,none⟩=some (.string c)/\w.cell? ⟨b,o+2,none⟩=some (.string x))/\
  TyAt B w t b (o+5)/\
  ∃lv av kv,w.cell? ⟨b,o+3,none⟩=some lv/\w.cell? ⟨b,o+4,none⟩=some av/\w.cell? ⟨b,o+11,none⟩=some kv/\StrSl B w lv ls/\VlSl B w av vs/\
   (((∃a c,kv= .slice a 0 c)/\ps=[])\/∃kb ko c,kv= .slice (some ⟨kb,ko,none⟩) ps.length c/\B kb/\PrsAt B w ps kb ko)/\ps.length<=maxLen
def PrsAt(B:Nat->Prop)(w:World):List Pr->Nat->Nat->Prop
 |[],_,_=>True
 |p::r,b,o=>PrAt B w p b o/\PrsAt B w r b (o+12)
end
def PrSl(B:Nat->Prop)(w:World)(kv:Value)(ps:List Pr):Prop:=
 (((∃a c,kv= .slice a 0 c)/\ps=[])\/∃kb ko c,kv= .slice (some ⟨kb,ko,none⟩) ps.length c/\B kb/\PrsAt B w ps kb ko)/\ps.length<=maxLen
abbrev QW(p:Pr)(lv av tl tk kv:Value):Value:= .agg #[.int .i64 p.k,.string p.c,.string p.x,lv,av,.int .i64 p.t.k,.int .i64 p.t.p,.string p.t.n,.int .i64 p.t.s,tl,tk,kv]
def PrVal(B:Nat->Prop)(w:World)(v:Value)(p:Pr):Prop:=
 ∃lv av tl tk kv,v=QW p lv av tl tk kv/\(p.c.size<=maxLen/\p.x.size<=maxLen)/\StrSl B w lv p.ls/\VlSl B w av p.vs/\TyVal B w (.agg #[.int .i64 p.t.k,.int .i64 p.t.p,.string p.t.n,.int .i64 p.t.s,tl,tk]) p.t/\PrSl B w kv p.ps
theorem PrAt.eq{B:Nat->Prop}{w:World}{p:Pr}{b o:Nat}:PrAt B w p b o↔B b/\(p.c.size<=maxLen/\p.x.size<=maxLen)/\
 (w.cell? ⟨b,o,none⟩=some (.int .i64 p.k)/\w.cell? ⟨b,o+1,none⟩=some (.string p.c)/\w.cell? ⟨b,o+2,none⟩=some (.string p.x))/\
 TyAt B w p.t b (o+5)/\
 ∃lv av kv,w.cell? ⟨b,o+3,none⟩=some lv/\w.cell? ⟨b,o+4,none⟩=some av/\w.cell? ⟨b,o+11,none⟩=some kv/\StrSl B w lv p.ls/\VlSl B w av p.vs/\PrSl B w kv p.ps:=by
 cases p;simp only[PrAt,PrSl,Pr.k,Pr.c,Pr.x,Pr.t,Pr.ls,Pr.vs,Pr.ps]
theorem VlSl.keep{B:Nat->Prop}{w w':World}(h:Keeps B w w'){v:Value}{vs:List Vl}(hv:VlSl B w v vs):VlSl B w' v vs:=by
 refine⟨?_,hv.2⟩
 rcases hv.1 with h1|⟨b,o,c,h1,h2,hc,h3⟩
 ·exact .inl h1
 ·exact .inr ⟨b,o,c,h1,h2,hc,fun j a hj=>⟨h.cell h2 (h3 j a hj).1,h.cell h2 (h3 j a hj).2.1,h.cell h2 (h3 j a hj).2.2⟩⟩
theorem VlSl.mono{B C:Nat->Prop}{w:World}(h:∀k,B k->C k){v:Value}{vs:List Vl}(hv:VlSl B w v vs):VlSl C w v vs:=by
 refine⟨?_,hv.2⟩
 rcases hv.1 with h1|⟨b,o,c,h1,h2,hc,h3⟩
 ·exact .inl h1
 ·exact .inr ⟨b,o,c,h1,h _ h2,hc,h3⟩
mutual
theorem PrAt.keep{B:Nat->Prop}{w w':World}(h:Keeps B w w'):∀(p:Pr) (b o:Nat),PrAt B w p b o->PrAt B w' p b o
 | .mk k c x ls vs t ps,b,o,hp=>by
  simp only[PrAt] at hp |-
  obtain⟨hb,hn,⟨c0,c1,c2⟩,ht,lv,av,kv,c3,c4,c11,hl,ha,hk,hm⟩:=hp
  refine⟨hb,hn,⟨h.cell hb c0,h.cell hb c1,h.cell hb c2⟩,ht.keep h,lv,av,kv,h.cell hb c3,h.cell hb c4,h.cell hb c11,hl.keep h,ha.keep h,?_,hm⟩
  rcases hk with h1|⟨kb,ko,c,h1,h2,h3⟩
  ·exact .inl h1
  ·exact .inr ⟨kb,ko,c,h1,h2,PrsAt.keep h ps kb ko h3⟩
theorem PrsAt.keep{B:Nat->Prop}{w w':World}(h:Keeps B w w'):∀(ps:List Pr) (b o:Nat),PrsAt B w ps b o->PrsAt B w' ps b o
 |[],_,_,_=>by simp[PrsAt]
 |p::r,b,o,hp=>by
  simp only[PrsAt] at hp |-
  exact⟨PrAt.keep h p b o hp.1,PrsAt.keep h r b (o+12) hp.2⟩
end
theorem PrSl.keep{B:Nat->Prop}{w w':World}(h:Keeps B w w'){v:Value}{ps:List Pr}(hv:PrSl B w v ps):PrSl B w' v ps:=by
 refine⟨?_,hv.2⟩
 rcases hv.1 with h1|⟨b,o,c,h1,h2,h3⟩
 ·exact .inl h1
 ·exact .inr ⟨b,o,c,h1,h2,PrsAt.keep h _ _ _ h3⟩
theorem PrVal.keep{B:Nat->Prop}{w w':World}(h:Keeps B w w'){v:Value}{p:Pr}(hv:PrVal B w v p):PrVal B w' v p:=by
 obtain⟨lv,av,tl,tk,kv,e,hn,hl,ha,ht,hk⟩:=hv
 exact⟨lv,av,tl,tk,kv,e,hn,hl.keep h,ha.keep h,ht.keep h,hk.keep h⟩
mutual
theorem PrAt.mono{B C:Nat->Prop}{w:World}(h:∀k,B k->C k):∀(p:Pr) (b o:Nat),PrAt B w p b o->PrAt C w p b o
 | .mk k c x ls vs t ps,b,o,hp=>by
  simp only[PrAt] at hp |-
  obtain⟨hb,hn,hc,ht,lv,av,kv,c3,c4,c11,hl,ha,hk,hm⟩:=hp
  refine⟨h _ hb,hn,hc,ht.mono h,lv,av,kv,c3,c4,c11,hl.mono h,ha.mono h,?_,hm⟩
  rcases hk with h1|⟨kb,ko,c,h1,h2,h3⟩
  ·exact .inl h1
  ·exact .inr ⟨kb,ko,c,h1,h _ h2,PrsAt.mono h ps kb ko h3⟩
theorem PrsAt.mono{B C:Nat->Prop}{w:World}(h:∀k,B k->C k):∀(ps:List Pr) (b o:Nat),PrsAt B w ps b o->PrsAt C w ps b o
 |[],_,_,_=>by simp[PrsAt]
 |p::r,b,o,hp=>by
  simp only[PrsAt] at hp |-
  exact⟨PrAt.mono h p b o hp.1,PrsAt.mono h r b (o+12) hp.2⟩
end
theorem PrSl.mono{B C:Nat->Prop}{w:World}(h:∀k,B k->C k){v:Value}{ps:List Pr}(hv:PrSl B w v ps):PrSl C w v ps:=by
 refine⟨?_,hv.2⟩
 rcases hv.1 with h1|⟨b,o,c,h1,h2,h3⟩
 ·exact .inl h1
 ·exact .inr ⟨b,o,c,h1,h _ h2,PrsAt.mono h _ _ _ h3⟩
theorem PrVal.mono{B C:Nat->Prop}{w:World}(h:∀k,B k->C k){v:Value}{p:Pr}(hv:PrVal B w v p):PrVal C w v p:=by
 obtain⟨lv,av,tl,tk,kv,e,hn,hl,ha,ht,hk⟩:=hv
 exact⟨lv,av,tl,tk,kv,e,hn,hl.mono h,ha.mono h,ht.mono h,hk.mono h⟩
theorem PrVal.to{B:Nat->Prop}{C:Nat}{w w':World}(hBC:∀k,B k->k<C)(hb:Below C w w'){v:Value}{p:Pr}(hv:PrVal B w v p):PrVal B w' v p:=hv.keep (hb.keeps'.mono hBC)
theorem PrsAt.get{B:Nat->Prop}{w:World}:∀ {ps:List Pr} {b o:Nat},PrsAt B w ps b o->∀ {i:Nat} {p:Pr},ps[i]? =some p->PrAt B w p b (o+i*12)
 |[],_,_,_,i,p,hi=>by simp at hi
 |u::r,b,o,h,i,p,hi=>by
  simp only[PrsAt] at h
  cases i with
  |zero=>simp at hi;subst hi;simpa using h.1
  |succ i=>
   have:=PrsAt.get h.2 (i:=i) (p:=p) (by simpa using hi)
   rw[show o+(i+1)*12=o+12+i*12 by omega];exact this
theorem PrSl.open{B:Nat->Prop}{w:World}{kv:Value}{ps:List Pr}(h:PrSl B w kv ps):
 ∃pa len c,kv= .slice pa len c/\Hid (len=ps.length)/\len<=9223372036854775807/\∀i p,ps[i]? =some p->∃kb ko,pa=some ⟨kb,ko,none⟩/\B kb/\PrAt B w p kb (ko+i*12):=by
 obtain⟨h,hm⟩:=h
 unfold maxLen at hm
 rcases h with⟨⟨a,c,rfl⟩,rfl⟩|⟨kb,ko,c,rfl,hkb,hrow⟩
 ·exact⟨a,0,c,rfl,hid rfl,by omega,fun i t hi=>by simp at hi⟩
 ·exact⟨_,_,_,rfl,hid rfl,by omega,fun i t hi=>⟨kb,ko,rfl,hkb,hrow.get hi⟩⟩
theorem VlSl.open{B:Nat->Prop}{w:World}{v:Value}{vs:List Vl}(h:VlSl B w v vs):
 ∃pa len c,v= .slice pa len c/\Hid (len=vs.length)/\len<=9223372036854775807/\∀i a,vs[i]? =some a->a.n.size<=maxLen/\∃kb ko,pa=some ⟨kb,ko,none⟩/\B kb/\w.cell? ⟨kb,ko+i*3,none⟩=some (.int .i64 a.k)/\w.cell? ⟨kb,ko+i*3+1,none⟩=some (.string a.n)/\w.cell? ⟨kb,ko+i*3+2,none⟩=some (.int .i64 a.x):=by
 obtain⟨h,hm,hz⟩:=h
 unfold maxLen at hm
 rcases h with⟨⟨a,c,rfl⟩,rfl⟩|⟨b,o,c,rfl,hb,_,hrow⟩
 ·exact⟨a,0,c,rfl,hid rfl,by omega,fun i t hi=>by simp at hi⟩
 ·exact⟨_,_,_,rfl,hid rfl,by omega,fun i a hi=>⟨hz _ (List.mem_of_getElem? hi),b,o,rfl,hb,hrow i a hi⟩⟩
theorem PrAt.load'{B:Nat->Prop}{w:World}{p:Pr}{b o:Nat}(h:PrAt B w p b o):
 ∃(la:Option Addr) (ln lc:Nat) (aa:Option Addr) (an ac:Nat) (ta:Option Addr) (tn tc:Nat) (ua:Option Addr) (un uc:Nat) (ka:Option Addr) (kn kc:Nat),
  (w.cell? ⟨b,o,none⟩=some (.int .i64 p.k)/\w.cell? ⟨b,o+1,none⟩=some (.string p.c)/\w.cell? ⟨b,o+2,none⟩=some (.string p.x)/\w.cell? ⟨b,o+3,none⟩=some (.slice la ln lc)/\w.cell? ⟨b,o+4,none⟩=some (.slice aa an ac)/\
   w.cell? ⟨b,o+5,none⟩=some (.int .i64 p.t.k)/\w.cell? ⟨b,o+6,none⟩=some (.int .i64 p.t.p)/\w.cell? ⟨b,o+7,none⟩=some (.string p.t.n)/\w.cell? ⟨b,o+8,none⟩=some (.int .i64 p.t.s)/\
   w.cell? ⟨b,o+9,none⟩=some (.slice ta tn tc)/\w.cell? ⟨b,o+10,none⟩=some (.slice ua un uc)/\w.cell? ⟨b,o+11,none⟩=some (.slice ka kn kc))/\
  PrVal B w (QW p (.slice la ln lc) (.slice aa an ac) (.slice ta tn tc) (.slice ua un uc) (.slice ka kn kc)) p:=by
 obtain⟨hb,hn,⟨c0,c1,c2⟩,ht,lv,av,kv,c3,c4,c11,hl,ha,hk⟩:=PrAt.eq.1 h
 obtain⟨ta,tn,tc,ua,un,uc,⟨d0,d1,d2,d3,d4,d5⟩,htv⟩:=ht.load'
 obtain⟨la,ln,lc,rfl,_⟩:=hl.open
 obtain⟨aa,an,ac,rfl,_⟩:=ha.open
 obtain⟨ka,kn,kc,rfl,_⟩:=hk.open
 exact⟨la,ln,lc,aa,an,ac,ta,tn,tc,ua,un,uc,ka,kn,kc,⟨c0,c1,c2,c3,c4,d0,d1,d2,d3,d4,d5,c11⟩,_,_,_,_,_,rfl,hn,hl,ha,htv,hk⟩
theorem UI{B:Nat->Prop}{w:World}{p:Pr}{b o:Nat}{lv av tl tk kv:Value}(hb:B b)
 (c0:w.cell? ⟨b,o,none⟩=some (.int .i64 p.k)) (c1:w.cell? ⟨b,o+1,none⟩=some (.string p.c)) (c2:w.cell? ⟨b,o+2,none⟩=some (.string p.x)) (c3:w.cell? ⟨b,o+3,none⟩=some lv) (c4:w.cell? ⟨b,o+4,none⟩=some av)
 (c5:w.cell? ⟨b,o+5,none⟩=some (.int .i64 p.t.k)) (c6:w.cell? ⟨b,o+6,none⟩=some (.int .i64 p.t.p)) (c7:w.cell? ⟨b,o+7,none⟩=some (.string p.t.n)) (c8:w.cell? ⟨b,o+8,none⟩=some (.int .i64 p.t.s))
 (c9:w.cell? ⟨b,o+9,none⟩=some tl) (c10:w.cell? ⟨b,o+10,none⟩=some tk) (c11:w.cell? ⟨b,o+11,none⟩=some kv) (hv:PrVal B w (QW p lv av tl tk kv) p):PrAt B w p b o:=by
 obtain⟨lv',av',tl',tk',kv',e,hn,hl,ha,ht,hk⟩:=hv
 simp only[QW,Value.agg.injEq,Array.mk.injEq,List.cons.injEq,and_true,true_and] at e
 obtain⟨rfl,rfl,rfl,rfl,rfl⟩:=e
 exact PrAt.eq.2 ⟨hb,hn,⟨c0,c1,c2⟩,XO hb c5 c6 c7 c8 c9 c10 ht,_,_,_,c3,c4,c11,hl,ha,hk⟩
structure Pm where
 n:ByteArray
 t:Ty
structure Df where
 n:ByteArray
 ms:List Pm
 b:Pr
structure Pg where
 ds:List Df
 m:Pr
def PmAt(B:Nat->Prop)(w:World)(a:Pm)(b o:Nat):Prop:=a.n.size<=maxLen/\w.cell? ⟨b,o,none⟩=some (.string a.n)/\TyAt B w a.t b (o+1)
theorem PmAt.keep{B:Nat->Prop}{w w':World}(h:Keeps B w w'){a:Pm}{b o:Nat}(hb:B b)(ha:PmAt B w a b o):PmAt B w' a b o:=⟨ha.1,h.cell hb ha.2.1,ha.2.2.keep h⟩
theorem PmAt.mono{B C:Nat->Prop}{w:World}(h:∀k,B k->C k){a:Pm}{b o:Nat}(ha:PmAt B w a b o):PmAt C w a b o:=⟨ha.1,ha.2.1,ha.2.2.mono h⟩
def PmSl(B:Nat->Prop)(w:World)(v:Value)(l:List Pm):Prop:=
 (((∃a c,v= .slice a 0 c)/\l=[])\/∃b o c,v= .slice (some ⟨b,o,none⟩) l.length c/\B b/\∀(j:Nat) (a:Pm),l[j]? =some a->PmAt B w a b (o+j*7))/\l.length<=maxLen
theorem PmSl.keep{B:Nat->Prop}{w w':World}(h:Keeps B w w'){v:Value}{l:List Pm}(hv:PmSl B w v l):PmSl B w' v l:=by
 refine⟨?_,hv.2⟩
 rcases hv.1 with h1|⟨b,o,c,h1,h2,h3⟩
 ·exact .inl h1
 ·exact .inr ⟨b,o,c,h1,h2,fun j a hj=>PmAt.keep h h2 (h3 j a hj)⟩
theorem PmSl.mono{B C:Nat->Prop}{w:World}(h:∀k,B k->C k){v:Value}{l:List Pm}(hv:PmSl B w v l):PmSl C w v l:=by
 refine⟨?_,hv.2⟩
 rcases hv.1 with h1|⟨b,o,c,h1,h2,h3⟩
 ·exact .inl h1
 ·exact .inr ⟨b,o,c,h1,h _ h2,fun j a hj=>PmAt.mono h (h3 j a hj)⟩
theorem PmSl.open{B:Nat->Prop}{w:World}{v:Value}{l:List Pm}(h:PmSl B w v l):
 ∃pa len c,v= .slice pa len c/\Hid (len=l.length)/\len<=9223372036854775807/\∀i a,l[i]? =some a->∃kb ko,pa=some ⟨kb,ko,none⟩/\B kb/\PmAt B w a kb (ko+i*7):=by
 obtain⟨h,hm⟩:=h
 unfold maxLen at hm
 rcases h with⟨⟨a,c,rfl⟩,rfl⟩|⟨kb,ko,c,rfl,hkb,hrow⟩
 ·exact⟨a,0,c,rfl,hid rfl,by omega,fun i t hi=>by simp at hi⟩
 ·exact⟨_,_,_,rfl,hid rfl,by omega,fun i t hi=>⟨kb,ko,rfl,hkb,hrow i t hi⟩⟩
def DfAt(B:Nat->Prop)(w:World)(d:Df)(b o:Nat):Prop:=d.n.size<=maxLen/\w.cell? ⟨b,o,none⟩=some (.string d.n)/\(∃mv,w.cell? ⟨b,o+1,none⟩=some mv/\PmSl B w mv d.ms)/\PrAt B w d.b b (o+2)
theorem DfAt.keep{B:Nat->Prop}{w w':World}(h:Keeps B w w'){a:Df}{b o:Nat}(hb:B b)(ha:DfAt B w a b o):DfAt B w' a b o:=by
 obtain⟨h1,h2,⟨mv,h3,h4⟩,h5⟩:=ha
 exact⟨h1,h.cell hb h2,⟨mv,h.cell hb h3,h4.keep h⟩,PrAt.keep h _ _ _ h5⟩
theorem DfAt.mono{B C:Nat->Prop}{w:World}(h:∀k,B k->C k){a:Df}{b o:Nat}(ha:DfAt B w a b o):DfAt C w a b o:=by
 obtain⟨h1,h2,⟨mv,h3,h4⟩,h5⟩:=ha
 exact⟨h1,h2,⟨mv,h3,h4.mono h⟩,PrAt.mono h _ _ _ h5⟩
def DfSl(B:Nat->Prop)(w:World)(v:Value)(l:List Df):Prop:=
 (((∃a c,v= .slice a 0 c)/\l=[])\/∃b o c,v= .slice (some ⟨b,o,none⟩) l.length c/\B b/\∀(j:Nat) (a:Df),l[j]? =some a->DfAt B w a b (o+j*14))/\l.length<=maxLen
theorem DfSl.keep{B:Nat->Prop}{w w':World}(h:Keeps B w w'){v:Value}{l:List Df}(hv:DfSl B w v l):DfSl B w' v l:=by
 refine⟨?_,hv.2⟩
 rcases hv.1 with h1|⟨b,o,c,h1,h2,h3⟩
 ·exact .inl h1
 ·exact .inr ⟨b,o,c,h1,h2,fun j a hj=>DfAt.keep h h2 (h3 j a hj)⟩
theorem DfSl.mono{B C:Nat->Prop}{w:World}(h:∀k,B k->C k){v:Value}{l:List Df}(hv:DfSl B w v l):DfSl C w v l:=by
 refine⟨?_,hv.2⟩
 rcases hv.1 with h1|⟨b,o,c,h1,h2,h3⟩
 ·exact .inl h1
 ·exact .inr ⟨b,o,c,h1,h _ h2,fun j a hj=>DfAt.mono h (h3 j a hj)⟩
theorem DfSl.open{B:Nat->Prop}{w:World}{v:Value}{l:List Df}(h:DfSl B w v l):
 ∃pa len c,v= .slice pa len c/\Hid (len=l.length)/\len<=9223372036854775807/\∀i a,l[i]? =some a->∃kb ko,pa=some ⟨kb,ko,none⟩/\B kb/\DfAt B w a kb (ko+i*14):=by
 obtain⟨h,hm⟩:=h
 unfold maxLen at hm
 rcases h with⟨⟨a,c,rfl⟩,rfl⟩|⟨kb,ko,c,rfl,hkb,hrow⟩
 ·exact⟨a,0,c,rfl,hid rfl,by omega,fun i t hi=>by simp at hi⟩
 ·exact⟨_,_,_,rfl,hid rfl,by omega,fun i t hi=>⟨kb,ko,rfl,hkb,hrow i t hi⟩⟩
def PgAt(B:Nat->Prop)(w:World)(g:Pg)(b o:Nat):Prop:=B b/\(∃dv,w.cell? ⟨b,o,none⟩=some dv/\DfSl B w dv g.ds)/\PrAt B w g.m b (o+1)
theorem PgAt.keep{B:Nat->Prop}{w w':World}(h:Keeps B w w'){g:Pg}{b o:Nat}(hg:PgAt B w g b o):PgAt B w' g b o:=by
 obtain⟨hb,⟨dv,h1,h2⟩,h3⟩:=hg
 exact⟨hb,⟨dv,h.cell hb h1,h2.keep h⟩,PrAt.keep h _ _ _ h3⟩
def PgVal(B:Nat->Prop)(w:World)(v:Value)(g:Pg):Prop:=
 ∃dv lv av tl tk kv,v= .agg #[dv,.int .i64 g.m.k,.string g.m.c,.string g.m.x,lv,av,.int .i64 g.m.t.k,.int .i64 g.m.t.p,.string g.m.t.n,.int .i64 g.m.t.s,tl,tk,kv]/\DfSl B w dv g.ds/\PrVal B w (QW g.m lv av tl tk kv) g.m
theorem PgVal.keep{B:Nat->Prop}{w w':World}(h:Keeps B w w'){v:Value}{g:Pg}(hv:PgVal B w v g):PgVal B w' v g:=by
 obtain⟨dv,lv,av,tl,tk,kv,e,hd,hp⟩:=hv
 exact⟨dv,lv,av,tl,tk,kv,e,hd.keep h,hp.keep h⟩
theorem PgVal.mono{B C:Nat->Prop}{w:World}(h:∀k,B k->C k){v:Value}{g:Pg}(hv:PgVal B w v g):PgVal C w v g:=by
 obtain⟨dv,lv,av,tl,tk,kv,e,hd,hp⟩:=hv
 exact⟨dv,lv,av,tl,tk,kv,e,hd.mono h,hp.mono h⟩
end Go.Proofs.YtmnbheplkidfaaaGreatDoor
namespace Go.Proofs.YtmnbheplkidfaaaGreatDoor
abbrev z6:Array Value:=#[.int .i64 0,.int .i64 0,.string ⟨#[]⟩,.int .i64 0,.slice none 0 0,.slice none 0 0]
abbrev z12:Array Value:=#[.int .i64 0,.string ⟨#[]⟩,.string ⟨#[]⟩,.slice none 0 0,.slice none 0 0,.int .i64 0,.int .i64 0,.string ⟨#[]⟩,.int .i64 0,.slice none 0 0,.slice none 0 0,.slice none 0 0]
abbrev z13:Array Value:=#[.slice none 0 0,.int .i64 0,.string ⟨#[]⟩,.string ⟨#[]⟩,.slice none 0 0,.slice none 0 0,.int .i64 0,.int .i64 0,.string ⟨#[]⟩,.int .i64 0,.slice none 0 0,.slice none 0 0,.slice none 0 0]
structure Tk where
 k:Int
 t:ByteArray
 v:Int
 a:Int
abbrev cT(t:Ty)(a:Option Addr)(b c:Nat)(d:Option Addr)(e f:Nat):Array Value:=#[.int .i64 t.k,.int .i64 t.p,.string t.n,.int .i64 t.s,.slice a b c,.slice d e f]
abbrev gP(p:Pr)(a:Option Addr)(b c:Nat)(d:Option Addr)(e f:Nat)(g:Option Addr)(h i:Nat)(j:Option Addr)(k l:Nat)(m:Option Addr)(n o:Nat):Array Value:=#[.int .i64 p.k,.string p.c,.string p.x,.slice a b c,.slice d e f,.int .i64 p.t.k,.int .i64 p.t.p,.string p.t.n,.int .i64 p.t.s,.slice g h i,.slice j k l,.slice m n o]
abbrev cN(k:Int)(c x:ByteArray)(l a kv:Value):Array Value:=#[.int .i64 k,.string c,.string x,l,a,.int .i64 0,.int .i64 0,.string ⟨#[]⟩,.int .i64 0,.slice none 0 0,.slice none 0 0,kv]
abbrev Blk(w:World)(b:Nat)(cs:Array Value)(T:TypeId):Prop:=w.heap[b]? =some (.cells cs T (0,0))
inductive PR (α:Type) where
 |ok (x:α) (r:List Tk)
 |bad (e:Int) (r:List Tk)
def PR.bind{α β:Type}(p:PR α)(f:α->List Tk->PR β):PR β:=match p with
 | .ok x r=>f x r
 | .bad e r=> .bad e r
def hd(s:ByteArray):List Tk->Bool
 |[]=>false
 |x::_=>x.t.toList==s.toList
def need(s:ByteArray)(ts:List Tk):PR Unit:=if hd s ts=true then .ok () ts.tail else .bad 1 ts
def Qk(isN:ByteArray->Bool):List Tk->PR ByteArray
 |[]=> .bad 1 []
 |x::r=>if isN x.t=true then .ok x.t r else .bad 1 (x::r)
def QO:List Tk->PR Int
 |[]=> .bad 1 []
 |x::r=>if x.k≠2\/x.v<0 then .bad 1 (x::r) else if 1000000<x.v then .bad 2 (x::r) else .ok x.v r
def Zj:List Tk->PR Int
 |[]=> .ok 0 []
 |x::r=>if x.k≠2 then .ok 0 (x::r) else QO (x::r)
abbrev sInt:ByteArray:=⟨#[105,110,116]⟩
abbrev sBool:ByteArray:=⟨#[98,111,111,108]⟩
abbrev sEnd:ByteArray:=⟨#[101,110,100]⟩
abbrev sRec:ByteArray:=⟨#[114,101,99]⟩
abbrev Mx:ByteArray:=⟨#[115,116,111,112]⟩
abbrev sNew:ByteArray:=⟨#[110,101,119]⟩
abbrev sTrue:ByteArray:=⟨#[116,114,117,101]⟩
abbrev sFalse:ByteArray:=⟨#[102,97,108,115,101]⟩
abbrev sDef:ByteArray:=⟨#[100,101,102]⟩
abbrev KB:ByteArray:=⟨#[109,97,105,110]⟩
abbrev sBang:ByteArray:=⟨#[33]⟩
abbrev sAsk:ByteArray:=⟨#[63]⟩
abbrev sDot:ByteArray:=⟨#[46]⟩
abbrev QI:ByteArray:=⟨#[40]⟩
abbrev Qy:ByteArray:=⟨#[41]⟩
abbrev sBra:ByteArray:=⟨#[123]⟩
abbrev sKet:ByteArray:=⟨#[125]⟩
abbrev Yp:ByteArray:=⟨#[60]⟩
abbrev ZX:ByteArray:=⟨#[62]⟩
abbrev QG:ByteArray:=⟨#[44]⟩
abbrev QB:ByteArray:=⟨#[58]⟩
abbrev Up:ByteArray:=⟨#[59]⟩
abbrev sBar:ByteArray:=⟨#[124]⟩
abbrev sAnd:ByteArray:=⟨#[38]⟩
abbrev sEq:ByteArray:=⟨#[61]⟩
abbrev sPlus:ByteArray:=⟨#[43]⟩
section
variable (isN:ByteArray->Bool)
def QP{α:Type}(F:List Tk->PR α):Nat->List Tk->PR (List α)
 |0,ts=> .bad 1 ts
 |g+1,ts=>(F ts).bind fun x r=>if hd QG r=true then (QP F g r.tail).bind fun l r=> .ok (x::l) r else .ok [x] r
def QX{α:Type}(F:List Tk->PR α)(ts:List Tk):PR (ByteArray×α):=
 (Qk isN ts).bind fun n r=>(need QB r).bind fun _ r=>(F r).bind fun x r=> .ok (n,x) r
def Ys{α:Type}(F:List Tk->PR α)(g:Nat)(ts:List Tk):PR (List (ByteArray×α)):=
 (need sBra ts).bind fun _ r=>(QP (QX isN F) g r).bind fun l r=>(need sKet r).bind fun _ r=> .ok l r
def Qq{α:Type}(F:List Tk->PR α)(s:ByteArray)(g:Nat)(ts:List Tk):PR (List α):=
 if hd s ts=true then .ok [] ts.tail else (QP F g ts).bind fun l r=>(need s r).bind fun _ r=> .ok l r
def pvar(ts:List Tk):PR Ty:=
 (Qk isN ts).bind fun n r=>if hd sPlus r=true then (QO r.tail).bind fun s r=> .ok (.mk 9 0 n s [] []) r else .ok (.mk 9 0 n 0 [] []) r
def Js(S:List Tk->PR Ty)(ts:List Tk):PR Ty:=
 if hd sInt ts=true then .ok (.mk 1 0 ⟨#[]⟩ 0 [] []) ts.tail else if hd sBool ts=true then .ok (.mk 2 0 ⟨#[]⟩ 0 [] []) ts.tail else S ts
def JO(S:List Tk->PR Ty)(ts:List Tk):PR Ty:=
 if hd sBang ts=true\/hd sAsk ts=true\/hd sPlus ts=true\/hd sAnd ts=true\/hd sRec ts=true then .bad 1 ts else Js S ts
def Zg(S:List Tk->PR Ty)(k:Int)(ts:List Tk):PR Ty:=
 (Zj ts).bind fun p r=>(JO S r).bind fun t r=>(need sDot r).bind fun _ r=>(S r).bind fun u r=> .ok (.mk k p ⟨#[]⟩ 0 [] [t,u]) r
def Jp(S:List Tk->PR Ty)(g:Nat)(k:Int)(ts:List Tk):PR Ty:=
 (Zj ts).bind fun p r=>(Ys isN S g r).bind fun l r=> .ok (.mk k p ⟨#[]⟩ 0 (l.map (·.1)) (l.map (·.2))) r
def VH(S:List Tk->PR Ty)(ts:List Tk):PR Ty:=
 (Qk isN ts).bind fun n r=>(need sDot r).bind fun _ r=>(S r).bind fun t r=> .ok (.mk 8 0 n 0 [] [t]) r
def Ql:Nat->List Tk->PR Ty
 |0,ts=> .bad 1 ts
 |f+1,ts=>
  if hd sEnd ts=true then .ok (.mk 3 0 ⟨#[]⟩ 0 [] []) ts.tail
  else if hd sBang ts=true then Zg (Ql f) 4 ts.tail
  else if hd sAsk ts=true then Zg (Ql f) 5 ts.tail
  else if hd sPlus ts=true then Jp isN (Ql f) f 6 ts.tail
  else if hd sAnd ts=true then Jp isN (Ql f) f 7 ts.tail
  else if hd sRec ts=true then VH isN (Ql f) ts.tail
  else if hd QI ts=true then (Ql f ts.tail).bind fun t r=>(need Qy r).bind fun _ r=> .ok t r
  else pvar isN ts
def pval:List Tk->PR Vl
 |[]=> .bad 1 []
 |x::r=>if (x.t.toList==sTrue.toList)=true then .ok ⟨3,⟨#[]⟩,1⟩ r else if (x.t.toList==sFalse.toList)=true then .ok ⟨3,⟨#[]⟩,0⟩ r else if x.k=2 then .ok ⟨2,⟨#[]⟩,x.v⟩ r else if isN x.t=true then .ok ⟨1,x.t,0⟩ r else .bad 1 (x::r)
def zT:Ty:= .mk 0 0 ⟨#[]⟩ 0 [] []
def ZQ:List Pr->Pr
 |[p]=>p
 |l=> .mk 7 ⟨#[]⟩ ⟨#[]⟩ [] [] zT l
def JG(S:List Tk->PR Pr)(ts:List Tk):PR Pr:=(need sDot ts).bind fun _ r=>S r
def ZC(S:List Tk->PR Pr)(c:ByteArray)(ts:List Tk):PR Pr:=
 (need Yp ts).bind fun _ r=>(pval isN r).bind fun v r=>(need ZX r).bind fun _ r=>(JG S r).bind fun p r=> .ok (.mk 2 c ⟨#[]⟩ [] [v] zT [p]) r
def Yh(S:List Tk->PR Pr)(c:ByteArray)(ts:List Tk):PR Pr:=
 (need QI ts).bind fun _ r=>(Qk isN r).bind fun x r=>(need Qy r).bind fun _ r=>(JG S r).bind fun p r=> .ok (.mk 3 c x [] [] zT [p]) r
def VG(S:List Tk->PR Pr)(c:ByteArray)(ts:List Tk):PR Pr:=
 (Qk isN ts).bind fun l r=>(JG S r).bind fun p r=> .ok (.mk 4 c ⟨#[]⟩ [l] [] zT [p]) r
def VI(P:List Tk->PR Pr)(g:Nat)(c:ByteArray)(ts:List Tk):PR Pr:=
 (Ys isN P g ts).bind fun l r=> .ok (.mk 5 c ⟨#[]⟩ (l.map (·.1)) [] zT (l.map (·.2))) r
def ZE(g:Nat)(c:ByteArray)(ts:List Tk):PR Pr:=
 (need Yp ts).bind fun _ r=>(Qq (pval isN) ZX g r).bind fun l r=> .ok (.mk 8 c ⟨#[]⟩ [] l zT []) r
def YV(T:List Tk->PR Ty)(S:List Tk->PR Pr)(ts:List Tk):PR Pr:=
 (need QI ts).bind fun _ r=>(Qk isN r).bind fun a r=>(need QG r).bind fun _ r=>(Qk isN r).bind fun b r=>(need QB r).bind fun _ r=>(T r).bind fun t r=>(need Qy r).bind fun _ r=>(S r).bind fun p r=> .ok (.mk 6 a b [] [] t [p]) r
def QZ(P S:List Tk->PR Pr)(g:Nat)(c:ByteArray)(ts:List Tk):PR Pr:=
 if hd sBang ts=true then ZC isN S c ts.tail
 else if hd sAsk ts=true then Yh isN S c ts.tail
 else if hd sDot ts=true then VG isN S c ts.tail
 else if hd sAnd ts=true then VI isN P g c ts.tail
 else ZE isN g c ts
def Qo:Nat->Bool->List Tk->PR (List Pr)
 |0,_,ts=> .bad 1 ts
 |f+1,false,ts=>
  if hd Mx ts=true then .ok [.mk 1 ⟨#[]⟩ ⟨#[]⟩ [] [] zT []] ts.tail
  else if hd QI ts=true then (Qo f true ts.tail).bind fun l r=>(need Qy r).bind fun _ r=> .ok [ZQ l] r
  else if hd sNew ts=true then (YV isN (Ql isN f) (fun r=>(Qo f false r).bind fun l r=> .ok (ZQ l) r) ts.tail).bind fun p r=> .ok [p] r
  else (Qk isN ts).bind fun c r=>(QZ isN (fun r=>(Qo f true r).bind fun l r=> .ok (ZQ l) r) (fun r=>(Qo f false r).bind fun l r=> .ok (ZQ l) r) f c r).bind fun p r=> .ok [p] r
 |f+1,true,ts=>
  (if hd QI ts=true then (Qo f true ts.tail).bind fun l r=>(need Qy r).bind fun _ r=> .ok l r else Qo f false ts).bind fun l r=>
   if hd sBar r=true then (Qo f true r.tail).bind fun m r=> .ok (l++m) r else .ok l r
def QT(f:Nat)(ts:List Tk):PR Pr:=(Qo isN f true ts).bind fun l r=> .ok (ZQ l) r
def QV(f:Nat)(ts:List Tk):PR Pr:=(Qo isN f false ts).bind fun l r=> .ok (ZQ l) r
def YW(f:Nat)(ts:List Tk):PR Pr:=(need sEq ts).bind fun _ r=>(QT isN f r).bind fun p r=>(need Up r).bind fun _ r=> .ok p r
def ZD(f:Nat)(ts:List Tk):PR Pm:=(Qk isN ts).bind fun n r=>(need QB r).bind fun _ r=>(Js (Ql isN f) r).bind fun t r=> .ok ⟨n,t⟩ r
def pdef(f:Nat)(ts:List Tk):PR Df:=(Qk isN ts).bind fun n r=>(need QI r).bind fun _ r=>(Qq (ZD isN f) Qy f r).bind fun l r=>(YW isN f r).bind fun b r=> .ok ⟨n,l,b⟩ r
def Zk(f:Nat):Nat->List Tk->PR (List Df)
 |0,ts=> .bad 1 ts
 |g+1,ts=>if hd sDef ts=true then (pdef isN f ts.tail).bind fun d r=>(Zk f g r).bind fun l r=> .ok (d::l) r else .ok [] ts
def Yq(f:Nat)(ts:List Tk):PR Pg:=(Zk isN f f ts).bind fun l r=>(need KB r).bind fun _ r=>(YW isN f r).bind fun m r=> .ok ⟨l,m⟩ r
end
end Go.Proofs.YtmnbheplkidfaaaGreatDoor
namespace Go.Proofs.YtmnbheplkidfaaaGreatDoor
open Go.RowKit Go.Deep
def Six(w:World)(b:Nat)(a0 a1 a2 a3 a4 a5:Value):Prop:=w.heap[b]? =some (.cells #[a0,a1,a2,a3,a4,a5] 28 (0,0))
theorem Six.cells{w:World}{b:Nat}{a0 a1 a2 a3 a4 a5:Value}(h:Six w b a0 a1 a2 a3 a4 a5):
 (w.cell? ⟨b,0,none⟩=some a0/\w.cell? ⟨b,1,none⟩=some a1/\w.cell? ⟨b,2,none⟩=some a2/\w.cell? ⟨b,3,none⟩=some a3/\w.cell? ⟨b,4,none⟩=some a4/\w.cell? ⟨b,5,none⟩=some a5)/\∀j,w.frozen? ⟨b,j,none⟩=false:=by
 unfold Six at h
 refine⟨⟨?_,?_,?_,?_,?_,?_⟩,fun j=>Qc h j⟩ <;> simp[World.cell?,h]
theorem Six.new(w:World)(a0 a1 a2 a3 a4 a5:Value):Six (w.alloc (.cells #[a0,a1,a2,a3,a4,a5] 28)) w.heap.size a0 a1 a2 a3 a4 a5:=World.alloc_heap_new w _
theorem Six.below{w w':World}{b n:Nat}{a0 a1 a2 a3 a4 a5:Value}(h:Six w b a0 a1 a2 a3 a4 a5)(hb:Below n w w')(hn:b<n):Six w' b a0 a1 a2 a3 a4 a5:=(hb.block b hn).trans h
theorem Six.lt{w:World}{b:Nat}{a0 a1 a2 a3 a4 a5:Value}(h:Six w b a0 a1 a2 a3 a4 a5):b<w.heap.size:=(Array.getElem?_eq_some_iff.1 h).1
theorem Six.to{w w':World}{b:Nat}{a0 a1 a2 a3 a4 a5:Value}(h:Six w b a0 a1 a2 a3 a4 a5)(hb:Below w.heap.size w w'):Six w' b a0 a1 a2 a3 a4 a5:=h.below hb h.lt
theorem Qd{W:World}{b:Nat}{cs:Array Value}{t:TypeId}{fr:Nat×Nat}(h:W.heap[b]? =some (.cells cs t fr))(o:Nat)(v:Value):(W.setCell ⟨b,o,none⟩ v).heap[b]? =some (.cells (cs.setIfInBounds o v) t fr):=by
 obtain⟨hlt,hk⟩:=Array.getElem?_eq_some_iff.1 h
 show(W.heap.modify b _)[b]? =_
 rw[Array.getElem?_eq_getElem (by rw[Array.size_modify];exact hlt),Array.getElem_modify_self,hk]
 rfl
end Go.Proofs.YtmnbheplkidfaaaGreatDoor
namespace Go.Proofs.YtmnbheplkidfaaaGreatDoor
open Go.RowKit Go.Deep Go.Shelf
theorem Mu(w:World)(o o' o'':Obj):Below w.heap.size w (((w.alloc o).alloc o').alloc o''):=((bR.alloc lR _).alloc (by simp) _).alloc (by simp;omega) _
end Go.Proofs.YtmnbheplkidfaaaGreatDoor
namespace Go.Proofs.YtmnbheplkidfaaaGreatDoor
open Go.RowKit Go.Deep Go.Shelf
section
variable (nm:ByteArray) (b:Ty)
end
end Go.Proofs.YtmnbheplkidfaaaGreatDoor
namespace Go.Proofs.YtmnbheplkidfaaaGreatDoor
open Go.RowKit Go.Deep Go.Shelf
structure Nd where
 ar:Value
 kid:Int
 b:Nat
 o:Nat
 path:List Ty
 ty:Ty
abbrev Nq(x:Nd):Array Value:=#[.agg #[x.ar,.int .i64 x.kid],.pointer (some ⟨x.b,x.o,none⟩)]
def Nd.g(x:Nd):List Ty×Int×Ty:=(x.path,x.kid,x.ty)
mutual
def preT(path:List Ty)(kid:Int):Ty->List (List Ty×Int×Ty)
 | .mk k p n s ls ts=>(path,kid,.mk k p n s ls ts)::Yn (path++[.mk k p n s ls ts]) 0 ts
def Yn(path:List Ty)(kid:Int):List Ty->List (List Ty×Int×Ty)
 |[]=>[]
 |t::r=>preT path kid t++Yn path (kid+1) r
end
theorem MC(path:List Ty)(kid:Int)(t:Ty):preT path kid t=(path,kid,t)::Yn (path++[t]) 0 t.ts:=by cases t;simp[preT,Ty.ts]
theorem Xj(path:List Ty):∀(l r:List Ty) (kid:Int),Yn path kid (l++r)=Yn path kid l++Yn path (kid+l.length) r
 |[],r,kid=>by simp[Yn]
 |t::l,r,kid=>by
  simp only[List.cons_append,Yn,Xj path l r (kid+1),List.append_assoc,List.length_cons]
  congr 3
  omega
theorem DC{path:List Ty}{l:List Ty}{j:Nat}{t:Ty}(h:l[j]? =some t)(kid:Int):Yn path kid (l.take (j+1))=Yn path kid (l.take j)++preT path (kid+j) t:=by
 have hj:=(List.getElem?_eq_some_iff.1 h).1
 rw[Qn h,Xj,List.length_take,Nat.min_eq_left (by omega)]
 simp[Yn]
theorem Hi(path:List Ty)(l:List Ty)(j:Nat)(kid:Int):Yn path kid (l.take j) <+:Yn path kid l:=by
 conv=>rhs;rw[<-List.take_append_drop j l,Xj]
 exact List.prefix_append _ _
def ptrs(ads:List (Nat×Nat)):List Value:=ads.map fun a=> .pointer (some ⟨a.1,a.2,none⟩)
def ARow(D:Nat)(S:Nat->Prop)(W:World)(ar:Value)(path:List Ty):Prop:=
 ∃ads:List (Nat×Nat),ads.length=path.length/\W.ownsRow D 136 1 ar path.length (ptrs ads)/\∀(i:Nat) (a:Nat×Nat) (t:Ty),ads[i]? =some a->path[i]? =some t->TyAt S W t a.1 a.2
def Px(D:Nat)(S:Nat->Prop)(x:Nd)(W:World):Prop:=ARow D S W x.ar x.path/\TyAt S W x.ty x.b x.o/\x.path.length<=100000
theorem Hm{W W':World}{base:Nat}{e:TypeId}{size:Nat}{v:Value}{n:Nat}{xs:List Value}(h:W.ownsRow base e size v n xs)(hk:∀(g:Nat) (o:Obj),v.ownBlock=some g->W.heap[g]? =some o->o.isCells=true->W'.heap[g]? =some o):W'.ownsRow base e size v n xs:=by
 refine⟨h.1,?_⟩
 rcases h.2 with h0|⟨g,cap,cur,rfl,hb,hg,r⟩
 ·exact .inl h0
 ·exact .inr ⟨g,cap,cur,rfl,hb,hk g _ rfl hg rfl,r⟩
theorem ARow.kept{D:Nat}{S:Nat->Prop}{W W':World}{ar:Value}{path:List Ty}(h:ARow D S W ar path)(hS:Keeps S W W')(hk:∀(g:Nat) (o:Obj),ar.ownBlock=some g->W.heap[g]? =some o->o.isCells=true->W'.heap[g]? =some o):ARow D S W' ar path:=by
 obtain⟨ads,h1,h2,h3⟩:=h
 exact⟨ads,h1,Hm h2 hk,fun i a t ha ht=>(h3 i a t ha ht).keep hS⟩
theorem CellsKept.keeps{A B:World}(h:CellsKept A B)(S:Nat->Prop):Keeps S A B:=fun k o _ ho hc=>h k o ho hc
theorem Px.kept{D:Nat}{S:Nat->Prop}{x:Nd}{W W':World}(h:CellsKept W W')(hp:Px D S x W):Px D S x W':=
 ⟨hp.1.kept (h.keeps S) (fun g o _ ho hc=>h g o ho hc),hp.2.1.keep (h.keeps S),hp.2.2⟩
theorem Jz(W:World)(o:Obj):CellsKept W (W.alloc o):=fun k _ hk _=>(Below.heap_alloc W o k (Array.getElem?_eq_some_iff.1 hk).1).trans hk
structure KV(X:Nat->Prop)(ar:Value)(W W':World):Prop where
 size:W.heap.size<=W'.heap.size
 keep:∀(k:Nat) (o:Obj),W.heap[k]? =some o->o.isCells=true->¬X k->ar.ownBlock≠some k->W'.heap[k]? =some o
abbrev Kp(X:Nat->Prop):World->World->Prop:=KV X .nilFunc
theorem KV.refl(X:Nat->Prop)(ar:Value)(W:World):KV X ar W W:=⟨lR,fun _ _ h _ _ _=>h⟩
theorem KV.trans{X:Nat->Prop}{ar:Value}{A B C:World}(h:KV X ar A B)(g:KV X ar B C):KV X ar A C:=
 ⟨lT h.size g.size,fun k o hk hc hx ha=>g.keep k o (h.keep k o hk hc hx ha) hc hx ha⟩
theorem KV.of_kp{X:Nat->Prop}{ar:Value}{A B:World}(h:Kp X A B):KV X ar A B:=⟨h.size,fun k o hk hc hx _=>h.keep k o hk hc hx (by simp[Value.ownBlock])⟩
theorem KV.of_below{X:Nat->Prop}{ar:Value}{A B:World}(h:Below A.heap.size A B):KV X ar A B:=⟨h.size,fun k _ hk _ _ _=>(h.block k (Array.getElem?_eq_some_iff.1 hk).1).trans hk⟩
theorem KV.of_cells{X:Nat->Prop}{ar:Value}{A B:World}(hs:A.heap.size<=B.heap.size)(h:CellsKept A B):KV X ar A B:=⟨hs,fun k o hk hc _ _=>h k o hk hc⟩
theorem KV.keeps{X:Nat->Prop}{ar:Value}{A B:World}{S:Nat->Prop}(h:KV X ar A B)(hS:∀k,S k->¬X k/\ar.ownBlock≠some k):Keeps S A B:=fun k o hk ho hc=>h.keep k o ho hc (hS k hk).1 (hS k hk).2
theorem LA:(Tryz.prog.info? 136).map (fun i=>(i.zero,i.size,i.bytes))=some (some (.pointer none),1,8):=by kernel_rfl
theorem KI(base:Nat)(ty:TypeId)(v:Value)(n:Nat)(xs:List Value)(w:World)(hown:w.ownsRow base 136 1 v n xs)(ad:Addr)(c:Nat)(u:Value)(hu:w.cell? ad=some u)(h1:u.oneCell'=true)(h63:n+1<=1000000)(hbase:base<=w.heap.size):
 ∃g' c' w',(Builtin.append_ #[160,160] ty #[v,.slice (some ad) 1 c]).run Tryz.prog w= .ok (.slice (some ⟨g',0,none⟩) (n+1) c') w'/\w'.ownsRow base 136 1 (.slice (some ⟨g',0,none⟩) (n+1) c') (n+1) (xs++[u])/\
  ((v= .slice (some ⟨g',0,none⟩) n c'/\w.grownBy w' (some g'))\/(w.heap.size<=g'/\w.grownBy w' none)):=by
 obtain⟨i0,hi,hz0,hz1,hz2⟩:=info_parts LA
 have hnews:∀(j:Nat) (x:Value),[u][j]? =some x->w.cell? (ad.add j)=some x:=fun j x hj=>by
  cases j with
  |zero=>simp at hj;subst hj;simpa [Addr.add] using hu
  |succ j=>simp at hj
 have hone:∀x∈[u],x.oneCell'=true:=fun x hx=>by simp at hx;subst hx;exact h1
 rcases hown.2 with⟨rfl,rfl⟩|⟨g,cap,cur,rfl,hb,hg,hnc,hcm,hcs,htake⟩
 ·obtain⟨v',w',hr,h2,h3,h4,h5⟩:=run_append_own_at (P:=Tryz.prog) w base 160 ty 136 i0 _ 1 8 Tryz.underlying160 hi hz0 hz1 hz2 rfl (by decide) _ _ xs hown ad 1 c [u] rfl hnews hone (by unfold maxLen;omega) (by omega) hbase
  rcases h2.2 with⟨rfl,h0⟩|⟨g',c',cur',rfl,r⟩
  ·omega
  ·refine⟨g',c',w',hr,h2,.inr ⟨?_,h3⟩⟩
   rcases h5 with h|h
   ·simp[Value.ownBlock] at h
   ·simp[Value.ownBlock] at h;omega
 ·by_cases hroom:n+1<=cap
  ·obtain⟨w',hr,h2,h3⟩:=run_append_fits (P:=Tryz.prog) w base 160 ty 136 i0 1 Tryz.underlying160 hi hz1 g n cap xs hown ad 1 c [u] rfl hnews hone hroom
   exact⟨g,cap,w',hr,h2,.inl ⟨rfl,h3⟩⟩
  ·have holds:∀(j:Nat) (x:Value),xs[j]? =some x->w.cell? ((⟨g,0,none⟩:Addr).add j)=some x:=fun j x hj=>by
    have hx:cur.toList[j]? =some x:=by
     have hl:=(List.getElem?_eq_some_iff.1 hj).1
     rw[<-htake] at hj hl
     rw[List.length_take] at hl
     rw[List.getElem?_take] at hj
     simpa using (by simpa using hj:j<n/\cur[j]? =some x).2
    have e:(⟨g,0,none⟩:Addr).add j=⟨g,j,none⟩:=by
     unfold Addr.add
     by_cases h:j=0
     ·subst h;rfl
     ·simp[h]
    rw[e]
    simpa [World.cell?,hg] using hx
   obtain⟨v',w',hr,h2,h3⟩:=run_append_arg_grows (P:=Tryz.prog) w 160 ty 136 i0 _ 1 8 Tryz.underlying160 hi hz0 hz1 hz2 rfl (by decide) ⟨g,0,none⟩ n cap xs (by simpa using hown.1) holds ad 1 c [u] rfl hnews (by omega) (by unfold maxLen;omega) (by omega)
   rcases h2.2 with⟨rfl,h0⟩|⟨g',c',cur',rfl,hb',r⟩
   ·omega
   ·exact⟨g',c',w',hr,⟨h2.1,.inr ⟨g',c',cur',rfl,by omega,r⟩⟩,.inr ⟨hb',h3⟩⟩
theorem Vc{F:Fence}{nF:Nat}{w:World}{ops:Array Oper}{rest:List Oper}{o:Oper}{a:Act}{Q:Exit->Act->World->Prop}(hgd:o.guard=none)(s x:Operand)
 (ho:o.op= .call { callee:= .builtin .append,args:=#[s,x],argTypes:=#[160,160] }) (base:Nat) (v:Value) (n:Nat) (xs:List Value) (hs:a.eval s=v) (hown:w.ownsRow base 136 1 v n xs)
 (ad:Addr) (c:Nat) (u:Value) (hx:a.eval x= .slice (some ad) 1 c) (hu:w.cell? ad=some u) (h1:u.oneCell'=true) (h63:n+1<=1000000) (hbase:base<=w.heap.size)
 (h:∀g' c' w',w'.ownsRow base 136 1 (.slice (some ⟨g',0,none⟩) (n+1) c') (n+1) (xs++[u])->((v= .slice (some ⟨g',0,none⟩) n c'/\w.grownBy w' (some g'))\/(w.heap.size<=g'/\w.grownBy w' none))->
  wpListIn F nF Tryz.prog ops Q rest (a.put o.dst (.slice (some ⟨g',0,none⟩) (n+1) c')) w'):
 wpListIn F nF Tryz.prog ops Q (o::rest) a w:=by
 refine wpListIn_plain hgd fun K hK=>?_
 obtain⟨g',c',w',hr,h2,h3⟩:=KI base o.type v n xs w hown ad c u hu h1 h63 hbase
 unfold Oper.wpIn
 refine⟨by simp[Oper.about,ho,resolve,Target.leads,Sem.run_pure],?_⟩
 rw[Oper.semAt_plain F _ _ (by rw[ho];intro c hc';cases hc')]
 simp[execOp,ho,resolve,invoke,builtin,hs,hx,hr,Result.andThen]
 exact hK _ _ (h g' c' w' h2 h3)
theorem WU{D:Nat}{X S:Nat->Prop}{W w1 W':World}{ar:Value}{path:List Ty}{t:Ty}{g' c':Nat}(hX:∀k,X k->¬S k/\k<D)(hrow:ARow D S W ar path)
 (hcase:(ar= .slice (some ⟨g',0,none⟩) path.length c'/\W.grownBy w1 (some g'))\/(W.heap.size<=g'/\W.grownBy w1 none))
 (hkv:KV X (.slice (some ⟨g',0,none⟩) (path.length+1) c') w1 W') (hrow':ARow D S W' (.slice (some ⟨g',0,none⟩) (path.length+1) c') (path++[t])):ARow D S W' ar path/\KV X ar W W':=by
 rcases hcase with⟨rfl,hg⟩|⟨hnew,hg⟩
 ·have hkv':KV X (.slice (some ⟨g',0,none⟩) path.length c') W W':=⟨lT hg.size hkv.size,fun k o hk hc hx ha=>hkv.keep k o ((hg.block k (Array.getElem?_eq_some_iff.1 hk).1 (fun e=>ha (by simp only[Option.some.injEq] at e;simp[Value.ownBlock,e]))).trans hk) hc hx (by simpa [Value.ownBlock] using ha)⟩
  refine⟨?_,hkv'⟩
  obtain⟨ads,h1,h2,h3⟩:=hrow
  obtain⟨ads',h1',h2',h3'⟩:=hrow'
  have hlen:(path++[t]).length=path.length+1:=by simp
  rw[hlen] at h1' h2'
  refine⟨ads'.take path.length,by rw[List.length_take];omega,?_,fun i a u ha hu=>?_⟩
  ·refine⟨by simp[ptrs];omega,?_⟩
   rcases h2'.2 with⟨h,_⟩|⟨g,cap,cur,h,hb,hgg,hnc,hcm,hcs,htake⟩
   ·simp at h
   ·simp only[Value.slice.injEq,Option.some.injEq,Addr.mk.injEq,and_true,true_and] at h
    obtain⟨rfl,rfl⟩:=h
    refine .inr ⟨g',c',cur,rfl,hb,hgg,by omega,hcm,hcs,?_⟩
    have:=congrArg (List.take (path.length*1)) htake
    rw[List.take_take,Nat.min_eq_left (by omega)] at this
    rw[this]
    simp[ptrs,List.map_take]
  ·have hi:i<path.length:=(List.getElem?_eq_some_iff.1 hu).1
   have ha':ads'[i]? =some a:=by rw[List.getElem?_take,if_pos hi] at ha;exact ha
   exact h3' i a u ha' (by rw[List.getElem?_append_left hi];exact hu)
 ·have hkv':KV X ar W W':=⟨lT hg.size hkv.size,fun k o hk hc hx _=>by
   have hlt:=(Array.getElem?_eq_some_iff.1 hk).1
   exact hkv.keep k o ((hg.block k hlt (by simp)).trans hk) hc hx (by simp[Value.ownBlock];omega)⟩
  have hall:∀(k:Nat) (o:Obj),W.heap[k]? =some o->o.isCells=true->¬X k->W'.heap[k]? =some o:=fun k o hk hc hx=>by
   have hlt:=(Array.getElem?_eq_some_iff.1 hk).1
   exact hkv.keep k o ((hg.block k hlt (by simp)).trans hk) hc hx (by simp[Value.ownBlock];omega)
  refine⟨hrow.kept (fun k o hk ho hc=>hall k o ho hc (fun hx=>(hX k hx).1 hk)) (fun g o hg' ho hc=>hall g o ho hc (fun hx=>?_)),hkv'⟩
  obtain⟨ads,_,h2,_⟩:=hrow
  rcases h2.2 with⟨rfl,_⟩|⟨g0,cap,cur,rfl,hb,_⟩
  ·simp[Value.ownBlock] at hg'
  ·simp[Value.ownBlock] at hg'
   have:=(hX g hx).2
   omega
end Go.Proofs.YtmnbheplkidfaaaGreatDoor
namespace Go.Proofs.YtmnbheplkidfaaaGreatDoor
open Go.Lib (hid)
open Go.RowKit Go.Deep Go.Shelf
attribute [local go_sem] Oper.semAt_some
theorem RY{F:Fence}(hd:F.depth=none)(k:Nat):F.room k:=fun d h=>by rw[hd] at h;cases h
theorem UL{F:Fence}(hd:F.depth=none){m:Nat}(m':Nat){P:Program}{l:Nat}{args:Array Value}{W:World}{R:Ending->World->Prop}(h:YieldAt F m P l args W R):YieldAt F m' P l args W R:=by
 obtain⟨fn,tmps,assign,body,hy,hR⟩:=h
 exact⟨fn,tmps,assign,body,hy,⟨hR.1,fun c cs _=>hR.2 c cs (RY hd _)⟩⟩
def CellsBut(ar:Value)(W W':World):Prop:=∀(k:Nat) (o:Obj),W.heap[k]? =some o->o.isCells=true->ar.ownBlock≠some k->W'.heap[k]? =some o
theorem CellsBut.keeps{ar:Value}{W W':World}{S:Nat->Prop}(h:CellsBut ar W W')(hS:∀k,S k->ar.ownBlock≠some k):Keeps S W W':=fun k o hk ho hc=>h k o ho hc (hS k hk)
theorem GL{ar:Value}{W w1:World}{n g' c':Nat}{tmp:Obj}(hcase:(ar= .slice (some ⟨g',0,none⟩) n c'/\(W.alloc tmp).grownBy w1 (some g'))\/((W.alloc tmp).heap.size<=g'/\(W.alloc tmp).grownBy w1 none)):W.heap.size<=w1.heap.size/\CellsBut ar W w1:=by
 rcases hcase with⟨rfl,hg⟩|⟨_,hg⟩
 ·exact⟨by have:=hg.size;simp at this;omega,fun k o hk hc ha=>(hg.block k (by have:=(Array.getElem?_eq_some_iff.1 hk).1;simp;omega) (fun e=>ha (by simp only[Option.some.injEq] at e;simp[Value.ownBlock,e]))).trans (Jz W tmp k o hk hc)⟩
 ·exact⟨by have:=hg.size;simp at this;omega,fun k o hk hc _=>(hg.block k (by have:=(Array.getElem?_eq_some_iff.1 hk).1;simp;omega) (by simp)).trans (Jz W tmp k o hk hc)⟩
theorem Rn{W:World}{base n k:Nat}{e:TypeId}{size:Nat}{v:Value}{xs:List Value}(h:W.ownsRow base e size v n xs)(hk:v.ownBlock=some k):base<=k:=by
 rcases h.2 with⟨rfl,_⟩|⟨g,cap,cur,rfl,hb,_⟩
 ·simp[Value.ownBlock] at hk
 ·obtain rfl:g=k:=by simpa [Value.ownBlock] using hk
  exact hb
def Rz(D:Nat)(S X:Nat->Prop)(J Jx:List Nd->World->Prop)(pre:List Nd)(ar:Value)(path:List Ty)(kid:Int)(t:Ty)(W:World)(e:Ending)(W':World):Prop:=
 (e= .returned (.bool true)/\(∃ys,ys.map Nd.g=preT path kid t/\J (pre++ys) W')/\KV X ar W W'/\ARow D S W' ar path)\/
 (e= .returned (.bool false)/\∃ys,ys.map Nd.g <+:preT path kid t/\Jx (pre++ys) W')
theorem Lm(G:List Ty->Ty->Prop)(hG:∀path t,G path t->∀u∈t.ts,G (path++[t]) u)(F:Fence)(hd:F.depth=none)(hF:∀f,F.fn f)(hro:F.round=none)(l D:Nat)(S X:Nat->Prop)(hX:∀k,X k->¬S k/\k<D)(hS:∀k,S k->k<D)(J Jx:List Nd->World->Prop)(hJ:AbidesAll D J)
 (hY:∀m pre x W,J pre W->Px D S x W->G x.path x.ty->D<=W.heap.size->YieldAt F m Tryz.prog l (Nq x) W fun e W'=>(e= .returned (.bool true)/\J (pre++[x]) W'/\Kp X W W')\/(e= .returned (.bool false)/\Jx (pre++[x]) W')):
 ∀(t:Ty) (n:Nat) (path:List Ty) (kid:Int) (pa:Option Addr) (an ac b o:Nat) (pre:List Nd) (W:World),D<=W.heap.size->J pre W->TyAt S W t b o->ARow D S W (.slice pa an ac) path->path.length+t.depth<=100000->G path t->
  CallsIn F n Tryz.prog 126 #[.agg #[.slice pa an ac,.int .i64 kid],.pointer (some ⟨b,o,none⟩),.func (.yield l) #[] #[]] W (Rz D S X J Jx pre (.slice pa an ac) path kid t W):=by
 refine Ty.ind ?_
 intro k p nm s ls ts ih n path kid pa an ac b o pre W hDW hj hty hrow hdep hg0
 obtain⟨t,ht0⟩:∃t,Ty.mk k p nm s ls ts=t:=⟨_,rfl⟩
 have hts:ts=t.ts:=by rw[<-ht0];rfl
 rw[ht0] at hty hdep hg0 |-
 have hdd:∀k:Nat,(F.depth.isSome=true->1<=k):=fun k h=>by rw[hd] at h;cases h
 have hbx:=Jg W #[.slice pa an ac,.int .i64 kid] 162
 have hj1:=hJ.alloc (.cells #[.slice pa an ac,.int .i64 kid] 162) hj
 have hck:=Jz W (.cells #[.slice pa an ac,.int .i64 kid] 162)
 have hpx:Px D S ⟨.slice pa an ac,kid,b,o,path,t⟩ (W.alloc (.cells #[.slice pa an ac,.int .i64 kid] 162)):=⟨hrow.kept (hck.keeps S) (fun g o _ ho hc=>hck g o ho hc),hty.keep (hck.keeps S),by show path.length<=100000;omega⟩
 obtain⟨fn,tmps,assign,body,hy,hR⟩:=hY (n-1) pre ⟨.slice pa an ac,kid,b,o,path,t⟩ _ hj1 hpx hg0 (by simp;omega)
 simp only[Nq] at hy
 have HR:=hid hR
 have HGK:=hid (hG path t hg0)
 clear hj1 hck hpx hR hg0
 refine callsIn_of_wp Tryz.func126 rfl (hF _) ?_ hro
 simp only[Tryz.ntmps126,List.size_toArray,List.length_cons,List.length_nil,Nat.reduceAdd,Nat.reduceSub,Array.replicate_succ,Array.replicate_zero,List.push_toArray,List.append_toArray,List.nil_append,List.cons_append]
 gi_wp2_with fail
 refine HR.out.mono ?_
 rintro e W2 (⟨rfl,hj2,hk2⟩|⟨rfl,hx2⟩)
 ·have hz2:W.heap.size<W2.heap.size:=by have:=hk2.size;simp at this;omega
  have hck2:CellsKept W (W.alloc (.cells #[.slice pa an ac,.int .i64 kid] 162)):=Jz W _
  have c0:W2.cell? ⟨W.heap.size,0,none⟩=some (.slice pa an ac):=by
   have:=hk2.keep W.heap.size _ (World.alloc_heap_new W _) rfl (fun hx=>by have:=(hX _ hx).2;omega) (by simp[Value.ownBlock])
   simp[World.cell?,this]
  have hkS:Keeps S (W.alloc (.cells #[.slice pa an ac,.int .i64 kid] 162)) W2:=hk2.keeps (fun k hk=>⟨fun hx=>(hX k hx).1 hk,by simp[Value.ownBlock]⟩)
  have hty2:=(hty.keep (hck2.keeps S)).keep hkS
  have hrow2:ARow D S W2 (.slice pa an ac) path:=(hrow.kept (hck2.keeps S) (fun g o _ ho hc=>hck2 g o ho hc)).kept hkS (fun g o hg ho hc=>hk2.keep g o ho hc (fun hx=>by
   have hd':=(hX g hx).2
   obtain⟨_,_,h2,_⟩:=hrow
   rcases h2.2 with⟨h,_⟩|⟨g0,cap,cur,h,hb,_⟩
   ·simp only[Value.slice.injEq] at h;obtain⟨rfl,_⟩:=h;simp[Value.ownBlock] at hg
   ·simp only[Value.slice.injEq] at h;obtain⟨rfl,_⟩:=h;simp[Value.ownBlock] at hg;omega) (by simp[Value.ownBlock]))
  have hkv2:KV X (.slice pa an ac) W W2:=(KV.of_below hbx).trans (KV.of_kp hk2)
  obtain⟨ads,hal,hown,hat⟩:=hrow2
  have HAT:=hid hat
  have HKV2:=hid hkv2
  have HTY2:=hid hty2
  have HJ2:=hid hj2
  clear hy HR hj hty hrow hbx hk2 hkS hty2 hj2 hck2 hat hkv2
  gi_wp2_with (gi_at_builtin;go_must (refine Vc rfl _ _ rfl D _ _ _ rfl (hown.alloc _) ⟨W2.heap.size,0,none⟩ 1 (.pointer (some ⟨b,o,none⟩)) rfl (JB bR 0 rfl) (by simp[Value.oneCell']) (by omega) (by simp;omega) ?_);intro g' c' w3 hown' hcase;have hg3:W2.heap.size<=w3.heap.size/\CellsBut (.slice pa an ac) W2 w3:=GL hcase;have hty3:=HTY2.out.keep (hg3.2.keeps (fun k hk=>fun e=>by have:=hS k hk;have:=Rn hown e;omega));obtain⟨la,ln,lc,ka,kn,kc,⟨_,_,_,_,_,e5⟩,hval⟩:=hty3.load';replace hval:=hid hval;replace hown':=hid hown';replace hcase:=hid hcase;replace hty3:=hid hty3)
  have hg':D<=g':=Rn hown'.out rfl
  have hrow3:ARow D S w3 (.slice (some ⟨g',0,none⟩) (path.length+1) c') (path++[t]):=by
   refine⟨ads++[(b,o)],by simp[hal],by simpa [ptrs] using hown'.out,fun i a u ha hu=>?_⟩
   by_cases hi:i<path.length
   ·rw[List.getElem?_append_left (by omega)] at ha
    rw[List.getElem?_append_left hi] at hu
    exact(HAT.out i a u ha hu).keep (hg3.2.keeps (fun k hk=>fun e=>by have:=hS k hk;have:=Rn hown e;omega))
   ·have hi2:i=path.length:=by have:=(List.getElem?_eq_some_iff.1 hu).1;simp at this;omega
    subst hi2
    rw[List.getElem?_append_right (by omega),hal] at ha
    rw[List.getElem?_append_right (by omega)] at hu
    simp at ha hu
    subst ha hu
    exact hty3.out
  have hj3:J (pre++[⟨.slice pa an ac,kid,b,o,path,t⟩]++[]) w3:=by
   rw[List.append_nil]
   rcases hcase.out with⟨_,hg⟩|⟨_,hg⟩
   ·exact hJ _ _ _ _ (hJ.alloc _ HJ2.out) hg (fun r e=>by cases e;exact hg')
   ·exact hJ _ _ _ _ (hJ.alloc _ HJ2.out) hg (fun r e=>by cases e)
  obtain⟨lv',kv',he,_,_,hks⟩:=hval.out
  simp only[Value.agg.injEq,Array.mk.injEq,List.cons.injEq,and_true,true_and] at he
  obtain⟨rfl,rfl⟩:=he
  obtain⟨ka',kn',kc',he,hlen,hmx,hget⟩:=hks.open
  simp only[Value.slice.injEq] at he
  obtain⟨rfl,rfl,rfl⟩:=he
  have hSb:S b:=(TyAt.eq.1 hty3.out).1
  have HG:=hid hget
  have HIH:=hid ih
  have HE5:=hid e5
  have HROW3:=hid hrow3
  have HJ3:=hid hj3
  have HOWN:=hid hown
  have HG3:=hid hg3
  have HTS:=hid hts
  have HAL:=hid hal
  clear hget ih e5 hrow3 hj3 hks hown hg3 hts ht0 hal
  gi_loopw [24] (fun i wr=>∃(j:Nat) (ys:List Nd),i= .int .i64 j/\j<=kn/\Hid (ys.map Nd.g=Yn (path++[t]) 0 (t.ts.take j))/\Hid (J (pre++[⟨.slice pa an ac,kid,b,o,path,t⟩]++ys) wr)/\Hid (KV X (.slice (some ⟨g',0,none⟩) (path.length+1) c') w3 wr)/\Hid (ARow D S wr (.slice (some ⟨g',0,none⟩) (path.length+1) c') (path++[t])))
   (fun i _=>kn-(intOf i).toNat)
  case atStart=>exact⟨0,[],rfl,by omega,hid (by simp[Yn]),hid HJ3.out,hid (KV.refl _ _ _),hid HROW3.out⟩
  case round=>
   obtain⟨j,ys,rfl,hj,HYS,HJJ,HKV,HRW⟩:=hrel
   by_cases hlt:j<kn
   ·obtain⟨t',ht'⟩:∃t',t.ts[j]? =some t':=⟨_,List.getElem?_eq_getElem (by rw[<-hlen.out];exact hlt)⟩
    obtain⟨kb,ko,rfl,hkb,hty'⟩:=HG.out j t' ht'
    have hkS:Keeps S w3 wr:=HKV.out.keeps (fun k hk=>⟨fun hx=>(hX k hx).1 hk,fun e=>by have:=hS k hk;simp[Value.ownBlock] at e;omega⟩)
    have e5:=hkS.cell hSb HE5.out
    have hmem:t'∈ts:=by rw[HTS.out];exact List.mem_of_getElem? ht'
    have hdt:t'.depth+1<=t.depth:=by rw[t.depth_eq];have:=Ty.depth_mem (List.mem_of_getElem? ht');omega
    have hDr:D<=wr.heap.size:=by have h1:=HKV.out.size;have h2:=HG3.out.1;omega
    have IH:=hid (fun n'=>HIH.out t' hmem n' (path++[t]) (j:Int) (some ⟨g',0,none⟩) (path.length+1) c' kb (ko+j*6) (pre++[⟨.slice pa an ac,kid,b,o,path,t⟩]++ys) wr hDr HJJ.out (hty'.keep hkS) HRW.out (by simp;omega) (HGK.out t' (List.mem_of_getElem? ht')))
    have HPT:=hid (DC (path:=path++[t]) ht' 0)
    have HPP:=hid (Hi (path++[t]) t.ts (j+1) 0)
    clear ht' hty' hkS hmem hdt hDr
    gi_wp2_with fail
    refine(IH.out _).mono ?_
    rintro e w4 (⟨rfl,⟨zs,hz1,hz2⟩,hkv,hrw⟩|⟨rfl,zs,hz1,hz2⟩)
    ·have hys:Hid ((ys++zs).map Nd.g=Yn (path++[t]) 0 (t.ts.take (j+1))):=hid (by rw[List.map_append,HYS.out,hz1,HPT.out];simp)
     have hjj:Hid (J (pre++[⟨.slice pa an ac,kid,b,o,path,t⟩]++(ys++zs)) w4):=hid (by rw[<-List.append_assoc];exact hz2)
     have hkk:=hid (HKV.out.trans hkv)
     have hrr:=hid hrw
     clear hz1 hz2 hkv hrw
     gi_wp2_with fail
     exact⟨⟨j+1,ys++zs,by go_num,by omega,hys,hjj,hkk,hrr⟩,by simp[intOf];omega⟩
    ·have hq:∃q,q.map Nd.g <+:preT path kid t/\Jx (pre++q) w4:=by
      refine⟨[⟨.slice pa an ac,kid,b,o,path,t⟩]++(ys++zs),?_,by simpa [List.append_assoc] using hz2⟩
      rw[MC,List.map_append,List.map_append,HYS.out]
      refine(List.prefix_cons_inj _).2 ((List.IsPrefix.trans ?_ HPP.out))
      rw[HPT.out]
      refine(List.prefix_append_right_inj _).2 ?_
      simpa using hz1
     have HQ:=hid hq
     clear hz1 hz2 hq
     gi_wp2
     go_ret
     exact .inr ⟨rfl,HQ.out⟩
   ·obtain rfl:j=kn:=by omega
    have hback:=WU (W:=W2.alloc (.cells #[.pointer (some ⟨b,o,none⟩)] 136)) (path:=path) (t:=t) (ar:= .slice pa an ac) hX
     (by
      refine⟨ads,HAL.out,HOWN.out.alloc _,fun i a u ha hu=>(HAT.out i a u ha hu).keep ((Jz W2 _).keeps S)⟩) hcase.out HKV.out HRW.out
    have hq:∃q,q.map Nd.g=preT path kid t/\J (pre++q) wr:=by
     refine⟨[⟨.slice pa an ac,kid,b,o,path,t⟩]++ys,?_,by simpa [List.append_assoc] using HJJ.out⟩
     rw[MC,List.map_append,HYS.out,List.take_of_length_le (by rw[hlen.out];exact lR)]
     rfl
    have HQ:=hid hq
    have HBK:=hid hback
    clear hq hback
    gi_wp2
    go_ret
    exact .inl ⟨rfl,HQ.out,HKV2.out.trans ((KV.of_below (Jg W2 _ _)).trans HBK.out.2),HBK.out.1⟩
 ·gi_wp2
  go_ret
  exact .inr ⟨rfl,[_],by rw[MC];exact⟨Yn (path++[t]) 0 t.ts,rfl⟩,hx2⟩
theorem Wx(F:Fence)(hd:F.depth=none)(hF:∀f,F.fn f)(hro:F.round=none)(l D:Nat)(S X:Nat->Prop)(hX:∀k,X k->¬S k/\k<D)(hS:∀k,S k->k<D)(J Jx:List Nd->World->Prop)(hJ:AbidesAll D J)
 (hY:∀m pre x W,J pre W->Px D S x W->D<=W.heap.size->YieldAt F m Tryz.prog l (Nq x) W fun e W'=>(e= .returned (.bool true)/\J (pre++[x]) W'/\Kp X W W')\/(e= .returned (.bool false)/\Jx (pre++[x]) W'))
 (t:Ty) (n:Nat) (path:List Ty) (kid:Int) (pa:Option Addr) (an ac b o:Nat) (pre:List Nd) (W:World) (hDW:D<=W.heap.size) (hj:J pre W) (hty:TyAt S W t b o) (hrow:ARow D S W (.slice pa an ac) path) (hdep:path.length+t.depth<=100000):
  CallsIn F n Tryz.prog 126 #[.agg #[.slice pa an ac,.int .i64 kid],.pointer (some ⟨b,o,none⟩),.func (.yield l) #[] #[]] W (Rz D S X J Jx pre (.slice pa an ac) path kid t W):=
 Lm (fun _ _=>True) (fun _ _ _ _ _=>trivial) F hd hF hro l D S X hX hS J Jx hJ (fun m pre x W hj hp _ hs=>hY m pre x W hj hp hs) t n path kid pa an ac b o pre W hDW hj hty hrow hdep trivial
end Go.Proofs.YtmnbheplkidfaaaGreatDoor
