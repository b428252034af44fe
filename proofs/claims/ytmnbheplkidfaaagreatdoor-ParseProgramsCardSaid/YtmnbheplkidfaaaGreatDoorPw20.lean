/- Parsing: every text is the process, or has the fault, of the reference. (and what follows from it) -/
import Derived.Test.YtmnbheplkidfaaaGreatDoorPw19
import Derived.Deep.CutBlock
set_option maxHeartbeats 16000000
set_option maxRecDepth 100000
namespace Go.Proofs.YtmnbheplkidfaaaGreatDoor
open Go.Lib (hid)
open Go.RowKit Go.Deep Go.Shelf
theorem DK(e p:Int)(w:World):Calls Tryz.prog 12 #[.agg #[.int .i64 e,.int .i64 p]] w fun en w'=>en= .returned (.agg #[.int .i64 e,.int .i64 p])/\Below w.heap.size w w':=by
 obtain⟨W2,hW2⟩:∃W2,(w.alloc (.cells #[.int .i64 e,.int .i64 p] 36)).alloc (.cells #[.int .i64 0,.int .i64 0] 42)=W2:=⟨_,rfl⟩
 have htw:=Zt w #[.int .i64 e,.int .i64 p] #[.int .i64 0,.int .i64 0] 36 42
 rw[hW2] at htw
 have HT:=hid htw
 have q1:=htw.1
 have c0:W2.cell? ⟨w.heap.size,0,none⟩=some (.int .i64 e):=by simp only[World.cell?,q1];rfl
 have c1:W2.cell? ⟨w.heap.size,1,none⟩=some (.int .i64 p):=by simp only[World.cell?,q1];rfl
 clear q1 htw
 go_enter Tryz.func12,Tryz.ntmps12
 go_upto_region 1 with fail
 have q2:=HT.out.2.1
 have z0:=Qc q2 0
 have z1:=Qc q2 1
 have e0:W2.cell? ⟨w.heap.size+1,0,none⟩=some iZ:=by simp only[World.cell?,q2];rfl
 have e1:W2.cell? ⟨w.heap.size+1,1,none⟩=some iZ:=by simp only[World.cell?,q2];rfl
 clear q2
 go_wp2_with fail
 have hx8:((W2.setCell ⟨w.heap.size+1,0,none⟩ (.int .i64 e)).setCell ⟨w.heap.size+1,1,none⟩ (.int .i64 p)).heap[w.heap.size+1]? =some (.cells #[.int .i64 e,.int .i64 p] 42 (0,0)):=Qd (Qd HT.out.2.1 0 _) 1 _
 have y0:((W2.setCell ⟨w.heap.size+1,0,none⟩ (.int .i64 e)).setCell ⟨w.heap.size+1,1,none⟩ (.int .i64 p)).cell? ⟨w.heap.size+1,0,none⟩=some (.int .i64 e):=by simp only[World.cell?,hx8];rfl
 have y1:((W2.setCell ⟨w.heap.size+1,0,none⟩ (.int .i64 e)).setCell ⟨w.heap.size+1,1,none⟩ (.int .i64 p)).cell? ⟨w.heap.size+1,1,none⟩=some (.int .i64 p):=by simp only[World.cell?,hx8];rfl
 refine bodyPost_ret (v:= .agg #[.int .i64 e,.int .i64 p]) (by simp[results,Tryz.results12,go_sem,y0,y1]) rfl ?_
 exact⟨rfl,(HT.out.2.2.setCell (p:=⟨w.heap.size+1,0,none⟩) (by show _<=w.heap.size+1;omega) _).setCell (p:=⟨w.heap.size+1,1,none⟩) (by show _<=w.heap.size+1;omega) _⟩
end Go.Proofs.YtmnbheplkidfaaaGreatDoor
namespace Go.Proofs.YtmnbheplkidfaaaGreatDoor
theorem Mn(E:Int)(f:Nat)(st:RS):Qa E (ZD Qb f) st=Qa E (Js (Ql Qb f)) (Qa E (need QB) (Qa E (Qk Qb) st))/\
 ∀y,Qj (ZD Qb f) st=some y->Qj (Qk Qb) st=some y.n/\Qj (Js (Ql Qb f)) (Qa E (need QB) (Qa E (Qk Qb) st))=some y.t:=by
 constructor
 ·exact Qg (X:=fun s=>Qa E (Js (Ql Qb f)) (Qa E (need QB) s)) (fun _=>Qg (X:=fun s=>Qa E (Js (Ql Qb f)) s) (fun l=>Qg (X:=fun s=>s) (fun _=>QU _ _ _) (fun _=>rfl)) (fun _=>rfl)) (fun _=>rfl)
 ·intro y hy
  obtain⟨n,h1,h2⟩:=Qh E hy
  obtain⟨_,_,h4⟩:=Qh E h2
  obtain⟨x,h5,h6⟩:=Qh E h4
  have e:=Jq h6
  subst e
  exact⟨h1,h5⟩
theorem Vz(E:Int)(f:Nat)(st:RS):Qa E (YW Qb f) st=Qa E (need Up) (Qa E (QT Qb f) (Qa E (need sEq) st))/\
 ∀y,Qj (YW Qb f) st=some y->Qj (QT Qb f) (Qa E (need sEq) st)=some y:=by
 constructor
 ·exact Qg (X:=fun s=>Qa E (need Up) (Qa E (QT Qb f) s)) (fun _=>Qg (X:=fun s=>Qa E (need Up) s) (fun l=>Qg (X:=fun s=>s) (fun _=>QU _ _ _) (fun _=>rfl)) (fun _=>rfl)) (fun _=>rfl)
 ·intro y hy
  obtain⟨_,_,h2⟩:=Qh E hy
  obtain⟨p,h3,h4⟩:=Qh E h2
  obtain⟨_,_,h6⟩:=Qh E h4
  obtain rfl:=Jq h6
  exact h3
theorem FE(E:Int)(f:Nat)(st:RS):Qa E (pdef Qb f) st=Qa E (YW Qb f) (Qa E (Qq (ZD Qb f) Qy f) (Qa E (need QI) (Qa E (Qk Qb) st)))/\
 ∀y,Qj (pdef Qb f) st=some y->Qj (Qk Qb) st=some y.n/\Qj (Qq (ZD Qb f) Qy f) (Qa E (need QI) (Qa E (Qk Qb) st))=some y.ms/\
  Qj (YW Qb f) (Qa E (Qq (ZD Qb f) Qy f) (Qa E (need QI) (Qa E (Qk Qb) st)))=some y.b:=by
 constructor
 ·exact Qg (X:=fun s=>Qa E (YW Qb f) (Qa E (Qq (ZD Qb f) Qy f) (Qa E (need QI) s))) (fun _=>Qg (X:=fun s=>Qa E (YW Qb f) (Qa E (Qq (ZD Qb f) Qy f) s)) (fun _=>
   Qg (X:=fun s=>Qa E (YW Qb f) s) (fun _=>Qg (X:=fun s=>s) (fun _=>QU _ _ _) (fun _=>rfl)) (fun _=>rfl)) (fun _=>rfl)) (fun _=>rfl)
 ·intro y hy
  obtain⟨n,h1,h2⟩:=Qh E hy
  obtain⟨_,_,h4⟩:=Qh E h2
  obtain⟨x,h5,h6⟩:=Qh E h4
  obtain⟨b,h7,h8⟩:=Qh E h6
  have e:=Jq h8
  subst e
  exact⟨h1,h5,h7⟩
theorem Tw(E:Int)(f:Nat)(st:RS):Qa E (Yq Qb f) st=Qa E (YW Qb f) (Qa E (need KB) (Qa E (Zk Qb f f) st))/\
 ∀y,Qj (Yq Qb f) st=some y->Qj (Zk Qb f f) st=some y.ds/\Qj (YW Qb f) (Qa E (need KB) (Qa E (Zk Qb f f) st))=some y.m:=by
 constructor
 ·exact Qg (X:=fun s=>Qa E (YW Qb f) (Qa E (need KB) s)) (fun _=>Qg (X:=fun s=>Qa E (YW Qb f) s) (fun l=>Qg (X:=fun s=>s) (fun _=>QU _ _ _) (fun _=>rfl)) (fun _=>rfl)) (fun _=>rfl)
 ·intro y hy
  obtain⟨n,h1,h2⟩:=Qh E hy
  obtain⟨_,_,h4⟩:=Qh E h2
  obtain⟨x,h5,h6⟩:=Qh E h4
  have e:=Jq h6
  subst e
  exact⟨h1,h5⟩
structure DLeft(E:Int)(f g:Nat)(st:RS)(ds:List Df)(g2:Nat)(st1:RS):Prop where
 fuel:st1.len<g2
 step:Qa E (Zk Qb f g) st=Qa E (Zk Qb f g2) st1
 val:∀l,Qj (Zk Qb f g) st=some l->∃m,Qj (Zk Qb f g2) st1=some m/\l=ds++m
theorem DLeft.start(E:Int)(f g:Nat)(st:RS)(h:st.len<g):DLeft E f g st [] g st:=⟨h,rfl,fun l hl=>⟨l,hl,rfl⟩⟩
theorem DLeft.more{E:Int}{f g g2:Nat}{st st1:RS}{ds:List Df}(h:DLeft E f g st ds (g2+1) st1){d:Df}(hc:stHd sDef st1=true)(hd:∀y,Qj (pdef Qb f) (Qa E (need sDef) st1)=some y->d=y)
 (hl:(Qa E (pdef Qb f) (Qa E (need sDef) st1)).len<g2):DLeft E f g st (ds++[d]) g2 (Qa E (pdef Qb f) (Qa E (need sDef) st1)):=by
 refine⟨hl,h.step.trans ((Xc (P:=fun ts=>(pdef Qb f ts).bind fun d r=>(Zk Qb f g2 r).bind fun l r=> .ok (d::l) r) (Q:=fun ts=> .ok [] ts) hc).trans
  (Qg (X:=fun s=>Qa E (Zk Qb f g2) s) (fun _=>Qg (X:=fun s=>s) (fun _=>QU _ _ _) (fun _=>rfl)) (fun _=>rfl))),fun l hl=>?_⟩
 obtain⟨m,hm,rfl⟩:=h.val l hl
 have hm:=(Vg E (P:=fun ts=>(pdef Qb f ts).bind fun d r=>(Zk Qb f g2 r).bind fun l r=> .ok (d::l) r) (Q:=fun ts=> .ok [] ts) hc).symm.trans hm
 obtain⟨x,h1,h2⟩:=Qh E hm
 obtain⟨y,h3,h4⟩:=Qh E h2
 obtain rfl:=Jq h4
 exact⟨y,h3,by rw[hd x h1];simp⟩
theorem DLeft.last{E:Int}{f g g2:Nat}{st st1:RS}{ds:List Df}(h:DLeft E f g st ds (g2+1) st1)(hc:stHd sDef st1=false):
 Qa E (Zk Qb f g) st=st1/\∀l,Qj (Zk Qb f g) st=some l->l=ds:=by
 refine⟨h.step.trans ((Xd (P:=fun ts=>(pdef Qb f ts.tail).bind fun d r=>(Zk Qb f g2 r).bind fun l r=> .ok (d::l) r) (Q:=fun ts=> .ok [] ts) hc).trans (QU _ _ _)),fun l hl=>?_⟩
 obtain⟨m,hm,rfl⟩:=h.val l hl
 have hm:=(Vh (P:=fun ts=>(pdef Qb f ts.tail).bind fun d r=>(Zk Qb f g2 r).bind fun l r=> .ok (d::l) r) (Q:=fun ts=> .ok [] ts) hc).symm.trans hm
 obtain rfl:=Jq hm
 simp
end Go.Proofs.YtmnbheplkidfaaaGreatDoor
namespace Go.Proofs.YtmnbheplkidfaaaGreatDoor
open Go.Lib (hid)
open Go.RowKit Go.Deep Go.Shelf
variable {α:Type}
def goOn(s:ByteArray)(n:Nat):RS->Bool
 | .inr _=>false
 | .inl ts=> !hd s ts||decide (0<n)
theorem VLeft.exit{E:Int}{F:List Tk->PR α}{s:ByteArray}{f g:Nat}{stA st3:RS}{ps:List α}{n:Nat}(h:VLeft E F f stA ps g st3)(h1:ps=[]->st3=stA)(h2:ps≠[]->stHd s stA=false)(hn:n=ps.length)
 (hc:goOn s n st3=false):Qa E (Qq F s f) stA=Qa E (need s) st3/\∀y,Qj (Qq F s f) stA=some y->ps=y:=by
 subst hn
 match st3,h,h1,hc with
 | .inr z,h,h1,hc=>
  have hs:stHd s stA=false:=by
   cases ps with
   |nil=>rw[<-h1 rfl];rfl
   |cons x r=>exact h2 (by simp)
  refine⟨(Xb E F s f hs).1.trans (congrArg (Qa E (need s)) h.step),fun y hy=>?_⟩
  obtain⟨m,hm,_⟩:=h.val y ((Xb E F s f hs).2 y hy)
  cases hm
 | .inl ts,h,h1,hc=>
  have hc:(!hd s ts||decide (0<ps.length))=false:=hc
  rw[Bool.or_eq_false_iff] at hc
  have e:ps=[]:=List.length_eq_zero_iff.1 (by simpa using hc.2)
  subst e
  have hs:stHd s stA=true:=by rw[<-h1 rfl];simpa [stHd] using hc.1
  rw[h1 rfl]
  exact⟨(Vq E F s f hs).1,fun y hy=>((Vq E F s f hs).2 y hy).symm⟩
theorem VLeft.enter{s:ByteArray}{stA st3:RS}{ps:List α}{n:Nat}(h1:ps=[]->st3=stA)(h2:ps≠[]->stHd s stA=false)(hn:n=ps.length)
 (hc:goOn s n st3=true):stHd s stA=false:=by
 subst hn
 cases ps with
 |cons x r=>exact h2 (by simp)
 |nil=>
  rw[<-h1 rfl]
  match st3,hc with
  | .inr z,hc=>rfl
  | .inl ts,hc=>simpa [stHd,goOn] using hc
abbrev putD(w:World)(X:Nat)(u2 u3 u4 u5 u6 u7 u8 u9 u10 u11 u12 u13:Value):World:=((((((((((((w.setCell ⟨X,2,none⟩ u2).setCell ⟨X,3,none⟩ u3).setCell ⟨X,4,none⟩ u4).setCell ⟨X,5,none⟩ u5).setCell ⟨X,6,none⟩ u6).setCell ⟨X,7,none⟩ u7).setCell ⟨X,8,none⟩ u8).setCell ⟨X,9,none⟩ u9).setCell ⟨X,10,none⟩ u10).setCell ⟨X,11,none⟩ u11).setCell ⟨X,12,none⟩ u12).setCell ⟨X,13,none⟩ u13)
theorem fillD{w:World}{X:Nat}{T:TypeId}{v0 v1 v2 v3 v4 v5 v6 v7 v8 v9 v10 v11 v12 v13:Value}(h:w.heap[X]? =some (.cells #[v0,v1,v2,v3,v4,v5,v6,v7,v8,v9,v10,v11,v12,v13] T (0,0)))(u2 u3 u4 u5 u6 u7 u8 u9 u10 u11 u12 u13:Value):(putD w X u2 u3 u4 u5 u6 u7 u8 u9 u10 u11 u12 u13).heap[X]? =some (.cells #[v0,v1,u2,u3,u4,u5,u6,u7,u8,u9,u10,u11,u12,u13] T (0,0)):=by
 have h2:_ =some (Obj.cells #[v0,v1,u2,v3,v4,v5,v6,v7,v8,v9,v10,v11,v12,v13] T (0,0)):=Qd h 2 u2
 clear h
 have h3:_ =some (Obj.cells #[v0,v1,u2,u3,v4,v5,v6,v7,v8,v9,v10,v11,v12,v13] T (0,0)):=Qd h2 3 u3
 clear h2
 have h4:_ =some (Obj.cells #[v0,v1,u2,u3,u4,v5,v6,v7,v8,v9,v10,v11,v12,v13] T (0,0)):=Qd h3 4 u4
 clear h3
 have h5:_ =some (Obj.cells #[v0,v1,u2,u3,u4,u5,v6,v7,v8,v9,v10,v11,v12,v13] T (0,0)):=Qd h4 5 u5
 clear h4
 have h6:_ =some (Obj.cells #[v0,v1,u2,u3,u4,u5,u6,v7,v8,v9,v10,v11,v12,v13] T (0,0)):=Qd h5 6 u6
 clear h5
 have h7:_ =some (Obj.cells #[v0,v1,u2,u3,u4,u5,u6,u7,v8,v9,v10,v11,v12,v13] T (0,0)):=Qd h6 7 u7
 clear h6
 have h8:_ =some (Obj.cells #[v0,v1,u2,u3,u4,u5,u6,u7,u8,v9,v10,v11,v12,v13] T (0,0)):=Qd h7 8 u8
 clear h7
 have h9:_ =some (Obj.cells #[v0,v1,u2,u3,u4,u5,u6,u7,u8,u9,v10,v11,v12,v13] T (0,0)):=Qd h8 9 u9
 clear h8
 have h10:_ =some (Obj.cells #[v0,v1,u2,u3,u4,u5,u6,u7,u8,u9,u10,v11,v12,v13] T (0,0)):=Qd h9 10 u10
 clear h9
 have h11:_ =some (Obj.cells #[v0,v1,u2,u3,u4,u5,u6,u7,u8,u9,u10,u11,v12,v13] T (0,0)):=Qd h10 11 u11
 clear h10
 have h12:_ =some (Obj.cells #[v0,v1,u2,u3,u4,u5,u6,u7,u8,u9,u10,u11,u12,v13] T (0,0)):=Qd h11 12 u12
 clear h11
 have h13:_ =some (Obj.cells #[v0,v1,u2,u3,u4,u5,u6,u7,u8,u9,u10,u11,u12,u13] T (0,0)):=Qd h12 13 u13
 clear h12
 exact h13
theorem Sd{w:World}{X k:Nat}(h:k≠X)(u2 u3 u4 u5 u6 u7 u8 u9 u10 u11 u12 u13:Value):(putD w X u2 u3 u4 u5 u6 u7 u8 u9 u10 u11 u12 u13).heap[k]? =w.heap[k]? :=by
 rw[oth1 _ _ _ h,oth1 _ _ _ h,oth1 _ _ _ h,oth1 _ _ _ h,oth1 _ _ _ h,oth1 _ _ _ h,oth1 _ _ _ h,oth1 _ _ _ h,oth1 _ _ _ h,oth1 _ _ _ h,oth1 _ _ _ h,oth1 _ _ _ h]
theorem Tp(w:World)(X:Nat)(u2 u3 u4 u5 u6 u7 u8 u9 u10 u11 u12 u13:Value):(putD w X u2 u3 u4 u5 u6 u7 u8 u9 u10 u11 u12 u13).heap.size=w.heap.size:=by simp[putD,World.setCell]
theorem Se(w:World)(X:Nat)(u2 u3 u4 u5 u6 u7 u8 u9 u10 u11 u12 u13:Value):But X w (putD w X u2 u3 u4 u5 u6 u7 u8 u9 u10 u11 u12 u13):=(((((((((((((But.refl X w).set 2 u2).set 3 u3).set 4 u4).set 5 u5).set 6 u6).set 7 u7).set 8 u8).set 9 u9).set 10 u10).set 11 u11).set 12 u12).set 13 u13)
abbrev putE(w:World)(X:Nat)(u1 u2 u3 u4 u5 u6 u7 u8 u9 u10 u11 u12:Value):World:=((((((((((((w.setCell ⟨X,1,none⟩ u1).setCell ⟨X,2,none⟩ u2).setCell ⟨X,3,none⟩ u3).setCell ⟨X,4,none⟩ u4).setCell ⟨X,5,none⟩ u5).setCell ⟨X,6,none⟩ u6).setCell ⟨X,7,none⟩ u7).setCell ⟨X,8,none⟩ u8).setCell ⟨X,9,none⟩ u9).setCell ⟨X,10,none⟩ u10).setCell ⟨X,11,none⟩ u11).setCell ⟨X,12,none⟩ u12)
theorem fillE{w:World}{X:Nat}{T:TypeId}{v0 v1 v2 v3 v4 v5 v6 v7 v8 v9 v10 v11 v12:Value}(h:w.heap[X]? =some (.cells #[v0,v1,v2,v3,v4,v5,v6,v7,v8,v9,v10,v11,v12] T (0,0)))(u1 u2 u3 u4 u5 u6 u7 u8 u9 u10 u11 u12:Value):(putE w X u1 u2 u3 u4 u5 u6 u7 u8 u9 u10 u11 u12).heap[X]? =some (.cells #[v0,u1,u2,u3,u4,u5,u6,u7,u8,u9,u10,u11,u12] T (0,0)):=by
 have h1:_ =some (Obj.cells #[v0,u1,v2,v3,v4,v5,v6,v7,v8,v9,v10,v11,v12] T (0,0)):=Qd h 1 u1
 clear h
 have h2:_ =some (Obj.cells #[v0,u1,u2,v3,v4,v5,v6,v7,v8,v9,v10,v11,v12] T (0,0)):=Qd h1 2 u2
 clear h1
 have h3:_ =some (Obj.cells #[v0,u1,u2,u3,v4,v5,v6,v7,v8,v9,v10,v11,v12] T (0,0)):=Qd h2 3 u3
 clear h2
 have h4:_ =some (Obj.cells #[v0,u1,u2,u3,u4,v5,v6,v7,v8,v9,v10,v11,v12] T (0,0)):=Qd h3 4 u4
 clear h3
 have h5:_ =some (Obj.cells #[v0,u1,u2,u3,u4,u5,v6,v7,v8,v9,v10,v11,v12] T (0,0)):=Qd h4 5 u5
 clear h4
 have h6:_ =some (Obj.cells #[v0,u1,u2,u3,u4,u5,u6,v7,v8,v9,v10,v11,v12] T (0,0)):=Qd h5 6 u6
 clear h5
 have h7:_ =some (Obj.cells #[v0,u1,u2,u3,u4,u5,u6,u7,v8,v9,v10,v11,v12] T (0,0)):=Qd h6 7 u7
 clear h6
 have h8:_ =some (Obj.cells #[v0,u1,u2,u3,u4,u5,u6,u7,u8,v9,v10,v11,v12] T (0,0)):=Qd h7 8 u8
 clear h7
 have h9:_ =some (Obj.cells #[v0,u1,u2,u3,u4,u5,u6,u7,u8,u9,v10,v11,v12] T (0,0)):=Qd h8 9 u9
 clear h8
 have h10:_ =some (Obj.cells #[v0,u1,u2,u3,u4,u5,u6,u7,u8,u9,u10,v11,v12] T (0,0)):=Qd h9 10 u10
 clear h9
 have h11:_ =some (Obj.cells #[v0,u1,u2,u3,u4,u5,u6,u7,u8,u9,u10,u11,v12] T (0,0)):=Qd h10 11 u11
 clear h10
 have h12:_ =some (Obj.cells #[v0,u1,u2,u3,u4,u5,u6,u7,u8,u9,u10,u11,u12] T (0,0)):=Qd h11 12 u12
 clear h11
 exact h12
theorem Sb{w:World}{X k:Nat}(h:k≠X)(u1 u2 u3 u4 u5 u6 u7 u8 u9 u10 u11 u12:Value):(putE w X u1 u2 u3 u4 u5 u6 u7 u8 u9 u10 u11 u12).heap[k]? =w.heap[k]? :=by
 rw[oth1 _ _ _ h,oth1 _ _ _ h,oth1 _ _ _ h,oth1 _ _ _ h,oth1 _ _ _ h,oth1 _ _ _ h,oth1 _ _ _ h,oth1 _ _ _ h,oth1 _ _ _ h,oth1 _ _ _ h,oth1 _ _ _ h,oth1 _ _ _ h]
theorem To(w:World)(X:Nat)(u1 u2 u3 u4 u5 u6 u7 u8 u9 u10 u11 u12:Value):(putE w X u1 u2 u3 u4 u5 u6 u7 u8 u9 u10 u11 u12).heap.size=w.heap.size:=by simp[putE,World.setCell]
theorem Sc(w:World)(X:Nat)(u1 u2 u3 u4 u5 u6 u7 u8 u9 u10 u11 u12:Value):But X w (putE w X u1 u2 u3 u4 u5 u6 u7 u8 u9 u10 u11 u12):=(((((((((((((But.refl X w).set 1 u1).set 2 u2).set 3 u3).set 4 u4).set 5 u5).set 6 u6).set 7 u7).set 8 u8).set 9 u9).set 10 u10).set 11 u11).set 12 u12)
abbrev KC:List (Nat×Option Tmp):=[(0,some 36),(1,some 37),(2,some 38),(3,some 39),(4,some 40),(5,some 41),(6,some 42),(7,some 43),(8,some 44),(9,none)]
theorem KZ(R:Nat)(la:Option Addr)(all:List Tk)(E:Int)(hall:UA all)(f:Nat)(st:RS)(w:World)(h:RdIs R la all E st w)(hf:2*st.len+4<=f):
 Calls Tryz.prog 27 #[.pointer (some ⟨R,0,none⟩)] w (Red R la all E w (Yq Qb f) st (GPg w.heap.size)):=by
 obtain⟨hm1,hm2⟩:=Tw E f st
 unfold Red
 rw[hm1]
 have HE:=hid hm2
 have HANY:Hid (∀st4 W,RdIs R la all E st4 W->st4.len<f->Calls Tryz.prog 38 #[.pointer (some ⟨R,0,none⟩)] W (Red R la all E W (Js (Ql Qb f)) st4 (GTy W.heap.size))):=hid (by
  obtain⟨f1,rfl⟩:∃f1,f=f1+1:=⟨f-1,by omega⟩
  exact fun st4 W hp hl=>Te R la all E st4 W hp f1 (f1+1) (Fj R la all E (f1+1)) hl)
 have HF:=hid hf
 have HALL:=hid hall
 have HLA:=hid h.la
 have hR:R<w.heap.size:=h.lt
 have HLN0:Hid (st.len<=1000001):=hid h.len_le
 have htw:=Zt w #[.slice none 0 0,.int .i64 0,.string ⟨#[]⟩,.string ⟨#[]⟩,.slice none 0 0,.slice none 0 0,.int .i64 0,.int .i64 0,.string ⟨#[]⟩,.int .i64 0,.slice none 0 0,.slice none 0 0,.slice none 0 0] #[.slice none 0 0,.int .i64 0,.string ⟨#[]⟩,.string ⟨#[]⟩,.slice none 0 0,.slice none 0 0,.int .i64 0,.int .i64 0,.string ⟨#[]⟩,.int .i64 0,.slice none 0 0,.slice none 0 0,.slice none 0 0] 33 33
 obtain⟨W3,hW3⟩:∃W3,(w.alloc (.cells z13 33)).alloc (.cells z13 33)=W3:=⟨_,rfl⟩
 rw[hW3] at htw
 have hs3:w.heap.size+1<W3.heap.size:=(Array.getElem?_eq_some_iff.1 htw.2.1).1
 have HP:Hid (RdIs R la all E st W3):=hid (h.to htw.2.2)
 have HB:Hid (But R w W3):=hid (But.of htw.2.2)
 have HZ:Hid (Blk W3 w.heap.size z13 33):=hid htw.1
 have HX:Hid (Blk W3 (w.heap.size+1) z13 33):=hid htw.2.1
 have HW3:=hid hW3
 clear hW3 htw h hall hm1 hm2 hf
 go_enter Tryz.func27,Tryz.ntmps27
 go_upto_region 1 with fail
 go_wp2_with fail
 go_loopw [] (fun wr=>∃(ds:List Df) (vs:List Value) (da:Option Addr) (dn dc:Nat) (g2:Nat) (st1:RS),Hid (Blk wr ((w.heap.size+1)) #[.slice da dn dc,.int .i64 0,.string ⟨#[]⟩,.string ⟨#[]⟩,.slice none 0 0,.slice none 0 0,.int .i64 0,.int .i64 0,.string ⟨#[]⟩,.int .i64 0,.slice none 0 0,.slice none 0 0,.slice none 0 0] 33)/\Hid (LRow 61 14 W3.heap.size DfVal (fun j=>j=w.heap.size+1) wr (.slice da dn dc) vs (ds))/\Hid (RdIs R la all E st1 wr)/\Hid (But R w wr)/\Hid (DLeft E f f st ds g2 st1)/\Hid (ds.length+st1.len<=st.len)/\Hid (W3.heap.size<=wr.heap.size)/\Hid (Blk wr w.heap.size z13 33)) (fun wr=>lenW R all wr)
 case atStart=>
  rw[HW3.out]
  exact⟨[],[],_,_,_,f,st,HX,hid (LRow.nil _ _ _ _ _ _),HP,HB,hid (DLeft.start E f f st (by have:=HF.out;omega)),hid (by show 0+_<=_;omega),hid lR,HZ⟩
 case round=>
  obtain⟨ds,vs,da,dn,dc,g2,st1,HOUT,HLD,HPa,HBa,HDL,HLN,HWV,HZ0⟩:=hrel
  rename World=>V0
  clear HP HB HX HZ
  have hsv:=HWV.out
  have HLENV:=hid HPa.out.lenW
  obtain⟨t1,ht1⟩:∃t1,Qi st1=t1:=⟨_,rfl⟩
  have HT1:=hid ht1
  have hfu:=HDL.out.fuel
  obtain⟨g3,rfl⟩:∃g3,g2=g3+1:=⟨g2-1,by omega⟩
  cases hq:stHd sDef st1 with
  |true=>
   have k0:(t1.toList==[100,101,102])=true:=by rw[<-ht1];exact Qt hq
   have hnl:=JQ E hq
   have hmore:= @DLeft.more E f f g3 st st1 ds HDL.out
   obtain⟨st2,hst2⟩:∃st2,Qa E (need sDef) st1=st2:=⟨_,rfl⟩
   rw[hst2] at hnl hmore
   have HST2:=hid hst2
   have HMORE:=hid (fun d=>hmore (d:=d) hq)
   have HNL:=hid hnl
   have HFU:=hid hfu
   clear hmore hnl ht1 hq hst2 hfu
   have HP:=HPa
   have HB:Hid (But R V0 V0):=hid (But.refl _ _)
   go_upto_region 3 with(go_at_call 58;refine(Xz HP HB HT1.out).mono ?_;rintro _ wn⟨rfl,HP,HB⟩)
   go_upto_region 4 with(go_at_call 59;refine(Zs HP HB).mono ?_;rintro _ wn⟨rfl,HP,HB⟩)
   rw[HST2.out] at HP
   go_upto_region 5 with(go_at_call 60;refine(Ht HP HB).mono ?_;rintro _ V1⟨nm,rfl,HNZ,HNV,HP,HB⟩;obtain⟨V4,hV4⟩:∃W,V1.alloc (.cells #[.string nm,.slice none 0 0,.int .i64 0,.string ⟨#[]⟩,.string ⟨#[]⟩,.slice none 0 0,.slice none 0 0,.int .i64 0,.int .i64 0,.string ⟨#[]⟩,.int .i64 0,.slice none 0 0,.slice none 0 0,.slice none 0 0] 61)=W:=⟨_,rfl⟩;have hb4:Below V1.heap.size V1 V4:=(by rw[<-hV4];exact bR.alloc lR _);have xd:Blk V4 V1.heap.size #[.string nm,.slice none 0 0,.int .i64 0,.string ⟨#[]⟩,.string ⟨#[]⟩,.slice none 0 0,.slice none 0 0,.int .i64 0,.int .i64 0,.string ⟨#[]⟩,.int .i64 0,.slice none 0 0,.slice none 0 0,.slice none 0 0] 61:=(by rw[<-hV4];exact World.alloc_heap_new _ _);have HV4:=hid hV4;have HB4:=hid hb4;have HXD:=hid xd;clear hV4 hb4 xd)
   rw[show V1.alloc (.cells #[.string nm,.slice none 0 0,.int .i64 0,.string ⟨#[]⟩,.string ⟨#[]⟩,.slice none 0 0,.slice none 0 0,.int .i64 0,.int .i64 0,.string ⟨#[]⟩,.int .i64 0,.slice none 0 0,.slice none 0 0,.slice none 0 0] 61)=V4 from HV4.out]
   have HP4:=hid (HP.out.to HB4.out)
   have HB1:=HB
   clear HP HB
   have HP:=HP4
   have HB:Hid (But R V4 V4):=hid (But.refl _ _)
   go_upto_block 2 with(go_at_call 59;refine(Zs HP HB).mono ?_;rintro _ wn⟨rfl,HP,HB⟩)
   rename World=>V5
   obtain⟨stA,hstA⟩:∃stA,Qa E (need QI) (Qa E (Qk Qb) st2)=stA:=⟨_,rfl⟩
   rw[hstA] at HP
   have HSTA:=hid hstA
   have h01:=HB1.out.size
   have hR1:R<V1.heap.size:=by omega
   have hRd:V1.heap.size≠R:=by omega
   have HD5:=hid ((HB.out.block V1.heap.size (gl0 HXD.out) hRd).trans HXD.out)
   have HBI:Hid (But R V1 V5):=hid ((But.of HB4.out).trans HB.out)
   have HP5:=HP
   have HLA5:Hid (stA.len<f):=hid (by rw[<-hstA];have a:=Jr E QI (Qa E (Qk Qb) st2);have b:=Xa E st2;have c:=HNL.out;have d:=HLN.out;have e:=HF.out;omega)
   have HLA6:Hid (stA.len<=1000001):=hid HP.out.len_le
   clear HP HB HB4 HXD hstA HP4 HV4 k0 HT1
   go_cut [] from 5 to 64 (fun wc=>∃(ps:List Pm) (vp:List Value) (pa:Option Addr) (pn pc:Nat) (stB:RS),Hid (Blk wc V1.heap.size #[.string nm,.slice pa pn pc,.int .i64 0,.string ⟨#[]⟩,.string ⟨#[]⟩,.slice none 0 0,.slice none 0 0,.int .i64 0,.int .i64 0,.string ⟨#[]⟩,.int .i64 0,.slice none 0 0,.slice none 0 0,.slice none 0 0] 61)/\Hid (LRow 63 7 V1.heap.size PmVal (fun j=>j=V1.heap.size) wc (.slice pa pn pc) vp (ps))/\Hid (RdIs R la all E stB wc)/\Hid (But R V1 wc)/\Hid (Qa E (Qq (ZD Qb f) Qy f) stA=Qa E (need Qy) stB)/\Hid (∀y,Qj (Qq (ZD Qb f) Qy f) stA=some y->ps=y)/\Hid (ps.length<=1000002)/\Hid (stB.len<=stA.len))
   case first=>
    go_wp2_with fail
    go_loopw [] (fun wr=>∃(ps:List Pm) (vp:List Value) (pa:Option Addr) (pn pc:Nat) (g4:Nat) (st3:RS),Hid (Blk wr V1.heap.size #[.string nm,.slice pa pn pc,.int .i64 0,.string ⟨#[]⟩,.string ⟨#[]⟩,.slice none 0 0,.slice none 0 0,.int .i64 0,.int .i64 0,.string ⟨#[]⟩,.int .i64 0,.slice none 0 0,.slice none 0 0,.slice none 0 0] 61)/\Hid (LRow 63 7 V1.heap.size PmVal (fun j=>j=V1.heap.size) wr (.slice pa pn pc) vp (ps))/\Hid (RdIs R la all E st3 wr)/\Hid (But R V1 wr)/\Hid (VLeft E (ZD Qb f) f stA ps g4 st3)/\Hid (ps.length+st3.len<=stA.len)/\Hid (ps=[]->st3=stA)/\Hid (ps≠[]->stHd Qy stA=false)) (fun wr=>lenW R all wr)
    case atStart=>
     exact⟨[],[],_,_,_,f,stA,HD5,hid (LRow.nil _ _ _ _ _ _),HP5,HBI,hid (VLeft.start E _ f stA HLA5.out),hid (by show 0+_<=_;omega),hid (fun _=>rfl),hid (fun h=>absurd rfl h)⟩
    case round=>
     obtain⟨ps,vp,pa,pn,pc,g4,st3,HBX,HLP,HPa3,HBa3,HVF,HLN3,HST3,HSH⟩:=hrel
     rename World=>V6
     clear HP5 HBI HD5
     have HLENV3:=hid HPa3.out.lenW
     obtain⟨t2,ht2⟩:∃t2,Qi st3=t2:=⟨_,rfl⟩
     have HT2:=hid ht2
     have hpn:pn=ps.length:=by
      rcases HLP.out.parts with⟨e,e2⟩|⟨_,_,e,_⟩
      ·injection e with _ e3 _;rw[e3,e2];rfl
      ·injection e with _ e3 _
     subst hpn
     obtain⟨cb,hcb⟩:∃cb,goOn Qy ps.length st3=cb:=⟨_,rfl⟩
     have HCB:=hid hcb
     clear hcb
     go_upto_region 6 with fail
     go_cut [31] from 16 to 49 (fun s31 wc=>s31= .bool cb/\Hid (Below V6.heap.size V6 wc))
     case first=>
      match st3,HPa3,HCB,HT2,ht2 with
      | .inr z,HPa3,HCB,HT2,ht2=>
       obtain⟨er,y3,hne⟩:∃er:Int,V6.cell? ⟨R,3,none⟩=some (.int .i64 er)/\(er==0)=false:=by
        obtain⟨e0,p0⟩:=z
        obtain⟨cap,a,p,e,hx,_,_,he,_,hn⟩:=HPa3.out
        exact⟨e,(c5 hx).1.2.2.2.1,by rw[he];simpa using hn⟩
       clear ht2
       go_wp2_with fail
       go_meet
       case rel=>exact⟨by rw[<-HCB.out];rfl,hid bR⟩
      | .inl ts,HPa3,HCB,HT2,ht2=>
       obtain y3:V6.cell? ⟨R,3,none⟩=some iZ:=by
        obtain⟨cap,a,p,e,hx,_,_,rfl,_⟩:=HPa3.out
        exact(c5 hx).1.2.2.2.1
       cases hq2:hd Qy ts with
       |false=>
        have k1:(t2.toList==[41])=false:=by rw[<-ht2];exact Qt hq2
        have k2:(t2.toList != [41])=true:=by rw[bne,k1];rfl
        have HCB2:Hid (cb=true):=hid (by rw[<-HCB.out];simp[goOn,hq2])
        clear ht2 hq2 HCB
        go_wp2_with (go_at_call 58;refine(Qw R _ all E _ _ HPa3.out).mono ?_;rw[HT2.out];rintro en V7⟨rfl,hb⟩;have HB7:=hid hb;clear hb)
        go_meet
        case rel=>exact⟨by rw[HCB2.out],HB7⟩
       |true=>
        have k1:(t2.toList==[41])=true:=by rw[<-ht2];exact Qt hq2
        have k2:(t2.toList != [41])=false:=by rw[bne,k1];rfl
        have HCB2:Hid (cb=decide (0<ps.length)):=hid (by rw[<-HCB.out];simp[goOn,hq2])
        have HLV:=hid (gl0 HBX.out)
        clear ht2 hq2 HCB
        match ps,HBX,HCB2 with
        |[],HBX,HCB2=>
         go_wp2_with (go_at_call 58;refine(Qw R _ all E _ _ HPa3.out).mono ?_;rw[HT2.out];rintro en V7⟨rfl,hb⟩;have HB7:=hid hb;have cl:=(c14p ((hb.block V1.heap.size HLV.out).trans HBX.out)).1.2.1;clear hb)
         go_meet
         case rel=>exact⟨by rw[HCB2.out];rfl,HB7⟩
        |x::r,HBX,HCB2=>
         have kl:(0<r.length+1):=Nat.succ_pos _
         go_wp2_with (go_at_call 58;refine(Qw R _ all E _ _ HPa3.out).mono ?_;rw[HT2.out];rintro en V7⟨rfl,hb⟩;have HB7:=hid hb;have cl:=(c14p ((hb.block V1.heap.size HLV.out).trans HBX.out)).1.2.1;clear hb)
         go_meet
         case rel=>exact⟨by rw[HCB2.out];simp,HB7⟩
     case rest=>
      obtain⟨rfl,HBL⟩:=hcut
      rename World=>V7
      have HBa7:Hid (But R V1 V7):=hid (HBa3.out.to HBL.out)
      have hlv:V1.heap.size<V6.heap.size:=gl0 HBX.out
      have HBX7:=hid ((HBL.out.block V1.heap.size hlv).trans HBX.out)
      have HLP7:Hid (LRow 63 7 V1.heap.size PmVal (fun j=>j=V1.heap.size) V7 (.slice pa ps.length pc) vp (ps)):=hid (HLP.out.frame lyPm ((But.of (P:=R) HBL.out).o _) hR1 (fun k hk=> .inl hk))
      have HP7:=hid (HPa3.out.to HBL.out)
      clear HBX HLP HPa3 HBa3 HBL hlv ht2 HT2
      cases cb with
      |false=>
       have hex:=VLeft.exit HVF.out HST3.out HSH.out rfl HCB.out
       have HEX1:=hid hex.1
       have HEX2:=hid hex.2
       clear hex
       go_wp2_with fail
       go_meet
       case rel=>exact⟨ps,vp,pa,_,pc,st3,HBX7,HLP7,HP7,HBa7,HEX1,HEX2,hid (by have:=HLN3.out;have:=HLA6.out;omega),hid (by have:=HLN3.out;omega)⟩
      |true=>
       have HSHn:Hid (stHd Qy stA=false):=hid (VLeft.enter HST3.out HSH.out rfl HCB.out)
       clear HCB HST3 HSH
       have HP:=HP7
       have HB:Hid (But R V7 V7):=hid (But.refl _ _)
       go_upto_region 8 with(go_at_call 60;refine(Ht HP HB).mono ?_;rintro _ wn⟨pnm,rfl,HPNZ,HPNV,HP,HB⟩)
       go_upto_region 9 with(go_at_call 59;refine(Zs HP HB).mono ?_;rintro _ wn⟨rfl,HP,HB⟩)
       rename World=>V8
       obtain⟨st4,hst4⟩:∃st4,Qa E (need QB) (Qa E (Qk Qb) st3)=st4:=⟨_,rfl⟩
       rw[hst4] at HP
       have HST4:=hid hst4
       have hl4:st4.len<=st3.len:=by rw[<-hst4];exact lT (Jr E QB _) (Xa E st3)
       have HN4:Hid (st4.len<f):=hid (by have:=HLN3.out;have:=HLA5.out;omega)
       have HL43:=hid hl4
       clear hst4 hl4
       have h78:V1.heap.size<=V8.heap.size:=lT HBa7.out.size HB.out.size
       have hl8:V1.heap.size<V8.heap.size:=lL (gl0 HBX7.out) HB.out.size
       have HBX8:=hid ((HB.out.block V1.heap.size (gl0 HBX7.out) hRd).trans HBX7.out)
       have HLP8:Hid (LRow 63 7 V1.heap.size PmVal (fun j=>j=V1.heap.size) V8 (.slice pa ps.length pc) vp (ps)):=hid (HLP7.out.frame lyPm (HB.out.o _) hR1 (fun k hk=> .inl hk))
       have HBa8:Hid (But R V1 V8):=hid (HBa7.out.trans HB.out)
       have HP8:=HP
       clear HBX7 HLP7 HBa7 HP7 HP HB
       have HLPL:Hid (∀k,(Value.slice pa ps.length pc).ownBlock=some k->V1.heap.size<=k/\k<V8.heap.size):=hid (fun k hk=>HLP8.out.row.lt k hk)
       have HBXF:Hid (∀W,But R V8 W->Blk W V1.heap.size #[.string nm,.slice pa ps.length pc,.int .i64 0,.string ⟨#[]⟩,.string ⟨#[]⟩,.slice none 0 0,.slice none 0 0,.int .i64 0,.int .i64 0,.string ⟨#[]⟩,.int .i64 0,.slice none 0 0,.slice none 0 0,.slice none 0 0] 61):=hid (fun W hW=>(hW.block V1.heap.size hl8 hRd).trans HBX8.out)
       have HLPF:Hid (∀W,But R V8 W->LRow 63 7 V1.heap.size PmVal (fun j=>j=V1.heap.size) W (.slice pa ps.length pc) vp (ps)):=hid (fun W hW=>HLP8.out.frame lyPm (hW.o _) hR1 (fun k hk=> .inl hk))
       have HBXO:Hid (∀W,ButO R (fun j=>some j=(Value.slice pa ps.length pc).ownBlock) V8 W->Blk W V1.heap.size #[.string nm,.slice pa ps.length pc,.int .i64 0,.string ⟨#[]⟩,.string ⟨#[]⟩,.slice none 0 0,.slice none 0 0,.int .i64 0,.int .i64 0,.string ⟨#[]⟩,.int .i64 0,.slice none 0 0,.slice none 0 0,.slice none 0 0] 61):=hid (fun W hW=>(hW.block V1.heap.size hl8 hRd (fun e=>HLP8.out.out _ e.symm rfl)).trans HBX8.out)
       have HVSZ:Hid (vp.length<=1000002):=hid (by have h1:=HLP8.out.len;have h2:=HLN3.out;have h3:=HLA6.out;omega)
       go_upto_region 9 with fail
       refine wp_region_held_drew (S:=fun _=>True) (by kernel_rfl) trivial (fun hHeld=>?_)
       refine QY [0,1,2,3,4,5,6,7,8,9] (Rail [(7,1)] [(0,.pointer (some ⟨V1.heap.size,1,none⟩)),(1,.slice pa ps.length pc),(2,.string pnm),(3,.pointer (some ⟨R,0,none⟩)),(8,.pointer (some ⟨V1.heap.size,1,none⟩))] [(4,fun v W=>∃(u:Ty) (lb:Option Addr) (mn mc:Nat) (kb:Option Addr) (jn jc:Nat),v= .agg (cT u lb mn mc kb jn jc)/\GTy V8.heap.size W u (.agg (cT u lb mn mc kb jn jc))/\(∀y,Qj (Js (Ql Qb f)) st4=some y->u=y)/\RdIs R la all E (Qa E (Js (Ql Qb f)) st4) W/\But R V8 W),(5,fun v W=>∃(u:Ty) (lb:Option Addr) (mn mc:Nat) (kb:Option Addr) (jn jc:Nat),v= .agg #[.string pnm,.int .i64 u.k,.int .i64 u.p,.string u.n,.int .i64 u.s,.slice lb mn mc,.slice kb jn jc]/\GTy V8.heap.size W u (.agg (cT u lb mn mc kb jn jc))/\(∀y,Qj (Js (Ql Qb f)) st4=some y->u=y)/\RdIs R la all E (Qa E (Js (Ql Qb f)) st4) W/\But R V8 W),(6,fun v W=>∃(u:Ty) (lb:Option Addr) (mn mc:Nat) (kb:Option Addr) (jn jc:Nat) (nb:Nat),v= .slice (some ⟨nb,0,none⟩) 1 1/\GTy V8.heap.size W u (.agg (cT u lb mn mc kb jn jc))/\(∀y,Qj (Js (Ql Qb f)) st4=some y->u=y)/\RdIs R la all E (Qa E (Js (Ql Qb f)) st4) W/\But R V8 W/\V8.heap.size<=nb/\Blk W nb #[.string pnm,.int .i64 u.k,.int .i64 u.p,.string u.n,.int .i64 u.s,.slice lb mn mc,.slice kb jn jc] 63),(7,fun v W=>∃(u:Ty) (ha:Option Addr) (hn hc:Nat) (vs':List Value),v= .slice ha hn hc/\(∀y,Qj (Js (Ql Qb f)) st4=some y->u=y)/\RdIs R la all E (Qa E (Js (Ql Qb f)) st4) W/\ButO R (fun j=>some j=(Value.slice pa ps.length pc).ownBlock) V8 W/\LRow 63 7 V1.heap.size PmVal (fun j=>j=V1.heap.size) W (.slice ha hn hc) vs' (ps++[⟨pnm,u⟩])),(9,fun _ W=>∃(u:Ty) (ha:Option Addr) (hn hc:Nat) (vs':List Value),(∀y,Qj (Js (Ql Qb f)) st4=some y->u=y)/\RdIs R la all E (Qa E (Js (Ql Qb f)) st4) W/\ButO R (Jt V1.heap.size (.slice pa ps.length pc)) V8 W/\Blk W V1.heap.size #[.string nm,.slice ha hn hc,.int .i64 0,.string ⟨#[]⟩,.string ⟨#[]⟩,.slice none 0 0,.slice none 0 0,.int .i64 0,.int .i64 0,.string ⟨#[]⟩,.int .i64 0,.slice none 0 0,.slice none 0 0,.slice none 0 0] 61/\LRow 63 7 V1.heap.size PmVal (fun j=>j=V1.heap.size) W (.slice ha hn hc) vs' (ps++[⟨pnm,u⟩]))] (fun W=>W=V8.drew)) (by kernel_rfl) (by kernel_rfl) (fun _ _ _ _=>trivial) (Rail.start (S0:=fun W=>W=V8.drew) rfl _) ?stepsP ?stopP
       case stepsP=>
        refine List.forall_mem_cons.2 ⟨?_,List.forall_mem_cons.2 ⟨?_,List.forall_mem_cons.2 ⟨?_,List.forall_mem_cons.2 ⟨?_,List.forall_mem_cons.2 ⟨?_,List.forall_mem_cons.2 ⟨?_,List.forall_mem_cons.2 ⟨?_,List.forall_mem_cons.2 ⟨?_,List.forall_mem_cons.2 ⟨?_,List.forall_mem_cons.2 ⟨?_,List.forall_mem_nil _⟩⟩⟩⟩⟩⟩⟩⟩⟩⟩
        ·refine InvStep.lst 0 [] KC (fun L vals olds wx hLk hdeps hRl K hK2=>?_)
         simp only[Qs,setD,sS,sZ] at hK2 |-
         clear hdeps
         go_simp
         exact hK2 _ _ (hRl.pure 0 _ rfl (List.forall_mem_nil _) (List.forall_mem_cons.2 ⟨rfl,(List.forall_mem_nil _)⟩))
        ·refine InvStep.lst 1 [0] KC (fun L vals olds wx hLk hdeps hRl K hK2=>?_)
         simp only[Qs,setD,sS,sZ] at hK2 |-
         simp only[List.all_cons,List.all_nil,Bool.and_true] at hdeps
         have es0:=(Qe (vals:=vals) (olds:=olds) hdeps).trans (hRl.val 0 rfl hdeps)
         simp only[es0] at hK2 |-
         clear es0
         have hbx:Blk wx V1.heap.size #[.string nm,.slice pa ps.length pc,.int .i64 0,.string ⟨#[]⟩,.string ⟨#[]⟩,.slice none 0 0,.slice none 0 0,.int .i64 0,.int .i64 0,.string ⟨#[]⟩,.int .i64 0,.slice none 0 0,.slice none 0 0,.slice none 0 0] 61:=hRl.before 3 1 (I:=fun W=>Blk W V1.heap.size #[.string nm,.slice pa ps.length pc,.int .i64 0,.string ⟨#[]⟩,.string ⟨#[]⟩,.slice none 0 0,.slice none 0 0,.int .i64 0,.int .i64 0,.string ⟨#[]⟩,.int .i64 0,.slice none 0 0,.slice none 0 0,.slice none 0 0] 61) rfl rfl hLk (fun e=>by rw[e];exact HBXF.out _ (But.refl _ _).drew) (List.forall_mem_cons.2 ⟨fun v h=>HBXF.out _ (by obtain⟨_,_,_,_,_,_,_,_,_,_,_,h⟩:=h;exact h),List.forall_mem_cons.2 ⟨fun v h=>HBXF.out _ (by obtain⟨_,_,_,_,_,_,_,_,_,_,_,h⟩:=h;exact h),List.forall_mem_cons.2 ⟨fun v h=>HBXF.out _ (by obtain⟨_,_,_,_,_,_,_,_,_,_,_,_,h,_⟩:=h;exact h),(List.forall_mem_nil _)⟩⟩⟩)
         have cl:=(c14p hbx).1.2.1
         clear hbx
         go_simp
         clear cl
         exact hK2 _ _ (hRl.pure 1 _ rfl (List.forall_mem_nil _) (List.forall_mem_cons.2 ⟨rfl,(List.forall_mem_nil _)⟩))
        ·refine InvStep.lst 2 [] KC (fun L vals olds wx hLk hdeps hRl K hK2=>?_)
         simp only[Qs,setD,sS,sZ] at hK2 |-
         clear hdeps
         go_simp
         exact hK2 _ _ (hRl.pure 2 _ rfl (List.forall_mem_nil _) (List.forall_mem_cons.2 ⟨rfl,(List.forall_mem_nil _)⟩))
        ·refine InvStep.lst 3 [] KC (fun L vals olds wx hLk hdeps hRl K hK2=>?_)
         simp only[Qs,setD,sS,sZ] at hK2 |-
         clear hdeps
         go_simp
         exact hK2 _ _ (hRl.pure 3 _ rfl (List.forall_mem_nil _) (List.forall_mem_cons.2 ⟨rfl,(List.forall_mem_nil _)⟩))
        ·refine InvStep.lst 4 [3] KC (fun L vals olds wx hLk hdeps hRl K hK2=>?_)
         simp only[Qs,setD,sS,sZ] at hK2 |-
         simp only[List.all_cons,List.all_nil,Bool.and_true] at hdeps
         obtain⟨hc,hn⟩:=hRl.stat 0 rfl hLk trivial rfl (List.forall_mem_nil _) rfl
         dsimp only[QR,List.take] at hc
         have e3:=(Qe (vals:=vals) (olds:=olds) hdeps).trans (hRl.val 3 rfl hdeps)
         simp only[e3] at hK2 |-
         clear e3
         subst hc
         go_simp
         refine(HANY.out _ _ (HP8.out.to bR.drew) HN4.out).mono ?_
         rintro en w9⟨⟨_,u,rfl,hg,hv⟩,hp,hb⟩
         obtain⟨lb,mn,mc,kb,jn,jc,rfl⟩:=hg.open
         dsimp only
         exact hK2 _ _ (hn _ _ ⟨u,lb,mn,mc,kb,jn,jc,rfl,hg,hv,hp,(But.refl R V8).drew.trans hb⟩)
        ·refine InvStep.lst 5 [2,4] KC (fun L vals olds wx hLk hdeps hRl K hK2=>?_)
         simp only[Qs,setD,sS,sZ] at hK2 |-
         simp only[List.all_cons,List.all_nil,Bool.and_true,Bool.and_eq_true] at hdeps
         obtain⟨hc,hn⟩:=hRl.stat 1 rfl hLk hdeps.2 rfl (List.forall_mem_nil _) rfl
         dsimp only[QR,List.take] at hc
         have e2:=(Qe (vals:=vals) (olds:=olds) hdeps.1).trans (hRl.val 2 rfl hdeps.1)
         obtain⟨u,lb,mn,mc,kb,jn,jc,e4,hg,hv,hp,hb⟩:=hc
         have es:=(Qe (vals:=vals) (olds:=olds) hdeps.2).trans e4
         simp only[e2,es] at hK2 |-
         clear es e2 e4
         go_simp
         exact hK2 _ _ (hn _ _ ⟨u,lb,mn,mc,kb,jn,jc,rfl,hg,hv,hp,hb⟩)
        ·refine InvStep.lst 6 [5] KC (fun L vals olds wx hLk hdeps hRl K hK2=>?_)
         simp only[Qs,setD,sS,sZ] at hK2 |-
         simp only[List.all_cons,List.all_nil,Bool.and_true] at hdeps
         obtain⟨hc,hn⟩:=hRl.stat 2 rfl hLk hdeps rfl (List.forall_mem_nil _) rfl
         dsimp only[QR,List.take] at hc
         obtain⟨u,lb,mn,mc,kb,jn,jc,e5,hg,hv,hp,hb⟩:=hc
         have es:=(Qe (vals:=vals) (olds:=olds) hdeps).trans e5
         simp only[es] at hK2 |-
         clear es e5
         go_simp
         obtain⟨Wa,hWa⟩:∃Wa,wx.alloc (.cells #[.string pnm,.int .i64 u.k,.int .i64 u.p,.string u.n,.int .i64 u.s,.slice lb mn mc,.slice kb jn jc] 63)=Wa:=⟨_,rfl⟩
         have hbl:=(made hWa).1
         have xx:=(made hWa).2
         rw[hWa]
         exact hK2 _ _ (hn _ _ ⟨u,lb,mn,mc,kb,jn,jc,wx.heap.size,rfl,hg.but (But.of (P:=R) hbl) (lL hR1 h78),hv,hp.to hbl,hb.to hbl,hb.size,xx⟩)
        ·refine InvStep.lst 7 [1,6] KC (fun L vals olds wx hLk hdeps hRl K hK2=>?_)
         simp only[Qs,setD,sS,sZ] at hK2 |-
         simp only[List.all_cons,List.all_nil,Bool.and_true,Bool.and_eq_true] at hdeps
         obtain⟨hc,hn⟩:=hRl.stat 3 rfl hLk hdeps.2 rfl (List.forall_mem_cons.2 ⟨hdeps.1,(List.forall_mem_nil _)⟩) rfl
         dsimp only[QR,List.take] at hc
         have e1:=(Qe (vals:=vals) (olds:=olds) hdeps.1).trans (hRl.val 1 rfl hdeps.1)
         obtain⟨u,lb,mn,mc,kb,jn,jc,nb,e6,hg,hv,hp,hb,hnb,hx4⟩:=hc
         have e6':=(Qe (vals:=vals) (olds:=olds) hdeps.2).trans e6
         have hrow:=HLPF.out _ hb
         have hpm:PmVal (fun k=>V8.heap.size<=k/\k<wx.heap.size) wx (.agg #[.string pnm,.int .i64 u.k,.int .i64 u.p,.string u.n,.int .i64 u.s,.slice lb mn mc,.slice kb jn jc]) ⟨pnm,u⟩:=⟨_,_,rfl,HPNZ.out,hg⟩
         have hone:=lyPm.one hpm
         refine Za (ops:=#[]) rfl (Zb Mo (by rfl) _ _ (by rfl) (by exact e1) hrow.row (some ⟨nb,0,none⟩) 1 1 [cl (.agg #[.string pnm,.int .i64 u.k,.int .i64 u.p,.string u.n,.int .i64 u.s,.slice lb mn mc,.slice kb jn jc])] (by exact e6') rfl (fun e he=>by rw[mS he];rfl) (JY hx4) (fun e he x hx=>hone x (by rw[mS he] at hx;exact hx)) (by have:=HVSZ.out;rw[List.length_map,List.length_singleton];omega) (lT h78 hb.size) (vp.map cl++[cl (.agg #[.string pnm,.int .i64 u.k,.int .i64 u.p,.string u.n,.int .i64 u.s,.slice lb mn mc,.slice kb jn jc])]) rfl (fun ha hn' hc' w4 hr4 hg4 hq4=>?_))
         have hgrow:=hrow.grow lyPm (x:=⟨pnm,u⟩) (lyPm.mono (fun k hk=>⟨lT h78 hk.1,hk.2,fun e=>by have:=hk.1;omega,fun e=>by have:=(HLPL.out k e.symm).2;have:=hk.1;omega⟩) hpm) hr4 hg4 hq4 (fun k hk=>by rw[hk];exact lL hl8 hb.size)
         exact hK2 _ _ (hn _ _ ⟨u,ha,hn',hc',_,rfl,hv,hp.grown hg4 HLA.out hR (fun k hk=>lT (by omega) (hrow.row.lt k hk).1),(hb.o _).trans (ButO.grown hg4 R) (fun j h=> .inl h),hgrow⟩)
        ·refine InvStep.lst 8 [] KC (fun L vals olds wx hLk hdeps hRl K hK2=>?_)
         simp only[Qs,setD,sS,sZ] at hK2 |-
         clear hdeps
         go_simp
         exact hK2 _ _ (hRl.pure 8 _ rfl (List.forall_mem_nil _) (List.forall_mem_cons.2 ⟨rfl,(List.forall_mem_nil _)⟩))
        ·refine InvStep.lst 9 [7,8] KC (fun L vals olds wx hLk hdeps hRl K hK2=>?_)
         simp only[Qs,setD,sS,sZ] at hK2 |-
         simp only[List.all_cons,List.all_nil,Bool.and_true,Bool.and_eq_true] at hdeps
         obtain⟨hc,hn⟩:=hRl.stat 4 rfl hLk hdeps.1 rfl (List.forall_mem_nil _) rfl
         dsimp only[QR,List.take] at hc
         have e8:=(Qe (vals:=vals) (olds:=olds) hdeps.2).trans (hRl.val 4 rfl hdeps.2)
         obtain⟨u,ha,hn',hc',vs',e7,hv,hp,hbo,hlr⟩:=hc
         have e7':=(Qe (vals:=vals) (olds:=olds) hdeps.1).trans e7
         have hbx:=HBXO.out _ hbo
         have cl:=(c14p hbx).1.2.1
         have fz:=(c14p hbx).2.2.1
         simp only[e7',e8] at hK2 |-
         have HH:=hid hlr
         have HPP:=hid hp
         have HBB:=hid hbo
         have HXX:=hid hbx
         clear e7 e7' e8 hlr hp hbo hbx
         go_simp
         clear cl fz
         exact hK2 undef _ (hn _ _ ⟨u,ha,hn',hc',vs',hv,HPP.out.set (by omega) HLA.out (by omega) 1 _,(HBB.out.mono (O':=Jt V1.heap.size (.slice pa ps.length pc)) (fun k _ h=> .inr h)).setC (.inl rfl) 1 _,Qd HXX.out 1 _,HH.out.frame lyPm (ButO.setC (O:=fun j=>j=V1.heap.size) (ButO.refl R _ _) rfl 1 _) hR1 (fun k hk=> .inl hk)⟩)
       case stopP=>
        refine JI [(0,some 36),(1,some 37),(2,some 38),(3,some 39),(4,some 40),(5,some 41),(6,some 42),(7,some 43),(8,some 44),(9,none)] (by kernel_rfl) (by decide) (fun L vals olds wP hall hRl=>?_)
        have hfin:=hRl.fin (by simp at hall |-;simp[hall])
        dsimp only[QR] at hfin
        clear hRl hall hHeld
        simp only[Qs,sS,sZ]
        obtain⟨s0,hs0⟩:∃s,QA L vals olds 0=s:=⟨_,rfl⟩
        rw[hs0]
        clear hs0
        obtain⟨s1,hs1⟩:∃s,QA L vals olds 1=s:=⟨_,rfl⟩
        rw[hs1]
        clear hs1
        obtain⟨s2,hs2⟩:∃s,QA L vals olds 2=s:=⟨_,rfl⟩
        rw[hs2]
        clear hs2
        obtain⟨s3,hs3⟩:∃s,QA L vals olds 3=s:=⟨_,rfl⟩
        rw[hs3]
        clear hs3
        obtain⟨s4,hs4⟩:∃s,QA L vals olds 4=s:=⟨_,rfl⟩
        rw[hs4]
        clear hs4
        obtain⟨s5,hs5⟩:∃s,QA L vals olds 5=s:=⟨_,rfl⟩
        rw[hs5]
        clear hs5
        obtain⟨s6,hs6⟩:∃s,QA L vals olds 6=s:=⟨_,rfl⟩
        rw[hs6]
        clear hs6
        obtain⟨s7,hs7⟩:∃s,QA L vals olds 7=s:=⟨_,rfl⟩
        rw[hs7]
        clear hs7
        obtain⟨s8,hs8⟩:∃s,QA L vals olds 8=s:=⟨_,rfl⟩
        rw[hs8]
        clear hs8
        obtain⟨u,ha,hn',hc',vs',hv,hp,hbo,hbx,hlr⟩:=hfin
        have hb1:But R V1 wP:=((HBa8.out.o (fun _=>False)).trans hbo (fun j hj=> .inr (by
         rcases hj with rfl|hj
         ·exact lR
         ·exact(HLPL.out j hj.symm).1))).but (fun _ _ h=>h)
        have hlP:V1.heap.size<wP.heap.size:=gl0 hbx
        have HVU:=hid hv
        have HPaP:=hid hp
        have HBaP:=hid hb1
        have HBXP:=hid hbx
        have HLPP:=hid hlr
        have HPC:Hid (Qa E (ZD Qb f) st3=Qa E (Js (Ql Qb f)) st4):=hid (by rw[(Mn E f st3).1,HST4.out])
        have HUV:Hid (∀y,Qj (ZD Qb f) st3=some y->(⟨pnm,u⟩:Pm)=y):=hid (fun y hy=>by
         obtain⟨a,b⟩:=(Mn E f st3).2 y hy
         rw[HST4.out] at b
         rw[HPNV.out _ a,HVU.out _ b])
        have hle:(Qa E (Js (Ql Qb f)) st4).len<=st4.len:=len_le E (fun _ _ _ h=>Nat.le_of_lt (HU (ZT f) _ _ _ h)) st4
        obtain⟨st5,hst5⟩:∃st5,Qa E (Js (Ql Qb f)) st4=st5:=⟨_,rfl⟩
        rw[hst5] at HPaP HPC hle
        have HLE5:=hid hle
        clear hv hp hbo hbx hlr hb1 hle hst5 HBXF HLPF HBXO HLP8 HBX8 HBa8 HP8 HLPL HVU HPNV HST4
        have hg4:=HVF.out.fuel
        obtain⟨g5,rfl⟩:∃g5,g4=g5+1:=⟨g4-1,by omega⟩
        have HG4:=hid hg4
        obtain⟨t5,ht5⟩:∃t5,Qi st5=t5:=⟨_,rfl⟩
        have HT5:=hid ht5
        clear hg4
        cases hq5:stHd QG st5 with
        |true=>
         have k0:(t5.toList==[44])=true:=by rw[<-ht5];exact Qt hq5
         have k1:(t5.toList != [44])=false:=by rw[bne,k0];rfl
         have hnl:=JQ E hq5
         have hmore:=HVF.out.more HUV.out (by rw[HPC.out];exact hq5) (by rw[HPC.out];have:=HLE5.out;have:=HL43.out;have:=HG4.out;omega)
         rw[HPC.out] at hmore
         have HMOREP:=hid hmore
         have HNLP:=hid hnl
         clear hmore hnl ht5 hq5
         have HP:=HPaP
         have HB:Hid (But R wP wP):=hid (But.refl _ _)
         go_wp2_with (first|(go_at_call 58;refine(Xz HP HB HT5.out).mono ?_;rintro _ wn⟨rfl,HP,HB⟩)|(go_at_call 59;refine(Zs HP HB).mono ?_;rintro _ wn⟨rfl,HP,HB⟩))
         rename World=>V9
         have HP9:Hid (RdIs R la all E (Qa E (need QG) st5) V9):=HP
         go_roundw
         case rel=>
          exact⟨ps++[⟨pnm,u⟩],vs',ha,hn',hc',g5,_,hid ((HB.out.block V1.heap.size hlP hRd).trans HBXP.out),hid (HLPP.out.frame lyPm (HB.out.o _) hR1 (fun k hk=> .inl hk)),HP9,hid (HBaP.out.trans HB.out),HMOREP,hid (by have a:=HLN3.out;have b:=HL43.out;have c:=HLE5.out;have d:=HNLP.out;rw[List.length_append,List.length_singleton];omega),hid (fun h=>by simp at h),hid (fun _=>HSHn.out)⟩
         case measure=>
          rw[HP9.out.lenW,HLENV3.out]
          have a:=HL43.out
          have b:=HLE5.out
          have c:=HNLP.out
          omega
        |false=>
         have k0:(t5.toList==[44])=false:=by rw[<-ht5];exact Qt hq5
         have k1:(t5.toList != [44])=true:=by rw[bne,k0];rfl
         have hlast:=HVF.out.last HUV.out (by rw[HPC.out];exact hq5)
         rw[HPC.out] at hlast
         have HEX1:Hid (Qa E (Qq (ZD Qb f) Qy f) stA=Qa E (need Qy) st5):=hid ((Xb E _ _ f HSHn.out).1.trans (congrArg (Qa E (need Qy)) hlast.1))
         have HEX2:Hid (∀y,Qj (Qq (ZD Qb f) Qy f) stA=some y->ps++[⟨pnm,u⟩]=y):=hid (fun y hy=>(hlast.2 y ((Xb E _ _ f HSHn.out).2 y hy)).symm)
         clear hlast ht5 hq5
         have HP:=HPaP
         have HB:Hid (But R wP wP):=hid (But.refl _ _)
         go_wp2_with (go_at_call 58;refine(Xz HP HB HT5.out).mono ?_;rintro _ wn⟨rfl,HP,HB⟩)
         rename World=>V9
         go_meet
         case rel=>exact⟨ps++[⟨pnm,u⟩],vs',ha,hn',hc',st5,hid ((HB.out.block V1.heap.size hlP hRd).trans HBXP.out),hid (HLPP.out.frame lyPm (HB.out.o _) hR1 (fun k hk=> .inl hk)),HP,hid (HBaP.out.trans HB.out),HEX1,HEX2,hid (by have a:=HLN3.out;have b:=HLA6.out;rw[List.length_append,List.length_singleton];omega),hid (by have a:=HLN3.out;have b:=HL43.out;have c:=HLE5.out;omega)⟩
   case rest=>
    obtain⟨ps,vp,pa,pn,pc,stB,HBX,HLP,HPB,HBB,HEX1,HEX2,HPN,HLB⟩:=hcut
    rename World=>V9
    clear HP5 HBI HD5
    have HP:=HPB
    have HB:Hid (But R V9 V9):=hid (But.refl _ _)
    go_upto_region 13 with(go_at_call 59;refine(Zs HP HB).mono ?_;rintro _ wn⟨rfl,HP,HB⟩)
    go_upto_region 14 with(go_at_call 59;refine(Zs HP HB).mono ?_;rintro _ wn⟨rfl,HP,HB⟩)
    obtain⟨stC,hstC⟩:∃s,Qa E (need sEq) (Qa E (need Qy) stB)=s:=⟨_,rfl⟩
    have HPC:Hid (RdIs R la all E stC wn):=hid (by rw[<-hstC];exact HP.out)
    have HLC:Hid (stC.len<=stB.len):=hid (by rw[<-hstC];exact lT (Jr E sEq _) (Jr E Qy stB))
    have HSTC:=hid hstC
    have HLA2:Hid (stA.len<=st2.len):=hid (by rw[<-HSTA.out];exact lT (Jr E QI _) (Xa E st2))
    have HF5:Hid (2*stC.len<=f):=hid (by have a:=HLC.out;have b:=HLB.out;have c:=HLA2.out;have d:=HNL.out;have e:=HLN.out;have g:=HF.out;omega)
    have hl9:V1.heap.size<V9.heap.size:=gl0 HBX.out
    have hl10:V1.heap.size<wn.heap.size:=lL hl9 HB.out.size
    have HBX2:=hid ((HB.out.block V1.heap.size hl9 hRd).trans HBX.out)
    have HLP2:Hid (LRow 63 7 V1.heap.size PmVal (fun j=>j=V1.heap.size) wn (.slice pa pn pc) vp (ps)):=hid (HLP.out.frame lyPm (HB.out.o _) hR1 (fun k hk=> .inl hk))
    have HBB2:Hid (But R V1 wn):=hid (HBB.out.trans HB.out)
    clear hstC HP HB HBX HLP HBB HPB
    go_upto_region 15 with(go_at_call 33;refine(Ko R la all E HALL.out f _ _ HPC.out HF5.out).mono ?_;rintro _ wv⟨⟨_,p,rfl,⟨hg,hk⟩,hv⟩,hp,hb⟩;obtain⟨qa,qn,qc,aa,an,ac,ta,tn,tc,ba,bn,bc,ka,kn,kc,rfl⟩:=PrVal.open hg;have hx:=(hb.block V1.heap.size hl10 hRd).trans HBX2.out;obtain⟨⟨d0,d1,d2,d3,d4,d5,d6,d7,d8,d9,d10,d11,d12,d13⟩,e0,e1,e2,e3,e4,e5,e6,e7,e8,e9,e10,e11,e12,e13⟩:=c14p hx;have HX5:=hid hx;have HGp:=hid hg;have HVp:=hid hv;have HPp:=hid hp;have HBp:=hid hb;clear hg hk hv hp hb hx)
    obtain⟨W6,hW6⟩:∃W,((((((((((((wv.setCell ⟨V1.heap.size,2,none⟩ (.int .i64 p.k)).setCell ⟨V1.heap.size,3,none⟩ (.string p.c)).setCell ⟨V1.heap.size,4,none⟩ (.string p.x)).setCell ⟨V1.heap.size,5,none⟩ (.slice qa qn qc)).setCell ⟨V1.heap.size,6,none⟩ (.slice aa an ac)).setCell ⟨V1.heap.size,7,none⟩ (.int .i64 p.t.k)).setCell ⟨V1.heap.size,8,none⟩ (.int .i64 p.t.p)).setCell ⟨V1.heap.size,9,none⟩ (.string p.t.n)).setCell ⟨V1.heap.size,10,none⟩ (.int .i64 p.t.s)).setCell ⟨V1.heap.size,11,none⟩ (.slice ta tn tc)).setCell ⟨V1.heap.size,12,none⟩ (.slice ba bn bc)).setCell ⟨V1.heap.size,13,none⟩ (.slice ka kn kc))=W:=⟨_,rfl⟩
    rw[hW6]
    have hsz:=HBp.out.size
    have hk6:But V1.heap.size wv W6:=by rw[<-hW6];exact Se wv V1.heap.size (.int .i64 p.k) (.string p.c) (.string p.x) (.slice qa qn qc) (.slice aa an ac) (.int .i64 p.t.k) (.int .i64 p.t.p) (.string p.t.n) (.int .i64 p.t.s) (.slice ta tn tc) (.slice ba bn bc) (.slice ka kn kc)
    have hoth:∀k,k≠V1.heap.size->W6.heap[k]? =wv.heap[k]? :=by rw[<-hW6];exact fun k hk=>Sd hk (.int .i64 p.k) (.string p.c) (.string p.x) (.slice qa qn qc) (.slice aa an ac) (.int .i64 p.t.k) (.int .i64 p.t.p) (.string p.t.n) (.int .i64 p.t.s) (.slice ta tn tc) (.slice ba bn bc) (.slice ka kn kc)
    have hsz6:W6.heap.size=wv.heap.size:=by rw[<-hW6];exact Tp wv V1.heap.size (.int .i64 p.k) (.string p.c) (.string p.x) (.slice qa qn qc) (.slice aa an ac) (.int .i64 p.t.k) (.int .i64 p.t.p) (.string p.t.n) (.int .i64 p.t.s) (.slice ta tn tc) (.slice ba bn bc) (.slice ka kn kc)
    have HD6:Hid (Blk W6 V1.heap.size #[.string nm,.slice pa pn pc,.int .i64 p.k,.string p.c,.string p.x,.slice qa qn qc,.slice aa an ac,.int .i64 p.t.k,.int .i64 p.t.p,.string p.t.n,.int .i64 p.t.s,.slice ta tn tc,.slice ba bn bc,.slice ka kn kc] 61):=hid (by rw[<-hW6];exact fillD HX5.out (.int .i64 p.k) (.string p.c) (.string p.x) (.slice qa qn qc) (.slice aa an ac) (.int .i64 p.t.k) (.int .i64 p.t.p) (.string p.t.n) (.int .i64 p.t.s) (.slice ta tn tc) (.slice ba bn bc) (.slice ka kn kc))
    clear hW6 d0 d1 d2 d3 d4 d5 d6 d7 d8 d9 d10 d11 d12 d13 e0 e1 e2 e3 e4 e5 e6 e7 e8 e9 e10 e11 e12 e13
    have hko:ButO R (fun j=>j=V1.heap.size) wv W6:=⟨hk6.os,hk6.tape,hk6.output,hk6.size,fun k h1 _ h3=>hoth k h3⟩
    have HP6:Hid (RdIs R la all E (Qa E (QT Qb f) stC) W6):=hid (HPp.out.oth (X:=V1.heap.size) hoth hsz6 hR1 (HLA.out.mono (by omega)))
    have HB6:Hid (But R V1 W6):=hid (by
     have hb:=HBB2.out.trans HBp.out
     exact⟨hk6.os.trans hb.os,hk6.tape.trans hb.tape,hk6.output.trans hb.output,lT hb.size hk6.size,fun k h1 h2=>(hoth k (by omega)).trans (hb.block k h1 h2)⟩)
    have HLP6:Hid (LRow 63 7 V1.heap.size PmVal (fun j=>j=V1.heap.size) W6 (.slice pa pn pc) vp (ps)):=hid ((HLP2.out.frame lyPm (HBp.out.o _) hR1 (fun k hk=> .inl hk)).frame lyPm hko hR1 (fun k hk=> .inl hk))
    have HG6:Hid (GPr wn.heap.size W6 p (.agg (gP p qa qn qc aa an ac ta tn tc ba bn bc ka kn kc))):=hid (GPr.but HGp.out hk6 hl10)
    clear hk6 hko hoth hsz6 HGp HPp HBp HX5 HLP2 HBX2 HBB2 HPC
    have HP:=HP6
    have HB:Hid (But R W6 W6):=hid (But.refl _ _)
    go_upto_region 16 with(go_at_call 59;refine(Zs HP HB).mono ?_;rintro _ wn⟨rfl,HP,HB⟩)
    rename World=>VA
    have HPA:Hid (RdIs R la all E (Qa E (need Up) (Qa E (QT Qb f) stC)) VA):=HP
    have hb0A:But R V0 VA:=(HB1.out.trans HB6.out).trans HB.out
    have HB0A:=hid hb0A
    have hXO:w.heap.size+1<V0.heap.size:=gl0 HOUT.out
    have HOA:=hid ((hb0A.block (w.heap.size+1) hXO (by omega)).trans HOUT.out)
    have HZA:=hid ((hb0A.block w.heap.size (gl0 HZ0.out) (by omega)).trans HZ0.out)
    have hR3:R<W3.heap.size:=by omega
    have HLDA:Hid (LRow 61 14 W3.heap.size DfVal (fun j=>j=w.heap.size+1) VA (.slice da dn dc) vs (ds)):=hid (HLD.out.frame lyDf (hb0A.o _) hR3 (fun k hk=> .inl hk))
    have hA6:=HB.out.size
    have hA0:=hb0A.size
    have hlA:V1.heap.size<VA.heap.size:=lL (gl0 HD6.out) hA6
    have HDA:=hid ((HB.out.block V1.heap.size (gl0 HD6.out) hRd).trans HD6.out)
    have hdl:∀k,(Value.slice da dn dc).ownBlock=some k->W3.heap.size<=k/\k<V0.heap.size:=fun k hk=>HLD.out.row.lt k hk
    have HDLO:=hid hdl
    have hpm:=(HLP6.out.frame lyPm (HB.out.o _) hR1 (O':=fun j=>j=V1.heap.size) (fun k hk=> .inl hk)).pms (by have:=HPN.out;unfold maxLen;omega)
    have hpr:=GPr.but HG6.out HB.out (by omega)
    obtain⟨VB,hVB⟩:∃W,VA.alloc (.cells #[.string nm,.slice pa pn pc,.int .i64 p.k,.string p.c,.string p.x,.slice qa qn qc,.slice aa an ac,.int .i64 p.t.k,.int .i64 p.t.p,.string p.t.n,.int .i64 p.t.s,.slice ta tn tc,.slice ba bn bc,.slice ka kn kc] 61)=W:=⟨_,rfl⟩
    have hbB:=(made hVB).1
    have xB:=(made hVB).2
    have HVB:=hid hVB
    have HBB:=hid hbB
    have HXB:=hid xB
    have hBA:=hbB.size
    have HRW:Hid (LRow 61 14 W3.heap.size DfVal (fun j=>j=w.heap.size+1) VB (.slice da dn dc) vs (ds)):=hid (HLDA.out.frame lyDf ((But.of (P:=R) hbB).o _) hR3 (fun k hk=> .inl hk))
    have HDV:Hid (DfVal (fun k=>W3.heap.size<=k/\k<VB.heap.size/\¬k=w.heap.size+1/\some k≠(Value.slice da dn dc).ownBlock) VB (.agg #[.string nm,.slice pa pn pc,.int .i64 p.k,.string p.c,.string p.x,.slice qa qn qc,.slice aa an ac,.int .i64 p.t.k,.int .i64 p.t.p,.string p.t.n,.int .i64 p.t.s,.slice ta tn tc,.slice ba bn bc,.slice ka kn kc]) ⟨nm,ps,p⟩):=hid (by
     have hk:∀k,V1.heap.size<=k/\k<VA.heap.size->W3.heap.size<=k/\k<VB.heap.size/\¬k=w.heap.size+1/\some k≠(Value.slice da dn dc).ownBlock:=fun k hk=>⟨by omega,by omega,by omega,fun e=>by have:=(hdl k e.symm).2;omega⟩
     refine lyDf.mono hk (lyDf.keep (w:=VA) ?_ ⟨_,_,_,_,_,_,rfl,HNZ.out,PmSl.mono (fun k h=>⟨h.1,h.2.1⟩) hpm,PrVal.mono (fun k h=>⟨by omega,h.2⟩) hpr⟩)
     exact fun k o hj ho _=>(hbB.block k hj.2).trans ho)
    clear hVB hbB xB hpm hpr hdl hb0A
    have cl0:=(c13p HOA.out).1.1
    obtain⟨⟨d0,d1,d2,d3,d4,d5,d6,d7,d8,d9,d10,d11,d12,d13⟩,-⟩:=c14p HDA.out
    have HST:Hid (Qa E (pdef Qb f) st2=Qa E (need Up) (Qa E (QT Qb f) stC)):=hid (by rw[(FE E f st2).1,(Vz E f _).1,HSTA.out,HEX1.out,HSTC.out])
    have HDV2:Hid (∀y,Qj (pdef Qb f) st2=some y->(⟨nm,ps,p⟩:Df)=y):=hid (fun y hy=>by
     obtain⟨a,b,c⟩:=(FE E f st2).2 y hy
     rw[HSTA.out] at b c
     rw[HEX1.out] at c
     have d:=(Vz E f _).2 _ c
     rw[HSTC.out] at d
     rw[HNV.out _ a,HEX2.out _ b,HVp.out _ d])
    have hlp:(Qa E (QT Qb f) stC).len<=stC.len:=len_le E (fun _ _ _ h=>Nat.le_of_lt (Uw f _ _ _ h)) stC
    have HLE:Hid ((Qa E (need Up) (Qa E (QT Qb f) stC)).len<=st2.len):=hid (by have a:=Jr E Up (Qa E (QT Qb f) stC);have b:=HLC.out;have c:=HLB.out;have d:=HLA2.out;omega)
    have hmore:=HMORE.out _ HDV2.out (by rw[HST.out];have:=HLE.out;have:=HNL.out;have:=HFU.out;omega)
    rw[HST.out] at hmore
    have HMR:=hid hmore
    clear hmore hlp
    go_wp2_with (rw[show VA.alloc (.cells #[.string nm,.slice pa pn pc,.int .i64 p.k,.string p.c,.string p.x,.slice qa qn qc,.slice aa an ac,.int .i64 p.t.k,.int .i64 p.t.p,.string p.t.n,.int .i64 p.t.s,.slice ta tn tc,.slice ba bn bc,.slice ka kn kc] 61)=VB from HVB.out];at_builtin;refine Ji FF rfl _ _ rfl rfl HRW.out.row (some ⟨VA.heap.size,0,none⟩) 1 1 [[.string nm,.slice pa pn pc,.int .i64 p.k,.string p.c,.string p.x,.slice qa qn qc,.slice aa an ac,.int .i64 p.t.k,.int .i64 p.t.p,.string p.t.n,.int .i64 p.t.s,.slice ta tn tc,.slice ba bn bc,.slice ka kn kc]] rfl rfl ?_ (JY HXB.out) ?_ ?_ (by omega) ?_)
    ·intro e he;rw[mS he];rfl
    ·intro e he u hu;rw[mS he] at hu;exact lyDf.one HDV.out u hu
    ·rw[List.length_map,List.length_singleton,HRW.out.len];have:=HLN.out;have:=HLN0.out;omega
    intro ha hn' hc' w6 hr6 hg6 hq6
    have hrow6:=HRW.out.grow lyDf HDV.out hr6 hg6 hq6 (fun k hk=>by rw[hk];omega)
    have HR6:=hid hrow6
    have hO6:=(hg6.block (w.heap.size+1) (by omega) (fun e=>by have:=(HDLO.out _ e.symm).1;omega)).trans ((HBB.out.block (w.heap.size+1) (by omega)).trans HOA.out)
    have hZ6:=(hg6.block w.heap.size (by omega) (fun e=>by have:=(HDLO.out _ e.symm).1;omega)).trans ((HBB.out.block w.heap.size (by omega)).trans HZA.out)
    have HO6:=hid hO6
    have HZ6:=hid hZ6
    have HP6b:Hid (RdIs R la all E (Qa E (need Up) (Qa E (QT Qb f) stC)) w6):=hid ((HPA.out.to HBB.out).grown hg6 HLA.out hR (fun k hk=>by have:=(HDLO.out k hk).1;omega))
    have HBO6:Hid (But R w w6):=hid (((((HBa.out.trans HB0A.out).to HBB.out).o (fun _=>False)).trans (ButO.grown hg6 R) (fun k hk=> .inr (by have:=(HDLO.out k hk.symm).1;omega))).but (fun _ _ h=>h))
    have h6s:=hg6.size
    have clo:=(c13p hO6).1.1
    have fzo:=(c13p hO6).2.1
    clear hr6 hg6 hq6 hrow6 hO6 hZ6
    go_wp2_with fail
    go_roundw
    case rel=>exact⟨ds++[⟨nm,ps,p⟩],_,ha,hn',hc',g3,_,hid (Qd HO6.out 0 _),hid (HR6.out.frame lyDf (ButO.setC (O:=fun j=>j=w.heap.size+1) (ButO.refl R _ _) rfl 0 _) hR3 (fun k hk=> .inl hk)),hid (HP6b.out.set (X:=w.heap.size+1) (by omega) HLA.out (by omega) 0 _),hid (HBO6.out.setX (by omega) 0 _),HMR,hid (by have a:=HLE.out;have b:=HNL.out;have c:=HLN.out;rw[List.length_append,List.length_singleton];omega),hid (by simp only[World.setCell];have:=HR6.out;simp;omega),hid ((oth1 _ _ _ (by omega)).trans HZ6.out)⟩
    case measure=>
     rw[(HP6b.out.set (X:=w.heap.size+1) (by omega) HLA.out (by omega) 0 _).lenW,HLENV.out]
     have a:=HLE.out
     have b:=HNL.out
     omega
  |false=>
   have k0:(t1.toList==[100,101,102])=false:=by rw[<-ht1];exact Qt hq
   have hlast:=HDL.out.last hq
   have HEND:=hid hlast.1
   have HVL:=hid hlast.2
   clear hlast ht1 hq hfu
   have HP:=HPa
   have HB:Hid (But R V0 V0):=hid (But.refl _ _)
   go_upto_region 17 with(go_at_call 58;refine(Xz HP HB HT1.out).mono ?_;rintro _ wn⟨rfl,HP,HB⟩)
   go_upto_region 18 with(go_at_call 59;refine(Zs HP HB).mono ?_;rintro _ wn⟨rfl,HP,HB⟩)
   go_upto_region 19 with(go_at_call 59;refine(Zs HP HB).mono ?_;rintro _ wn⟨rfl,HP,HB⟩)
   obtain⟨stC,hstC⟩:∃s,Qa E (need sEq) (Qa E (need KB) st1)=s:=⟨_,rfl⟩
   have HPC:Hid (RdIs R la all E stC wn):=hid (by rw[<-hstC];exact HP.out)
   have HF5:Hid (2*stC.len<=f):=hid (by rw[<-hstC];have a:=Jr E sEq (Qa E (need KB) st1);have b:=Jr E KB st1;have e:=HLN.out;have g:=HF.out;omega)
   have HSTC:=hid hstC
   have hXO:w.heap.size+1<V0.heap.size:=gl0 HOUT.out
   have hXR:w.heap.size+1≠R:=by omega
   have hWR:w.heap.size≠R:=by omega
   have hR3:R<W3.heap.size:=by omega
   have hsn:=HB.out.size
   have HO2:=hid ((HB.out.block (w.heap.size+1) hXO hXR).trans HOUT.out)
   have HZ2:=hid ((HB.out.block w.heap.size (gl0 HZ0.out) hWR).trans HZ0.out)
   have HLD2:Hid (LRow 61 14 W3.heap.size DfVal (fun j=>j=w.heap.size+1) wn (.slice da dn dc) vs (ds)):=hid (HLD.out.frame lyDf (HB.out.o _) hR3 (fun k hk=> .inl hk))
   have HBB2:Hid (But R w wn):=hid (HBa.out.trans HB.out)
   clear hstC HP HB HOUT HZ0 HLD HBa HPa k0
   go_upto_region 20 with(go_at_call 33;refine(Ko R la all E HALL.out f _ _ HPC.out HF5.out).mono ?_;rintro _ wv⟨⟨_,p,rfl,⟨hg,hk⟩,hv⟩,hp,hb⟩;obtain⟨qa,qn,qc,aa,an,ac,ta,tn,tc,ba,bn,bc,ka,kn,kc,rfl⟩:=PrVal.open hg;have hx:=(hb.block (w.heap.size+1) (by omega) hXR).trans HO2.out;obtain⟨⟨d0,d1,d2,d3,d4,d5,d6,d7,d8,d9,d10,d11,d12⟩,e0,e1,e2,e3,e4,e5,e6,e7,e8,e9,e10,e11,e12⟩:=c13p hx;have HX5:=hid hx;have HGp:=hid hg;have HVp:=hid hv;have HPp:=hid hp;have HBp:=hid hb;clear hg hk hv hp hb hx)
   obtain⟨W6,hW6⟩:∃W,((((((((((((wv.setCell ⟨w.heap.size+1,1,none⟩ (.int .i64 p.k)).setCell ⟨w.heap.size+1,2,none⟩ (.string p.c)).setCell ⟨w.heap.size+1,3,none⟩ (.string p.x)).setCell ⟨w.heap.size+1,4,none⟩ (.slice qa qn qc)).setCell ⟨w.heap.size+1,5,none⟩ (.slice aa an ac)).setCell ⟨w.heap.size+1,6,none⟩ (.int .i64 p.t.k)).setCell ⟨w.heap.size+1,7,none⟩ (.int .i64 p.t.p)).setCell ⟨w.heap.size+1,8,none⟩ (.string p.t.n)).setCell ⟨w.heap.size+1,9,none⟩ (.int .i64 p.t.s)).setCell ⟨w.heap.size+1,10,none⟩ (.slice ta tn tc)).setCell ⟨w.heap.size+1,11,none⟩ (.slice ba bn bc)).setCell ⟨w.heap.size+1,12,none⟩ (.slice ka kn kc))=W:=⟨_,rfl⟩
   rw[hW6]
   have hsz:=HBp.out.size
   have hk6:But (w.heap.size+1) wv W6:=by rw[<-hW6];exact Sc wv (w.heap.size+1) (.int .i64 p.k) (.string p.c) (.string p.x) (.slice qa qn qc) (.slice aa an ac) (.int .i64 p.t.k) (.int .i64 p.t.p) (.string p.t.n) (.int .i64 p.t.s) (.slice ta tn tc) (.slice ba bn bc) (.slice ka kn kc)
   have hoth:∀k,k≠w.heap.size+1->W6.heap[k]? =wv.heap[k]? :=by rw[<-hW6];exact fun k hk=>Sb hk (.int .i64 p.k) (.string p.c) (.string p.x) (.slice qa qn qc) (.slice aa an ac) (.int .i64 p.t.k) (.int .i64 p.t.p) (.string p.t.n) (.int .i64 p.t.s) (.slice ta tn tc) (.slice ba bn bc) (.slice ka kn kc)
   have hsz6:W6.heap.size=wv.heap.size:=by rw[<-hW6];exact To wv (w.heap.size+1) (.int .i64 p.k) (.string p.c) (.string p.x) (.slice qa qn qc) (.slice aa an ac) (.int .i64 p.t.k) (.int .i64 p.t.p) (.string p.t.n) (.int .i64 p.t.s) (.slice ta tn tc) (.slice ba bn bc) (.slice ka kn kc)
   have HD6:Hid (Blk W6 (w.heap.size+1) #[.slice da dn dc,.int .i64 p.k,.string p.c,.string p.x,.slice qa qn qc,.slice aa an ac,.int .i64 p.t.k,.int .i64 p.t.p,.string p.t.n,.int .i64 p.t.s,.slice ta tn tc,.slice ba bn bc,.slice ka kn kc] 33):=hid (by rw[<-hW6];exact fillE HX5.out (.int .i64 p.k) (.string p.c) (.string p.x) (.slice qa qn qc) (.slice aa an ac) (.int .i64 p.t.k) (.int .i64 p.t.p) (.string p.t.n) (.int .i64 p.t.s) (.slice ta tn tc) (.slice ba bn bc) (.slice ka kn kc))
   clear hW6 d0 d1 d2 d3 d4 d5 d6 d7 d8 d9 d10 d11 d12 e0 e1 e2 e3 e4 e5 e6 e7 e8 e9 e10 e11 e12
   have hko:ButO R (fun j=>j=w.heap.size+1) wv W6:=⟨hk6.os,hk6.tape,hk6.output,hk6.size,fun k h1 _ h3=>hoth k h3⟩
   have HP6:Hid (RdIs R la all E (Qa E (QT Qb f) stC) W6):=hid (HPp.out.oth (X:=w.heap.size+1) hoth hsz6 (by omega) (HLA.out.mono (by omega)))
   have HB6:Hid (But R w W6):=hid (by
    have hb:=HBB2.out.trans HBp.out
    exact⟨hk6.os.trans hb.os,hk6.tape.trans hb.tape,hk6.output.trans hb.output,lT hb.size hk6.size,fun k h1 h2=>(hoth k (by omega)).trans (hb.block k h1 h2)⟩)
   have HLD6:Hid (LRow 61 14 W3.heap.size DfVal (fun j=>j=w.heap.size+1) W6 (.slice da dn dc) vs (ds)):=hid ((HLD2.out.frame lyDf (HBp.out.o _) hR3 (fun k hk=> .inl hk)).frame lyDf hko hR3 (fun k hk=> .inl hk))
   have HZ6:=hid ((hoth w.heap.size (by omega)).trans ((HBp.out.block w.heap.size (by omega) hWR).trans HZ2.out))
   have HG6:Hid (GPr wn.heap.size W6 p (.agg (gP p qa qn qc aa an ac ta tn tc ba bn bc ka kn kc))):=hid (GPr.but HGp.out hk6 (by omega))
   clear hk6 hko hoth HGp HPp HBp HX5 HLD2 HBB2 HPC HZ2 HO2
   have HP:=HP6
   have HB:Hid (But R W6 W6):=hid (But.refl _ _)
   have hs6:wn.heap.size<=W6.heap.size:=by omega
   go_upto_region 21 with(go_at_call 59;refine(Zs HP HB).mono ?_;rintro _ wn⟨rfl,HP,HB⟩)
   rename World=>VA
   have hsA:=HB.out.size
   have HDA:=hid ((HB.out.block (w.heap.size+1) (gl0 HD6.out) hXR).trans HD6.out)
   have HZA:=hid ((HB.out.block w.heap.size (gl0 HZ6.out) hWR).trans HZ6.out)
   have HPA:Hid (RdIs R la all E (Qa E (need Up) (Qa E (QT Qb f) stC)) VA):=HP
   have HBA:Hid (But R w VA):=hid (HB6.out.trans HB.out)
   have HDS:Hid (DfSl (fun k=>W3.heap.size<=k/\k<VA.heap.size) VA (.slice da dn dc) ds):=hid (DfSl.mono (fun k hk=>⟨hk.1,hk.2.1⟩) ((HLD6.out.frame lyDf (HB.out.o _) hR3 (O':=fun _=>False) (fun _ h=>h.elim)).dfs (by have:=HLN.out;have:=HLN0.out;unfold maxLen;omega)))
   have HGA:=hid (GPr.but HG6.out HB.out (by omega))
   obtain⟨⟨d0,d1,d2,d3,d4,d5,d6,d7,d8,d9,d10,d11,d12⟩,-⟩:=c13p HDA.out
   obtain⟨⟨q0,q1,q2,q3,q4,q5,q6,q7,q8,q9,q10,q11,q12⟩,z0,z1,z2,z3,z4,z5,z6,z7,z8,z9,z10,z11,z12⟩:=c13p HZA.out
   go_wp2_with fail
   have hx8:=UC HZA.out (.slice da dn dc) (.int .i64 p.k) (.string p.c) (.string p.x) (.slice qa qn qc) (.slice aa an ac) (.int .i64 p.t.k) (.int .i64 p.t.p) (.string p.t.n) (.int .i64 p.t.s) (.slice ta tn tc) (.slice ba bn bc) (.slice ka kn kc)
   obtain⟨⟨y0,y1,y2,y3,y4,y5,y6,y7,y8,y9,y10,y11,y12⟩,-⟩:=c13p hx8
   refine bodyPost_ret (v:= .agg #[.slice da dn dc,.int .i64 p.k,.string p.c,.string p.x,.slice qa qn qc,.slice aa an ac,.int .i64 p.t.k,.int .i64 p.t.p,.string p.t.n,.int .i64 p.t.s,.slice ta tn tc,.slice ba bn bc,.slice ka kn kc]) (by simp[results,Tryz.results27,go_sem,y0,y1,y2,y3,y4,y5,y6,y7,y8,y9,y10,y11,y12]) rfl ?_
   have hgood:GPg W3.heap.size VA ⟨ds,p⟩ (.agg #[.slice da dn dc,.int .i64 p.k,.string p.c,.string p.x,.slice qa qn qc,.slice aa an ac,.int .i64 p.t.k,.int .i64 p.t.p,.string p.t.n,.int .i64 p.t.s,.slice ta tn tc,.slice ba bn bc,.slice ka kn kc]):=⟨_,_,_,_,_,_,rfl,HDS.out,PrVal.mono (fun k h=>⟨by omega,h.2⟩) HGA.out⟩
   have hst:Qa E (YW Qb f) (Qa E (need KB) (Qa E (Zk Qb f f) st))=Qa E (need Up) (Qa E (QT Qb f) stC):=by rw[HEND.out,(Vz E f _).1,HSTC.out]
   have hval:∀y,Qj (Yq Qb f) st=some y->(⟨ds,p⟩:Pg)=y:=fun y hy=>by
    obtain⟨a,b⟩:=HE.out y hy
    rw[HEND.out] at b
    have d:=(Vz E f _).2 _ b
    rw[HSTC.out] at d
    rw[<-HVL.out _ a,HVp.out _ d]
   have hs13:w.heap.size<W3.heap.size:=by omega
   refine⟨⟨_,⟨ds,p⟩,rfl,PgVal.mono (fun k hk=>⟨lT (Nat.le_of_lt hs13) hk.1,by rw[Zw];exact hk.2⟩) (PgVal.keep (Gd hs13 (.slice da dn dc) (.int .i64 p.k) (.string p.c) (.string p.x) (.slice qa qn qc) (.slice aa an ac) (.int .i64 p.t.k) (.int .i64 p.t.p) (.string p.t.n) (.int .i64 p.t.s) (.slice ta tn tc) (.slice ba bn bc) (.slice ka kn kc)) hgood),hval⟩,?_,HBA.out.put13 lR (.slice da dn dc) (.int .i64 p.k) (.string p.c) (.string p.x) (.slice qa qn qc) (.slice aa an ac) (.int .i64 p.t.k) (.int .i64 p.t.p) (.string p.t.n) (.int .i64 p.t.s) (.slice ta tn tc) (.slice ba bn bc) (.slice ka kn kc)⟩
   rw[hst]
   exact HPA.out.oth (X:=w.heap.size) (fun j hj=>ZH hj (.slice da dn dc) (.int .i64 p.k) (.string p.c) (.string p.x) (.slice qa qn qc) (.slice aa an ac) (.int .i64 p.t.k) (.int .i64 p.t.p) (.string p.t.n) (.int .i64 p.t.s) (.slice ta tn tc) (.slice ba bn bc) (.slice ka kn kc)) (Zw _ _ (.slice da dn dc) (.int .i64 p.k) (.string p.c) (.string p.x) (.slice qa qn qc) (.slice aa an ac) (.int .i64 p.t.k) (.int .i64 p.t.p) (.string p.t.n) (.int .i64 p.t.s) (.slice ta tn tc) (.slice ba bn bc) (.slice ka kn kc)) hR HLA.out
end Go.Proofs.YtmnbheplkidfaaaGreatDoor
namespace Go.Proofs.YtmnbheplkidfaaaGreatDoor
open Go.Lib (hid)
open Go.RowKit Go.Deep Go.Shelf
theorem GPg.but{b P:Nat}{w w':World}{g:Pg}{v:Value}(h:GPg b w g v)(hb:But P w w')(hP:P<b):GPg b w' g v:=
 (PgVal.keep (fun k _ hk ho _=>(hb.block k hk.2 (by have:=hk.1;omega)).trans ho) h).mono (fun _ hk=>⟨hk.1,lL hk.2 hb.size⟩)
theorem GPg.mono{b c:Nat}{w:World}{g:Pg}{v:Value}(h:GPg b w g v)(hc:c<=b):GPg c w g v:=PgVal.mono (fun _ hk=>⟨lT hc hk.1,hk.2⟩) h
theorem GPg.put13{c X:Nat}{w:World}{g:Pg}{v:Value}(h:GPg c w g v)(hX:X<c)(v0 v1 v2 v3 v4 v5 v6 v7 v8 v9 v10 v11 v12:Value):GPg c (put13 w X v0 v1 v2 v3 v4 v5 v6 v7 v8 v9 v10 v11 v12) g v:=
 PgVal.mono (fun _ hk=>⟨hk.1,by rw[Zw];exact hk.2⟩) (PgVal.keep (Gd hX v0 v1 v2 v3 v4 v5 v6 v7 v8 v9 v10 v11 v12) h)
theorem y13{w:World}{X:Nat}{T:TypeId}{v0 v1 v2 v3 v4 v5 v6 v7 v8 v9 v10 v11 v12:Value}(h:Hid (w.heap[X]? =some (.cells #[v0,v1,v2,v3,v4,v5,v6,v7,v8,v9,v10,v11,v12] T (0,0))))(u0 u1 u2 u3 u4 u5 u6 u7 u8 u9 u10 u11 u12:Value):(put13 w X u0 u1 u2 u3 u4 u5 u6 u7 u8 u9 u10 u11 u12).cell? ⟨X,0,none⟩=some u0/\(put13 w X u0 u1 u2 u3 u4 u5 u6 u7 u8 u9 u10 u11 u12).cell? ⟨X,1,none⟩=some u1/\(put13 w X u0 u1 u2 u3 u4 u5 u6 u7 u8 u9 u10 u11 u12).cell? ⟨X,2,none⟩=some u2/\(put13 w X u0 u1 u2 u3 u4 u5 u6 u7 u8 u9 u10 u11 u12).cell? ⟨X,3,none⟩=some u3/\(put13 w X u0 u1 u2 u3 u4 u5 u6 u7 u8 u9 u10 u11 u12).cell? ⟨X,4,none⟩=some u4/\(put13 w X u0 u1 u2 u3 u4 u5 u6 u7 u8 u9 u10 u11 u12).cell? ⟨X,5,none⟩=some u5/\(put13 w X u0 u1 u2 u3 u4 u5 u6 u7 u8 u9 u10 u11 u12).cell? ⟨X,6,none⟩=some u6/\(put13 w X u0 u1 u2 u3 u4 u5 u6 u7 u8 u9 u10 u11 u12).cell? ⟨X,7,none⟩=some u7/\(put13 w X u0 u1 u2 u3 u4 u5 u6 u7 u8 u9 u10 u11 u12).cell? ⟨X,8,none⟩=some u8/\(put13 w X u0 u1 u2 u3 u4 u5 u6 u7 u8 u9 u10 u11 u12).cell? ⟨X,9,none⟩=some u9/\(put13 w X u0 u1 u2 u3 u4 u5 u6 u7 u8 u9 u10 u11 u12).cell? ⟨X,10,none⟩=some u10/\(put13 w X u0 u1 u2 u3 u4 u5 u6 u7 u8 u9 u10 u11 u12).cell? ⟨X,11,none⟩=some u11/\(put13 w X u0 u1 u2 u3 u4 u5 u6 u7 u8 u9 u10 u11 u12).cell? ⟨X,12,none⟩=some u12:=(c13p (UC h.out u0 u1 u2 u3 u4 u5 u6 u7 u8 u9 u10 u11 u12)).1
theorem XU{w w':World}{X:Nat}(h:Below w.heap.size w w')(hX:w.heap.size<=X)(u0 u1 u2 u3 u4 u5 u6 u7 u8 u9 u10 u11 u12:Value):Below w.heap.size w (put13 w' X u0 u1 u2 u3 u4 u5 u6 u7 u8 u9 u10 u11 u12):=(((((((((((((h.setX hX 0 u0).setX hX 1 u1).setX hX 2 u2).setX hX 3 u3).setX hX 4 u4).setX hX 5 u5).setX hX 6 u6).setX hX 7 u7).setX hX 8 u8).setX hX 9 u9).setX hX 10 u10).setX hX 11 u11).setX hX 12 u12)
theorem Me{w:World}{X:Nat}{T:TypeId}{v0 v1 v2 v3 v4 v5 v6 v7 v8 v9 v10 v11 v12:Value}(h:w.heap[X]? =some (.cells #[v0,v1,v2,v3,v4,v5,v6,v7,v8,v9,v10,v11,v12] T (0,0)))(u0 u1 u2 u3 u4 u5 u6 u7 u8 u9 u10 u11 u12:Value):(put13 w X u0 u1 u2 u3 u4 u5 u6 u7 u8 u9 u10 u11 u12).drew.heap[X]? =some (.cells #[u0,u1,u2,u3,u4,u5,u6,u7,u8,u9,u10,u11,u12] T (0,0)):=by
 have hdrew:∀W:World,W.drew.heap=W.heap:=fun _=>rfl
 rw[hdrew]
 exact UC h u0 u1 u2 u3 u4 u5 u6 u7 u8 u9 u10 u11 u12
theorem Fl(s:ByteArray)(r:List Tok.Item ⊕ (Int×Int))(hr:Scans s r)(F:List Tk->PR Pg)(hcall:∀R la W,RdIs R la (Wt r) (s.size:Int) (stOf r) W->Calls Tryz.prog 27 #[.pointer (some ⟨R,0,none⟩)] W (Red R la (Wt r) (s.size:Int) W F (stOf r) (GPg W.heap.size)))(hgood:∀(x:Pg) (rr ts:List Tk),stOf r= .inl ts->F ts= .ok x rr->GGood x/\x.total<=1000000000)(w:World):
 Calls Tryz.prog 10 #[.string s] w (RRes w (finE F Pg.tooBig (s.size:Int) (stOf r)) GPg (.agg z13)):=by
 have HGOOD:=hid hgood
 have HCALL:=hid hcall
 clear hgood hcall
 obtain⟨W1,hW1⟩:=exw (w.alloc (.cells z13 33))
 have hb1:=(made hW1).1
 have x1:=(made hW1).2
 have hs1:w.heap.size<W1.heap.size:=(gl x1)
 have HW1:=hid hW1
 have HB1:=hid hb1
 have HX1:=hid x1
 have HSTART:=hid (RO s r hr W1)
 obtain⟨q,HQ⟩:=exq (finE F Pg.tooBig (s.size:Int) (stOf r))
 rw[HQ.out]
 clear hW1 hb1 x1 hr
 obtain⟨all,hall⟩:=exw (Wt r)
 obtain⟨st,hst0⟩:=exw (stOf r)
 rw[hall] at HSTART HCALL
 rw[hst0] at HSTART HCALL HGOOD HQ
 clear hall hst0
 go_enter Tryz.func10,Tryz.ntmps10
 go_upto_region 1 with fail
 rw[HW1.out]
 go_upto_region 3 with(first|(go_at_call 26;refine HSTART.out.mono ?_;rintro en wa⟨R,la0,al,rfl,hRz,hp,hb,he⟩;rw[he] at hp;clear he;have hRa:=hp.lt;have HP:=hid hp;have HBA:=hid hb;clear hp hb)|(go_at_call 27;refine(HCALL.out R la0 wa HP.out).mono ?_;rintro en wb⟨⟨_,p,rfl,hg,hv⟩,hp,hb⟩;obtain⟨da,dn,dc,la,ln,lc,aa,an,ac,ta,tn,tc,ua,un,uc,ka,kn,kc,rfl⟩:=PgVal.open13 hg;have HV:=hid hv;have HG:=hid hg;have HP:=hid hp;have HB:=hid hb;clear hp hb hg hv))
 obtain⟨W4,hW4⟩:=exw (wb.alloc (.cells #[.slice da dn dc,.int .i64 p.m.k,.string p.m.c,.string p.m.x,.slice la ln lc,.slice aa an ac,.int .i64 p.m.t.k,.int .i64 p.m.t.p,.string p.m.t.n,.int .i64 p.m.t.s,.slice ta tn tc,.slice ua un uc,.slice ka kn kc] 33))
 have hb4:=(made hW4).1
 have x4:=(made hW4).2
 rw[hW4]
 have hl4:wb.heap.size<W4.heap.size:=(gl x4)
 have hab:wa.heap.size<=wb.heap.size:=HB.out.size
 have haa:W1.heap.size<=wa.heap.size:=HBA.out.size
 have HP4:=hid (HP.out.to hb4)
 have HG4:=hid (HG.out.but (But.of (P:=R) hb4) hRa)
 have HX9:=hid ((hb4.block w.heap.size (by omega)).trans ((HB.out.block w.heap.size (by omega) (by omega)).trans ((HBA.out.block w.heap.size hs1).trans HX1.out)))
 have HBE:=hid (((HB1.out.trans (HBA.out.mono HB1.out.size)).trans (HB.out.below (by omega) (by omega))).trans (hb4.mono (by omega)))
 have HX4:=hid x4
 clear hW4 hb4 x4 HP HG HB HB1 HBA HX1
 cases hst:Qa (s.size:Int) F st with
 |inl rr=>
  obtain⟨x0,ts,hts,hF,hval⟩:=WE hst
  obtain rfl:p=x0:=HV.out _ hval
  obtain⟨hgg,htt⟩:=HGOOD.out _ _ _ hts hF
  have HQ2:Hid ((match Rh (s.size:Int) (!Pg.tooBig p) (.inl rr) with | .inr z=> .inr z | .inl _=> .inl p)=q):=hid (by rw[<-HQ.out];unfold finE;rw[hval,hst];rfl)
  have HFT:=hid (Tb (fun k=>wa.heap.size<=k/\k<W4.heap.size) p hgg htt (.agg #[.slice da dn dc,.int .i64 p.m.k,.string p.m.c,.string p.m.x,.slice la ln lc,.slice aa an ac,.int .i64 p.m.t.k,.int .i64 p.m.t.p,.string p.m.t.n,.int .i64 p.m.t.s,.slice ta tn tc,.slice ua un uc,.slice ka kn kc]) W4 (fun k hk=>hk.2) HG4.out)
  rw[hst] at HP4
  have y3:W4.cell? ⟨R,3,none⟩=some iZ:=by
   obtain⟨_,_,_,_,hx,_,_,rfl,_⟩:=HP4.out
   exact(c5 hx).1.2.2.2.1
  clear hst HQ HV HGOOD hts hF hval hgg htt
  obtain⟨⟨d0,d1,d2,d3,d4,d5,d6,d7,d8,d9,d10,d11,d12⟩,-⟩:=c13p HX4.out
  go_upto_region 5 with(first|(go_at_call 29;refine HFT.out.mono ?_;rintro en w5⟨rfl,hf⟩;have HF5:=hid hf;clear hf)|(go_at_call 28;refine(Mr R la0 all _ (!Pg.tooBig p) (.inl rr) w5 (HP4.out.to HF5.out) (fun _ _ h=>by cases h)).mono ?_;rintro en wc⟨rfl,hp,hb⟩;replace hb:=(But.of HF5.out).trans hb;have HX9:=hid ((hb.block w.heap.size (by omega) (by omega)).trans HX9.out);have HBE:=hid (HBE.out.trans (hb.below (by omega) (by omega)));have HX4:=hid ((hb.block wb.heap.size hl4 (by omega)).trans HX4.out);have HG4:=hid (HG4.out.but hb hRa);obtain⟨⟨b0,b1,b2,b3,b4,b5,b6,b7,b8,b9,b10,b11⟩,-⟩:=c13p HX4.out;obtain⟨⟨q0,q1,q2,q3,q4,q5,q6,q7,q8,q9,q10,q11,q12⟩,z0,z1,z2,z3,z4,z5,z6,z7,z8,z9,z10,z11,z12⟩:=c13p HX9.out;obtain⟨cap,a,p5,e5,hx,-,-,hs5⟩:=hp;obtain⟨⟨u0,u1,u2,u3,u4⟩,-⟩:=c5 hx;clear hx hb;rcases hfin:Rh (s.size:Int) (!Pg.tooBig p) (.inl rr) with l|⟨e6,p6⟩;(rw[hfin] at hs5 HQ2;obtain⟨rfl,-⟩:=hs5);rotate_left 1;(rw[hfin] at hs5 HQ2;obtain⟨rfl,rfl,hne5⟩:=hs5;have hne:(e5 != 0)=true:=(by simpa using hne5));rotate_left 1))
  ·obtain rfl:q= .inl p:=HQ2.out.symm
   exact bodyPost_ret (v:= .tuple #[.agg #[.slice da dn dc,.int .i64 p.m.k,.string p.m.c,.string p.m.x,.slice la ln lc,.slice aa an ac,.int .i64 p.m.t.k,.int .i64 p.m.t.p,.string p.m.t.n,.int .i64 p.m.t.s,.slice ta tn tc,.slice ua un uc,.slice ka kn kc],.int .i64 0,.int .i64 0]) (by simp[results,Tryz.results10,go_sem,y13 HX9]) rfl ⟨⟨_,rfl,(HG4.out.put13 (by omega) (.slice da dn dc) (.int .i64 p.m.k) (.string p.m.c) (.string p.m.x) (.slice la ln lc) (.slice aa an ac) (.int .i64 p.m.t.k) (.int .i64 p.m.t.p) (.string p.m.t.n) (.int .i64 p.m.t.s) (.slice ta tn tc) (.slice ua un uc) (.slice ka kn kc)).mono (by omega)⟩,XU HBE.out lR (.slice da dn dc) (.int .i64 p.m.k) (.string p.m.c) (.string p.m.x) (.slice la ln lc) (.slice aa an ac) (.int .i64 p.m.t.k) (.int .i64 p.m.t.p) (.string p.m.t.n) (.int .i64 p.m.t.s) (.slice ta tn tc) (.slice ua un uc) (.slice ka kn kc)⟩
  ·have hq:=HQ2.out.symm
   obtain⟨⟨q0,q1,q2,q3,q4,q5,q6,q7,q8,q9,q10,q11,q12⟩,z0,z1,z2,z3,z4,z5,z6,z7,z8,z9,z10,z11,z12⟩:=c13p HX9.out
   go_region
   obtain⟨W5,hW5⟩:=exw (Nn wc w.heap.size).drew
   have hx8:=Me HX9.out sN iZ tE tE sN sN iZ iZ tE iZ sN sN sN
   have hb5:=(XU HBE.out lR sN iZ tE tE sN sN iZ iZ tE iZ sN sN sN).drew
   rw[hW5] at hx8 hb5 |-
   clear hW5 q0 q1 q2 q3 q4 q5 q6 q7 q8 q9 q10 q11 q12 z0 z1 z2 z3 z4 z5 z6 z7 z8 z9 z10 z11 z12
   obtain⟨⟨y0,y1,y2,y3,y4,y5,y6,y7,y8,y9,y10,y11,y12⟩,-⟩:=c13p hx8
   clear hx8
   have HB5:=hid hb5
   go_wp2_with fail
   subst hq
   exact bodyPost_ret (v:= .tuple #[.agg z13,.int .i64 e5,.int .i64 p5]) (by simp[results,Tryz.results10,go_sem,y0,y1,y2,y3,y4,y5,y6,y7,y8,y9,y10,y11,y12]) rfl ⟨rfl,HB5.out⟩
 |inr z=>
  obtain⟨er,p0⟩:=z
  have hq:q= .inr (er,p0):=HQ.out.symm.trans (MJ hst Pg.tooBig)
  rw[hst] at HP4
  obtain⟨y3,hne⟩:W4.cell? ⟨R,3,none⟩=some (.int .i64 er)/\(er != 0)=true:=by
   obtain⟨_,_,_,_,hx,_,_,rfl,_,hn⟩:=HP4.out
   exact⟨(c5 hx).1.2.2.2.1,by simpa using hn⟩
  clear hst HQ
  have HQ2:=hid hq
  clear hq
  go_upto_region 5 with(go_at_call 28;refine(Mr R la0 all _ true (.inr (er,p0)) W4 HP4.out (fun _ _ _=>rfl)).mono ?_;rintro en wc⟨rfl,hp,hb⟩;obtain⟨cap,a,p5,e5,hx,-,-,he5,hp5,-⟩:=hp;subst he5;subst hp5;obtain⟨⟨u0,u1,u2,u3,u4⟩,-⟩:=c5 hx;clear hx;have HX9:=hid ((hb.block w.heap.size (by omega) (by omega)).trans HX9.out);have HBE:=hid (HBE.out.trans (hb.below (by omega) (by omega)));clear hb)
  have hq:=HQ2.out
  obtain⟨⟨q0,q1,q2,q3,q4,q5,q6,q7,q8,q9,q10,q11,q12⟩,z0,z1,z2,z3,z4,z5,z6,z7,z8,z9,z10,z11,z12⟩:=c13p HX9.out
  go_region
  obtain⟨W5,hW5⟩:=exw (Nn wc w.heap.size).drew
  have hx8:=Me HX9.out sN iZ tE tE sN sN iZ iZ tE iZ sN sN sN
  have hb5:=(XU HBE.out lR sN iZ tE tE sN sN iZ iZ tE iZ sN sN sN).drew
  rw[hW5] at hx8 hb5 |-
  clear hW5 q0 q1 q2 q3 q4 q5 q6 q7 q8 q9 q10 q11 q12 z0 z1 z2 z3 z4 z5 z6 z7 z8 z9 z10 z11 z12
  obtain⟨⟨y0,y1,y2,y3,y4,y5,y6,y7,y8,y9,y10,y11,y12⟩,-⟩:=c13p hx8
  clear hx8
  have HB5:=hid hb5
  go_wp2_with fail
  subst hq
  exact bodyPost_ret (v:= .tuple #[.agg z13,.int .i64 e5,.int .i64 p5]) (by simp[results,Tryz.results10,go_sem,y0,y1,y2,y3,y4,y5,y6,y7,y8,y9,y10,y11,y12]) rfl ⟨rfl,HB5.out⟩
theorem TV{s:ByteArray}{r:List Tok.Item ⊕ (Int×Int)}(hr:Scans s r){f:Nat}{x:Pg}{rr ts:List Tk}(hst:stOf r= .inl ts)(hF:Yq Qb f ts= .ok x rr):GGood x/\x.total<=1000000000:=by
 match r with
 | .inr z=>cases hst
 | .inl I=>
  obtain rfl:I.map tkOf=ts:=by injection hst
  have h:=YB _ _ _ _ hF
  exact Ge (n:=90000) lR h.1 h.2.1 (by have h1:=h.2.2.1;have h2:=hr.len;rw[List.length_map] at h1;omega) (by have h1:=h.2.2.2;have h2:=hr.len;rw[List.length_map] at h1;omega)
theorem RX(s:ByteArray)(r:List Tok.Item ⊕ (Int×Int))(hr:Scans s r)(w:World):
 Calls Tryz.prog 10 #[.string s] w (RRes w (ZP KF Pg.tooBig s r) GPg (.agg z13)):=by
 rw[RD]
 match r with
 | .inr z=>
  have h:=Fl s (.inr z) hr (Yq Qb 8) (fun R la W h=>KZ R la _ (s.size:Int) (fun x hx=>by cases hx) 8 _ W h (by show 2*0+4<=8;omega)) (fun x rr ts h=>by cases h) w
  rw[MJ (show Qa (s.size:Int) (Yq Qb 8) (stOf (.inr z))= .inr z from rfl)] at h
  rw[MJ (show Qa (s.size:Int) KF (stOf (.inr z))= .inr z from rfl)]
  exact h
 | .inl I=>
  have h:=Fl s (.inl I) hr (Yq Qb (2*(I.map tkOf).length+8)) (fun R la W h=>KZ R la _ (s.size:Int) hr.numOK _ _ W h (by show 2*((I.map tkOf).length+1)+4<=_;omega)) (fun x rr ts h1 h2=>TV hr h1 h2) w
  rw[show finE KF Pg.tooBig (s.size:Int) (stOf (.inl I))=finE (Yq Qb (2*(I.map tkOf).length+8)) Pg.tooBig (s.size:Int) (stOf (.inl I)) from TX (by unfold KF;rfl) _ _]
  exact h
abbrev YU(d:Df)(mv lv av tl tk kv:Value):Obj:= .cells #[.string d.n,mv,.int .i64 d.b.k,.string d.b.c,.string d.b.x,lv,av,.int .i64 d.b.t.k,.int .i64 d.b.t.p,.string d.b.t.n,.int .i64 d.b.t.s,tl,tk,kv] 61
theorem Ez{d d':Df}(h1:d.n=d'.n)(h2:d.ms=d'.ms)(h3:d.b=d'.b):d=d':=by cases d;cases d';simp_all
theorem Et{a a':Pm}(h1:a.n=a'.n)(h2:a.t=a'.t):a=a':=by cases a;cases a';simp_all
theorem Jm{w:World}{b x:Nat}{v:Value}(hb:b<w.heap.size)(h:w.cell? ⟨b,x,none⟩=some v):∀o,(w.alloc o).cell? ⟨b,x,none⟩=some v:=fun o=>(((Below.refl w.heap.size w).alloc lR o).cell (p:=⟨b,x,none⟩) hb).trans h
theorem Ur(B:Nat->Prop)(p q:Pg)(v v':Value)(w:World)(hB:Low B w)(hv:PgVal B w v p)(hv':PgVal B w v' q):
 Calls Tryz.prog 11 #[v,v'] w fun e w'=>e= .returned (.bool (eqG p q))/\Below w.heap.size w w':=by
 obtain⟨dv,lv,av,tl,tk,kv,rfl,hd,hp⟩:=hv
 obtain⟨dv',lv',av',tl',tk',kv',rfl,hd',hp'⟩:=hv'
 obtain⟨⟨la,ln,lc,rfl⟩,⟨aa,an,ac,rfl⟩,⟨ta,tn,tc,rfl⟩,⟨ua,un,uc,rfl⟩,ka,kn,kc,rfl⟩:=Xf hp
 obtain⟨⟨la',ln',lc',rfl⟩,⟨aa',an',ac',rfl⟩,⟨ta',tn',tc',rfl⟩,⟨ua',un',uc',rfl⟩,ka',kn',kc',rfl⟩:=Xf hp'
 obtain⟨pa,len,c,rfl,hlen,hmx,hget⟩:=hd.open
 obtain⟨pa',len',c',rfl,hlen',hmx',hget'⟩:=hd'.open
 have hb0:Below w.heap.size w ((w.alloc (JA p (.slice pa len c) (.slice la ln lc) (.slice aa an ac) (.slice ta tn tc) (.slice ua un uc) (.slice ka kn kc))).alloc (JA q (.slice pa' len' c') (.slice la' ln' lc') (.slice aa' an' ac') (.slice ta' tn' tc') (.slice ua' un' uc') (.slice ka' kn' kc'))):=Jb w _ _
 obtain⟨r,hr⟩:∃r,eqG p q=r:=⟨_,rfl⟩
 obtain⟨b1,hb1⟩:∃b,eqP p.m q.m=b:=⟨_,rfl⟩
 have HM:Hid (Calls Tryz.prog 15 #[QW p.m (.slice la ln lc) (.slice aa an ac) (.slice ta tn tc) (.slice ua un uc) (.slice ka kn kc),QW q.m (.slice la' ln' lc') (.slice aa' an' ac') (.slice ta' tn' tc') (.slice ua' un' uc') (.slice ka' kn' kc')] ((w.alloc (JA p (.slice pa len c) (.slice la ln lc) (.slice aa an ac) (.slice ta tn tc) (.slice ua un uc) (.slice ka kn kc))).alloc (JA q (.slice pa' len' c') (.slice la' ln' lc') (.slice aa' an' ac') (.slice ta' tn' tc') (.slice ua' un' uc') (.slice ka' kn' kc'))) fun e w'=>e= .returned (.bool b1)/\Below ((w.alloc (JA p (.slice pa len c) (.slice la ln lc) (.slice aa an ac) (.slice ta tn tc) (.slice ua un uc) (.slice ka kn kc))).alloc (JA q (.slice pa' len' c') (.slice la' ln' lc') (.slice aa' an' ac') (.slice ta' tn' tc') (.slice ua' un' uc') (.slice ka' kn' kc'))).heap.size ((w.alloc (JA p (.slice pa len c) (.slice la ln lc) (.slice aa an ac) (.slice ta tn tc) (.slice ua un uc) (.slice ka kn kc))).alloc (JA q (.slice pa' len' c') (.slice la' ln' lc') (.slice aa' an' ac') (.slice ta' tn' tc') (.slice ua' un' uc') (.slice ka' kn' kc'))) w'):=hid (by rw[<-hb1];exact KX B p.m q.m _ _ _ (hB.le hb0.size) (hp.to hB hb0) (hp'.to hB hb0))
 have ff:(p≠q)->r=false:=fun h=>by
  rw[<-hr]
  cases e:eqG p q with
  |false=>rfl
  |true=>exact absurd (eqG_true.1 e) h
 have R1:Hid (len≠len'->r=false):=hid (fun h=>ff (fun e=>h (by rw[hlen.out,hlen'.out,e])))
 have R2:Hid (b1=false->r=false):=hid (fun h=>ff (fun e=>by rw[h] at hb1;rw[e,eqP_true.2 rfl] at hb1;cases hb1))
 have R3:Hid (∀(j:Nat) (d d':Df),p.ds[j]? =some d->q.ds[j]? =some d'->d≠d'->r=false):=hid (fun j d d' h h' hn=>ff (fun e=>hn (by rw[e,h'] at h;exact(Option.some.inj h).symm)))
 have R4:Hid (len=len'->b1=true->p.ds.take len=q.ds.take len->r=true):=hid (fun h h1 h2=>by
  rw[<-hr,eqG_true]
  have e1:=Vo hlen.out (h.trans hlen'.out) h2
  rw[h1,eqP_true] at hb1
  cases p;cases q;simp only at e1 hb1;rw[e1,hb1])
 have HD:Hid (∀(j:Nat) (d:Df),p.ds[j]? =some d->∃kb ko,pa=some ⟨kb,ko,none⟩/\kb<w.heap.size/\∀W,Below w.heap.size w W->DfAt B W d kb (ko+j*14)):=hid (fun j d hj=>by
  obtain⟨kb,ko,e,hkb,hda⟩:=hget j d hj
  exact⟨kb,ko,e,hB kb hkb,fun W hW=>hda.keep (hW.keeps'.mono hB) hkb⟩)
 have HD':Hid (∀(j:Nat) (d:Df),q.ds[j]? =some d->∃kb ko,pa'=some ⟨kb,ko,none⟩/\kb<w.heap.size/\∀W,Below w.heap.size w W->DfAt B W d kb (ko+j*14)):=hid (fun j d hj=>by
  obtain⟨kb,ko,e,hkb,hda⟩:=hget' j d hj
  exact⟨kb,ko,e,hB kb hkb,fun W hW=>hda.keep (hW.keeps'.mono hB) hkb⟩)
 have HB0:=hid hb0
 obtain⟨ds,hds⟩:∃ds,p.ds=ds:=⟨_,rfl⟩
 obtain⟨ds',hds'⟩:∃ds,q.ds=ds:=⟨_,rfl⟩
 rw[hds] at hlen R3 R4 HD
 rw[hds'] at hlen' R3 R4 HD'
 rw[hr]
 clear hget hd hp hget' hd' hp' hds hds' hr hb1 hb0 ff
 unfold QW at HM
 by_cases hl:len=len'
 ·subst hl
  cases b1
  ·rw[R2.out (by first|trivial|rfl)]
   go_enter Tryz.func11,Tryz.ntmps11
   go_wp2_with fail
   refine HM.out.mono ?_
   rintro e w2⟨rfl,hb2⟩
   go_wp2_with fail
   go_ret
   exact⟨rfl,Qf HB0.out hb2⟩
  ·go_enter Tryz.func11,Tryz.ntmps11
   go_wp2_with fail
   refine HM.out.mono ?_
   rintro e w2⟨rfl,hb2⟩
   have hbx:Below (w.heap.size+2) ((w.alloc (JA p (.slice pa len c) (.slice la ln lc) (.slice aa an ac) (.slice ta tn tc) (.slice ua un uc) (.slice ka kn kc))).alloc (JA q (.slice pa' len c') (.slice la' ln' lc') (.slice aa' an' ac') (.slice ta' tn' tc') (.slice ua' un' uc') (.slice ka' kn' kc'))) w2:=hb2.mono (by simp)
   have HBX:=hid hbx
   clear hb2 hbx HM
   go_wp2_with fail
   go_loopw [5] (fun i wr=>∃j:Nat,i= .int .i64 j/\j<=len/\Hid (ds.take j=ds'.take j)/\Below (w.heap.size+2) ((w.alloc (JA p (.slice pa len c) (.slice la ln lc) (.slice aa an ac) (.slice ta tn tc) (.slice ua un uc) (.slice ka kn kc))).alloc (JA q (.slice pa' len c') (.slice la' ln' lc') (.slice aa' an' ac') (.slice ta' tn' tc') (.slice ua' un' uc') (.slice ka' kn' kc'))) wr) (fun i _=>len-(intOf i).toNat)
   case atStart=>exact⟨0,rfl,by omega,hid (by simp),HBX.out⟩
   case round=>
    obtain⟨j,rfl,hj,HL,hb⟩:=hrel
    obtain⟨wo,hwo⟩:∃wo,wo=wr:=⟨_,rfl⟩
    subst hwo
    have c0:wo.cell? ⟨w.heap.size,0,none⟩=some (.slice pa len c):=QL hb 0 rfl
    have c0':wo.cell? ⟨w.heap.size+1,0,none⟩=some (.slice pa' len c'):=QK hb 0 rfl
    have hw:=JR hb
    have hsz:w.heap.size+2<=wo.heap.size:=by have:=hb.size;simpa using this
    by_cases hlt:j<len
    ·obtain⟨d,hdj⟩:∃d,ds[j]? =some d:=⟨_,List.getElem?_eq_getElem (by rw[<-hlen.out];exact hlt)⟩
     obtain⟨d',hdj'⟩:∃d,ds'[j]? =some d:=⟨_,List.getElem?_eq_getElem (by rw[<-hlen'.out];exact hlt)⟩
     obtain⟨kb,ko,rfl,hkb,hda⟩:=HD.out j d hdj
     obtain⟨kb',ko',rfl,hkb',hda'⟩:=HD'.out j d' hdj'
     obtain⟨ma,mn,mc,la1,ln1,lc1,aa1,an1,ac1,ta1,tn1,tc1,ua1,un1,uc1,ka1,kn1,kc1,⟨d0,d1,d2,d3,d4,d5,d6,d7,d8,d9,d10,d11,d12,d13⟩,hms,hval⟩:=(hda wo hw).load'
     obtain⟨ma',mn',mc',la2,ln2,lc2,aa2,an2,ac2,ta2,tn2,tc2,ua2,un2,uc2,ka2,kn2,kc2,⟨f0,f1,f2,f3,f4,f5,f6,f7,f8,f9,f10,f11,f12,f13⟩,hms',hval'⟩:=(hda' wo hw).load'
     have hBr:Low B wo:=hB.le hw.size
     have hbox:Below wo.heap.size wo ((wo.alloc (YU d (.slice ma mn mc) (.slice la1 ln1 lc1) (.slice aa1 an1 ac1) (.slice ta1 tn1 tc1) (.slice ua1 un1 uc1) (.slice ka1 kn1 kc1))).alloc (YU d' (.slice ma' mn' mc') (.slice la2 ln2 lc2) (.slice aa2 an2 ac2) (.slice ta2 tn2 tc2) (.slice ua2 un2 uc2) (.slice ka2 kn2 kc2))):=Jb wo _ _
     obtain⟨x,hx⟩:∃x,eqP d.b d'.b=x:=⟨_,rfl⟩
     have HP:Hid (Calls Tryz.prog 15 #[QW d.b (.slice la1 ln1 lc1) (.slice aa1 an1 ac1) (.slice ta1 tn1 tc1) (.slice ua1 un1 uc1) (.slice ka1 kn1 kc1),QW d'.b (.slice la2 ln2 lc2) (.slice aa2 an2 ac2) (.slice ta2 tn2 tc2) (.slice ua2 un2 uc2) (.slice ka2 kn2 kc2)] ((wo.alloc (YU d (.slice ma mn mc) (.slice la1 ln1 lc1) (.slice aa1 an1 ac1) (.slice ta1 tn1 tc1) (.slice ua1 un1 uc1) (.slice ka1 kn1 kc1))).alloc (YU d' (.slice ma' mn' mc') (.slice la2 ln2 lc2) (.slice aa2 an2 ac2) (.slice ta2 tn2 tc2) (.slice ua2 un2 uc2) (.slice ka2 kn2 kc2))) fun e w'=>e= .returned (.bool x)/\Below ((wo.alloc (YU d (.slice ma mn mc) (.slice la1 ln1 lc1) (.slice aa1 an1 ac1) (.slice ta1 tn1 tc1) (.slice ua1 un1 uc1) (.slice ka1 kn1 kc1))).alloc (YU d' (.slice ma' mn' mc') (.slice la2 ln2 lc2) (.slice aa2 an2 ac2) (.slice ta2 tn2 tc2) (.slice ua2 un2 uc2) (.slice ka2 kn2 kc2))).heap.size ((wo.alloc (YU d (.slice ma mn mc) (.slice la1 ln1 lc1) (.slice aa1 an1 ac1) (.slice ta1 tn1 tc1) (.slice ua1 un1 uc1) (.slice ka1 kn1 kc1))).alloc (YU d' (.slice ma' mn' mc') (.slice la2 ln2 lc2) (.slice aa2 an2 ac2) (.slice ta2 tn2 tc2) (.slice ua2 un2 uc2) (.slice ka2 kn2 kc2))) w'):=hid (by rw[<-hx];exact KX B d.b d'.b _ _ _ (hBr.le hbox.size) (hval.to hBr hbox) (hval'.to hBr hbox))
     obtain⟨pma,pmn,pmc,hpe,hmlen,hmmx,hmget⟩:=hms.open
     simp only[Value.slice.injEq] at hpe
     obtain⟨rfl,rfl,rfl⟩:=hpe
     obtain⟨pma,pmn,pmc,hpe,hmlen',hmmx',hmget'⟩:=hms'.open
     simp only[Value.slice.injEq] at hpe
     obtain⟨rfl,rfl,rfl⟩:=hpe
     have HMG:Hid (∀(k:Nat) (a:Pm),d.ms[k]? =some a->∃pb po,ma=some ⟨pb,po,none⟩/\pb<wo.heap.size/\∀W,Below wo.heap.size wo W->PmAt B W a pb (po+k*7)):=hid (fun k a hk=>by
      obtain⟨pb,po,e,hpb,hpa⟩:=hmget k a hk
      exact⟨pb,po,e,hBr pb hpb,fun W hW=>hpa.keep (hW.keeps'.mono hBr) hpb⟩)
     have HMG':Hid (∀(k:Nat) (a:Pm),d'.ms[k]? =some a->∃pb po,ma'=some ⟨pb,po,none⟩/\pb<wo.heap.size/\∀W,Below wo.heap.size wo W->PmAt B W a pb (po+k*7)):=hid (fun k a hk=>by
      obtain⟨pb,po,e,hpb,hpa⟩:=hmget' k a hk
      exact⟨pb,po,e,hBr pb hpb,fun W hW=>hpa.keep (hW.keeps'.mono hBr) hpb⟩)
     have HML:=hid hmlen.out
     have HML':=hid hmlen'.out
     have ff:d≠d'->r=false:=R3.out j d d' hdj hdj'
     have N1:Hid (d.n≠d'.n->r=false):=hid (fun h=>ff (fun e=>h (by rw[e])))
     have N2:Hid (mn≠mn'->r=false):=hid (fun h=>ff (fun e=>h (by rw[HML.out,HML'.out,e])))
     have N3:Hid (x=false->r=false):=hid (fun h=>ff (fun e=>by rw[e,eqP_true.2 rfl,h] at hx;cases hx))
     have N4:Hid (∀(k:Nat) (a a':Pm),d.ms[k]? =some a->d'.ms[k]? =some a'->a≠a'->r=false):=hid (fun k a a' h h' hn=>ff (fun e=>hn (by rw[e,h'] at h;exact(Option.some.inj h).symm)))
     have N5:Hid (d.n=d'.n->mn=mn'->x=true->d.ms.take mn=d'.ms.take mn->ds.take (j+1)=ds'.take (j+1)):=hid (fun h1 h2 h3 h4=>by
      have e:d=d':=Ez h1 (Vo HML.out (h2.trans HML'.out) h4) (eqP_true.1 (hx.trans h3))
      rw[Qn hdj,Qn hdj',HL.out,e])
     have hkw:kb<wo.heap.size:=by omega
     have hkw':kb'<wo.heap.size:=by omega
     have g0':=Jm (by omega) c0'
     have g_0:=Jm hkw' f0
     have g_1:=Jm hkw' f1
     have g_2:=Jm hkw' f2
     have g_3:=Jm hkw' f3
     have g_4:=Jm hkw' f4
     have g_5:=Jm hkw' f5
     have g_6:=Jm hkw' f6
     have g_7:=Jm hkw' f7
     have g_8:=Jm hkw' f8
     have g_9:=Jm hkw' f9
     have g_10:=Jm hkw' f10
     have g_11:=Jm hkw' f11
     have g_12:=Jm hkw' f12
     have g_13:=Jm hkw' f13
     unfold QW at HP
     clear hda hval hms hmget hmlen hda' hval' hms' hmget' hmlen' hx hdj hdj' ff hbox f0 f1 f2 f3 f4 f5 f6 f7 f8 f9 f10 f11 f12 f13 c0'
     by_cases h1:d.n=d'.n
     ·have h1':(d.n.toList != d'.n.toList)=false:=by simp[h1]
      have h1e:(d.n.toList==d'.n.toList)=true:=by simp[h1]
      have H1:=hid h1
      clear h1
      by_cases h2:mn=mn'
      ·subst h2
       cases x
       ·have HX:=hid (N3.out (by first|trivial|rfl))
        go_wp2_with fail
        refine HP.out.mono ?_
        rintro e w3⟨rfl,hb3⟩
        go_wp2_with fail
        go_ret
        exact⟨Qm HX.out.symm,Qf hw (Qf (Jb _ _ _) hb3)⟩
       ·go_wp2_with fail
        refine HP.out.mono ?_
        rintro e w3⟨rfl,hb3⟩
        have hby:Below (wo.heap.size+2) ((wo.alloc (YU d (.slice ma mn mc) (.slice la1 ln1 lc1) (.slice aa1 an1 ac1) (.slice ta1 tn1 tc1) (.slice ua1 un1 uc1) (.slice ka1 kn1 kc1))).alloc (YU d' (.slice ma' mn mc') (.slice la2 ln2 lc2) (.slice aa2 an2 ac2) (.slice ta2 tn2 tc2) (.slice ua2 un2 uc2) (.slice ka2 kn2 kc2))) w3:=hb3.mono (by simp)
        have HBY:=hid hby
        clear hb3 hby HP d0 d1 d2 d3 d4 d5 d6 d7 d8 d9 d10 d11 d12 d13 g_0 g_1 g_2 g_3 g_4 g_5 g_6 g_7 g_8 g_9 g_10 g_11 g_12 g_13 g0'
        go_wp2_with fail
        go_loopw [8] (fun i wr=>∃k:Nat,i= .int .i64 k/\k<=mn/\Hid (d.ms.take k=d'.ms.take k)/\Below (wo.heap.size+2) ((wo.alloc (YU d (.slice ma mn mc) (.slice la1 ln1 lc1) (.slice aa1 an1 ac1) (.slice ta1 tn1 tc1) (.slice ua1 un1 uc1) (.slice ka1 kn1 kc1))).alloc (YU d' (.slice ma' mn mc') (.slice la2 ln2 lc2) (.slice aa2 an2 ac2) (.slice ta2 tn2 tc2) (.slice ua2 un2 uc2) (.slice ka2 kn2 kc2))) wr) (fun i _=>mn-(intOf i).toNat)
        case atStart=>exact⟨0,rfl,by omega,hid (by simp),HBY.out⟩
        case round=>
         obtain⟨k,rfl,hk,HK,hb7⟩:=hrel
         have p1:=QL hb7 1 rfl
         have p1':=QK hb7 1 rfl
         have hw7:=JR hb7
         have hs7:wo.heap.size+2<=wr.heap.size:=by have:=hb7.size;simpa using this
         by_cases hlt2:k<mn
         ·obtain⟨a,hak⟩:∃a,d.ms[k]? =some a:=⟨_,List.getElem?_eq_getElem (by rw[<-HML.out];exact hlt2)⟩
          obtain⟨a',hak'⟩:∃a,d'.ms[k]? =some a:=⟨_,List.getElem?_eq_getElem (by rw[<-HML'.out];exact hlt2)⟩
          obtain⟨pb,po,rfl,hpb,hpa⟩:=HMG.out k a hak
          obtain⟨pb',po',rfl,hpb',hpa'⟩:=HMG'.out k a' hak'
          obtain⟨la3,ln3,lc3,ka3,kn3,kc3,⟨q0,q1,q2,q3,q4,q5,q6⟩,htv⟩:=(hpa wr hw7).load'
          obtain⟨la4,ln4,lc4,ka4,kn4,kc4,⟨r0,r1,r2,r3,r4,r5,r6⟩,htv'⟩:=(hpa' wr hw7).load'
          obtain⟨y,hy⟩:∃y,eqB a.t a'.t=y:=⟨_,rfl⟩
          have hB7:Low B wr:=hBr.le hw7.size
          have hpw:pb<wr.heap.size:=by omega
          have hpw':pb'<wr.heap.size:=by omega
          have HT:Hid (∀q:QQ wr.heap.size wr,Calls Tryz.prog 18 #[.agg #[.int .i64 a.t.k,.int .i64 a.t.p,.string a.t.n,.int .i64 a.t.s,.slice la3 ln3 lc3,.slice ka3 kn3 kc3],.agg #[.int .i64 a'.t.k,.int .i64 a'.t.p,.string a'.t.n,.int .i64 a'.t.s,.slice la4 ln4 lc4,.slice ka4 kn4 kc4]] q.1 fun e w'=>e= .returned (.bool y)/\Below q.1.heap.size q.1 w'):=hid (fun q=>by
           rw[<-hy];exact NC B a.t a'.t _ _ q.1 (hB7.le q.2.size) (htv.keep (q.2.keeps'.mono hB7)) (htv'.keep (q.2.keeps'.mono hB7)))
          have N6:Hid (a.n≠a'.n->r=false):=hid (fun h=>N4.out k a a' hak hak' (fun e=>h (by rw[e])))
          have N7:Hid (y=false->r=false):=hid (fun h=>N4.out k a a' hak hak' (fun e=>by rw[e,eqB_true.2 rfl,h] at hy;cases hy))
          have N8:Hid (a.n=a'.n->y=true->d.ms.take (k+1)=d'.ms.take (k+1)):=hid (fun h1 h2=>by
           rw[Qn hak,Qn hak',HK.out,Et h1 (eqB_true.1 (hy.trans h2))])
          have lift:∀ {b x:Nat} {v:Value},b<wr.heap.size->wr.cell? ⟨b,x,none⟩=some v->∀q:QQ wr.heap.size wr,q.1.cell? ⟨b,x,none⟩=some v:=fun hb h q=>(q.2.cell (p:=⟨_,_,none⟩) hb).trans h
          have x1:=lift (by omega) p1
          have x1':=lift (by omega) p1'
          have X0:=lift hpw q0
          have Y0:=lift hpw' r0
          have X1:=lift hpw q1
          have Y1:=lift hpw' r1
          have X2:=lift hpw q2
          have Y2:=lift hpw' r2
          have X3:=lift hpw q3
          have Y3:=lift hpw' r3
          have X4:=lift hpw q4
          have Y4:=lift hpw' r4
          have X5:=lift hpw q5
          have Y5:=lift hpw' r5
          have X6:=lift hpw q6
          have Y6:=lift hpw' r6
          clear hy hak hak' htv htv' hpa hpa' lift q0 r0 q1 r1 q2 r2 q3 r3 q4 r4 q5 r5 q6 r6
          by_cases h3:a.n=a'.n
          ·have h3':(a.n.toList != a'.n.toList)=false:=by simp[h3]
           have h3e:(a.n.toList==a'.n.toList)=true:=by simp[h3]
           have N9:=hid (N8.out h3)
           clear h3 N8 N6
           cases y
           ·have HX:=hid (N7.out (by first|trivial|rfl))
            go_wp2_with fail
            clear p1 p1'
            refine Jd wr.heap.size wr (by kernel_rfl) (by kernel_rfl) bR ?_
            repeat (go_big_quiet_step ((go_at_call 18;exact Jy _ lR (HT.out _))))
            refine wpQuiet_nil ?_
            rintro _⟨⟨w5,hb5⟩,rfl⟩
            clear x1 x1' X0 Y0 X1 Y1 X2 Y2 X3 Y3 X4 Y4 X5 Y5 X6 Y6
            go_wp2_with fail
            go_ret
            exact⟨Qm HX.out.symm,Qf (Qf hw hw7) hb5⟩
           ·go_wp2_with fail
            clear p1 p1'
            refine Jd wr.heap.size wr (by kernel_rfl) (by kernel_rfl) bR ?_
            repeat (go_big_quiet_step ((go_at_call 18;exact Jy _ lR (HT.out _))))
            refine wpQuiet_nil ?_
            rintro _⟨⟨w5,hb5⟩,rfl⟩
            clear x1 x1' X0 Y0 X1 Y1 X2 Y2 X3 Y3 X4 Y4 X5 Y5 X6 Y6
            go_wp2_with fail
            go_roundw
            case rel=>exact⟨k+1,by go_num,by omega,hid (N9.out (by first|trivial|rfl)),hb7.trans (hb5.mono hs7)⟩
            case measure=>simp[intOf];omega
          ·have h3':=Ue h3
           have h3e:(a.n.toList==a'.n.toList)=false:=by simpa using h3'
           have HX:=hid (N6.out h3)
           clear h3 N8 N6 N7
           go_wp2_with fail
           clear p1 p1'
           refine Jd wr.heap.size wr (by kernel_rfl) (by kernel_rfl) bR ?_
           repeat (go_big_quiet_step ((go_at_call 18;exact Jy _ lR (HT.out _))))
           refine wpQuiet_nil ?_
           rintro _⟨⟨w5,hb5⟩,rfl⟩
           clear x1 x1' X0 Y0 X1 Y1 X2 Y2 X3 Y3 X4 Y4 X5 Y5 X6 Y6
           go_wp2_with fail
           go_ret
           exact⟨Qm HX.out.symm,Qf (Qf hw hw7) hb5⟩
         ·obtain rfl:k=mn:=by omega
          have HX:=hid (N5.out H1.out (by first|trivial|rfl) (by first|trivial|rfl) HK.out)
          go_wp2_with fail
          go_roundw
          case rel=>exact⟨j+1,by go_num,by omega,HX,hb.trans ((JR hb7).mono hsz)⟩
          case measure=>simp[intOf];omega
      ·have h2':(mn != mn')=true:=by simpa using h2
       have h2f:(mn==mn')=false:=by simpa using h2
       have h2i:((mn:Int)==(mn':Int))=false:=by simp;omega
       have h2j:((mn:Int) != (mn':Int))=true:=by simp;omega
       have HX:=hid (N2.out h2)
       clear h2
       go_wp2_with fail
       go_ret
       exact⟨Qm HX.out.symm,Qf hw (Jb _ _ _)⟩
     ·have h1':=Ue h1
      have h1e:(d.n.toList==d'.n.toList)=false:=by simpa using h1'
      have HX:=hid (N1.out h1)
      clear h1
      go_wp2_with fail
      go_ret
      exact⟨Qm HX.out.symm,Qf hw (Jb _ _ _)⟩
    ·obtain rfl:j=len:=by omega
     have HX:=hid (R4.out (by first|trivial|rfl) (by first|trivial|rfl) HL.out)
     go_wp2_with fail
     go_ret
     exact⟨Qm HX.out.symm,hw⟩
 ·have hl':(len != len')=true:=by simpa using hl
  have hlf:(len==len')=false:=by simpa using hl
  have hli:((len:Int)==(len':Int))=false:=by simp;omega
  have hlj:((len:Int) != (len':Int))=true:=by simp;omega
  rw[R1.out hl]
  clear hl
  go_enter Tryz.func11,Tryz.ntmps11
  go_wp2_with fail
  go_ret
  exact⟨rfl,HB0.out⟩
end Go.Proofs.YtmnbheplkidfaaaGreatDoor
