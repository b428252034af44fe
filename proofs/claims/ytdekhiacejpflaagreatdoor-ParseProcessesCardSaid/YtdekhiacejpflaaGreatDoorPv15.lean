/- Parsing: the reference's labels: steps of choices (mathematics). (and what follows from it) -/
import Derived.Test.YtdekhiacejpflaaGreatDoorPv14
set_option maxHeartbeats 16000000
set_option maxRecDepth 100000
namespace Go.Proofs.YtdekhiacejpflaaGreatDoor
theorem Vb(E:Int)(S:List Tk→PR Ty)(g:Nat)(k:Int)(st:RS):Qa E (pchoiceS nameB S g k) st=Qa E (need sKet) (Qa E (plist (pcase nameB S) g) (Qa E (need sBra) (Qa E pprio st)))∧
 ∀y,Qe (pchoiceS nameB S g k) st=some y→∃p l,Qe pprio st=some p∧Qe (plist (pcase nameB S) g) (Qa E (need sBra) (Qa E pprio st))=some l∧Ty.mk k p ⟨#[]⟩ 0 (l.map (·.1)) (l.map (·.2))=y:=by
 have hc:∀st,Qa E (pcases nameB S g) st=Qa E (need sKet) (Qa E (plist (pcase nameB S) g) (Qa E (need sBra) st)):=fun st=>
  Qc (X:=fun s=>Qa E (need sKet) (Qa E (plist (pcase nameB S) g) s)) (fun _=>Qc (X:=fun s=>Qa E (need sKet) s) (fun l=>Qc (X:=fun s=>s) (fun _=>Qm _ _ _) (fun _=>rfl)) (fun _=>rfl)) (fun _=>rfl)
 constructor
 ·exact Qc (X:=fun s=>Qa E (need sKet) (Qa E (plist (pcase nameB S) g) (Qa E (need sBra) s))) (fun p=>(Qc (X:=fun s=>s) (fun l=>Qm _ _ _) (fun _=>rfl)).trans (hc _)) (fun _=>rfl)
 ·intro y hy
  obtain⟨p,h1,h2⟩:=Qf E hy
  obtain⟨l,h3,h4⟩:=Qf E h2
  obtain⟨_,_,h6⟩:=Qf E h3
  obtain⟨m,h7,h8⟩:=Qf E h6
  obtain⟨_,_,h10⟩:=Qf E h8
  obtain rfl:m=l:=Qq h10
  exact⟨p,m,h1,h7,Qq h4⟩
theorem Jn{α:Type}(E:Int)(F:List Tk→PR α)(st:RS):Qa E (pcase nameB F) st=Qa E F (Qa E (need sColon) (Qa E (pname nameB) st))∧
 ∀y,Qe (pcase nameB F) st=some y→Qe (pname nameB) st=some y.1∧Qe F (Qa E (need sColon) (Qa E (pname nameB) st))=some y.2:=by
 constructor
 ·exact Qc (X:=fun s=>Qa E F (Qa E (need sColon) s)) (fun _=>Qc (X:=fun s=>Qa E F s) (fun l=>Qc (X:=fun s=>s) (fun _=>Qm _ _ _) (fun _=>rfl)) (fun _=>rfl)) (fun _=>rfl)
 ·intro y hy
  obtain⟨n,h1,h2⟩:=Qf E hy
  obtain⟨_,_,h4⟩:=Qf E h2
  obtain⟨x,h5,h6⟩:=Qf E h4
  have e:=Qq h6
  subst e
  exact⟨h1,h5⟩
theorem Yk{α:Type}(E:Int)(F:List Tk→PR α)(g:Nat)(st:RS)(h:stHd sComma (Qa E F st)=true):Qa E (plist F (g+1)) st=Qa E (plist F g) (Qa E (need sComma) (Qa E F st))∧
 ∀l,Qe (plist F (g+1)) st=some l→∃x m,Qe F st=some x∧Qe (plist F g) (Qa E (need sComma) (Qa E F st))=some m∧l=x::m:=by
 constructor
 ·exact Qc (X:=fun s=>Qa E (plist F g) (Qa E (need sComma) s)) (fun a=>(Jy (P:=fun ts=>(plist F g ts).bind _) h).trans (Qc (X:=fun s=>s) (fun _=>Qm _ _ _) (fun _=>rfl))) (fun _=>rfl)
 ·intro l hl
  obtain⟨x,h1,h2⟩:=Qf E hl
  rw[Zl (P:=fun ts=>(plist F g ts).bind _) E h] at h2
  obtain⟨m,h3,h4⟩:=Qf E h2
  exact⟨x,m,h1,h3,(Qq h4).symm⟩
theorem Yl{α:Type}(E:Int)(F:List Tk→PR α)(g:Nat)(st:RS)(h:stHd sComma (Qa E F st)=false):Qa E (plist F (g+1)) st=Qa E F st∧
 ∀l,Qe (plist F (g+1)) st=some l→∃x,Qe F st=some x∧l=[x]:=by
 constructor
 ·exact Qc (X:=fun s=>s) (fun a=>(Jz h).trans (Qm _ _ _)) (fun _=>rfl)
 ·intro l hl
  obtain⟨x,h1,h2⟩:=Qf E hl
  rw[Zm h] at h2
  exact⟨x,h1,(Qq h2).symm⟩
structure LabLeft{α:Type}(E:Int)(S:List Tk→PR α)(g:Nat)(st:RS)(ls:List ByteArray)(us:List α)(g2:Nat)(st2:RS):Prop where
 len:ls.length=us.length
 fuel:st2.len<g2
 step:Qa E (plist (pcase nameB S) g) st=Qa E (plist (pcase nameB S) g2) st2
 val:∀l,Qe (plist (pcase nameB S) g) st=some l→∃m,Qe (plist (pcase nameB S) g2) st2=some m∧l.map (·.1)=ls++m.map (·.1)∧l.map (·.2)=us++m.map (·.2)
theorem LabLeft.start{α:Type}(E:Int)(S:List Tk→PR α)(g:Nat)(st:RS)(h:st.len<g):LabLeft E S g st [] [] g st:=⟨rfl,h,rfl,fun l hl=>⟨l,hl,rfl,rfl⟩⟩
theorem LabLeft.more{α:Type}{E:Int}{S:List Tk→PR α}{g g2:Nat}{st st2:RS}{ls:List ByteArray}{us:List α}(h:LabLeft E S g st ls us (g2+1) st2){n:ByteArray}{u:α}
 (hn:∀y,Qe (pname nameB) st2=some y→n=y) (hu:∀y,Qe S (Qa E (need sColon) (Qa E (pname nameB) st2))=some y→u=y)
 (hc:stHd sComma (Qa E (pcase nameB S) st2)=true) (hl:(Qa E (need sComma) (Qa E (pcase nameB S) st2)).len<g2):
 LabLeft E S g st (ls++[n]) (us++[u]) g2 (Qa E (need sComma) (Qa E (pcase nameB S) st2)):=by
 obtain⟨h1,h2⟩:=Yk E (pcase nameB S) g2 st2 hc
 refine⟨by simp[h.len],hl,h.step.trans h1,fun l hl=>?_⟩
 obtain⟨m,hm,e1,e2⟩:=h.val l hl
 obtain⟨x,m2,h3,h4,rfl⟩:=h2 m hm
 obtain⟨h5,h6⟩:=(Jn E S st2).2 x h3
 refine⟨m2,h4,?_,?_⟩
 ·rw[e1,hn _ h5];simp
 ·rw[e2,hu _ h6];simp
theorem LabLeft.last{α:Type}{E:Int}{S:List Tk→PR α}{g g2:Nat}{st st2:RS}{ls:List ByteArray}{us:List α}(h:LabLeft E S g st ls us (g2+1) st2){n:ByteArray}{u:α}
 (hn:∀y,Qe (pname nameB) st2=some y→n=y) (hu:∀y,Qe S (Qa E (need sColon) (Qa E (pname nameB) st2))=some y→u=y)
 (hc:stHd sComma (Qa E (pcase nameB S) st2)=false):
 Qa E (plist (pcase nameB S) g) st=Qa E (pcase nameB S) st2∧∀l,Qe (plist (pcase nameB S) g) st=some l→l.map (·.1)=ls++[n]∧l.map (·.2)=us++[u]:=by
 obtain⟨h1,h2⟩:=Yl E (pcase nameB S) g2 st2 hc
 refine⟨h.step.trans h1,fun l hl=>?_⟩
 obtain⟨m,hm,e1,e2⟩:=h.val l hl
 obtain⟨x,h3,rfl⟩:=h2 m hm
 obtain⟨h5,h6⟩:=(Jn E S st2).2 x h3
 rw[e1,e2,hn _ h5,hu _ h6]
 exact⟨rfl,rfl⟩
theorem LabLeft.err{α:Type}{E:Int}{S:List Tk→PR α}{g g2:Nat}{st:RS}{z:Int×Int}{ls:List ByteArray}{us:List α}(h:LabLeft E S g st ls us g2 (.inr z)):
 Qa E (plist (pcase nameB S) g) st= .inr z∧∀l,Qe (plist (pcase nameB S) g) st=some l→l.map (·.1)=ls∧l.map (·.2)=us:=
 ⟨h.step,fun l hl=>by obtain⟨m,hm,_⟩:=h.val l hl;cases hm⟩
end Go.Proofs.YtdekhiacejpflaaGreatDoor
