/- Parsing: lemmas. -/
import Derived.Test.YtejaboajgecpaaaGreatDoorQn17
set_option maxHeartbeats 16000000
set_option maxRecDepth 100000
namespace Go.Proofs.YtejaboajgecpaaaGreatDoor
open Go.Lib (hid)
open Go.RowKit Go.Deep Go.Shelf
theorem pcase_le {α : Type} {S : List Tk -> PR α} (hS : Shorter S) : Shorter (pcase nameB S) := by
 intro ts x r h
 unfold pcase at h
 cases h1 : pname nameB ts with
 | bad e r1 => rw [h1] at h; cases h
 | ok nm r1 =>
  rw [h1] at h
  have l1 := pname_le h1
  replace h : ((need sColon r1).bind fun _ r => (S r).bind fun x r => .ok (nm, x) r) = .ok x r := h
  cases h2 : need sColon r1 with
  | bad e r2 => rw [h2] at h; cases h
  | ok u r2 =>
   rw [h2] at h
   have l2 := need_le h2
   replace h : ((S r2).bind fun x r => .ok (nm, x) r) = .ok x r := h
   cases h3 : S r2 with
   | bad e r3 => rw [h3] at h; cases h
   | ok t r3 =>
    rw [h3] at h
    have l3 := hS _ _ _ h3
    cases h
    omega
theorem plist_le {α : Type} {F : List Tk -> PR α} (hF : Shorter F) : ∀ g, Shorter (plist F g)
 | 0, ts, x, r, h => by cases h
 | g + 1, ts, x, r, h => by
  rw [plist] at h
  cases h1 : F ts with
  | bad e r1 => rw [h1] at h; cases h
  | ok y r1 =>
   rw [h1] at h
   have l1 := hF _ _ _ h1
   replace h : (if hd sComma r1 = true then (plist F g r1.tail).bind fun l r => PR.ok (y :: l) r else .ok [y] r1) = .ok x r := h
   split at h
   ·next hc =>
    have l2 := hd_tail hc
    cases h2 : plist F g r1.tail with
    | bad e r2 => rw [h2] at h; cases h
    | ok l r2 =>
     rw [h2] at h
     have l3 := plist_le hF g _ _ _ h2
     cases h
     omega
   ·cases h; exact l1
theorem pcases_le {α : Type} {S : List Tk -> PR α} (hS : Shorter S) (g : Nat) : Shorter (pcases nameB S g) := by
 intro ts x r h
 unfold pcases at h
 cases h1 : need sBra ts with
 | bad e r1 => rw [h1] at h; cases h
 | ok u r1 =>
  rw [h1] at h
  have l1 := need_le h1
  replace h : ((plist (pcase nameB S) g r1).bind fun l r => (need sKet r).bind fun _ r => .ok l r) = .ok x r := h
  cases h2 : plist (pcase nameB S) g r1 with
  | bad e r2 => rw [h2] at h; cases h
  | ok l r2 =>
   rw [h2] at h
   have l2 := plist_le (pcase_le hS) g _ _ _ h2
   replace h : ((need sKet r2).bind fun _ r => .ok l r) = .ok x r := h
   cases h3 : need sKet r2 with
   | bad e r3 => rw [h3] at h; cases h
   | ok u3 r3 =>
    rw [h3] at h
    have l3 := need_le h3
    cases h
    omega
theorem plist_count {α : Type} {F : List Tk -> PR α} (hF : Shorter F) : ∀ g (ts : List Tk) (x : List α) (r : List Tk), plist F g ts = .ok x r -> x.length + r.length <= ts.length
 | 0, ts, x, r, h => by cases h
 | g + 1, ts, x, r, h => by
  rw [plist] at h
  cases h1 : F ts with
  | bad e r1 => rw [h1] at h; cases h
  | ok y r1 =>
   rw [h1] at h
   have l1 := hF _ _ _ h1
   replace h : (if hd sComma r1 = true then (plist F g r1.tail).bind fun l r => PR.ok (y :: l) r else .ok [y] r1) = .ok x r := h
   split at h
   ·next hc =>
    have l2 := hd_tail hc
    cases h2 : plist F g r1.tail with
    | bad e r2 => rw [h2] at h; cases h
    | ok l r2 =>
     rw [h2] at h
     have l3 := plist_count hF g _ _ _ h2
     cases h
     simp only [List.length_cons]; omega
   ·cases h; simp; omega
def GCasType (b : Nat) (w : World) (l : List (ByteArray × Ty)) (v : Value) : Prop := ∃ lv kv, v = .tuple #[lv, kv] /\ StrSl (fun k => b <= k /\ k < w.heap.size) w lv (l.map (·.1)) /\ TySl (fun k => b <= k /\ k < w.heap.size) w kv (l.map (·.2))
theorem enters_caseType : ∀ args w, (callFunc 145 args).run Tryz.prog w = .ok (.enter 145 args) w := enters_of Tryz.func145 (by kernel_rfl) rfl
theorem pcasesT_any (P tb : Nat) (E : Int) (ts : List Tk) (B : Nat) (w : World) (he : Env B w) (hBP : B <= P) (h : PaIs P tb E ts w) (fr : Nat) (bs cs : Array Value) (eg : ∀ args w, (callFunc fr args).run Tryz.prog w = .ok (.enter fr args) w)
 (S : List Tk -> PR Ty) (n : Nat) (hn : ts.length < n) (hS : ∀ (ts : List Tk) (W : World), ts.length < n -> Env B W -> PaIs P tb E ts W -> Calls Tryz.prog fr (bs ++ cs) W (Parsed P tb E W (S ts) (GTy W.heap.size))) (hSh : Shorter S) (g : Nat) (hg : ts.length <= g) :
 Calls Tryz.prog 122 #[.pointer (some ⟨P, 0, none⟩), .func (.func fr) bs cs] w (Parsed P tb E w (pcases nameB S g ts) (GCasType w.heap.size)) := by
 obtain ⟨W3, hW3⟩ := ex1 (((w.alloc (.cells #[.pointer (some ⟨P, 0, none⟩)] 67)).alloc (.cells #[.func (.func fr) bs cs] 85)).alloc (.cells #[.slice none 0 0] 24))
 have hb03 : Below w.heap.size w W3 := by rw [<- hW3]; exact (((Below.refl _ _).alloc (Nat.le_refl _) _).alloc (by rw [World.size_alloc]; omega) _).alloc (by rw [World.size_alloc, World.size_alloc]; omega) _
 have hz3 : W3.heap.size = w.heap.size + 3 := by rw [<- hW3]; simp
 have x1 : W3.heap[w.heap.size]? = some (.cells #[.pointer (some ⟨P, 0, none⟩)] 67 (0, 0)) := by rw [<- hW3, Below.heap_alloc _ _ _ (by simp; omega), Below.heap_alloc _ _ _ (by simp)]; exact World.alloc_heap_new _ _
 have x2 : W3.heap[w.heap.size + 1]? = some (.cells #[.func (.func fr) bs cs] 85 (0, 0)) := by
  rw [<- hW3, Below.heap_alloc _ _ _ (by simp)]
  have := World.alloc_heap_new (w.alloc (.cells #[.pointer (some ⟨P, 0, none⟩)] 67)) (.cells #[.func (.func fr) bs cs] 85)
  rwa [World.size_alloc] at this
 have x3 : W3.heap[w.heap.size + 2]? = some (.cells #[.slice none 0 0] 24 (0, 0)) := by
  rw [<- hW3]
  have := World.alloc_heap_new ((w.alloc (.cells #[.pointer (some ⟨P, 0, none⟩)] 67)).alloc (.cells #[.func (.func fr) bs cs] 85)) (.cells #[.slice none 0 0] 24)
  rwa [World.size_alloc, World.size_alloc] at this
 have hP : P < w.heap.size := h.lt
 have htl : tb < w.heap.size := h.tlt
 have hlen : ts.length <= 1000000 := h.choose_spec.choose_spec.2.2.2.2.1
 have HNT : Hid (Noted (LabSt (α := Ty) P w.heap.size (w.heap.size + 1) (w.heap.size + 2) (w.heap.size + 3) 85 (.func (.func fr) bs cs)) (LabOw w.heap.size (w.heap.size + 1) (w.heap.size + 2)) P) := hid (labNoted (by omega) (by omega) (by omega) (by omega))
 have HST3 : Hid (LabSt (α := Ty) P w.heap.size (w.heap.size + 1) (w.heap.size + 2) (w.heap.size + 3) 85 (.func (.func fr) bs cs) [] W3) := hid ⟨by omega, x1, x2, none, 0, 0, x3, GRow.nil _ _ _ _, fun x hx => by cases hx⟩
 have HEL : Hid (ElemOK P tb E B 145 #[] #[.pointer (some ⟨w.heap.size + 2, 0, none⟩), .pointer (some ⟨w.heap.size, 0, none⟩), .pointer (some ⟨w.heap.size + 1, 0, none⟩)] (pcase nameB S) (fun x => x.2) (fun B w v t => TyVal B w v t) (LabSt (α := Ty) P w.heap.size (w.heap.size + 1) (w.heap.size + 2) (w.heap.size + 3) 85 (.func (.func fr) bs cs)) (LabOw w.heap.size (w.heap.size + 1) (w.heap.size + 2)) n) := hid (fun xs ts W h1 h2 h3 h4 h5 => caseT_any P tb E B hBP w.heap.size (w.heap.size + 1) (w.heap.size + 2) (w.heap.size + 3) 85 (by omega) (by omega) (by omega) (by omega) (by omega) (by omega) (by omega) (by omega) fr bs cs eg _ rfl S n hS xs ts W h1 h2 h3 h4 h5 |>.mono (fun e w' hq => by
  dsimp only
  unfold CaseResType at hq
  cases hc : pcase nameB S ts with
  | ok x r => rw [hc] at hq; exact hq
  | bad er r => rw [hc] at hq; exact hq))
 have HSH := hid (pcase_le hSh)
 have hcl3 := cell1 x3
 have HOW : Hid (∀ k, LabOw w.heap.size (w.heap.size + 1) (w.heap.size + 2) W3 k -> w.heap.size <= k) := hid (fun k hk => by
  have := (labOw_iff hcl3 k HST3.out).1 hk
  rcases this with h | h | h | h
  ·omega
  ·omega
  ·omega
  ·cases h)
 have HOB : Hid (∀ k, LabOw w.heap.size (w.heap.size + 1) (w.heap.size + 2) W3 k -> B <= k) := hid (fun k hk => by have := HOW.out k hk; omega)
 have HP3 := hid (h.to hb03)
 have HE := hid (he.to hb03)
 have HW3 := hid hW3
 have HB03 := hid hb03
 have HZ3 := hid hz3
 have HSHS := hid hSh
 have en1 := enters_caseType
 have cP3 := cell1 x1
 clear hW3 hb03 x1 x2 x3 he h hS hSh hcl3
 have BW : ∀ w4 w5 : World, But P W3 w4 -> ButO P (LabOw w.heap.size (w.heap.size + 1) (w.heap.size + 2) w4) w4 w5 -> But P w w5 := fun w4 w5 h4 h5 =>
  ((But.of (P := P) HB03.out).trans (But.refl P W3)).o (fun _ => False) |>.trans ((h4.o (LabOw w.heap.size (w.heap.size + 1) (w.heap.size + 2) W3)).trans h5 (fun k hk => .inl (((HNT.out.but HST3.out h4).2 k).1 hk))) (fun k hk => .inr (HOW.out k hk)) |>.but (fun _ _ h => h)
 have HBW := hid BW
 clear BW
 unfold pcases
 cases h1 : need sBra ts with
 | bad er r =>
  show Calls _ _ _ _ (Parsed P tb E w (PR.bad er r) _)
  go_enter Tryz.func122, Tryz.ntmps122
  go_upto_region 2 with fail
  rw [HW3.out]
  go_wp2_with (go_at_call 52; refine (expect_any P tb E _ (by decide +kernel) _ _ HP3.out).mono ?_; rw [h1]; rintro en w4 ⟨rfl, hb⟩; have HB4 := hid hb; clear hb)
  exact ⟨rfl, rfl, (But.of HB03.out).trans HB4.out⟩
 | ok un r1 =>
  have l1 := need_le h1
  have hl1 : r1.length < n := by omega
  have hg1 : r1.length < g := by omega
  show Calls _ _ _ _ (Parsed P tb E w ((plist (pcase nameB S) g r1).bind fun l r => (need sKet r).bind fun _ r => .ok l r) _)
  cases h2 : plist (pcase nameB S) g r1 with
  | bad er r =>
   show Calls _ _ _ _ (Parsed P tb E w (PR.bad er r) _)
   go_enter Tryz.func122, Tryz.ntmps122
   go_upto_region 2 with fail
   rw [HW3.out]
   go_wp2_with (first | (go_at_call 52; refine (expect_any P tb E _ (by decide +kernel) _ _ HP3.out).mono ?_; rw [h1]; rintro en w4 ⟨⟨_, rfl, _⟩, hp, hb⟩; have HP4 := hid hp; have HB4 := hid hb; have cP4 := cell1 (HNT.out.but HST3.out hb).1.2.1; clear hp hb) | (go_at_call 144; refine (plistT_any P tb E _ B w4 (HE.out.but HB4.out hBP) hBP HP4.out 145 #[] #[.pointer (some ⟨w.heap.size + 2, 0, none⟩), .pointer (some ⟨w.heap.size, 0, none⟩), .pointer (some ⟨w.heap.size + 1, 0, none⟩)] en1 (pcase nameB S) (fun x => x.2) _ _ n hl1 HEL.out HNT.out HSH.out g hg1 (HNT.out.but HST3.out HB4.out).1 (fun k hk => HOB.out k ((HNT.out.but HST3.out HB4.out).2 k |>.1 hk))).mono ?_; rw [h2]; rintro en w5 ⟨rfl, hb⟩; have HB5 := hid hb; clear hb))
   exact ⟨rfl, rfl, HBW.out _ _ HB4.out HB5.out⟩
  | ok l r2 =>
   have hll := plist_count HSH.out g _ _ _ h2
   show Calls _ _ _ _ (Parsed P tb E w ((need sKet r2).bind fun _ r => .ok l r) _)
   cases h3 : need sKet r2 with
   | bad er r =>
    show Calls _ _ _ _ (Parsed P tb E w (PR.bad er r) _)
    go_enter Tryz.func122, Tryz.ntmps122
    go_upto_region 2 with fail
    rw [HW3.out]
    go_wp2_with (first | (go_at_call 52; refine (expect_any P tb E _ (by decide +kernel) _ _ HP3.out).mono ?_; rw [h1]; rintro en w4 ⟨⟨_, rfl, _⟩, hp, hb⟩; have HP4 := hid hp; have HB4 := hid hb; have cP4 := cell1 (HNT.out.but HST3.out hb).1.2.1; clear hp hb) | (go_at_call 144; refine (plistT_any P tb E _ B w4 (HE.out.but HB4.out hBP) hBP HP4.out 145 #[] #[.pointer (some ⟨w.heap.size + 2, 0, none⟩), .pointer (some ⟨w.heap.size, 0, none⟩), .pointer (some ⟨w.heap.size + 1, 0, none⟩)] en1 (pcase nameB S) (fun x => x.2) _ _ n hl1 HEL.out HNT.out HSH.out g hg1 (HNT.out.but HST3.out HB4.out).1 (fun k hk => HOB.out k ((HNT.out.but HST3.out HB4.out).2 k |>.1 hk))).mono ?_; rw [h2]; rintro en w5 ⟨⟨kv, rfl, hkv⟩, hp, hst, hb, ho⟩; have HK5 := hid hkv; have HP5 := hid hp; have HST5 := hid hst; have HB5 := hid hb; have cP5 := cell1 hst.2.1; clear hkv hp hst hb ho) | (go_at_call 52; refine (expect_any P tb E _ (by decide +kernel) _ _ HP5.out).mono ?_; rw [h3]; rintro en w6 ⟨rfl, hb⟩; have HB6 := hid hb; clear hb))
    exact ⟨rfl, rfl, (HBW.out _ _ HB4.out HB5.out).trans HB6.out⟩
   | ok un3 r3 =>
    show Calls _ _ _ _ (Parsed P tb E w (PR.ok l r3) _)
    go_enter Tryz.func122, Tryz.ntmps122
    go_upto_region 2 with fail
    rw [HW3.out]
    go_wp2_with (first | (go_at_call 52; refine (expect_any P tb E _ (by decide +kernel) _ _ HP3.out).mono ?_; rw [h1]; rintro en w4 ⟨⟨_, rfl, _⟩, hp, hb⟩; have HP4 := hid hp; have HB4 := hid hb; have cP4 := cell1 (HNT.out.but HST3.out hb).1.2.1; clear hp hb) | (go_at_call 144; refine (plistT_any P tb E _ B w4 (HE.out.but HB4.out hBP) hBP HP4.out 145 #[] #[.pointer (some ⟨w.heap.size + 2, 0, none⟩), .pointer (some ⟨w.heap.size, 0, none⟩), .pointer (some ⟨w.heap.size + 1, 0, none⟩)] en1 (pcase nameB S) (fun x => x.2) _ _ n hl1 HEL.out HNT.out HSH.out g hg1 (HNT.out.but HST3.out HB4.out).1 (fun k hk => HOB.out k ((HNT.out.but HST3.out HB4.out).2 k |>.1 hk))).mono ?_; rw [h2]; rintro en w5 ⟨⟨kv, rfl, hkv⟩, hp, hst, hb, ho⟩; have HK5 := hid hkv; have HP5 := hid hp; have HST5 := hid hst; have HB5 := hid hb; have cP5 := cell1 hst.2.1; clear hkv hp hst hb ho) | (go_at_call 52; refine (expect_any P tb E _ (by decide +kernel) _ _ HP5.out).mono ?_; rw [h3]; rintro en w6 ⟨⟨_, rfl, _⟩, hp, hb⟩; have HP6 := hid hp; have HB6 := hid hb; clear hp hb; obtain ⟨_, _, _, la, ln, lc, xL6, hrow6, hsz6⟩ := (HNT.out.but HST5.out HB6.out).1; have cL6 := cell1 xL6; have HROW6 := hid hrow6; have HSZ6 := hid hsz6; clear xL6 hrow6 hsz6))
    go_ret2
    refine ⟨⟨_, rfl, _, _, rfl, ?_, ?_⟩, HP6.out, (HBW.out _ _ HB4.out HB5.out).trans HB6.out⟩
    ·refine StrSl.mono (fun k hk => ⟨by omega, hk.2.1⟩) (GRow.texts HROW6.out (by rw [List.length_map]; unfold maxLen; omega) (fun s hs => ?_))
     obtain ⟨x, hx, rfl⟩ := List.mem_map.1 hs
     exact HSZ6.out x hx
    ·have hz4 := HB4.out.size
     have hz5 := HB6.out.size
     exact TySl.mono (fun k hk => ⟨by have := HZ3.out; omega, by omega⟩) (TySl.keep (HB6.out.keeps (fun k hk => ⟨hk.2.1, by have := HZ3.out; omega⟩)) HK5.out)
def GCasProc (b : Nat) (w : World) (l : List (ByteArray × Pr)) (v : Value) : Prop := ∃ lv kv, v = .tuple #[lv, kv] /\ StrSl (fun k => b <= k /\ k < w.heap.size) w lv (l.map (·.1)) /\ PrSl (fun k => b <= k /\ k < w.heap.size) w kv (l.map (·.2))
theorem enters_caseProc : ∀ args w, (callFunc 152 args).run Tryz.prog w = .ok (.enter 152 args) w := enters_of Tryz.func152 (by kernel_rfl) rfl
theorem pcasesP_any (P tb : Nat) (E : Int) (ts : List Tk) (B : Nat) (w : World) (he : Env B w) (hBP : B <= P) (h : PaIs P tb E ts w) (fr : Nat) (bs cs : Array Value) (eg : ∀ args w, (callFunc fr args).run Tryz.prog w = .ok (.enter fr args) w)
 (S : List Tk -> PR Pr) (n : Nat) (hn : ts.length < n) (hS : ∀ (ts : List Tk) (W : World), ts.length < n -> Env B W -> PaIs P tb E ts W -> Calls Tryz.prog fr (bs ++ cs) W (Parsed P tb E W (S ts) (GPr W.heap.size))) (hSh : Shorter S) (g : Nat) (hg : ts.length <= g) :
 Calls Tryz.prog 140 #[.pointer (some ⟨P, 0, none⟩), .func (.func fr) bs cs] w (Parsed P tb E w (pcases nameB S g ts) (GCasProc w.heap.size)) := by
 obtain ⟨W3, hW3⟩ := ex1 (((w.alloc (.cells #[.pointer (some ⟨P, 0, none⟩)] 67)).alloc (.cells #[.func (.func fr) bs cs] 77)).alloc (.cells #[.slice none 0 0] 24))
 have hb03 : Below w.heap.size w W3 := by rw [<- hW3]; exact (((Below.refl _ _).alloc (Nat.le_refl _) _).alloc (by rw [World.size_alloc]; omega) _).alloc (by rw [World.size_alloc, World.size_alloc]; omega) _
 have hz3 : W3.heap.size = w.heap.size + 3 := by rw [<- hW3]; simp
 have x1 : W3.heap[w.heap.size]? = some (.cells #[.pointer (some ⟨P, 0, none⟩)] 67 (0, 0)) := by rw [<- hW3, Below.heap_alloc _ _ _ (by simp; omega), Below.heap_alloc _ _ _ (by simp)]; exact World.alloc_heap_new _ _
 have x2 : W3.heap[w.heap.size + 1]? = some (.cells #[.func (.func fr) bs cs] 77 (0, 0)) := by
  rw [<- hW3, Below.heap_alloc _ _ _ (by simp)]
  have := World.alloc_heap_new (w.alloc (.cells #[.pointer (some ⟨P, 0, none⟩)] 67)) (.cells #[.func (.func fr) bs cs] 77)
  rwa [World.size_alloc] at this
 have x3 : W3.heap[w.heap.size + 2]? = some (.cells #[.slice none 0 0] 24 (0, 0)) := by
  rw [<- hW3]
  have := World.alloc_heap_new ((w.alloc (.cells #[.pointer (some ⟨P, 0, none⟩)] 67)).alloc (.cells #[.func (.func fr) bs cs] 77)) (.cells #[.slice none 0 0] 24)
  rwa [World.size_alloc, World.size_alloc] at this
 have hP : P < w.heap.size := h.lt
 have htl : tb < w.heap.size := h.tlt
 have hlen : ts.length <= 1000000 := h.choose_spec.choose_spec.2.2.2.2.1
 have HNT : Hid (Noted (LabSt (α := Pr) P w.heap.size (w.heap.size + 1) (w.heap.size + 2) (w.heap.size + 3) 77 (.func (.func fr) bs cs)) (LabOw w.heap.size (w.heap.size + 1) (w.heap.size + 2)) P) := hid (labNoted (by omega) (by omega) (by omega) (by omega))
 have HST3 : Hid (LabSt (α := Pr) P w.heap.size (w.heap.size + 1) (w.heap.size + 2) (w.heap.size + 3) 77 (.func (.func fr) bs cs) [] W3) := hid ⟨by omega, x1, x2, none, 0, 0, x3, GRow.nil _ _ _ _, fun x hx => by cases hx⟩
 have HEL : Hid (ElemOK P tb E B 152 #[] #[.pointer (some ⟨w.heap.size + 2, 0, none⟩), .pointer (some ⟨w.heap.size, 0, none⟩), .pointer (some ⟨w.heap.size + 1, 0, none⟩)] (pcase nameB S) (fun x => x.2) (fun B w v p => PrVal B w v p) (LabSt (α := Pr) P w.heap.size (w.heap.size + 1) (w.heap.size + 2) (w.heap.size + 3) 77 (.func (.func fr) bs cs)) (LabOw w.heap.size (w.heap.size + 1) (w.heap.size + 2)) n) := hid (fun xs ts W h1 h2 h3 h4 h5 => caseP_any P tb E B hBP w.heap.size (w.heap.size + 1) (w.heap.size + 2) (w.heap.size + 3) 77 (by omega) (by omega) (by omega) (by omega) (by omega) (by omega) (by omega) (by omega) fr bs cs eg _ rfl S n hS xs ts W h1 h2 h3 h4 h5 |>.mono (fun e w' hq => by
  dsimp only
  unfold CaseResProc at hq
  cases hc : pcase nameB S ts with
  | ok x r => rw [hc] at hq; exact hq
  | bad er r => rw [hc] at hq; exact hq))
 have HSH := hid (pcase_le hSh)
 have hcl3 := cell1 x3
 have HOW : Hid (∀ k, LabOw w.heap.size (w.heap.size + 1) (w.heap.size + 2) W3 k -> w.heap.size <= k) := hid (fun k hk => by
  have := (labOw_iff hcl3 k HST3.out).1 hk
  rcases this with h | h | h | h
  ·omega
  ·omega
  ·omega
  ·cases h)
 have HOB : Hid (∀ k, LabOw w.heap.size (w.heap.size + 1) (w.heap.size + 2) W3 k -> B <= k) := hid (fun k hk => by have := HOW.out k hk; omega)
 have HP3 := hid (h.to hb03)
 have HE := hid (he.to hb03)
 have HW3 := hid hW3
 have HB03 := hid hb03
 have HZ3 := hid hz3
 have HSHS := hid hSh
 have en1 := enters_caseProc
 have cP3 := cell1 x1
 clear hW3 hb03 x1 x2 x3 he h hS hSh hcl3
 have BW : ∀ w4 w5 : World, But P W3 w4 -> ButO P (LabOw w.heap.size (w.heap.size + 1) (w.heap.size + 2) w4) w4 w5 -> But P w w5 := fun w4 w5 h4 h5 =>
  ((But.of (P := P) HB03.out).trans (But.refl P W3)).o (fun _ => False) |>.trans ((h4.o (LabOw w.heap.size (w.heap.size + 1) (w.heap.size + 2) W3)).trans h5 (fun k hk => .inl (((HNT.out.but HST3.out h4).2 k).1 hk))) (fun k hk => .inr (HOW.out k hk)) |>.but (fun _ _ h => h)
 have HBW := hid BW
 clear BW
 unfold pcases
 cases h1 : need sBra ts with
 | bad er r =>
  show Calls _ _ _ _ (Parsed P tb E w (PR.bad er r) _)
  go_enter Tryz.func140, Tryz.ntmps140
  go_upto_region 2 with fail
  rw [HW3.out]
  go_wp2_with (go_at_call 52; refine (expect_any P tb E _ (by decide +kernel) _ _ HP3.out).mono ?_; rw [h1]; rintro en w4 ⟨rfl, hb⟩; have HB4 := hid hb; clear hb)
  exact ⟨rfl, rfl, (But.of HB03.out).trans HB4.out⟩
 | ok un r1 =>
  have l1 := need_le h1
  have hl1 : r1.length < n := by omega
  have hg1 : r1.length < g := by omega
  show Calls _ _ _ _ (Parsed P tb E w ((plist (pcase nameB S) g r1).bind fun l r => (need sKet r).bind fun _ r => .ok l r) _)
  cases h2 : plist (pcase nameB S) g r1 with
  | bad er r =>
   show Calls _ _ _ _ (Parsed P tb E w (PR.bad er r) _)
   go_enter Tryz.func140, Tryz.ntmps140
   go_upto_region 2 with fail
   rw [HW3.out]
   go_wp2_with (first | (go_at_call 52; refine (expect_any P tb E _ (by decide +kernel) _ _ HP3.out).mono ?_; rw [h1]; rintro en w4 ⟨⟨_, rfl, _⟩, hp, hb⟩; have HP4 := hid hp; have HB4 := hid hb; have cP4 := cell1 (HNT.out.but HST3.out hb).1.2.1; clear hp hb) | (go_at_call 151; refine (plistP_any P tb E _ B w4 (HE.out.but HB4.out hBP) hBP HP4.out 152 #[] #[.pointer (some ⟨w.heap.size + 2, 0, none⟩), .pointer (some ⟨w.heap.size, 0, none⟩), .pointer (some ⟨w.heap.size + 1, 0, none⟩)] en1 (pcase nameB S) (fun x => x.2) _ _ n hl1 HEL.out HNT.out HSH.out g hg1 (HNT.out.but HST3.out HB4.out).1 (fun k hk => HOB.out k ((HNT.out.but HST3.out HB4.out).2 k |>.1 hk))).mono ?_; rw [h2]; rintro en w5 ⟨rfl, hb⟩; have HB5 := hid hb; clear hb))
   exact ⟨rfl, rfl, HBW.out _ _ HB4.out HB5.out⟩
  | ok l r2 =>
   have hll := plist_count HSH.out g _ _ _ h2
   show Calls _ _ _ _ (Parsed P tb E w ((need sKet r2).bind fun _ r => .ok l r) _)
   cases h3 : need sKet r2 with
   | bad er r =>
    show Calls _ _ _ _ (Parsed P tb E w (PR.bad er r) _)
    go_enter Tryz.func140, Tryz.ntmps140
    go_upto_region 2 with fail
    rw [HW3.out]
    go_wp2_with (first | (go_at_call 52; refine (expect_any P tb E _ (by decide +kernel) _ _ HP3.out).mono ?_; rw [h1]; rintro en w4 ⟨⟨_, rfl, _⟩, hp, hb⟩; have HP4 := hid hp; have HB4 := hid hb; have cP4 := cell1 (HNT.out.but HST3.out hb).1.2.1; clear hp hb) | (go_at_call 151; refine (plistP_any P tb E _ B w4 (HE.out.but HB4.out hBP) hBP HP4.out 152 #[] #[.pointer (some ⟨w.heap.size + 2, 0, none⟩), .pointer (some ⟨w.heap.size, 0, none⟩), .pointer (some ⟨w.heap.size + 1, 0, none⟩)] en1 (pcase nameB S) (fun x => x.2) _ _ n hl1 HEL.out HNT.out HSH.out g hg1 (HNT.out.but HST3.out HB4.out).1 (fun k hk => HOB.out k ((HNT.out.but HST3.out HB4.out).2 k |>.1 hk))).mono ?_; rw [h2]; rintro en w5 ⟨⟨kv, rfl, hkv⟩, hp, hst, hb, ho⟩; have HK5 := hid hkv; have HP5 := hid hp; have HST5 := hid hst; have HB5 := hid hb; have cP5 := cell1 hst.2.1; clear hkv hp hst hb ho) | (go_at_call 52; refine (expect_any P tb E _ (by decide +kernel) _ _ HP5.out).mono ?_; rw [h3]; rintro en w6 ⟨rfl, hb⟩; have HB6 := hid hb; clear hb))
    exact ⟨rfl, rfl, (HBW.out _ _ HB4.out HB5.out).trans HB6.out⟩
   | ok un3 r3 =>
    show Calls _ _ _ _ (Parsed P tb E w (PR.ok l r3) _)
    go_enter Tryz.func140, Tryz.ntmps140
    go_upto_region 2 with fail
    rw [HW3.out]
    go_wp2_with (first | (go_at_call 52; refine (expect_any P tb E _ (by decide +kernel) _ _ HP3.out).mono ?_; rw [h1]; rintro en w4 ⟨⟨_, rfl, _⟩, hp, hb⟩; have HP4 := hid hp; have HB4 := hid hb; have cP4 := cell1 (HNT.out.but HST3.out hb).1.2.1; clear hp hb) | (go_at_call 151; refine (plistP_any P tb E _ B w4 (HE.out.but HB4.out hBP) hBP HP4.out 152 #[] #[.pointer (some ⟨w.heap.size + 2, 0, none⟩), .pointer (some ⟨w.heap.size, 0, none⟩), .pointer (some ⟨w.heap.size + 1, 0, none⟩)] en1 (pcase nameB S) (fun x => x.2) _ _ n hl1 HEL.out HNT.out HSH.out g hg1 (HNT.out.but HST3.out HB4.out).1 (fun k hk => HOB.out k ((HNT.out.but HST3.out HB4.out).2 k |>.1 hk))).mono ?_; rw [h2]; rintro en w5 ⟨⟨kv, rfl, hkv⟩, hp, hst, hb, ho⟩; have HK5 := hid hkv; have HP5 := hid hp; have HST5 := hid hst; have HB5 := hid hb; have cP5 := cell1 hst.2.1; clear hkv hp hst hb ho) | (go_at_call 52; refine (expect_any P tb E _ (by decide +kernel) _ _ HP5.out).mono ?_; rw [h3]; rintro en w6 ⟨⟨_, rfl, _⟩, hp, hb⟩; have HP6 := hid hp; have HB6 := hid hb; clear hp hb; obtain ⟨_, _, _, la, ln, lc, xL6, hrow6, hsz6⟩ := (HNT.out.but HST5.out HB6.out).1; have cL6 := cell1 xL6; have HROW6 := hid hrow6; have HSZ6 := hid hsz6; clear xL6 hrow6 hsz6))
    go_ret2
    refine ⟨⟨_, rfl, _, _, rfl, ?_, ?_⟩, HP6.out, (HBW.out _ _ HB4.out HB5.out).trans HB6.out⟩
    ·refine StrSl.mono (fun k hk => ⟨by omega, hk.2.1⟩) (GRow.texts HROW6.out (by rw [List.length_map]; unfold maxLen; omega) (fun s hs => ?_))
     obtain ⟨x, hx, rfl⟩ := List.mem_map.1 hs
     exact HSZ6.out x hx
    ·have hz4 := HB4.out.size
     have hz5 := HB6.out.size
     exact PrSl.mono (fun k hk => ⟨by have := HZ3.out; omega, by omega⟩) (PrSl.keep (HB6.out.keeps (fun k hk => ⟨hk.2.1, by have := HZ3.out; omega⟩)) HK5.out)
end Go.Proofs.YtejaboajgecpaaaGreatDoor
