/- Parsing: lemmas. -/
import Derived.Test.YtejaboajgecpaaaGreatDoorQn35
set_option maxHeartbeats 16000000
set_option maxRecDepth 100000
namespace Go.Proofs.YtejaboajgecpaaaGreatDoor
open Go.RowKit Go.Deep Go.Shelf
def its (s : ByteArray) : List Tok.Item := Tok.items (s.size + 1) s.data.toList (Lx.skipG false s.data.toList)
def Scans (s : ByteArray) : List Tok.Item ⊕ (Int × Int) -> Prop
 | .inl I => s.size <= 65536 /\ its s = I /\ ∀ x ∈ I, x.e = 0
 | .inr (e, p) => (65536 < s.size /\ e = 2 /\ p = 65536) \/ (s.size <= 65536 /\ ∃ q x, its s = q ++ [x] /\ x.e = e /\ x.p = p /\ x.e ≠ 0)
theorem scans_ex (s : ByteArray) : ∃ r, Scans s r := by
 by_cases hl : 65536 < s.size
 ·exact ⟨.inr (2, 65536), .inl ⟨hl, rfl, rfl⟩⟩
 ·rcases Tok.items_either s with ⟨q, x, hx, hxe, hq⟩ | hok
  ·exact ⟨.inr (x.e, x.p), .inr ⟨by omega, q, x, hx, rfl, rfl, hxe⟩⟩
  ·exact ⟨.inl (its s), by omega, rfl, hok⟩
theorem Scans.ne {s : ByteArray} {e p : Int} (h : Scans s (.inr (e, p))) : e ≠ 0 := by
 rcases h with ⟨_, rfl, _⟩ | ⟨_, q, x, _, rfl, _, h⟩
 ·decide
 ·exact h
theorem tok_env {B : Nat} {w W : World} (h : Tok.Env B w) (hb : Below w.heap.size w W) : Tok.Env B W := h.below (hb.mono h.size)
theorem Scans.tokBad {s : ByteArray} {e p : Int} (h : Scans s (.inr (e, p))) {B : Nat} {w : World} (he : Tok.Env B w) : TokBad s e p w := by
 intro W hW
 rcases h with ⟨hl, rfl, rfl⟩ | ⟨hs, q, x, hx, rfl, rfl, hne⟩
 ·exact Tok.tokens_long s hl W
 ·exact Tok.tokens_bad s hs q x hx hne B W (tok_env he hW)
theorem Scans.tokOK {s : ByteArray} {I : List Tok.Item} (h : Scans s (.inl I)) {B : Nat} {w : World} (he : Tok.Env B w) : TokOK s I w := by
 intro W hW
 obtain ⟨hs, hI, hok⟩ := h
 refine (Tok.tokens_any s hs B W (tok_env he hW)).mono ?_
 rw [show Tok.items (s.size + 1) s.data.toList (Lx.skipG false s.data.toList) = I from hI]
 rintro e W' ⟨⟨q, x, rfl, hxe, rfl⟩ | ⟨_, v, rfl, hrow, _⟩, hb⟩
 ·exact absurd (hok x (by simp)) hxe
 ·exact ⟨v, rfl, hrow, hb⟩
theorem Scans.refBad {s : ByteArray} {e p : Int} (h : Scans s (.inr (e, p))) (w : World) :
 Calls Tryz.prog 19 #[.string s] w fun en W' => en = .returned (.tuple #[.slice none 0 0, .int .i64 e, .int .i64 p]) /\ Below w.heap.size w W' := by
 rcases h with ⟨hl, rfl, rfl⟩ | ⟨hs, q, x, hx, rfl, rfl, hne⟩
 ·refine (Tok.rtokens_long s hl w).mono ?_
  rintro e w' ⟨rfl, rfl⟩
  exact ⟨rfl, Below.refl _ _⟩
 ·refine (Tok.rtokens_any s hs _ hx w).mono ?_
  rintro e w' ⟨⟨q', x', h, _, rfl⟩ | ⟨hall, _⟩, hb⟩
  ·obtain ⟨_, h⟩ := List.append_inj' h rfl
   cases h
   exact ⟨rfl, hb⟩
  ·exact absurd (hall x (by simp)) hne
theorem Scans.refOK {s : ByteArray} {I : List Tok.Item} (h : Scans s (.inl I)) (w : World) :
 Calls Tryz.prog 19 #[.string s] w fun en W' => ∃ v, en = .returned (.tuple #[v, .int .i64 0, .int .i64 0]) /\ W'.ownsRow w.heap.size 93 4 v I.length (Tok.rowOf I) /\ Below w.heap.size w W' := by
 obtain ⟨hs, hI, hok⟩ := h
 refine (Tok.rtokens_any s hs _ hI w).mono ?_
 rintro e w' ⟨⟨q, x, rfl, hxe, rfl⟩ | ⟨_, v, rfl, hrow⟩, hb⟩
 ·exact absurd (hok x (by simp)) hxe
 ·exact ⟨v, rfl, hrow, hb⟩
theorem items_txt : ∀ (f : Nat) (L : List UInt8) (a : Nat) (x : Tok.Item), x ∈ Tok.items f L a -> x.t.size <= L.length
 | 0, _, _, _, h => by cases h
 | f + 1, L, a, x, h => by
  rw [Tok.items] at h
  split at h
  ·split at h
   ·rw [List.mem_singleton.1 h]; exact Nat.zero_le _
   ·rcases List.mem_cons.1 h with rfl | h
    ·show ((L.drop a).take _).length <= _
     rw [List.length_take, List.length_drop]; omega
    ·exact items_txt f L _ x h
  ·cases h
theorem Scans.txt {s : ByteArray} {I : List Tok.Item} (h : Scans s (.inl I)) : ∀ x ∈ I, x.t.size <= maxLen := by
 obtain ⟨hs, hI, _⟩ := h
 intro x hx
 rw [<- hI] at hx
 have := items_txt _ _ _ _ hx
 have e : s.data.toList.length = s.size := rfl
 unfold maxLen
 omega
theorem Scans.len {s : ByteArray} {I : List Tok.Item} (h : Scans s (.inl I)) : I.length <= 65537 := by
 obtain ⟨hs, hI, _⟩ := h
 have := Tok.items_len (s.size + 1) s.data.toList (Lx.skipG false s.data.toList)
 rw [show Tok.items (s.size + 1) s.data.toList (Lx.skipG false s.data.toList) = I from hI] at this
 omega
end Go.Proofs.YtejaboajgecpaaaGreatDoor
namespace Go.Proofs.YtejaboajgecpaaaGreatDoor
def Meas {α : Type} (μ : α -> Nat) (I : α -> Prop) (F : List Tk -> PR α) : Prop := ∀ ts x r, F ts = .ok x r -> I x /\ μ x + r.length <= ts.length
theorem hdt {s : ByteArray} {ts : List Tk} (h : hd s ts = true) : ts.tail.length + 1 = ts.length := by
 cases ts with
 | nil => cases h
 | cons x r => rfl
theorem Ty.fines_of : ∀ {l : List Ty}, (∀ u ∈ l, u.fine) -> Ty.fines l
 | [], _ => trivial
 | _ :: _, h => ⟨h _ (by simp), Ty.fines_of fun u hu => h u (by simp [hu])⟩
def lsum {α : Type} (μ : α -> Nat) : List α -> Nat
 | [] => 0
 | x :: r => μ x + lsum μ r
theorem plist_meas {α : Type} {μ : α -> Nat} {I : α -> Prop} {F : List Tk -> PR α} (hF : Meas μ I F) : ∀ g ts l r, plist F g ts = .ok l r -> (∀ x ∈ l, I x) /\ lsum μ l + r.length <= ts.length
 | 0, _, _, _, h => by cases h
 | g + 1, ts, l, r, h => by
  rw [plist] at h
  obtain ⟨x, s, h1, h2⟩ := PR.bind_ok h
  obtain ⟨i1, m1⟩ := hF _ _ _ h1
  split at h2
  ·next hc =>
   obtain ⟨m, s2, h3, h4⟩ := PR.bind_ok h2
   obtain ⟨i2, m2⟩ := plist_meas hF g _ _ _ h3
   cases h4
   have := hdt hc
   refine ⟨fun y hy => ?_, by show μ x + lsum μ m + r.length <= _; omega⟩
   rcases List.mem_cons.1 hy with rfl | hy
   ·exact i1
   ·exact i2 y hy
  ·cases h2
   exact ⟨fun y hy => by rw [List.mem_singleton.1 hy]; exact i1, by show μ x + 0 + r.length <= _; omega⟩
theorem pcase_meas {α : Type} {μ : α -> Nat} {I : α -> Prop} {F : List Tk -> PR α} (hF : Meas μ I F) : Meas (fun x : ByteArray × α => μ x.2) (fun x => I x.2) (pcase nameB F) := by
 intro ts x r h
 unfold pcase at h
 obtain ⟨n, s, h1, h2⟩ := PR.bind_ok h
 obtain ⟨_, s2, h3, h4⟩ := PR.bind_ok h2
 obtain ⟨y, s3, h5, h6⟩ := PR.bind_ok h4
 obtain ⟨i1, m1⟩ := hF _ _ _ h5
 have := pname_le h1
 have := need_le h3
 cases h6
 exact ⟨i1, by show μ y + _ <= _; omega⟩
theorem pcases_meas {α : Type} {μ : α -> Nat} {I : α -> Prop} {F : List Tk -> PR α} (hF : Meas μ I F) (g : Nat) : ∀ ts l r, pcases nameB F g ts = .ok l r -> (∀ x ∈ l, I x.2) /\ lsum (fun x => μ x.2) l + r.length + 2 <= ts.length := by
 intro ts l r h
 unfold pcases at h
 obtain ⟨_, s, h1, h2⟩ := PR.bind_ok h
 obtain ⟨m, s2, h3, h4⟩ := PR.bind_ok h2
 obtain ⟨_, s3, h5, h6⟩ := PR.bind_ok h4
 obtain ⟨i1, m1⟩ := plist_meas (pcase_meas hF) _ _ _ _ h3
 have := need_le h1
 have := need_le h5
 cases h6
 exact ⟨i1, by omega⟩
theorem Ty.sizes_lsum : ∀ l : List (ByteArray × Ty), Ty.sizes (l.map (·.2)) = lsum (fun x => Ty.size x.2) l
 | [] => rfl
 | x :: r => by
  show x.2.size + Ty.sizes (r.map (·.2)) = x.2.size + lsum _ r
  rw [Ty.sizes_lsum r]
theorem in64_small {k : Int} (h : 0 <= k /\ k <= 100) : In64 k := by unfold In64; omega
theorem fine_leaf (k p s : Int) (n : ByteArray) (h : 0 <= k /\ k <= 100) : (Ty.mk k p n s [] []).fine := by
 unfold Ty.fine
 exact ⟨in64_small h, trivial⟩
abbrev TM (F : List Tk -> PR Ty) : Prop := Meas Ty.size Ty.fine F
theorem pvar_meas : TM (pvar nameB) := by
 intro ts x r h
 unfold pvar at h
 obtain ⟨n, s, h1, h2⟩ := PR.bind_ok h
 have l1 := pname_le h1
 split at h2
 ·next hc =>
  obtain ⟨m, s2, h3, h4⟩ := PR.bind_ok h2
  have := hdt hc
  have := pnumber_le h3
  cases h4
  exact ⟨fine_leaf _ _ _ _ (by omega), by rw [Ty.size_eq]; show 0 + 1 + _ <= _; omega⟩
 ·cases h2
  exact ⟨fine_leaf _ _ _ _ (by omega), by rw [Ty.size_eq]; show 0 + 1 + _ <= _; omega⟩
theorem pany_meas {S : List Tk -> PR Ty} (hS : TM S) : TM (panyS S) := by
 intro ts x r h
 unfold panyS at h
 split at h
 ·next hc =>
  have := hdt hc
  cases h
  exact ⟨fine_leaf _ _ _ _ (by omega), by rw [Ty.size_eq]; show 0 + 1 + _ <= _; omega⟩
 ·split at h
  ·next hc =>
   have := hdt hc
   cases h
   exact ⟨fine_leaf _ _ _ _ (by omega), by rw [Ty.size_eq]; show 0 + 1 + _ <= _; omega⟩
  ·exact hS _ _ _ h
theorem ppay_meas {S : List Tk -> PR Ty} (hS : TM S) : TM (ppayS S) := by
 intro ts x r h
 unfold ppayS at h
 split at h
 ·cases h
 ·exact pany_meas hS _ _ _ h
theorem pexch_meas {S : List Tk -> PR Ty} (hS : TM S) (k : Int) (hk : 0 <= k /\ k <= 100) (ts : List Tk) (x : Ty) (r : List Tk) (h : pexchS S k ts = .ok x r) : x.fine /\ x.size + r.length <= ts.length := by
 unfold pexchS at h
 obtain ⟨p, s1, h1, h⟩ := PR.bind_ok h
 obtain ⟨t, s2, h2, h⟩ := PR.bind_ok h
 obtain ⟨_, s3, h3, h⟩ := PR.bind_ok h
 obtain ⟨u, s4, h4, h⟩ := PR.bind_ok h
 have := pprio_le h1
 obtain ⟨i1, m1⟩ := ppay_meas hS _ _ _ h2
 have := need_le h3
 obtain ⟨i2, m2⟩ := hS _ _ _ h4
 cases h
 refine ⟨?_, by rw [Ty.size_eq]; show t.size + (u.size + 0) + 1 + _ <= _; omega⟩
 unfold Ty.fine
 exact ⟨in64_small hk, i1, i2, trivial⟩
theorem pchoice_meas {S : List Tk -> PR Ty} (hS : TM S) (g : Nat) (k : Int) (hk : 0 <= k /\ k <= 100) (ts : List Tk) (x : Ty) (r : List Tk) (h : pchoiceS nameB S g k ts = .ok x r) : x.fine /\ x.size + r.length <= ts.length := by
 unfold pchoiceS at h
 obtain ⟨p, s1, h1, h⟩ := PR.bind_ok h
 obtain ⟨l, s2, h2, h⟩ := PR.bind_ok h
 have := pprio_le h1
 obtain ⟨i1, m1⟩ := pcases_meas hS _ _ _ _ h2
 cases h
 refine ⟨?_, by rw [Ty.size_eq]; show Ty.sizes (l.map (·.2)) + 1 + _ <= _; rw [Ty.sizes_lsum]; omega⟩
 unfold Ty.fine
 exact ⟨in64_small hk, Ty.fines_of fun u hu => by obtain ⟨y, hy, rfl⟩ := List.mem_map.1 hu; exact i1 y hy⟩
theorem prec_meas {S : List Tk -> PR Ty} (hS : TM S) (ts : List Tk) (x : Ty) (r : List Tk) (h : precS nameB S ts = .ok x r) : x.fine /\ x.size + r.length <= ts.length := by
 unfold precS at h
 obtain ⟨n, s1, h1, h⟩ := PR.bind_ok h
 obtain ⟨_, s2, h2, h⟩ := PR.bind_ok h
 obtain ⟨t, s3, h3, h⟩ := PR.bind_ok h
 have := pname_le h1
 have := need_le h2
 obtain ⟨i1, m1⟩ := hS _ _ _ h3
 cases h
 refine ⟨?_, by rw [Ty.size_eq]; show t.size + 0 + 1 + _ <= _; omega⟩
 unfold Ty.fine
 exact ⟨in64_small (by omega), i1, trivial⟩
theorem psess_meas : ∀ f, TM (psess nameB f)
 | 0, _, _, _, h => by cases h
 | f + 1, ts, x, r, h => by
  have hS := psess_meas f
  rw [psess] at h
  split at h
  ·next hc =>
   have := hdt hc
   cases h
   exact ⟨fine_leaf _ _ _ _ (by omega), by rw [Ty.size_eq]; show 0 + 1 + _ <= _; omega⟩
  split at h
  ·next hc =>
   have := hdt hc
   obtain ⟨i, m⟩ := pexch_meas hS 4 (by omega) _ _ _ h
   exact ⟨i, by omega⟩
  split at h
  ·next hc =>
   have := hdt hc
   obtain ⟨i, m⟩ := pexch_meas hS 5 (by omega) _ _ _ h
   exact ⟨i, by omega⟩
  split at h
  ·next hc =>
   have := hdt hc
   obtain ⟨i, m⟩ := pchoice_meas hS f 6 (by omega) _ _ _ h
   exact ⟨i, by omega⟩
  split at h
  ·next hc =>
   have := hdt hc
   obtain ⟨i, m⟩ := pchoice_meas hS f 7 (by omega) _ _ _ h
   exact ⟨i, by omega⟩
  split at h
  ·next hc =>
   have := hdt hc
   obtain ⟨i, m⟩ := prec_meas hS _ _ _ h
   exact ⟨i, by omega⟩
  split at h
  ·next hc =>
   have := hdt hc
   obtain ⟨t, s1, h1, h⟩ := PR.bind_ok h
   obtain ⟨_, s2, h2, h⟩ := PR.bind_ok h
   obtain ⟨i, m⟩ := hS _ _ _ h1
   have := need_le h2
   cases h
   exact ⟨i, by omega⟩
  ·exact pvar_meas _ _ _ h
mutual
def Pr.zz : Pr -> Prop
 | .mk k _ _ _ _ t ps => (k = 6 \/ t = zT) /\ Pr.zzs ps
def Pr.zzs : List Pr -> Prop
 | [] => True
 | p :: r => p.zz /\ Pr.zzs r
end
def Pr.mu (p : Pr) : Nat := p.size + p.typ
def Pr.ii (p : Pr) : Prop := p.fine /\ p.zz
theorem Pr.fines_mk : ∀ {l : List Pr}, (∀ u ∈ l, u.fine) -> Pr.fines l
 | [], _ => trivial
 | _ :: _, h => ⟨h _ (by simp), Pr.fines_mk fun u hu => h u (by simp [hu])⟩
theorem Pr.zzs_of : ∀ {l : List Pr}, (∀ u ∈ l, u.zz) -> Pr.zzs l
 | [], _ => trivial
 | _ :: _, h => ⟨h _ (by simp), Pr.zzs_of fun u hu => h u (by simp [hu])⟩
theorem zT_fine : zT.fine := fine_leaf 0 0 0 ⟨#[]⟩ (by omega)
theorem Pr.ii_mk {k : Int} {c x : ByteArray} {ls : List ByteArray} {vs : List Vl} {t : Ty} {ps : List Pr} (hk : 0 <= k /\ k <= 100) (ht : t.fine) (hz : k = 6 \/ t = zT) (hp : ∀ u ∈ ps, u.ii) : (Pr.mk k c x ls vs t ps).ii := by
 refine ⟨?_, ?_⟩
 ·unfold Pr.fine
  exact ⟨in64_small hk, ht, Pr.fines_mk fun u hu => (hp u hu).1⟩
 ·unfold Pr.zz
  exact ⟨hz, Pr.zzs_of fun u hu => (hp u hu).2⟩
theorem mu_mk (k : Int) (c x : ByteArray) (ls : List ByteArray) (vs : List Vl) (t : Ty) (ps : List Pr) : (Pr.mk k c x ls vs t ps).mu = 1 + (if k = 6 then t.size else 0) + lsum Pr.mu ps := by
 have h : ∀ ps : List Pr, Pr.sizes ps + Pr.typs ps = lsum Pr.mu ps := by
  intro ps
  induction ps with
  | nil => rfl
  | cons p r ih =>
   show p.size + Pr.sizes r + (p.typ + Pr.typs r) = p.size + p.typ + lsum Pr.mu r
   omega
 have := h ps
 show Pr.size _ + Pr.typ _ = _
 rw [Pr.size, Pr.typ]
 omega
theorem lsum_one {α : Type} (μ : α -> Nat) (x : α) : lsum μ [x] = μ x := rfl
theorem lsum_append {α : Type} (μ : α -> Nat) : ∀ l m : List α, lsum μ (l ++ m) = lsum μ l + lsum μ m
 | [], m => by show lsum μ m = 0 + _; omega
 | x :: r, m => by show μ x + lsum μ (r ++ m) = μ x + lsum μ r + _; rw [lsum_append μ r m]; omega
abbrev PM (S : List Tk -> PR Pr) : Prop := Meas Pr.mu Pr.ii S
theorem parOf_meas {l : List Pr} (h : ∀ x ∈ l, x.ii) (hl : 1 <= l.length) : (parOf l).ii /\ (parOf l).mu + 1 <= lsum Pr.mu l + l.length := by
 match l, h, hl with
 | [p], h, _ => exact ⟨h p (by simp), by show p.mu + 1 <= p.mu + 0 + 1; omega⟩
 | p :: q :: r, h, _ =>
  refine ⟨Pr.ii_mk (by omega) zT_fine (.inr rfl) h, ?_⟩
  show (Pr.mk 7 ⟨#[]⟩ ⟨#[]⟩ [] [] zT (p :: q :: r)).mu + 1 <= _
  rw [mu_mk, if_neg (by decide)]
  simp only [List.length_cons]
  omega
theorem prest_meas {S : List Tk -> PR Pr} (hS : PM S) (ts : List Tk) (x : Pr) (r : List Tk) (h : prestS S ts = .ok x r) : x.ii /\ x.mu + r.length + 1 <= ts.length := by
 unfold prestS at h
 obtain ⟨_, s1, h1, h⟩ := PR.bind_ok h
 have := need_le h1
 obtain ⟨i, m⟩ := hS _ _ _ h
 exact ⟨i, by omega⟩
theorem one_ii {p : Pr} (h : p.ii) : ∀ u ∈ [p], u.ii := fun u hu => by rw [List.mem_singleton.1 hu]; exact h
theorem psend_meas {S : List Tk -> PR Pr} (hS : PM S) (c : ByteArray) (ts : List Tk) (x : Pr) (r : List Tk) (h : psendS nameB S c ts = .ok x r) : x.ii /\ x.mu + r.length <= ts.length := by
 unfold psendS at h
 obtain ⟨_, s1, h1, h⟩ := PR.bind_ok h
 obtain ⟨v, s2, h2, h⟩ := PR.bind_ok h
 obtain ⟨_, s3, h3, h⟩ := PR.bind_ok h
 obtain ⟨p, s4, h4, h⟩ := PR.bind_ok h
 have := need_le h1
 have := pval_le _ _ _ h2
 have := need_le h3
 obtain ⟨i, m⟩ := prest_meas hS _ _ _ h4
 cases h
 exact ⟨Pr.ii_mk (by omega) zT_fine (.inr rfl) (one_ii i), by rw [mu_mk, if_neg (by decide), lsum_one]; omega⟩
theorem precv_meas {S : List Tk -> PR Pr} (hS : PM S) (c : ByteArray) (ts : List Tk) (x : Pr) (r : List Tk) (h : precvS nameB S c ts = .ok x r) : x.ii /\ x.mu + r.length <= ts.length := by
 unfold precvS at h
 obtain ⟨_, s1, h1, h⟩ := PR.bind_ok h
 obtain ⟨v, s2, h2, h⟩ := PR.bind_ok h
 obtain ⟨_, s3, h3, h⟩ := PR.bind_ok h
 obtain ⟨p, s4, h4, h⟩ := PR.bind_ok h
 have := need_le h1
 have := pname_le h2
 have := need_le h3
 obtain ⟨i, m⟩ := prest_meas hS _ _ _ h4
 cases h
 exact ⟨Pr.ii_mk (by omega) zT_fine (.inr rfl) (one_ii i), by rw [mu_mk, if_neg (by decide), lsum_one]; omega⟩
theorem psel_meas {S : List Tk -> PR Pr} (hS : PM S) (c : ByteArray) (ts : List Tk) (x : Pr) (r : List Tk) (h : pselS nameB S c ts = .ok x r) : x.ii /\ x.mu + r.length <= ts.length := by
 unfold pselS at h
 obtain ⟨v, s2, h2, h⟩ := PR.bind_ok h
 obtain ⟨p, s4, h4, h⟩ := PR.bind_ok h
 have := pname_le h2
 obtain ⟨i, m⟩ := prest_meas hS _ _ _ h4
 cases h
 exact ⟨Pr.ii_mk (by omega) zT_fine (.inr rfl) (one_ii i), by rw [mu_mk, if_neg (by decide), lsum_one]; omega⟩
theorem lsum_map {α β : Type} (μ : β -> Nat) (f : α -> β) : ∀ l : List α, lsum μ (l.map f) = lsum (fun x => μ (f x)) l
 | [] => rfl
 | x :: r => by show μ (f x) + lsum μ (r.map f) = μ (f x) + lsum _ r; rw [lsum_map μ f r]
theorem pbra_meas {P : List Tk -> PR Pr} (hP : PM P) (g : Nat) (c : ByteArray) (ts : List Tk) (x : Pr) (r : List Tk) (h : pbraS nameB P g c ts = .ok x r) : x.ii /\ x.mu + r.length <= ts.length := by
 unfold pbraS at h
 obtain ⟨l, s2, h2, h⟩ := PR.bind_ok h
 obtain ⟨i, m⟩ := pcases_meas hP _ _ _ _ h2
 cases h
 exact ⟨Pr.ii_mk (by omega) zT_fine (.inr rfl) (fun u hu => by obtain ⟨y, hy, rfl⟩ := List.mem_map.1 hu; exact i y hy), by rw [mu_mk, if_neg (by decide), lsum_map]; omega⟩
theorem plistUpTo_meas {α : Type} {μ : α -> Nat} {I : α -> Prop} {F : List Tk -> PR α} (hF : Meas μ I F) (s : ByteArray) (g : Nat) : ∀ ts l r, plistUpTo F s g ts = .ok l r -> (∀ x ∈ l, I x) /\ lsum μ l + r.length + 1 <= ts.length := by
 intro ts l r h
 unfold plistUpTo at h
 split at h
 ·next hc =>
  have := hdt hc
  cases h
  exact ⟨(fun x hx => by cases hx), (by show 0 + _ + 1 <= _; omega)⟩
 ·obtain ⟨m, s1, h1, h⟩ := PR.bind_ok h
  obtain ⟨_, s2, h2, h⟩ := PR.bind_ok h
  obtain ⟨i, k⟩ := plist_meas hF _ _ _ _ h1
  have := need_le h2
  cases h
  exact ⟨i, by omega⟩
theorem pval_meas : Meas (fun _ : Vl => 0) (fun _ => True) (pval nameB) := fun ts x r h => ⟨trivial, by have := pval_le _ _ _ h; show 0 + r.length <= ts.length; omega⟩
theorem pcall_meas (g : Nat) (c : ByteArray) (ts : List Tk) (x : Pr) (r : List Tk) (h : pcallS nameB g c ts = .ok x r) : x.ii /\ x.mu + r.length <= ts.length := by
 unfold pcallS at h
 obtain ⟨_, s1, h1, h⟩ := PR.bind_ok h
 obtain ⟨l, s2, h2, h⟩ := PR.bind_ok h
 have := need_le h1
 obtain ⟨_, m⟩ := plistUpTo_meas pval_meas _ _ _ _ _ h2
 cases h
 exact ⟨Pr.ii_mk (by omega) zT_fine (.inr rfl) (fun u hu => by cases hu), by rw [mu_mk, if_neg (by decide)]; show 1 + 0 + 0 + _ <= ts.length; omega⟩
theorem pnew_meas {T : List Tk -> PR Ty} {S : List Tk -> PR Pr} (hT : TM T) (hS : PM S) (ts : List Tk) (x : Pr) (r : List Tk) (h : pnewS nameB T S ts = .ok x r) : x.ii /\ x.mu + r.length <= ts.length := by
 unfold pnewS at h
 obtain ⟨_, s1, h1, h⟩ := PR.bind_ok h
 obtain ⟨a, s2, h2, h⟩ := PR.bind_ok h
 obtain ⟨_, s3, h3, h⟩ := PR.bind_ok h
 obtain ⟨b, s4, h4, h⟩ := PR.bind_ok h
 obtain ⟨_, s5, h5, h⟩ := PR.bind_ok h
 obtain ⟨t, s6, h6, h⟩ := PR.bind_ok h
 obtain ⟨_, s7, h7, h⟩ := PR.bind_ok h
 obtain ⟨p, s8, h8, h⟩ := PR.bind_ok h
 have := need_le h1
 have := pname_le h2
 have := need_le h3
 have := pname_le h4
 have := need_le h5
 obtain ⟨i1, m1⟩ := hT _ _ _ h6
 have := need_le h7
 obtain ⟨i2, m2⟩ := hS _ _ _ h8
 cases h
 exact ⟨Pr.ii_mk (by omega) i1 (.inl rfl) (one_ii i2), by rw [mu_mk, if_pos rfl, lsum_one]; omega⟩
theorem pnamed_meas {P S : List Tk -> PR Pr} (hP : PM P) (hS : PM S) (g : Nat) (c : ByteArray) (ts : List Tk) (x : Pr) (r : List Tk) (h : pnamedS nameB P S g c ts = .ok x r) : x.ii /\ x.mu + r.length <= ts.length := by
 unfold pnamedS at h
 split at h
 ·next hc => have := hdt hc; obtain ⟨i, m⟩ := psend_meas hS _ _ _ _ h; exact ⟨i, by omega⟩
 split at h
 ·next hc => have := hdt hc; obtain ⟨i, m⟩ := precv_meas hS _ _ _ _ h; exact ⟨i, by omega⟩
 split at h
 ·next hc => have := hdt hc; obtain ⟨i, m⟩ := psel_meas hS _ _ _ _ h; exact ⟨i, by omega⟩
 split at h
 ·next hc => have := hdt hc; obtain ⟨i, m⟩ := pbra_meas hP _ _ _ _ _ h; exact ⟨i, by omega⟩
 ·exact pcall_meas _ _ _ _ _ h
def PartsM (f : Nat) (b : Bool) : Prop := ∀ ts l r, pparts nameB f b ts = .ok l r -> (∀ x ∈ l, x.ii) /\ 1 <= l.length /\ lsum Pr.mu l + l.length + r.length <= ts.length + 1
theorem par_meas {f : Nat} {b : Bool} (h : PartsM f b) : PM (fun r => (pparts nameB f b r).bind fun l r => .ok (parOf l) r) := by
 intro ts x r hx
 obtain ⟨l, s, h1, h2⟩ := PR.bind_ok hx
 obtain ⟨i, hl, m⟩ := h _ _ _ h1
 obtain ⟨j, k⟩ := parOf_meas i hl
 cases h2
 exact ⟨j, by omega⟩
theorem one_parts {x : Pr} {r ts : List Tk} (i : x.ii) (m : x.mu + r.length <= ts.length) : (∀ u ∈ [x], u.ii) /\ 1 <= [x].length /\ lsum Pr.mu [x] + [x].length + r.length <= ts.length + 1 :=
 ⟨one_ii i, by simp, by rw [lsum_one]; simp only [List.length_singleton]; omega⟩
theorem pparts_meas : ∀ f b, PartsM f b
 | 0, _, _, _, _, h => by cases h
 | f + 1, false, ts, l, r, h => by
  have hT := pparts_meas f true
  have hF := pparts_meas f false
  rw [pparts] at h
  split at h
  ·next hc =>
   have := hdt hc
   cases h
   exact one_parts (Pr.ii_mk (by omega) zT_fine (.inr rfl) (fun u hu => by cases hu)) (by rw [mu_mk, if_neg (by decide)]; show 1 + 0 + 0 + _ <= _; omega)
  split at h
  ·next hc =>
   have := hdt hc
   obtain ⟨m, s1, h1, h⟩ := PR.bind_ok h
   obtain ⟨_, s2, h2, h⟩ := PR.bind_ok h
   obtain ⟨i, hl, k⟩ := hT _ _ _ h1
   obtain ⟨j, k2⟩ := parOf_meas i hl
   have := need_le h2
   cases h
   exact one_parts j (by omega)
  split at h
  ·next hc =>
   have := hdt hc
   obtain ⟨p, s1, h1, h⟩ := PR.bind_ok h
   obtain ⟨i, m⟩ := pnew_meas (psess_meas f) (par_meas hF) _ _ _ h1
   cases h
   exact one_parts i (by omega)
  ·obtain ⟨c, s1, h1, h⟩ := PR.bind_ok h
   obtain ⟨p, s2, h2, h⟩ := PR.bind_ok h
   have := pname_le h1
   obtain ⟨i, m⟩ := pnamed_meas (par_meas hT) (par_meas hF) _ _ _ _ _ h2
   cases h
   exact one_parts i (by omega)
 | f + 1, true, ts, l, r, h => by
  have hT := pparts_meas f true
  have hF := pparts_meas f false
  rw [pparts] at h
  obtain ⟨l1, s1, h1, h⟩ := PR.bind_ok h
  have h3 : (∀ x ∈ l1, x.ii) /\ 1 <= l1.length /\ lsum Pr.mu l1 + l1.length + s1.length <= ts.length + 1 := by
   split at h1
   ·next hc =>
    have := hdt hc
    obtain ⟨m, s2, h4, h5⟩ := PR.bind_ok h1
    obtain ⟨_, s3, h6, h7⟩ := PR.bind_ok h5
    obtain ⟨i, hl, k⟩ := hT _ _ _ h4
    have := need_le h6
    cases h7
    exact ⟨i, hl, by omega⟩
   ·exact hF _ _ _ h1
  obtain ⟨i, hl, k⟩ := h3
  split at h
  ·next hc =>
   have := hdt hc
   obtain ⟨m, s2, h4, h⟩ := PR.bind_ok h
   obtain ⟨i2, hl2, k2⟩ := hT _ _ _ h4
   cases h
   refine ⟨fun x hx => ?_, by rw [List.length_append]; omega, by rw [lsum_append, List.length_append]; omega⟩
   rcases List.mem_append.1 hx with hx | hx
   ·exact i x hx
   ·exact i2 x hx
  ·cases h
   exact ⟨i, hl, k⟩
theorem pproc_meas (f : Nat) : PM (pproc nameB f) := par_meas (pparts_meas f true)
mutual
theorem Pr.good : ∀ (p : Pr) (d : Nat), p.zz -> p.deepP d = false -> p.typ <= 100000 -> p.tf /\ p.depth <= d
 | .mk k c x ls vs t ps, d, hz, hd, ht => by
  unfold Pr.zz at hz
  rw [Pr.deepP] at hd
  rw [Pr.typ] at ht
  rw [Bool.or_eq_false_iff, Bool.or_eq_false_iff, decide_eq_false_iff_not, decide_eq_false_iff_not] at hd
  obtain ⟨⟨h0, h1⟩, h2⟩ := hd
  obtain ⟨g1, g2⟩ := Pr.goods ps (d - 1) hz.2 h2 (by omega)
  have hs : t.size <= 100000 := by
   rcases hz.1 with h | h
   ·rw [if_pos h] at ht; omega
   ·rw [h, Ty.size_eq]; show 0 + 1 <= _; omega
  refine ⟨?_, by rw [Pr.depth]; omega⟩
  unfold Pr.tf
  exact ⟨⟨hs, by omega⟩, g1⟩
theorem Pr.goods : ∀ (l : List Pr) (d : Nat), Pr.zzs l -> Pr.deepPs l d = false -> Pr.typs l <= 100000 -> Pr.tfs l /\ Pr.depths l <= d
 | [], _, _, _, _ => ⟨trivial, Nat.zero_le _⟩
 | p :: r, d, hz, hd, ht => by
  unfold Pr.zzs at hz
  rw [Pr.deepPs, Bool.or_eq_false_iff] at hd
  have ht2 : p.typ + Pr.typs r <= 100000 := ht
  obtain ⟨a1, a2⟩ := Pr.good p d hz.1 hd.1 (by omega)
  obtain ⟨b1, b2⟩ := Pr.goods r d hz.2 hd.2 (by omega)
  refine ⟨?_, ?_⟩
  ·unfold Pr.tfs; exact ⟨a1, b1⟩
  ·rw [Pr.depths]; omega
end
def Pm.mu (a : Pm) : Nat := a.t.size
def Pm.ii (a : Pm) : Prop := a.t.fine
def Df.ii (d : Df) : Prop := (∀ a ∈ d.ms, a.t.fine) /\ d.b.ii
theorem pparam_meas (f : Nat) : Meas Pm.mu Pm.ii (pparam nameB f) := by
 intro ts x r h
 unfold pparam at h
 obtain ⟨n, s1, h1, h⟩ := PR.bind_ok h
 obtain ⟨_, s2, h2, h⟩ := PR.bind_ok h
 obtain ⟨t, s3, h3, h⟩ := PR.bind_ok h
 have := pname_le h1
 have := need_le h2
 obtain ⟨i, m⟩ := pany_meas (psess_meas f) _ _ _ h3
 cases h
 exact ⟨i, by show t.size + _ <= _; omega⟩
theorem pbody_meas (f : Nat) (ts : List Tk) (x : Pr) (r : List Tk) (h : pbody nameB f ts = .ok x r) : x.ii /\ x.mu + r.length + 2 <= ts.length := by
 unfold pbody at h
 obtain ⟨_, s1, h1, h⟩ := PR.bind_ok h
 obtain ⟨p, s2, h2, h⟩ := PR.bind_ok h
 obtain ⟨_, s3, h3, h⟩ := PR.bind_ok h
 have := need_le h1
 obtain ⟨i, m⟩ := pproc_meas f _ _ _ h2
 have := need_le h3
 cases h
 exact ⟨i, by omega⟩
theorem pms_lsum : ∀ l : List Pm, sumN (l.map fun a => a.t.size) = lsum Pm.mu l
 | [] => rfl
 | a :: r => by show a.t.size + sumN _ = a.t.size + lsum _ r; rw [pms_lsum r]
theorem pdef_meas (f : Nat) (ts : List Tk) (d : Df) (r : List Tk) (h : pdef nameB f ts = .ok d r) : d.ii /\ d.all + r.length + 1 <= ts.length := by
 unfold pdef at h
 obtain ⟨n, s1, h1, h⟩ := PR.bind_ok h
 obtain ⟨_, s2, h2, h⟩ := PR.bind_ok h
 obtain ⟨l, s3, h3, h⟩ := PR.bind_ok h
 obtain ⟨b, s4, h4, h⟩ := PR.bind_ok h
 have := pname_le h1
 have := need_le h2
 obtain ⟨i, m⟩ := plistUpTo_meas (pparam_meas f) _ _ _ _ _ h3
 obtain ⟨i2, m2⟩ := pbody_meas f _ _ _ h4
 cases h
 refine ⟨⟨i, i2⟩, ?_⟩
 have e : sumN (Df.pms ⟨n, l, b⟩) = lsum Pm.mu l := pms_lsum l
 have e2 : b.mu = b.size + b.typ := rfl
 unfold Df.all
 rw [e]
 show b.size + b.typ + _ + _ + 1 <= _
 omega
theorem pdefs_meas (f : Nat) : ∀ g ts l r, pdefs nameB f g ts = .ok l r -> (∀ d ∈ l, d.ii) /\ lsum Df.all l + l.length + r.length <= ts.length
 | 0, _, _, _, h => by cases h
 | g + 1, ts, l, r, h => by
  rw [pdefs] at h
  split at h
  ·next hc =>
   have := hdt hc
   obtain ⟨d, s1, h1, h⟩ := PR.bind_ok h
   obtain ⟨m, s2, h2, h⟩ := PR.bind_ok h
   obtain ⟨i, k⟩ := pdef_meas f _ _ _ h1
   obtain ⟨i2, k2⟩ := pdefs_meas f g _ _ _ h2
   cases h
   refine ⟨fun x hx => ?_, by show d.all + lsum Df.all m + (m.length + 1) + _ <= _; omega⟩
   rcases List.mem_cons.1 hx with rfl | hx
   ·exact i
   ·exact i2 x hx
  ·cases h
   exact ⟨fun x hx => (by cases hx), by show 0 + 0 + _ <= _; omega⟩
theorem all_lsum : ∀ l : List Df, sumN (l.map Df.all) = lsum Df.all l
 | [] => rfl
 | a :: r => by show a.all + sumN _ = a.all + lsum _ r; rw [all_lsum r]
theorem lsum_mem {α : Type} (μ : α -> Nat) {x : α} : ∀ {l : List α}, x ∈ l -> μ x <= lsum μ l
 | y :: r, h => by
  rcases List.mem_cons.1 h with rfl | h
  ·show μ x <= μ x + lsum μ r; omega
  ·have := lsum_mem μ h; show μ x <= μ y + lsum μ r; omega
theorem pprog_meas (f : Nat) (ts : List Tk) (g : Pg) (r : List Tk) (h : pprog nameB f ts = .ok g r) : (∀ d ∈ g.ds, d.ii) /\ g.m.ii /\ g.total <= ts.length /\ g.ds.length <= ts.length := by
 unfold pprog at h
 obtain ⟨l, s1, h1, h⟩ := PR.bind_ok h
 obtain ⟨_, s2, h2, h⟩ := PR.bind_ok h
 obtain ⟨m, s3, h3, h⟩ := PR.bind_ok h
 obtain ⟨i, k⟩ := pdefs_meas f _ _ _ _ h1
 have := need_le h2
 obtain ⟨i2, k2⟩ := pbody_meas f _ _ _ h3
 have e2 : m.mu = m.size + m.typ := rfl
 cases h
 refine ⟨i, i2, ?_, by show l.length <= _; omega⟩
 rw [Pg.total_eq]
 show m.size + m.typ + sumN (l.map Df.all) <= _
 rw [all_lsum]
 omega
theorem good_of {g : Pg} {n : Nat} (hn : n <= 100000) (hd : ∀ d ∈ g.ds, d.ii) (hm : g.m.ii) (ht : g.total <= n) (hl : g.ds.length <= n) (h1 : g.ds.any Df.deep = false) (h2 : g.m.deepP 100 = false) : GGood g /\ g.total <= 1000000000 := by
 rw [Pg.total_eq, all_lsum] at ht
 have hdeep : ∀ d ∈ g.ds, d.deep = false := fun d hd => by
  cases h : d.deep with
  | false => rfl
  | true => have : g.ds.any Df.deep = true := List.any_eq_true.2 ⟨d, hd, h⟩; rw [h1] at this; cases this
 have hall : ∀ d ∈ g.ds, d.all <= 100000 := fun d hd => by have := lsum_mem Df.all hd; omega
 have body : ∀ p : Pr, p.ii -> p.deepP 100 = false -> p.size + p.typ <= 100000 -> PGood p /\ p.depth <= 1000 /\ p.size <= 1000000 := fun p hi hd hs => by
  obtain ⟨a, b⟩ := Pr.good p 100 hi.2 hd (by omega)
  exact ⟨⟨hi.1, a⟩, by omega, by omega⟩
 refine ⟨⟨by omega, fun d hdm a ha => ⟨(hd d hdm).1 a ha, ?_, ?_⟩, fun p hp => ?_⟩, by rw [Pg.total_eq, all_lsum]; omega⟩
 ·have h3 := hall d hdm
  have h4 : Pm.mu a <= lsum Pm.mu d.ms := lsum_mem Pm.mu ha
  unfold Df.all at h3
  rw [show sumN d.pms = lsum Pm.mu d.ms from pms_lsum _] at h3
  have : Pm.mu a = a.t.size := rfl
  omega
 ·have h3 := hdeep d hdm
  unfold Df.deep at h3
  rw [Bool.or_eq_false_iff] at h3
  have h4 := h3.1
  rcases Nat.lt_or_ge 100 a.t.depth with h | h
  ·have : d.ms.any (fun a => decide (100 < a.t.depth)) = true := List.any_eq_true.2 ⟨a, ha, decide_eq_true h⟩
   rw [h4] at this; cases this
  ·omega
 ·unfold Pg.bodies at hp
  rcases List.mem_append.1 hp with hp | hp
  ·obtain ⟨d, hdm, rfl⟩ := List.mem_map.1 hp
   have h3 := hdeep d hdm
   unfold Df.deep at h3
   rw [Bool.or_eq_false_iff] at h3
   have h4 := hall d hdm
   unfold Df.all at h4
   exact body d.b (hd d hdm).2 h3.2 (by omega)
  ·rw [List.mem_singleton.1 hp]
   exact body g.m hm h2 (by omega)
theorem good_pr {p : Pr} {n : Nat} (hn : n <= 100000) (hi : p.ii) (hm : p.mu <= n) (h2 : p.deepP 100 = false) : GGood ⟨[], p⟩ /\ (⟨[], p⟩ : Pg).total <= 1000000000 :=
 good_of (g := ⟨[], p⟩) hn (fun _ h => by cases h) hi (by rw [Pg.total_eq]; show p.size + p.typ + 0 <= n; have : p.mu = p.size + p.typ := rfl; omega) (Nat.zero_le _) rfl h2
end Go.Proofs.YtejaboajgecpaaaGreatDoor
