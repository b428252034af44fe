/- Parsing: lemmas. -/
import Derived.Test.YtejaboajgecpaaaGreatDoorQn22
set_option maxHeartbeats 16000000
set_option maxRecDepth 100000
namespace Go.Proofs.YtejaboajgecpaaaGreatDoor
open Go.Lib (hid)
open Go.RowKit Go.Deep Go.Shelf
theorem c14p {w : World} {X : Nat} {T : TypeId} {v0 v1 v2 v3 v4 v5 v6 v7 v8 v9 v10 v11 v12 v13 : Value} (h : w.heap[X]? = some (.cells #[v0, v1, v2, v3, v4, v5, v6, v7, v8, v9, v10, v11, v12, v13] T (0, 0))) : (w.cell? ⟨X, 0, none⟩ = some v0 /\ w.cell? ⟨X, 1, none⟩ = some v1 /\ w.cell? ⟨X, 2, none⟩ = some v2 /\ w.cell? ⟨X, 3, none⟩ = some v3 /\ w.cell? ⟨X, 4, none⟩ = some v4 /\ w.cell? ⟨X, 5, none⟩ = some v5 /\ w.cell? ⟨X, 6, none⟩ = some v6 /\ w.cell? ⟨X, 7, none⟩ = some v7 /\ w.cell? ⟨X, 8, none⟩ = some v8 /\ w.cell? ⟨X, 9, none⟩ = some v9 /\ w.cell? ⟨X, 10, none⟩ = some v10 /\ w.cell? ⟨X, 11, none⟩ = some v11 /\ w.cell? ⟨X, 12, none⟩ = some v12 /\ w.cell? ⟨X, 13, none⟩ = some v13) /\ w.frozen? ⟨X, 0, none⟩ = false /\ w.frozen? ⟨X, 1, none⟩ = false /\ w.frozen? ⟨X, 2, none⟩ = false /\ w.frozen? ⟨X, 3, none⟩ = false /\ w.frozen? ⟨X, 4, none⟩ = false /\ w.frozen? ⟨X, 5, none⟩ = false /\ w.frozen? ⟨X, 6, none⟩ = false /\ w.frozen? ⟨X, 7, none⟩ = false /\ w.frozen? ⟨X, 8, none⟩ = false /\ w.frozen? ⟨X, 9, none⟩ = false /\ w.frozen? ⟨X, 10, none⟩ = false /\ w.frozen? ⟨X, 11, none⟩ = false /\ w.frozen? ⟨X, 12, none⟩ = false /\ w.frozen? ⟨X, 13, none⟩ = false := by
 refine ⟨⟨?_, ?_, ?_, ?_, ?_, ?_, ?_, ?_, ?_, ?_, ?_, ?_, ?_, ?_⟩, frozen_of_block h 0, frozen_of_block h 1, frozen_of_block h 2, frozen_of_block h 3, frozen_of_block h 4, frozen_of_block h 5, frozen_of_block h 6, frozen_of_block h 7, frozen_of_block h 8, frozen_of_block h 9, frozen_of_block h 10, frozen_of_block h 11, frozen_of_block h 12, frozen_of_block h 13⟩ <;> simp [World.cell?, h]
abbrev put14 (w : World) (X : Nat) (v0 v1 v2 v3 v4 v5 v6 v7 v8 v9 v10 v11 v12 v13 : Value) : World := ((((((((((((((w.setCell ⟨X, 0, none⟩ v0).setCell ⟨X, 1, none⟩ v1).setCell ⟨X, 2, none⟩ v2).setCell ⟨X, 3, none⟩ v3).setCell ⟨X, 4, none⟩ v4).setCell ⟨X, 5, none⟩ v5).setCell ⟨X, 6, none⟩ v6).setCell ⟨X, 7, none⟩ v7).setCell ⟨X, 8, none⟩ v8).setCell ⟨X, 9, none⟩ v9).setCell ⟨X, 10, none⟩ v10).setCell ⟨X, 11, none⟩ v11).setCell ⟨X, 12, none⟩ v12).setCell ⟨X, 13, none⟩ v13)
theorem fill14 {w : World} {X : Nat} {T : TypeId} {v0 v1 v2 v3 v4 v5 v6 v7 v8 v9 v10 v11 v12 v13 : Value} (h : w.heap[X]? = some (.cells #[v0, v1, v2, v3, v4, v5, v6, v7, v8, v9, v10, v11, v12, v13] T (0, 0))) (u0 u1 u2 u3 u4 u5 u6 u7 u8 u9 u10 u11 u12 u13 : Value) : (put14 w X u0 u1 u2 u3 u4 u5 u6 u7 u8 u9 u10 u11 u12 u13).heap[X]? = some (.cells #[u0, u1, u2, u3, u4, u5, u6, u7, u8, u9, u10, u11, u12, u13] T (0, 0)) := by
 have h0 : (w.setCell ⟨X, 0, none⟩ u0).heap[X]? = some (.cells #[u0, v1, v2, v3, v4, v5, v6, v7, v8, v9, v10, v11, v12, v13] T (0, 0)) := set_block h 0 u0
 clear h
 have h1 : ((w.setCell ⟨X, 0, none⟩ u0).setCell ⟨X, 1, none⟩ u1).heap[X]? = some (.cells #[u0, u1, v2, v3, v4, v5, v6, v7, v8, v9, v10, v11, v12, v13] T (0, 0)) := set_block h0 1 u1
 clear h0
 have h2 : (((w.setCell ⟨X, 0, none⟩ u0).setCell ⟨X, 1, none⟩ u1).setCell ⟨X, 2, none⟩ u2).heap[X]? = some (.cells #[u0, u1, u2, v3, v4, v5, v6, v7, v8, v9, v10, v11, v12, v13] T (0, 0)) := set_block h1 2 u2
 clear h1
 have h3 : ((((w.setCell ⟨X, 0, none⟩ u0).setCell ⟨X, 1, none⟩ u1).setCell ⟨X, 2, none⟩ u2).setCell ⟨X, 3, none⟩ u3).heap[X]? = some (.cells #[u0, u1, u2, u3, v4, v5, v6, v7, v8, v9, v10, v11, v12, v13] T (0, 0)) := set_block h2 3 u3
 clear h2
 have h4 : (((((w.setCell ⟨X, 0, none⟩ u0).setCell ⟨X, 1, none⟩ u1).setCell ⟨X, 2, none⟩ u2).setCell ⟨X, 3, none⟩ u3).setCell ⟨X, 4, none⟩ u4).heap[X]? = some (.cells #[u0, u1, u2, u3, u4, v5, v6, v7, v8, v9, v10, v11, v12, v13] T (0, 0)) := set_block h3 4 u4
 clear h3
 have h5 : ((((((w.setCell ⟨X, 0, none⟩ u0).setCell ⟨X, 1, none⟩ u1).setCell ⟨X, 2, none⟩ u2).setCell ⟨X, 3, none⟩ u3).setCell ⟨X, 4, none⟩ u4).setCell ⟨X, 5, none⟩ u5).heap[X]? = some (.cells #[u0, u1, u2, u3, u4, u5, v6, v7, v8, v9, v10, v11, v12, v13] T (0, 0)) := set_block h4 5 u5
 clear h4
 have h6 : (((((((w.setCell ⟨X, 0, none⟩ u0).setCell ⟨X, 1, none⟩ u1).setCell ⟨X, 2, none⟩ u2).setCell ⟨X, 3, none⟩ u3).setCell ⟨X, 4, none⟩ u4).setCell ⟨X, 5, none⟩ u5).setCell ⟨X, 6, none⟩ u6).heap[X]? = some (.cells #[u0, u1, u2, u3, u4, u5, u6, v7, v8, v9, v10, v11, v12, v13] T (0, 0)) := set_block h5 6 u6
 clear h5
 have h7 : ((((((((w.setCell ⟨X, 0, none⟩ u0).setCell ⟨X, 1, none⟩ u1).setCell ⟨X, 2, none⟩ u2).setCell ⟨X, 3, none⟩ u3).setCell ⟨X, 4, none⟩ u4).setCell ⟨X, 5, none⟩ u5).setCell ⟨X, 6, none⟩ u6).setCell ⟨X, 7, none⟩ u7).heap[X]? = some (.cells #[u0, u1, u2, u3, u4, u5, u6, u7, v8, v9, v10, v11, v12, v13] T (0, 0)) := set_block h6 7 u7
 clear h6
 have h8 : (((((((((w.setCell ⟨X, 0, none⟩ u0).setCell ⟨X, 1, none⟩ u1).setCell ⟨X, 2, none⟩ u2).setCell ⟨X, 3, none⟩ u3).setCell ⟨X, 4, none⟩ u4).setCell ⟨X, 5, none⟩ u5).setCell ⟨X, 6, none⟩ u6).setCell ⟨X, 7, none⟩ u7).setCell ⟨X, 8, none⟩ u8).heap[X]? = some (.cells #[u0, u1, u2, u3, u4, u5, u6, u7, u8, v9, v10, v11, v12, v13] T (0, 0)) := set_block h7 8 u8
 clear h7
 have h9 : ((((((((((w.setCell ⟨X, 0, none⟩ u0).setCell ⟨X, 1, none⟩ u1).setCell ⟨X, 2, none⟩ u2).setCell ⟨X, 3, none⟩ u3).setCell ⟨X, 4, none⟩ u4).setCell ⟨X, 5, none⟩ u5).setCell ⟨X, 6, none⟩ u6).setCell ⟨X, 7, none⟩ u7).setCell ⟨X, 8, none⟩ u8).setCell ⟨X, 9, none⟩ u9).heap[X]? = some (.cells #[u0, u1, u2, u3, u4, u5, u6, u7, u8, u9, v10, v11, v12, v13] T (0, 0)) := set_block h8 9 u9
 clear h8
 have h10 : (((((((((((w.setCell ⟨X, 0, none⟩ u0).setCell ⟨X, 1, none⟩ u1).setCell ⟨X, 2, none⟩ u2).setCell ⟨X, 3, none⟩ u3).setCell ⟨X, 4, none⟩ u4).setCell ⟨X, 5, none⟩ u5).setCell ⟨X, 6, none⟩ u6).setCell ⟨X, 7, none⟩ u7).setCell ⟨X, 8, none⟩ u8).setCell ⟨X, 9, none⟩ u9).setCell ⟨X, 10, none⟩ u10).heap[X]? = some (.cells #[u0, u1, u2, u3, u4, u5, u6, u7, u8, u9, u10, v11, v12, v13] T (0, 0)) := set_block h9 10 u10
 clear h9
 have h11 : ((((((((((((w.setCell ⟨X, 0, none⟩ u0).setCell ⟨X, 1, none⟩ u1).setCell ⟨X, 2, none⟩ u2).setCell ⟨X, 3, none⟩ u3).setCell ⟨X, 4, none⟩ u4).setCell ⟨X, 5, none⟩ u5).setCell ⟨X, 6, none⟩ u6).setCell ⟨X, 7, none⟩ u7).setCell ⟨X, 8, none⟩ u8).setCell ⟨X, 9, none⟩ u9).setCell ⟨X, 10, none⟩ u10).setCell ⟨X, 11, none⟩ u11).heap[X]? = some (.cells #[u0, u1, u2, u3, u4, u5, u6, u7, u8, u9, u10, u11, v12, v13] T (0, 0)) := set_block h10 11 u11
 clear h10
 have h12 : (((((((((((((w.setCell ⟨X, 0, none⟩ u0).setCell ⟨X, 1, none⟩ u1).setCell ⟨X, 2, none⟩ u2).setCell ⟨X, 3, none⟩ u3).setCell ⟨X, 4, none⟩ u4).setCell ⟨X, 5, none⟩ u5).setCell ⟨X, 6, none⟩ u6).setCell ⟨X, 7, none⟩ u7).setCell ⟨X, 8, none⟩ u8).setCell ⟨X, 9, none⟩ u9).setCell ⟨X, 10, none⟩ u10).setCell ⟨X, 11, none⟩ u11).setCell ⟨X, 12, none⟩ u12).heap[X]? = some (.cells #[u0, u1, u2, u3, u4, u5, u6, u7, u8, u9, u10, u11, u12, v13] T (0, 0)) := set_block h11 12 u12
 clear h11
 have h13 : ((((((((((((((w.setCell ⟨X, 0, none⟩ u0).setCell ⟨X, 1, none⟩ u1).setCell ⟨X, 2, none⟩ u2).setCell ⟨X, 3, none⟩ u3).setCell ⟨X, 4, none⟩ u4).setCell ⟨X, 5, none⟩ u5).setCell ⟨X, 6, none⟩ u6).setCell ⟨X, 7, none⟩ u7).setCell ⟨X, 8, none⟩ u8).setCell ⟨X, 9, none⟩ u9).setCell ⟨X, 10, none⟩ u10).setCell ⟨X, 11, none⟩ u11).setCell ⟨X, 12, none⟩ u12).setCell ⟨X, 13, none⟩ u13).heap[X]? = some (.cells #[u0, u1, u2, u3, u4, u5, u6, u7, u8, u9, u10, u11, u12, u13] T (0, 0)) := set_block h12 13 u13
 clear h12
 exact h13
theorem put14_oth {w : World} {X k : Nat} (h : k ≠ X) (v0 v1 v2 v3 v4 v5 v6 v7 v8 v9 v10 v11 v12 v13 : Value) : (put14 w X v0 v1 v2 v3 v4 v5 v6 v7 v8 v9 v10 v11 v12 v13).heap[k]? = w.heap[k]? := by
 rw [oth1 _ _ _ h, oth1 _ _ _ h, oth1 _ _ _ h, oth1 _ _ _ h, oth1 _ _ _ h, oth1 _ _ _ h, oth1 _ _ _ h, oth1 _ _ _ h, oth1 _ _ _ h, oth1 _ _ _ h, oth1 _ _ _ h, oth1 _ _ _ h, oth1 _ _ _ h, oth1 _ _ _ h]
theorem put14_size (w : World) (X : Nat) (v0 v1 v2 v3 v4 v5 v6 v7 v8 v9 v10 v11 v12 v13 : Value) : (put14 w X v0 v1 v2 v3 v4 v5 v6 v7 v8 v9 v10 v11 v12 v13).heap.size = w.heap.size := by simp [put14, World.setCell]
theorem But.put14 {P X : Nat} {w w' : World} (h : But P w w') (hX : w.heap.size <= X) (v0 v1 v2 v3 v4 v5 v6 v7 v8 v9 v10 v11 v12 v13 : Value) : But P w (put14 w' X v0 v1 v2 v3 v4 v5 v6 v7 v8 v9 v10 v11 v12 v13) := ((((((((((((((h).setX hX 0 v0).setX hX 1 v1).setX hX 2 v2).setX hX 3 v3).setX hX 4 v4).setX hX 5 v5).setX hX 6 v6).setX hX 7 v7).setX hX 8 v8).setX hX 9 v9).setX hX 10 v10).setX hX 11 v11).setX hX 12 v12).setX hX 13 v13
theorem keeps14 {c X : Nat} {w : World} (hX : X < c) (v0 v1 v2 v3 v4 v5 v6 v7 v8 v9 v10 v11 v12 v13 : Value) : Keeps (fun k => c <= k /\ k < w.heap.size) w (put14 w X v0 v1 v2 v3 v4 v5 v6 v7 v8 v9 v10 v11 v12 v13) := fun k _ hk ho _ => (put14_oth (show k ≠ X from fun e => by have := hk.1; omega) v0 v1 v2 v3 v4 v5 v6 v7 v8 v9 v10 v11 v12 v13).trans ho
theorem c13p {w : World} {X : Nat} {T : TypeId} {v0 v1 v2 v3 v4 v5 v6 v7 v8 v9 v10 v11 v12 : Value} (h : w.heap[X]? = some (.cells #[v0, v1, v2, v3, v4, v5, v6, v7, v8, v9, v10, v11, v12] T (0, 0))) : (w.cell? ⟨X, 0, none⟩ = some v0 /\ w.cell? ⟨X, 1, none⟩ = some v1 /\ w.cell? ⟨X, 2, none⟩ = some v2 /\ w.cell? ⟨X, 3, none⟩ = some v3 /\ w.cell? ⟨X, 4, none⟩ = some v4 /\ w.cell? ⟨X, 5, none⟩ = some v5 /\ w.cell? ⟨X, 6, none⟩ = some v6 /\ w.cell? ⟨X, 7, none⟩ = some v7 /\ w.cell? ⟨X, 8, none⟩ = some v8 /\ w.cell? ⟨X, 9, none⟩ = some v9 /\ w.cell? ⟨X, 10, none⟩ = some v10 /\ w.cell? ⟨X, 11, none⟩ = some v11 /\ w.cell? ⟨X, 12, none⟩ = some v12) /\ w.frozen? ⟨X, 0, none⟩ = false /\ w.frozen? ⟨X, 1, none⟩ = false /\ w.frozen? ⟨X, 2, none⟩ = false /\ w.frozen? ⟨X, 3, none⟩ = false /\ w.frozen? ⟨X, 4, none⟩ = false /\ w.frozen? ⟨X, 5, none⟩ = false /\ w.frozen? ⟨X, 6, none⟩ = false /\ w.frozen? ⟨X, 7, none⟩ = false /\ w.frozen? ⟨X, 8, none⟩ = false /\ w.frozen? ⟨X, 9, none⟩ = false /\ w.frozen? ⟨X, 10, none⟩ = false /\ w.frozen? ⟨X, 11, none⟩ = false /\ w.frozen? ⟨X, 12, none⟩ = false := by
 refine ⟨⟨?_, ?_, ?_, ?_, ?_, ?_, ?_, ?_, ?_, ?_, ?_, ?_, ?_⟩, frozen_of_block h 0, frozen_of_block h 1, frozen_of_block h 2, frozen_of_block h 3, frozen_of_block h 4, frozen_of_block h 5, frozen_of_block h 6, frozen_of_block h 7, frozen_of_block h 8, frozen_of_block h 9, frozen_of_block h 10, frozen_of_block h 11, frozen_of_block h 12⟩ <;> simp [World.cell?, h]
abbrev put13 (w : World) (X : Nat) (v0 v1 v2 v3 v4 v5 v6 v7 v8 v9 v10 v11 v12 : Value) : World := (((((((((((((w.setCell ⟨X, 0, none⟩ v0).setCell ⟨X, 1, none⟩ v1).setCell ⟨X, 2, none⟩ v2).setCell ⟨X, 3, none⟩ v3).setCell ⟨X, 4, none⟩ v4).setCell ⟨X, 5, none⟩ v5).setCell ⟨X, 6, none⟩ v6).setCell ⟨X, 7, none⟩ v7).setCell ⟨X, 8, none⟩ v8).setCell ⟨X, 9, none⟩ v9).setCell ⟨X, 10, none⟩ v10).setCell ⟨X, 11, none⟩ v11).setCell ⟨X, 12, none⟩ v12)
theorem fill13 {w : World} {X : Nat} {T : TypeId} {v0 v1 v2 v3 v4 v5 v6 v7 v8 v9 v10 v11 v12 : Value} (h : w.heap[X]? = some (.cells #[v0, v1, v2, v3, v4, v5, v6, v7, v8, v9, v10, v11, v12] T (0, 0))) (u0 u1 u2 u3 u4 u5 u6 u7 u8 u9 u10 u11 u12 : Value) : (put13 w X u0 u1 u2 u3 u4 u5 u6 u7 u8 u9 u10 u11 u12).heap[X]? = some (.cells #[u0, u1, u2, u3, u4, u5, u6, u7, u8, u9, u10, u11, u12] T (0, 0)) := by
 have h0 : (w.setCell ⟨X, 0, none⟩ u0).heap[X]? = some (.cells #[u0, v1, v2, v3, v4, v5, v6, v7, v8, v9, v10, v11, v12] T (0, 0)) := set_block h 0 u0
 clear h
 have h1 : ((w.setCell ⟨X, 0, none⟩ u0).setCell ⟨X, 1, none⟩ u1).heap[X]? = some (.cells #[u0, u1, v2, v3, v4, v5, v6, v7, v8, v9, v10, v11, v12] T (0, 0)) := set_block h0 1 u1
 clear h0
 have h2 : (((w.setCell ⟨X, 0, none⟩ u0).setCell ⟨X, 1, none⟩ u1).setCell ⟨X, 2, none⟩ u2).heap[X]? = some (.cells #[u0, u1, u2, v3, v4, v5, v6, v7, v8, v9, v10, v11, v12] T (0, 0)) := set_block h1 2 u2
 clear h1
 have h3 : ((((w.setCell ⟨X, 0, none⟩ u0).setCell ⟨X, 1, none⟩ u1).setCell ⟨X, 2, none⟩ u2).setCell ⟨X, 3, none⟩ u3).heap[X]? = some (.cells #[u0, u1, u2, u3, v4, v5, v6, v7, v8, v9, v10, v11, v12] T (0, 0)) := set_block h2 3 u3
 clear h2
 have h4 : (((((w.setCell ⟨X, 0, none⟩ u0).setCell ⟨X, 1, none⟩ u1).setCell ⟨X, 2, none⟩ u2).setCell ⟨X, 3, none⟩ u3).setCell ⟨X, 4, none⟩ u4).heap[X]? = some (.cells #[u0, u1, u2, u3, u4, v5, v6, v7, v8, v9, v10, v11, v12] T (0, 0)) := set_block h3 4 u4
 clear h3
 have h5 : ((((((w.setCell ⟨X, 0, none⟩ u0).setCell ⟨X, 1, none⟩ u1).setCell ⟨X, 2, none⟩ u2).setCell ⟨X, 3, none⟩ u3).setCell ⟨X, 4, none⟩ u4).setCell ⟨X, 5, none⟩ u5).heap[X]? = some (.cells #[u0, u1, u2, u3, u4, u5, v6, v7, v8, v9, v10, v11, v12] T (0, 0)) := set_block h4 5 u5
 clear h4
 have h6 : (((((((w.setCell ⟨X, 0, none⟩ u0).setCell ⟨X, 1, none⟩ u1).setCell ⟨X, 2, none⟩ u2).setCell ⟨X, 3, none⟩ u3).setCell ⟨X, 4, none⟩ u4).setCell ⟨X, 5, none⟩ u5).setCell ⟨X, 6, none⟩ u6).heap[X]? = some (.cells #[u0, u1, u2, u3, u4, u5, u6, v7, v8, v9, v10, v11, v12] T (0, 0)) := set_block h5 6 u6
 clear h5
 have h7 : ((((((((w.setCell ⟨X, 0, none⟩ u0).setCell ⟨X, 1, none⟩ u1).setCell ⟨X, 2, none⟩ u2).setCell ⟨X, 3, none⟩ u3).setCell ⟨X, 4, none⟩ u4).setCell ⟨X, 5, none⟩ u5).setCell ⟨X, 6, none⟩ u6).setCell ⟨X, 7, none⟩ u7).heap[X]? = some (.cells #[u0, u1, u2, u3, u4, u5, u6, u7, v8, v9, v10, v11, v12] T (0, 0)) := set_block h6 7 u7
 clear h6
 have h8 : (((((((((w.setCell ⟨X, 0, none⟩ u0).setCell ⟨X, 1, none⟩ u1).setCell ⟨X, 2, none⟩ u2).setCell ⟨X, 3, none⟩ u3).setCell ⟨X, 4, none⟩ u4).setCell ⟨X, 5, none⟩ u5).setCell ⟨X, 6, none⟩ u6).setCell ⟨X, 7, none⟩ u7).setCell ⟨X, 8, none⟩ u8).heap[X]? = some (.cells #[u0, u1, u2, u3, u4, u5, u6, u7, u8, v9, v10, v11, v12] T (0, 0)) := set_block h7 8 u8
 clear h7
 have h9 : ((((((((((w.setCell ⟨X, 0, none⟩ u0).setCell ⟨X, 1, none⟩ u1).setCell ⟨X, 2, none⟩ u2).setCell ⟨X, 3, none⟩ u3).setCell ⟨X, 4, none⟩ u4).setCell ⟨X, 5, none⟩ u5).setCell ⟨X, 6, none⟩ u6).setCell ⟨X, 7, none⟩ u7).setCell ⟨X, 8, none⟩ u8).setCell ⟨X, 9, none⟩ u9).heap[X]? = some (.cells #[u0, u1, u2, u3, u4, u5, u6, u7, u8, u9, v10, v11, v12] T (0, 0)) := set_block h8 9 u9
 clear h8
 have h10 : (((((((((((w.setCell ⟨X, 0, none⟩ u0).setCell ⟨X, 1, none⟩ u1).setCell ⟨X, 2, none⟩ u2).setCell ⟨X, 3, none⟩ u3).setCell ⟨X, 4, none⟩ u4).setCell ⟨X, 5, none⟩ u5).setCell ⟨X, 6, none⟩ u6).setCell ⟨X, 7, none⟩ u7).setCell ⟨X, 8, none⟩ u8).setCell ⟨X, 9, none⟩ u9).setCell ⟨X, 10, none⟩ u10).heap[X]? = some (.cells #[u0, u1, u2, u3, u4, u5, u6, u7, u8, u9, u10, v11, v12] T (0, 0)) := set_block h9 10 u10
 clear h9
 have h11 : ((((((((((((w.setCell ⟨X, 0, none⟩ u0).setCell ⟨X, 1, none⟩ u1).setCell ⟨X, 2, none⟩ u2).setCell ⟨X, 3, none⟩ u3).setCell ⟨X, 4, none⟩ u4).setCell ⟨X, 5, none⟩ u5).setCell ⟨X, 6, none⟩ u6).setCell ⟨X, 7, none⟩ u7).setCell ⟨X, 8, none⟩ u8).setCell ⟨X, 9, none⟩ u9).setCell ⟨X, 10, none⟩ u10).setCell ⟨X, 11, none⟩ u11).heap[X]? = some (.cells #[u0, u1, u2, u3, u4, u5, u6, u7, u8, u9, u10, u11, v12] T (0, 0)) := set_block h10 11 u11
 clear h10
 have h12 : (((((((((((((w.setCell ⟨X, 0, none⟩ u0).setCell ⟨X, 1, none⟩ u1).setCell ⟨X, 2, none⟩ u2).setCell ⟨X, 3, none⟩ u3).setCell ⟨X, 4, none⟩ u4).setCell ⟨X, 5, none⟩ u5).setCell ⟨X, 6, none⟩ u6).setCell ⟨X, 7, none⟩ u7).setCell ⟨X, 8, none⟩ u8).setCell ⟨X, 9, none⟩ u9).setCell ⟨X, 10, none⟩ u10).setCell ⟨X, 11, none⟩ u11).setCell ⟨X, 12, none⟩ u12).heap[X]? = some (.cells #[u0, u1, u2, u3, u4, u5, u6, u7, u8, u9, u10, u11, u12] T (0, 0)) := set_block h11 12 u12
 clear h11
 exact h12
theorem put13_oth {w : World} {X k : Nat} (h : k ≠ X) (v0 v1 v2 v3 v4 v5 v6 v7 v8 v9 v10 v11 v12 : Value) : (put13 w X v0 v1 v2 v3 v4 v5 v6 v7 v8 v9 v10 v11 v12).heap[k]? = w.heap[k]? := by
 rw [oth1 _ _ _ h, oth1 _ _ _ h, oth1 _ _ _ h, oth1 _ _ _ h, oth1 _ _ _ h, oth1 _ _ _ h, oth1 _ _ _ h, oth1 _ _ _ h, oth1 _ _ _ h, oth1 _ _ _ h, oth1 _ _ _ h, oth1 _ _ _ h, oth1 _ _ _ h]
theorem put13_size (w : World) (X : Nat) (v0 v1 v2 v3 v4 v5 v6 v7 v8 v9 v10 v11 v12 : Value) : (put13 w X v0 v1 v2 v3 v4 v5 v6 v7 v8 v9 v10 v11 v12).heap.size = w.heap.size := by simp [put13, World.setCell]
theorem But.put13 {P X : Nat} {w w' : World} (h : But P w w') (hX : w.heap.size <= X) (v0 v1 v2 v3 v4 v5 v6 v7 v8 v9 v10 v11 v12 : Value) : But P w (put13 w' X v0 v1 v2 v3 v4 v5 v6 v7 v8 v9 v10 v11 v12) := (((((((((((((h).setX hX 0 v0).setX hX 1 v1).setX hX 2 v2).setX hX 3 v3).setX hX 4 v4).setX hX 5 v5).setX hX 6 v6).setX hX 7 v7).setX hX 8 v8).setX hX 9 v9).setX hX 10 v10).setX hX 11 v11).setX hX 12 v12
theorem keeps13 {c X : Nat} {w : World} (hX : X < c) (v0 v1 v2 v3 v4 v5 v6 v7 v8 v9 v10 v11 v12 : Value) : Keeps (fun k => c <= k /\ k < w.heap.size) w (put13 w X v0 v1 v2 v3 v4 v5 v6 v7 v8 v9 v10 v11 v12) := fun k _ hk ho _ => (put13_oth (show k ≠ X from fun e => by have := hk.1; omega) v0 v1 v2 v3 v4 v5 v6 v7 v8 v9 v10 v11 v12).trans ho
def DfVal (B : Nat -> Prop) (w : World) (v : Value) (d : Df) : Prop := ∃ mv lv av tl tk kv, v = .agg #[.string d.n, mv, .int .i64 d.b.k, .string d.b.c, .string d.b.x, lv, av, .int .i64 d.b.t.k, .int .i64 d.b.t.p, .string d.b.t.n, .int .i64 d.b.t.s, tl, tk, kv] /\ d.n.size <= maxLen /\ PmSl B w mv d.ms /\ PrVal B w (prAgg d.b lv av tl tk kv) d.b
theorem prv_slices {B : Nat -> Prop} {w : World} {p : Pr} {lv av tl tk kv : Value} (h : PrVal B w (prAgg p lv av tl tk kv) p) : ∃ la ln lc aa an ac ta tn tc ua un uc ka kn kc, lv = .slice la ln lc /\ av = .slice aa an ac /\ tl = .slice ta tn tc /\ tk = .slice ua un uc /\ kv = .slice ka kn kc := by
 obtain ⟨la, ln, lc, aa, an, ac, ta, tn, tc, ua, un, uc, ka, kn, kc, e⟩ := PrVal.open h
 simp only [Value.agg.injEq, Array.mk.injEq, List.cons.injEq, and_true, true_and] at e
 exact ⟨_, _, _, _, _, _, _, _, _, _, _, _, _, _, _, e.1, e.2.1, e.2.2.1, e.2.2.2.1, e.2.2.2.2⟩
theorem DfVal.open {B : Nat -> Prop} {w : World} {d : Df} {v : Value} (h : DfVal B w v d) : ∃ ma mn mc la ln lc aa an ac ta tn tc ua un uc ka kn kc, v = .agg #[.string d.n, .slice ma mn mc, .int .i64 d.b.k, .string d.b.c, .string d.b.x, .slice la ln lc, .slice aa an ac, .int .i64 d.b.t.k, .int .i64 d.b.t.p, .string d.b.t.n, .int .i64 d.b.t.s, .slice ta tn tc, .slice ua un uc, .slice ka kn kc] := by
 obtain ⟨mv, lv, av, tl, tk, kv, rfl, _, hm, hp⟩ := h
 obtain ⟨ma, mn, mc, rfl, _⟩ := hm.open
 obtain ⟨la, ln, lc, aa, an, ac, ta, tn, tc, ua, un, uc, ka, kn, kc, rfl, rfl, rfl, rfl, rfl⟩ := prv_slices hp
 exact ⟨_, _, _, _, _, _, _, _, _, _, _, _, _, _, _, _, _, _, rfl⟩
theorem lyDf : Lyer DfVal 14 := by
 refine ⟨?_, ?_, ?_, ?_⟩
 ·rintro B w w' v x h ⟨mv, lv, av, tl, tk, kv, e, hn, hm, hp⟩; exact ⟨mv, lv, av, tl, tk, kv, e, hn, hm.keep h, hp.keep h⟩
 ·rintro B C w v x h ⟨mv, lv, av, tl, tk, kv, e, hn, hm, hp⟩; exact ⟨mv, lv, av, tl, tk, kv, e, hn, hm.mono h, hp.mono h⟩
 ·rintro B w v x ⟨mv, lv, av, tl, tk, kv, rfl, _⟩; rfl
 ·intro B w v x h u hu
  obtain ⟨ma, mn, mc, la, ln, lc, aa, an, ac, ta, tn, tc, ua, un, uc, ka, kn, kc, rfl⟩ := DfVal.open h
  simp only [cl, Value.cells, List.mem_cons, List.not_mem_nil, or_false] at hu
  rcases hu with rfl | rfl | rfl | rfl | rfl | rfl | rfl | rfl | rfl | rfl | rfl | rfl | rfl | rfl <;> rfl
theorem LRow.dfs {base : Nat} {w : World} {l : Value} {vs : List Value} {O : Nat -> Prop} {xs : List Df} (h : LRow 61 14 base DfVal O w l vs xs) (hm : xs.length <= maxLen) : DfSl (fun k => base <= k /\ k < w.heap.size /\ ¬ O k) w l xs := by
 rcases h.parts with ⟨rfl, rfl⟩ | ⟨g, cap, e, h1, h2, _⟩
 ·exact ⟨.inl ⟨⟨_, _, rfl⟩, rfl⟩, Nat.zero_le _⟩
 ·have hB : base <= g /\ g < w.heap.size /\ ¬ O g := ⟨h1, h2, h.out g (by rw [e]; rfl)⟩
  refine ⟨.inr ⟨g, 0, cap, e, hB, fun j a hj => ?_⟩, hm⟩
  obtain ⟨u, hu, hv⟩ := h.at hj
  have hc := fun i z (hz : (cl u)[i]? = some z) => h.cells e hu (i := i) (z := z) hz
  have hv' := lyDf.mono (C := fun k => base <= k /\ k < w.heap.size /\ ¬ O k) (fun k hk => ⟨hk.1, hk.2.1, hk.2.2.1⟩) hv
  obtain ⟨mv, lv, av, tl, tk, kv, rfl, hn, hms, hp⟩ := hv'
  rw [Nat.zero_add]
  refine ⟨hn, hc 0 _ rfl, ⟨mv, hc 1 _ rfl, hms⟩, ?_⟩
  exact prAt_of hB (hc 2 _ rfl) (hc 3 _ rfl) (hc 4 _ rfl) (hc 5 _ rfl) (hc 6 _ rfl) (hc 7 _ rfl) (hc 8 _ rfl) (hc 9 _ rfl) (hc 10 _ rfl) (hc 11 _ rfl) (hc 12 _ rfl) (hc 13 _ rfl) hp
theorem defElem' : ElemOf 23 61 14 := elemOf Tryz.underlying23 (z := .agg #[.string ⟨#[]⟩, .slice none 0 0, .int .i64 0, .string ⟨#[]⟩, .string ⟨#[]⟩, .slice none 0 0, .slice none 0 0, .int .i64 0, .int .i64 0, .string ⟨#[]⟩, .int .i64 0, .slice none 0 0, .slice none 0 0, .slice none 0 0]) (bytes := 240) (by kernel_rfl) (by decide) rfl (by decide)
def GDf (b : Nat) (w : World) (d : Df) (v : Value) : Prop := DfVal (fun k => b <= k /\ k < w.heap.size) w v d
theorem pparam_le (f : Nat) : Shorter (pparamS (psess nameB f)) := fun ts x r h => by
 obtain ⟨_, s1, h1, h⟩ := PR.bind_ok h
 obtain ⟨_, s2, h2, h⟩ := PR.bind_ok h
 obtain ⟨_, s3, h3, h⟩ := PR.bind_ok h
 cases h
 have := pname_le h1
 have := need_le h2
 have := pany_le (psess_le f) _ _ _ h3
 omega
theorem pbody_le (f : Nat) : Shorter (pbody nameB f) := fun ts x r h => by
 obtain ⟨_, s1, h1, h⟩ := PR.bind_ok h
 obtain ⟨_, s2, h2, h⟩ := PR.bind_ok h
 obtain ⟨_, s3, h3, h⟩ := PR.bind_ok h
 cases h
 have := need_le h1
 have := pproc_le f _ _ _ h2
 have := need_le h3
 omega
theorem pdef_le (f : Nat) : Shorter (pdef nameB f) := fun ts x r h => by
 obtain ⟨_, s1, h1, h⟩ := PR.bind_ok h
 obtain ⟨_, s2, h2, h⟩ := PR.bind_ok h
 obtain ⟨_, s3, h3, h⟩ := PR.bind_ok h
 obtain ⟨_, s4, h4, h⟩ := PR.bind_ok h
 cases h
 have := pname_le h1
 have := need_le h2
 have := plistUpTo_le (pparam_le f) _ _ _ _ _ h3
 have := pbody_le f _ _ _ h4
 omega
theorem pdef_any (P tb : Nat) (E : Int) (ts : List Tk) (B : Nat) (w : World) (he : Env B w) (hBP : B <= P) (h : PaIs P tb E ts w) (f : Nat) (hf : 2 * ts.length + 2 <= f) :
 Calls Tryz.prog 51 #[.pointer (some ⟨P, 0, none⟩)] w (Parsed P tb E w (pdef nameB f ts) (GDf w.heap.size)) := by
 obtain ⟨W1, hW1⟩ := ex1 (w.alloc (.cells #[.string ⟨#[]⟩, .slice none 0 0, .int .i64 0, .string ⟨#[]⟩, .string ⟨#[]⟩, .slice none 0 0, .slice none 0 0, .int .i64 0, .int .i64 0, .string ⟨#[]⟩, .int .i64 0, .slice none 0 0, .slice none 0 0, .slice none 0 0] 61))
 have hb1 := (made hW1).1
 have x1 := (made hW1).2
 have hs1 : w.heap.size < W1.heap.size := (gl x1)
 have hP : P < w.heap.size := h.lt
 have htb : tb ≠ w.heap.size := Nat.ne_of_lt h.tlt
 have HTB := hid h.tlt
 have HP : Hid (PaIs P tb E ts W1) := hid (h.to hb1)
 have HB : Hid (But P W1 W1) := hid (But.refl _ _)
 have HW1 := hid hW1
 have HB1 := hid hb1
 have HX1 := hid x1
 have HE := hid (he.to hb1)
 clear hW1 hb1 x1 he h
 unfold pdef
 cases h1 : pname nameB ts with
 | bad er r =>
  show Calls _ _ _ _ (Parsed P tb E w (PR.bad er r) _)
  go_enter Tryz.func51, Tryz.ntmps51
  go_upto_region 1 with fail
  rw [HW1.out]
  go_wp2_with (first | (go_at_call 78; refine (namB (HE.out.but HB.out hBP) HP HB h1).mono ?_; rintro _ wn ⟨rfl, HB⟩))
  exact ⟨rfl, rfl, (But.of HB1.out).trans HB.out⟩
 | ok nm r1 =>
  have hlr1 := pname_le h1
  cases h2 : need sOpen r1 with
  | bad er r =>
   show Calls _ _ _ _ (Parsed P tb E w ((need sOpen r1).bind _) _)
   rw [h2]
   show Calls _ _ _ _ (Parsed P tb E w (PR.bad er r) _)
   go_enter Tryz.func51, Tryz.ntmps51
   go_upto_region 1 with fail
   rw [HW1.out]
   go_wp2_with (first | (go_at_call 78; refine (namH (HE.out.but HB.out hBP) HP HB h1).mono ?_; rintro _ wn ⟨rfl, hnz, HP, HB⟩) | (go_at_call 52; refine (expB HP HB h2).mono ?_; rintro _ wn ⟨rfl, HB⟩))
   exact ⟨rfl, rfl, (But.of HB1.out).trans HB.out⟩
  | ok un r2 =>
   have hlr2 := need_le h2
   show Calls _ _ _ _ (Parsed P tb E w ((need sOpen r1).bind _) _)
   rw [h2]
   cases h3 : plistUpTo (pparamS (psess nameB f)) sShut f r2 with
   | bad er r =>
    show Calls _ _ _ _ (Parsed P tb E w ((plistUpTo (pparamS (psess nameB f)) sShut f r2).bind _) _)
    rw [h3]
    show Calls _ _ _ _ (Parsed P tb E w (PR.bad er r) _)
    go_enter Tryz.func51, Tryz.ntmps51
    go_upto_region 1 with fail
    rw [HW1.out]
    go_wp2_with (first | (go_at_call 78; refine (namH (HE.out.but HB.out hBP) HP HB h1).mono ?_; rintro _ wn ⟨rfl, hnz, HP, HB⟩) | (go_at_call 52; refine (expH HP HB h2).mono ?_; rintro _ wn ⟨rfl, HP, HB⟩) | (go_at_call 79; refine (pupM_any P tb E _ B _ (HE.out.but HB.out hBP) hBP HP.out sShut (by decide +kernel) 80 #[.pointer (some ⟨P, 0, none⟩)] #[] enters_param (pparamS (psess nameB f)) (f + 1) (by omega) (param_elem P tb E B hBP (psess nameB f) f (psess_ok P tb E B hBP f)) (pparam_le f) f (by omega)).mono ?_; rw [h3]; rintro en wn ⟨rfl, hb⟩; replace HB := hid (HB.out.trans hb); clear hb))
    exact ⟨rfl, rfl, (But.of HB1.out).trans HB.out⟩
   | ok ms r3 =>
    have hlr3 := plistUpTo_le (pparam_le f) _ _ _ _ _ h3
    show Calls _ _ _ _ (Parsed P tb E w ((plistUpTo (pparamS (psess nameB f)) sShut f r2).bind _) _)
    rw [h3]
    cases h4 : pbodyS (pproc nameB f) r3 with
    | bad er r =>
     show Calls _ _ _ _ (Parsed P tb E w ((pbodyS (pproc nameB f) r3).bind _) _)
     rw [h4]
     show Calls _ _ _ _ (Parsed P tb E w (PR.bad er r) _)
     go_enter Tryz.func51, Tryz.ntmps51
     go_upto_region 1 with fail
     rw [HW1.out]
     go_wp2_with (first | (go_at_call 78; refine (namH (HE.out.but HB.out hBP) HP HB h1).mono ?_; rintro _ wn ⟨rfl, hnz, HP, HB⟩) | (go_at_call 52; refine (expH HP HB h2).mono ?_; rintro _ wn ⟨rfl, HP, HB⟩) | (go_at_call 79; refine (pupM_any P tb E _ B _ (HE.out.but HB.out hBP) hBP HP.out sShut (by decide +kernel) 80 #[.pointer (some ⟨P, 0, none⟩)] #[] enters_param (pparamS (psess nameB f)) (f + 1) (by omega) (param_elem P tb E B hBP (psess nameB f) f (psess_ok P tb E B hBP f)) (pparam_le f) f (by omega)).mono ?_; rw [h3]; rintro en wn ⟨⟨kv, rfl, hks⟩, hp, hb⟩; obtain ⟨ma, mn, mc, rfl, -⟩ := hks.open; have HPn := hid hp; have HM : Hid (∀ w', But P wn w' -> PmSl (fun k => W1.heap.size <= k /\ k < w'.heap.size) w' (.slice ma mn mc) ms) := hid (fun w' hw => PmSl.mono (fun k hk => ⟨Nat.le_trans HB.out.size hk.1, Nat.lt_of_lt_of_le hk.2 hw.size⟩) (PmSl.keep (hw.keeps (fun k hk => ⟨hk.2, by have := HB.out.size; omega⟩)) hks)); have hbn0 := But.refl P wn; have HC := hid hbn0; have HBn := hid (HB.out.trans hb); clear hks hbn0; clear hp hb HP HB; have HP := HPn; have HB := HBn; clear HPn HBn) | (go_at_call 53; refine (pbody_any P tb E _ B _ (HE.out.but HB.out hBP) hBP HP.out (pproc nameB f) r3.length (Nat.le_refl _) (pproc_ok P tb E B hBP f r3.length (by omega))).mono ?_; rw [h4]; rintro en wn ⟨rfl, hb⟩; replace HB := hid (HB.out.trans hb); clear hb))
     exact ⟨rfl, rfl, (But.of HB1.out).trans HB.out⟩
    | ok b r =>
     show Calls _ _ _ _ (Parsed P tb E w ((pbodyS (pproc nameB f) r3).bind _) _)
     rw [h4]
     show Calls _ _ _ _ (Parsed P tb E w (PR.ok (⟨nm, ms, b⟩ : Df) r) _)
     go_enter Tryz.func51, Tryz.ntmps51
     go_upto_region 1 with fail
     rw [HW1.out]
     go_wp2_with (first | (go_at_call 78; refine (namH (HE.out.but HB.out hBP) HP HB h1).mono ?_; rintro _ wn ⟨rfl, hnz, HP, HB⟩) | (go_at_call 52; refine (expH HP HB h2).mono ?_; rintro _ wn ⟨rfl, HP, HB⟩) | (go_at_call 79; refine (pupM_any P tb E _ B _ (HE.out.but HB.out hBP) hBP HP.out sShut (by decide +kernel) 80 #[.pointer (some ⟨P, 0, none⟩)] #[] enters_param (pparamS (psess nameB f)) (f + 1) (by omega) (param_elem P tb E B hBP (psess nameB f) f (psess_ok P tb E B hBP f)) (pparam_le f) f (by omega)).mono ?_; rw [h3]; rintro en wn ⟨⟨kv, rfl, hks⟩, hp, hb⟩; obtain ⟨ma, mn, mc, rfl, -⟩ := hks.open; have HPn := hid hp; have HM : Hid (∀ w', But P wn w' -> PmSl (fun k => W1.heap.size <= k /\ k < w'.heap.size) w' (.slice ma mn mc) ms) := hid (fun w' hw => PmSl.mono (fun k hk => ⟨Nat.le_trans HB.out.size hk.1, Nat.lt_of_lt_of_le hk.2 hw.size⟩) (PmSl.keep (hw.keeps (fun k hk => ⟨hk.2, by have := HB.out.size; omega⟩)) hks)); have hbn0 := But.refl P wn; have HC := hid hbn0; have HBn := hid (HB.out.trans hb); clear hks hbn0; clear hp hb HP HB; have HP := HPn; have HB := HBn; clear HPn HBn) | (go_at_call 53; refine (pbody_any P tb E _ B _ (HE.out.but HB.out hBP) hBP HP.out (pproc nameB f) r3.length (Nat.le_refl _) (pproc_ok P tb E B hBP f r3.length (by omega))).mono ?_; rw [h4]; rintro en wm ⟨⟨v, rfl, hg⟩, hp, hb⟩; obtain ⟨la, ln, lc, aa, an, ac, ta, tn, tc, ua, un, uc, ka, kn, kc, rfl⟩ := hg.open; have hms := HM.out wm hb; have HMS := hid hms; have HPn := hid hp; have HG := hid (hg.mono (show W1.heap.size <= _ from HB.out.size)); have HBn := hid (HB.out.trans hb); clear hg hms HM HC; clear hp hb HP HB; have HP := HPn; have HB := HBn; clear HPn HBn; have hx9 := (HB.out.block w.heap.size hs1 (Nat.ne_of_gt hP)).trans HX1.out; obtain ⟨⟨q0, q1, q2, q3, q4, q5, q6, q7, q8, q9, q10, q11, q12, q13⟩, z0, z1, z2, z3, z4, z5, z6, z7, z8, z9, z10, z11, z12, z13⟩ := c14p hx9; have HX9 := hid hx9; clear hx9))
     have HDF : Hid (GDf W1.heap.size wm ⟨nm, ms, b⟩ (.agg #[.string nm, .slice ma mn mc, .int .i64 b.k, .string b.c, .string b.x, .slice la ln lc, .slice aa an ac, .int .i64 b.t.k, .int .i64 b.t.p, .string b.t.n, .int .i64 b.t.s, .slice ta tn tc, .slice ua un uc, .slice ka kn kc])) := hid ⟨_, _, _, _, _, _, rfl, hnz, HMS.out, HG.out⟩
     have hx8 := fill14 HX9.out (.string nm) (.slice ma mn mc) (.int .i64 b.k) (.string b.c) (.string b.x) (.slice la ln lc) (.slice aa an ac) (.int .i64 b.t.k) (.int .i64 b.t.p) (.string b.t.n) (.int .i64 b.t.s) (.slice ta tn tc) (.slice ua un uc) (.slice ka kn kc)
     obtain ⟨⟨y0, y1, y2, y3, y4, y5, y6, y7, y8, y9, y10, y11, y12, y13⟩, -⟩ := c14p hx8
     refine bodyPost_ret (v := .agg #[.string nm, .slice ma mn mc, .int .i64 b.k, .string b.c, .string b.x, .slice la ln lc, .slice aa an ac, .int .i64 b.t.k, .int .i64 b.t.p, .string b.t.n, .int .i64 b.t.s, .slice ta tn tc, .slice ua un uc, .slice ka kn kc]) (by simp [results, Tryz.results51, go_sem, y0, y1, y2, y3, y4, y5, y6, y7, y8, y9, y10, y11, y12, y13]) rfl ?_
     exact ⟨⟨_, rfl, lyDf.mono (fun k hk => ⟨Nat.le_trans (Nat.le_of_lt hs1) hk.1, by rw [put14_size]; exact hk.2⟩) (lyDf.keep (keeps14 hs1 (.string nm) (.slice ma mn mc) (.int .i64 b.k) (.string b.c) (.string b.x) (.slice la ln lc) (.slice aa an ac) (.int .i64 b.t.k) (.int .i64 b.t.p) (.string b.t.n) (.int .i64 b.t.s) (.slice ta tn tc) (.slice ua un uc) (.slice ka kn kc)) HDF.out)⟩, HP.out.oth (X := w.heap.size) (fun j hj => put14_oth hj (.string nm) (.slice ma mn mc) (.int .i64 b.k) (.string b.c) (.string b.x) (.slice la ln lc) (.slice aa an ac) (.int .i64 b.t.k) (.int .i64 b.t.p) (.string b.t.n) (.int .i64 b.t.s) (.slice ta tn tc) (.slice ua un uc) (.slice ka kn kc)) (put14_size _ _ (.string nm) (.slice ma mn mc) (.int .i64 b.k) (.string b.c) (.string b.x) (.slice la ln lc) (.slice aa an ac) (.int .i64 b.t.k) (.int .i64 b.t.p) (.string b.t.n) (.int .i64 b.t.s) (.slice ta tn tc) (.slice ua un uc) (.slice ka kn kc)) (Nat.ne_of_gt hP) htb, ((But.of HB1.out).trans HB.out).put14 (Nat.le_refl _) (.string nm) (.slice ma mn mc) (.int .i64 b.k) (.string b.c) (.string b.x) (.slice la ln lc) (.slice aa an ac) (.int .i64 b.t.k) (.int .i64 b.t.p) (.string b.t.n) (.int .i64 b.t.s) (.slice ta tn tc) (.slice ua un uc) (.slice ka kn kc)⟩
end Go.Proofs.YtejaboajgecpaaaGreatDoor
