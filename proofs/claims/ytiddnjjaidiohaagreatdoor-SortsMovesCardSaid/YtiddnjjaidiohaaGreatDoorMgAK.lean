import Derived.Test.YtiddnjjaidiohaaGreatDoorSa7
namespace Go.Proofs.YtiddnjjaidiohaaGreatDoor.L
open Go.RowKit
set_option linter.unusedVariables false
theorem infoTy : (Tryz.prog.info? 47).map (fun i => (i.zero, i.size, i.bytes)) = some (some (.agg #[.int .i64 0, .int .i64 0]), 2, 16) := by kernel_rfl
theorem make_types (n : Nat) (hn : n ≤ 1000) (w : World) : (Instr.makeSlice 31 (.int .i64 (n : Int)) (.int .i64 (n : Int))).run Tryz.prog w = .ok (.slice (some ⟨w.heap.size, 0, none⟩) n n) (w.alloc (.cells (madeCells #[.int .i64 0, .int .i64 0] (n * 2)) 47)) := by
  obtain ⟨i, hi, hz, hs, hb⟩ := info_parts infoTy
  have h := run_makeSlice (P := Tryz.prog) w 31 47 i (.agg #[.int .i64 0, .int .i64 0]) Tryz.underlying31 hi hz .i64 .i64 n n (by omega) (by omega) (by rw [hs]; omega) (by rw [hb]; omega) (by omega)
  rw [hs] at h
  simpa [Value.cells] using h
theorem tyo_made (w : World) (n base : Nat) (hn : n ≤ 1000) (hb : base ≤ w.heap.size) : TyO (w.alloc (.cells (madeCells #[.int .i64 0, .int .i64 0] (n * 2)) 47)) base w.heap.size n (fun _ => (0, 0)) := by
  have h := World.ownsRow_lit (base := base) (e := 47) (size := 2) w (madeCells #[.int .i64 0, .int .i64 0] (n * 2)) n hb (by unfold maxLen; omega) (by rw [size_madeCells])
  refine ⟨_, h, fun j hj => ?_⟩
  have h1 : j * 2 < n * 2 := by omega
  have h2 : j * 2 + 1 < n * 2 := by omega
  have h3 : (j * 2 + 1) % 2 = 1 := by omega
  constructor
  · simp [madeCells, hj]
  · simp [madeCells, h2, h3]
end Go.Proofs.YtiddnjjaidiohaaGreatDoor.L
namespace Go.Proofs.YtiddnjjaidiohaaGreatDoor.L
open Go.RowKit
set_option linter.unusedVariables false
theorem natS_of {x : Int} (h : 0 ≤ x) : ∃ n : Nat, x = n := ⟨x.toNat, by omega⟩
/-- A tree that layer 13 takes is what over wants. -/
theorem gds_of {T : List Pt} (h : Ok0 T) (hL : T.length ≤ 1000) : GdS T := by
  have hk : ∀ t, t < T.length → (pt T t).kids.length ≤ 1000 := fun t ht => by
    have h1 := (h t ht).many
    have h2 := fre_len T t
    omega
  have hf : ∀ t, t < T.length → fitsB (fmO (pt T t).kind) (pt T t).text (pt T t).num (pt T t).kids.length = true := fun t ht => ((tab_iff T (pt T t) (hk t ht)).2 (h t ht).tab).1
  refine ⟨hL, fun t ht x hx => (h t ht).lt hx, hk, fun t ht => ?_, fun t ht => ?_⟩
  · have h1 := hf t ht
    simp only [fitsB, decide_eq_true_eq] at h1
    unfold maxLen
    omega
  · have h1 := hf t ht
    simp only [fitsB, decide_eq_true_eq] at h1
    obtain ⟨_, _, _, _, _, hls, hms⟩ := h1
    have hlt : ∀ x, x ∈ (pt T t).kids → 0 ≤ x := fun x hx => ((h t ht).lt hx).1
    unfold ShS
    generalize (pt T t).kids = ks at *
    constructor
    · intro hkd
      have h2 : ks.length = 2 := by
        rcases hkd with e | e <;> · rw [e] at hls hms; simp [fmO] at hls hms; omega
      match ks, h2 with
      | [x, y], _ =>
        obtain ⟨a, rfl⟩ := natS_of (hlt x (by simp))
        obtain ⟨b, rfl⟩ := natS_of (hlt y (by simp))
        exact ⟨a, b, rfl⟩
    · intro e
      have h2 : ks.length = 1 := by
        rw [e] at hls hms; simp [fmO] at hls hms; omega
      match ks, h2 with
      | [x], _ =>
        obtain ⟨a, rfl⟩ := natS_of (hlt x (by simp))
        exact ⟨a, rfl⟩
end Go.Proofs.YtiddnjjaidiohaaGreatDoor.L
