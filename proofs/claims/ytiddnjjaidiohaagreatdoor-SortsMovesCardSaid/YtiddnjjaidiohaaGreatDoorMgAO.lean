import Derived.Test.YtiddnjjaidiohaaGreatDoorMgAC
import Derived.Test.YtiddnjjaidiohaaGreatDoorSm2
import Derived.Test.YtiddnjjaidiohaaGreatDoorSc7
namespace Go.Proofs.YtiddnjjaidiohaaGreatDoor.L
open Go.RowKit
set_option linter.unusedVariables false
/-- A row of numbers of one's own, by a function. -/
def InO (W : World) (base gm n : Nat) (m : Nat → Int) : Prop := ∃ zs : List Int, OwnI W base (.slice (some ⟨gm, 0, none⟩) n n) zs ∧ n = zs.length ∧ ∀ j, j < n → zs.getD j 0 = m j
theorem InO.cell {W : World} {base gm n : Nat} {m : Nat → Int} (h : InO W base gm n m) {j : Nat} (hj : j < n) : W.cell? ⟨gm, j, none⟩ = some (.int .i64 (m j)) ∧ W.frozen? ⟨gm, j, none⟩ = false := by
  obtain ⟨zs, h1, h2, h3⟩ := h
  rw [← h3 j hj]
  exact own_cell h1 h2 j hj
theorem InO.low {W W' : World} {base gm n : Nat} {m : Nat → Int} (h : InO W base gm n m) (hb : Below W.heap.size W W') : InO W' base gm n m := by
  obtain ⟨zs, h1, h2, h3⟩ := h
  exact ⟨zs, own_low h1 hb, h2, h3⟩
theorem InO.lt {W : World} {base gm n : Nat} {m : Nat → Int} (h : InO W base gm n m) : base ≤ gm ∧ gm < W.heap.size := by
  obtain ⟨zs, h1, h2, h3⟩ := h
  exact own_block h1 gm rfl
theorem But.setc (g : Nat) (W : World) (j : Nat) (v : Value) : But g W (W.setCell ⟨g, j, none⟩ v) := ⟨rfl, rfl, rfl, by simp, fun b hb hg => Below.heap_setCell _ _ _ _ hg⟩
theorem InO.set {W : World} {base gm n : Nat} {m : Nat → Int} (h : InO W base gm n m) {t : Nat} (ht : t < n) (v : Int) : InO (W.setCell ⟨gm, t, none⟩ (.int .i64 v)) base gm n (fun j => if j = t then v else m j) := by
  obtain ⟨zs, h1, h2, h3⟩ := h
  refine ⟨zs.set t v, (own_set h1 h2 t v).1, by rw [List.length_set]; exact h2, fun j hj => ?_⟩
  by_cases e : j = t
  · subst e
    rw [List.getD_eq_getElem?_getD, List.getElem?_set_self (by omega)]
    simp
  · rw [List.getD_eq_getElem?_getD, List.getElem?_set_ne (by omega), ← List.getD_eq_getElem?_getD, h3 j hj]
    simp only [if_neg e]
theorem InO.congr {W : World} {base gm n : Nat} {m m' : Nat → Int} (h : InO W base gm n m) (e : ∀ j, j < n → m j = m' j) : InO W base gm n m' := by
  obtain ⟨zs, h1, h2, h3⟩ := h
  exact ⟨zs, h1, h2, fun j hj => (h3 j hj).trans (e j hj)⟩
theorem ino_made (w : World) (n base : Nat) (hn : n ≤ 1000) (hb : base ≤ w.heap.size) : InO (w.alloc (.cells (madeCells #[.int .i64 0] n) 3)) base w.heap.size n (fun _ => 0) :=
  ⟨_, own_made w n base hn hb, by simp, fun j hj => by rw [List.getD_eq_getElem?_getD, List.getElem?_replicate, if_pos hj]; rfl⟩
theorem drop_at {ks : List Int} {j : Nat} (h : j < ks.length) : ks.drop j = ks.getD j 0 :: ks.drop (j + 1) := by
  rw [List.drop_eq_getElem_cons h, List.getD_eq_getElem?_getD, List.getElem?_eq_getElem h]
  rfl
end Go.Proofs.YtiddnjjaidiohaaGreatDoor.L
namespace Go.Proofs.YtiddnjjaidiohaaGreatDoor.L
open Go.RowKit
set_option linter.unusedVariables false
theorem clS_cases (s : Int) : (s = 2 ∧ clS s = 2) ∨ (s = 3 ∧ clS s = 2) ∨ (s = 1 ∧ clS s = 1) ∨ (((s == 2) = false ∧ (s == 3) = false ∧ (s == 1) = false) ∧ clS s = 0) := by
  by_cases h2 : s = 2
  · exact .inl ⟨h2, by rw [h2]; decide⟩
  by_cases h3 : s = 3
  · exact .inr (.inl ⟨h3, by rw [h3]; decide⟩)
  by_cases h1 : s = 1
  · exact .inr (.inr (.inl ⟨h1, by rw [h1]; decide⟩))
  · exact .inr (.inr (.inr ⟨⟨by simpa using h2, by simpa using h3, by simpa using h1⟩, by unfold clS movB; simp [h1, h2, h3]⟩))
theorem TyO.but_tyl {M W : World} {base gt n gm : Nat} {ty : Nat → Int × Int} (h : TyO M base gt n ty) (hb : But gm M W) (hne : gt ≠ gm) : TyL W (.slice (some ⟨gt, 0, none⟩) n n) n ty := by
  have hbl := hb.block gt h.lt.1 hne
  refine ⟨_, _, rfl, .inr ⟨gt, 0, rfl, Nat.lt_of_lt_of_le h.lt.1 hb.size, fun j hj => ?_⟩⟩
  rw [Nat.zero_add]
  exact ⟨(World.cell?_of_block (w := M) (a := ⟨gt, j * 2, none⟩) hbl).trans (h.ty.2 j hj).1, (World.cell?_of_block (w := M) (a := ⟨gt, j * 2 + 1, none⟩) hbl).trans (h.ty.2 j hj).2⟩
set_option maxHeartbeats 8000000 in
set_option maxRecDepth 100000 in
theorem moves_great (a : Option Addr) (T : List Pt) (cap : Nat) (w : World) (hT : PLs w a T) (hG : GdT T) (hg : Gv w) (hn : ¬ sumK T T.length ≤ 100000) :
    Calls Tryz.prog 6 #[.agg #[.slice a T.length cap]] w fun e w' => e = .returned (.bool true) ∧ Below w.heap.size w w' := by
  have HB0 := hid (belowA w (.cells #[.slice a T.length cap] 26))
  have HX0 := hid (heap_alloc_new w (.cells #[.slice a T.length cap] 26))
  have HFX := hid (fixed_any _ (hg.low HB0.out))
  have HT := hid hT
  have HSM := hid (fun W h => small_no a T cap W h hG hn)
  generalize T.length = L at HB0 HX0 HFX HSM ⊢
  clear hT hg hn
  go_enter Tryz.func6, Tryz.ntmps6
  go_upto_region 1 with (fail)
  generalize w.alloc (.cells #[.slice a L cap] 26) = X at *
  go_upto_region 3 with (go_at_call 8; refine HFX.out.mono ?_; rintro e w1 ⟨rfl, l1⟩; have L1 := hid l1; clear l1)
  have HB1 := hid (HB0.out.trans (L1.out.mono HB0.out.size))
  have HX1 := hid ((L1.out.block _ (lt_blk HX0.out)).trans HX0.out)
  have x0 := cell_of_one HX1.out
  go_wp2_with (go_at_call 9; refine (HSM.out _ (HT.out.low HB1.out).pl).mono ?_; rintro e w2 ⟨rfl, l1⟩; have L2 := hid l1; clear l1)
  go_ret
  exact ⟨rfl, HB1.out.trans (L2.out.mono HB1.out.size)⟩
end Go.Proofs.YtiddnjjaidiohaaGreatDoor.L
