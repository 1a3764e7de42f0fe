import Derived.Test.YtdhjoimiejdgbaaDoorSdr
namespace Go.Proofs.YtdhjoimiejdgbaaDoor.L
open Go.RowKit Bs Go.Maps
set_option linter.unusedVariables false
theorem Tab.mv {F F' : List Nat} {B : Nat} {w w' : World} (h : Tab w) (hm : Mv F F' w w') (hB : 1 < B) (hF : ∀ k ∈ F, B ≤ k) : Tab w' :=
  h.bx hm.1 h.1 (fun c => by have := hF _ c; omega)
theorem Mv.above {F F' : List Nat} {B : Nat} {w w' : World} (hm : Mv F F' w w') (hB : B ≤ w.heap.size) (hF : ∀ k ∈ F, B ≤ k) : ∀ k ∈ F', B ≤ k := fun k hk => by
  rcases hm.2 k hk with c | c
  · exact hF k c
  · omega
theorem Mv.below {F F' : List Nat} {B : Nat} {w w' : World} (hm : Mv F F' w w') (hB : B ≤ w.heap.size) (hF : ∀ k ∈ F, B ≤ k) : Below B w w' := hm.1.below hB hF
abbrev sA : ByteArray := ⟨#[97]⟩
abbrev sB : ByteArray := ⟨#[98]⟩
abbrev sC : ByteArray := ⟨#[99]⟩
theorem none_nil (s : ByteArray) : NoN ([] : List Rw) s := fun i hi => by simp [isT, nm] at hi
theorem none_cons {x : Rw} {l : List Rw} {s : ByteArray} (h : x.1 ≠ s) (hl : NoN l s) : NoN (x :: l) s := fun i hi => by
  cases i with
  | zero => exact h
  | succ i => rw [isT_cons_succ] at hi; rw [nm_cons_succ]; exact hl i hi
set_option maxHeartbeats 4000000 in
set_option maxRecDepth 100000 in
theorem fixed_any (w : World) (ht : Tab w) : Calls Tryd.prog 9 #[] w fun e w' => e = .returned (.bool true) ∧ Below w.heap.size w w' := by
  have hB := ht.1
  have HT := hid ht
  clear ht
  go_enter Tryd.func9, Tryd.ntmps9
  go_wp2_with (go_at_call 34; refine (new_any 2 _ (by omega)).mono ?_; rintro e w1 ⟨p, F, rfl, T1, F1, B1⟩)
  have A1 := HT.out.bx (Bx.of (F := []) B1) hB (by simp)
  have hs1 := B1.size
  refine (put_ok p 2 [] F sB 7 w1 T1 A1 (by decide) (none_nil _) (by decide)).mono ?_
  rintro e w2 ⟨F2, rfl, T2, M2⟩
  have G2 := M2.above hs1 F1
  have A2 := A1.mv M2 hB F1
  have B2 := B1.trans (M2.below hs1 F1)
  have hs2 := B2.size
  clear T1 A1 B1 M2 F1
  rw [show wrt ([] : List Rw) (low ([] : List Rw)) (sB, 7) = [(sB, 7)] from rfl] at T2
  rw [show low ([] : List Rw) = 0 from rfl]
  go_wp2_with fail
  refine (put_ok p 2 [(sB, 7)] F2 sA 8 w2 T2 A2 (by decide) (none_cons (by decide) (none_nil _)) (by decide)).mono ?_
  rintro e w3 ⟨F3, rfl, T3, M3⟩
  have G3 := M3.above hs2 G2
  have A3 := A2.mv M3 hB G2
  have B3 := B2.trans (M3.below hs2 G2)
  have hs3 := B3.size
  clear T2 A2 B2 M3 G2
  rw [show low ([(sB, 7)] : List Rw) = 1 from by decide]
  rw [show low ([(sB, 7)] : List Rw) = 1 from by decide, show wrt ([(sB, 7)] : List Rw) 1 (sA, 8) = [(sB, 7), (sA, 8)] from rfl] at T3
  go_wp2_with fail
  refine (put_full p 2 [(sB, 7), (sA, 8)] F3 sC 9 w3 T3 (by decide) (none_cons (by decide) (none_cons (by decide) (none_nil _))) (by decide)).mono ?_
  rintro e w4 ⟨rfl, n4, hw4⟩
  have T4 := T3.drewN n4
  have A4 : Tab (w3.drewN n4) := ⟨A3.1, A3.2⟩
  have B4 : Below w.heap.size w (w3.drewN n4) := ⟨B3.os, B3.tape, B3.output, B3.size, B3.block⟩
  have hs4 : w.heap.size ≤ (w3.drewN n4).heap.size := hs3
  rw [← hw4] at T4 A4 B4 hs4
  clear hw4 T3 A3 B3
  go_wp2_with fail
  refine (drop_ok p 2 0 [(sB, 7), (sA, 8)] F3 sB w4 T4 (by decide) (by decide) rfl).mono ?_
  rintro e w5 ⟨F5, rfl, T5, M5⟩
  have G5 := M5.above hs4 G3
  have A5 := A4.mv M5 hB G3
  have B5 := B4.trans (M5.below hs4 G3)
  have hs5 := B5.size
  clear T4 A4 B4 M5 G3
  rw [show trim (([(sB, 7), (sA, 8)] : List Rw).set 0 (ByteArray.empty, 0)) = [(ByteArray.empty, 0), (sA, 8)] from rfl] at T5
  go_wp2_with fail
  refine (put_ok p 2 [(ByteArray.empty, 0), (sA, 8)] F5 sC 5 w5 T5 A5 (by decide) (none_cons (by decide) (none_cons (by decide) (none_nil _))) (by decide)).mono ?_
  rintro e w6 ⟨F6, rfl, T6, M6⟩
  have B6 := B5.trans (M6.below hs5 G5)
  clear T5 A5 B5 M6 G5 T6
  rw [show low ([(ByteArray.empty, 0), (sA, 8)] : List Rw) = 0 from rfl]
  go_wp2_with fail
  go_ret
  exact ⟨rfl, B6⟩
end Go.Proofs.YtdhjoimiejdgbaaDoor.L
