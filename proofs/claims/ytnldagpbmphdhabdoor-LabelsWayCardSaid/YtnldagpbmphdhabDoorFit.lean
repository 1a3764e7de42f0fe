import Derived.Test.YtnldagpbmphdhabDoorIdx
namespace Go.Proofs.YtnldagpbmphdhabDoor.L
open Go.RowKit
set_option linter.unusedVariables false
set_option maxHeartbeats 4000000 in
set_option maxRecDepth 100000 in
theorem contains_has (v : Value) (l : List Lb) (x : Lb) (w : World) (hi : Items w v l) (hl : l.length ≤ 64) (hx : x ∈ l) : Calls Tryd.prog 73 #[v, .agg #[.string x.1, .string x.2]] w fun e w' => e = .returned (.bool true) ∧ Below w.heap.size w w' := by
  have HI := hid (fun W (hb : Below w.heap.size w W) => index_has v l x W (hi.low hb) hl hx)
  clear hi hx hl
  go_enter Tryd.func73, Tryd.ntmps73
  go_wp2_with fail
  refine (HI.out _ (belowA _ _)).mono ?_
  rintro e w1 ⟨⟨j, rfl⟩, hb0⟩
  have hb := (belowA w (.cells #[.string x.1, .string x.2] 33)).trans (hb0.mono (by simp))
  clear hb0
  have hj : (0 : Int) ≤ (j : Int) := by omega
  go_wp2_with fail
  go_ret
  exact ⟨rfl, hb⟩
set_option maxHeartbeats 4000000 in
set_option maxRecDepth 100000 in
theorem fits_any (v : Value) (l : List Lb) (d : Df) (w : World) (hi : Items w v l) (hl : l.length ≤ 64) (hk : d.k.size ≤ maxLen) (hg : getN l d.k = (d.o, d.had)) : Calls Tryd.prog 59 #[v, dv d] w fun e w' => e = .returned (.bool true) ∧ Below w.heap.size w w' := by
  obtain ⟨k, o, n, had, has⟩ := d
  simp only at hk hg
  unfold dv
  simp only
  cases had with
  | true =>
    have hm : (k, o) ∈ l := by
      have := (get_yes (l := l) (s := k) (by rw [hg])).2
      rw [hg] at this
      exact this
    have HC := hid (fun W (hb : Below w.heap.size w W) => contains_has v l (k, o) W (hi.low hb) hl hm)
    clear hi hg hm hk hl
    go_enter Tryd.func59, Tryd.ntmps59
    go_wp2_with fail
    refine (HC.out _ (belowA _ _)).mono ?_
    rintro e w1 ⟨rfl, hb0⟩
    have hb := (belowA w (.cells #[.string k, .string o, .string n, .bool true, .bool has] 47)).trans (hb0.mono (by simp))
    clear hb0
    go_wp2_with fail
    go_ret
    exact ⟨rfl, hb⟩
  | false =>
    have HC := hid (fun W (hb : Below w.heap.size w W) => has_any v l k W (hi.low hb) (by unfold maxLen; omega) hk)
    rw [hg] at HC
    clear hi hg hk hl
    go_enter Tryd.func59, Tryd.ntmps59
    go_wp2_with fail
    refine (HC.out _ (belowA _ _)).mono ?_
    rintro e w1 ⟨rfl, hb0⟩
    have hb := (belowA w (.cells #[.string k, .string o, .string n, .bool false, .bool has] 47)).trans (hb0.mono (by simp))
    clear hb0
    go_wp2_with fail
    go_ret
    exact ⟨rfl, hb⟩
end Go.Proofs.YtnldagpbmphdhabDoor.L
