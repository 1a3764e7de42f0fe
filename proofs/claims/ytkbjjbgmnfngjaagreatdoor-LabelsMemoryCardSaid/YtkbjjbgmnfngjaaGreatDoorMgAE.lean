import Derived.Test.YtkbjjbgmnfngjaaGreatDoorMgAD
import Derived.Test.YtkbjjbgmnfngjaaGreatDoorMgAB
namespace Go.Proofs.YtkbjjbgmnfngjaaGreatDoor.L
open Go.RowKit
set_option linter.unusedVariables false
set_option maxHeartbeats 4000000 in
set_option maxRecDepth 100000 in
theorem contains_has (v : Value) (l : List Lb) (x : Lb) (w : World) (hi : Items w v l) (hl : l.length ≤ 64) (hx : x ∈ l) : Calls Tryz.prog 87 #[v, .agg #[.string x.1, .string x.2]] w fun e w' => e = .returned (.bool true) ∧ Below w.heap.size w w' := by
  have HI := hid (fun W (hb : Below w.heap.size w W) => index_has v l x W (hi.low hb) hl hx)
  clear hi hx hl
  go_enter Tryz.func87, Tryz.ntmps87
  go_wp2_with fail
  refine (HI.out _ (belowA _ _)).mono ?_
  rintro e w1 ⟨⟨j, rfl⟩, hb0⟩
  have hb := (belowA w (.cells #[.string x.1, .string x.2] 36)).trans (hb0.mono (by simp))
  clear hb0
  have hj : (0 : Int) ≤ (j : Int) := by omega
  go_wp2_with fail
  go_ret
  exact ⟨rfl, hb⟩
set_option maxHeartbeats 4000000 in
set_option maxRecDepth 100000 in
theorem fits_any (v : Value) (l : List Lb) (d : Df) (w : World) (hi : Items w v l) (hl : l.length ≤ 64) (hk : d.k.size ≤ maxLen) (hg : getN l d.k = (d.o, d.had)) : Calls Tryz.prog 61 #[v, dv d] w fun e w' => e = .returned (.bool true) ∧ Below w.heap.size w w' := by
  obtain ⟨k, o, n, had, has⟩ := d
  simp only at hk hg
  unfold dv
  simp only
  cases had with
  | true =>
    have hm : (k, o) ∈ l := by
      have := (get_yes (l := l) (s := k) (by rw [hg])).2
      rw [hg] at this
      exact this
    have HC := hid (fun W (hb : Below w.heap.size w W) => contains_has v l (k, o) W (hi.low hb) hl hm)
    clear hi hg hm hk hl
    go_enter Tryz.func61, Tryz.ntmps61
    go_wp2_with fail
    refine (HC.out _ (belowA _ _)).mono ?_
    rintro e w1 ⟨rfl, hb0⟩
    have hb := (belowA w (.cells #[.string k, .string o, .string n, .bool true, .bool has] 52)).trans (hb0.mono (by simp))
    clear hb0
    go_wp2_with fail
    go_ret
    exact ⟨rfl, hb⟩
  | false =>
    have HC := hid (fun W (hb : Below w.heap.size w W) => has_any v l k W (hi.low hb) (by unfold maxLen; omega) hk)
    rw [hg] at HC
    clear hi hg hk hl
    go_enter Tryz.func61, Tryz.ntmps61
    go_wp2_with fail
    refine (HC.out _ (belowA _ _)).mono ?_
    rintro e w1 ⟨rfl, hb0⟩
    have hb := (belowA w (.cells #[.string k, .string o, .string n, .bool false, .bool has] 52)).trans (hb0.mono (by simp))
    clear hb0
    go_wp2_with fail
    go_ret
    exact ⟨rfl, hb⟩
end Go.Proofs.YtkbjjbgmnfngjaaGreatDoor.L
namespace Go.Proofs.YtkbjjbgmnfngjaaGreatDoor.L
open Go.RowKit
set_option linter.unusedVariables false
theorem FiveAt.low {W W' : World} {B : Nat} {x : Df} (h : FiveAt W B x) (hb : Below W.heap.size W W') (hB : B < W.heap.size) : FiveAt W' B x :=
  ⟨(hb.cell (p := ⟨B, 0, none⟩) hB).trans h.d0, (hb.cell (p := ⟨B, 1, none⟩) hB).trans h.d1, (hb.cell (p := ⟨B, 2, none⟩) hB).trans h.d2, (hb.cell (p := ⟨B, 3, none⟩) hB).trans h.d3, (hb.cell (p := ⟨B, 4, none⟩) hB).trans h.d4⟩
theorem five_new (w : World) (x : Df) (t : TypeId) : FiveAt (w.alloc (.cells #[.string x.k, .string x.o, .string x.n, .bool x.had, .bool x.has] t)) w.heap.size x := ⟨by simp [go_sem], by simp [go_sem], by simp [go_sem], by simp [go_sem], by simp [go_sem]⟩
set_option maxHeartbeats 4000000 in
set_option maxRecDepth 100000 in
theorem checkdiff_ok (v : Value) (l : List Lb) (t : ByteArray) (d : Df) (w : World) (hi : Items w v l) (hl : l.length ≤ 64) (ht : t.size ≤ maxLen) (hk : d.k.size ≤ maxLen) (ho : d.o.size ≤ maxLen) (hn : d.n.size ≤ maxLen)
    (hK : keyB d.k = true) (hO : valB d.o = true) (hN : valB d.n = true) (hr : Op.bytesLess t.toList d.k.toList = true) (hf : Fine d) (hg : getN l d.k = (d.o, d.had)) :
    Calls Tryz.prog 39 #[v, .string t, dv d] w fun e w' => e = .returned (.int .i64 0) ∧ Below w.heap.size w w' := by
  have KK := hid (fun W => key_any d.k W hk)
  rw [hK] at KK
  have OO := hid (fun W => value_any d.o W ho)
  rw [hO] at OO
  have NN := hid (fun W => value_any d.n W hn)
  rw [hN] at NN
  have RR := hid (fun W => rise_any t d.k W)
  rw [show riseE t d.k = 0 by
    obtain ⟨z1, z2, z3⟩ := less_asymm _ _ hr
    unfold riseE eqS
    rw [z3, z1]
    rfl] at RR
  have SS := hid (fun W => something_any d W hf)
  have FF := hid (fun W (hb : Below w.heap.size w W) => fits_any v l d W (hi.low hb) hl hk hg)
  obtain ⟨k, o, n, had, has⟩ := d
  simp only [dv] at KK OO NN SS FF RR ⊢
  clear hi hl ht hk ho hn hK hO hN hf hg hr
  go_enter Tryz.func39, Tryz.ntmps39
  go_wp2_with fail
  have F0 := five_new w ⟨k, o, n, had, has⟩ 52
  have b0 := belowA w (.cells #[.string k, .string o, .string n, .bool had, .bool has] 52)
  refine (KK.out _).mono ?_
  rintro e w1 ⟨rfl, hb⟩
  obtain ⟨d0, d1, d2, d3, d4⟩ := F0.low hb (by simp)
  have F1 := hid (F0.low hb (by simp))
  have B1 := hid (b0.trans (hb.mono b0.size))
  have Z1 := hid (show w.heap.size < w1.heap.size from Nat.lt_of_lt_of_le (by simp) hb.size)
  clear hb F0 b0
  simp only at d0 d1 d2 d3 d4
  go_wp2_with fail
  refine (RR.out _).mono ?_
  rintro e w1x ⟨rfl, hw⟩
  subst hw
  go_wp2_with fail
  refine (SS.out _).mono ?_
  rintro e w2 ⟨rfl, hb⟩
  clear d0 d1 d2 d3 d4
  obtain ⟨d0, d1, d2, d3, d4⟩ := F1.out.low hb Z1.out
  have B2 := hid (B1.out.trans (hb.mono B1.out.size))
  clear hb F1 B1 Z1
  simp only at d0 d1 d2 d3 d4
  go_wp2_with fail
  refine (OO.out _).mono ?_
  rintro e w2x ⟨rfl, hw⟩
  subst hw
  go_wp2_with fail
  refine (NN.out _).mono ?_
  rintro e w2y ⟨rfl, hw⟩
  subst hw
  have B3 := B2
  go_wp2_with fail
  refine (FF.out _ B3.out).mono ?_
  rintro e w3 ⟨rfl, hb⟩
  have B4 := hid (B3.out.trans (hb.mono B3.out.size))
  clear hb B3 B2
  go_wp2_with fail
  go_ret
  exact ⟨rfl, B4.out⟩
end Go.Proofs.YtkbjjbgmnfngjaaGreatDoor.L
