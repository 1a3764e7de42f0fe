import Derived.Test.YtkbjjbgmnfngjaaGreatDoorMgAB
namespace Go.Proofs.YtkbjjbgmnfngjaaGreatDoor.L
open Go.RowKit
set_option linter.unusedVariables false
set_option maxHeartbeats 4000000 in
set_option maxRecDepth 100000 in
theorem keyeq_any (d : Df) (B : Nat) (s : ByteArray) (w : World) (hB : B < w.heap.size) (hc : w.cell? ⟨B, 0, none⟩ = some (.string s)) : Calls Tryz.prog 63 #[dv d, .pointer (some ⟨B, 0, none⟩)] w fun e w' => e = .returned (.bool (d.k.toList == s.toList)) ∧ Below w.heap.size w w' := by
  obtain ⟨k, o, n, had, has⟩ := d
  unfold dv
  simp only
  go_enter Tryz.func63, Tryz.ntmps63
  go_wp2_with fail
  go_ret
  exact ⟨rfl, belowA _ _⟩
set_option maxHeartbeats 4000000 in
set_option maxRecDepth 100000 in
theorem indexfn_any (v : Value) (L : List Df) (B : Nat) (s : ByteArray) (w : World) (hi : ItemsD w v L) (hl : L.length ≤ 2600000000000) (hB : B < w.heap.size) (hc : w.cell? ⟨B, 0, none⟩ = some (.string s)) : Calls Tryz.prog 88 #[v, .func (.func 63) #[] #[.pointer (some ⟨B, 0, none⟩)]] w fun e w' => ((∃ j : Nat, e = .returned (.int .i64 j) ∧ ∃ d ∈ L, d.k = s) ∨ (e = .returned (.int .i64 (-1)) ∧ ∀ d ∈ L, d.k ≠ s)) ∧ Below w.heap.size w w' := by
  obtain ⟨a, c, rfl, h⟩ := hi
  obtain ⟨len, hlen⟩ : ∃ n, n = L.length := ⟨_, rfl⟩
  have HLEN := hid hlen
  rw [← hlen] at hl ⊢
  clear hlen
  have KE := hid (fun W d (hb : Below w.heap.size w W) => keyeq_any d B s W (Nat.lt_of_lt_of_le hB hb.size) ((hb.cell (p := ⟨B, 0, none⟩) hB).trans hc))
  clear hc
  go_enter Tryz.func88, Tryz.ntmps88
  go_wp2
  go_loopw [8] (fun i wr => ∃ k : Nat, k ≤ len ∧ i = .int .i64 k ∧ Hid (Below w.heap.size w wr) ∧ Hid (∀ j (hj : j < L.length), j < k → L[j].k ≠ s)) (fun i _ => len - (intOf i).toNat)
  case atStart => exact ⟨0, Nat.zero_le _, rfl, hid (Below.refl _ _), hid (fun j _ hj => by omega)⟩
  case round =>
    obtain ⟨k, hk, rfl, HB, HN⟩ := hrel
    by_cases hlt : k < len
    · rcases h with h0 | ⟨b, off, rfl, hbl, hc⟩
      · have := HLEN.out
        omega
      obtain ⟨d0, d1, d2, d3, d4⟩ := hc k (by rw [← HLEN.out]; exact hlt)
      rw [← HB.out.cell (p := ⟨b, off + k * 5, none⟩) hbl] at d0
      rw [← HB.out.cell (p := ⟨b, off + k * 5 + 1, none⟩) hbl] at d1
      rw [← HB.out.cell (p := ⟨b, off + k * 5 + 2, none⟩) hbl] at d2
      rw [← HB.out.cell (p := ⟨b, off + k * 5 + 3, none⟩) hbl] at d3
      rw [← HB.out.cell (p := ⟨b, off + k * 5 + 4, none⟩) hbl] at d4
      have HM := hid (show L[k]'(by rw [← HLEN.out]; exact hlt) ∈ L from List.getElem_mem _)
      have HN2 := hid (show (L[k]'(by rw [← HLEN.out]; exact hlt)).k ≠ s → ∀ j (hj : j < L.length), j < k + 1 → L[j].k ≠ s from fun hne j hj hj2 => by
        rcases Nat.lt_succ_iff_lt_or_eq.1 hj2 with h | rfl
        · exact HN.out j hj h
        · exact hne)
      have g1 : (k : Int) < (len : Int) := by omega
      have g2 : (0 : Int) ≤ (k : Int) := by omega
      generalize L[k]'(by rw [← HLEN.out]; exact hlt) = d at *
      have KD := hid (KE.out wr d HB.out)
      obtain ⟨dk, dO, dn, dh, ds⟩ := d
      simp only [dv] at KD d0 d1 d2 d3 d4 HN2
      clear hc
      go_wp2_with fail
      refine KD.out.mono ?_
      rintro e w1 ⟨rfl, hb⟩
      have B1 := hid (HB.out.trans (hb.mono HB.out.size))
      clear hb
      by_cases e1 : dk = s
      · have e2 : (dk.toList == s.toList) = true := by rw [e1]; simp
        rw [e2]
        have HH := hid (show ∃ d ∈ L, d.k = s from ⟨_, HM.out, e1⟩)
        clear e1 e2 HM HN2
        go_wp2_with fail
        go_ret
        exact ⟨Or.inl ⟨k, rfl, HH.out⟩, B1.out⟩
      · have e2 : (dk.toList == s.toList) = false := by simp; exact fun h => e1 (bytes_ext h)
        rw [e2]
        have HN3 := hid (HN2.out e1)
        clear e1 e2 HM HN2
        go_wp2_with fail
        exact ⟨⟨k + 1, by omega, by go_num, B1, HN3⟩, by simp [intOf]; omega⟩
    · obtain rfl : k = len := by omega
      have HH := hid (show ∀ d ∈ L, d.k ≠ s from fun d hd => by
        obtain ⟨j, hj, rfl⟩ := List.getElem_of_mem hd
        exact HN.out j hj (by rw [HLEN.out]; exact hj))
      go_wp2
      go_ret
      exact ⟨Or.inr ⟨rfl, HH.out⟩, HB.out⟩
def hit (L : List Df) (s : ByteArray) : Bool := L.any fun d => d.k.toList == s.toList
theorem hit_yes {L : List Df} {s : ByteArray} (h : ∃ d ∈ L, d.k = s) : hit L s = true := by
  obtain ⟨d, hd, rfl⟩ := h
  exact List.any_eq_true.2 ⟨d, hd, by simp⟩
theorem hit_no {L : List Df} {s : ByteArray} (h : ∀ d ∈ L, d.k ≠ s) : hit L s = false := by
  apply Bool.eq_false_iff.2
  intro e
  obtain ⟨d, hd, e2⟩ := List.any_eq_true.1 e
  exact h d hd (bytes_ext (by simpa using e2))
theorem hit_none {L : List Df} {s : ByteArray} (h : hit L s = false) : ∀ d ∈ L, d.k ≠ s := fun d hd e => by
  rw [hit_yes ⟨d, hd, e⟩] at h
  cases h
set_option maxHeartbeats 4000000 in
set_option maxRecDepth 100000 in
theorem containsfn_any (v : Value) (L : List Df) (B : Nat) (s : ByteArray) (w : World) (hi : ItemsD w v L) (hl : L.length ≤ 2600000000000) (hB : B < w.heap.size) (hc : w.cell? ⟨B, 0, none⟩ = some (.string s)) : Calls Tryz.prog 62 #[v, .func (.func 63) #[] #[.pointer (some ⟨B, 0, none⟩)]] w fun e w' => e = .returned (.bool (hit L s)) ∧ Below w.heap.size w w' := by
  have HI := hid (indexfn_any v L B s w hi hl hB hc)
  clear hi hc hl hB
  go_enter Tryz.func62, Tryz.ntmps62
  go_wp2_with fail
  refine HI.out.mono ?_
  rintro e w1 ⟨⟨j, rfl, hh⟩ | ⟨rfl, hh⟩, hb⟩
  · have HH := hid (hit_yes hh)
    have hj : (0 : Int) ≤ (j : Int) := by omega
    clear hh
    go_wp2_with fail
    go_ret
    exact ⟨by rw [HH.out]; rfl, hb⟩
  · have HH := hid (hit_no hh)
    clear hh
    go_wp2_with fail
    go_ret
    exact ⟨by rw [HH.out]; rfl, hb⟩
end Go.Proofs.YtkbjjbgmnfngjaaGreatDoor.L
namespace Go.Proofs.YtkbjjbgmnfngjaaGreatDoor.L
open Go.RowKit
set_option linter.unusedVariables false
def Gt (k : ByteArray) (l : List Lb) : Prop := ∀ z ∈ l, Op.bytesLess k.toList z.1.toList = true
theorem get_skip {x : Lb} {a : List Lb} {s : ByteArray} (h : Op.bytesLess x.1.toList s.toList = true) : getN (x :: a) s = getN a s := by
  rw [get_cons, if_neg]
  intro e
  rw [e, less_irrefl] at h
  cases h
theorem get_gt {k : ByteArray} {l : List Lb} (h : Gt k l) : getN l k = (ByteArray.empty, false) := get_none fun z hz e => by
  have := h z hz
  rw [e, less_irrefl] at this
  cases this
end Go.Proofs.YtkbjjbgmnfngjaaGreatDoor.L
