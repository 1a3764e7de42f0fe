import Derived.Test.YtkagdmhijjfnnabDoorNl4
namespace Go.Proofs.YtkagdmhijjfnnabDoor
open Go.RowKit Bs
set_option linter.unusedVariables false
theorem SO.cl {w : World} {v : Value} {q n : Nat} {S : Nat → Bool} (h : SO w v q n S) (i : Nat) (hi : n ≤ i) : S i = false := by
  cases e : S i
  · rfl
  · have := h.bound i e; omega
theorem SO.qlt {w : World} {v : Value} {q n : Nat} {S : Nat → Bool} (h : SO w v q n S) : v = .pointer none ∨ q < w.heap.size := by
  rcases h with h | ⟨p, _, h⟩
  · exact Or.inl h.1
  · exact Or.inr h.qlt
theorem andwith_f {p q n : Nat} {v : Value} {q' n' : Nat} {S T : Nat → Bool} (w0 w : World) (h : SetAt w p q n S) (h0 : SO w0 v q' n' T) (hb : Below w0.heap.size w0 w) (hq : w0.heap.size ≤ q) :
    Calls Tryd.prog 18 #[.pointer (some ⟨p, 0, none⟩), v] w fun e w' => e = .returned (.tuple #[]) ∧ SetAt w' p q n (fun i => S i && T i) ∧ Chg q w w' := by
  rcases h0.qlt with e | e
  · rcases h0 with ⟨a, b, c⟩ | ⟨p', a, c⟩
    · exact andwith_o (q' := q + 1) w h (Or.inl ⟨a, b, c⟩) (Or.inl (by omega))
    · rw [e] at a; cases a
  · exact andwith_o w h (h0.low hb) (Or.inl (by omega))
theorem orwith_f {p q n : Nat} {v : Value} {q' n' : Nat} {S T : Nat → Bool} (w0 w : World) (h : SetAt w p q n S) (h0 : SO w0 v q' n' T) (hb : Below w0.heap.size w0 w) (hq : w0.heap.size ≤ q) :
    Calls Tryd.prog 19 #[.pointer (some ⟨p, 0, none⟩), v] w fun e w' => e = .returned (.tuple #[]) ∧ SetAt w' p q n (fun i => (S i || T i) && decide (i < n)) ∧ Chg q w w' := by
  rcases h0.qlt with e | e
  · rcases h0 with ⟨a, b, c⟩ | ⟨p', a, c⟩
    · exact orwith_o (q' := q + 1) w h (Or.inl ⟨a, b, c⟩) (Or.inl (by omega))
    · rw [e] at a; cases a
  · exact orwith_o w h (h0.low hb) (Or.inl (by omega))
theorem andnotwith_f {p q n : Nat} {v : Value} {q' n' : Nat} {S T : Nat → Bool} (w0 w : World) (h : SetAt w p q n S) (h0 : SO w0 v q' n' T) (hb : Below w0.heap.size w0 w) (hq : w0.heap.size ≤ q) :
    Calls Tryd.prog 20 #[.pointer (some ⟨p, 0, none⟩), v] w fun e w' => e = .returned (.tuple #[]) ∧ SetAt w' p q n (fun i => S i && !T i) ∧ Chg q w w' := by
  rcases h0.qlt with e | e
  · rcases h0 with ⟨a, b, c⟩ | ⟨p', a, c⟩
    · exact andnotwith_o (q' := q + 1) w h (Or.inl ⟨a, b, c⟩) (Or.inl (by omega))
    · rw [e] at a; cases a
  · exact andnotwith_o w h (h0.low hb) (Or.inl (by omega))
set_option maxHeartbeats 1000000 in
theorem and_o {v v' : Value} {q n q' n' : Nat} {S T : Nat → Bool} (w : World) (h : SO w v q n S) (h' : SO w v' q' n' T) :
    Calls Tryd.prog 27 #[v, v'] w fun e w' => ∃ p q, e = .returned (.pointer (some ⟨p, 0, none⟩)) ∧ Fresh w w' p q (max n n') (fun i => S i && T i) := by
  have HI := hid h
  have HI' := hid h'
  clear h h'
  go_enter Tryd.func27, Tryd.ntmps27
  go_wp2_with fail
  refine (size_o _ HI'.out).mono ?_
  rintro e w1 ⟨rfl, rfl⟩
  go_wp2_with fail
  refine (widened_o n' _ HI.out HI'.out.hn).mono ?_
  rintro e w2 ⟨rfl, hs, hb⟩
  have HS := hid hs
  have HB := hid hb
  clear hs hb
  go_wp2_with fail
  refine (andwith_f _ _ HS.out HI'.out HB.out (Nat.le_refl _)).mono ?_
  rintro e w3 ⟨rfl, hs3, hg3⟩
  go_wp2_with fail
  go_ret
  exact ⟨_, _, rfl, by omega, Nat.le_refl _, hs3, Chg.below HB.out hg3 (Nat.le_refl _) HB.out.size⟩
set_option maxHeartbeats 1000000 in
theorem or_o {v v' : Value} {q n q' n' : Nat} {S T : Nat → Bool} (w : World) (h : SO w v q n S) (h' : SO w v' q' n' T) :
    Calls Tryd.prog 28 #[v, v'] w fun e w' => ∃ p q, e = .returned (.pointer (some ⟨p, 0, none⟩)) ∧ Fresh w w' p q (max n n') (fun i => S i || T i) := by
  have HI := hid h
  have HI' := hid h'
  clear h h'
  go_enter Tryd.func28, Tryd.ntmps28
  go_wp2_with fail
  refine (size_o _ HI'.out).mono ?_
  rintro e w1 ⟨rfl, rfl⟩
  go_wp2_with fail
  refine (widened_o n' _ HI.out HI'.out.hn).mono ?_
  rintro e w2 ⟨rfl, hs, hb⟩
  have HS := hid hs
  have HB := hid hb
  clear hs hb
  go_wp2_with fail
  refine (orwith_f _ _ HS.out HI'.out HB.out (Nat.le_refl _)).mono ?_
  rintro e w3 ⟨rfl, hs3, hg3⟩
  replace hs3 := hs3.turn (T := fun i => S i || T i) (fun i => by
    cases a : S i
    · cases b : T i
      · simp
      · have := HI'.out.bound i b
        simp; omega
    · have := HI.out.bound i a
      simp; omega)
  go_wp2_with fail
  go_ret
  exact ⟨_, _, rfl, by omega, Nat.le_refl _, hs3, Chg.below HB.out hg3 (Nat.le_refl _) HB.out.size⟩
set_option maxHeartbeats 1000000 in
theorem andnot_o {v v' : Value} {q n q' n' : Nat} {S T : Nat → Bool} (w : World) (h : SO w v q n S) (h' : SO w v' q' n' T) :
    Calls Tryd.prog 29 #[v, v'] w fun e w' => ∃ p q, e = .returned (.pointer (some ⟨p, 0, none⟩)) ∧ Fresh w w' p q (max n n') (fun i => S i && !T i) := by
  have HI := hid h
  have HI' := hid h'
  clear h h'
  go_enter Tryd.func29, Tryd.ntmps29
  go_wp2_with fail
  refine (size_o _ HI'.out).mono ?_
  rintro e w1 ⟨rfl, rfl⟩
  go_wp2_with fail
  refine (widened_o n' _ HI.out HI'.out.hn).mono ?_
  rintro e w2 ⟨rfl, hs, hb⟩
  have HS := hid hs
  have HB := hid hb
  clear hs hb
  go_wp2_with fail
  refine (andnotwith_f _ _ HS.out HI'.out HB.out (Nat.le_refl _)).mono ?_
  rintro e w3 ⟨rfl, hs3, hg3⟩
  go_wp2_with fail
  go_ret
  exact ⟨_, _, rfl, by omega, Nat.le_refl _, hs3, Chg.below HB.out hg3 (Nat.le_refl _) HB.out.size⟩
set_option maxHeartbeats 1000000 in
theorem not_o {v v' : Value} {q n q' n' : Nat} {S T : Nat → Bool} (w : World) (h : SO w v q n S) (h' : SO w v' q' n' T) :
    Calls Tryd.prog 31 #[v, v'] w fun e w' => ∃ p q, e = .returned (.pointer (some ⟨p, 0, none⟩)) ∧ Fresh w w' p q n' (fun i => T i && !S i) := by
  have HI := hid h
  have HI' := hid h'
  clear h h'
  go_enter Tryd.func31, Tryd.ntmps31
  go_wp2_with fail
  refine (clone_o _ HI'.out).mono ?_
  rintro e w2 ⟨p2, q2, rfl, f2⟩
  have F2 := hid f2
  clear f2
  go_wp2_with fail
  refine (andnotwith_f _ _ F2.out.at' HI.out F2.out.low F2.out.hq).mono ?_
  rintro e w3 ⟨rfl, hs3, hg3⟩
  go_wp2_with fail
  go_ret
  exact ⟨_, _, rfl, F2.out.hp, F2.out.hq, hs3, Chg.below F2.out.low hg3 F2.out.hq F2.out.low.size⟩
set_option maxRecDepth 100000 in
set_option maxHeartbeats 1000000 in
/-- Xor: the walk, at the words. -/
theorem xor_sr {v : Value} {q n p' q' n' : Nat} {S T : Nat → Bool} (w : World) (h : SO w v q n S) (h' : SetAt w p' q' n' T) :
    Calls Tryd.prog 30 #[v, .pointer (some ⟨p', 0, none⟩)] w fun e w' => ∃ p q, e = .returned (.pointer (some ⟨p, 0, none⟩)) ∧ Fresh w w' p q (max n n') (fun i => S i ^^ T i) := by
  have HI := hid h
  have HI' := hid h'
  clear h h'
  go_enter Tryd.func30, Tryd.ntmps30
  go_wp2_with fail
  refine (size_any _ HI'.out).mono ?_
  rintro e w1 ⟨rfl, hww⟩
  subst hww
  go_wp2_with fail
  refine (widened_o n' _ HI.out HI'.out.hn).mono ?_
  rintro e w2 ⟨rfl, hs, hb⟩
  obtain ⟨ws, x, hx⟩ := hs
  obtain ⟨vs, y, hy⟩ := HI'.out.low hb
  have hyq : q' < w1.heap.size := HI'.out.qlt
  have hc1 := x.c1
  have hd1 := y.c1
  have hle := y.len
  have hlen : vs.length ≤ ws.length := by rw [x.hl, y.hl]; unfold nw; omega
  have HX := hid x
  have HY := hid y
  have HXM := hid hx
  have HYM := hid hy
  have HB := hid hb
  have HQ := hid hyq
  obtain ⟨L, hL⟩ : ∃ L, L = vs.length := ⟨_, rfl⟩
  rw [← hL] at hd1 hle hlen
  have HL := hid hL
  clear x y hx hy hb hyq hL
  go_wp2_with fail
  refine (list_cell p' _ _ _ _ hd1).mono ?_
  rintro e w3 ⟨rfl, hww⟩
  subst hww
  go_wp2_with fail
  go_loopw [15] (fun i wr => ∃ k : Nat, k ≤ L ∧ i = .int .i64 k ∧ Chg w1.heap.size w3 wr ∧ wr.heap[w1.heap.size]? = some (.cells (row (part (· ^^^ ·) k ws vs)) 56 (0, 0))) (fun i _ => L - (intOf i).toNat)
  case atStart => exact ⟨0, Nat.zero_le _, rfl, Chg.refl _ _, by rw [part_zero]; exact HX.out.hq⟩
  case round =>
    obtain ⟨k, hk, rfl, hg, hrow⟩ := hrel
    by_cases hlt : k < L
    · have hi1 : k < ws.length := by omega
      have hi2 : k < vs.length := by rw [← HL.out]; exact hlt
      have hx := cell_part hrow hi1
      have hy := (hg.cell (p := ⟨q', k, none⟩) (by have := HQ.out; show q' ≠ w1.heap.size; omega) HY.out.qlt).trans (HY.out.cw k hi2)
      have hc1' := (hg.cell (p := ⟨w1.heap.size + 1, 1, none⟩) (by show w1.heap.size + 1 ≠ w1.heap.size; omega) HX.out.plt).trans hc1
      have hfz := frozen_of_row _ w1.heap.size k _ _ hrow
      have hxb := HX.out.wd.getD k
      have hyb := HY.out.wd.getD k
      have HG := hid hg
      have HR := hid hrow
      obtain ⟨x, hxe⟩ : ∃ x, x = ws.getD k 0 := ⟨_, rfl⟩
      obtain ⟨y, hye⟩ : ∃ y, y = vs.getD k 0 := ⟨_, rfl⟩
      rw [← hxe] at hx hxb
      rw [← hye] at hy hyb
      have HXE := hid hxe
      have HYE := hid hye
      have HXB := hid hxb
      have HYB := hid hyb
      have HI1 := hid hi1
      clear hg hrow hxe hye hxb hyb
      go_wp2
      go_roundw
      case rel => exact ⟨k + 1, by omega, by go_num, HG.out.trans (Chg.setCell _ _), round_part HR.out HI1.out HXE.out HYE.out (u64_xor_nat x y HXB.out HYB.out)⟩
      case measure => simp [intOf]; omega
    · have e : k = L := by omega
      have hm : k = min ws.length vs.length := by rw [← HL.out, e]; omega
      rw [part_all (· ^^^ ·) k ws vs hm (fun x _ => Nat.xor_zero x)] at hrow
      have hmem : ∀ i, mem (opW (· ^^^ ·) ws vs) i = (S i ^^ T i) := fun i => by
        rw [mem_xor, HXM.out, HYM.out]
        cases b : T i
        · simp
        · have h1 := HI'.out.bound i b
          have : i / 64 < ws.length := by rw [HX.out.hl]; unfold nw; omega
          simp [this]
      have hset : SetAt wr (w1.heap.size + 1) w1.heap.size (max n n') (fun i => S i ^^ T i) := ⟨_, HX.out.put hg hrow (length_opW _ _ _) (HX.out.wd.opW HY.out.wd xor_lt) (fun i hi => by
        rw [hmem, HI.out.cl i (by omega), HI'.out.cl i (by omega)]; rfl), hmem⟩
      have hlow := Chg.below HB.out hg (Nat.le_refl _) HB.out.size
      have HSET := hid hset
      have HLOW := hid hlow
      clear hg hrow hmem hset hlow hm
      go_wp2
      go_ret
      exact ⟨_, _, rfl, by omega, Nat.le_refl _, HSET.out, HLOW.out⟩
set_option maxRecDepth 100000 in
set_option maxHeartbeats 1000000 in
theorem xor_nilr {v : Value} {q n : Nat} {S : Nat → Bool} (w : World) (h : SO w v q n S) :
    Calls Tryd.prog 30 #[v, .pointer none] w fun e w' => ∃ p q, e = .returned (.pointer (some ⟨p, 0, none⟩)) ∧ Fresh w w' p q n S := by
  have HI := hid h
  clear h
  go_enter Tryd.func30, Tryd.ntmps30
  go_wp2_with fail
  refine (size_nil _).mono ?_
  rintro e w1 ⟨rfl, hww⟩
  subst hww
  go_wp2_with fail
  refine (widened_o 0 _ HI.out (by omega)).mono ?_
  rintro e w2 ⟨rfl, hs, hb⟩
  rw [Nat.max_zero] at hs
  have HS := hid hs
  have HB := hid hb
  clear hs hb
  go_wp2_with fail
  refine (list_nil _).mono ?_
  rintro e w3 ⟨rfl, hww⟩
  subst hww
  go_wp2_with fail
  go_loopw [15] (fun i wr => i = .int .i64 0 ∧ wr = w3) (fun _ _ => 0)
  case atStart => exact ⟨rfl, rfl⟩
  case round =>
    obtain ⟨rfl, rfl⟩ := hrel
    go_wp2
    go_ret
    exact ⟨_, _, rfl, by omega, Nat.le_refl _, HS.out, HB.out⟩
theorem xor_o {v v' : Value} {q n q' n' : Nat} {S T : Nat → Bool} (w : World) (h : SO w v q n S) (h' : SO w v' q' n' T) :
    Calls Tryd.prog 30 #[v, v'] w fun e w' => ∃ p q, e = .returned (.pointer (some ⟨p, 0, none⟩)) ∧ Fresh w w' p q (max n n') (fun i => S i ^^ T i) := by
  rcases h' with ⟨rfl, rfl, hT⟩ | ⟨p', rfl, h'⟩
  · refine (xor_nilr w h).mono ?_
    rintro e w' ⟨p, q, rfl, f⟩
    exact ⟨p, q, rfl, f.hp, f.hq, by rw [Nat.max_zero]; exact f.at'.turn (fun i => by simp [hT]), f.low⟩
  · exact xor_sr w h h'
end Go.Proofs.YtkagdmhijjfnnabDoor
