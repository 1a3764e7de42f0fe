import Derived.Test.YtkagdmhijjfnnabDoorSub
namespace Go.Proofs.YtkagdmhijjfnnabDoor
open Go.RowKit Bs
set_option maxHeartbeats 1000000 in
theorem equal_words (p q n p' q' n' : Nat) (ws vs : List Nat) (w : World) (h : IsSet w p q n ws) (h' : IsSet w p' q' n' vs) :
    Calls Tryd.prog 33 #[.pointer (some ⟨p, 0, none⟩), .pointer (some ⟨p', 0, none⟩)] w fun e w' => e = .returned (.bool (subW ws vs && subW vs ws)) ∧ w' = w := by
  have c1 := subset_words p q n p' q' n' ws vs w h h'
  have c2 := subset_words p' q' n' p q n vs ws w h' h
  cases e1 : subW ws vs
  · rw [e1] at c1
    have C1 := hid c1
    clear c1 c2 e1 h h'
    go_enter Tryd.func33, Tryd.ntmps33
    go_wp2_with fail
    refine C1.out.mono ?_
    rintro e w1 ⟨rfl, rfl⟩
    go_wp2_with fail
    go_ret
    exact ⟨by simp, rfl⟩
  · rw [e1] at c1
    have C1 := hid c1
    have C2 := hid c2
    clear c1 c2 e1 h h'
    go_enter Tryd.func33, Tryd.ntmps33
    go_wp2_with fail
    refine C1.out.mono ?_
    rintro e w1 ⟨rfl, rfl⟩
    go_wp2_with fail
    refine C2.out.mono ?_
    rintro e w1 ⟨rfl, rfl⟩
    go_wp2_with fail
    go_ret
    exact ⟨by simp, rfl⟩

/-- BLOCK p IS A SET of size n whose members are those of S. -/
def SetAt (w : World) (p q n : Nat) (S : Nat → Bool) : Prop := ∃ ws, IsSet w p q n ws ∧ ∀ i, mem ws i = S i
theorem SetAt.low {w w' : World} {p q n : Nat} {S : Nat → Bool} (h : SetAt w p q n S) (k : Below w.heap.size w w') : SetAt w' p q n S := by
  obtain ⟨ws, a, b⟩ := h; exact ⟨ws, a.low k, b⟩
theorem SetAt.keep {w w' : World} {p q n a : Nat} {S : Nat → Bool} (h : SetAt w p q n S) (k : Chg a w w') (hp : p ≠ a) (hq : q ≠ a) : SetAt w' p q n S := by
  obtain ⟨ws, x, b⟩ := h; exact ⟨ws, x.keep k hp hq, b⟩
theorem SetAt.plt {w : World} {p q n : Nat} {S : Nat → Bool} (h : SetAt w p q n S) : p < w.heap.size := by obtain ⟨ws, x, b⟩ := h; exact x.plt
theorem SetAt.qlt {w : World} {p q n : Nat} {S : Nat → Bool} (h : SetAt w p q n S) : q < w.heap.size := by obtain ⟨ws, x, b⟩ := h; exact x.qlt
theorem SetAt.ne {w : World} {p q n : Nat} {S : Nat → Bool} (h : SetAt w p q n S) : p ≠ q := by obtain ⟨ws, x, b⟩ := h; exact x.ne
theorem SetAt.c0 {w : World} {p q n : Nat} {S : Nat → Bool} (h : SetAt w p q n S) : w.cell? ⟨p, 0, none⟩ = some (.int .i64 n) := by obtain ⟨ws, x, b⟩ := h; exact x.c0
theorem SetAt.hn {w : World} {p q n : Nat} {S : Nat → Bool} (h : SetAt w p q n S) : n ≤ 65536 := by obtain ⟨ws, x, b⟩ := h; exact x.hn
theorem SetAt.cl {w : World} {p q n : Nat} {S : Nat → Bool} (h : SetAt w p q n S) (i : Nat) (hi : n ≤ i) : S i = false := by
  obtain ⟨ws, x, b⟩ := h; rw [← b]; exact x.cl i hi
theorem SetAt.turn {w : World} {p q n : Nat} {S T : Nat → Bool} (h : SetAt w p q n S) (k : ∀ i, S i = T i) : SetAt w p q n T := by
  obtain ⟨ws, x, b⟩ := h; exact ⟨ws, x, fun i => (b i).trans (k i)⟩
theorem SetAt.bound {w : World} {p q n : Nat} {S : Nat → Bool} (h : SetAt w p q n S) (i : Nat) (hi : S i = true) : i < n := by
  apply Classical.byContradiction
  intro c
  rw [h.cl i (by omega)] at hi; cases hi

/-- Two sets are apart, or one. -/
def Apart (p q p' q' : Nat) : Prop := p = p' ∨ q ≠ q'
theorem apart_words {w : World} {p q n p' q' n' : Nat} {ws vs : List Nat} (h : IsSet w p q n ws) (h' : IsSet w p' q' n' vs) (ha : Apart p q p' q') : q = q' → ws = vs := by
  intro e
  rcases ha with rfl | c
  · exact (h.same h').2.2
  · exact absurd e c

theorem andwith_any {p q n p' q' n' : Nat} {S T : Nat → Bool} (w : World) (h : SetAt w p q n S) (h' : SetAt w p' q' n' T) (ha : Apart p q p' q') :
    Calls Tryd.prog 18 #[.pointer (some ⟨p, 0, none⟩), .pointer (some ⟨p', 0, none⟩)] w fun e w' => e = .returned (.tuple #[]) ∧ SetAt w' p q n (fun i => S i && T i) ∧ Chg q w w' := by
  obtain ⟨ws, x, hx⟩ := h
  obtain ⟨vs, y, hy⟩ := h'
  refine (andwith_core p q n p' q' n' ws vs w x y (apart_words x y ha)).mono ?_
  rintro e w' ⟨rfl, hg, hr⟩
  have hm : ∀ i, mem (opW (· &&& ·) ws vs) i = (S i && T i) := fun i => by rw [mem_and, hx, hy]
  refine ⟨rfl, ⟨_, x.put hg hr (length_opW _ _ _) (x.wd.opW y.wd (fun a b ha _ => and_lt a b ha)) (fun i hi => ?_), hm⟩, hg⟩
  rw [hm, ← hx, x.cl i hi]; rfl
theorem andnotwith_any {p q n p' q' n' : Nat} {S T : Nat → Bool} (w : World) (h : SetAt w p q n S) (h' : SetAt w p' q' n' T) (ha : Apart p q p' q') :
    Calls Tryd.prog 20 #[.pointer (some ⟨p, 0, none⟩), .pointer (some ⟨p', 0, none⟩)] w fun e w' => e = .returned (.tuple #[]) ∧ SetAt w' p q n (fun i => S i && !T i) ∧ Chg q w w' := by
  obtain ⟨ws, x, hx⟩ := h
  obtain ⟨vs, y, hy⟩ := h'
  refine (andnotwith_core p q n p' q' n' ws vs w x y (apart_words x y ha)).mono ?_
  rintro e w' ⟨rfl, hg, hr⟩
  have hm : ∀ i, mem (opW anot ws vs) i = (S i && !T i) := fun i => by rw [mem_anot _ _ _ x.wd y.wd, hx, hy]
  refine ⟨rfl, ⟨_, x.put hg hr (length_opW _ _ _) (x.wd.opW y.wd (fun a b ha _ => anot_lt a b ha)) (fun i hi => ?_), hm⟩, hg⟩
  rw [hm, ← hx, x.cl i hi]; rfl
theorem orwith_any {p q n p' q' n' : Nat} {S T : Nat → Bool} (w : World) (h : SetAt w p q n S) (h' : SetAt w p' q' n' T) (ha : Apart p q p' q') :
    Calls Tryd.prog 19 #[.pointer (some ⟨p, 0, none⟩), .pointer (some ⟨p', 0, none⟩)] w fun e w' => e = .returned (.tuple #[]) ∧ SetAt w' p q n (fun i => (S i || T i) && decide (i < n)) ∧ Chg q w w' := by
  obtain ⟨ws, x, hx⟩ := h
  obtain ⟨vs, y, hy⟩ := h'
  refine (orwith_core p q n p' q' n' ws vs w x y (apart_words x y ha)).mono ?_
  rintro e w' ⟨rfl, hg, hr⟩
  have hl := x.hl
  have hm : ∀ i, mem (cutW n (opW (· ||| ·) ws vs)) i = ((S i || T i) && decide (i < n)) := fun i => by
    rw [mem_cutW n _ (by rw [length_opW]; exact x.hl), mem_or, hx, hy]
    by_cases hi : i < n
    · have : i / 64 < ws.length := by rw [hl]; unfold nw; omega
      simp [hi, this]
    · simp [hi]
  refine ⟨rfl, ⟨_, x.put hg hr (by rw [length_cutW, length_opW]) ((x.wd.opW y.wd or_lt).cutW n) (fun i hi => ?_), hm⟩, hg⟩
  rw [hm]
  simp; omega

theorem size_any {p q n : Nat} {S : Nat → Bool} (w : World) (h : SetAt w p q n S) : Calls Tryd.prog 21 #[.pointer (some ⟨p, 0, none⟩)] w fun e w' => e = .returned (.int .i64 n) ∧ w' = w := size_cell p n w h.c0
theorem clone_set {p q n : Nat} {S : Nat → Bool} (w : World) (h : SetAt w p q n S) :
    Calls Tryd.prog 26 #[.pointer (some ⟨p, 0, none⟩)] w fun e w' => e = .returned (.pointer (some ⟨w.heap.size + 1, 0, none⟩)) ∧ SetAt w' (w.heap.size + 1) w.heap.size n S ∧ Below w.heap.size w w' := by
  obtain ⟨ws, x, hx⟩ := h
  refine (clone_any p q n ws w x).mono ?_
  rintro e w' ⟨rfl, a, b⟩
  exact ⟨rfl, ⟨ws, a, hx⟩, b⟩
theorem widened_set {p q n : Nat} {S : Nat → Bool} (m : Nat) (w : World) (h : SetAt w p q n S) (hm : m ≤ 65536) :
    Calls Tryd.prog 53 #[.pointer (some ⟨p, 0, none⟩), .int .i64 m] w fun e w' => e = .returned (.pointer (some ⟨w.heap.size + 1, 0, none⟩)) ∧ SetAt w' (w.heap.size + 1) w.heap.size (max n m) S ∧ Below w.heap.size w w' := by
  obtain ⟨ws, x, hx⟩ := h
  refine (widened_any p q n m ws w x hm).mono ?_
  rintro e w' ⟨rfl, a, b⟩
  exact ⟨rfl, ⟨_, a, fun i => by rw [mem_widW, hx]⟩, b⟩
theorem add_set {p q n : Nat} {S : Nat → Bool} (k : Nat) (w : World) (h : SetAt w p q n S) (hk : k < n) :
    Calls Tryd.prog 14 #[.pointer (some ⟨p, 0, none⟩), .int .i64 k] w fun e w' => e = .returned (.bool (!S k)) ∧ SetAt w' p q n (fun i => S i || decide (i = k)) ∧ Chg q w w' := by
  obtain ⟨ws, x, hx⟩ := h
  refine (add_in p q n k ws w x hk).mono ?_
  rintro e w' ⟨rfl, ⟨ws', a, b⟩, c⟩
  exact ⟨by rw [hx], ⟨ws', a, fun i => by rw [b, hx]⟩, c⟩
theorem equal_yes {p q n p' q' n' : Nat} {S T : Nat → Bool} (w : World) (h : SetAt w p q n S) (h' : SetAt w p' q' n' T) (he : ∀ i, S i = T i) :
    Calls Tryd.prog 33 #[.pointer (some ⟨p, 0, none⟩), .pointer (some ⟨p', 0, none⟩)] w fun e w' => e = .returned (.bool true) ∧ w' = w := by
  obtain ⟨ws, x, hx⟩ := h
  obtain ⟨vs, y, hy⟩ := h'
  refine (equal_words p q n p' q' n' ws vs w x y).mono ?_
  rintro e w' ⟨rfl, rfl⟩
  refine ⟨ret_bool ?_, rfl⟩
  rw [(subW_iff ws vs x.wd y.wd).2 (fun i => by rw [hx, hy, he]; exact id), (subW_iff vs ws y.wd x.wd).2 (fun i => by rw [hx, hy, he]; exact id)]; rfl

set_option maxHeartbeats 1000000 in
/-- And. -/
theorem and_any {p q n p' q' n' : Nat} {S T : Nat → Bool} (w : World) (h : SetAt w p q n S) (h' : SetAt w p' q' n' T) :
    Calls Tryd.prog 27 #[.pointer (some ⟨p, 0, none⟩), .pointer (some ⟨p', 0, none⟩)] w fun e w' => e = .returned (.pointer (some ⟨w.heap.size + 1, 0, none⟩)) ∧ SetAt w' (w.heap.size + 1) w.heap.size (max n n') (fun i => S i && T i) ∧ Below w.heap.size w w' := by
  have HI := hid h
  have HI' := hid h'
  clear h h'
  go_enter Tryd.func27, Tryd.ntmps27
  go_wp2_with fail
  refine (size_any _ HI'.out).mono ?_
  rintro e w1 ⟨rfl, rfl⟩
  go_wp2_with fail
  refine (widened_set n' _ HI.out HI'.out.hn).mono ?_
  rintro e w2 ⟨rfl, hs, hb⟩
  have HS := hid hs
  have HB := hid hb
  clear hs hb
  go_wp2_with fail
  refine (andwith_any _ HS.out (HI'.out.low HB.out) (Or.inr (by have := HI'.out.qlt; omega))).mono ?_
  rintro e w3 ⟨rfl, hs3, hg3⟩
  go_wp2_with fail
  go_ret
  exact ⟨rfl, hs3, Chg.below HB.out hg3 (Nat.le_refl _) HB.out.size⟩
set_option maxHeartbeats 1000000 in
/-- Or. -/
theorem or_any {p q n p' q' n' : Nat} {S T : Nat → Bool} (w : World) (h : SetAt w p q n S) (h' : SetAt w p' q' n' T) :
    Calls Tryd.prog 28 #[.pointer (some ⟨p, 0, none⟩), .pointer (some ⟨p', 0, none⟩)] w fun e w' => e = .returned (.pointer (some ⟨w.heap.size + 1, 0, none⟩)) ∧ SetAt w' (w.heap.size + 1) w.heap.size (max n n') (fun i => S i || T i) ∧ Below w.heap.size w w' := by
  have HI := hid h
  have HI' := hid h'
  clear h h'
  go_enter Tryd.func28, Tryd.ntmps28
  go_wp2_with fail
  refine (size_any _ HI'.out).mono ?_
  rintro e w1 ⟨rfl, rfl⟩
  go_wp2_with fail
  refine (widened_set n' _ HI.out HI'.out.hn).mono ?_
  rintro e w2 ⟨rfl, hs, hb⟩
  have HS := hid hs
  have HB := hid hb
  clear hs hb
  go_wp2_with fail
  refine (orwith_any _ HS.out (HI'.out.low HB.out) (Or.inr (by have := HI'.out.qlt; omega))).mono ?_
  rintro e w3 ⟨rfl, hs3, hg3⟩
  have hs4 := hs3.turn (T := fun i => S i || T i) (fun i => by
    cases a : S i
    · cases b : T i
      · simp
      · have := HI'.out.bound i b
        simp; omega
    · have := HI.out.bound i a
      simp; omega)
  have HS4 := hid hs4
  clear hs3 hs4
  go_wp2_with fail
  go_ret
  exact ⟨rfl, HS4.out, Chg.below HB.out hg3 (Nat.le_refl _) HB.out.size⟩
set_option maxHeartbeats 1000000 in
/-- AndNot. -/
theorem andnot_any {p q n p' q' n' : Nat} {S T : Nat → Bool} (w : World) (h : SetAt w p q n S) (h' : SetAt w p' q' n' T) :
    Calls Tryd.prog 29 #[.pointer (some ⟨p, 0, none⟩), .pointer (some ⟨p', 0, none⟩)] w fun e w' => e = .returned (.pointer (some ⟨w.heap.size + 1, 0, none⟩)) ∧ SetAt w' (w.heap.size + 1) w.heap.size (max n n') (fun i => S i && !T i) ∧ Below w.heap.size w w' := by
  have HI := hid h
  have HI' := hid h'
  clear h h'
  go_enter Tryd.func29, Tryd.ntmps29
  go_wp2_with fail
  refine (size_any _ HI'.out).mono ?_
  rintro e w1 ⟨rfl, rfl⟩
  go_wp2_with fail
  refine (widened_set n' _ HI.out HI'.out.hn).mono ?_
  rintro e w2 ⟨rfl, hs, hb⟩
  have HS := hid hs
  have HB := hid hb
  clear hs hb
  go_wp2_with fail
  refine (andnotwith_any _ HS.out (HI'.out.low HB.out) (Or.inr (by have := HI'.out.qlt; omega))).mono ?_
  rintro e w3 ⟨rfl, hs3, hg3⟩
  go_wp2_with fail
  go_ret
  exact ⟨rfl, hs3, Chg.below HB.out hg3 (Nat.le_refl _) HB.out.size⟩
end Go.Proofs.YtkagdmhijjfnnabDoor
