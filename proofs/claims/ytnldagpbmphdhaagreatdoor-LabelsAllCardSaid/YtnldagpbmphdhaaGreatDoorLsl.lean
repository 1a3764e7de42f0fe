import Derived.Test.YtnldagpbmphdhaaGreatDoorRps
import Derived.Test.YtnldagpbmphdhaaGreatDoorRte
import Derived.Test.YtnldagpbmphdhaaGreatDoorUpt
namespace Go.Proofs.YtnldagpbmphdhaaGreatDoor.L
open Go.RowKit
set_option linter.unusedVariables false
theorem items_nil (W : World) : Items W (.slice none 0 0) [] := ⟨none, 0, rfl, Or.inl rfl⟩
theorem sort_same {l l1 l2 : List Lb} (hd : Dist l) (h1 : Sorted l l1) (h2 : l2.Perm l) (hu : Up l2) : l1 = l2 :=
  up_unique (sorted_ok h1 hd) hu fun x => (h1.1.mem_iff).trans h2.mem_iff.symm
theorem two_same {l : List Lb} {E : Int} {w1 w2 : World} {v1 v2 : Value} {l1 l2 : List Lb} (hb : Below w1.heap.size w1 w2) (hl : E = 0 → Dist l ∧ l.length ≤ 64)
    (h1 : (E ≠ 0 ∧ v1 = .slice none 0 0) ∨ (E = 0 ∧ Came w1 v1 l1 ∧ Sorted l l1)) (h2 : (E ≠ 0 ∧ v2 = .slice none 0 0) ∨ (E = 0 ∧ Items w2 v2 l2 ∧ l2.Perm l ∧ Up l2)) :
    ∃ ll, ll.length ≤ 64 ∧ Items w2 v1 ll ∧ Items w2 v2 ll := by
  rcases h1 with ⟨h, rfl⟩ | ⟨h, c1, s1⟩
  · rcases h2 with ⟨_, rfl⟩ | ⟨h', _⟩
    · exact ⟨[], Nat.zero_le _, items_nil _, items_nil _⟩
    · exact absurd h' h
  · rcases h2 with ⟨h', _⟩ | ⟨_, c2, s2, u2⟩
    · exact absurd h h'
    · obtain ⟨hd, hl'⟩ := hl h
      have e := sort_same hd s1 s2 u2
      subst e
      exact ⟨l1, by rw [s2.length_eq]; exact hl', (c1.low hb).items, c2⟩
theorem pr_len (xs : List ByteArray) (done : List Lb) (p : Nat) (hd : done.length ≤ 32) : (pr xs done p).1.length ≤ 32 := by
  induction xs generalizing done p with
  | nil => exact hd
  | cons x xs ih =>
    unfold pr
    split
    · exact Nat.zero_le _
    · rename_i h
      split
      · split
        · exact Nat.zero_le _
        · exact ih _ _ (by rw [List.length_append]; simp; omega)
      · exact Nat.zero_le _
theorem parse_len (t : ByteArray) : (parseN t).1.length ≤ 64 := by
  unfold parseN
  split
  · exact Nat.zero_le _
  · split
    · exact Nat.zero_le _
    · exact Nat.le_trans (pr_len _ _ _ (Nat.zero_le _)) (by omega)
theorem w_bel {w W0 w1 : World} (B0 : Below w.heap.size w W0) (hb : Below W0.heap.size W0 w1) : Below w.heap.size w w1 := B0.trans (hb.mono B0.size)
set_option maxHeartbeats 4000000 in
set_option maxRecDepth 100000 in
theorem lists_check (vL vO vD : Value) (l : List Lb) (s ky vl : ByteArray) (n : Int) (w : World) (hL : Came w vL l) (hg : Good l) :
    Calls Tryz.prog 28 #[.agg #[.int .i64 6, vL, vO, vD, .string s, .string ky, .string vl, .int .i64 n]] w fun e w' => e = .returned (.bool true) ∧ Below w.heap.size w w' := by
  have CP := hid (fun W (hb : Below w.heap.size w W) => copied_any vL l W (hL.low hb) hg)
  have F1 := hid (fun W v (hc : Came W v l) => check_any v l W hc.items hg)
  have F2 := hid (fun W (hb : Below w.heap.size w W) => rcheck_any vL l W (hL.low hb).items hg)
  generalize checkN l = r at *
  obtain ⟨aL, cL, rfl⟩ := came_slice hL
  clear hL hg
  go_enter Tryz.func28, Tryz.ntmps28
  go_wp2_with fail
  have B0 := hid (show Below w.heap.size w (w.alloc (.cells #[.int .i64 6, .slice aL l.length cL, vO, vD, .string s, .string ky, .string vl, .int .i64 n] 40)) from belowA _ _)
  have Z0 := hid (show w.heap.size < (w.alloc (.cells #[.int .i64 6, .slice aL l.length cL, vO, vD, .string s, .string ky, .string vl, .int .i64 n] 40)).heap.size by simp)
  have C0 := hid (eight_all w (.int .i64 6) (.slice aL l.length cL) vO vD (.string s) (.string ky) (.string vl) (.int .i64 n) 40 1 _ rfl)
  generalize w.alloc (.cells #[.int .i64 6, .slice aL l.length cL, vO, vD, .string s, .string ky, .string vl, .int .i64 n] 40) = W0 at *
  refine (CP.out _ B0.out).mono ?_
  rintro e w1 ⟨v1, rfl, hc1, hb1⟩
  have HC1 := hid hc1
  have B1 := hid (w_bel B0.out hb1)
  have c1 : w1.cell? ⟨w.heap.size, 1, none⟩ = some (.slice aL l.length cL) := (hb1.cell (p := ⟨w.heap.size, 1, none⟩) Z0.out).trans C0.out
  have z1 : w.heap.size < w1.heap.size := Nat.lt_of_lt_of_le Z0.out hb1.size
  clear hb1 hc1
  go_wp2_with fail
  refine (F1.out _ _ HC1.out).mono ?_
  rintro e w2 ⟨rfl, hb2⟩
  have B2 := hid (w_bel B1.out hb2)
  have c2 : w2.cell? ⟨w.heap.size, 1, none⟩ = some (.slice aL l.length cL) := (hb2.cell (p := ⟨w.heap.size, 1, none⟩) z1).trans c1
  have z2 : w.heap.size < w2.heap.size := Nat.lt_of_lt_of_le z1 hb2.size
  clear hb2
  go_wp2_with fail
  refine (F2.out _ B2.out).mono ?_
  rintro e w3 ⟨rfl, hb3⟩
  have B3 := hid (w_bel B2.out hb3)
  clear hb3
  go_wp2_with fail
  go_ret
  exact ⟨ret_bool (by simp), B3.out⟩
set_option maxHeartbeats 4000000 in
set_option maxRecDepth 100000 in
theorem lists_make (vL vO vD : Value) (l : List Lb) (s ky vl : ByteArray) (n : Int) (w : World) (hL : Came w vL l) (hg : Good l) :
    Calls Tryz.prog 28 #[.agg #[.int .i64 7, vL, vO, vD, .string s, .string ky, .string vl, .int .i64 n]] w fun e w' => e = .returned (.bool true) ∧ Below w.heap.size w w' := by
  have CP := hid (fun W (hb : Below w.heap.size w W) => copied_any vL l W (hL.low hb) hg)
  have F1 := hid (fun W v (hc : Came W v l) => make_any v l W hc hg)
  have F2 := hid (fun W (hb : Below w.heap.size w W) => rmake_any vL l W (hL.low hb).items hg)
  have HDD := hid (fun h => show Dist l ∧ l.length ≤ 64 from ⟨(make_ok (l := l) h).2.2.1, by have := (make_ok (l := l) h).2.1; omega⟩)
  generalize makeN l = r at *
  obtain ⟨r1, r2⟩ := r
  obtain ⟨aL, cL, rfl⟩ := came_slice hL
  clear hL hg
  go_enter Tryz.func28, Tryz.ntmps28
  go_wp2_with fail
  have B0 := hid (show Below w.heap.size w (w.alloc (.cells #[.int .i64 7, .slice aL l.length cL, vO, vD, .string s, .string ky, .string vl, .int .i64 n] 40)) from belowA _ _)
  have Z0 := hid (show w.heap.size < (w.alloc (.cells #[.int .i64 7, .slice aL l.length cL, vO, vD, .string s, .string ky, .string vl, .int .i64 n] 40)).heap.size by simp)
  have C0 := hid (eight_all w (.int .i64 7) (.slice aL l.length cL) vO vD (.string s) (.string ky) (.string vl) (.int .i64 n) 40 1 _ rfl)
  generalize w.alloc (.cells #[.int .i64 7, .slice aL l.length cL, vO, vD, .string s, .string ky, .string vl, .int .i64 n] 40) = W0 at *
  refine (CP.out _ B0.out).mono ?_
  rintro e w1 ⟨v1, rfl, hc1, hb1⟩
  have HC1 := hid hc1
  have B1 := hid (w_bel B0.out hb1)
  have c1 : w1.cell? ⟨w.heap.size, 1, none⟩ = some (.slice aL l.length cL) := (hb1.cell (p := ⟨w.heap.size, 1, none⟩) Z0.out).trans C0.out
  have z1 : w.heap.size < w1.heap.size := Nat.lt_of_lt_of_le Z0.out hb1.size
  clear hb1 hc1
  go_wp2_with fail
  refine (F1.out _ _ HC1.out).mono ?_
  rintro e w2 ⟨va, la, rfl, hb2, hda⟩
  have B2 := hid (w_bel B1.out hb2)
  have HA := hid hda
  have c2 : w2.cell? ⟨w.heap.size, 1, none⟩ = some (.slice aL l.length cL) := (hb2.cell (p := ⟨w.heap.size, 1, none⟩) z1).trans c1
  have z2 : w.heap.size < w2.heap.size := Nat.lt_of_lt_of_le z1 hb2.size
  clear hb2 hda
  go_wp2_with fail
  refine (F2.out _ B2.out).mono ?_
  rintro e w3 ⟨vb, lb, rfl, hb3, hdb⟩
  have B3 := hid (w_bel B2.out hb3)
  obtain ⟨ll, hll, i1, i2⟩ := two_same hb3 HDD.out HA.out hdb
  have F3 := hid (rsame_any va vb ll w3 i1 i2 hll)
  clear hb3 hdb i1 i2
  go_wp2_with fail
  refine F3.out.mono ?_
  rintro e w4 ⟨rfl, hb4⟩
  have B4 := hid (w_bel B3.out hb4)
  clear hb4
  go_wp2_with fail
  go_ret
  exact ⟨ret_bool (by simp), B4.out⟩
set_option maxHeartbeats 4000000 in
set_option maxRecDepth 100000 in
theorem lists_parse (vL vO vD : Value) (s ky vl : ByteArray) (n : Int) (w : World) (hs : s.size ≤ 281474976710656) :
    Calls Tryz.prog 28 #[.agg #[.int .i64 8, vL, vO, vD, .string s, .string ky, .string vl, .int .i64 n]] w fun e w' => e = .returned (.bool true) ∧ Below w.heap.size w w' := by
  have F1 := hid (fun W => parse_any s W (by unfold maxLen; omega))
  have F2 := hid (fun W => rparse_any s W (by unfold maxLen; omega))
  have HDD := hid (fun h => show Dist (parseN s).1 ∧ (parseN s).1.length ≤ 64 from ⟨(parse_dist h).1, parse_len s⟩)
  generalize parseN s = r at *
  obtain ⟨r0, r1, r2⟩ := r
  go_enter Tryz.func28, Tryz.ntmps28
  go_wp2_with fail
  have B0 := hid (show Below w.heap.size w (w.alloc (.cells #[.int .i64 8, vL, vO, vD, .string s, .string ky, .string vl, .int .i64 n] 40)) from belowA _ _)
  have Z0 := hid (show w.heap.size < (w.alloc (.cells #[.int .i64 8, vL, vO, vD, .string s, .string ky, .string vl, .int .i64 n] 40)).heap.size by simp)
  have C0 := hid (eight_all w (.int .i64 8) vL vO vD (.string s) (.string ky) (.string vl) (.int .i64 n) 40 4 _ rfl)
  generalize w.alloc (.cells #[.int .i64 8, vL, vO, vD, .string s, .string ky, .string vl, .int .i64 n] 40) = W0 at *
  refine (F1.out _).mono ?_
  rintro e w1 ⟨va, la, rfl, hb1, hda⟩
  have HA := hid hda
  have B1 := hid (w_bel B0.out hb1)
  have c1 : w1.cell? ⟨w.heap.size, 4, none⟩ = some (.string s) := (hb1.cell (p := ⟨w.heap.size, 4, none⟩) Z0.out).trans C0.out
  have z1 : w.heap.size < w1.heap.size := Nat.lt_of_lt_of_le Z0.out hb1.size
  clear hb1 hda
  go_wp2_with fail
  refine (F2.out _).mono ?_
  rintro e w2 ⟨vb, lb, rfl, hb2, hdb⟩
  have B2 := hid (w_bel B1.out hb2)
  obtain ⟨ll, hll, i1, i2⟩ := two_same hb2 HDD.out HA.out hdb
  have F3 := hid (rsame_any va vb ll w2 i1 i2 hll)
  clear hb2 hdb i1 i2
  go_wp2_with fail
  refine F3.out.mono ?_
  rintro e w4 ⟨rfl, hb4⟩
  have B4 := hid (w_bel B2.out hb4)
  clear hb4
  go_wp2_with fail
  go_ret
  exact ⟨ret_bool (by simp), B4.out⟩
/-- What Text answers. -/
def textN (l : List Lb) : ByteArray := if (checkN l).2 = 0 then ⟨(txt l).toArray⟩ else ByteArray.empty
theorem text_any (v : Value) (l : List Lb) (w : World) (hi : Items w v l) (hg : Good l) :
    Calls Tryz.prog 53 #[v] w fun e w' => e = .returned (.tuple #[.string (textN l), .int .i64 (checkN l).2]) ∧ Below w.heap.size w w' := by
  unfold textN
  rcases check_cases l with ⟨ho, e⟩ | h
  · rw [e, if_pos rfl]
    exact text_ok v l w hi hg ho
  · rw [if_neg h]
    exact text_no v l w hi hg h
theorem rtext_any (v : Value) (l : List Lb) (w : World) (hi : Items w v l) (hg : Good l) :
    Calls Tryz.prog 54 #[v] w fun e w' => e = .returned (.tuple #[.string (textN l), .int .i64 (checkN l).2]) ∧ Below w.heap.size w w' := by
  unfold textN
  rcases check_cases l with ⟨ho, e⟩ | h
  · rw [e, if_pos rfl]
    exact rtext_ok v l w hi hg ho
  · rw [if_neg h]
    exact rtext_no v l w hi hg h
set_option maxHeartbeats 4000000 in
set_option maxRecDepth 100000 in
theorem lists_text (vL vO vD : Value) (l : List Lb) (s ky vl : ByteArray) (n : Int) (w : World) (hL : Came w vL l) (hg : Good l) :
    Calls Tryz.prog 28 #[.agg #[.int .i64 9, vL, vO, vD, .string s, .string ky, .string vl, .int .i64 n]] w fun e w' => e = .returned (.bool true) ∧ Below w.heap.size w w' := by
  have CP := hid (fun W (hb : Below w.heap.size w W) => copied_any vL l W (hL.low hb) hg)
  have F1 := hid (fun W v (hc : Came W v l) => text_any v l W hc.items hg)
  have F2 := hid (fun W (hb : Below w.heap.size w W) => rtext_any vL l W (hL.low hb).items hg)
  generalize checkN l = r at *
  generalize textN l = tN at *
  obtain ⟨aL, cL, rfl⟩ := came_slice hL
  clear hL hg
  go_enter Tryz.func28, Tryz.ntmps28
  go_wp2_with fail
  have B0 := hid (show Below w.heap.size w (w.alloc (.cells #[.int .i64 9, .slice aL l.length cL, vO, vD, .string s, .string ky, .string vl, .int .i64 n] 40)) from belowA _ _)
  have Z0 := hid (show w.heap.size < (w.alloc (.cells #[.int .i64 9, .slice aL l.length cL, vO, vD, .string s, .string ky, .string vl, .int .i64 n] 40)).heap.size by simp)
  have C0 := hid (eight_all w (.int .i64 9) (.slice aL l.length cL) vO vD (.string s) (.string ky) (.string vl) (.int .i64 n) 40 1 _ rfl)
  generalize w.alloc (.cells #[.int .i64 9, .slice aL l.length cL, vO, vD, .string s, .string ky, .string vl, .int .i64 n] 40) = W0 at *
  refine (CP.out _ B0.out).mono ?_
  rintro e w1 ⟨v1, rfl, hc1, hb1⟩
  have HC1 := hid hc1
  have B1 := hid (w_bel B0.out hb1)
  have c1 : w1.cell? ⟨w.heap.size, 1, none⟩ = some (.slice aL l.length cL) := (hb1.cell (p := ⟨w.heap.size, 1, none⟩) Z0.out).trans C0.out
  have z1 : w.heap.size < w1.heap.size := Nat.lt_of_lt_of_le Z0.out hb1.size
  clear hb1 hc1
  go_wp2_with fail
  refine (F1.out _ _ HC1.out).mono ?_
  rintro e w2 ⟨rfl, hb2⟩
  have B2 := hid (w_bel B1.out hb2)
  have c2 : w2.cell? ⟨w.heap.size, 1, none⟩ = some (.slice aL l.length cL) := (hb2.cell (p := ⟨w.heap.size, 1, none⟩) z1).trans c1
  have z2 : w.heap.size < w2.heap.size := Nat.lt_of_lt_of_le z1 hb2.size
  clear hb2
  go_wp2_with fail
  refine (F2.out _ B2.out).mono ?_
  rintro e w3 ⟨rfl, hb3⟩
  have B3 := hid (w_bel B2.out hb3)
  clear hb3
  go_wp2_with fail
  go_ret
  exact ⟨ret_bool (by simp), B3.out⟩
theorem lists_any (k : Int) (vL vO vD : Value) (l : List Lb) (s ky vl : ByteArray) (n : Int) (w : World) (hk : 6 ≤ k ∧ k ≤ 9) (hs : s.size ≤ 140737488351232) (hL : Came w vL l) (hg : Good l) :
    Calls Tryz.prog 28 #[.agg #[.int .i64 k, vL, vO, vD, .string s, .string ky, .string vl, .int .i64 n]] w fun e w' => e = .returned (.bool true) ∧ Below w.heap.size w w' := by
  have : k = 6 ∨ k = 7 ∨ k = 8 ∨ k = 9 := by omega
  rcases this with rfl | rfl | rfl | rfl
  · exact lists_check vL vO vD l s ky vl n w hL hg
  · exact lists_make vL vO vD l s ky vl n w hL hg
  · exact lists_parse vL vO vD s ky vl n w (by omega)
  · exact lists_text vL vO vD l s ky vl n w hL hg
set_option maxHeartbeats 4000000 in
set_option maxRecDepth 100000 in
theorem plays_lists (k : Int) (vL vO : Value) (aD : Option Addr) (nD cD : Nat) (l c : List Lb) (s ky vl : ByteArray) (n : Int) (w : World) (hL : Came w vL l) (hO : Came w vO c) (hg : Good l) (hk : 6 ≤ k ∧ k ≤ 9) (hs : s.size ≤ 140737488351232) :
    Calls Tryz.prog 15 #[.agg #[.int .i64 k, vL, vO, .slice aD nD cD, .string s, .string ky, .string vl, .int .i64 n]] w fun e w' => e = .returned (.bool true) ∧ Below w.heap.size w w' := by
  have F := hid (fun W (hb : Below w.heap.size w W) => lists_any k vL vO (.slice aD nD cD) l s ky vl n W hk hs (hL.low hb) hg)
  obtain ⟨aL, cL, rfl⟩ := came_slice hL
  obtain ⟨aO, cO, rfl⟩ := came_slice hO
  have B0 := hid (belowA w (.cells #[.int .i64 k, .slice aL l.length cL, .slice aO c.length cO, .slice aD nD cD, .string s, .string ky, .string vl, .int .i64 n] 40))
  obtain ⟨h1, h5⟩ := hk
  have g1 : 1 ≤ k := by omega
  have g2 : ¬ k ≤ 5 := by omega
  clear hL hO hg
  go_enter Tryz.func15, Tryz.ntmps15
  go_wp2_with fail
  refine (F.out _ ?_).mono ?_
  · exact B0.out
  rintro e w1 ⟨rfl, hb⟩
  have B1 := hid (B0.out.trans (hb.mono B0.out.size))
  clear hb
  go_wp2_with fail
  go_ret
  exact ⟨rfl, B1.out⟩
end Go.Proofs.YtnldagpbmphdhaaGreatDoor.L
