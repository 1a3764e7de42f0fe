import Derived.Test.YtdhjoimiejdgbabDoorChh
import Derived.Test.YtdhjoimiejdgbabDoorChn
import Derived.Test.YtdhjoimiejdgbabDoorStp
import Derived.Test.YtdhjoimiejdgbabDoorLo1
namespace Go.Proofs.YtdhjoimiejdgbabDoor.L
open Go.RowKit Bs Go.Maps
set_option linter.unusedVariables false
theorem low_re {w0 w w' : World} {B : Nat} {G : List Nat} {st : Nat → St} (h : Wh w0 w B G st) (hr : Re st) (hb : Below w.heap.size w w') : ∃ st', Wh w0 w' B G st' ∧ Re st' := ⟨st, h.low hb, hr⟩
theorem st_form {w0 w : World} {B : Nat} {G : List Nat} {st : Nat → St} (h : Wh w0 w B G st) {i : Nat} (hi : i < 4) : (st i).pv = .pointer none ∨ ∃ p m l F mo v d, st i = ⟨.pointer (some ⟨p, 0, none⟩), m, l, F, mo, v, d⟩ := by
  rcases h.tq i hi with ⟨e, _⟩ | ⟨p, e, _⟩
  · exact Or.inl e
  · right
    generalize st i = x at *
    obtain ⟨pv, m, l, F, mo, v, d⟩ := x
    dsimp at e
    subst e
    exact ⟨p, m, l, F, mo, v, d, rfl⟩
theorem ch_all1 {w0 w : World} {B : Nat} {G : List Nat} {st : Nat → St} (h : Wh w0 w B G st) (hr : Re st) (i : Nat) (hi : i < 4) (oa ot ov : Int) (s : ByteArray) :
    Calls Tryd.prog 28 #[.pointer (some ⟨B, 0, none⟩), .agg #[.int .i64 1, .int .i64 oa, .int .i64 ot, .string s, .int .i64 ov], .int .i64 (i : Int)] w fun e w' => e = .returned (.bool true) ∧ ∃ st', Wh w0 w' B G st' ∧ Re st' := by
  by_cases hot : ot < 0 ∨ 65536 < ot
  · exact (ch_new_no w0 w B st h i hi oa ov ot s hot).mono (fun e w' ⟨a, b⟩ => ⟨a, low_re h hr b⟩)
  · obtain ⟨n, rfl⟩ : ∃ n : Nat, ot = n := ⟨ot.toNat, by omega⟩
    exact ch_new w0 w B st h hr i hi oa ov n s (by omega)
theorem ch_all2 {w0 w : World} {B : Nat} {G : List Nat} {st : Nat → St} (h : Wh w0 w B G st) (hr : Re st) (ta : TabG w0 G) (i : Nat) (hi : i < 4) (oa ot ov : Int) (s : ByteArray) (hs : s.size ≤ maxLen) :
    Calls Tryd.prog 28 #[.pointer (some ⟨B, 0, none⟩), .agg #[.int .i64 2, .int .i64 oa, .int .i64 ot, .string s, .int .i64 ov], .int .i64 (i : Int)] w fun e w' => e = .returned (.bool true) ∧ ∃ st', Wh w0 w' B G st' ∧ Re st' := by
  rcases st_form h hi with e | ⟨p, m, l, F, mo, v, d, e⟩
  · exact (ch_put_nil w0 w B st h i hi e oa ot ov s).mono (fun e w' ⟨a, b⟩ => ⟨a, low_re h hr b⟩)
  · exact (ch_put w0 w B st h hr ta i hi p m l F mo v d e oa ot ov s hs).mono (fun e w' ⟨a, st', b, c, _⟩ => ⟨a, st', b, c⟩)
theorem ch_all3 {w0 w : World} {B : Nat} {G : List Nat} {st : Nat → St} (h : Wh w0 w B G st) (hr : Re st) (ta : TabG w0 G) (i : Nat) (hi : i < 4) (oa ot ov : Int) (s : ByteArray) (hs : s.size ≤ maxLen) :
    Calls Tryd.prog 28 #[.pointer (some ⟨B, 0, none⟩), .agg #[.int .i64 3, .int .i64 oa, .int .i64 ot, .string s, .int .i64 ov], .int .i64 (i : Int)] w fun e w' => e = .returned (.bool true) ∧ ∃ st', Wh w0 w' B G st' ∧ Re st' := by
  rcases st_form h hi with e | ⟨p, m, l, F, mo, v, d, e⟩
  · exact (ch_set_nil w0 w B st h i hi e oa ot ov s).mono (fun e w' ⟨a, b⟩ => ⟨a, low_re h hr b⟩)
  · exact (ch_set w0 w B st h hr ta i hi p m l F mo v d e oa ot ov s hs).mono (fun e w' ⟨a, st', b, c, _⟩ => ⟨a, st', b, c⟩)
theorem ch_all4 {w0 w : World} {B : Nat} {G : List Nat} {st : Nat → St} (h : Wh w0 w B G st) (hr : Re st) (ta : TabG w0 G) (i : Nat) (hi : i < 4) (oa ot ov : Int) (s : ByteArray) (hs : s.size ≤ maxLen) :
    Calls Tryd.prog 28 #[.pointer (some ⟨B, 0, none⟩), .agg #[.int .i64 4, .int .i64 oa, .int .i64 ot, .string s, .int .i64 ov], .int .i64 (i : Int)] w fun e w' => e = .returned (.bool true) ∧ ∃ st', Wh w0 w' B G st' ∧ Re st' := by
  rcases st_form h hi with e | ⟨p, m, l, F, mo, v, d, e⟩
  · exact (ch_drop_nil w0 w B st h i hi e oa ot ov s).mono (fun e w' ⟨a, b⟩ => ⟨a, low_re h hr b⟩)
  · exact (ch_drop w0 w B st h hr ta i hi p m l F mo v d e oa ot ov s hs).mono (fun e w' ⟨a, st', b, c, _⟩ => ⟨a, st', b, c⟩)
end Go.Proofs.YtdhjoimiejdgbabDoor.L
namespace Go.Proofs.YtdhjoimiejdgbabDoor.L
open Go.RowKit Bs Go.Maps
set_option linter.unusedVariables false
theorem step_op {w0 W : World} {B : Nat} {G : List Nat} {st : Nat → St} (h : Wh w0 W B G st) (hr : Re st) (ta : TabG w0 G) (k oa ot ov : Int) (s : ByteArray) (hs : s.size ≤ maxLen) :
    Calls Tryd.prog 16 #[.pointer (some ⟨B, 0, none⟩), .agg #[.int .i64 k, .int .i64 oa, .int .i64 ot, .string s, .int .i64 ov]] W fun e w' => e = .returned (.bool true) ∧ ∃ st', Wh w0 w' B G st' ∧ Re st' := by
  by_cases h1 : k = 1
  · subst h1; exact st_ch1 w0 W B st oa ot ov s (fun W' i hi hW => ch_all1 hW hr i hi oa ot ov s) h hr
  by_cases h2 : k = 2
  · subst h2; exact st_ch2 w0 W B st oa ot ov s (fun W' i hi hW => ch_all2 hW hr ta i hi oa ot ov s hs) h hr
  by_cases h3 : k = 3
  · subst h3; exact st_ch3 w0 W B st oa ot ov s (fun W' i hi hW => ch_all3 hW hr ta i hi oa ot ov s hs) h hr
  by_cases h4 : k = 4
  · subst h4; exact st_ch4 w0 W B st oa ot ov s (fun W' i hi hW => ch_all4 hW hr ta i hi oa ot ov s hs) h hr
  by_cases h5 : k = 5
  · subst h5; exact st_find w0 W B st oa ot ov s hs h hr
  by_cases h6 : k = 6
  · subst h6; exact st_at w0 W B st oa ot ov s h hr
  by_cases h7 : k = 7
  · subst h7; exact st_len w0 W B st oa ot ov s h hr
  by_cases h8 : k = 8
  · subst h8; exact st_names w0 W B st oa ot ov s h hr
  by_cases h9 : k = 9
  · subst h9; exact st_all w0 W B st oa ot ov s h hr
  by_cases h10 : k = 10
  · subst h10; exact st_copy w0 W B st oa ot ov s h hr
  have n : ∀ q : Int, k ≠ q → (k == q) = false := fun q hq => beq_eq_false_iff_ne.2 hq
  exact st_other w0 W B st oa ot ov s k (n _ h1) (n _ h2) (n _ h3) (n _ h4) (n _ h5) (n _ h6) (n _ h7) (n _ h8) (n _ h9) (n _ h10) h hr
end Go.Proofs.YtdhjoimiejdgbabDoor.L
