import Derived.Test.YtdhjoimiejdgbaaDoorChh
import Derived.Test.YtdhjoimiejdgbaaDoorChn
namespace Go.Proofs.YtdhjoimiejdgbaaDoor.L
open Go.RowKit Bs Go.Maps
set_option linter.unusedVariables false
theorem low_re {w0 w w' : World} {B : Nat} {st : Nat → St} (h : Wh w0 w B st) (hr : Re st) (hb : Below w.heap.size w w') : ∃ st', Wh w0 w' B st' ∧ Re st' := ⟨st, h.low hb, hr⟩
theorem st_form {w0 w : World} {B : Nat} {st : Nat → St} (h : Wh w0 w B st) {i : Nat} (hi : i < 4) : (st i).pv = .pointer none ∨ ∃ p m l F mo v d, st i = ⟨.pointer (some ⟨p, 0, none⟩), m, l, F, mo, v, d⟩ := by
  rcases h.tq i hi with ⟨e, _⟩ | ⟨p, e, _⟩
  · exact Or.inl e
  · right
    generalize st i = x at *
    obtain ⟨pv, m, l, F, mo, v, d⟩ := x
    dsimp at e
    subst e
    exact ⟨p, m, l, F, mo, v, d, rfl⟩
theorem ch_all1 {w0 w : World} {B : Nat} {st : Nat → St} (h : Wh w0 w B st) (hr : Re st) (i : Nat) (hi : i < 4) (oa ot ov : Int) (s : ByteArray) :
    Calls Tryd.prog 48 #[.pointer (some ⟨B, 0, none⟩), .agg #[.int .i64 1, .int .i64 oa, .int .i64 ot, .string s, .int .i64 ov], .int .i64 (i : Int)] w fun e w' => e = .returned (.bool true) ∧ ∃ st', Wh w0 w' B st' ∧ Re st' := by
  by_cases hot : ot < 0 ∨ 65536 < ot
  · exact (ch_new_no w0 w B st h i hi oa ov ot s hot).mono (fun e w' ⟨a, b⟩ => ⟨a, low_re h hr b⟩)
  · obtain ⟨n, rfl⟩ : ∃ n : Nat, ot = n := ⟨ot.toNat, by omega⟩
    exact ch_new w0 w B st h hr i hi oa ov n s (by omega)
theorem ch_all2 {w0 w : World} {B : Nat} {st : Nat → St} (h : Wh w0 w B st) (hr : Re st) (ta : Tab w0) (i : Nat) (hi : i < 4) (oa ot ov : Int) (s : ByteArray) (hs : s.size ≤ maxLen) :
    Calls Tryd.prog 48 #[.pointer (some ⟨B, 0, none⟩), .agg #[.int .i64 2, .int .i64 oa, .int .i64 ot, .string s, .int .i64 ov], .int .i64 (i : Int)] w fun e w' => e = .returned (.bool true) ∧ ∃ st', Wh w0 w' B st' ∧ Re st' := by
  rcases st_form h hi with e | ⟨p, m, l, F, mo, v, d, e⟩
  · exact (ch_put_nil w0 w B st h i hi e oa ot ov s).mono (fun e w' ⟨a, b⟩ => ⟨a, low_re h hr b⟩)
  · exact ch_put w0 w B st h hr ta i hi p m l F mo v d e oa ot ov s hs
theorem ch_all3 {w0 w : World} {B : Nat} {st : Nat → St} (h : Wh w0 w B st) (hr : Re st) (ta : Tab w0) (i : Nat) (hi : i < 4) (oa ot ov : Int) (s : ByteArray) (hs : s.size ≤ maxLen) :
    Calls Tryd.prog 48 #[.pointer (some ⟨B, 0, none⟩), .agg #[.int .i64 3, .int .i64 oa, .int .i64 ot, .string s, .int .i64 ov], .int .i64 (i : Int)] w fun e w' => e = .returned (.bool true) ∧ ∃ st', Wh w0 w' B st' ∧ Re st' := by
  rcases st_form h hi with e | ⟨p, m, l, F, mo, v, d, e⟩
  · exact (ch_set_nil w0 w B st h i hi e oa ot ov s).mono (fun e w' ⟨a, b⟩ => ⟨a, low_re h hr b⟩)
  · exact ch_set w0 w B st h hr ta i hi p m l F mo v d e oa ot ov s hs
theorem ch_all4 {w0 w : World} {B : Nat} {st : Nat → St} (h : Wh w0 w B st) (hr : Re st) (ta : Tab w0) (i : Nat) (hi : i < 4) (oa ot ov : Int) (s : ByteArray) (hs : s.size ≤ maxLen) :
    Calls Tryd.prog 48 #[.pointer (some ⟨B, 0, none⟩), .agg #[.int .i64 4, .int .i64 oa, .int .i64 ot, .string s, .int .i64 ov], .int .i64 (i : Int)] w fun e w' => e = .returned (.bool true) ∧ ∃ st', Wh w0 w' B st' ∧ Re st' := by
  rcases st_form h hi with e | ⟨p, m, l, F, mo, v, d, e⟩
  · exact (ch_drop_nil w0 w B st h i hi e oa ot ov s).mono (fun e w' ⟨a, b⟩ => ⟨a, low_re h hr b⟩)
  · exact ch_drop w0 w B st h hr ta i hi p m l F mo v d e oa ot ov s hs
end Go.Proofs.YtdhjoimiejdgbaaDoor.L
