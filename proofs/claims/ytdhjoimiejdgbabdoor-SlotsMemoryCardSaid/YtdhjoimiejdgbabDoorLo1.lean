import Derived.Test.YtdhjoimiejdgbabDoorMgJ
namespace Go.Proofs.YtdhjoimiejdgbabDoor.L
open Go.RowKit Bs Go.Maps
set_option linter.unusedVariables false
/-- One call of a script. -/
structure Opd where
  k : Int
  a : Int
  t : Int
  s : ByteArray
  v : Int
deriving Inhabited
def ItemsO (w : World) (val : Value) (os : List Opd) : Prop := ∃ a cap, val = .slice a os.length cap ∧ (os.length = 0 ∨ ∃ b off, a = some ⟨b, off, none⟩ ∧ b < w.heap.size ∧ ∀ j (hj : j < os.length),
  w.cell? ⟨b, off + j * 5, none⟩ = some (.int .i64 os[j].k) ∧ w.cell? ⟨b, off + j * 5 + 1, none⟩ = some (.int .i64 os[j].a) ∧ w.cell? ⟨b, off + j * 5 + 2, none⟩ = some (.int .i64 os[j].t) ∧ w.cell? ⟨b, off + j * 5 + 3, none⟩ = some (.string os[j].s) ∧ w.cell? ⟨b, off + j * 5 + 4, none⟩ = some (.int .i64 os[j].v))
def GoodO (os : List Opd) : Prop := os.length ≤ maxLen ∧ ∀ o ∈ os, o.s.size ≤ maxLen
theorem none_bad {m : Nat} {l : List Rw} {s : ByteArray} (h : OkS m l) (hb : badB s = true) : NoN l s := fun i hi e => by
  have h1 := isT_iff.1 hi
  have h2 := h.sz i
  rw [e] at h1 h2
  unfold badB at hb
  rw [Bool.or_eq_true, decide_eq_true_iff, decide_eq_true_iff] at hb
  omega
theorem put_err (p m : Nat) (l : List Rw) (F : List Nat) (s : ByteArray) (v : Int) (w : World) (h : Tb w p m l F) (hs : s.size ≤ maxLen) (he : badB s = true ∨ (∃ i, isT l i = true ∧ nm l i = s) ∨ cnt l = m) : Calls Tryd.prog 7 #[.pointer (some ⟨p, 0, none⟩), .string s, .int .i64 v] w fun e w' => ∃ c : Int, e = .returned (.tuple #[.int .i64 0, .int .i64 c]) ∧ (c == 0) = false ∧ ∃ n, w' = w.drewN n := by
  cases hb : badB s
  · rcases there_or l s with hn | ⟨i, hi, hn⟩
    · have hc : cnt l = m := by
        rcases he with c | ⟨i, hi, e⟩ | c
        · rw [hb] at c; cases c
        · exact absurd e (hn i hi)
        · exact c
      refine (put_full p m l F s v w h hb hn hc).mono ?_
      rintro e w' ⟨rfl, hw⟩
      exact ⟨53, rfl, rfl, hw⟩
    · refine (put_there p m i l F s v w h hb hi hn).mono ?_
      rintro e w' ⟨rfl, hw⟩
      exact ⟨52, rfl, rfl, 0, hw⟩
  · refine (put_bad p s v w hs hb).mono ?_
    rintro e w' ⟨rfl, hw⟩
    exact ⟨51, rfl, rfl, 0, hw⟩
theorem drop_err (p m : Nat) (l : List Rw) (F : List Nat) (s : ByteArray) (w : World) (h : Tb w p m l F) (hs : s.size ≤ maxLen) (hn : NoN l s) : Calls Tryd.prog 8 #[.pointer (some ⟨p, 0, none⟩), .string s] w fun e w' => ∃ c : Int, e = .returned (.tuple #[.int .i64 0, .int .i64 c]) ∧ (c == 0) = false ∧ w' = w := by
  cases hb : badB s
  · refine (drop_no p m l F s w h hb hn).mono ?_
    rintro e w' ⟨rfl, hw⟩
    exact ⟨54, rfl, rfl, hw⟩
  · refine (drop_bad p s w hs hb).mono ?_
    rintro e w' ⟨rfl, hw⟩
    exact ⟨51, rfl, rfl, hw⟩
theorem bad_there {m : Nat} {l : List Rw} (h : OkS m l) {i : Nat} (hi : isT l i = true) : badB (nm l i) = false := by
  cases e : badB (nm l i)
  · rfl
  · exact absurd rfl (none_bad h e i hi)
theorem set_any (p m : Nat) (l : List Rw) (F : List Nat) (s : ByteArray) (v : Int) (w : World) (h : Tb w p m l F) (hs : s.size ≤ maxLen) : Calls Tryd.prog 10 #[.pointer (some ⟨p, 0, none⟩), .string s, .int .i64 v] w fun e w' => ∃ (c : Int) (l' : List Rw), e = .returned (.int .i64 c) ∧ Tb w' p m l' F ∧ Mv F F w w' ∧ cnt l' = cnt l ∧ ∀ j, nm l' j = nm l j := by
  rcases there_or l s with hn | ⟨i, hi, hn⟩
  · cases hb : badB s
    · refine (set_no p m l F s v w h hb hn).mono ?_
      rintro e w' ⟨rfl, rfl⟩
      exact ⟨54, l, rfl, h, Mv.refl _ _, rfl, fun _ => rfl⟩
    · refine (set_bad p s v w hs hb).mono ?_
      rintro e w' ⟨rfl, rfl⟩
      exact ⟨51, l, rfl, h, Mv.refl _ _, rfl, fun _ => rfl⟩
  · have hb : badB s = false := by rw [← hn]; exact bad_there h.ok hi
    refine (set_ok p m i l F s v w h hb hi hn).mono ?_
    rintro e w' ⟨rfl, hT, hM⟩
    refine ⟨0, _, rfl, hT, hM, ?_, fun j => ?_⟩
    · have := cnt_set l i (s, v) (isT_lt hi)
      have h0 : s.size ≠ 0 := by rw [← hn]; exact isT_iff.1 hi
      rw [hi, if_neg h0] at this
      simp at this
      omega
    · rw [nm_set l i _ (isT_lt hi)]
      split
      · rename_i c; rw [c]; exact hn.symm
      · rfl
/-! ### the law's maps -/
abbrev OwnI (w : World) (mb n : Nat) (D : DataW Unit) : Prop := w.ownsMap Tryd.prog 3 (plainElem Tryd.prog 3) mb n D
theorem keyI : Keyed Tryd.prog 3 := int_keyed Tryd.underlying3
theorem keyI_of {a : Int} (h : (Lit.int .i64 a).wf = true) : keyOf Tryd.prog 3 (.int .i64 a) = some (.int .i64 a) := keyOf_int_mk Tryd.underlying3 h
/-- Which slots are in use. -/
def InU (D : DataW Unit) (l : List Rw) : Prop := IsMap D ∧ ∀ i : Nat, D.atKey (.int .i64 (i : Int)) (.lit (.int .i64 0)) = .lit (.int .i64 (if isT l i then 1 else 0))
theorem kI_ne {a b : Nat} (h : a ≠ b) : (Lit.int .i64 (a : Int)) ≠ .int .i64 (b : Int) := fun e => by injection e with _ e; omega
theorem kI_key (a : Int) : WideAt.IsKeyLit (Lit.int .i64 a) := by simp [WideAt.IsKeyLit]
theorem InU.same {D : DataW Unit} {l l' : List Rw} (h : InU D l) (hn : ∀ j, nm l' j = nm l j) : InU D l' := ⟨h.1, fun i => by
  rw [h.2 i]
  have : isT l' i = isT l i := by unfold isT; rw [hn]
  rw [this]⟩
theorem InU.put {D : DataW Unit} {l l' : List Rw} (h : InU D l) (r : Nat) (b : Bool) (hr : isT l' r = b) (hn : ∀ j, j ≠ r → isT l' j = isT l j) : InU (D.put (.int .i64 (r : Int)) (.lit (.int .i64 (if b then 1 else 0)))) l' := ⟨h.1.put _ _, fun i => by
  by_cases e : i = r
  · subst e
    rw [Maps.atKey_put_same h.1 (kI_key _), hr]
  · rw [Maps.atKey_put_other (kI_ne e), h.2 i, hn i e]⟩
/-- What stands between two calls of the law. -/
structure LwI (w wr : World) (p b1 b2 k : Nat) (l : List Rw) (F : List Nat) (D1 D2 : DataW Unit) : Prop where
  tb : Tb wr p 40 l F
  o1 : Own1 wr b1 k D1
  m1 : MapOf D1 l
  o2 : OwnI wr b2 k D2
  u2 : InU D2 l
  fB : ∀ x ∈ F, w.heap.size ≤ x
  n1 : b1 ∉ F
  n2 : b2 ∉ F
  ne : b1 ≠ b2
  g1 : w.heap.size ≤ b1
  g2 : w.heap.size ≤ b2
  bl : Below w.heap.size w wr
  ta : Tab wr
  tz : 0 < w.heap.size
theorem LwI.step {w wr w2 : World} {p b1 b2 k k' : Nat} {l l2 : List Rw} {F F2 : List Nat} {D1 D2 : DataW Unit} (h : LwI w wr p b1 b2 k l F D1 D2) (ht : Tb w2 p 40 l2 F2) (hm : Mv F F2 wr w2) (hk : k ≤ k') (hc : cnt l2 = cnt l) (hn : ∀ j, nm l2 j = nm l j) : LwI w w2 p b1 b2 k' l2 F2 D1 D2 := by
  have s1 := h.o1.lt
  have s2 := h.o2.lt
  refine ⟨ht, (owns_stays h.o1 (hm.1.block b1 s1 h.n1)).mono hk, h.m1.same hc hn, (owns_stays h.o2 (hm.1.block b2 s2 h.n2)).mono hk, h.u2.same hn, hm.above h.bl.size h.fB, fun c => ?_, fun c => ?_, h.ne, h.g1, h.g2, h.bl.trans (hm.below h.bl.size h.fB), h.ta.mv hm h.tz h.fB, h.tz⟩
  · rcases hm.2 _ c with d | d
    · exact h.n1 d
    · omega
  · rcases hm.2 _ c with d | d
    · exact h.n2 d
    · omega
theorem LwI.alloc {w wr : World} {p b1 b2 k : Nat} {l : List Rw} {F : List Nat} {D1 D2 : DataW Unit} (h : LwI w wr p b1 b2 k l F D1 D2) (o : Obj) : LwI w (wr.alloc o) p b1 b2 k l F D1 D2 :=
  h.step (h.tb.low ((Below.refl _ _).alloc (Nat.le_refl _) _)) ⟨(Bx.refl _ _ _).alloc (Nat.le_refl _) _, fun k hk => Or.inl hk⟩ (Nat.le_refl _) rfl (fun _ => rfl)
theorem LwI.drewN {w wr : World} {p b1 b2 k : Nat} {l : List Rw} {F : List Nat} {D1 D2 : DataW Unit} (h : LwI w wr p b1 b2 k l F D1 D2) (n : Nat) : LwI w (wr.drewN n) p b1 b2 k l F D1 D2 :=
  h.step (h.tb.drewN n) (Mv.drewN F wr n) (Nat.le_refl _) rfl (fun _ => rfl)
end Go.Proofs.YtdhjoimiejdgbabDoor.L
