import Derived.Test.YtnlohjcjboelgaaRBoth
namespace Go.Proofs.Ytnlohjcjboelgaa.L
open Go.RowKit
set_option linter.unusedVariables false
/-- The name ahead of the k-th. -/
def prv (T : List It) (k : Nat) : ByteArray := if k = 0 then ⟨#[]⟩ else nm T (k - 1)
/-- T is the list l in its order. -/
def Sorts (l T : List It) : Prop := T.length = l.length ∧ (∀ i j, i < l.length → j < l.length → (nm l i).toList = (nm l j).toList → i = j) ∧
  ∀ k, k < T.length → ∃ q, q < l.length ∧ nm l q = nm T k ∧ am l q = am T k ∧ Op.bytesLess (prv T k).toList (nm l q).toList = true ∧ ∀ i, i < l.length → Op.bytesLess (prv T k).toList (nm l i).toList = true → i = q ∨ Op.bytesLess (nm l q).toList (nm l i).toList = true
/-- The least so far. -/
def Least (l : List It) (p : List UInt8) (i : Nat) (a : Int) : Prop := (a = -1 ∧ ∀ j, j < i → Op.bytesLess p (nm l j).toList = false) ∨ ∃ q : Nat, a = q ∧ q < i ∧ Op.bytesLess p (nm l q).toList = true ∧ ∀ j, j < i → Op.bytesLess p (nm l j).toList = true → j = q ∨ Op.bytesLess (nm l q).toList (nm l j).toList = true
def nonz (l : List It) : List It := l.filter fun x => decide (x.2 ≠ 0)
theorem nonz_yes (l : List It) (k : Nat) (h : k < l.length) (c : am l k ≠ 0) : nonz (l.take (k + 1)) = nonz (l.take k) ++ [(nm l k, am l k)] := by
  unfold nonz
  unfold nm am at *
  rw [show l.getD k (ByteArray.empty, 0) = l[k] by simp [h]] at *
  rw [List.take_succ_eq_append_getElem h, List.filter_append, List.filter_cons_of_pos (by simpa using c)]
  rfl
theorem nonz_no (l : List It) (k : Nat) (h : k < l.length) (c : am l k = 0) : nonz (l.take (k + 1)) = nonz (l.take k) := by
  unfold nonz
  unfold am at *
  rw [show l.getD k (ByteArray.empty, 0) = l[k] by simp [h]] at *
  rw [List.take_succ_eq_append_getElem h, List.filter_append, List.filter_cons_of_neg (by simpa using c)]
  simp
theorem least_skip {l : List It} {p : List UInt8} {i : Nat} {a : Int} (h : Least l p i a) (c : Op.bytesLess p (nm l i).toList = false) : Least l p (i + 1) a := by
  rcases h with ⟨h1, h2⟩ | ⟨q, h1, h2, h3, h4⟩
  · refine Or.inl ⟨h1, fun j hj => ?_⟩
    by_cases e : j = i
    · rw [e]; exact c
    · exact h2 j (by omega)
  · refine Or.inr ⟨q, h1, by omega, h3, fun j hj hp => ?_⟩
    by_cases e : j = i
    · rw [e, c] at hp; cases hp
    · exact h4 j (by omega) hp
theorem least_first {l : List It} {p : List UInt8} {i : Nat} (h : ∀ j, j < i → Op.bytesLess p (nm l j).toList = false) (c : Op.bytesLess p (nm l i).toList = true) : Least l p (i + 1) i := by
  refine Or.inr ⟨i, rfl, by omega, c, fun j hj hp => ?_⟩
  by_cases e : j = i
  · exact Or.inl e
  · rw [h j (by omega)] at hp; cases hp
theorem least_take {l : List It} {p : List UInt8} {i q : Nat} (h : ∀ j, j < i → Op.bytesLess p (nm l j).toList = true → j = q ∨ Op.bytesLess (nm l q).toList (nm l j).toList = true) (c : Op.bytesLess p (nm l i).toList = true) (hl : Op.bytesLess (nm l i).toList (nm l q).toList = true) : Least l p (i + 1) i := by
  refine Or.inr ⟨i, rfl, by omega, c, fun j hj hp => ?_⟩
  by_cases e : j = i
  · exact Or.inl e
  · rcases h j (by omega) hp with rfl | g
    · exact Or.inr hl
    · exact Or.inr (less_trans _ _ _ hl g)
theorem least_keep {l : List It} {p : List UInt8} {i q : Nat} (hq : q < i) (h3 : Op.bytesLess p (nm l q).toList = true) (h : ∀ j, j < i → Op.bytesLess p (nm l j).toList = true → j = q ∨ Op.bytesLess (nm l q).toList (nm l j).toList = true) (hne : (nm l i).toList ≠ (nm l q).toList) (hl : Op.bytesLess (nm l i).toList (nm l q).toList = false) : Least l p (i + 1) q := by
  refine Or.inr ⟨q, rfl, by omega, h3, fun j hj hp => ?_⟩
  by_cases e : j = i
  · rcases less_total (nm l i).toList (nm l q).toList with g | g | g
    · rw [hl] at g; cases g
    · exact absurd g hne
    · rw [e]; exact Or.inr g
  · exact h j (by omega) hp
theorem gt_of (s p : ByteArray) (h : Op.bytesLess p.toList s.toList = true) : (Op.bytesLess s.toList p.toList || s.toList == p.toList) = false := by
  obtain ⟨a, b, c⟩ := less_asymm _ _ h
  rw [a, c]; rfl
theorem not_gt_of (s p : ByteArray) (h : Op.bytesLess p.toList s.toList = false) : (Op.bytesLess s.toList p.toList || s.toList == p.toList) = true := by
  rcases less_total s.toList p.toList with g | g | g
  · rw [g]; rfl
  · rw [g]; simp
  · rw [h] at g; cases g
set_option maxHeartbeats 16000000 in
set_option maxRecDepth 100000 in
theorem rising_any (v : Value) (l T : List It) (w : World) (hi : Items w v l) (hlen : l.length ≤ 32) (hs : Sorts l T) :
    Calls Try.prog 25 #[v] w fun e w' => ∃ v', e = .returned v' ∧ w'.ownsRow w.heap.size 41 2 v' (nonz T).length (cellsF (nonz T)) ∧ Below w.heap.size w w' := by
  obtain ⟨i0, hi0, hz0, hz1, hz2⟩ := info_parts info31
  obtain ⟨a, cap, rfl, x1⟩ := hi
  obtain ⟨len, hle⟩ : ∃ n, n = l.length := ⟨_, rfl⟩
  have N1 := hid hle
  have HS := hid hs
  rw [← hle] at hlen x1 ⊢
  clear hle hs
  go_enter Try.func25, Try.ntmps25
  go_wp2
  go_loopw [4, 3, 10] (fun la o i wr => ∃ k : Nat, k ≤ len ∧ la = .string (prv T k) ∧ i = .int .i64 k ∧ Hid (Below w.heap.size w wr) ∧ Hid (wr.ownsRow w.heap.size 41 2 o (nonz (T.take k)).length (cellsF (nonz (T.take k))))) (fun _ _ i _ => len - (intOf i).toNat)
  case atStart => exact ⟨0, Nat.zero_le _, rfl, rfl, hid ((Below.refl _ _).alloc (Nat.le_refl _) _), hid (World.ownsRow_made w #[] 0 (Nat.le_refl _) (Nat.zero_le _) rfl)⟩
  case round =>
    obtain ⟨k, hk, rfl, rfl, BE, OW⟩ := hrel
    have hws : w.heap.size ≤ wr.heap.size := BE.out.size
    by_cases hlt : k < len
    · rcases x1 with h0 | ⟨b, off, rfl, hbl, hc⟩
      · omega
      obtain ⟨q, hq, q1, q2, q3, q4⟩ := HS.out.2.2 k (by rw [HS.out.1, ← N1.out]; exact hlt)
      rw [← N1.out] at hq q4
      have DI := hid (show ∀ i j, i < len → j < len → (nm l i).toList = (nm l j).toList → i = j from by rw [N1.out]; exact HS.out.2.1)
      have hcw : ∀ j, j < len → wr.cell? ⟨b, off + j * 2, none⟩ = some (.string (nm l j)) ∧ wr.cell? ⟨b, off + j * 2 + 1, none⟩ = some (.int .i64 (am l j)) := fun j hj => by
        rw [BE.out.cell (p := ⟨b, off + j * 2, none⟩) hbl, BE.out.cell (p := ⟨b, off + j * 2 + 1, none⟩) hbl]
        exact hc j hj
      have HCW := hid hcw
      have hsz : b < wr.heap.size := Nat.lt_of_lt_of_le hbl BE.out.size
      have Q1 := hid q1
      have Q2 := hid q2
      have Q3 := hid q3
      have Q4 := hid q4
      clear hc hcw q1 q2 q3 q4
      go_wp2
      go_loopw [5, 6] (fun x i wr' => ∃ (m : Nat) (at_ : Int), m ≤ len ∧ i = .int .i64 m ∧ x = .int .i64 at_ ∧ -1 ≤ at_ ∧ at_ ≤ 32 ∧ Hid (Least l (prv T k).toList m at_) ∧ ∃ n, wr' = wr.drewN n) (fun _ i _ => len - (intOf i).toNat)
      case atStart => exact ⟨0, -1, Nat.zero_le _, rfl, rfl, by omega, by omega, hid (Or.inl ⟨rfl, fun j hj => by omega⟩), 0, rfl⟩
      case round =>
        obtain ⟨m, at_, hm, rfl, rfl, ha1, ha2, LE, ⟨nd, rfl⟩⟩ := hrel
        by_cases hlm : m < len
        · obtain ⟨c0, c1⟩ := HCW.out m hlm
          have hb1 : (m : Int) < (len : Int) := by omega
          have hb2 : (0 : Int) ≤ (m : Int) := by omega
          have lem := LE.out
          rcases less_total (nm l m).toList (prv T k).toList with g | g | g
          · have LN := hid (least_skip lem (less_asymm _ _ g).1)
            generalize nm l m = sm at *
            generalize am l m = nmm at *
            generalize prv T k = pk at *
            clear LE lem
            go_wp2_with fail
            go_quiet (fail)
            go_wp2_with fail
            exact ⟨⟨m + 1, at_, by omega, by go_num, rfl, by omega, by omega, LN, ⟨_, rfl⟩⟩, by simp [intOf]; omega⟩
          · have LN := hid (least_skip lem (by rw [g]; exact less_irrefl _))
            have f2 := less_irrefl (prv T k).toList
            generalize nm l m = sm at *
            generalize am l m = nmm at *
            generalize prv T k = pk at *
            clear LE lem
            go_wp2_with fail
            go_quiet (fail)
            go_wp2_with fail
            exact ⟨⟨m + 1, at_, by omega, by go_num, rfl, by omega, by omega, LN, ⟨_, rfl⟩⟩, by simp [intOf]; omega⟩
          · obtain ⟨f1, f2, f3⟩ := less_asymm _ _ g
            rcases lem with ⟨rfl, h2⟩ | ⟨q', rfl, h2, h3, h4⟩
            · have LN := hid (least_first h2 g)
              generalize nm l m = sm at *
              generalize am l m = nmm at *
              generalize prv T k = pk at *
              clear LE h2
              go_wp2_with fail
              go_quiet (fail)
              go_wp2_with fail
              exact ⟨⟨m + 1, m, by omega, by go_num, rfl, by omega, by omega, LN, ⟨_, rfl⟩⟩, by simp [intOf]; omega⟩
            · obtain ⟨d0, d1⟩ := HCW.out q' (by omega)
              have hq1 : ¬ (q' : Int) < 0 := by omega
              have hq2 : q' < len := by omega
              have hq3 : (q' : Int) < (len : Int) := by omega
              have hq4 : (0 : Int) ≤ (q' : Int) := by omega
              cases hl : Op.bytesLess (nm l m).toList (nm l q').toList
              · have LN := hid (least_keep h2 h3 h4 (fun e => by have := DI.out m q' hlm hq2 e; omega) hl)
                generalize nm l m = sm at *
                generalize am l m = nmm at *
                generalize nm l q' = sq at *
                generalize am l q' = nq' at *
                generalize prv T k = pk at *
                clear LE h4 h3
                go_wp2_with fail
                go_quiet (fail)
                go_wp2_with fail
                exact ⟨⟨m + 1, q', by omega, by go_num, rfl, by omega, by omega, LN, ⟨_, rfl⟩⟩, by simp [intOf]; omega⟩
              · have LN := hid (least_take h4 g hl)
                generalize nm l m = sm at *
                generalize am l m = nmm at *
                generalize nm l q' = sq at *
                generalize am l q' = nq' at *
                generalize prv T k = pk at *
                clear LE h4 h3
                go_wp2_with fail
                go_quiet (fail)
                go_wp2_with fail
                exact ⟨⟨m + 1, m, by omega, by go_num, rfl, by omega, by omega, LN, ⟨_, rfl⟩⟩, by simp [intOf]; omega⟩
        · obtain rfl : m = len := by omega
          have q1 := Q1.out
          have q2 := Q2.out
          have q3 := Q3.out
          have q4 := Q4.out
          have fin : at_ = (q : Int) := by
            rcases LE.out with ⟨_, h2⟩ | ⟨q', rfl, h2, h3, h4⟩
            · rw [h2 q hq] at q3; cases q3
            · rcases h4 q hq q3 with e | e
              · rw [e]
              · rcases q4 q' h2 h3 with e' | e'
                · rw [e']
                · rw [(less_asymm _ _ e).1] at e'; cases e'
          subst fin
          obtain ⟨d0, d1⟩ := HCW.out q hq
          rw [q1] at d0
          rw [q2] at d1
          have hq1 : ¬ (q : Int) < 0 := by omega
          have HPR := hid (show prv T (k + 1) = nm T k by unfold prv; rw [if_neg (by omega)]; rfl)
          have hTk : k < T.length := by rw [HS.out.1, ← N1.out]; exact hlt
          have sk : (nonz (T.take k)).length ≤ 32 := Nat.le_trans (List.length_filter_le _ _) (by rw [List.length_take]; omega)
          by_cases nz : am T k = 0
          · have HT := hid (nonz_no T k hTk nz)
            generalize nm T k = sT at *
            rw [nz] at d1
            clear sk LE q1 q2 q3 q4
            go_wp2_with fail
            exact ⟨⟨k + 1, by omega, by rw [HPR.out], by go_num, hid (below_drewN BE.out _), hid (by rw [HT.out]; exact own_low OW.out (below_drewN (Below.refl _ _) _) hws)⟩, by simp [intOf]; omega⟩
          · have HT := hid (nonz_yes T k hTk nz)
            have nz' : (am T k != 0) = true := by simpa using nz
            generalize nonz (T.take k) = S at *
            generalize nm T k = sT at *
            generalize am T k = nT at *
            clear LE q1 q2 q3 q4
            go_wp2_with (first
              | (at_builtin; refine wpList_append_own _ rfl _ _ 24 rfl w.heap.size 41 i0 (.agg #[.string ByteArray.empty, .int .i64 0]) 2 24 Try.underlying24 hi0 hz0 hz1 hz2 rfl (by decide) _ _ _ rfl ((own_low OW.out (below_drewN (Below.refl _ _) _) hws).alloc _) ⟨wr.heap.size, 0, none⟩ 1 1 [.string sT, .int .i64 nT] rfl rfl (cell_two_at _ _ _ _ _ (by simp)) (fun x hx => by simp at hx; rcases hx with rfl | rfl <;> rfl) (by unfold maxLen; omega) (by omega) (by simp; omega) ?_; intro v' w3 hown' hgrow3 hnil3)
              | go_in)
            clear hnil3
            have BE3 : Below w.heap.size w w3 := ((below_drewN BE.out _).alloc hws _).grown hgrow3 (by simp; omega) (fun j hj => own_base OW.out j hj)
            exact ⟨⟨k + 1, by omega, by rw [HPR.out], by go_num, hid BE3, hid (by rw [HT.out]; exact ownF_snoc hown')⟩, by simp [intOf]; omega⟩
    · obtain rfl : k = len := by omega
      have o := OW.out
      rw [show T.take k = T by rw [N1.out, ← HS.out.1, List.take_length]] at o
      have O := hid o
      clear o
      go_wp2
      go_ret
      exact ⟨_, rfl, O.out, BE.out⟩
end Go.Proofs.Ytnlohjcjboelgaa.L
