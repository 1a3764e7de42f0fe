import Derived.Test.YtnclpdgbjefpmaaMgAB
namespace Go.Proofs.Ytnclpdgbjefpmaa.L
open Go.RowKit
set_option linter.unusedVariables false
set_option linter.unusedSimpArgs false
theorem kp_below {B g : Nat} {w0 W W' : World} (h : Below w0.heap.size w0 W) (k : Kp B g W W') (hg : w0.heap.size ≤ g) (hB : g < B) : Below w0.heap.size w0 W' :=
  ⟨k.os.trans h.os, k.tape.trans h.tape, k.output.trans h.output, Nat.le_trans h.size k.size, fun j hj => (k.old j (by omega) (by omega)).trans (h.block j hj)⟩
/-- What a piece of the writer does. -/
def Wrs (B g : Nat) (l out : List UInt8) (W : World) (e : Ending) (W' : World) : Prop := e = .returned (.tuple #[]) ∧ (∃ v', Wv B g v' (l ++ out) W') ∧ Kp B g W W'
theorem range_flat {α : Type} (l : List α) (d : α) (f : α → List UInt8) : (List.range l.length).flatMap (fun j => f (l.getD j d)) = l.flatMap f := by
  have e : l = (List.range l.length).map (fun j => l.getD j d) := by
    refine List.ext_getElem (by simp) fun j h1 h2 => ?_
    simp
    rw [List.getElem?_eq_getElem h1]
    rfl
  conv => rhs; rw [e]
  rw [List.flatMap_map]
set_option maxHeartbeats 4000000 in
theorem signed_any (B g : Nat) (z : Int) (l : List UInt8) (v : Value) (w : World) (hz : inR z (-1000000000000000000) 1000000000000000000 = true) (h : Wv B g v l w) (hl : l.length + (cnt (zz z)).length ≤ 70368744177664) :
    Calls Try.prog 58 #[.pointer (some ⟨g, 0, none⟩), .int .i64 z] w (Wrs B g l (cnt (zz z)) w) := by
  unfold inR at hz
  have hz := of_decide_eq_true hz
  have hzz : zz z < 9223372036854775808 := by unfold zz; split <;> omega
  have HC := hid (count_any B g (zz z) l v w hzz h hl)
  by_cases hn : z < 0
  · have e1 : ((zz z : Nat) : Int) = -2 * z - 1 := by unfold zz; rw [if_pos hn]; omega
    rw [e1] at HC
    generalize cnt (zz z) = o at *
    clear e1 hzz h
    go_enter Try.func58, Try.ntmps58
    go_wp2_with fail
    refine HC.out.mono ?_
    rintro e w1 ⟨rfl, h1, h2⟩
    go_wp2_with fail
    go_end0
    exact ⟨rfl, h1, h2⟩
  · have e1 : ((zz z : Nat) : Int) = 2 * z := by unfold zz; rw [if_neg hn]; omega
    rw [e1] at HC
    generalize cnt (zz z) = o at *
    clear e1 hzz h
    go_enter Try.func58, Try.ntmps58
    go_wp2_with fail
    refine HC.out.mono ?_
    rintro e w1 ⟨rfl, h1, h2⟩
    go_wp2_with fail
    go_end0
    exact ⟨rfl, h1, h2⟩
set_option maxHeartbeats 4000000 in
theorem text_any (B g : Nat) (t : ByteArray) (l : List UInt8) (v : Value) (w : World) (h : Wv B g v l w) (hl : l.length + (cnt t.size ++ t.data.toList).length ≤ 70368744177664) :
    Calls Try.prog 56 #[.pointer (some ⟨g, 0, none⟩), .string t] w (Wrs B g l (cnt t.size ++ t.data.toList) w) := by
  have hts : t.data.toList.length = t.size := Array.length_toList
  rw [List.length_append, hts] at hl
  have hsz : t.size ≤ maxLen := by unfold maxLen; omega
  have HC := hid (count_any B g t.size l v w (by omega) h (by omega))
  clear h
  obtain ⟨o, ho⟩ : ∃ o, o = cnt t.size := ⟨_, rfl⟩
  rw [← ho] at HC hl ⊢
  clear ho
  go_enter Try.func56, Try.ntmps56
  go_wp2_with fail
  refine HC.out.mono ?_
  rintro e w1 ⟨rfl, ⟨v1, h1⟩, h2⟩
  have HV := hid h1
  have HK := hid h2
  obtain ⟨va, n1, vc, rfl⟩ : ∃ va n1 vc, v1 = .slice va n1 vc := by obtain ⟨x, y, e⟩ := ownb_form h1.own; exact ⟨_, _, _, e⟩
  have y : w1.cell? ⟨g, 0, none⟩ = some (.slice va n1 vc) := cell_of_row _ _ 0 _ _ _ h1.box
  clear h1 h2
  have HL := hid (show (l ++ o).length + t.size ≤ 70368744177664 by rw [List.length_append]; omega)
  go_wp2_with (at_builtin; go_loud (refine wpList_text rfl _ _ rfl B (.slice va n1 vc) (l ++ o) t rfl HV.out.own rfl HL.out HV.out.le ?_))
  intro v' w2 ho' hg'
  obtain ⟨va', n', vc', rfl⟩ : ∃ va' n' vc', v' = .slice va' n' vc' := by obtain ⟨x, y, e⟩ := ownb_form ho'; exact ⟨_, _, _, e⟩
  have HP := hid (wv_put HV.out hg' ho')
  have hbx : w2.heap[g]? = some (.cells #[.slice va n1 vc] 62 (0, 0)) := (hg'.block g (lt_blk HV.out.box) (fun e => by have := (row_at HV.out.own e.symm).1; have := HV.out.lt; omega)).trans HV.out.box
  have y1 : w2.cell? ⟨g, 0, none⟩ = some (.slice va n1 vc) := cell_of_row _ _ 0 _ _ _ hbx
  have f1 : w2.frozen? ⟨g, 0, none⟩ = false := frz_row hbx 0
  clear hbx y ho' hg'
  go_wp2_with fail
  go_end0
  exact ⟨rfl, ⟨_, by first | exact HP.out.1 | (rw [← List.append_assoc]; exact HP.out.1)⟩, HK.out.trans HP.out.2⟩
set_option maxHeartbeats 4000000 in
theorem list_s (ev : Nat → Value) (en : Nat → List UInt8) (L : Nat) (a : Option Addr) (cap : Nat) (B g : Nat) (l : List UInt8) (v : Value) (w0 w : World) (hL : L ≤ 140737488355328) (hR : L = 0 ∨ ∃ b off, a = some ⟨b, off, none⟩ ∧ b < w0.heap.size ∧ ∀ j, j < L → w0.cell? ⟨b, off + j, none⟩ = some (ev j))
    (h0 : Below w0.heap.size w0 w) (hg : w0.heap.size ≤ g) (h : Wv B g v l w) (hl : l.length + (cnt L ++ (List.range L).flatMap en).length ≤ 70368744177664)
    (hW : ∀ j, j < L → ∀ (l' : List UInt8) (v' : Value) (W' : World), Wv B g v' l' W' → Below w0.heap.size w0 W' → l'.length + (en j).length ≤ 70368744177664 → Calls Try.prog 56 #[.pointer (some ⟨g, 0, none⟩), ev j] W' (Wrs B g l' (en j) W')) :
    Calls Try.prog 55 #[.pointer (some ⟨g, 0, none⟩), .slice a L cap, .func (.func 56) #[.pointer (some ⟨g, 0, none⟩)] #[]] w (Wrs B g l (cnt L ++ (List.range L).flatMap en) w) := by
  have HLen := hid hl
  have HB := hid (show g < B from h.lt)
  rw [List.length_append] at hl
  have HC := hid (count_any B g L l v w (by omega) h (by omega))
  have HW := hid hW
  have HR := hid hR
  have H0 := hid h0
  clear hW hR h0 h
  have hLm : L ≤ maxLen := by unfold maxLen; omega
  go_enter Try.func55, Try.ntmps55
  go_wp2_with fail
  refine HC.out.mono ?_
  rintro e w1 ⟨rfl, ⟨v1, h1⟩, h2⟩
  have HV1 := hid h1
  have HK1 := hid h2
  clear h1 h2
  go_wp2_with fail
  go_loopw [14] (fun i wr => ∃ (k : Nat) (v2 : Value), i = .int .i64 k ∧ k ≤ L ∧ Hid (Wv B g v2 (l ++ (cnt L ++ (List.range k).flatMap en)) wr) ∧ Hid (Kp B g w wr)) (fun i _ => L - (intOf i).toNat)
  case atStart => exact ⟨0, v1, rfl, Nat.zero_le _, hid (by simpa using HV1.out), HK1⟩
  case round =>
    obtain ⟨k, v2, rfl, hk, HV, HK⟩ := hrel
    by_cases hlt : k < L
    · have H0r := hid (kp_below H0.out HK.out hg HB.out)
      rcases HR.out with h9 | ⟨b, off, rfl, hb, hc⟩
      · omega
      have p0 : wr.cell? ⟨b, off + k, none⟩ = some (ev k) := (H0r.out.cell (p := ⟨b, off + k, none⟩) hb).trans (hc k hlt)
      clear hc
      have g1 : (k : Int) < (L : Int) := by omega
      have g2 : (0 : Int) ≤ (k : Int) := by omega
      have HE := hid (show (List.range (k + 1)).flatMap en = (List.range k).flatMap en ++ en k by rw [List.range_succ, List.flatMap_append]; simp)
      have hmono : ((List.range (k + 1)).flatMap en).length ≤ ((List.range L).flatMap en).length := by
        have e : List.range L = List.range (k + 1) ++ (List.range L).drop (k + 1) := by
          conv => lhs; rw [← List.take_append_drop (k + 1) (List.range L)]
          rw [List.take_range, Nat.min_eq_left (by omega)]
        rw [e, List.flatMap_append, List.length_append]
        omega
      have HLk := hid (show (l ++ (cnt L ++ (List.range k).flatMap en)).length + (en k).length ≤ 70368744177664 from by
        have h9 := HLen.out
        rw [HE.out] at hmono
        simp only [List.length_append] at h9 hmono ⊢
        omega)
      clear hmono
      have HWk := hid (HW.out k hlt (l ++ (cnt L ++ (List.range k).flatMap en)) v2 wr HV.out H0r.out HLk.out)
      go_wp2_with fail
      refine HWk.out.mono ?_
      rintro e w2 ⟨rfl, ⟨v3, h1⟩, h2⟩
      have HV3 := hid (show Wv B g v3 (l ++ (cnt L ++ (List.range (k + 1)).flatMap en)) w2 by rw [HE.out, ← List.append_assoc (cnt L), ← List.append_assoc l]; exact h1)
      have HK3 := hid (HK.out.trans h2)
      clear h1 h2
      go_wp2_with fail
      exact ⟨⟨k + 1, v3, by go_num, by omega, HV3, HK3⟩, by simp [intOf]; omega⟩
    · obtain rfl : k = L := by omega
      go_wp2_with fail
      go_end0
      exact ⟨rfl, ⟨v2, HV.out⟩, HK.out⟩
end Go.Proofs.Ytnclpdgbjefpmaa.L
