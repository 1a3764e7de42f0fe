import Derived.Test.YtnclpdgbjefpmaaEm
namespace Go.Proofs.Ytnclpdgbjefpmaa.L
open Go.RowKit
set_option linter.unusedVariables false
set_option linter.unusedSimpArgs false
theorem grow_alloc {W W1 : World} {o : Obj} {r : Option Nat} (h : (W.alloc o).grownBy W1 r) : W.grownBy W1 r := by
  have hA := belowA W o
  refine ⟨h.os.trans hA.os, h.tape.trans hA.tape, h.output.trans hA.output, Nat.le_trans hA.size h.size, fun k hk hr => ?_⟩
  exact (h.block k (Nat.lt_of_lt_of_le hk hA.size) hr).trans (hA.block k hk)
/-- One byte more is put behind a row of bytes. -/
theorem wpList_byte {w : World} {ops : Array Oper} {rest : List Oper} {o : Oper} {a : Act} {Q : Exit → Act → World → Prop} (hgd : o.guard = none) (s x : Operand)
    (ho : o.op = .call { callee := .builtin .append, args := #[s, x], argTypes := #[32, 32] })
    (base : Nat) (v : Value) (l : List UInt8) (c : UInt8) (d : Int) (hd : d = iv c) (hs : a.eval s = v) (hown : OwnB w base v l) (hx : a.eval x = .slice (some ⟨w.heap.size, 0, none⟩) 1 1) (hm : l.length ≤ 70368744177664) (hbase : base ≤ w.heap.size)
    (h : ∀ v' w', OwnB w' base v' (l ++ [c]) → w.grownBy w' v.ownBlock → wpList Try.prog ops Q rest (a.put o.dst v') w') :
    wpList Try.prog ops Q (o :: rest) a (w.alloc (.cells #[.int .u8 d] 5)) := by
  obtain ⟨i0, hi, hz0, hz1, hz2⟩ := info_parts infoB
  have hown' := World.ownsRow.alloc hown (.cells #[.int .u8 d] 5)
  refine wpList_append_own _ hgd s x 32 ho base 5 i0 (.int .u8 0) 1 1 Try.underlying32 hi hz0 hz1 hz2 rfl (by decide) v l.length _ hs hown' ⟨w.heap.size, 0, none⟩ 1 1 [.int .u8 d] hx rfl (cell_one_new w _ _) (fun u hu => by simp at hu; subst hu; rfl) (by unfold maxLen; omega) (by omega) (by simp; omega) ?_
  intro v' w' ho' hg _
  refine h v' w' ?_ (grow_alloc hg)
  unfold OwnB
  rw [List.length_append, byteCells_eq, List.map_append]
  rw [byteCells_eq] at ho'
  rw [hd] at ho'
  exact ho'
/-- The bytes of a text are put behind a row of bytes. -/
theorem wpList_text {w : World} {ops : Array Oper} {rest : List Oper} {o : Oper} {a : Act} {Q : Exit → Act → World → Prop} (hgd : o.guard = none) (s x : Operand)
    (ho : o.op = .call { callee := .builtin .append, args := #[s, x], argTypes := #[32, 9] })
    (base : Nat) (v : Value) (l : List UInt8) (t : ByteArray) (hs : a.eval s = v) (hown : OwnB w base v l) (hx : a.eval x = .string t) (hm : l.length + t.size ≤ 70368744177664) (hbase : base ≤ w.heap.size)
    (h : ∀ v' w', OwnB w' base v' (l ++ t.data.toList) → w.grownBy w' v.ownBlock → wpList Try.prog ops Q rest (a.put o.dst v') w') :
    wpList Try.prog ops Q (o :: rest) a w := by
  obtain ⟨i0, hi, hz0, hz1, hz2⟩ := info_parts infoB
  refine Lib.wpList_append_own_string _ hgd s x 32 9 ho base 5 i0 Try.underlying32 Try.underlying9 hi hz0 hz1 hz2 v l.length _ hs hown t hx (by unfold maxLen; omega) (by omega) hbase ?_
  intro v' w' ho' hg _
  refine h v' w' ?_ hg
  unfold OwnB
  rw [List.length_append, byteCells_eq, List.map_append]
  have e : t.data.toList.length = t.size := Array.length_toList
  rw [e]
  exact ho'
theorem frz_row {W : World} {g : Nat} {cs : Array Value} {t : TypeId} (h : W.heap[g]? = some (.cells cs t (0, 0))) (j : Nat) : W.frozen? ⟨g, j, none⟩ = false := by
  unfold World.frozen?
  simp [h]
theorem tmodN (a b : Nat) : Int.tmod (a : Int) (b : Int) = ((a % b : Nat) : Int) := rfl
theorem tdivN (a b : Nat) : Int.tdiv (a : Int) (b : Int) = ((a / b : Nat) : Int) := rfl
theorem cnt_len (n : Nat) : (cnt n).length ≤ n + 1 := by
  induction n using Nat.strongRecOn with
  | ind n ih =>
    rw [cnt]
    split
    · have := ih (n / 128) (by omega)
      simp only [List.length_cons]
      omega
    · simp
set_option maxHeartbeats 4000000 in
set_option maxRecDepth 100000 in
theorem count_any (B g n : Nat) (l : List UInt8) (v : Value) (w : World) (hn : n < 9223372036854775808) (h : Wv B g v l w) (hl : l.length + (cnt n).length ≤ 70368744177664) :
    Calls Try.prog 54 #[.pointer (some ⟨g, 0, none⟩), .int .i64 (n : Int)] w fun e w' => e = .returned (.tuple #[]) ∧ (∃ v', Wv B g v' (l ++ cnt n) w') ∧ Kp B g w w' := by
  have HWV := hid h
  have HKP := hid (Kp.refl B g w)
  clear h
  go_enter Try.func54, Try.ntmps54
  go_wp2_with fail
  go_loopw [1] (fun i wr => ∃ (m : Nat) (L1 : List UInt8) (v1 : Value), i = .int .i64 m ∧ Hid (m ≤ n) ∧ Hid (Wv B g v1 L1 wr) ∧ Hid (Kp B g w wr) ∧ Hid (L1 ++ cnt m = l ++ cnt n)) (fun i _ => (intOf i).toNat)
  case atStart => exact ⟨n, l, v, rfl, hid (Nat.le_refl _), HWV, HKP, hid (by first | rfl | trivial)⟩
  case round =>
    obtain ⟨m, L1, v1, rfl, HMN, HV, HK, HE⟩ := hrel
    have hlen : L1.length + (cnt m).length ≤ 70368744177664 := by
      have := congrArg List.length HE.out
      simp only [List.length_append] at this
      omega
    have hle := HV.out.le
    have y : wr.cell? ⟨g, 0, none⟩ = some v1 := cell_of_row _ _ 0 _ _ _ HV.out.box
    obtain ⟨va, vc, rfl⟩ := ownb_form HV.out.own
    have hmn := HMN.out
    by_cases hm : 127 < m
    · have g1 : (127 : Int) < (m : Int) := by omega
      have e1 := tmodN m 128
      have e2 := tdivN m 128
      obtain ⟨c, hc⟩ : ∃ c, c = UInt8.ofNat (m % 128 + 128) := ⟨_, rfl⟩
      have hcm : cnt m = c :: cnt (m / 128) := by rw [cnt, if_pos hm, hc]
      have hd : (m : Int) % 128 + 128 = iv c := by unfold iv; rw [hc, u8_nat (by omega)]; omega
      have HD := hid hd
      have HC := hid hcm
      clear hd hcm hc
      have HL := hid (show L1.length ≤ 70368744177664 by omega)
      have HOW := hid HV.out.own
      go_wp2_with (at_builtin; go_loud (refine wpList_byte rfl _ _ rfl B (.slice va L1.length vc) L1 _ _ HD.out rfl HOW.out rfl HL.out hle ?_))
      intro v' w1 ho' hg'
      obtain ⟨va', n', vc', rfl⟩ : ∃ va' n' vc', v' = .slice va' n' vc' := by obtain ⟨x, y, e⟩ := ownb_form ho'; exact ⟨_, _, _, e⟩
      have HP := hid (wv_put HV.out hg' ho')
      have hbx : w1.heap[g]? = some (.cells #[.slice va L1.length vc] 62 (0, 0)) := (hg'.block g (lt_blk HV.out.box) (fun e => by have := (row_at HV.out.own e.symm).1; have := HV.out.lt; omega)).trans HV.out.box
      have y1 : w1.cell? ⟨g, 0, none⟩ = some (.slice va L1.length vc) := cell_of_row _ _ 0 _ _ _ hbx
      have f1 : w1.frozen? ⟨g, 0, none⟩ = false := frz_row hbx 0
      clear hbx y ho' hg'
      go_wp2_with fail
      refine ⟨⟨m / 128, L1 ++ [c], .slice va' n' vc', rfl, hid (by omega), hid HP.out.1, hid (HK.out.trans HP.out.2), hid (by rw [← HE.out, HC.out]; simp)⟩, by simp [intOf]; omega⟩
    · have g1 : ¬ (127 : Int) < (m : Int) := by omega
      obtain ⟨c, hc⟩ : ∃ c, c = UInt8.ofNat m := ⟨_, rfl⟩
      have hcm : cnt m = [c] := by rw [cnt, if_neg hm, hc]
      have hd : (m : Int) = iv c := by unfold iv; rw [hc, u8_nat (by omega)]
      have HD := hid hd
      have HC := hid hcm
      have hw8 : IntKind.u8.wrap (m : Int) = (m : Int) := by unfold IntKind.wrap; simp [IntKind.bits, IntKind.signed]; omega
      clear hd hcm hc
      have HL := hid (show L1.length ≤ 70368744177664 by omega)
      have HOW := hid HV.out.own
      go_wp2_with (at_builtin; go_loud (refine wpList_byte rfl _ _ rfl B (.slice va L1.length vc) L1 _ _ HD.out rfl HOW.out rfl HL.out hle ?_))
      intro v' w1 ho' hg'
      obtain ⟨va', n', vc', rfl⟩ : ∃ va' n' vc', v' = .slice va' n' vc' := by obtain ⟨x, y, e⟩ := ownb_form ho'; exact ⟨_, _, _, e⟩
      have HP := hid (wv_put HV.out hg' ho')
      have hbx : w1.heap[g]? = some (.cells #[.slice va L1.length vc] 62 (0, 0)) := (hg'.block g (lt_blk HV.out.box) (fun e => by have := (row_at HV.out.own e.symm).1; have := HV.out.lt; omega)).trans HV.out.box
      have y1 : w1.cell? ⟨g, 0, none⟩ = some (.slice va L1.length vc) := cell_of_row _ _ 0 _ _ _ hbx
      have f1 : w1.frozen? ⟨g, 0, none⟩ = false := frz_row hbx 0
      clear hbx y ho' hg'
      go_wp2_with fail
      go_end0
      exact ⟨rfl, ⟨_, by rw [← HE.out, HC.out]; exact HP.out.1⟩, HK.out.trans HP.out.2⟩
end Go.Proofs.Ytnclpdgbjefpmaa.L
