import Derived.Laws.AppendOwn
import Derived.Lib.AppendStr
import Derived.WalkMore
import Derived.Lib.ConvBytes
import Derived.Laws.MakeOwn
import Derived.Test.YtnclpdgbjefpmaaEk
namespace Go.Proofs.Ytnclpdgbjefpmaa.L
open Go.RowKit
set_option linter.unusedVariables false
set_option linter.unusedSimpArgs false
/-- A byte as the number that it is. -/
def iv (c : UInt8) : Int := (c.toNat : Int)
abbrev OwnB (w : World) (base : Nat) (v : Value) (l : List UInt8) : Prop := w.ownsRow base 5 1 v l.length (Lib.byteCells l)
theorem byteCells_eq (l : List UInt8) : Lib.byteCells l = l.map (fun b => Value.int .u8 (iv b)) := rfl
theorem ownb_form {w : World} {base : Nat} {v : Value} {l : List UInt8} (h : OwnB w base v l) : ∃ a cap, v = .slice a l.length cap := by
  rcases h.2 with ⟨e, n0⟩ | ⟨g, cap, cur, e, _⟩
  · exact ⟨none, 0, by rw [e, n0]⟩
  · exact ⟨_, _, e⟩
theorem row_ge {w : World} {base e s n : Nat} {v : Value} {xs : List Value} (h : w.ownsRow base e s v n xs) : ∀ k, v.ownBlock = some k → base ≤ k := by
  intro k hk
  rcases h.2 with ⟨rfl, _⟩ | ⟨g, cap, cur, rfl, hb, _⟩
  · cases hk
  · cases hk; exact hb
theorem infoB : (Try.prog.info? 5).map (fun i => (i.zero, i.size, i.bytes)) = some (some (.int .u8 0), 1, 1) := by kernel_rfl
theorem cell_one_new (w : World) (a : Value) (t : TypeId) : ∀ (j : Nat) (u : Value), [a][j]? = some u → (w.alloc (.cells #[a] t)).cell? ((⟨w.heap.size, 0, none⟩ : Addr).add j) = some u := by
  intro j u h
  rw [Go.WideShapes.add_plain]
  rw [cell_of_row (w.alloc (.cells #[a] t)) w.heap.size (0 + j) _ _ _ (heap_alloc_new w _)]
  simpa using h
/-- The writer's bytes: what stands in its block, and that it is a row of its own. -/
structure Wv (B g : Nat) (v : Value) (l : List UInt8) (W : World) : Prop where
  box : W.heap[g]? = some (.cells #[v] 62 (0, 0))
  own : OwnB W B v l
  lt : g < B
  le : B ≤ W.heap.size
/-- No row of bytes. -/
def NoB (W : World) (k : Nat) : Prop := ∀ cs fr, W.heap[k]? ≠ some (.cells cs 5 fr)
/-- The writer has gone on: its block and its row may change. -/
structure Kp (B g : Nat) (W W' : World) : Prop where
  os : W'.os = W.os
  tape : W'.tape = W.tape
  output : W'.output = W.output
  size : W.heap.size ≤ W'.heap.size
  old : ∀ k, k < B → k ≠ g → W'.heap[k]? = W.heap[k]?
  block : ∀ k, k < W.heap.size → k ≠ g → NoB W k → W'.heap[k]? = W.heap[k]?
theorem Kp.refl (B g : Nat) (W : World) : Kp B g W W := ⟨rfl, rfl, rfl, Nat.le_refl _, fun _ _ _ => rfl, fun _ _ _ _ => rfl⟩
theorem Kp.trans {B g : Nat} {W W' W'' : World} (h : Kp B g W W') (k : Kp B g W' W'') : Kp B g W W'' := by
  refine ⟨k.os.trans h.os, k.tape.trans h.tape, k.output.trans h.output, Nat.le_trans h.size k.size, fun j h1 h2 => (k.old j h1 h2).trans (h.old j h1 h2), fun j hj hg hv => ?_⟩
  have e := h.block j hj hg hv
  exact (k.block j (Nat.lt_of_lt_of_le hj h.size) hg (fun cs fr h2 => hv cs fr (e.symm.trans h2))).trans e
theorem Kp.below {B g : Nat} {W W' W'' : World} (h : Kp B g W W') (k : Below W'.heap.size W' W'') (hB : B ≤ W.heap.size) : Kp B g W W'' := by
  refine ⟨k.os.trans h.os, k.tape.trans h.tape, k.output.trans h.output, Nat.le_trans h.size k.size, fun j h1 h2 => ?_, fun j hj hg hv => ?_⟩
  · exact (k.block j (by have := h.size; omega)).trans (h.old j h1 h2)
  · exact (k.block j (by have := h.size; omega)).trans (h.block j hj hg hv)
/-- What came ahead of the base can be read on. -/
def KeepB (B g : Nat) (W W' : World) : Prop := W.heap.size ≤ W'.heap.size ∧ ∀ k, k < B → k ≠ g → W'.heap[k]? = W.heap[k]?
theorem Wv.low {B g : Nat} {v : Value} {l : List UInt8} {W W' : World} (h : Wv B g v l W) (k : Below W.heap.size W W') : Wv B g v l W' :=
  ⟨(k.block g (lt_blk h.box)).trans h.box, World.ownsRow.kept (row := none) h.own ⟨k.os, k.tape, k.output, k.size, fun j hj _ => k.block j hj⟩ (by cases v.ownBlock <;> simp), h.lt, Nat.le_trans h.le k.size⟩
theorem row_at {W : World} {B : Nat} {v : Value} {l : List UInt8} (h : OwnB W B v l) {k : Nat} (hk : v.ownBlock = some k) : B ≤ k ∧ ∃ cs, W.heap[k]? = some (.cells cs 5 (0, 0)) := by
  rcases h.2 with ⟨rfl, _⟩ | ⟨g', cap, cur, rfl, hb, hg, _⟩
  · cases hk
  · cases hk
    exact ⟨hb, _, hg⟩
/-- The row that has grown is put back into the writer. -/
theorem wv_put {B g : Nat} {v v' : Value} {l l' : List UInt8} {W W1 : World} (h : Wv B g v l W) (hg : W.grownBy W1 v.ownBlock) (ho : OwnB W1 B v' l') : Wv B g v' l' (W1.setCell ⟨g, 0, none⟩ v') ∧ Kp B g W (W1.setCell ⟨g, 0, none⟩ v') := by
  have hgl := lt_blk h.box
  have hgn : some g ≠ v.ownBlock := fun e => by
    have := (row_at h.own e.symm).1
    have := h.lt
    omega
  have hb1 : W1.heap[g]? = some (.cells #[v] 62 (0, 0)) := (hg.block g hgl hgn).trans h.box
  have hset : ∀ k, k ≠ g → (W1.setCell ⟨g, 0, none⟩ v').heap[k]? = W1.heap[k]? := fun k hk => by
    rw [setCell_eq_setRow _ _ _ _ _ _ _ hb1]
    exact setRow_other _ _ _ _ hk
  refine ⟨⟨?_, ?_, h.lt, ?_⟩, ⟨?_, ?_, ?_, ?_, ?_, ?_⟩⟩
  · rw [setCell_eq_setRow _ _ _ _ _ _ _ hb1, setRow_heap _ _ _ _ _ _ hb1]
    rfl
  · refine World.ownsRow.kept (row := some g) ho ⟨rfl, rfl, rfl, by simp, fun k _ hk => hset k (fun e => hk (by rw [e]))⟩ ?_
    cases hv : v'.ownBlock with
    | none => simp
    | some k =>
      have := (row_at ho hv).1
      have := h.lt
      simp
      omega
  · have := h.le
    have := hg.size
    simp
    omega
  · exact hg.os
  · exact hg.tape
  · exact hg.output
  · have := hg.size
    simp
    omega
  · intro k h1 h2
    rw [hset k h2]
    exact hg.block k (by have := h.le; omega) (fun e => by have := (row_at h.own e.symm).1; omega)
  · intro k h1 h2 h3
    rw [hset k h2]
    refine hg.block k h1 (fun e => ?_)
    obtain ⟨cs, hcs⟩ := (row_at h.own e.symm).2
    exact h3 _ _ hcs
end Go.Proofs.Ytnclpdgbjefpmaa.L
namespace Go.Proofs.Ytnclpdgbjefpmaa.L
open Go.RowKit
set_option linter.unusedVariables false
set_option linter.unusedSimpArgs false
theorem grow_alloc {W W1 : World} {o : Obj} {r : Option Nat} (h : (W.alloc o).grownBy W1 r) : W.grownBy W1 r := by
  have hA := belowA W o
  refine ⟨h.os.trans hA.os, h.tape.trans hA.tape, h.output.trans hA.output, Nat.le_trans hA.size h.size, fun k hk hr => ?_⟩
  exact (h.block k (Nat.lt_of_lt_of_le hk hA.size) hr).trans (hA.block k hk)
/-- One byte more is put behind a row of bytes. -/
theorem wpList_byte {w : World} {ops : Array Oper} {rest : List Oper} {o : Oper} {a : Act} {Q : Exit → Act → World → Prop} (hgd : o.guard = none) (s x : Operand)
    (ho : o.op = .call { callee := .builtin .append, args := #[s, x], argTypes := #[32, 32] })
    (base : Nat) (v : Value) (l : List UInt8) (c : UInt8) (d : Int) (hd : d = iv c) (hs : a.eval s = v) (hown : OwnB w base v l) (hx : a.eval x = .slice (some ⟨w.heap.size, 0, none⟩) 1 1) (hm : l.length ≤ 70368744177664) (hbase : base ≤ w.heap.size)
    (h : ∀ v' w', OwnB w' base v' (l ++ [c]) → w.grownBy w' v.ownBlock → wpList Try.prog ops Q rest (a.put o.dst v') w') :
    wpList Try.prog ops Q (o :: rest) a (w.alloc (.cells #[.int .u8 d] 5)) := by
  obtain ⟨i0, hi, hz0, hz1, hz2⟩ := info_parts infoB
  have hown' := World.ownsRow.alloc hown (.cells #[.int .u8 d] 5)
  refine wpList_append_own _ hgd s x 32 ho base 5 i0 (.int .u8 0) 1 1 Try.underlying32 hi hz0 hz1 hz2 rfl (by decide) v l.length _ hs hown' ⟨w.heap.size, 0, none⟩ 1 1 [.int .u8 d] hx rfl (cell_one_new w _ _) (fun u hu => by simp at hu; subst hu; rfl) (by unfold maxLen; omega) (by omega) (by simp; omega) ?_
  intro v' w' ho' hg _
  refine h v' w' ?_ (grow_alloc hg)
  unfold OwnB
  rw [List.length_append, byteCells_eq, List.map_append]
  rw [byteCells_eq] at ho'
  rw [hd] at ho'
  exact ho'
/-- The bytes of a text are put behind a row of bytes. -/
theorem wpList_text {w : World} {ops : Array Oper} {rest : List Oper} {o : Oper} {a : Act} {Q : Exit → Act → World → Prop} (hgd : o.guard = none) (s x : Operand)
    (ho : o.op = .call { callee := .builtin .append, args := #[s, x], argTypes := #[32, 9] })
    (base : Nat) (v : Value) (l : List UInt8) (t : ByteArray) (hs : a.eval s = v) (hown : OwnB w base v l) (hx : a.eval x = .string t) (hm : l.length + t.size ≤ 70368744177664) (hbase : base ≤ w.heap.size)
    (h : ∀ v' w', OwnB w' base v' (l ++ t.data.toList) → w.grownBy w' v.ownBlock → wpList Try.prog ops Q rest (a.put o.dst v') w') :
    wpList Try.prog ops Q (o :: rest) a w := by
  obtain ⟨i0, hi, hz0, hz1, hz2⟩ := info_parts infoB
  refine Lib.wpList_append_own_string _ hgd s x 32 9 ho base 5 i0 Try.underlying32 Try.underlying9 hi hz0 hz1 hz2 v l.length _ hs hown t hx (by unfold maxLen; omega) (by omega) hbase ?_
  intro v' w' ho' hg _
  refine h v' w' ?_ hg
  unfold OwnB
  rw [List.length_append, byteCells_eq, List.map_append]
  have e : t.data.toList.length = t.size := Array.length_toList
  rw [e]
  exact ho'
theorem frz_row {W : World} {g : Nat} {cs : Array Value} {t : TypeId} (h : W.heap[g]? = some (.cells cs t (0, 0))) (j : Nat) : W.frozen? ⟨g, j, none⟩ = false := by
  unfold World.frozen?
  simp [h]
theorem tmodN (a b : Nat) : Int.tmod (a : Int) (b : Int) = ((a % b : Nat) : Int) := rfl
theorem tdivN (a b : Nat) : Int.tdiv (a : Int) (b : Int) = ((a / b : Nat) : Int) := rfl
theorem cnt_len (n : Nat) : (cnt n).length ≤ n + 1 := by
  induction n using Nat.strongRecOn with
  | ind n ih =>
    rw [cnt]
    split
    · have := ih (n / 128) (by omega)
      simp only [List.length_cons]
      omega
    · simp
set_option maxHeartbeats 4000000 in
set_option maxRecDepth 100000 in
theorem count_any (B g n : Nat) (l : List UInt8) (v : Value) (w : World) (hn : n < 9223372036854775808) (h : Wv B g v l w) (hl : l.length + (cnt n).length ≤ 70368744177664) :
    Calls Try.prog 54 #[.pointer (some ⟨g, 0, none⟩), .int .i64 (n : Int)] w fun e w' => e = .returned (.tuple #[]) ∧ (∃ v', Wv B g v' (l ++ cnt n) w') ∧ Kp B g w w' := by
  have HWV := hid h
  have HKP := hid (Kp.refl B g w)
  clear h
  go_enter Try.func54, Try.ntmps54
  go_wp2_with fail
  go_loopw [1] (fun i wr => ∃ (m : Nat) (L1 : List UInt8) (v1 : Value), i = .int .i64 m ∧ Hid (m ≤ n) ∧ Hid (Wv B g v1 L1 wr) ∧ Hid (Kp B g w wr) ∧ Hid (L1 ++ cnt m = l ++ cnt n)) (fun i _ => (intOf i).toNat)
  case atStart => exact ⟨n, l, v, rfl, hid (Nat.le_refl _), HWV, HKP, hid (by first | rfl | trivial)⟩
  case round =>
    obtain ⟨m, L1, v1, rfl, HMN, HV, HK, HE⟩ := hrel
    have hlen : L1.length + (cnt m).length ≤ 70368744177664 := by
      have := congrArg List.length HE.out
      simp only [List.length_append] at this
      omega
    have hle := HV.out.le
    have y : wr.cell? ⟨g, 0, none⟩ = some v1 := cell_of_row _ _ 0 _ _ _ HV.out.box
    obtain ⟨va, vc, rfl⟩ := ownb_form HV.out.own
    have hmn := HMN.out
    by_cases hm : 127 < m
    · have g1 : (127 : Int) < (m : Int) := by omega
      have e1 := tmodN m 128
      have e2 := tdivN m 128
      obtain ⟨c, hc⟩ : ∃ c, c = UInt8.ofNat (m % 128 + 128) := ⟨_, rfl⟩
      have hcm : cnt m = c :: cnt (m / 128) := by rw [cnt, if_pos hm, hc]
      have hd : (m : Int) % 128 + 128 = iv c := by unfold iv; rw [hc, u8_nat (by omega)]; omega
      have HD := hid hd
      have HC := hid hcm
      clear hd hcm hc
      have HL := hid (show L1.length ≤ 70368744177664 by omega)
      have HOW := hid HV.out.own
      go_wp2_with (at_builtin; go_loud (refine wpList_byte rfl _ _ rfl B (.slice va L1.length vc) L1 _ _ HD.out rfl HOW.out rfl HL.out hle ?_))
      intro v' w1 ho' hg'
      obtain ⟨va', n', vc', rfl⟩ : ∃ va' n' vc', v' = .slice va' n' vc' := by obtain ⟨x, y, e⟩ := ownb_form ho'; exact ⟨_, _, _, e⟩
      have HP := hid (wv_put HV.out hg' ho')
      have hbx : w1.heap[g]? = some (.cells #[.slice va L1.length vc] 62 (0, 0)) := (hg'.block g (lt_blk HV.out.box) (fun e => by have := (row_at HV.out.own e.symm).1; have := HV.out.lt; omega)).trans HV.out.box
      have y1 : w1.cell? ⟨g, 0, none⟩ = some (.slice va L1.length vc) := cell_of_row _ _ 0 _ _ _ hbx
      have f1 : w1.frozen? ⟨g, 0, none⟩ = false := frz_row hbx 0
      clear hbx y ho' hg'
      go_wp2_with fail
      refine ⟨⟨m / 128, L1 ++ [c], .slice va' n' vc', rfl, hid (by omega), hid HP.out.1, hid (HK.out.trans HP.out.2), hid (by rw [← HE.out, HC.out]; simp)⟩, by simp [intOf]; omega⟩
    · have g1 : ¬ (127 : Int) < (m : Int) := by omega
      obtain ⟨c, hc⟩ : ∃ c, c = UInt8.ofNat m := ⟨_, rfl⟩
      have hcm : cnt m = [c] := by rw [cnt, if_neg hm, hc]
      have hd : (m : Int) = iv c := by unfold iv; rw [hc, u8_nat (by omega)]
      have HD := hid hd
      have HC := hid hcm
      have hw8 : IntKind.u8.wrap (m : Int) = (m : Int) := by unfold IntKind.wrap; simp [IntKind.bits, IntKind.signed]; omega
      clear hd hcm hc
      have HL := hid (show L1.length ≤ 70368744177664 by omega)
      have HOW := hid HV.out.own
      go_wp2_with (at_builtin; go_loud (refine wpList_byte rfl _ _ rfl B (.slice va L1.length vc) L1 _ _ HD.out rfl HOW.out rfl HL.out hle ?_))
      intro v' w1 ho' hg'
      obtain ⟨va', n', vc', rfl⟩ : ∃ va' n' vc', v' = .slice va' n' vc' := by obtain ⟨x, y, e⟩ := ownb_form ho'; exact ⟨_, _, _, e⟩
      have HP := hid (wv_put HV.out hg' ho')
      have hbx : w1.heap[g]? = some (.cells #[.slice va L1.length vc] 62 (0, 0)) := (hg'.block g (lt_blk HV.out.box) (fun e => by have := (row_at HV.out.own e.symm).1; have := HV.out.lt; omega)).trans HV.out.box
      have y1 : w1.cell? ⟨g, 0, none⟩ = some (.slice va L1.length vc) := cell_of_row _ _ 0 _ _ _ hbx
      have f1 : w1.frozen? ⟨g, 0, none⟩ = false := frz_row hbx 0
      clear hbx y ho' hg'
      go_wp2_with fail
      go_end0
      exact ⟨rfl, ⟨_, by rw [← HE.out, HC.out]; exact HP.out.1⟩, HK.out.trans HP.out.2⟩
end Go.Proofs.Ytnclpdgbjefpmaa.L
