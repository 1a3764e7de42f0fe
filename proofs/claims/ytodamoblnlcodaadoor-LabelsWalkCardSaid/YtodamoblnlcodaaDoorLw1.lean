import Derived.Test.YtodamoblnlcodaaDoorSam
import Derived.Laws.MakeOwn
import Derived.Laws.AppendOwnNone
import Derived.Sort.Row
namespace Go.Proofs.YtodamoblnlcodaaDoor.L
open Go.RowKit
set_option linter.unusedVariables false
def sBang : ByteArray := ⟨#[33]⟩
def sSpare : ByteArray := ⟨#[115, 112, 97, 114, 101]⟩
def spr (k : Nat) : List Lb := List.replicate k (sBang, sSpare)
theorem spr_next (k : Nat) : spr (k + 1) = spr k ++ [(sBang, sSpare)] := by
  unfold spr
  rw [List.replicate_succ']
theorem spr_len (k : Nat) : (spr k).length = k := by simp [spr]
theorem info_prts {o : Option TypeInfo} {z : Value} {s b : Nat} (h : o.map (fun i => (i.zero, i.size, i.bytes)) = some (some z, s, b)) : ∃ i, o = some i ∧ i.zero = some z ∧ i.size = s ∧ i.bytes = b := by
  cases o with
  | none => simp at h
  | some i => simp at h; exact ⟨i, rfl, h.1, h.2.1, h.2.2⟩
theorem make_room (W : World) (L : Nat) (hL : L * 32 ≤ 140737488351232) : (Instr.makeSlice 22 (.int .i64 0) (.int .i64 ((L : Int) + 80))).run Tryd.prog W = .ok (.slice (some ⟨W.heap.size, 0, none⟩) 0 (L + 80)) (W.alloc (.cells (madeCells #[.string ByteArray.empty, .string ByteArray.empty] ((L + 80) * 2)) 27)) := by
  obtain ⟨i0, hi, hz0, hz1, hz2⟩ := info_prts infoL
  have h := run_make (P := Tryd.prog) W 22 27 i0 (.agg #[.string ByteArray.empty, .string ByteArray.empty]) Tryd.underlying22 hi hz0 .i64 .i64 0 ((L : Int) + 80) (by omega) (by omega) (by rw [hz2]; omega) (by omega)
  rw [hz1, show ((L : Int) + 80).toNat = L + 80 by omega] at h
  exact h
/-- An append of a list that came in, or nil, to a row of one's own. -/
theorem wpList_append_lab {w : World} {ops : Array Oper} {rest : List Oper} {o : Oper} {a : Act} {Q : Exit → Act → World → Prop} (hgd : o.guard = none) (s x : Operand)
    (ho : o.op = .call { callee := .builtin .append, args := #[s, x], argTypes := #[22, 22] })
    (base : Nat) (v : Value) (c : List Lb) (n : Nat) (hs : a.eval s = v) (hown : w.ownsRow base 27 2 v n (cellsF c)) (v' : Value) (l : List Lb) (hx : a.eval x = v') (hc : Came w v' l) (h63 : n + l.length ≤ maxLen) (hb : (n + l.length) * 32 ≤ 140737488355328) (hbase : base ≤ w.heap.size)
    (h : ∀ v'' w', w'.ownsRow base 27 2 v'' (n + l.length) (cellsF c ++ cellsF l) → w.grownBy w' v.ownBlock → wpList Tryd.prog ops Q rest (a.put o.dst v'') w') : wpList Tryd.prog ops Q (o :: rest) a w := by
  obtain ⟨i0, hi, hz0, hz1, hz2⟩ := info_prts infoL
  rcases hc with ⟨rfl, rfl⟩ | ⟨ad, cap, rfl, _, hr⟩
  · refine wpList_append_own_none hgd s x _ ho base 27 i0 2 Tryd.underlying22 hi v n _ hs hown hx ?_
    exact h v w (by simpa [cellsF] using hown) ⟨rfl, rfl, rfl, Nat.le_refl _, fun _ _ _ => rfl⟩
  · refine wpList_append_own w hgd s x _ ho base 27 i0 (.agg #[.string ByteArray.empty, .string ByteArray.empty]) 2 32 Tryd.underlying22 hi hz0 hz1 hz2 rfl (by decide) v n _ hs hown ad l.length cap (cellsF l) hx (cellsF_len l) ?_ (cellsF_one l) h63 hb hbase ?_
    · rcases hr with h0 | ⟨b, off, rfl, _, hcell⟩
      · intro j u hu
        have := (cellsF_get l j u hu).1
        omega
      · exact cellsF_src l w b off hcell
    · intro v'' w' h1 h2 _
      exact h v'' w' h1 h2
theorem came_form' {W : World} {v : Value} {l : List Lb} (h : Came W v l) : ∃ a cap, v = .slice a l.length cap := by
  rcases h with ⟨rfl, rfl⟩ | ⟨a, cap, rfl, _⟩
  · exact ⟨none, 0, rfl⟩
  · exact ⟨_, cap, rfl⟩
set_option maxHeartbeats 4000000 in
set_option maxRecDepth 100000 in
/-- roomy: a list of its own with marks behind it. -/
theorem roomy_any (v : Value) (l : List Lb) (w : World) (hc : Came w v l) (hg : Good l) : Calls Tryd.prog 7 #[v] w fun e w' => ∃ g cap, e = .returned (.tuple #[.slice (some ⟨g, 0, none⟩) (l.length + 80) cap, .slice (some ⟨g, 0, none⟩) l.length cap]) ∧ Own w' w.heap.size (.slice (some ⟨g, 0, none⟩) (l.length + 80) cap) (l ++ spr 80) ∧ Below w.heap.size w w' := by
  obtain ⟨i0, hi, hz0, hz1, hz2⟩ := info_prts infoL
  have hl1 := hg.1.1
  have hl2 := hg.1.2
  have HC := hid hc
  obtain ⟨av, cv, hv⟩ := came_form' hc
  obtain ⟨L, hL⟩ : ∃ L, L = l.length := ⟨_, rfl⟩
  rw [← hL] at hl1 hl2 hv ⊢
  have HL := hid hL
  subst hv
  clear hc hL hg
  have mk := make_room w L hl2
  have B1 := hid (belowA w (.cells (madeCells #[.string ByteArray.empty, .string ByteArray.empty] ((L + 80) * 2)) 27))
  have O1 := hid (World.ownsRow_made (base := w.heap.size) (size := 2) (e := 27) w (madeCells #[.string ByteArray.empty, .string ByteArray.empty] ((L + 80) * 2)) (L + 80) (Nat.le_refl _) (by unfold maxLen; omega) (by simp [size_madeCells]))
  go_enter Tryd.func7, Tryd.ntmps7
  go_wp2_with (at_builtin; refine wpList_append_lab rfl _ _ rfl w.heap.size _ [] 0 rfl O1.out _ l rfl (HC.out.low B1.out) (by rw [← HL.out]; omega) (by rw [← HL.out]; omega) (by simp) ?_; intro v2 w2 o2 g2)
  clear mk
  have B2 := hid (B1.out.grown g2 (by simp) (fun k hk => (O1.out.lt k hk).1))
  have O2 := hid (show Own w2 w.heap.size v2 (l ++ spr 0) by rw [show spr 0 = [] from rfl, List.append_nil]; unfold Own; simpa [cellsF] using o2)
  clear o2 g2 O1 B1
  go_wp2_with fail
  go_loopw [4, 5] (fun v i wr => ∃ k : Nat, k ≤ 80 ∧ i = .int .i64 k ∧ Hid (Own wr w.heap.size v (l ++ spr k)) ∧ Hid (Below w.heap.size w wr)) (fun _ i _ => 80 - (intOf i).toNat)
  case atStart => exact ⟨0, Nat.zero_le _, rfl, O2, B2⟩
  case round =>
    obtain ⟨k, hk, rfl, HO, HB⟩ := hrel
    by_cases hlt : k < 80
    · have g1 : (k : Int) < 80 := by omega
      have HLN := hid (show (l ++ spr k).length = L + k by rw [List.length_append, spr_len, ← HL.out])
      have hsz := HB.out.size
      have A1 := hid (HB.out.alloc HB.out.size (.cells #[.string ⟨#[33]⟩, .string ⟨#[115, 112, 97, 114, 101]⟩] 27))
      generalize hQ : l ++ spr k = Q at *
      have HQ := hid hQ
      clear hQ
      go_wp2_with (first
        | (at_builtin; refine wpList_append_own _ rfl _ _ 22 rfl w.heap.size 27 i0 (.agg #[.string ByteArray.empty, .string ByteArray.empty]) 2 32 Tryd.underlying22 hi hz0 hz1 hz2 rfl (by decide) _ _ _ rfl (World.ownsRow.alloc HO.out _) ⟨wr.heap.size, 0, none⟩ 1 1 [.string ⟨#[33]⟩, .string ⟨#[115, 112, 97, 114, 101]⟩] rfl rfl (cell_two_at _ _ _ _ _ rfl) (fun x hx => by simp at hx; rcases hx with rfl | rfl <;> rfl) (by have := HLN.out; unfold maxLen; omega) (by have := HLN.out; omega) (by simp; omega) ?_; intro v3 w3 o3 g3 _)
        | go_in)
      have N1 := hid (show Own w3 w.heap.size v3 (l ++ spr (k + 1)) by rw [spr_next, ← List.append_assoc, HQ.out]; exact own_snoc o3)
      have N2 := hid (A1.out.grown g3 (by simp; omega) (fun k hk => own_base HO.out k hk))
      clear o3 g3
      go_wp2_with fail
      exact ⟨⟨k + 1, by omega, by go_num, N1, N2⟩, by simp [intOf]; omega⟩
    · obtain rfl : k = 80 := by omega
      have g1 : ¬ ((80 : Nat) : Int) < 80 := by omega
      have hln : (l ++ spr 80).length = L + 80 := by rw [List.length_append, spr_len, ← HL.out]
      have own := HO.out
      unfold Own at own
      rw [hln] at own
      rcases own.2 with ⟨e, h0⟩ | ⟨g, cap, cur, e, _, _, hc, _⟩
      · omega
      subst e
      have hcap : L ≤ cap := by omega
      have R := hid own
      have HLN := hid hln
      clear own hln HO
      go_wp2_with fail
      go_region
      go_wp2_with fail
      go_ret2
      refine ⟨g, cap, rfl, ?_, HB.out.drew⟩
      unfold Own
      rw [HLN.out]
      exact World.ownsRow.kept (row := none) R.out ⟨rfl, rfl, rfl, Nat.le_refl _, fun _ _ _ => rfl⟩ (by cases (Value.slice (some ⟨g, 0, none⟩) (L + 80) cap).ownBlock <;> simp)
end Go.Proofs.YtodamoblnlcodaaDoor.L
