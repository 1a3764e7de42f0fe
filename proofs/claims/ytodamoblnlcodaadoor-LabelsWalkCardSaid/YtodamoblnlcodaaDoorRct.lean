import Derived.Test.YtodamoblnlcodaaDoorRtx
import Derived.Test.YtodamoblnlcodaaDoorCut
import Derived.OwnWalk
import Derived.Laws.AppendOwnNone
namespace Go.Proofs.YtodamoblnlcodaaDoor.L
open Go.RowKit
set_option linter.unusedVariables false
/-- A row of texts that lies in the world. -/
def StrAt (W : World) (v : Value) (ps : List ByteArray) : Prop := ∃ b cap, v = .slice (some ⟨b, 0, none⟩) ps.length cap ∧ b < W.heap.size ∧ ∀ k (hk : k < ps.length), W.cell? ⟨b, k, none⟩ = some (.string ps[k])
theorem strAt_own {W : World} {base : Nat} {v : Value} {ps : List ByteArray} (h : W.ownsRow base 9 1 v ps.length (ps.map Value.string)) (hp : ps ≠ []) : StrAt W v ps := by
  obtain ⟨h1, h2⟩ := h
  rcases h2 with ⟨rfl, hz⟩ | ⟨g, cap, cur, rfl, hb, hh, hle, hm, hs, ht⟩
  · exact absurd (List.length_eq_zero_iff.1 hz) hp
  · have hlt : g < W.heap.size := by
      apply Classical.byContradiction
      intro n
      rw [Array.getElem?_eq_none (by omega)] at hh
      cases hh
    refine ⟨g, cap, rfl, hlt, fun k hk => ?_⟩
    have hu : (ps.map Value.string)[k]? = some (.string ps[k]) := by simp [hk]
    rw [← ht, List.getElem?_take, if_pos (by omega)] at hu
    simp [World.cell?, hh]
    simpa using hu
theorem cell_str_at (w : World) (b : Nat) (x : Value) (t : TypeId) (hb : b = w.heap.size) : ∀ (j : Nat) (u : Value), [x][j]? = some u → (w.alloc (.cells #[x] t)).cell? ((⟨b, 0, none⟩ : Addr).add j) = some u := by
  subst hb
  intro j u hu
  rw [Go.WideShapes.add_plain]
  have h : (w.alloc (.cells #[x] t)).heap[w.heap.size]? = some (.cells #[x] t) := by
    show (w.heap.push _)[w.heap.size]? = _
    simp
  unfold World.cell?
  rw [h]
  match j, hu with
  | 0, hu => simpa using hu
  | n + 1, hu => simp at hu
theorem info9_parts : ∃ i, Tryd.prog.info? 9 = some i ∧ i.zero = some (.string ByteArray.empty) ∧ i.size = 1 ∧ i.bytes = 16 := by
  have h := info9
  cases e : Tryd.prog.info? 9 with
  | none => rw [e] at h; cases h
  | some i =>
    rw [e] at h
    simp at h
    exact ⟨i, rfl, h⟩
theorem ext_list (s : ByteArray) (a b : Nat) : (s.extract a b).data.toList = (s.data.toList.drop a).take (b - a) := by
  simp [List.extract]
theorem list_ba {ps qs : List ByteArray} (h : ps.map (·.data.toList) = qs.map (·.data.toList)) : ps = qs := by
  induction ps generalizing qs with
  | nil =>
    cases qs with
    | nil => rfl
    | cons q qs => simp at h
  | cons p ps ih =>
    cases qs with
    | nil => simp at h
    | cons q qs =>
      simp at h
      rw [ih (by simpa using h.2)]
      obtain ⟨p⟩ := p
      obtain ⟨q⟩ := q
      congr 2
      simpa using h.1
/-- The state of the cut: the pieces so far, where the next begins, how far it is read. -/
def cutSt (c : UInt8) (s : ByteArray) (ps : List ByteArray) (f k : Nat) : Prop := cutL c s.data.toList = ps.map (·.data.toList) ++ cutL c (s.data.toList.drop f) ∧ c ∉ (s.data.toList.drop f).take (k - f)
theorem cutSt_no {c : UInt8} {s : ByteArray} {ps : List ByteArray} {f k : Nat} (h : cutSt c s ps f k) (hf : f ≤ k) (hk : k < s.size) (hb : s[k] ≠ c) : cutSt c s ps f (k + 1) := by
  refine ⟨h.1, ?_⟩
  rw [show k + 1 - f = (k - f) + 1 by omega, List.take_add_one]
  intro m
  rcases List.mem_append.1 m with m | m
  · exact h.2 m
  · have e : (s.data.toList.drop f)[k - f]? = some s[k] := by
      rw [List.getElem?_drop, show f + (k - f) = k by omega]
      have : k < s.data.toList.length := by simpa using hk
      rw [List.getElem?_eq_getElem this]
      rfl
    rw [e] at m
    simp at m
    exact hb m.symm
theorem cutSt_yes {c : UInt8} {s : ByteArray} {ps : List ByteArray} {f k : Nat} (h : cutSt c s ps f k) (hf : f ≤ k) (hk : k < s.size) (hb : s[k] = c) : cutSt c s (ps ++ [s.extract f k]) (k + 1) (k + 1) := by
  refine ⟨?_, by simp⟩
  have e : s.data.toList.drop f = (s.data.toList.drop f).take (k - f) ++ c :: s.data.toList.drop (k + 1) := by
    have hk' : k < s.data.toList.length := by simpa using hk
    have e1 : (s.data.toList.drop f).drop (k - f) = c :: s.data.toList.drop (k + 1) := by
      rw [List.drop_drop, show f + (k - f) = k by omega, List.drop_eq_getElem_cons hk']
      congr 1
    conv => lhs; rw [← List.take_append_drop (k - f) (s.data.toList.drop f), e1]
  rw [h.1, e, cut_app, cut_none c _ h.2]
  simp only [List.map_append, List.map_cons, List.map_nil, ext_list, List.append_assoc]
theorem cutSt_end {c : UInt8} {s : ByteArray} {ps : List ByteArray} {f : Nat} (h : cutSt c s ps f s.size) (hf : f ≤ s.size) : ps ++ [s.extract f s.size] = pieces s c := by
  apply list_ba
  rw [pieces_cut, h.1]
  have hl : s.data.toList.length = s.size := by simp
  have e : (s.data.toList.drop f).take (s.size - f) = s.data.toList.drop f := by
    apply List.take_of_length_le
    rw [List.length_drop, hl]
    omega
  have h2 := h.2
  rw [e] at h2
  rw [cut_none c _ h2]
  simp only [List.map_append, List.map_cons, List.map_nil, ext_list, e]
set_option maxHeartbeats 4000000 in
set_option maxRecDepth 100000 in
theorem rcut_any (s : ByteArray) (c : UInt8) (w : World) (hs : s.size ≤ 100000) : Calls Tryd.prog 36 #[.string s, .int .u8 (c.toNat : Int)] w fun e w' => ∃ v, e = .returned v ∧ w'.ownsRow w.heap.size 9 1 v (pieces s c).length ((pieces s c).map Value.string) ∧ Below w.heap.size w w' := by
  obtain ⟨i0, hi0, hz0, hz1, hz2⟩ := info9_parts
  have HN := hid (fun ps f k (h : cutSt c s ps f k) => cutSt_no h)
  have HY := hid (fun ps f k (h : cutSt c s ps f k) => cutSt_yes h)
  have HE := hid (fun ps f (h : cutSt c s ps f s.size) => cutSt_end h)
  have H0 := hid (show cutSt c s [] 0 0 from ⟨by simp, by simp⟩)
  generalize hps : pieces s c = pieces at *
  clear hps
  obtain ⟨cc, hcc⟩ : ∃ cc : Int, (c.toNat : Int) = cc := ⟨_, rfl⟩
  have HCC := hid hcc
  rw [hcc]
  clear hcc
  go_enter Tryd.func36, Tryd.ntmps36
  go_wp2
  go_loopw [5, 6, 7] (fun o f i wr => ∃ (k g : Nat) (ps : List ByteArray), k ≤ s.size ∧ g ≤ k ∧ ps.length ≤ k ∧ i = .int .i64 k ∧ f = .int .i64 g ∧ Hid (Below w.heap.size w wr) ∧ Hid (cutSt c s ps g k) ∧ Hid (wr.ownsRow w.heap.size 9 1 o ps.length (ps.map Value.string))) (fun _ _ i _ => s.size - (intOf i).toNat)
  case atStart => exact ⟨0, 0, [], Nat.zero_le _, Nat.le_refl _, Nat.le_refl _, rfl, rfl, hid (Below.refl _ _), H0, hid (World.ownsRow_nil _ _ _ _)⟩
  case round =>
    obtain ⟨k, g, ps, hk, hg, hpl, rfl, rfl, HB, HC, OW⟩ := hrel
    have hws : w.heap.size ≤ wr.heap.size := HB.out.size
    obtain ⟨np, hnp⟩ : ∃ np, np = ps.length := ⟨_, rfl⟩
    by_cases hlt : k < s.size
    · obtain ⟨d, hd⟩ : ∃ d : Int, ((s[k]'hlt).toNat : Int) = d := ⟨_, rfl⟩
      by_cases e1 : d = cc
      · have HC2 := hid (HY.out ps g k HC.out hg hlt (by
          have := HCC.out
          rw [← e1, ← hd] at this
          exact (UInt8.toNat_inj.1 (by omega)).symm))
        subst e1
        clear HN HY HE H0
        go_wp2_with (first
          | (at_builtin; refine wpList_append_own _ rfl _ _ 48 rfl w.heap.size 9 i0 (.string ByteArray.empty) 1 16 Tryd.underlying48 hi0 hz0 hz1 hz2 rfl (by decide) _ _ _ rfl (World.ownsRow.alloc OW.out _) ⟨wr.heap.size, 0, none⟩ 1 1 [.string (s.extract g k)] rfl rfl (cell_str_at _ _ _ _ rfl) (fun x hx => by simp at hx; subst hx; rfl) (by unfold maxLen at *; omega) (by omega) (by simp; omega) ?_; intro v' w3 hown' hgrow3 hnil3)
          | go_in)
        clear hnil3
        have B3 : Below w.heap.size w w3 := (HB.out.alloc HB.out.size _).grown hgrow3 (by simp; omega) (fun j hj => (OW.out.lt j hj).1)
        exact ⟨⟨k + 1, k + 1, ps ++ [s.extract g k], by omega, by omega, by simp; omega, by go_num, by go_num, hid B3, HC2, hid (by rw [List.map_append, List.length_append]; exact hown')⟩, by simp [intOf]; omega⟩
      · have HC2 := hid (HN.out ps g k HC.out hg hlt (fun e => e1 (by rw [← hd, ← HCC.out, e])))
        have e2 : (d == cc) = false := by simpa using e1
        clear HN HY HE H0 e1
        go_wp2_with fail
        exact ⟨⟨k + 1, g, ps, by omega, by omega, by omega, by go_num, rfl, HB, HC2, OW⟩, by simp [intOf]; omega⟩
    · obtain rfl : k = s.size := by omega
      have HF := hid (HE.out ps g HC.out hg)
      clear HN HY HE H0
      go_wp2_with (first
        | (at_builtin; refine wpList_append_own _ rfl _ _ 48 rfl w.heap.size 9 i0 (.string ByteArray.empty) 1 16 Tryd.underlying48 hi0 hz0 hz1 hz2 rfl (by decide) _ _ _ rfl (World.ownsRow.alloc OW.out _) ⟨wr.heap.size, 0, none⟩ 1 1 [.string (s.extract g s.size)] rfl rfl (cell_str_at _ _ _ _ rfl) (fun x hx => by simp at hx; subst hx; rfl) (by unfold maxLen at *; omega) (by omega) (by simp; omega) ?_; intro v' w3 hown' hgrow3 hnil3)
        | go_in)
      clear hnil3
      have B3 : Below w.heap.size w w3 := (HB.out.alloc HB.out.size _).grown hgrow3 (by simp; omega) (fun j hj => (OW.out.lt j hj).1)
      go_ret
      exact ⟨_, rfl, by rw [← HF.out, List.map_append, List.length_append]; exact hown', B3⟩
end Go.Proofs.YtodamoblnlcodaaDoor.L
