import Derived.Test.YtppblibcbjpfnaaDoorTck
namespace Go.Proofs.YtppblibcbjpfnaaDoor.L
open Go.RowKit
set_option linter.unusedVariables false
def evB (o : To) : Bool := emB o.1 && eqS o.2.1 sEx
/-- Does it tolerate it? -/
def mt (o : To) (t : Tn) : Bool :=
  (emB o.2.2.2 || eqS o.2.2.2 t.2.2) && (if eqS o.2.1 sEx = true then evB o || eqS o.1 t.1 else eqS o.2.1 sEq && eqS o.1 t.1 && eqS o.2.2.1 t.2.1)
set_option maxHeartbeats 4000000 in
theorem every_any (o : To) (w : World) : Calls Tryd.prog 39 #[ov o] w fun e w' => e = .returned (.bool (evB o)) ∧ Below w.heap.size w w' := by
  obtain ⟨k, p, v, f⟩ := o
  simp only [ov, evB, emB, eqS]
  rw [lEx]
  cases e1 : k.toList.isEmpty
  · go_enter Tryd.func39, Tryd.ntmps39
    go_wp2
    go_ret
    exact ⟨rfl, belowA _ _⟩
  · cases e2 : (p.toList == [69, 120, 105, 115, 116, 115]) <;>
    · go_enter Tryd.func39, Tryd.ntmps39
      go_wp2
      go_ret
      exact ⟨rfl, belowA _ _⟩
set_option maxHeartbeats 4000000 in
theorem match_eff (o : To) (t : Tn) (w : World) (h1 : emB o.2.2.2 = false) (h2 : eqS o.2.2.2 t.2.2 = false) : Calls Tryd.prog 25 #[ov o, tv t] w fun e w' => e = .returned (.bool false) ∧ Below w.heap.size w w' := by
  obtain ⟨k, p, v, f⟩ := o
  obtain ⟨a, b, c⟩ := t
  simp only [ov, tv] at *
  have g1 : f.toList.isEmpty = false := h1
  have g2 : (f.toList == c.toList) = false := h2
  clear h1 h2
  go_enter Tryd.func25, Tryd.ntmps25
  go_wp2
  go_ret
  exact ⟨rfl, (belowA _ _).alloc (belowA _ _).size _⟩
/-- A toleration and a taint, one behind the other. -/
structure MB (W : World) (b : Nat) (k p v f a c e : Value) : Prop where
  c0 : W.cell? ⟨b, 0, none⟩ = some k
  c1 : W.cell? ⟨b, 1, none⟩ = some p
  c2 : W.cell? ⟨b, 2, none⟩ = some v
  c3 : W.cell? ⟨b, 3, none⟩ = some f
  d0 : W.cell? ⟨b + 1, 0, none⟩ = some a
  d1 : W.cell? ⟨b + 1, 1, none⟩ = some c
  d2 : W.cell? ⟨b + 1, 2, none⟩ = some e
theorem mb_new (w : World) (k p v f a c e : Value) (t t' : TypeId) : MB ((w.alloc (.cells #[k, p, v, f] t)).alloc (.cells #[a, c, e] t')) w.heap.size k p v f a c e := by
  have h1 : ((w.alloc (.cells #[k, p, v, f] t)).alloc (.cells #[a, c, e] t')).heap[w.heap.size + 1]? = some (.cells #[a, c, e] t') := by
    show ((w.heap.push _).push _)[w.heap.size + 1]? = _
    rw [Array.getElem?_push, if_pos (by simp)]
  have h2 : ((w.alloc (.cells #[k, p, v, f] t)).alloc (.cells #[a, c, e] t')).heap[w.heap.size]? = some (.cells #[k, p, v, f] t) := by
    show ((w.heap.push _).push _)[w.heap.size]? = _
    rw [Array.getElem?_push, if_neg (by simp)]
    simp
  refine ⟨?_, ?_, ?_, ?_, ?_, ?_, ?_⟩
  · unfold World.cell?; rw [h2]; rfl
  · unfold World.cell?; rw [h2]; rfl
  · unfold World.cell?; rw [h2]; rfl
  · unfold World.cell?; rw [h2]; rfl
  · unfold World.cell?; rw [h1]; rfl
  · unfold World.cell?; rw [h1]; rfl
  · unfold World.cell?; rw [h1]; rfl
theorem MB.low {W W' : World} {b : Nat} {k p v f a c e : Value} (h : MB W b k p v f a c e) (hb : Below W.heap.size W W') (hz : b + 1 < W.heap.size) : MB W' b k p v f a c e := by
  have hz' : b < W.heap.size := Nat.lt_of_succ_lt hz
  obtain ⟨a0, a1, a2, a3, a4, a5, a6⟩ := h
  refine ⟨?_, ?_, ?_, ?_, ?_, ?_, ?_⟩
  · exact (hb.cell (p := ⟨b, 0, none⟩) hz').trans a0
  · exact (hb.cell (p := ⟨b, 1, none⟩) hz').trans a1
  · exact (hb.cell (p := ⟨b, 2, none⟩) hz').trans a2
  · exact (hb.cell (p := ⟨b, 3, none⟩) hz').trans a3
  · exact (hb.cell (p := ⟨b + 1, 0, none⟩) hz).trans a4
  · exact (hb.cell (p := ⟨b + 1, 1, none⟩) hz).trans a5
  · exact (hb.cell (p := ⟨b + 1, 2, none⟩) hz).trans a6
theorem below2 (w : World) (x y : Obj) : Below w.heap.size w ((w.alloc x).alloc y) := (belowA _ _).alloc (belowA _ _).size _
set_option maxHeartbeats 4000000 in
theorem match_ex (o : To) (t : Tn) (w : World) (h1 : emB o.2.2.2 = true ∨ (emB o.2.2.2 = false ∧ eqS o.2.2.2 t.2.2 = true)) (h2 : eqS o.2.1 sEx = true) : Calls Tryd.prog 25 #[ov o, tv t] w fun e w' => e = .returned (.bool (evB o || eqS o.1 t.1)) ∧ Below w.heap.size w w' := by
  have HE := hid (fun W => every_any o W)
  generalize evB o = r at *
  obtain ⟨k, p, v, f⟩ := o
  obtain ⟨a, b, c⟩ := t
  simp only [ov, tv] at *
  unfold eqS at h2
  rw [lEx] at h2
  rcases h1 with h1 | ⟨h1, h3⟩
  · have g1 : f.toList.isEmpty = true := h1
    clear h1
    cases r
    · unfold eqS
      cases e3 : (k.toList == a.toList) <;>
      · go_enter Tryd.func25, Tryd.ntmps25
        go_wp2_with fail
        refine (HE.out _).mono ?_
        rintro e w1 ⟨rfl, hb⟩
        obtain ⟨c0, c1, c2, c3, d0, d1, d2⟩ := (mb_new w (.string k) (.string p) (.string v) (.string f) (.string a) (.string b) (.string c) 25 23).low hb (by simp)
        have HB := hid ((below2 w (.cells #[.string k, .string p, .string v, .string f] 25) (.cells #[.string a, .string b, .string c] 23)).trans (hb.mono (below2 _ _ _).size))
        clear hb
        go_wp2_with fail
        go_ret
        exact ⟨rfl, HB.out⟩
    · go_enter Tryd.func25, Tryd.ntmps25
      go_wp2_with fail
      refine (HE.out _).mono ?_
      rintro e w1 ⟨rfl, hb⟩
      obtain ⟨c0, c1, c2, c3, d0, d1, d2⟩ := (mb_new w (.string k) (.string p) (.string v) (.string f) (.string a) (.string b) (.string c) 25 23).low hb (by simp)
      have HB := hid ((below2 w (.cells #[.string k, .string p, .string v, .string f] 25) (.cells #[.string a, .string b, .string c] 23)).trans (hb.mono (below2 _ _ _).size))
      clear hb
      go_wp2_with fail
      go_ret
      exact ⟨rfl, HB.out⟩
  · have g1 : f.toList.isEmpty = false := h1
    have g3 : (f.toList == c.toList) = true := h3
    clear h3
    clear h1
    cases r
    · unfold eqS
      cases e3 : (k.toList == a.toList) <;>
      · go_enter Tryd.func25, Tryd.ntmps25
        go_wp2_with fail
        refine (HE.out _).mono ?_
        rintro e w1 ⟨rfl, hb⟩
        obtain ⟨c0, c1, c2, c3, d0, d1, d2⟩ := (mb_new w (.string k) (.string p) (.string v) (.string f) (.string a) (.string b) (.string c) 25 23).low hb (by simp)
        have HB := hid ((below2 w (.cells #[.string k, .string p, .string v, .string f] 25) (.cells #[.string a, .string b, .string c] 23)).trans (hb.mono (below2 _ _ _).size))
        clear hb
        go_wp2_with fail
        go_ret
        exact ⟨rfl, HB.out⟩
    · go_enter Tryd.func25, Tryd.ntmps25
      go_wp2_with fail
      refine (HE.out _).mono ?_
      rintro e w1 ⟨rfl, hb⟩
      obtain ⟨c0, c1, c2, c3, d0, d1, d2⟩ := (mb_new w (.string k) (.string p) (.string v) (.string f) (.string a) (.string b) (.string c) 25 23).low hb (by simp)
      have HB := hid ((below2 w (.cells #[.string k, .string p, .string v, .string f] 25) (.cells #[.string a, .string b, .string c] 23)).trans (hb.mono (below2 _ _ _).size))
      clear hb
      go_wp2_with fail
      go_ret
      exact ⟨rfl, HB.out⟩
set_option maxHeartbeats 4000000 in
theorem match_eq (o : To) (t : Tn) (w : World) (h1 : emB o.2.2.2 = true ∨ (emB o.2.2.2 = false ∧ eqS o.2.2.2 t.2.2 = true)) (h2 : eqS o.2.1 sEx = false) : Calls Tryd.prog 25 #[ov o, tv t] w fun e w' => e = .returned (.bool (eqS o.2.1 sEq && eqS o.1 t.1 && eqS o.2.2.1 t.2.1)) ∧ Below w.heap.size w w' := by
  obtain ⟨k, p, v, f⟩ := o
  obtain ⟨a, b, c⟩ := t
  simp only [ov, tv] at *
  unfold eqS at h2 ⊢
  rw [lEx] at h2
  rw [lEq]
  rcases h1 with h1 | ⟨h1, h3⟩
  · have g1 : f.toList.isEmpty = true := h1
    clear h1
    cases e4 : (p.toList == [69, 113, 117, 97, 108])
    · go_enter Tryd.func25, Tryd.ntmps25
      go_wp2
      go_ret
      exact ⟨rfl, below2 _ _ _⟩
    · cases e5 : (k.toList == a.toList)
      · go_enter Tryd.func25, Tryd.ntmps25
        go_wp2
        go_ret
        exact ⟨rfl, below2 _ _ _⟩
      · cases e6 : (v.toList == b.toList) <;>
        · go_enter Tryd.func25, Tryd.ntmps25
          go_wp2
          go_ret
          exact ⟨rfl, below2 _ _ _⟩
  · have g1 : f.toList.isEmpty = false := h1
    have g3 : (f.toList == c.toList) = true := h3
    clear h3
    clear h1
    cases e4 : (p.toList == [69, 113, 117, 97, 108])
    · go_enter Tryd.func25, Tryd.ntmps25
      go_wp2
      go_ret
      exact ⟨rfl, below2 _ _ _⟩
    · cases e5 : (k.toList == a.toList)
      · go_enter Tryd.func25, Tryd.ntmps25
        go_wp2
        go_ret
        exact ⟨rfl, below2 _ _ _⟩
      · cases e6 : (v.toList == b.toList) <;>
        · go_enter Tryd.func25, Tryd.ntmps25
          go_wp2
          go_ret
          exact ⟨rfl, below2 _ _ _⟩
theorem match_any (o : To) (t : Tn) (w : World) : Calls Tryd.prog 25 #[ov o, tv t] w fun e w' => e = .returned (.bool (mt o t)) ∧ Below w.heap.size w w' := by
  unfold mt
  cases h1 : emB o.2.2.2
  · cases h3 : eqS o.2.2.2 t.2.2
    · exact match_eff o t w h1 h3
    · cases h2 : eqS o.2.1 sEx
      · exact match_eq o t w (Or.inr ⟨h1, h3⟩) h2
      · exact match_ex o t w (Or.inr ⟨h1, h3⟩) h2
  · cases h2 : eqS o.2.1 sEx
    · exact match_eq o t w (Or.inl h1) h2
    · exact match_ex o t w (Or.inl h1) h2
end Go.Proofs.YtppblibcbjpfnaaDoor.L
