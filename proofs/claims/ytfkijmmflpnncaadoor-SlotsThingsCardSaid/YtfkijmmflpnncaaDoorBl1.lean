import Derived.Test.YtfkijmmflpnncaaDoorVw
namespace Go.Proofs.YtfkijmmflpnncaaDoor.L
open Go.RowKit Bs Go.Maps
set_option linter.unusedVariables false
/-- Two tables beside one another. -/
structure TT (w wr : World) (pa pb : Nat) (la lb : List Rw) (Fa Fb : List Nat) : Prop where
  a : Tb wr pa 600 la Fa
  b : Tb wr pb 600 lb Fb
  d : ∀ k ∈ Fa, k ∉ Fb
  fa : ∀ k ∈ Fa, w.heap.size ≤ k
  fb : ∀ k ∈ Fb, w.heap.size ≤ k
  bl : Below w.heap.size w wr
  ta : Tab w
theorem TT.tab {w wr : World} {pa pb : Nat} {la lb : List Rw} {Fa Fb : List Nat} (h : TT w wr pa pb la lb Fa Fb) : Tab wr := h.ta.low h.bl
theorem TT.low {w wr w2 : World} {pa pb : Nat} {la lb : List Rw} {Fa Fb : List Nat} (h : TT w wr pa pb la lb Fa Fb) (hb : Below wr.heap.size wr w2) : TT w w2 pa pb la lb Fa Fb := ⟨h.a.low hb, h.b.low hb, h.d, h.fa, h.fb, h.bl.trans (hb.mono h.bl.size), h.ta⟩
theorem below_drew (w : World) (n : Nat) : Below w.heap.size w (w.drewN n) := ⟨rfl, rfl, rfl, Nat.le_refl _, fun _ _ => rfl⟩
theorem TT.drewN {w wr : World} {pa pb : Nat} {la lb : List Rw} {Fa Fb : List Nat} (h : TT w wr pa pb la lb Fa Fb) (n : Nat) : TT w (wr.drewN n) pa pb la lb Fa Fb := h.low (below_drew wr n)
theorem TT.onA {w wr w2 : World} {pa pb : Nat} {la lb la2 : List Rw} {Fa Fb Fa2 : List Nat} (h : TT w wr pa pb la lb Fa Fb) (T : Tb w2 pa 600 la2 Fa2) (M : Mv Fa Fa2 wr w2) : TT w w2 pa pb la2 lb Fa2 Fb := by
  have lt := h.b.lt
  refine ⟨T, h.b.frame (fun k hk => M.1.block k (lt k hk) (fun c => h.d k c hk)), fun k hk c => ?_, M.above h.bl.size h.fa, h.fb, h.bl.trans (M.below h.bl.size h.fa), h.ta⟩
  rcases M.2 k hk with e | e
  · exact h.d k e c
  · have := lt k c; omega
theorem TT.onB {w wr w2 : World} {pa pb : Nat} {la lb lb2 : List Rw} {Fa Fb Fb2 : List Nat} (h : TT w wr pa pb la lb Fa Fb) (T : Tb w2 pb 600 lb2 Fb2) (M : Mv Fb Fb2 wr w2) : TT w w2 pa pb la lb2 Fa Fb2 := by
  have lt := h.a.lt
  refine ⟨h.a.frame (fun k hk => M.1.block k (lt k hk) (fun c => h.d k hk c)), T, fun k hk c => ?_, h.fa, M.above h.bl.size h.fb, h.bl.trans (M.below h.bl.size h.fb), h.ta⟩
  rcases M.2 k c with e | e
  · exact h.d k hk e
  · have := lt k hk; omega
/-- A row of texts, to be read. -/
def ItemsS (w : World) (a : Option Addr) (ss : List ByteArray) : Prop := ss.length = 0 ∨ ∃ b off, a = some ⟨b, off, none⟩ ∧ b < w.heap.size ∧ ∀ j, j < ss.length → w.cell? ⟨b, off + j, none⟩ = some (.string (nmS ss j))
theorem ItemsS.low {w w' : World} {a : Option Addr} {ss : List ByteArray} {B : Nat} (h : ItemsS w a ss) (hb : Below B w w') (hB : w.heap.size ≤ B) : ItemsS w' a ss := by
  rcases h with h | ⟨b, off, e, hl, h⟩
  · exact Or.inl h
  · refine Or.inr ⟨b, off, e, Nat.lt_of_lt_of_le hl hb.size, fun j hj => ?_⟩
    rw [hb.cell (p := ⟨b, off + j, none⟩) (Nat.lt_of_lt_of_le hl hB)]
    exact h j hj
theorem nmS_take (ss : List ByteArray) (n j : Nat) (h : j < n) : nmS (ss.take n) j = nmS ss j := by
  unfold nmS
  rw [List.getD_eq_getElem?_getD, List.getD_eq_getElem?_getD, List.getElem?_take, if_pos h]
theorem ItemsS.take {w : World} {a : Option Addr} {ss : List ByteArray} (h : ItemsS w a ss) (n : Nat) : ItemsS w a (ss.take n) := by
  rcases h with h | ⟨b, off, e, hl, h⟩
  · exact Or.inl (by rw [List.length_take]; omega)
  · refine Or.inr ⟨b, off, e, hl, fun j hj => ?_⟩
    rw [List.length_take] at hj
    rw [nmS_take ss n j (by omega)]
    exact h j (by omega)
theorem nmS_mem {ss : List ByteArray} {j : Nat} (h : j < ss.length) : nmS ss j ∈ ss := by
  unfold nmS
  rw [List.getD_eq_getElem?_getD, List.getElem?_eq_getElem h]
  exact List.getElem_mem h
theorem mem_nmS {ss : List ByteArray} {s : ByteArray} (h : s ∈ ss) : ∃ j, j < ss.length ∧ nmS ss j = s := by
  obtain ⟨j, hj, e⟩ := List.getElem_of_mem h
  refine ⟨j, hj, ?_⟩
  unfold nmS
  rw [List.getD_eq_getElem?_getD, List.getElem?_eq_getElem hj]
  exact e
theorem own_itemsS {w : World} {base : Nat} {ss : List ByteArray} {v : Value} (h : OwnS w base v ss) : ∃ a cap, v = .slice a ss.length cap ∧ ItemsS w a ss := by
  rcases own_form h with ⟨rfl, h0⟩ | ⟨g, cap, rfl, _, _, hlt⟩
  · exact ⟨none, 0, by rw [h0], Or.inl h0⟩
  · refine ⟨_, cap, rfl, Or.inr ⟨g, 0, rfl, hlt, fun j hj => ?_⟩⟩
    rw [Nat.zero_add]
    refine ownS_cell h ?_
    unfold nmS
    rw [List.getElem?_map, List.getD_eq_getElem?_getD, List.getElem?_eq_getElem hj]
    rfl
set_option maxHeartbeats 4000000 in
set_option maxRecDepth 100000 in
/-- textsAre of two rows that hold the same texts. -/
theorem texts_same (a1 a2 : Option Addr) (c1 c2 : Nat) (ss : List ByteArray) (w : World) (hl : ss.length ≤ 65536) (h1 : ItemsS w a1 ss) (h2 : ItemsS w a2 ss) : Calls Tryd.prog 22 #[.slice a1 ss.length c1, .slice a2 ss.length c2] w fun e w' => e = .returned (.bool true) ∧ ∃ n, w' = w.drewN n := by
  obtain ⟨N, hN⟩ : ∃ N, N = ss.length := ⟨_, rfl⟩
  have H1 := hid h1
  have H2 := hid h2
  rw [← hN] at hl ⊢
  have HN := hid hN
  clear h1 h2 hN
  generalize hQ : (fun (e : Ending) (w' : World) => e = .returned (.bool true) ∧ ∃ n, w' = w.drewN n) = Q
  have HQ := hid hQ
  clear hQ
  go_enter Tryd.func22, Tryd.ntmps22
  go_wp2_with fail
  go_loopw [13] (fun i wr => ∃ k : Nat, k ≤ N ∧ i = .int .i64 k ∧ Hid (∃ n, wr = w.drewN n)) (fun i _ => N - (intOf i).toNat)
  case atStart => exact ⟨0, Nat.zero_le _, rfl, hid ⟨0, rfl⟩⟩
  case round =>
    obtain ⟨k, hk, rfl, HW⟩ := hrel
    obtain ⟨nw, hnw⟩ := HW.out
    by_cases hlt : k < N
    · have hkl : k < ss.length := by rw [← HN.out]; exact hlt
      rcases H1.out with h0 | ⟨b1, o1, e1, l1, g1⟩
      · omega
      rcases H2.out with h0 | ⟨b2, o2, e2, l2, g2⟩
      · omega
      subst e1 e2
      have x1 : wr.cell? ⟨b1, o1 + k, none⟩ = some (.string (nmS ss k)) := by rw [hnw]; exact g1 k hkl
      have x2 : wr.cell? ⟨b2, o2 + k, none⟩ = some (.string (nmS ss k)) := by rw [hnw]; exact g2 k hkl
      have HNW := hid hnw
      clear g1 g2 hnw HW
      generalize nmS ss k = s at *
      go_wp2_with fail
      go_quiet (fail)
      go_wp2_with fail
      exact ⟨⟨k + 1, by omega, by go_num, hid ⟨nw + _, by rw [HNW.out, World.drewN_drewN]⟩⟩, by simp [intOf]; omega⟩
    · obtain rfl : k = N := by omega
      have HNW := hid hnw
      clear hnw
      go_wp2_with fail
      rw [← HQ.out]
      exact ⟨rfl, nw, HNW.out⟩
end Go.Proofs.YtfkijmmflpnncaaDoor.L
