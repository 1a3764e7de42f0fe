import Derived.Test.YtdhjoimiejdgbabDoorMgE
import Derived.Test.YtdhjoimiejdgbabDoorRf9
namespace Go.Proofs.YtdhjoimiejdgbabDoor.L
open Go.RowKit Bs Go.Maps
set_option linter.unusedVariables false
/-- Pairs, to be read. -/
def ItemsP (w : World) (a : Option Addr) (ps : List Sn) : Prop := ∀ j (h : j < ps.length), ∃ b, a = some ⟨b, 0, none⟩ ∧ w.cell? ⟨b, j * 2, none⟩ = some (.int .i64 ((ps[j]).1 : Int)) ∧ w.cell? ⟨b, j * 2 + 1, none⟩ = some (.string (ps[j]).2)
theorem cellsP_at : ∀ (l : List Sn) (j : Nat) (h : j < l.length), (cellsP l)[j * 2]? = some (.int .i64 ((l[j]).1 : Int)) ∧ (cellsP l)[j * 2 + 1]? = some (.string (l[j]).2)
  | x :: l, 0, h => ⟨rfl, rfl⟩
  | x :: l, j + 1, h => by
    have := cellsP_at l j (by simpa using h)
    rw [show cellsP (x :: l) = .int .i64 (x.1 : Int) :: .string x.2 :: cellsP l from rfl, show (j + 1) * 2 = j * 2 + 1 + 1 by omega]
    simpa using this
theorem own_itemsP {w : World} {base : Nat} {v : Value} {ps : List Sn} (h : OwnP w base v ps) : ∃ a cap, v = .slice a ps.length cap ∧ ItemsP w a ps := by
  rcases own_form h with ⟨rfl, h0⟩ | ⟨g, cap, rfl, _, _, hlt⟩
  · exact ⟨none, 0, by rw [h0], fun j hj => by omega⟩
  · refine ⟨_, cap, rfl, fun j hj => ⟨g, rfl, ?_⟩⟩
    obtain ⟨a, b⟩ := cellsP_at ps j hj
    have A := h.cells (g := g) rfl _ _ a
    have B := h.cells (g := g) rfl _ _ b
    rw [Go.WideShapes.add_plain] at A B
    simp at A B
    exact ⟨A, B⟩
/-- Rows of the document, to be read: slot and name. -/
def ItemsE (w : World) (a : Option Addr) (d : List Dr) : Prop := ∀ j (h : j < d.length), ∃ b, a = some ⟨b, 0, none⟩ ∧ w.cell? ⟨b, j * 3, none⟩ = some (.int .i64 ((d[j]).1 : Int)) ∧ w.cell? ⟨b, j * 3 + 1, none⟩ = some (.string (d[j]).2.1)
theorem own_itemsE {w : World} {base : Nat} {v : Value} {d : List Dr} (h : w.ownsRow base 77 3 v d.length (cellsD d)) : ∃ a cap, v = .slice a d.length cap ∧ ItemsE w a d := by
  obtain ⟨a, cap, rfl, hi⟩ := own_itemsD (own_base h)
  refine ⟨a, cap, rfl, fun j hj => ?_⟩
  rcases hi with h0 | ⟨b, rfl, _, hc⟩
  · omega
  · obtain ⟨c0, c1, _⟩ := hc j hj
    rw [ds_at hj] at c0
    rw [dn_at hj] at c1
    exact ⟨b, rfl, c0, c1⟩
set_option maxHeartbeats 4000000 in
set_option maxRecDepth 100000 in
theorem rowsare_all (a1 a2 : Option Addr) (c1 c2 L1 L2 : Nat) (ps : List Sn) (d : List Dr) (n : Int) (w : World) (h1 : L1 = ps.length) (h2 : L2 = d.length) (hp : ps = (prD d).take n.toNat) (hl : L2 ≤ 65536) (i1 : ItemsP w a1 ps) (i2 : ItemsE w a2 d) :
    Calls Tryd.prog 32 #[.slice a1 L1 c1, .slice a2 L2 c2, .int .i64 n] w fun e w' => e = .returned (.bool true) ∧ ∃ n, w' = w.drewN n := by
  have hL : max 0 (min n (L2 : Int)) = (L1 : Int) := by
    rw [h1, hp, List.length_take, h2]
    unfold prD
    rw [List.length_map]
    omega
  have hL2 : L1 ≤ L2 := by omega
  have HC : Hid (∀ j, j < L1 → ∃ b1 b2 x s, a1 = some ⟨b1, 0, none⟩ ∧ a2 = some ⟨b2, 0, none⟩ ∧ w.cell? ⟨b1, j * 2, none⟩ = some (.int .i64 x) ∧ w.cell? ⟨b1, j * 2 + 1, none⟩ = some (.string s) ∧ w.cell? ⟨b2, j * 3, none⟩ = some (.int .i64 x) ∧ w.cell? ⟨b2, j * 3 + 1, none⟩ = some (.string s)) := hid (fun j hj => by
    obtain ⟨b1, e1, p1, p2⟩ := i1 j (by omega)
    obtain ⟨b2, e2, q1, q2⟩ := i2 j (by omega)
    have e : ps[j]'(by omega) = ((d[j]'(by omega)).1, (d[j]'(by omega)).2.1) := by
      subst hp
      rw [List.getElem_take]
      unfold prD
      rw [List.getElem_map]
    rw [e] at p1 p2
    exact ⟨b1, b2, _, _, e1, e2, p1, p2, q1, q2⟩)
  clear i1 i2 hp h1 h2
  generalize hQ : (fun (e : Ending) (w' : World) => e = .returned (.bool true) ∧ ∃ n, w' = w.drewN n) = Q
  have HQ := hid hQ
  clear hQ
  go_enter Tryd.func32, Tryd.ntmps32
  go_wp2_with fail
  have HL := hid hL
  clear hL
  go_loopw [18] (fun i wr => ∃ k : Nat, k ≤ L1 ∧ i = .int .i64 k ∧ Hid (∃ n, wr = w.drewN n)) (fun i _ => L1 - (intOf i).toNat)
  case atStart => exact ⟨0, Nat.zero_le _, rfl, hid ⟨0, rfl⟩⟩
  case round =>
    obtain ⟨k, hk, rfl, HW⟩ := hrel
    by_cases hlt : k < L1
    · obtain ⟨b1, b2, x, s, e1, e2, p1, p2, p3, p4⟩ := HC.out k hlt
      obtain ⟨nw, hnw⟩ := HW.out
      subst e1 e2
      have p1 : wr.cell? ⟨b1, k * 2, none⟩ = some (.int .i64 x) := by rw [hnw]; exact p1
      have p2 : wr.cell? ⟨b1, k * 2 + 1, none⟩ = some (.string s) := by rw [hnw]; exact p2
      have p3 : wr.cell? ⟨b2, k * 3, none⟩ = some (.int .i64 x) := by rw [hnw]; exact p3
      have p4 : wr.cell? ⟨b2, k * 3 + 1, none⟩ = some (.string s) := by rw [hnw]; exact p4
      have hk2 : k < L2 := by omega
      have HNW := hid hnw
      clear hnw HW HC
      go_wp2_with fail
      go_quiet (fail)
      go_wp2_with fail
      exact ⟨⟨k + 1, by omega, by go_num, hid ⟨nw + _, by rw [HNW.out, World.drewN_drewN]⟩⟩, by simp [intOf]; omega⟩
    · obtain rfl : k = L1 := by omega
      go_wp2_with fail
      rw [← HQ.out]
      exact ⟨rfl, HW.out⟩
theorem rowsare_any (a1 a2 : Option Addr) (c1 c2 L1 L2 : Nat) (ps : List Sn) (d : List Dr) (n : Int) (w : World) (h1 : L1 = ps.length) (h2 : L2 = d.length) (hp : ps = (prD d).take n.toNat) (hl : L2 ≤ 65536) (hn : n ≤ 66000) (i1 : ItemsP w a1 ps) (i2 : ItemsE w a2 d) :
    Calls Tryd.prog 32 #[.slice a1 L1 c1, .slice a2 L2 c2, .int .i64 n] w fun e w' => e = .returned (.bool true) ∧ ∃ n, w' = w.drewN n :=
  rowsare_all a1 a2 c1 c2 L1 L2 ps d n w h1 h2 hp hl i1 i2
end Go.Proofs.YtdhjoimiejdgbabDoor.L
namespace Go.Proofs.YtdhjoimiejdgbabDoor.L
open Go.RowKit Bs Go.Maps
set_option linter.unusedVariables false
/-- Two tables beside one another. -/
structure TT (w wr : World) (pa pb : Nat) (la lb : List Rw) (Fa Fb : List Nat) : Prop where
  a : Tb wr pa 600 la Fa
  b : Tb wr pb 600 lb Fb
  d : ∀ k ∈ Fa, k ∉ Fb
  fa : ∀ k ∈ Fa, w.heap.size ≤ k
  fb : ∀ k ∈ Fb, w.heap.size ≤ k
  bl : Below w.heap.size w wr
  ta : Tab w
theorem TT.tab {w wr : World} {pa pb : Nat} {la lb : List Rw} {Fa Fb : List Nat} (h : TT w wr pa pb la lb Fa Fb) : Tab wr := h.ta.low h.bl
theorem TT.low {w wr w2 : World} {pa pb : Nat} {la lb : List Rw} {Fa Fb : List Nat} (h : TT w wr pa pb la lb Fa Fb) (hb : Below wr.heap.size wr w2) : TT w w2 pa pb la lb Fa Fb := ⟨h.a.low hb, h.b.low hb, h.d, h.fa, h.fb, h.bl.trans (hb.mono h.bl.size), h.ta⟩
theorem below_drew (w : World) (n : Nat) : Below w.heap.size w (w.drewN n) := ⟨rfl, rfl, rfl, Nat.le_refl _, fun _ _ => rfl⟩
theorem TT.drewN {w wr : World} {pa pb : Nat} {la lb : List Rw} {Fa Fb : List Nat} (h : TT w wr pa pb la lb Fa Fb) (n : Nat) : TT w (wr.drewN n) pa pb la lb Fa Fb := h.low (below_drew wr n)
theorem TT.onA {w wr w2 : World} {pa pb : Nat} {la lb la2 : List Rw} {Fa Fb Fa2 : List Nat} (h : TT w wr pa pb la lb Fa Fb) (T : Tb w2 pa 600 la2 Fa2) (M : Mv Fa Fa2 wr w2) : TT w w2 pa pb la2 lb Fa2 Fb := by
  have lt := h.b.lt
  refine ⟨T, h.b.frame (fun k hk => M.1.block k (lt k hk) (fun c => h.d k c hk)), fun k hk c => ?_, M.above h.bl.size h.fa, h.fb, h.bl.trans (M.below h.bl.size h.fa), h.ta⟩
  rcases M.2 k hk with e | e
  · exact h.d k e c
  · have := lt k c; omega
theorem TT.onB {w wr w2 : World} {pa pb : Nat} {la lb lb2 : List Rw} {Fa Fb Fb2 : List Nat} (h : TT w wr pa pb la lb Fa Fb) (T : Tb w2 pb 600 lb2 Fb2) (M : Mv Fb Fb2 wr w2) : TT w w2 pa pb la lb2 Fa Fb2 := by
  have lt := h.a.lt
  refine ⟨h.a.frame (fun k hk => M.1.block k (lt k hk) (fun c => h.d k hk c)), T, fun k hk c => ?_, h.fa, M.above h.bl.size h.fb, h.bl.trans (M.below h.bl.size h.fb), h.ta⟩
  rcases M.2 k c with e | e
  · exact h.d k hk e
  · have := lt k hk; omega
/-- A row of texts, to be read. -/
def ItemsS (w : World) (a : Option Addr) (ss : List ByteArray) : Prop := ss.length = 0 ∨ ∃ b off, a = some ⟨b, off, none⟩ ∧ b < w.heap.size ∧ ∀ j, j < ss.length → w.cell? ⟨b, off + j, none⟩ = some (.string (nmS ss j))
theorem ItemsS.low {w w' : World} {a : Option Addr} {ss : List ByteArray} {B : Nat} (h : ItemsS w a ss) (hb : Below B w w') (hB : w.heap.size ≤ B) : ItemsS w' a ss := by
  rcases h with h | ⟨b, off, e, hl, h⟩
  · exact Or.inl h
  · refine Or.inr ⟨b, off, e, Nat.lt_of_lt_of_le hl hb.size, fun j hj => ?_⟩
    rw [hb.cell (p := ⟨b, off + j, none⟩) (Nat.lt_of_lt_of_le hl hB)]
    exact h j hj
theorem nmS_take (ss : List ByteArray) (n j : Nat) (h : j < n) : nmS (ss.take n) j = nmS ss j := by
  unfold nmS
  rw [List.getD_eq_getElem?_getD, List.getD_eq_getElem?_getD, List.getElem?_take, if_pos h]
theorem ItemsS.take {w : World} {a : Option Addr} {ss : List ByteArray} (h : ItemsS w a ss) (n : Nat) : ItemsS w a (ss.take n) := by
  rcases h with h | ⟨b, off, e, hl, h⟩
  · exact Or.inl (by rw [List.length_take]; omega)
  · refine Or.inr ⟨b, off, e, hl, fun j hj => ?_⟩
    rw [List.length_take] at hj
    rw [nmS_take ss n j (by omega)]
    exact h j (by omega)
theorem nmS_mem {ss : List ByteArray} {j : Nat} (h : j < ss.length) : nmS ss j ∈ ss := by
  unfold nmS
  rw [List.getD_eq_getElem?_getD, List.getElem?_eq_getElem h]
  exact List.getElem_mem h
theorem mem_nmS {ss : List ByteArray} {s : ByteArray} (h : s ∈ ss) : ∃ j, j < ss.length ∧ nmS ss j = s := by
  obtain ⟨j, hj, e⟩ := List.getElem_of_mem h
  refine ⟨j, hj, ?_⟩
  unfold nmS
  rw [List.getD_eq_getElem?_getD, List.getElem?_eq_getElem hj]
  exact e
theorem own_itemsS {w : World} {base : Nat} {ss : List ByteArray} {v : Value} (h : OwnS w base v ss) : ∃ a cap, v = .slice a ss.length cap ∧ ItemsS w a ss := by
  rcases own_form h with ⟨rfl, h0⟩ | ⟨g, cap, rfl, _, _, hlt⟩
  · exact ⟨none, 0, by rw [h0], Or.inl h0⟩
  · refine ⟨_, cap, rfl, Or.inr ⟨g, 0, rfl, hlt, fun j hj => ?_⟩⟩
    rw [Nat.zero_add]
    refine ownS_cell h ?_
    unfold nmS
    rw [List.getElem?_map, List.getD_eq_getElem?_getD, List.getElem?_eq_getElem hj]
    rfl
set_option maxHeartbeats 4000000 in
set_option maxRecDepth 100000 in
/-- textsAre of two rows that hold the same texts. -/
theorem texts_same (a1 a2 : Option Addr) (c1 c2 : Nat) (ss : List ByteArray) (w : World) (hl : ss.length ≤ 65536) (h1 : ItemsS w a1 ss) (h2 : ItemsS w a2 ss) : Calls Tryd.prog 11 #[.slice a1 ss.length c1, .slice a2 ss.length c2] w fun e w' => e = .returned (.bool true) ∧ ∃ n, w' = w.drewN n := by
  obtain ⟨N, hN⟩ : ∃ N, N = ss.length := ⟨_, rfl⟩
  have H1 := hid h1
  have H2 := hid h2
  rw [← hN] at hl ⊢
  have HN := hid hN
  clear h1 h2 hN
  generalize hQ : (fun (e : Ending) (w' : World) => e = .returned (.bool true) ∧ ∃ n, w' = w.drewN n) = Q
  have HQ := hid hQ
  clear hQ
  go_enter Tryd.func11, Tryd.ntmps11
  go_wp2_with fail
  go_loopw [13] (fun i wr => ∃ k : Nat, k ≤ N ∧ i = .int .i64 k ∧ Hid (∃ n, wr = w.drewN n)) (fun i _ => N - (intOf i).toNat)
  case atStart => exact ⟨0, Nat.zero_le _, rfl, hid ⟨0, rfl⟩⟩
  case round =>
    obtain ⟨k, hk, rfl, HW⟩ := hrel
    obtain ⟨nw, hnw⟩ := HW.out
    by_cases hlt : k < N
    · have hkl : k < ss.length := by rw [← HN.out]; exact hlt
      rcases H1.out with h0 | ⟨b1, o1, e1, l1, g1⟩
      · omega
      rcases H2.out with h0 | ⟨b2, o2, e2, l2, g2⟩
      · omega
      subst e1 e2
      have x1 : wr.cell? ⟨b1, o1 + k, none⟩ = some (.string (nmS ss k)) := by rw [hnw]; exact g1 k hkl
      have x2 : wr.cell? ⟨b2, o2 + k, none⟩ = some (.string (nmS ss k)) := by rw [hnw]; exact g2 k hkl
      have HNW := hid hnw
      clear g1 g2 hnw HW
      generalize nmS ss k = s at *
      go_wp2_with fail
      go_quiet (fail)
      go_wp2_with fail
      exact ⟨⟨k + 1, by omega, by go_num, hid ⟨nw + _, by rw [HNW.out, World.drewN_drewN]⟩⟩, by simp [intOf]; omega⟩
    · obtain rfl : k = N := by omega
      have HNW := hid hnw
      clear hnw
      go_wp2_with fail
      rw [← HQ.out]
      exact ⟨rfl, nw, HNW.out⟩
end Go.Proofs.YtdhjoimiejdgbabDoor.L
namespace Go.Proofs.YtdhjoimiejdgbabDoor.L
open Go.RowKit Bs Go.Maps
set_option linter.unusedVariables false
theorem belowD (w : World) (n : Nat) : Below w.heap.size w (w.drewN n) := ⟨rfl, rfl, rfl, Nat.le_refl _, fun _ _ => rfl⟩
/-- A table, or none: a nil one is read as one with no names. -/
def Tq (w : World) (pv : Value) (m : Nat) (l : List Rw) (F : List Nat) : Prop := (pv = .pointer none ∧ l = [] ∧ F = [] ∧ m = 0) ∨ ∃ p, pv = .pointer (some ⟨p, 0, none⟩) ∧ Tb w p m l F
theorem Tq.low {w w' : World} {pv : Value} {m : Nat} {l : List Rw} {F : List Nat} (h : Tq w pv m l F) (hb : Below w.heap.size w w') : Tq w' pv m l F := by
  rcases h with h | ⟨p, e, h⟩
  · exact Or.inl h
  · exact Or.inr ⟨p, e, h.low hb⟩
theorem Tq.frame {w w' : World} {pv : Value} {m : Nat} {l : List Rw} {F : List Nat} (h : Tq w pv m l F) (hk : ∀ k ∈ F, w'.heap[k]? = w.heap[k]?) : Tq w' pv m l F := by
  rcases h with h | ⟨p, e, h⟩
  · exact Or.inl h
  · exact Or.inr ⟨p, e, h.frame hk⟩
theorem Tq.ok {w : World} {pv : Value} {m : Nat} {l : List Rw} {F : List Nat} (h : Tq w pv m l F) : OkS m l := by
  rcases h with ⟨_, rfl, _, rfl⟩ | ⟨p, e, h⟩
  · exact OkS.nil (by decide)
  · exact h.ok
theorem Tq.lt {w : World} {pv : Value} {m : Nat} {l : List Rw} {F : List Nat} (h : Tq w pv m l F) : ∀ k ∈ F, k < w.heap.size := by
  rcases h with ⟨_, _, rfl, _⟩ | ⟨p, e, h⟩
  · intro k hk; cases hk
  · exact h.lt
theorem Tq.form {w : World} {pv : Value} {m : Nat} {l : List Rw} {F : List Nat} (h : Tq w pv m l F) : ∃ a, pv = .pointer a := by
  rcases h with ⟨e, _⟩ | ⟨p, e, _⟩
  · exact ⟨_, e⟩
  · exact ⟨_, e⟩
theorem Tq.len {w : World} {pv : Value} {m : Nat} {l : List Rw} {F : List Nat} (h : Tq w pv m l F) : Calls Tryd.prog 13 #[pv] w fun e w' => e = .returned (.int .i64 (cnt l : Int)) ∧ Below w.heap.size w w' := by
  rcases h with ⟨rfl, rfl, _⟩ | ⟨p, rfl, h⟩
  · exact (len_nil w).mono (fun e w' ⟨h1, h2⟩ => ⟨h1, by rw [h2]; exact Below.refl _ _⟩)
  · exact (len_any p m l F w h).mono (fun e w' ⟨h1, h2⟩ => ⟨h1, by rw [h2]; exact Below.refl _ _⟩)
theorem Tq.span {w : World} {pv : Value} {m : Nat} {l : List Rw} {F : List Nat} (h : Tq w pv m l F) : Calls Tryd.prog 26 #[pv] w fun e w' => e = .returned (.int .i64 (l.length : Int)) ∧ Below w.heap.size w w' := by
  rcases h with ⟨rfl, rfl, _⟩ | ⟨p, rfl, h⟩
  · exact (span_nil w).mono (fun e w' ⟨h1, h2⟩ => ⟨h1, by rw [h2]; exact Below.refl _ _⟩)
  · exact (span_any p m l F w h).mono (fun e w' ⟨h1, h2⟩ => ⟨h1, by rw [h2]; exact Below.refl _ _⟩)
theorem Tq.names {w : World} {pv : Value} {m : Nat} {l : List Rw} {F : List Nat} (h : Tq w pv m l F) : Calls Tryd.prog 12 #[pv] w fun e w' => ∃ v, e = .returned v ∧ OwnS w' w.heap.size v (srt (nmL l)) ∧ Below w.heap.size w w' := by
  rcases h with ⟨rfl, rfl, _⟩ | ⟨p, rfl, h⟩
  · have e : srt (nmL []) = [] := by simp [srt, srtL, lsB, bsL, nmL, bs, tk, tkK]
    rw [e]
    exact names_nil w
  · exact names_any p m l F w h
theorem Tq.all {w : World} {pv : Value} {m : Nat} {l : List Rw} {F : List Nat} (h : Tq w pv m l F) : Calls Tryd.prog 24 #[pv] w fun e w' => ∃ X v, e = .returned (allF X) ∧ w.heap.size ≤ X ∧ w'.heap[X]? = some (.cells #[v] 22 (0, 0)) ∧ OwnS w' w.heap.size v (bs l) ∧ Below w.heap.size w w' := by
  rcases h with ⟨rfl, rfl, _⟩ | ⟨p, rfl, h⟩
  · exact all_nil w
  · exact all_any p m l F w h
theorem Tq.findNo {w : World} {pv : Value} {m : Nat} {l : List Rw} {F : List Nat} (h : Tq w pv m l F) (s : ByteArray) (hs : s.size ≤ maxLen) (hn : NoN l s) : Calls Tryd.prog 9 #[pv, .string s] w fun e w' => e = .returned (.tuple #[.int .i64 0, .int .i64 0, .bool false]) ∧ Below w.heap.size w w' := by
  rcases h with ⟨rfl, rfl, _⟩ | ⟨p, rfl, h⟩
  · exact (find_nil s w).mono (fun e w' ⟨h1, h2⟩ => ⟨h1, by rw [h2]; exact Below.refl _ _⟩)
  · exact (find_no p m l F s w h hs hn).mono (fun e w' ⟨h1, h2⟩ => ⟨h1, by rw [h2]; exact Below.refl _ _⟩)
theorem Tq.findYes {w : World} {pv : Value} {m : Nat} {l : List Rw} {F : List Nat} (h : Tq w pv m l F) {i : Nat} (s : ByteArray) (hi : isT l i = true) (hs : nm l i = s) : Calls Tryd.prog 9 #[pv, .string s] w fun e w' => e = .returned (.tuple #[.int .i64 (i : Int), .int .i64 (vlu l i), .bool true]) ∧ Below w.heap.size w w' := by
  rcases h with ⟨rfl, rfl, _⟩ | ⟨p, rfl, h⟩
  · simp [isT, nm] at hi
  · exact (find_yes p m i l F s w h hi hs).mono (fun e w' ⟨h1, n, h2⟩ => ⟨h1, by rw [h2]; exact belowD _ _⟩)
theorem Tq.atNo {w : World} {pv : Value} {m : Nat} {l : List Rw} {F : List Nat} (h : Tq w pv m l F) (i : Int) (hi : NoS l i) : Calls Tryd.prog 14 #[pv, .int .i64 i] w fun e w' => e = .returned (.tuple #[.string ByteArray.empty, .int .i64 0, .bool false]) ∧ Below w.heap.size w w' := by
  rcases h with ⟨rfl, rfl, _⟩ | ⟨p, rfl, h⟩
  · exact (at_nil i w).mono (fun e w' ⟨h1, h2⟩ => ⟨h1, by rw [h2]; exact Below.refl _ _⟩)
  · exact (at_no p m l F i w h hi).mono (fun e w' ⟨h1, h2⟩ => ⟨h1, by rw [h2]; exact Below.refl _ _⟩)
theorem Tq.atYes {w : World} {pv : Value} {m : Nat} {l : List Rw} {F : List Nat} (h : Tq w pv m l F) (j : Nat) (hj : isT l j = true) : Calls Tryd.prog 14 #[pv, .int .i64 (j : Int)] w fun e w' => e = .returned (.tuple #[.string (nm l j), .int .i64 (vlu l j), .bool true]) ∧ Below w.heap.size w w' := by
  rcases h with ⟨rfl, rfl, _⟩ | ⟨p, rfl, h⟩
  · simp [isT, nm] at hj
  · exact (at_yes p m j l F w h hj).mono (fun e w' ⟨h1, n, h2⟩ => ⟨h1, by rw [h2]; exact belowD _ _⟩)
theorem Tq.taken {w : World} {pv : Value} {m : Nat} {l : List Rw} {F : List Nat} (h : Tq w pv m l F) (n : Int) (hn : n ≤ 66000) : Calls Tryd.prog 33 #[pv, .int .i64 n] w fun e w' => ∃ v, e = .returned v ∧ OwnP w' w.heap.size v ((tk (bs l)).take n.toNat) ∧ Below w.heap.size w w' := by
  by_cases h0 : n ≤ 0
  · rw [show n.toNat = 0 by omega, List.take_zero]
    exact taken_zero pv n w h0
  · obtain ⟨k, rfl⟩ : ∃ k : Nat, n = k := ⟨n.toNat, by omega⟩
    rw [Int.toNat_natCast]
    refine taken_core pv (bs l) k w (by omega) (by omega) ?_ (hid (fun W hb => (h.low hb).all))
    rw [bs_len]
    exact Nat.le_trans h.ok.le h.ok.mm
/-- The document's rows by slot are the walk's pairs. -/
theorem Rel.bys {l : List Rw} {d : List Dr} (h : Rel l d) : ∀ k, prD (bsD d k) = tkK (bs l) k
  | 0 => rfl
  | k + 1 => by
    rw [bsD, tkK, ← Rel.bys h k, nmS_bs]
    unfold prD
    rw [List.map_append]
    congr 1
    rcases h.at_ (k : Int) with ⟨hn, e⟩ | ⟨j, e, hj, hs, ht, hm, _⟩
    · have := isT_no.1 (hn k rfl)
      rw [if_pos e, if_pos (by rw [this]; rfl)]
      rfl
    · have hk : ds d j = k := by omega
      rw [hk] at ht hm
      rw [if_neg (by omega), e, Int.toNat_natCast, if_neg (isT_iff.1 ht), hk, ← hm]
      rfl
theorem Rel.bys_all {l : List Rw} {d : List Dr} (h : Rel l d) (ht : tl l = l.length) : prD (bsD d (spanD d)) = tk (bs l) := by
  rw [h.span ht, h.bys]
  unfold tk
  rw [bs_len]
end Go.Proofs.YtdhjoimiejdgbabDoor.L
