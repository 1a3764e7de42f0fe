import Derived.Test.YtcldglilhhhdoaaGreatDoorMgAG
import Derived.Test.YtcldglilhhhdoaaGreatDoorXF
namespace Go.Proofs.YtcldglilhhhdoaaGreatDoor.L
open Go.RowKit Go.Shelf
set_option linter.unusedVariables false
/-- A list of parts that can be read, whose empty lists of kids have no room. -/
def PLs (w : World) (a : Option Addr) (T : List Pt) : Prop := T.length = 0 ∨ ∃ b off, a = some ⟨b, off, none⟩ ∧ b < w.heap.size ∧ ∀ j, j < T.length → ∃ ka kc,
  w.cell? ⟨b, off + j * 4, none⟩ = some (.int .i64 (pt T j).kind) ∧ w.cell? ⟨b, off + j * 4 + 1, none⟩ = some (.string (pt T j).text) ∧ w.cell? ⟨b, off + j * 4 + 2, none⟩ = some (.int .i64 (pt T j).num) ∧
  w.cell? ⟨b, off + j * 4 + 3, none⟩ = some (.slice ka (pt T j).kids.length kc) ∧ RdI w ka (pt T j).kids ∧ (ka = none → kc = 0)
theorem PLs.pl {w : World} {a : Option Addr} {T : List Pt} (h : PLs w a T) : PL w a T := by
  rcases h with h | ⟨b, off, rfl, h2, h3⟩
  · exact Or.inl h
  · refine Or.inr ⟨b, off, rfl, h2, fun j hj => ?_⟩
    obtain ⟨ka, kc, a0, a1, a2, a3, a4, _⟩ := h3 j hj
    exact ⟨ka, kc, a0, a1, a2, a3, a4⟩
theorem PLs.low {w w' : World} {a : Option Addr} {T : List Pt} (h : PLs w a T) (k : Below w.heap.size w w') : PLs w' a T := by
  rcases h with h | ⟨b, off, rfl, h2, h3⟩
  · exact Or.inl h
  · refine Or.inr ⟨b, off, rfl, Nat.lt_of_lt_of_le h2 k.size, fun j hj => ?_⟩
    obtain ⟨ka, kc, a0, a1, a2, a3, a4, a5⟩ := h3 j hj
    exact ⟨ka, kc, (k.cell (p := ⟨b, _, none⟩) h2).trans a0, (k.cell (p := ⟨b, _, none⟩) h2).trans a1, (k.cell (p := ⟨b, _, none⟩) h2).trans a2, (k.cell (p := ⟨b, _, none⟩) h2).trans a3, a4.low k (Nat.le_refl _), a5⟩
/-- The cells of the first k parts, with the lists ks. -/
def CP (T : List Pt) (ks : Nat → Value) : Nat → List Value
  | 0 => []
  | k + 1 => CP T ks k ++ [.int .i64 (pt T k).kind, .string (pt T k).text, .int .i64 (pt T k).num, ks k]
theorem CP_len (T : List Pt) (ks : Nat → Value) : ∀ k, (CP T ks k).length = k * 4
  | 0 => rfl
  | k + 1 => by
    simp only [CP, List.length_append, CP_len T ks k, List.length_cons, List.length_nil]
    omega
theorem CP_congr (T : List Pt) {ks ks' : Nat → Value} : ∀ {k : Nat}, (∀ j, j < k → ks j = ks' j) → CP T ks k = CP T ks' k
  | 0, _ => rfl
  | k + 1, h => by
    simp only [CP]
    rw [CP_congr T (k := k) (fun j hj => h j (by omega)), h k (by omega)]
theorem CP_get (T : List Pt) (ks : Nat → Value) (j r : Nat) (hr : r < 4) : ∀ {k : Nat}, j < k → (CP T ks k)[j * 4 + r]? = [.int .i64 (pt T j).kind, .string (pt T j).text, .int .i64 (pt T j).num, ks j][r]?
  | k + 1, h => by
    simp only [CP]
    by_cases e : j < k
    · rw [List.getElem?_append_left (by rw [CP_len]; omega)]
      exact CP_get T ks j r hr e
    · have : j = k := by omega
      subst this
      rw [List.getElem?_append_right (by rw [CP_len]; omega), CP_len]
      congr 1
      omega
/-- A tree of one's own: a row of parts, each with a row of kids. -/
structure OwnP (W : World) (base : Nat) (v : Value) (T : List Pt) (ks : Nat → Value) (k : Nat) : Prop where
  row : W.ownsRow base 46 4 v k (CP T ks k)
  kids : ∀ j, j < k → OwnI W base (ks j) (pt T j).kids
theorem OwnP.pl {W : World} {base : Nat} {v : Value} {T : List Pt} {ks : Nat → Value} (h : OwnP W base v T ks T.length) : ∃ a cap, v = .slice a T.length cap ∧ PLs W a T := by
  rcases h.row.2 with ⟨rfl, n0⟩ | ⟨g, cap, cur, rfl, hb, hg, h3, h4, h5, h6⟩
  · exact ⟨none, 0, by rw [n0], Or.inl n0⟩
  · refine ⟨_, _, rfl, Or.inr ⟨g, 0, rfl, lt_blk hg, fun j hj => ?_⟩⟩
    have key : ∀ r, r < 4 → W.cell? ⟨g, j * 4 + r, none⟩ = [.int .i64 (pt T j).kind, .string (pt T j).text, .int .i64 (pt T j).num, ks j][r]? := by
      intro r hr
      rw [cell_of_row W g _ _ _ _ hg, ← CP_get T ks j r hr hj, ← h6, List.getElem?_take_of_lt (by omega), Array.getElem?_toList]
    have hk := h.kids j hj
    obtain ⟨ka, kc, e⟩ := own_form hk
    rw [e] at hk
    obtain ⟨_, r1, r2⟩ := own_rdI hk
    refine ⟨ka, kc, ?_, ?_, ?_, ?_, r1, r2⟩
    · rw [Nat.zero_add]; exact key 0 (by decide)
    · rw [Nat.zero_add]; exact key 1 (by decide)
    · rw [Nat.zero_add]; exact key 2 (by decide)
    · rw [Nat.zero_add, ← e]; exact key 3 (by decide)
theorem OwnP.low {W W' : World} {base : Nat} {v : Value} {T : List Pt} {ks : Nat → Value} {k : Nat} (h : OwnP W base v T ks k) (hk : Below W.heap.size W W') : OwnP W' base v T ks k :=
  ⟨World.ownsRow.kept (row := none) h.row ⟨hk.os, hk.tape, hk.output, hk.size, fun k hkl _ => hk.block k hkl⟩ (by cases v.ownBlock <;> simp), fun j hj => own_low (h.kids j hj) hk⟩
theorem row_ne {W : World} {b b' s s' n n' : Nat} {e e' : TypeId} {v v' : Value} {xs ys : List Value} (h : W.ownsRow b e s v n xs) (h' : W.ownsRow b' e' s' v' n' ys) (hne : e ≠ e') : v.ownBlock = none ∨ v.ownBlock ≠ v'.ownBlock := by
  rcases h.2 with ⟨rfl, _⟩ | ⟨g, cap, cur, rfl, _, hg, _⟩
  · exact .inl rfl
  · right
    intro e1
    rcases h'.2 with ⟨rfl, _⟩ | ⟨g', cap', cur', rfl, _, hg', _⟩
    · cases e1
    · have : g = g' := by simpa [Value.ownBlock] using e1
      subst this
      rw [hg] at hg'
      have := Option.some.inj hg'
      simp at this
      exact hne this.2
/-- One part more, behind an append. -/
theorem OwnP.more {W W' : World} {base : Nat} {v v' : Value} {T : List Pt} {ks : Nat → Value} {k : Nat} {x : Value} (h : OwnP W base v T ks k) (hx : OwnI W base x (pt T k).kids)
    (hr : W'.ownsRow base 46 4 v' (k + 1) (CP T ks k ++ [.int .i64 (pt T k).kind, .string (pt T k).text, .int .i64 (pt T k).num, x])) (hg : W.grownBy W' v.ownBlock) : OwnP W' base v' T (fun j => if j = k then x else ks j) (k + 1) := by
  refine ⟨?_, fun j hj => ?_⟩
  · have e : CP T (fun j => if j = k then x else ks j) (k + 1) = CP T ks k ++ [.int .i64 (pt T k).kind, .string (pt T k).text, .int .i64 (pt T k).num, x] := by
      simp only [CP, if_true]
      rw [CP_congr T (ks' := ks) (fun j hj => by simp [Nat.ne_of_lt hj])]
    rw [e]
    exact hr
  · by_cases hjk : j = k
    · subst hjk
      simp only [if_true]
      exact World.ownsRow.kept hx hg (row_ne hx h.row (by decide))
    · simp only [hjk, if_false]
      exact World.ownsRow.kept (h.kids j (by omega)) hg (row_ne (h.kids j (by omega)) h.row (by decide))
theorem infoP : (Tryz.prog.info? 46).map (fun i => (i.zero, i.size, i.bytes)) = some (some (.agg #[.int .i64 0, .string ByteArray.empty, .int .i64 0, .slice none 0 0]), 4, 56) := by kernel_rfl
theorem cell_four_new (w : World) (a b c d : Value) (t : TypeId) : ∀ (j : Nat) (u : Value), [a, b, c, d][j]? = some u → (w.alloc (.cells #[a, b, c, d] t)).cell? ((⟨w.heap.size, 0, none⟩ : Addr).add j) = some u := by
  intro j u h
  rw [Go.WideShapes.add_plain]
  rw [cell_of_row (w.alloc (.cells #[a, b, c, d] t)) w.heap.size (0 + j) _ _ _ (heap_alloc_new w _)]
  simpa using h
end Go.Proofs.YtcldglilhhhdoaaGreatDoor.L
namespace Go.Proofs.YtcldglilhhhdoaaGreatDoor.L
open Go.RowKit Go.Shelf
set_option linter.unusedVariables false
theorem bt_head (t : ByteArray) (l : List UInt8) (h : t.data.toList = l) (c : UInt8) (hc : c ≠ 0) : (bt t 0 == c) = decide (l.head? = some c) := by
  unfold bt
  rw [h]
  cases l with
  | nil => simp; exact fun e => hc e.symm
  | cons x r =>
    show (x == c) = _
    cases e : (x == c)
    · exact (decide_eq_false (by simpa using e)).symm
    · exact (decide_eq_true (by simpa using e)).symm
set_option maxHeartbeats 4000000 in
theorem number_any (t : ByteArray) (w : World) (hs : t.size ≤ 4096) (h43 : bt t 0 ≠ 43) (h0 : t.size ≠ 0) (hd : dgs t ≠ []) (hv : Vars w) :
    Calls Tryz.prog 98 #[.string t] w fun e w' => NumIs (numS t) w e w' := by
  have HC := hid (fun W => scutp_any t W hs)
  have HH := hid (fun W => shasp_any (dgT t) 48 W (Nat.le_trans (dgT_size t) hs) (by decide))
  rw [bt_head (dgT t) (dgs t) (dgT_list t) 48 (by decide)] at HH
  have hl : (dgT t).toList = dgs t := by rw [ByteArray.toList_eq, dgT_list]
  have hz : (dgT t).size = (dgs t).length := by rw [← dgT_list]; simp
  have AN := hid (atoi_num t h0 h43 hd)
  have AO := hid (fun (n : Int) (h : Lib.atoiAll t.data.toList = .ok n) (W : World) => atoi_ok t hs n h W)
  have AB := hid (fun (h : ∀ n, Lib.atoiAll t.data.toList ≠ .ok n) => atoi_bad t hs h w hv)
  obtain ⟨R, hR⟩ : ∃ R, numS t = R := ⟨_, rfl⟩
  rw [hR]
  unfold numS at hR
  generalize dgT t = D at *
  generalize dgs t = L at *
  clear h43
  by_cases c1 : L = [48]
  · rw [if_pos c1] at hR
    subst c1
    have e1 : (([48] : List UInt8) == [48]) = true := by decide
    by_cases c45 : bt t 0 = 45
    · rw [if_pos c45] at hR
      rw [show (bt t 0 == 45) = true by simpa using c45] at HC
      subst hR
      go_enter Tryz.func98, Tryz.ntmps98
      go_wp2_with (go_at_call 109; refine (HC.out _).mono ?_; rintro e w1 ⟨rfl, hww⟩; have hw2 := hww.symm; clear hww; subst hw2)
      go_ret2
      exact ⟨_, rfl, Below.refl _ _⟩
    · rw [if_neg c45] at hR
      rw [show (bt t 0 == 45) = false by simpa using c45] at HC
      subst hR
      go_enter Tryz.func98, Tryz.ntmps98
      go_wp2_with (go_at_call 109; refine (HC.out _).mono ?_; rintro e w1 ⟨rfl, hww⟩; have hw2 := hww.symm; clear hww; subst hw2)
      go_ret2
      exact ⟨rfl, Below.refl _ _⟩
  · rw [if_neg c1] at hR
    generalize (bt t 0 == 45) = m at *
    have e1 : (L == [48]) = false := by simpa using c1
    have e1' : ([48] == L) = false := by simpa using fun e : [48] = L => c1 e.symm
    by_cases c2 : 18 < L.length
    · rw [if_pos (Or.inl c2)] at hR
      subst hR
      have c2' : (18 : Int) < L.length := by omega
      go_enter Tryz.func98, Tryz.ntmps98
      go_wp2_with (go_at_call 109; refine (HC.out _).mono ?_; rintro e w1 ⟨rfl, hww⟩; have hw2 := hww.symm; clear hww; subst hw2)
      go_ret2
      exact ⟨_, rfl, Below.refl _ _⟩
    · have c2' : ¬ (18 : Int) < L.length := by omega
      by_cases c3 : L.head? = some 48
      · rw [if_pos (Or.inr (Or.inl c3))] at hR
        subst hR
        rw [decide_eq_true c3] at HH
        go_enter Tryz.func98, Tryz.ntmps98
        go_wp2_with (first | (go_at_call 109; refine (HC.out _).mono ?_; rintro e w1 ⟨rfl, hww⟩; have hw2 := hww.symm; clear hww; subst hw2) | (go_at_call 110; refine (HH.out _).mono ?_; rintro e w1 ⟨rfl, hww⟩; have hw2 := hww.symm; clear hww; subst hw2))
        go_ret2
        exact ⟨_, rfl, Below.refl _ _⟩
      · rw [decide_eq_false c3] at HH
        have AN2 := hid (AN.out (by omega))
        cases c4 : allD L
        · rw [if_pos (Or.inr (Or.inr (Or.inr c4)))] at hR
          subst hR
          have HA := hid (AB.out (AN2.out.2 c4))
          clear AN AN2 AO AB
          go_enter Tryz.func98, Tryz.ntmps98
          go_wp2_with (first | (go_at_call 109; refine (HC.out _).mono ?_; rintro e w1 ⟨rfl, hww⟩; have hw2 := hww.symm; clear hww; subst hw2) | (go_at_call 110; refine (HH.out _).mono ?_; rintro e w1 ⟨rfl, hww⟩; have hw2 := hww.symm; clear hww; subst hw2) | (go_at_call 111; refine HA.out.mono ?_; rintro e w1 ⟨n, ty, N, rfl, l1⟩; have L1 := hid l1; clear l1))
          go_quiet (fail)
          go_wp2
          go_ret2
          exact ⟨_, rfl, below_drewN L1.out _⟩
        · rw [if_neg (by rw [c4]; simp [hd, c3]; omega)] at hR
          subst hR
          have HA := hid (fun W => AO.out _ (AN2.out.1 c4) W)
          clear AN AN2 AO AB
          generalize (if bt t 0 = 45 then -(valF 0 L : Int) else (valF 0 L : Int)) = n at *
          go_enter Tryz.func98, Tryz.ntmps98
          go_wp2_with (first | (go_at_call 109; refine (HC.out _).mono ?_; rintro e w1 ⟨rfl, hww⟩; have hw2 := hww.symm; clear hww; subst hw2) | (go_at_call 110; refine (HH.out _).mono ?_; rintro e w1 ⟨rfl, hww⟩; have hw2 := hww.symm; clear hww; subst hw2) | (go_at_call 111; refine (HA.out _).mono ?_; rintro e w1 ⟨rfl, l1⟩; have L1 := hid l1; clear l1))
          go_quiet (fail)
          go_wp2
          go_ret2
          exact ⟨rfl, below_drewN L1.out _⟩
end Go.Proofs.YtcldglilhhhdoaaGreatDoor.L
