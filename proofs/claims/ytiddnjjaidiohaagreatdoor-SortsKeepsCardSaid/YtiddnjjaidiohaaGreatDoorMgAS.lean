import Derived.Test.YtiddnjjaidiohaaGreatDoorMgAI
import Derived.Test.YtiddnjjaidiohaaGreatDoorMgAD
namespace Go.Proofs.YtiddnjjaidiohaaGreatDoor.L
open Go.RowKit Go.Shelf
set_option linter.unusedVariables false
/-- The parts and the kids of the first k parts. -/
def sumK (T : List Pt) : Nat → Nat
  | 0 => T.length
  | k + 1 => sumK T k + (pt T k).kids.length
theorem sumK_mono (T : List Pt) : ∀ {i j : Nat}, i ≤ j → sumK T i ≤ sumK T j := by
  intro i j h
  induction h with
  | refl => exact Nat.le_refl _
  | step _ ih => exact Nat.le_trans ih (Nat.le_add_right _ _)
theorem sumK_kid (T : List Pt) {j k : Nat} (h : j < k) : (pt T j).kids.length ≤ sumK T k :=
  Nat.le_trans (Nat.le_add_left _ _) (sumK_mono T (i := j + 1) h)
/-- A list of parts that can be read, whose empty lists of kids have no room. -/
def PLs (w : World) (a : Option Addr) (T : List Pt) : Prop := T.length = 0 ∨ ∃ b off, a = some ⟨b, off, none⟩ ∧ b < w.heap.size ∧ ∀ j, j < T.length → ∃ ka kc,
  w.cell? ⟨b, off + j * 4, none⟩ = some (.int .i64 (pt T j).kind) ∧ w.cell? ⟨b, off + j * 4 + 1, none⟩ = some (.string (pt T j).text) ∧ w.cell? ⟨b, off + j * 4 + 2, none⟩ = some (.int .i64 (pt T j).num) ∧
  w.cell? ⟨b, off + j * 4 + 3, none⟩ = some (.slice ka (pt T j).kids.length kc) ∧ RdI w ka (pt T j).kids ∧ (ka = none → kc = 0)
theorem PLs.pl {w : World} {a : Option Addr} {T : List Pt} (h : PLs w a T) : PL w a T := by
  rcases h with h | ⟨b, off, rfl, h2, h3⟩
  · exact Or.inl h
  · refine Or.inr ⟨b, off, rfl, h2, fun j hj => ?_⟩
    obtain ⟨ka, kc, a0, a1, a2, a3, a4, _⟩ := h3 j hj
    exact ⟨ka, kc, a0, a1, a2, a3, a4⟩
theorem PLs.low {w w' : World} {a : Option Addr} {T : List Pt} (h : PLs w a T) (k : Below w.heap.size w w') : PLs w' a T := by
  rcases h with h | ⟨b, off, rfl, h2, h3⟩
  · exact Or.inl h
  · refine Or.inr ⟨b, off, rfl, Nat.lt_of_lt_of_le h2 k.size, fun j hj => ?_⟩
    obtain ⟨ka, kc, a0, a1, a2, a3, a4, a5⟩ := h3 j hj
    exact ⟨ka, kc, (k.cell (p := ⟨b, _, none⟩) h2).trans a0, (k.cell (p := ⟨b, _, none⟩) h2).trans a1, (k.cell (p := ⟨b, _, none⟩) h2).trans a2, (k.cell (p := ⟨b, _, none⟩) h2).trans a3, a4.low k (Nat.le_refl _), a5⟩
/-- The cells of the first k parts, with the lists ks. -/
def CP (T : List Pt) (ks : Nat → Value) : Nat → List Value
  | 0 => []
  | k + 1 => CP T ks k ++ [.int .i64 (pt T k).kind, .string (pt T k).text, .int .i64 (pt T k).num, ks k]
theorem CP_len (T : List Pt) (ks : Nat → Value) : ∀ k, (CP T ks k).length = k * 4
  | 0 => rfl
  | k + 1 => by
    simp only [CP, List.length_append, CP_len T ks k, List.length_cons, List.length_nil]
    omega
theorem CP_congr (T : List Pt) {ks ks' : Nat → Value} : ∀ {k : Nat}, (∀ j, j < k → ks j = ks' j) → CP T ks k = CP T ks' k
  | 0, _ => rfl
  | k + 1, h => by
    simp only [CP]
    rw [CP_congr T (k := k) (fun j hj => h j (by omega)), h k (by omega)]
theorem CP_get (T : List Pt) (ks : Nat → Value) (j r : Nat) (hr : r < 4) : ∀ {k : Nat}, j < k → (CP T ks k)[j * 4 + r]? = [.int .i64 (pt T j).kind, .string (pt T j).text, .int .i64 (pt T j).num, ks j][r]?
  | k + 1, h => by
    simp only [CP]
    by_cases e : j < k
    · rw [List.getElem?_append_left (by rw [CP_len]; omega)]
      exact CP_get T ks j r hr e
    · have : j = k := by omega
      subst this
      rw [List.getElem?_append_right (by rw [CP_len]; omega), CP_len]
      congr 1
      omega
/-- A tree of one's own: a row of parts, each with a row of kids. -/
structure OwnP (W : World) (base : Nat) (v : Value) (T : List Pt) (ks : Nat → Value) (k : Nat) : Prop where
  row : W.ownsRow base 60 4 v k (CP T ks k)
  kids : ∀ j, j < k → OwnI W base (ks j) (pt T j).kids
theorem OwnP.pl {W : World} {base : Nat} {v : Value} {T : List Pt} {ks : Nat → Value} (h : OwnP W base v T ks T.length) : ∃ a cap, v = .slice a T.length cap ∧ PLs W a T := by
  rcases h.row.2 with ⟨rfl, n0⟩ | ⟨g, cap, cur, rfl, hb, hg, h3, h4, h5, h6⟩
  · exact ⟨none, 0, by rw [n0], Or.inl n0⟩
  · refine ⟨_, _, rfl, Or.inr ⟨g, 0, rfl, lt_blk hg, fun j hj => ?_⟩⟩
    have key : ∀ r, r < 4 → W.cell? ⟨g, j * 4 + r, none⟩ = [.int .i64 (pt T j).kind, .string (pt T j).text, .int .i64 (pt T j).num, ks j][r]? := by
      intro r hr
      rw [cell_of_row W g _ _ _ _ hg, ← CP_get T ks j r hr hj, ← h6, List.getElem?_take_of_lt (by omega), Array.getElem?_toList]
    have hk := h.kids j hj
    obtain ⟨ka, kc, e⟩ := own_form hk
    rw [e] at hk
    obtain ⟨_, r1, r2⟩ := own_rdI hk
    refine ⟨ka, kc, ?_, ?_, ?_, ?_, r1, r2⟩
    · rw [Nat.zero_add]; exact key 0 (by decide)
    · rw [Nat.zero_add]; exact key 1 (by decide)
    · rw [Nat.zero_add]; exact key 2 (by decide)
    · rw [Nat.zero_add, ← e]; exact key 3 (by decide)
theorem OwnP.low {W W' : World} {base : Nat} {v : Value} {T : List Pt} {ks : Nat → Value} {k : Nat} (h : OwnP W base v T ks k) (hk : Below W.heap.size W W') : OwnP W' base v T ks k :=
  ⟨World.ownsRow.kept (row := none) h.row ⟨hk.os, hk.tape, hk.output, hk.size, fun k hkl _ => hk.block k hkl⟩ (by cases v.ownBlock <;> simp), fun j hj => own_low (h.kids j hj) hk⟩
theorem row_ne {W : World} {b b' s s' n n' : Nat} {e e' : TypeId} {v v' : Value} {xs ys : List Value} (h : W.ownsRow b e s v n xs) (h' : W.ownsRow b' e' s' v' n' ys) (hne : e ≠ e') : v.ownBlock = none ∨ v.ownBlock ≠ v'.ownBlock := by
  rcases h.2 with ⟨rfl, _⟩ | ⟨g, cap, cur, rfl, _, hg, _⟩
  · exact .inl rfl
  · right
    intro e1
    rcases h'.2 with ⟨rfl, _⟩ | ⟨g', cap', cur', rfl, _, hg', _⟩
    · cases e1
    · have : g = g' := by simpa [Value.ownBlock] using e1
      subst this
      rw [hg] at hg'
      have := Option.some.inj hg'
      simp at this
      exact hne this.2
/-- One part more, behind an append. -/
theorem OwnP.more {W W' : World} {base : Nat} {v v' : Value} {T : List Pt} {ks : Nat → Value} {k : Nat} {x : Value} (h : OwnP W base v T ks k) (hx : OwnI W base x (pt T k).kids)
    (hr : W'.ownsRow base 60 4 v' (k + 1) (CP T ks k ++ [.int .i64 (pt T k).kind, .string (pt T k).text, .int .i64 (pt T k).num, x])) (hg : W.grownBy W' v.ownBlock) : OwnP W' base v' T (fun j => if j = k then x else ks j) (k + 1) := by
  refine ⟨?_, fun j hj => ?_⟩
  · have e : CP T (fun j => if j = k then x else ks j) (k + 1) = CP T ks k ++ [.int .i64 (pt T k).kind, .string (pt T k).text, .int .i64 (pt T k).num, x] := by
      simp only [CP, if_true]
      rw [CP_congr T (ks' := ks) (fun j hj => by simp [Nat.ne_of_lt hj])]
    rw [e]
    exact hr
  · by_cases hjk : j = k
    · subst hjk
      simp only [if_true]
      exact World.ownsRow.kept hx hg (row_ne hx h.row (by decide))
    · simp only [hjk, if_false]
      exact World.ownsRow.kept (h.kids j (by omega)) hg (row_ne (h.kids j (by omega)) h.row (by decide))
theorem infoP : (Tryz.prog.info? 60).map (fun i => (i.zero, i.size, i.bytes)) = some (some (.agg #[.int .i64 0, .string ByteArray.empty, .int .i64 0, .slice none 0 0]), 4, 56) := by kernel_rfl
theorem cell_four_new (w : World) (a b c d : Value) (t : TypeId) : ∀ (j : Nat) (u : Value), [a, b, c, d][j]? = some u → (w.alloc (.cells #[a, b, c, d] t)).cell? ((⟨w.heap.size, 0, none⟩ : Addr).add j) = some u := by
  intro j u h
  rw [Go.WideShapes.add_plain]
  rw [cell_of_row (w.alloc (.cells #[a, b, c, d] t)) w.heap.size (0 + j) _ _ _ (heap_alloc_new w _)]
  simpa using h
theorem sum_kids {T : List Pt} : ∀ i, (∀ j, j < i → OkA T j) → sumK T i + (fre T i).length = T.length + i
  | 0, _ => by simp [sumK, fre]
  | i + 1, hok => by
    have h := sum_kids i (fun j hj => hok j (by omega))
    have hO := hok i (by omega)
    have := hO.many
    rw [sumK, fre, List.length_append, List.length_take]
    simp only [List.length_cons, List.length_nil]
    omega
end Go.Proofs.YtiddnjjaidiohaaGreatDoor.L
namespace Go.Proofs.YtiddnjjaidiohaaGreatDoor.L
open Go.RowKit Go.Shelf
set_option linter.unusedVariables false
set_option maxHeartbeats 4000000 in
set_option maxRecDepth 100000 in
theorem small_any (a : Option Addr) (T : List Pt) (cap : Nat) (w : World) (hT : PL w a T) (hG : GdT T) :
    Calls Tryz.prog 9 #[.agg #[.slice a T.length cap]] w fun e w' => (e = .returned (.bool true) ∧ sumK T T.length ≤ 100000 ∧ Below w.heap.size w w') ∨ (e = .returned (.bool false) ∧ 100000 < sumK T T.length ∧ Below w.heap.size w w') := by
  obtain ⟨L, hLe⟩ : ∃ L, L = T.length := ⟨_, rfl⟩
  have HT := hid hT
  have HL := hid hLe
  have HG := hid hG
  have hL : L ≤ 140737488355328 := by rw [hLe]; exact hG.1
  rw [← hLe]
  have HX0 := hid (Boxed.new w 26 (.slice a L cap))
  have HB0 := hid (belowA w (.cells #[.slice a L cap] 26))
  clear hT hLe hG
  go_enter Tryz.func9, Tryz.ntmps9
  go_upto_region 1 with (fail)
  have HTX := hid (HT.out.low HB0.out)
  generalize hXe : w.alloc (.cells #[.slice a L cap] 26) = X at *
  clear hXe
  have xt := HX0.out.cell
  go_wp2_with fail
  go_loopw [3, 12] (fun n i wr => ∃ (k s : Nat), k ≤ L ∧ i = .int .i64 (k : Int) ∧ n = .int .i64 (s : Int) ∧ s ≤ 140737488355328 ∧ Hid (k = 0 ∨ s ≤ 100000) ∧ Hid (s = sumK T k) ∧ Hid (Below X.heap.size X wr)) (fun _ i _ => L - (intOf i).toNat)
  case atStart => exact ⟨0, L, Nat.zero_le _, rfl, rfl, by omega, hid (.inl rfl), hid HL.out, hid (Below.refl _ _)⟩
  case round =>
    obtain ⟨k, s, hk, rfl, rfl, hs, HS0, HS, HB⟩ := hrel
    by_cases hkl : k < L
    · have hki : (k : Int) < (L : Int) := by omega
      have hk0 : (0 : Int) ≤ (k : Int) := by omega
      rcases HTX.out.low HB.out with h0 | ⟨b2, o2, rfl, hb2, hc2⟩
      · have := HL.out; omega
      obtain ⟨ka, kc, q0, q1, q2, q3, rk⟩ := hc2 k (by rw [← HL.out]; omega)
      have hkl2 := HG.out.2 k (by rw [← HL.out]; omega)
      obtain ⟨kd, hkd⟩ : ∃ kd, kd = (pt T k).kind := ⟨_, rfl⟩
      obtain ⟨tx, htx⟩ : ∃ tx, tx = (pt T k).text := ⟨_, rfl⟩
      obtain ⟨nu, hnu⟩ : ∃ nu, nu = (pt T k).num := ⟨_, rfl⟩
      obtain ⟨m, hm⟩ : ∃ m, m = (pt T k).kids.length := ⟨_, rfl⟩
      rw [← hm] at hkl2 q3
      rw [← hkd] at q0
      rw [← htx] at q1
      rw [← hnu] at q2
      have HM := hid hm
      have HVB := hid (belowA wr (.cells #[.int .i64 kd, .string tx, .int .i64 nu, .slice ka m kc] 60))
      have HVP := hid (heap_alloc_new wr (.cells #[.int .i64 kd, .string tx, .int .i64 nu, .slice ka m kc] 60))
      clear hm rk hc2 hkd htx hnu
      have hk4 : ((k : Int) * 4).toNat = k * 4 := by omega
      by_cases hs1 : s + m ≤ 100000
      · have hsi : ¬ ((100000 : Int) < (s : Int) + (m : Int)) := by omega
        go_upto_region 5 with (fail)
        have HB2 := hid (HB.out.trans (HVB.out.mono HB.out.size))
        clear q0 q1 q2 q3
        generalize wr.alloc (.cells #[.int .i64 kd, .string tx, .int .i64 nu, .slice ka m kc] 60) = V at *
        have x3 := (cells4 HVP.out).2.2.2
        go_wp2_with fail
        refine ⟨⟨k + 1, s + m, by omega, by simp, by simp, by omega, hid (.inr hs1), hid (by rw [HS.out, HM.out]; rfl), HB2⟩, ?_⟩
        show L - ((k : Int) + 1).toNat < L - ((k : Int)).toNat
        omega
      · have hsi : (100000 : Int) < (s : Int) + (m : Int) := by omega
        go_upto_region 5 with (fail)
        have HB2 := hid (HB.out.trans (HVB.out.mono HB.out.size))
        clear q0 q1 q2 q3
        generalize wr.alloc (.cells #[.int .i64 kd, .string tx, .int .i64 nu, .slice ka m kc] 60) = V at *
        have x3 := (cells4 HVP.out).2.2.2
        go_wp2_with fail
        go_ret
        refine Or.inr ⟨rfl, ?_, HB0.out.trans (HB2.out.mono HB0.out.size)⟩
        have h1 := sumK_mono T (i := k + 1) (j := L) (by omega)
        have h2 : sumK T (k + 1) = s + m := by rw [HS.out, HM.out]; rfl
        omega
    · have hki : ¬ ((k : Int) < (L : Int)) := by omega
      by_cases hs1 : s ≤ 100000
      · have hsi : (s : Int) ≤ 100000 := by omega
        go_wp2_with fail
        go_ret
        refine Or.inl ⟨?_, ?_, HB0.out.trans (HB.out.mono HB0.out.size)⟩
        · simp
        have : L = k := by omega
        rw [this, ← HS.out]
        exact hs1
      · have hsi : ¬ ((s : Int) ≤ 100000) := by omega
        go_wp2_with fail
        go_ret
        refine Or.inr ⟨?_, ?_, HB0.out.trans (HB.out.mono HB0.out.size)⟩
        · simp
        have : L = k := by omega
        rw [this, ← HS.out]
        omega
end Go.Proofs.YtiddnjjaidiohaaGreatDoor.L
namespace Go.Proofs.YtiddnjjaidiohaaGreatDoor.L
open Go.RowKit Go.Shelf
set_option linter.unusedVariables false
theorem row_mono {W : World} {base base' n s : Nat} {e : TypeId} {v : Value} {xs : List Value} (h : W.ownsRow base e s v n xs) (hb : base' ≤ base) : W.ownsRow base' e s v n xs := by
  refine ⟨h.1, ?_⟩
  rcases h.2 with e | ⟨g, cap, cur, e, hg, r⟩
  · exact .inl e
  · exact .inr ⟨g, cap, cur, e, Nat.le_trans hb hg, r⟩
theorem OwnP.mono {W : World} {base base' : Nat} {v : Value} {T : List Pt} {ks : Nat → Value} {k : Nat} (h : OwnP W base v T ks k) (hb : base' ≤ base) : OwnP W base' v T ks k := ⟨row_mono h.row hb, fun j hj => row_mono (h.kids j hj) hb⟩
theorem OwnP.set_low {W : World} {base : Nat} {v : Value} {T : List Pt} {ks : Nat → Value} {k : Nat} (h : OwnP W base v T ks k) {p : Addr} (hp : p.block < base) (u : Value) : OwnP (W.setCell p u) base v T ks k :=
  ⟨ownsRow_setCell_below h.row hp u, fun j hj => ownsRow_setCell_below (h.kids j hj) hp u⟩
set_option maxHeartbeats 4000000 in
set_option maxRecDepth 100000 in
theorem copied_any (a : Option Addr) (T : List Pt) (cap : Nat) (w : World) (hT : PLs w a T) (hG : GdT T) (hsm : sumK T T.length ≤ 100000) :
    Calls Tryz.prog 10 #[.agg #[.slice a T.length cap]] w fun e w' => ∃ a' cap' ks, e = .returned (.agg #[.slice a' T.length cap']) ∧ OwnP w' w.heap.size (.slice a' T.length cap') T ks T.length ∧ Below w.heap.size w w' := by
  obtain ⟨L, hLe⟩ : ∃ L, L = T.length := ⟨_, rfl⟩
  have HT := hid hT
  have HL := hid hLe
  have HG := hid hG
  have hL : L ≤ 140737488355328 := by rw [hLe]; exact hG.1
  have HSM := hid hsm
  rw [← hLe] at HSM ⊢
  have hb0 := belowA w (.cells #[.slice a L cap] 26)
  have hb1 := hb0.alloc (by simp) (.cells #[.slice none 0 0] 26)
  have HB1 := hid hb1
  have HX0 := hid (show Boxed ((w.alloc (.cells #[.slice a L cap] 26)).alloc (.cells #[.slice none 0 0] 26)) w.heap.size 26 (.slice a L cap) from (Boxed.new w _ _).alloc _)
  have HX1 := hid (show Boxed ((w.alloc (.cells #[.slice a L cap] 26)).alloc (.cells #[.slice none 0 0] 26)) (w.heap.size + 1) 26 (.slice none 0 0) by
    have := Boxed.new (w.alloc (.cells #[.slice a L cap] 26)) 26 (.slice none 0 0)
    rwa [World.size_alloc] at this)
  have HXS := hid (show ((w.alloc (.cells #[.slice a L cap] 26)).alloc (.cells #[.slice none 0 0] 26)).heap.size = w.heap.size + 1 + 1 by simp)
  clear hT hLe hG hb0 hb1 hsm
  go_enter Tryz.func10, Tryz.ntmps10
  go_upto_region 1 with (fail)
  have HTX := hid (HT.out.low HB1.out)
  generalize (w.alloc (.cells #[.slice a L cap] 26)).alloc (.cells #[.slice none 0 0] 26) = X at *
  have xt := HX0.out.cell
  have hL5 : L ≤ 100000 := by
    have h0 := sumK_mono T (Nat.zero_le L)
    have h1 : sumK T 0 = L := HL.out.symm
    have h2 := HSM.out
    omega
  have HS := hid (show sumK T L ≤ 100000 from HSM.out)
  have HW1 := HB1
  have HY0 := HX0
  have HY1 := HX1
  have HWS := hid (show w.heap.size + 1 < X.heap.size from HY1.out.lt)
  have HLT := hid (Nat.lt_of_succ_lt HWS.out)
  go_wp2_with fail
  go_loopw [3, 9] (fun v i wr => ∃ (k : Nat) (ks : Nat → Value), k ≤ L ∧ i = .int .i64 (k : Int) ∧ Hid (Below X.heap.size X wr) ∧ Hid (OwnP wr X.heap.size v T ks k)) (fun _ i _ => L - (intOf i).toNat)
  case atStart => exact ⟨0, fun _ => undef, Nat.zero_le _, rfl, hid (Below.refl _ _), hid ⟨⟨rfl, .inl ⟨rfl, rfl⟩⟩, fun j hj => absurd hj (Nat.not_lt_zero j)⟩⟩
  case round =>
    obtain ⟨k, ks, hk, rfl, HB, HO⟩ := hrel
    have xt := (show Boxed wr w.heap.size 26 (.slice a L cap) from boxed_low HY0.out HB.out).cell
    by_cases hkl : k < L
    · have hki : (k : Int) < (L : Int) := by omega
      have hk0 : (0 : Int) ≤ (k : Int) := by omega
      have hts := HT.out.low (HW1.out.trans (HB.out.mono (Nat.le_of_lt HLT.out)))
      have hgk := sumK_kid T hkl
      rcases hts with h0 | ⟨b2, o2, rfl, hb2, hc2⟩
      · have := HL.out; omega
      obtain ⟨ka, kc, q0, q1, q2, q3, rk, hno⟩ := hc2 k (by rw [← HL.out]; exact hkl)
      have hgl := Nat.le_trans hgk HS.out
      obtain ⟨p, hp⟩ : ∃ p, p = pt T k := ⟨_, rfl⟩
      rw [← hp] at q0 q1 q2 q3 rk hgl
      have HPT := hid hp
      obtain ⟨kd, tx, nu, zs⟩ := p
      simp only at q0 q1 q2 q3 rk hgl
      obtain ⟨n, hn⟩ : ∃ n, n = zs.length := ⟨_, rfl⟩
      rw [← hn] at q3 hgl
      have HN := hid hn
      have RK := hid rk
      have HNO := hid hno
      have hk4 : ((k : Int) * 4).toNat = k * 4 := by omega
      have hvb := belowA wr (.cells #[.int .i64 kd, .string tx, .int .i64 nu, .slice ka n kc] 60)
      have HVB := hid hvb
      have HVP := hid (heap_alloc_new wr (.cells #[.int .i64 kd, .string tx, .int .i64 nu, .slice ka n kc] 60))
      have HVS := hid (show (wr.alloc (.cells #[.int .i64 kd, .string tx, .int .i64 nu, .slice ka n kc] 60)).heap.size = wr.heap.size + 1 by simp)
      clear hc2 rk hno hp hn hvb hgk
      go_upto_region 5 with (fail)
      have RV := hid (RK.out.low HVB.out (Nat.le_refl _))
      have HP9 := hid (show Below wr.heap.size wr (wr.alloc (.cells #[.int .i64 kd, .string tx, .int .i64 nu, .slice ka n kc] 60)) from HVB.out)
      clear q0 q1 q2 q3 hb2 xt
      generalize wr.alloc (.cells #[.int .i64 kd, .string tx, .int .i64 nu, .slice ka n kc] 60) = V at *
      have HWB := hid (show X.heap.size ≤ wr.heap.size from HB.out.size)
      generalize hPe : wr.heap.size = P at *
      have HPE := hid hPe
      clear hPe
      have x3 := (cells4 HVP.out).2.2.2
      have N0 := hid (show OwnI V V.heap.size (.slice none 0 0) [] from ⟨rfl, .inl ⟨rfl, rfl⟩⟩)
      have HPV := hid (show P < V.heap.size by rw [HVS.out]; exact Nat.lt_succ_self _)
      have HBD := hid (show ([] : List Int).length + zs.length ≤ 17592186044000 by rw [List.length_nil, ← HN.out]; omega)
      have hPne : P ≠ V.heap.size := Nat.ne_of_lt HPV.out
      go_wp2_with (at_builtin; refine append_src rfl _ _ rfl V.heap.size _ [] rfl N0.out ka n kc zs HN.out rfl HNO.out RV.out HBD.out (Nat.le_refl _) ?_)
      intro v1 w3 o1 g1
      obtain ⟨ka1, kc1, rfl⟩ := own_form o1
      have hk3 : w3.heap[P]? = V.heap[P]? := g1.block P HPV.out (by simp [Value.ownBlock])
      have e3 : w3.heap[P]? = some (.cells #[.int .i64 kd, .string tx, .int .i64 nu, .slice ka n kc] 60 (0, 0)) := hk3.trans HVP.out
      have f3 : w3.frozen? ⟨P, 3, none⟩ = false := by simp [World.frozen?, e3]
      obtain ⟨d0, d1, d2, d3⟩ := cells4 e3
      have HE3 := hid e3
      have O1 := hid o1
      have G1 := hid g1
      clear o1 g1 hk3 e3 x3
      go_upto_region 6 with (fail)
      have e4 : (w3.setCell ⟨P, 3, none⟩ (.slice ka1 zs.length kc1)).heap[P]? = some (.cells #[.int .i64 kd, .string tx, .int .i64 nu, .slice ka1 zs.length kc1] 60 (0, 0)) := by
        rw [setCell_eq_setRow _ _ _ _ _ _ _ HE3.out, setRow_heap _ _ _ _ _ _ HE3.out]
        rfl
      have b3 : Below V.heap.size V w3 := (Below.refl _ _).grown G1.out (Nat.le_refl _) (fun k hk => by simp [Value.ownBlock] at hk)
      have b4 : Below P wr (w3.setCell ⟨P, 3, none⟩ (.slice ka1 zs.length kc1)) := (HP9.out.trans (b3.mono (Nat.le_of_lt HPV.out))).setCell (p := ⟨P, 3, none⟩) (Nat.le_refl _) _
      have HB4 := hid b4
      have HO4 := hid (HO.out.low (show Below wr.heap.size wr _ by rw [HPE.out]; exact b4))
      have OK4 := hid (show OwnI (w3.setCell ⟨P, 3, none⟩ (.slice ka1 zs.length kc1)) X.heap.size (.slice ka1 zs.length kc1) zs from own_mono (ownsRow_setCell_below O1.out (a := ⟨P, 3, none⟩) HPV.out _) (by have := HWB.out; have := HPV.out; omega))
      have ⟨x0, x1, x2, x3⟩ := cells4 e4
      have HW4 := hid (show X.heap.size ≤ (w3.setCell ⟨P, 3, none⟩ (.slice ka1 zs.length kc1)).heap.size by have h1 := b4.size; have h2 := HWB.out; rw [HPE.out] at h1; omega)
      clear e4 b3 b4 d0 d1 d2 d3 f3
      generalize w3.setCell ⟨P, 3, none⟩ (.slice ka1 zs.length kc1) = W4 at *
      obtain ⟨i0, hi, hz0, hz1, hz2⟩ := info_parts infoP
      have HRW := hid (HO4.out.row.alloc (.cells #[.int .i64 kd, .string tx, .int .i64 nu, .slice ka1 zs.length kc1] 60))
      have HFN := hid (cell_four_new W4 (.int .i64 kd) (.string tx) (.int .i64 nu) (.slice ka1 zs.length kc1) 60)
      have HA4 := hid (belowA W4 (.cells #[.int .i64 kd, .string tx, .int .i64 nu, .slice ka1 zs.length kc1] 60))
      have HO5 := hid (HO4.out.low HA4.out)
      have OK5 := hid (own_low OK4.out HA4.out)
      go_wp2_with (at_builtin; refine wpList_append_own _ rfl _ _ 24 rfl X.heap.size 60 i0 (.agg #[.int .i64 0, .string ByteArray.empty, .int .i64 0, .slice none 0 0]) 4 56 Tryz.underlying24 hi hz0 hz1 hz2 rfl (by decide) _ _ _ rfl HRW.out ⟨W4.heap.size, 0, none⟩ 1 1 [.int .i64 kd, .string tx, .int .i64 nu, .slice ka1 zs.length kc1] rfl rfl HFN.out (fun x hx => by simp at hx; rcases hx with rfl | rfl | rfl | rfl <;> rfl) (by unfold maxLen; omega) (by omega) (Nat.le_trans HW4.out HA4.out.size) ?_)
      intro v5 w5 hr5 hg5 hn5
      have HM := hid (OwnP.more HO5.out (show OwnI _ X.heap.size (.slice ka1 zs.length kc1) (pt T k).kids by rw [← HPT.out]; exact OK5.out) (by rw [← HPT.out]; exact hr5) hg5)
      have HB5 := hid (show Below X.heap.size X w5 by
        have h1 : Below X.heap.size X W4 := HB.out.trans (HB4.out.mono HWB.out)
        refine (h1.trans (HA4.out.mono HW4.out)).grown hg5 (Nat.le_trans HW4.out HA4.out.size) (fun k hk => ?_)
        exact (HO5.out.row.lt k hk).1)
      clear hr5 hg5 hn5 hi hz0 hz1 hz2 x0 x1 x2 x3
      go_wp2_with fail
      refine ⟨⟨k + 1, _, by omega, by simp, HB5, HM⟩, ?_⟩
      show L - ((k : Int) + 1).toNat < L - ((k : Int)).toNat
      omega
    · have hki : ¬ ((k : Int) < (L : Int)) := by omega
      have ekL : k = L := by omega
      subst ekL
      have hy1 := boxed_low HY1.out HB.out
      have xc := hy1.cell
      have xf := hy1.frozen
      have HXC := hid hy1
      clear hy1
      have HO2 := hid (HO.out.set_low (p := ⟨w.heap.size + 1, 0, none⟩) HWS.out u3)
      rw [HL.out] at HO2
      obtain ⟨a', cap', hv, hp⟩ := HO2.out.pl
      rw [← HL.out] at hv HO2
      clear hp
      subst hv
      have HP := hid (HO2.out.mono (base' := w.heap.size) (Nat.le_of_lt HLT.out))
      have HW3 := hid ((HW1.out.trans (HB.out.mono (Nat.le_of_lt HLT.out))).setCell (p := ⟨w.heap.size + 1, 0, none⟩) (Nat.le_succ _) (.slice a' k cap'))
      go_wp2_with fail
      exact ⟨rfl, .agg #[.slice a' k cap'], results_cell_row Tryz.results10 _ _ (w.heap.size + 1) 26 #[.slice a' k cap'] (0, 0) _ rfl (HXC.out.set _) Tryz.underlying26 rfl (by kernel_rfl), a', cap', rfl, ⟨ks, HP.out⟩, HW3.out⟩
end Go.Proofs.YtiddnjjaidiohaaGreatDoor.L
