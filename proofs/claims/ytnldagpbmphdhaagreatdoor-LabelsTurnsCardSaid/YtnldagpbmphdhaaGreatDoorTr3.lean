import Derived.Test.YtnldagpbmphdhaaGreatDoorTr2
import Derived.Test.YtnldagpbmphdhaaGreatDoorRpt
namespace Go.Proofs.YtnldagpbmphdhaaGreatDoor.L
open Go.RowKit
set_option linter.unusedVariables false
/-- What came in is a list of differences, or nil. -/
def CameD (W : World) (v : Value) (L : List Df) : Prop := (v = .slice none 0 0 ∧ L = []) ∨ ∃ a cap, v = .slice (some a) L.length cap ∧ (L.length = 0 ∨ ∃ b off, a = ⟨b, off, none⟩ ∧ b < W.heap.size ∧ ∀ j (hj : j < L.length), W.cell? ⟨b, off + j * 5, none⟩ = some (.string L[j].k) ∧ W.cell? ⟨b, off + j * 5 + 1, none⟩ = some (.string L[j].o) ∧ W.cell? ⟨b, off + j * 5 + 2, none⟩ = some (.string L[j].n) ∧ W.cell? ⟨b, off + j * 5 + 3, none⟩ = some (.bool L[j].had) ∧ W.cell? ⟨b, off + j * 5 + 4, none⟩ = some (.bool L[j].has))
theorem CameD.items {W : World} {v : Value} {L : List Df} (h : CameD W v L) : ItemsD W v L := by
  rcases h with ⟨rfl, rfl⟩ | ⟨a, cap, rfl, h⟩
  · exact ⟨none, 0, rfl, Or.inl rfl⟩
  · refine ⟨some a, cap, rfl, ?_⟩
    rcases h with h | ⟨b, off, rfl, h1, h2⟩
    · exact Or.inl h
    · exact Or.inr ⟨b, off, rfl, h1, h2⟩
theorem CameD.low {W W' : World} {v : Value} {L : List Df} (h : CameD W v L) (hb : Below W.heap.size W W') : CameD W' v L := by
  rcases h with h | ⟨a, cap, rfl, h⟩
  · exact Or.inl h
  · refine Or.inr ⟨a, cap, rfl, ?_⟩
    rcases h with h | ⟨b, off, rfl, hl, hc⟩
    · exact Or.inl h
    · refine Or.inr ⟨b, off, rfl, Nat.lt_of_lt_of_le hl hb.size, fun j hj => ?_⟩
      obtain ⟨d0, d1, d2, d3, d4⟩ := hc j hj
      exact ⟨(hb.cell (p := ⟨b, off + j * 5, none⟩) hl).trans d0, (hb.cell (p := ⟨b, off + j * 5 + 1, none⟩) hl).trans d1, (hb.cell (p := ⟨b, off + j * 5 + 2, none⟩) hl).trans d2, (hb.cell (p := ⟨b, off + j * 5 + 3, none⟩) hl).trans d3, (hb.cell (p := ⟨b, off + j * 5 + 4, none⟩) hl).trans d4⟩
theorem cameD_slice {w : World} {v : Value} {L : List Df} (h : CameD w v L) : ∃ a cap, v = .slice a L.length cap := by
  obtain ⟨a, cap, e, _⟩ := h.items
  exact ⟨a, cap, e⟩
theorem cellsD_get (L : List Df) (j : Nat) (u : Value) (h : (cellsD L)[j]? = some u) : ∃ (i : Nat) (hi : i < L.length) (k : Nat), k < 5 ∧ j = i * 5 + k ∧ [Value.string L[i].k, .string L[i].o, .string L[i].n, .bool L[i].had, .bool L[i].has][k]? = some u := by
  have hj : j < L.length * 5 := by
    apply Classical.byContradiction
    intro n
    rw [List.getElem?_eq_none (by rw [cellsD_len]; omega)] at h
    cases h
  have hi : j / 5 < L.length := by omega
  have hk : j % 5 < [Value.string L[j / 5].k, .string L[j / 5].o, .string L[j / 5].n, .bool L[j / 5].had, .bool L[j / 5].has].length := by
    show j % 5 < 5
    omega
  have := cellsD_at L (j / 5) hi (j % 5) _ (List.getElem?_eq_getElem hk)
  rw [show j / 5 * 5 + j % 5 = j by omega, h] at this
  refine ⟨j / 5, hi, j % 5, by omega, by omega, ?_⟩
  rw [List.getElem?_eq_getElem hk]
  exact this.symm
theorem cellsD_uno (L : List Df) : ∀ u ∈ cellsD L, u.oneCell' = true := by
  intro u hu
  obtain ⟨j, hj⟩ := List.getElem?_of_mem hu
  obtain ⟨i, hi, k, hk, _, h⟩ := cellsD_get L j u hj
  match k, hk, h with
  | 0, _, h => simp at h; subst h; rfl
  | 1, _, h => simp at h; subst h; rfl
  | 2, _, h => simp at h; subst h; rfl
  | 3, _, h => simp at h; subst h; rfl
  | 4, _, h => simp at h; subst h; rfl
theorem cellsD_src (L : List Df) (w : World) (b off : Nat) (hc : ∀ j (hj : j < L.length), w.cell? ⟨b, off + j * 5, none⟩ = some (.string L[j].k) ∧ w.cell? ⟨b, off + j * 5 + 1, none⟩ = some (.string L[j].o) ∧ w.cell? ⟨b, off + j * 5 + 2, none⟩ = some (.string L[j].n) ∧ w.cell? ⟨b, off + j * 5 + 3, none⟩ = some (.bool L[j].had) ∧ w.cell? ⟨b, off + j * 5 + 4, none⟩ = some (.bool L[j].has)) :
    ∀ j u, (cellsD L)[j]? = some u → w.cell? ((⟨b, off, none⟩ : Addr).add j) = some u := by
  intro j u hu
  obtain ⟨i, hi, k, hk, rfl, h⟩ := cellsD_get L j u hu
  rw [Go.WideShapes.add_plain]
  obtain ⟨d0, d1, d2, d3, d4⟩ := hc i hi
  match k, hk, h with
  | 0, _, h => simp at h; subst h; exact d0
  | 1, _, h => simp at h; subst h; rw [← Nat.add_assoc]; exact d1
  | 2, _, h => simp at h; subst h; rw [← Nat.add_assoc]; exact d2
  | 3, _, h => simp at h; subst h; rw [← Nat.add_assoc]; exact d3
  | 4, _, h => simp at h; subst h; rw [← Nat.add_assoc]; exact d4
theorem step_difs (w : World) {ops : Array Oper} {o : Oper} {a : Act} {K : Act → World → Prop} {Q : Exit → Act → World → Prop} {E : Prop} (hgd : o.guard = none) (s x : Operand)
    (ho : o.op = .call { callee := .builtin .append, args := #[s, x], argTypes := #[38, 38] })
    (base : Nat) (v : Value) (L : List Df) (hs : a.eval s = v) (hown : w.ownsRow base 51 5 v 0 []) (sv : Value) (hx : a.eval x = sv) (hsrc : CameD w sv L)
    (h63 : L.length ≤ maxLen) (hbytes : L.length * 56 ≤ 140737488355328) (hbase : base ≤ w.heap.size)
    (h : ∀ v' w', w'.ownsRow base 51 5 v' L.length (cellsD L) → w.grownBy w' v.ownBlock → K (a.put o.dst v') w') :
    if Region.wanted o (yielded ops a.tmps) = true then Oper.wp Tryz.prog o a w K Q else E := by
  obtain ⟨i0, hi0, hz0, hz1, hz2⟩ := info_parts infoD
  have hw : Region.wanted o (yielded ops a.tmps) = true := by simp [Region.wanted, hgd]
  rw [if_pos hw]
  rcases hsrc with ⟨rfl, rfl⟩ | ⟨ad, cap, rfl, hsrc⟩
  · have hrun := run_append_owned_none (P := Tryz.prog) (w := w) base 38 o.type 51 i0 5 Tryz.underlying38 hi0 v _ _ hown
    unfold Oper.wp
    simp [execOp, ho, resolve, invoke, builtin, hs, hx, hrun, Result.andThen]
    exact h v w hown (World.grownBy.refl _ _)
  · refine wp_append_own w s x 38 ho base 51 i0 (.agg #[.string ByteArray.empty, .string ByteArray.empty, .string ByteArray.empty, .bool false, .bool false]) 5 56 Tryz.underlying38 hi0 hz0 hz1 hz2 rfl (by decide) v 0 [] hs hown ad L.length cap (cellsD L) hx (cellsD_len L) ?_ (cellsD_uno L) (by omega) (by omega) hbase (fun v' w' a b _ => h v' w' ?_ b)
    · rcases hsrc with h | ⟨b, off, rfl, _, h⟩
      · intro j u hu
        obtain ⟨i, hi, _⟩ := cellsD_get L j u hu
        omega
      · exact cellsD_src L w b off h
    · simpa using a
set_option maxHeartbeats 4000000 in
theorem copied_own (v : Value) (l : List Lb) (w : World) (hc : Came w v l) (hg : Good l) : Calls Tryz.prog 47 #[v] w fun e w' => ∃ v', e = .returned v' ∧ Own w' w.heap.size v' l ∧ Below w.heap.size w w' := by
  obtain ⟨i0, hi, hz0, hz1, hz2⟩ := info_parts infoL
  have hl1 := hg.1.1
  have hl2 := hg.1.2
  rcases hc with ⟨rfl, rfl⟩ | ⟨a, cap, rfl, _, h⟩
  · go_enter Tryz.func47, Tryz.ntmps47
    go_wp2_with (first
      | (at_builtin; refine wpList_append_own_none rfl _ _ 27 rfl w.heap.size 35 i0 2 Tryz.underlying27 hi _ 0 [] rfl (World.ownsRow_made w #[] 0 (Nat.le_refl _) (Nat.zero_le _) rfl) rfl ?_)
      | go_in)
    go_ret
    exact ⟨_, rfl, World.ownsRow_made w #[] 0 (Nat.le_refl _) (Nat.zero_le _) rfl, belowA _ _⟩
  · have hcell : ∀ j u, (cellsF l)[j]? = some u → w.cell? (a.add j) = some u := by
      rcases h with h | ⟨b, off, rfl, h1, h2⟩
      · intro j u hu
        have := (cellsF_get l j u hu).1
        omega
      · exact cellsF_src l w b off h2
    have hbl : l.length = 0 ∨ a.block < w.heap.size := by
      rcases h with h | ⟨b, off, rfl, h1, h2⟩
      · exact Or.inl h
      · exact Or.inr h1
    have HC := hid hcell
    have HB := hid hbl
    clear h hcell hbl
    go_enter Tryz.func47, Tryz.ntmps47
    go_wp2_with (first
      | (at_builtin; refine wpList_append_own _ rfl _ _ 27 rfl w.heap.size 35 i0 (.agg #[.string ByteArray.empty, .string ByteArray.empty]) 2 32 Tryz.underlying27 hi hz0 hz1 hz2 rfl (by decide) _ 0 [] rfl (World.ownsRow_made w #[] 0 (Nat.le_refl _) (Nat.zero_le _) rfl) a l.length cap (cellsF l) rfl (cellsF_len l) ?_ (cellsF_one l) (by omega) (by omega) (by simp) ?_)
      | go_in)
    · intro j u hu
      have hj := (cellsF_get l j u hu).1
      have hb : a.block < w.heap.size := by rcases HB.out with h | h <;> omega
      have b1 : Below w.heap.size w (w.alloc (.cells #[] 35)) := belowA _ _
      rw [b1.cell (p := a.add j) (by unfold Addr.add; split <;> exact hb)]
      exact HC.out j u hu
    · intro v' w1 hown hgrow _
      have R := hid (show Own w1 w.heap.size v' l ∧ Below w.heap.size w w1 from ⟨by unfold Own; simpa using hown, (belowA w _).grown hgrow (by simp) (fun k hk => by simp [Value.ownBlock] at hk; omega)⟩)
      clear hown hgrow
      go_wp2
      go_ret
      exact ⟨v', rfl, R.out.1, R.out.2⟩
theorem own_grown {w w' : World} {base : Nat} {v : Value} {l : List Lb} {row : Option Nat} (h : Own w base v l) (hg : w.grownBy w' row) (hr : ∀ k, row = some k → k < base) : Own w' base v l := by
  obtain ⟨h1, h2⟩ := h
  refine ⟨h1, ?_⟩
  rcases h2 with h2 | ⟨g, cap, cur, hv, hb, hh, r⟩
  · exact Or.inl h2
  · refine Or.inr ⟨g, cap, cur, hv, hb, ?_, r⟩
    have hlt : g < w.heap.size := by
      apply Classical.byContradiction
      intro n
      rw [Array.getElem?_eq_none (by omega)] at hh
      cases hh
    rw [hg.block g hlt (fun e => by have := hr g e.symm; omega)]
    exact hh
theorem patch_pure {l : List Lb} {L : List Df} (h : patA l L = 0) : Dist (kept L l ++ newly L) ∧ (kept L l ++ newly L).length ≤ 64 := by
  unfold patA at h
  by_cases e : (checkN l).2 = 0
  · rw [if_pos e] at h
    by_cases f : pdE l ByteArray.empty L = 0
    · rw [if_pos f] at h
      by_cases g : 32 < (kept L l ++ newly L).length
      · rw [if_pos g] at h
        simp at h
      · exact ⟨pat_dist (check_iff e) f, by omega⟩
    · rw [if_neg f] at h
      exact absurd h f
  · rw [if_neg e] at h
    exact absurd h e
theorem low2 {W W' : World} {n : Nat} {x y : Value} {i j : Nat} (h : W.cell? ⟨n, i, none⟩ = some x ∧ W.cell? ⟨n, j, none⟩ = some y) (hb : Below W.heap.size W W') (hn : n < W.heap.size) : W'.cell? ⟨n, i, none⟩ = some x ∧ W'.cell? ⟨n, j, none⟩ = some y :=
  ⟨(hb.cell (p := ⟨n, i, none⟩) hn).trans h.1, (hb.cell (p := ⟨n, j, none⟩) hn).trans h.2⟩
set_option maxHeartbeats 8000000 in
set_option maxRecDepth 100000 in
theorem turns_patch (vL vO vD : Value) (l c : List Lb) (L : List Df) (s ks vs : ByteArray) (n : Int) (w : World) (hL : Came w vL l) (hD : CameD w vD L) (hg : Good l) (gd : GoodD L) (hLb : L.length * 56 ≤ 140737488351232) :
    Calls Tryz.prog 29 #[.agg #[.int .i64 14, vL, vO, vD, .string s, .string ks, .string vs, .int .i64 n]] w fun e w' => e = .returned (.bool true) ∧ Below w.heap.size w w' := by
  have CP := hid (fun W (hb : Below w.heap.size w W) => copied_own vL l W (hL.low hb) hg)
  have F1 := hid (fun W v1 v2 (h1 : Came W v1 l) (h2 : ItemsD W v2 L) => patch_all v1 v2 l L W h1 h2 hg gd)
  have F2 := hid (fun W (hb : Below w.heap.size w W) => rpatch_all vL vD l L W (hL.low hb) (hD.low hb).items hg gd)
  have HDD := hid (fun h => patch_pure (l := l) (L := L) h)
  have HDC := hid (fun W (hb : Below w.heap.size w W) => hD.low hb)
  have h63 : L.length ≤ maxLen := by unfold maxLen; omega
  have h56 : L.length * 56 ≤ 140737488355328 := by omega
  generalize patA l L = r at *
  generalize kept L l ++ newly L = KN at *
  obtain ⟨aL, cL, rfl⟩ := came_slice hL
  obtain ⟨aD, cD, rfl⟩ := cameD_slice hD
  clear hL hD
  go_enter Tryz.func29, Tryz.ntmps29
  go_wp2_with fail
  have B0 := hid (show Below w.heap.size w (w.alloc (.cells #[.int .i64 14, .slice aL l.length cL, vO, .slice aD L.length cD, .string s, .string ks, .string vs, .int .i64 n] 40)) from belowA _ _)
  have hz0' : w.heap.size < (w.alloc (.cells #[.int .i64 14, .slice aL l.length cL, vO, .slice aD L.length cD, .string s, .string ks, .string vs, .int .i64 n] 40)).heap.size := by simp
  have E0 := hid (eight_all w (.int .i64 14) (.slice aL l.length cL) vO (.slice aD L.length cD) (.string s) (.string ks) (.string vs) (.int .i64 n) 40)
  generalize w.alloc (.cells #[.int .i64 14, .slice aL l.length cL, vO, .slice aD L.length cD, .string s, .string ks, .string vs, .int .i64 n] 40) = W0 at *
  have T0 : W0.drew.cell? ⟨w.heap.size, 1, none⟩ = some (.slice aL l.length cL) ∧ W0.drew.cell? ⟨w.heap.size, 3, none⟩ = some (.slice aD L.length cD) := ⟨E0.out 1 _ rfl, E0.out 3 _ rfl⟩
  have hzd : w.heap.size < W0.drew.heap.size := hz0'
  have T0a : (W0.drew.alloc (.cells #[] 51)).cell? ⟨w.heap.size, 1, none⟩ = some (.slice aL l.length cL) ∧ (W0.drew.alloc (.cells #[] 51)).cell? ⟨w.heap.size, 3, none⟩ = some (.slice aD L.length cD) := low2 T0 (belowA W0.drew _) hzd
  go_region_held3 (fun W => W.cell? ⟨w.heap.size, 1, none⟩ = some (.slice aL l.length cL) ∧ W.cell? ⟨w.heap.size, 3, none⟩ = some (.slice aD L.length cD))
    (first | exact T0 | exact T0a | exact T1 | exact T1a | exact T3 | exact T4)
    (first
      | (go_at_call 47; refine (CP.out W0.drew B0.out.drew).mono ?_; rintro e y6 ⟨x4, rfl, hc1, hb1⟩; have T1 := low2 T0 hb1 hzd; have X1 := hid (own_came hc1); have D1 := hid (show Below W0.drew.heap.size W0.drew y6 from hb1); have hz6 : w.heap.size < y6.heap.size := Nat.lt_of_lt_of_le hzd hb1.size; have T1a := low2 T1 (belowA y6 (.cells #[] 51)) hz6; have BY := hid (w_bel B0.out.drew D1.out); clear hc1 hb1)
      | (go_at_call 47; refine (CP.out (W0.drew.alloc (.cells #[] 51)) (B0.out.drew.alloc B0.out.drew.size _)).mono ?_; rintro e y6 ⟨x4, rfl, hc1, hb1⟩; have T1 := low2 T0a hb1 (by simp; omega); have XO := hid hc1; have D1 := hid (show Below W0.drew.heap.size W0.drew y6 from ((Below.refl _ _).alloc (Nat.le_refl _) _).trans (hb1.mono (by simp))); have K1 := hid (row_low (World.ownsRow_made (e := 51) (size := 5) W0.drew #[] 0 (Nat.le_refl _) (Nat.zero_le _) rfl) hb1); have BY := hid (w_bel B0.out.drew D1.out); clear hc1 hb1)
      | (refine step_difs _ rfl _ _ rfl W0.drew.heap.size _ L rfl K1.out _ rfl (HDC.out _ BY.out) h63 h56 D1.out.size ?_; intro x5 y7 hown hgrow; have D4 := hid (show Below W0.drew.heap.size W0.drew y7 from D1.out.grown hgrow D1.out.size (fun j hj => own_base K1.out j hj)); have X3 := hid (own_came (own_grown XO.out hgrow (fun k hk => by cases hk; simp))); have OW3 := hid (own_itemsD hown); have T3 := low2 T0 D4.out hzd; have HZ7 := hid (Nat.lt_of_lt_of_le hzd D4.out.size); have BZ := hid (w_bel B0.out.drew D4.out); clear hown hgrow)
      | (refine step_difs _ rfl _ _ rfl y6.heap.size _ L rfl (World.ownsRow_made (e := 51) (size := 5) y6 #[] 0 (Nat.le_refl _) (Nat.zero_le _) rfl) _ rfl (HDC.out _ (BY.out.alloc BY.out.size _)) h63 h56 (by simp) ?_; intro x5 y7 hown hgrow; have D3 := hid (show Below y6.heap.size y6 y7 from (belowA y6 _).grown hgrow (by simp) (fun j hj => own_base (World.ownsRow_made (e := 51) (size := 5) y6 #[] 0 (Nat.le_refl _) (Nat.zero_le _) rfl) j hj)); have X3 := hid (X1.out.low D3.out); have OW3 := hid (own_itemsD hown); have T3 := low2 T1 D3.out hz6; have D4 := hid (D1.out.trans (D3.out.mono D1.out.size)); have HZ7 := hid (Nat.lt_of_lt_of_le hzd D4.out.size); have BZ := hid (w_bel B0.out.drew D4.out); clear hown hgrow)
      | (go_at_call 63; refine (F1.out _ _ _ X3.out OW3.out).mono ?_; rintro e y8 ⟨va, la, rfl, hb5, hda⟩; have T4 := low2 T3 hb5 HZ7.out; have HA := hid hda; have B2 := hid (w_bel BZ.out hb5); have Z8 := hid (Nat.lt_of_lt_of_le HZ7.out hb5.size); clear hda hb5))
  all_goals (
    clear T0 T0a T1 T3
    obtain ⟨t1, t2⟩ := T4
    have z8 := Z8.out
    go_wp2_with fail
    refine (F2.out _ B2.out).mono ?_
    rintro e w3 ⟨vb, lb, rfl, hb3, hdb⟩
    have B3 := hid (w_bel B2.out hb3)
    obtain ⟨ll, hll, i1, i2⟩ := two_same hb3 HDD.out HA.out hdb
    have F3 := hid (rsame_any va vb ll w3 i1 i2 hll)
    clear hb3 hdb i1 i2
    go_wp2_with fail
    refine F3.out.mono ?_
    rintro e w4 ⟨rfl, hb4⟩
    have B4 := hid (w_bel B3.out hb4)
    clear hb4
    go_wp2_with fail
    go_ret
    exact ⟨ret_bool (by simp), B4.out⟩)
end Go.Proofs.YtnldagpbmphdhaaGreatDoor.L
