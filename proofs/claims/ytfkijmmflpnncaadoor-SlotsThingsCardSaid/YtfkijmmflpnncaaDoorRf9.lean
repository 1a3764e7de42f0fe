import Derived.Test.YtfkijmmflpnncaaDoorMgAS
namespace Go.Proofs.YtfkijmmflpnncaaDoor.L
open Go.RowKit Bs Go.Maps
set_option linter.unusedVariables false
theorem ownS_len {w : World} {base : Nat} {v : Value} {ss : List ByteArray} (h : OwnS w base v ss) {j : Nat} (hj : j < ss.length) {g cap n : Nat} (hv : v = .slice (some ⟨g, 0, none⟩) n cap) : w.cell? ⟨g, j, none⟩ = some (.string (nmS ss j)) := by
  have hn : n = ss.length := by
    rcases own_form h with ⟨e, h0⟩ | ⟨g', c', e, _⟩
    · omega
    · rw [hv] at e; injection e
  subst hn
  subst hv
  refine ownS_cell h ?_
  unfold nmS
  rw [List.getElem?_map, List.getD_eq_getElem?_getD, List.getElem?_eq_getElem hj]
  rfl
theorem emp : (⟨#[]⟩ : ByteArray) = ByteArray.empty := rfl
theorem cell_one_new (w : World) (x : Value) (t : TypeId) : ∀ j u, [x][j]? = some u → (w.alloc (.cells #[x] t)).cell? ((⟨w.heap.size, 0, none⟩ : Addr).add j) = some u := by
  intro j u h
  rw [Go.WideShapes.add_plain]
  rw [cell_of_row (w.alloc (.cells #[x] t)) w.heap.size (0 + j) _ _ _ (heap_alloc_new w _)]
  simpa using h
theorem set_ownS {w : World} {base g cap n : Nat} {ss : List ByteArray} (hn : n = ss.length) (h : w.ownsRow base 9 1 (.slice (some ⟨g, 0, none⟩) n cap) n (ss.map Value.string)) (j : Nat) (s : ByteArray) : (w.setCell ⟨g, j, none⟩ (.string s)).ownsRow base 9 1 (.slice (some ⟨g, 0, none⟩) n cap) n ((ss.set j s).map Value.string) := by
  rw [List.map_set]
  exact own_set h j _
theorem own_grown2 {B : Nat} {w1 W W' : World} {e : TypeId} {size n : Nat} {v : Value} {xs : List Value} {o : Obj} (b : Below B w1 W) (hB : B ≤ w1.heap.size) (ho : W.ownsRow B e size v n xs) (h : (W.alloc o).grownBy W' v.ownBlock) : Below B w1 W' :=
  own_grown (Nat.le_trans hB b.size) b ho h
set_option maxHeartbeats 8000000 in
set_option maxRecDepth 100000 in
theorem rnamesL (m : Int) (a : Option Addr) (cap L : Nat) (d : List Dr) (hL : L = d.length) (w : World) (ho : OwnD w (.slice a L cap) d) (hl : L ≤ 65536) : Calls Tryd.prog 24 #[.agg #[.int .i64 m, .slice a L cap]] w fun e w' => ∃ v', e = .returned v' ∧ OwnS w' w.heap.size v' (srt (nmD d)) ∧ Below w.heap.size w w' := by
  obtain ⟨i0, hi0, hz0, hz1, hz2⟩ := info_parts infoS
  have HO := hid ho
  have BO := Bq.mk1 w m (.slice a L cap) 35
  have HL := hid hL
  have IS : Hid (srt (nmD d) = insL d L) := hid (by rw [hL]; exact (insL_srt d).symm)
  clear ho hL
  generalize hQ : (fun e w' => ∃ v', e = Ending.returned v' ∧ OwnS w' w.heap.size v' (srt (nmD d)) ∧ Below w.heap.size w w') = Q
  have HQ := hid hQ
  clear hQ
  go_enter Tryd.func24, Tryd.ntmps24
  go_wp2_with fail
  have hze : (w.alloc (.cells #[.int .i64 m, .slice a L cap] 35)).heap.size = w.heap.size + 1 := World.size_alloc _ _
  generalize w.alloc (.cells #[.int .i64 m, .slice a L cap] _) = w1 at *
  have HZE := hid hze
  clear hze
  have b0 : Below w1.heap.size w1 (w1.alloc (Obj.cells #[] 9 (0, 0))) := (Below.refl _ w1).alloc (Nat.le_refl _) _
  have OL : Hid (Below w1.heap.size w1 (w1.alloc (Obj.cells #[] 9 (0, 0))) ∧ (w1.alloc (Obj.cells #[] 9 (0, 0))).ownsRow w1.heap.size 9 1 (.slice (some ⟨w1.heap.size, 0, none⟩) 0 0) 0 ((insL d 0).map Value.string)) := hid ⟨b0, World.ownsRow_made w1 #[] 0 (Nat.le_refl _) (Nat.zero_le _) rfl⟩
  have hw1 := BO.sz
  have HB1 := hid BO
  clear b0 BO
  go_loopw [3, 4] (fun v i wr => ∃ k : Nat, k ≤ L ∧ i = .int .i64 k ∧ Hid (Below w1.heap.size w1 wr ∧ wr.ownsRow w1.heap.size 9 1 v k ((insL d k).map Value.string))) (fun _ i _ => L - (intOf i).toNat)
  case atStart => exact ⟨0, Nat.zero_le _, rfl, by rw [← HZE.out]; exact OL⟩
  case round =>
    clear OL
    obtain ⟨k, hk, rfl, HR⟩ := hrel
    have HB := hid (HB1.out.low HR.out.1)
    have hsz := HR.out.1.size
    have c1 := HB.out.c1
    have c2 := HB.out.c2
    by_cases hlt : k < L
    · rcases own_form HO.out with ⟨e0, h0⟩ | ⟨g, cap', e0, hle, hmx, hg⟩
      · have := HL.out; omega
      injection e0 with e1 e2 e3
      clear e2 hle hmx
      subst e1 e3
      obtain ⟨r0, r1, r2⟩ := rowsD HL.out (HO.out.low HB.out.lo) k hlt
      have st : insL d (k + 1) = insAt (insL d k) (pos (insL d k) (dn d k)) (dn d k) := rfl
      have ol := insL_len d k
      have pl := pos_le (insL d k) (dn d k)
      have PL := hid (pos_lt (insL d k) (dn d k))
      have PA := hid (pos_at (insL d k) (dn d k))
      rw [ol] at pl PA
      have ST := hid st
      have OLN := hid ol
      generalize dn d k = s at *
      generalize hq : pos (insL d k) s = q at *
      have HQQ := hid hq
      clear st ol hq r0 r2
      obtain ⟨v0, cap0, ev⟩ := own_len HR.out.2
      subst ev
      have HC : Hid (∀ j, j < k → ∃ g0, v0 = some ⟨g0, 0, none⟩ ∧ wr.cell? ⟨g0, j, none⟩ = some (.string (nmS (insL d k) j))) := hid (fun j hj => by
        rcases own_form HR.out.2 with ⟨e, h0⟩ | ⟨g0, c0, e, _⟩
        · omega
        · injection e with e4 _ _
          exact ⟨g0, e4, ownS_len (ss := insL d k) (by unfold OwnS; rw [OLN.out]; exact HR.out.2) (by rw [OLN.out]; exact hj) (by rw [e4])⟩)
      go_wp2_with fail
      go_loop [6] (fun x => ∃ p : Nat, p ≤ q ∧ x = .int .i64 p) (fun x => q - (intOf x).toNat)
      case atStart => exact ⟨0, Nat.zero_le _, rfl⟩
      case round =>
        obtain ⟨p, hp, rfl⟩ := hrel
        by_cases hpk : p < k
        · obtain ⟨g0, e4, hc0⟩ := HC.out p hpk
          subst e4
          by_cases hpq : p < q
          · have hb := PL.out p hpq
            go_wp2_with fail
            exact ⟨⟨p + 1, by omega, by go_num⟩, by simp [intOf]; omega⟩
          · obtain rfl : p = q := by omega
            have hb := PA.out hpk
            go_wp2_with (at_builtin; refine Classical.byContradiction (fun hgoal => ?_))
            apply hgoal
            clear hgoal
            refine wpList_append_own _ rfl _ _ 61 rfl w1.heap.size 9 i0 (.string ByteArray.empty) 1 16 Tryd.underlying61 hi0 hz0 hz1 hz2 rfl (by decide) _ _ _ rfl (HR.out.2.alloc _) ⟨wr.heap.size, 0, none⟩ 1 1 [.string ⟨#[]⟩] rfl rfl (cell_one_new _ _ _) (fun u hu => by simp at hu; subst hu; rfl) (by unfold maxLen; omega) (by omega) (by simp; omega) ?_
            intro v7 w7 hown7 hgrow7 hnil7
            clear hnil7
            obtain ⟨g7, c7, e7⟩ := own_some hown7 (by omega)
            subst e7
            have b7 := own_grown2 HR.out.1 (Nat.le_refl _) HR.out.2 hgrow7
            have O7 : Hid (Below w1.heap.size w1 w7 ∧ w7.ownsRow w1.heap.size 9 1 (.slice (some ⟨g7, 0, none⟩) (k + 1) c7) (k + 1) ((shf (insL d k) k).map Value.string)) := hid ⟨b7, by
              have e := shf_start (insL d k)
              rw [OLN.out] at e
              rw [e, List.map_append, ← emp]
              exact hown7⟩
            have hg7 := (hown7.lt g7 rfl).1
            clear hown7 hgrow7 b7 HC
            go_wp2_with fail
            go_loopw [7] (fun x wr2 => ∃ j : Nat, p ≤ j ∧ j ≤ k ∧ x = .int .i64 j ∧ Hid (Below w1.heap.size w1 wr2 ∧ wr2.ownsRow w1.heap.size 9 1 (.slice (some ⟨g7, 0, none⟩) (k + 1) c7) (k + 1) ((shf (insL d k) j).map Value.string))) (fun x _ => (intOf x).toNat - p)
            case atStart => exact ⟨k, by omega, Nat.le_refl _, by go_num, O7⟩
            case round =>
              clear O7
              obtain ⟨j, hj1, hj2, rfl, H2⟩ := hrel
              have HX : Hid (∀ i, i ≤ k → wr.cell? ⟨g7, i, none⟩ = some (.string (if i ≤ j then nmS (insL d k) i else nmS (insL d k) (i - 1)))) := hid (fun i hi => by
                refine ownS_cell H2.out.2 ?_
                rw [List.getElem?_map, shf_get _ _ _ (by rw [OLN.out]; exact hi)]
                rfl)
              have HZ : Hid (∀ i, wr.frozen? ⟨g7, i, none⟩ = false) := hid (fun i => own_fz H2.out.2 i)
              by_cases hjq : p < j
              · obtain ⟨i, rfl⟩ : ∃ i, j = i + 1 := ⟨j - 1, by omega⟩
                have cA := HX.out i (by omega)
                rw [if_pos (by omega)] at cA
                have cB := HX.out (i + 1) (by omega)
                rw [if_pos (Nat.le_refl _)] at cB
                have fB := HZ.out (i + 1)
                have N2 := hid (And.intro (below_set H2.out.1 g7 (i + 1) (.string (nmS (insL d k) i)) hg7) (show (wr.setCell ⟨g7, i + 1, none⟩ (.string (nmS (insL d k) i))).ownsRow w1.heap.size 9 1 (.slice (some ⟨g7, 0, none⟩) (k + 1) c7) (k + 1) ((shf (insL d k) i).map Value.string) by
                  rw [← shf_step (insL d k) i (by rw [OLN.out]; omega)]
                  exact set_ownS (by rw [shf_len, OLN.out]) H2.out.2 (i + 1) _))
                clear HX HZ H2
                generalize nmS (insL d k) i = t1 at *
                generalize nmS (insL d k) (i + 1) = t2 at *
                go_wp2_with fail
                exact ⟨⟨i, by omega, by omega, by go_num, N2⟩, by simp [intOf]; omega⟩
              · obtain rfl : j = p := by omega
                have cB := HX.out j (by omega)
                rw [if_pos (Nat.le_refl _)] at cB
                have fB := HZ.out j
                have N2 := hid (And.intro (below_set H2.out.1 g7 j (.string s) hg7) (show (wr.setCell ⟨g7, j, none⟩ (.string s)).ownsRow w1.heap.size 9 1 (.slice (some ⟨g7, 0, none⟩) (k + 1) c7) (k + 1) ((insL d (k + 1)).map Value.string) by
                  rw [ST.out, ← shf_end (insL d k) j s (by rw [OLN.out]; omega)]
                  exact set_ownS (by rw [shf_len, OLN.out]) H2.out.2 j _))
                clear HX HZ H2
                generalize nmS (insL d k) j = t2 at *
                go_wp2_with fail
                exact ⟨⟨k + 1, by omega, by go_num, N2⟩, by simp [intOf]; omega⟩
        · obtain rfl : p = q := by omega
          go_wp2_with (at_builtin; refine Classical.byContradiction (fun hgoal => ?_))
          apply hgoal
          clear hgoal
          refine wpList_append_own _ rfl _ _ 61 rfl w1.heap.size 9 i0 (.string ByteArray.empty) 1 16 Tryd.underlying61 hi0 hz0 hz1 hz2 rfl (by decide) _ _ _ rfl (HR.out.2.alloc _) ⟨wr.heap.size, 0, none⟩ 1 1 [.string ⟨#[]⟩] rfl rfl (cell_one_new _ _ _) (fun u hu => by simp at hu; subst hu; rfl) (by unfold maxLen; omega) (by omega) (by simp; omega) ?_
          intro v7 w7 hown7 hgrow7 hnil7
          clear hnil7
          obtain ⟨g7, c7, e7⟩ := own_some hown7 (by omega)
          subst e7
          have b7 := own_grown2 HR.out.1 (Nat.le_refl _) HR.out.2 hgrow7
          have O7 : Hid (Below w1.heap.size w1 w7 ∧ w7.ownsRow w1.heap.size 9 1 (.slice (some ⟨g7, 0, none⟩) (k + 1) c7) (k + 1) ((shf (insL d k) k).map Value.string)) := hid ⟨b7, by
            have e := shf_start (insL d k)
            rw [OLN.out] at e
            rw [e, List.map_append, ← emp]
            exact hown7⟩
          have hg7 := (hown7.lt g7 rfl).1
          clear hown7 hgrow7 b7 HC
          go_wp2_with fail
          go_loopw [7] (fun x wr2 => ∃ j : Nat, p ≤ j ∧ j ≤ k ∧ x = .int .i64 j ∧ Hid (Below w1.heap.size w1 wr2 ∧ wr2.ownsRow w1.heap.size 9 1 (.slice (some ⟨g7, 0, none⟩) (k + 1) c7) (k + 1) ((shf (insL d k) j).map Value.string))) (fun x _ => (intOf x).toNat - p)
          case atStart => exact ⟨k, by omega, Nat.le_refl _, by go_num, O7⟩
          case round =>
            clear O7
            obtain ⟨j, hj1, hj2, rfl, H2⟩ := hrel
            have HX : Hid (∀ i, i ≤ k → wr.cell? ⟨g7, i, none⟩ = some (.string (if i ≤ j then nmS (insL d k) i else nmS (insL d k) (i - 1)))) := hid (fun i hi => by
              refine ownS_cell H2.out.2 ?_
              rw [List.getElem?_map, shf_get _ _ _ (by rw [OLN.out]; exact hi)]
              rfl)
            have HZ : Hid (∀ i, wr.frozen? ⟨g7, i, none⟩ = false) := hid (fun i => own_fz H2.out.2 i)
            by_cases hjq : p < j
            · exfalso; omega
            · obtain rfl : j = p := by omega
              have cB := HX.out j (by omega)
              rw [if_pos (Nat.le_refl _)] at cB
              have fB := HZ.out j
              have N2 := hid (And.intro (below_set H2.out.1 g7 j (.string s) hg7) (show (wr.setCell ⟨g7, j, none⟩ (.string s)).ownsRow w1.heap.size 9 1 (.slice (some ⟨g7, 0, none⟩) (k + 1) c7) (k + 1) ((insL d (k + 1)).map Value.string) by
                rw [ST.out, ← shf_end (insL d k) j s (by rw [OLN.out]; omega)]
                exact set_ownS (by rw [shf_len, OLN.out]) H2.out.2 j _))
              clear HX HZ H2
              generalize nmS (insL d k) j = t2 at *
              go_wp2_with fail
              exact ⟨⟨k + 1, by omega, by go_num, N2⟩, by simp [intOf]; omega⟩
    · obtain rfl : k = L := by omega
      go_wp2_with fail
      rw [← HQ.out]
      exact ⟨_, rfl, by rw [IS.out]; unfold OwnS; rw [insL_len]; exact own_mono HR.out.2 (Nat.le_of_lt hw1), HB.out.lo⟩
end Go.Proofs.YtfkijmmflpnncaaDoor.L
