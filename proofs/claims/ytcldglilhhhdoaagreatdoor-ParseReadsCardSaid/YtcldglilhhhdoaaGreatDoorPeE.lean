import Derived.Test.YtcldglilhhhdoaaGreatDoorMgAU
import Derived.Test.YtcldglilhhhdoaaGreatDoorMgAS
namespace Go.Proofs.YtcldglilhhhdoaaGreatDoor.L
open Go.RowKit
set_option linter.unusedVariables false
set_option linter.unusedSimpArgs false
theorem scan_from (s : ByteArray) : ∀ (n k : Nat), s.size - k = n → k ≤ s.size → (scanS s k).2 = none → (∀ q, q < (scanS s k).1.length → k ≤ (tk (scanS s k).1 q).a) ∧ ∀ i j, i < j → j < (scanS s k).1.length → (tk (scanS s k).1 i).e ≤ (tk (scanS s k).1 j).a := by
  intro n
  induction n using Nat.strongRecOn with
  | ind n ih =>
    intro k hn hk h0
    by_cases hl : gapS s k < s.size
    · cases ht : tokS s (gapS s k) with
      | bad c a => rw [scan_bad hl ht] at h0; cases h0
      | ok t =>
        have hin := tok_in hl ht
        have hg := gapS_ge s k
        rw [scan_go hl ht] at h0 ⊢
        obtain ⟨i1, i2⟩ := ih (s.size - t.e) (by omega) t.e rfl hin.2.2 h0
        refine ⟨fun q hq => ?_, fun i j hij hj => ?_⟩
        · cases q with
          | zero => show k ≤ t.a; omega
          | succ q =>
            have := i1 q (by simpa using hq)
            show k ≤ (tk (scanS s t.e).1 q).a
            omega
        · cases j with
          | zero => omega
          | succ j =>
            cases i with
            | zero => exact i1 j (by simpa using hj)
            | succ i => exact i2 i j (by omega) (by simpa using hj)
    · rw [scan_fin hl]
      refine ⟨fun q hq => ?_, fun i j hij hj => ?_⟩
      · simp at hq
        subst hq
        exact hk
      · simp at hj
        omega
theorem scanT_rise {src : ByteArray} (h : (scanT src).2 = none) : ∀ i j, i < j → j < (scanT src).1.length → (tk (scanT src).1 i).e ≤ (tk (scanT src).1 j).a := by
  have e : scanT src = scanS src 0 := by unfold scanT; exact if_pos (scan_shape h).1
  rw [e] at h ⊢
  exact (scan_from src _ 0 rfl (Nat.zero_le _) h).2
theorem bch {w a b : World} (h1 : Below w.heap.size w a) (h2 : Below a.heap.size a b) : Below w.heap.size w b := h1.trans (h2.mono h1.size)
theorem os_at {src : ByteArray} {g : Nat → ByteArray} {T : List Tok} {l l' : List Int} (h : Os T (mts src g T) l l') {k : Nat} (hk : k < l.length) : ∃ i, i < T.length ∧ l.getD k 0 = ((tk T i).a : Int) ∧ l'.getD k 0 = (((pw src g T i).size + (g i).size : Nat) : Int) := by
  obtain ⟨is, h1, rfl, rfl⟩ := h
  rw [List.length_map] at hk
  refine ⟨is[k], h1 _ (List.getElem_mem hk), ?_, ?_⟩
  · rw [List.getD_eq_getElem?_getD, List.getElem?_map, List.getElem?_eq_getElem hk]; rfl
  · rw [List.getD_eq_getElem?_getD, List.getElem?_map, List.getElem?_eq_getElem hk]
    show ((tk (mts src g T) is[k]).a : Int) = _
    rw [tk_mts (h1 _ (List.getElem_mem hk))]
    rfl
theorem par_both {src : ByteArray} {gs : List Int} {T : List Tok} {OT : ByteArray} (hs : (scanT src).2 = none) (hT : T = (scanT src).1) (hO : pw src (gof gs) T T.length = OT) (hz : OT.size ≤ 4096) :
    (∃ s s', parR src = .ok s ∧ parR OT = .ok s' ∧ s'.ps = s.ps ∧ Os T (mts src (gof gs) T) s.os s'.os) ∨ ∃ c i, i < T.length ∧ parR src = .error (c, ((tk T i).a : Int)) ∧ parR OT = .error (c, (((pw src (gof gs) T i).size + (gof gs i).size : Nat) : Int)) := by
  subst hT
  subst hO
  obtain ⟨h1, h2⟩ := blanks_pure hs (gof_gp gs) hz
  have e1 : parR src = match wholeP (scanT src).1 16392 with | .ok (_, s) => .ok s | .error e => .error e := by unfold parR; rw [hs]; dsimp only; cases wholeP (scanT src).1 16392 <;> rfl
  have e2 : parR (pw src (gof gs) (scanT src).1 (scanT src).1.length) = match wholeP (mts src (gof gs) (scanT src).1) 16392 with | .ok (_, s) => .ok s | .error e => .error e := by unfold parR; rw [h2]; dsimp only; cases wholeP (mts src (gof gs) (scanT src).1) 16392 <;> rfl
  cases ha : wholeP (scanT src).1 16392 with
  | ok q =>
    obtain ⟨u, s⟩ := q
    cases hb : wholeP (mts src (gof gs) (scanT src).1) 16392 with
    | ok q' =>
      obtain ⟨u', s'⟩ := q'
      rw [ha] at e1
      rw [hb] at e2
      rw [ha, hb] at h1
      exact Or.inl ⟨s, s', e1, e2, h1.2.ps, h1.2.os⟩
    | error q' =>
      obtain ⟨c, x⟩ := q'
      rw [ha, hb] at h1
      exact h1.elim
  | error q =>
    obtain ⟨c, x⟩ := q
    cases hb : wholeP (mts src (gof gs) (scanT src).1) 16392 with
    | ok q' =>
      obtain ⟨u', s'⟩ := q'
      rw [ha, hb] at h1
      exact h1.elim
    | error q' =>
      obtain ⟨c', x'⟩ := q'
      rw [ha] at e1
      rw [hb] at e2
      rw [ha, hb] at h1
      obtain ⟨rfl, ⟨h0, _, _⟩ | ⟨i, hi, rfl, rfl⟩⟩ := h1
      · exact absurd h0 (parR_code e1)
      · refine Or.inr ⟨_, i, hi, e1, ?_⟩
        rw [e2, tk_mts hi]
        rfl
set_option maxHeartbeats 4000000 in
set_option maxRecDepth 100000 in
theorem pblanks_any (src : ByteArray) (ga : Option Addr) (gs : List Int) (gc : Nat) (w : World) (hv : Vars w) (h1 : src.size ≤ 140737488355328) (hgs : gs.length ≤ 140737488355328) (hgr : RdI w ga gs) (hgi : ∀ z, z ∈ gs → -9223372036854775808 ≤ z ∧ z ≤ 9223372036854775807) : Calls Tryz.prog 5 #[.string src, .slice ga gs.length gc] w fun e w' => e = .returned (.bool true) ∧ Below w.heap.size w w' := by
  have HV := hid hv
  have HGR := hid hgr
  have HGI := hid hgi
  obtain ⟨gn, hgn⟩ : ∃ gn, gn = gs.length := ⟨_, rfl⟩
  have HGN := hid hgn
  rw [← hgn] at hgs ⊢
  have hgm : gn ≤ maxLen := by unfold maxLen; omega
  clear hv hgr hgi hgn
  cases hs : (scanT src).2 with
  | some q =>
    obtain ⟨c, x⟩ := q
    have HS := hid hs
    clear hs
    go_enter Tryz.func5, Tryz.ntmps5
    go_wp2_with fail
    refine (wakes_any w HV.out).mono ?_
    rintro e W1 ⟨rfl, l1⟩
    have HL1 := hid l1
    clear l1
    go_wp2_with fail
    refine (scan_any src W1 (HV.out.low HL1.out)).mono ?_
    rintro e W2 ⟨l, ⟨tv, h1, rfl, ht⟩ | ⟨N, c1, a1, h1, rfl, _⟩⟩
    · rw [HS.out] at h1
      cases h1
    have HL2 := hid (HL1.out.trans (l.mono HL1.out.size))
    clear l
    unfold fv
    go_wp2_with fail
    go_ret
    exact ⟨rfl, HL2.out⟩
  | none =>
    have HS := hid hs
    have hsz := (scan_shape hs).1
    clear hs
    obtain ⟨T, hT⟩ : ∃ T, T = (scanT src).1 := ⟨_, rfl⟩
    have HTE := hid hT
    have HTK := hid (show Tks src T by rw [hT]; exact scan_tks HS.out)
    have HTL := hid (show T.length ≤ 4097 by rw [hT]; exact scanT_len src)
    have HRS := hid (show ∀ i j, i < j → j < T.length → (tk T i).e ≤ (tk T j).a by rw [hT]; exact scanT_rise HS.out)
    clear hT
    go_enter Tryz.func5, Tryz.ntmps5
    go_wp2_with fail
    refine (wakes_any w HV.out).mono ?_
    rintro e W1 ⟨rfl, l1⟩
    have HL1 := hid l1
    clear l1
    go_wp2_with fail
    refine (scan_any src W1 (HV.out.low HL1.out)).mono ?_
    rintro e W2 ⟨l, ⟨tv, h1, rfl, ht⟩ | ⟨N, c1, a1, h1, _⟩⟩
    rotate_left
    · rw [HS.out] at h1
      cases h1
    clear h1
    rw [← HTE.out] at ht
    obtain ⟨tg, cp, rfl, hgl, htc⟩ := own_tok ht HTK.out.pos
    have HL2 := hid (HL1.out.trans (l.mono HL1.out.size))
    have HRD2 := hid ((HGR.out.low HL2.out (Nat.le_refl _)))
    clear l ht
    obtain ⟨L, hL⟩ : ∃ L, L = T.length := ⟨_, rfl⟩
    have HLL := hid hL
    rw [← hL]
    have hL1 : L ≤ 4097 := by have := HTL.out; omega
    have hLm : L ≤ maxLen := by unfold maxLen; omega
    clear hL
    obtain ⟨M, hM⟩ : ∃ M, M = src.size + 1 := ⟨_, rfl⟩
    have hMi : (src.size : Int) + 1 = (M : Int) := by omega
    have HMM := hid hM
    have hM1 : M ≤ 5000 := by omega
    clear hM
    have MK := fun W => make_ints M hM1 W
    go_upto_region 8 with fail
    have HB3 := hid (belowA W2 (.cells (madeCells #[.int .i64 0] M) 3))
    have OW3 := hid (own_made W2 M W2.heap.size hM1 (Nat.le_refl _))
    have HNE := hid (show tg ≠ W2.heap.size from Nat.ne_of_lt hgl)
    have HBL := hid (show Bl w src gs T tg W2.heap.size W2.heap.size M M ga 0 (W2.alloc (.cells (madeCells #[.int .i64 0] M) 3)) (List.replicate M 0) from ⟨HL2.out.trans (HB3.out.mono HL2.out.size), fun j r hj hr => (HB3.out.cell (p := ⟨tg, j * 5 + r, none⟩) hgl).trans (htc j r hj hr), Nat.lt_of_lt_of_le hgl HB3.out.size, HNE.out, OW3.out, by simp, HL2.out.size, fun j hj => absurd hj (Nat.not_lt_zero _), HRD2.out.low HB3.out (Nat.le_refl _), (by rcases HGR.out with h0 | ⟨b2, o2, e2, hb2, _⟩; exact Or.inl h0; exact Or.inr fun b off e => (by rw [e] at e2; injection e2 with e2; injection e2 with e2; omega))⟩)
    generalize W2.alloc (.cells (madeCells #[.int .i64 0] M) 3) = W3 at *
    generalize hmg : W2.heap.size = mg at *
    clear hmg MK htc hgl OW3 HB3 HRD2
    go_wp2_with fail
    go_loopw [7, 9] (fun s i wr => ∃ (k : Nat) (ml : List Int), k ≤ L ∧ s = .string (pw src (gof gs) T k) ∧ i = .int .i64 k ∧ Hid (Bl w src gs T tg mg mg M M ga k wr ml)) (fun _ i _ => L - (intOf i).toNat)
    case atStart => exact ⟨0, _, Nat.zero_le _, rfl, rfl, HBL⟩
    case round =>
      clear HBL
      obtain ⟨k, ml, hk, rfl, rfl, HB⟩ := hrel
      by_cases hlt : k < L
      · have HKT := hid (show k < T.length by rw [← HLL.out]; exact hlt)
        have hin := HTK.out.in HKT.out
        have q3 : wr.cell? ⟨tg, k * 5 + 3, none⟩ = some (.int .i64 ((tk T k).a : Int)) := HB.out.tok k 3 HKT.out (by decide)
        have q4 : wr.cell? ⟨tg, k * 5 + 4, none⟩ = some (.int .i64 ((tk T k).e : Int)) := HB.out.tok k 4 HKT.out (by decide)
        have HPS := hid (show (pw src (gof gs) T (k + 1)) = pw src (gof gs) T k ++ gof gs k ++ src.extract (tk T k).a (tk T k).e from rfl)
        have HPZ := hid (pw_le (gs := gs) HTK.out hsz k (Nat.le_of_lt HKT.out))
        have HGZ := hid (gof_le gs k)
        have HGO := hid (show gof gs k = if gn = 0 then gpn 0 else gpn (nof (gs.getD (k % gn) 0)) by unfold gof; rw [HGN.out])
        have HRI := hid HB.out.rd
        generalize hP : pw src (gof gs) T k = P at *
        have HP := hid hP
        clear hP
        generalize hG : gof gs k = G at *
        have HG := hid hG
        clear hG
        generalize ht : tk T k = t at *
        have HT := hid ht
        clear ht
        obtain ⟨PG, hPG⟩ : ∃ PG, PG = P ++ G := ⟨_, rfl⟩
        have HPG := hid hPG
        have HZZ := hid (show ((PG.size : Nat) : Int) = ((P.size + G.size : Nat) : Int) by rw [hPG, ByteArray.size_append])
        have hpgz : PG.size ≤ 30000000 := by rw [hPG, ByteArray.size_append]; have := HPZ.out; have := HGZ.out; omega
        clear hPG
        have g1 : (k : Int) < (L : Int) := by omega
        have g2 : (0 : Int) ≤ (k : Int) := by omega
        have g3 : (0 : Int) ≤ (t.a : Int) := by omega
        have g4 : (t.a : Int) < (M : Int) := by have := HMM.out; omega
        have g5 : (t.a : Int) ≤ (t.e : Int) := by omega
        have g6 : (t.e : Int) ≤ (src.size : Int) := by omega
        have g7 : (0 : Int) ≤ (t.e : Int) := by omega
        have c1 : ¬ ((t.a : Int) < 0) := by omega
        have c2 : ¬ ((t.e : Int) < (t.a : Int)) := by omega
        have c3 : ¬ ((src.size : Int) < (t.e : Int)) := by omega
        have z1 : ¬ 9223372036854775807 < P.size + G.size := by have := HPZ.out; have := HGZ.out; omega
        have z2 : ¬ 9223372036854775807 < PG.size + (min t.e src.size - t.a) := by omega
        have HIN := hid hin
        clear hin
        by_cases hg0 : gn = 0
        · subst hg0
          have HG2 := hid (show G = ⟨#[32]⟩ by rw [HGO.out]; rfl)
          clear HGO
          have z3 := z1
          rw [HG2.out] at z3
          have HPGE := hid (show P ++ ⟨#[32]⟩ = PG by rw [HPG.out, HG2.out])
          go_upto_region 17 with fail
          clear z1 z3
          rw [HPGE.out]
          have c1d : decide ((t.a : Int) < 0) = false := by simp
          have c2d : decide ((t.e : Int) < (t.a : Int)) = false := by simp; omega
          have c2n : decide (t.e < t.a) = false := by simp; omega
          have c3n : decide (src.size < t.e) = false := by simp; omega
          have c3d : decide ((src.size : Int) < (t.e : Int)) = false := by simp; omega
          go_wp2_with fail
          go_quiet (fail)
          have HB2 := hid (HB.out.drew nq)
          generalize wr.drewN nq = W4 at *
          clear q3 q4
          have q3 : W4.cell? ⟨tg, k * 5 + 3, none⟩ = some (.int .i64 (t.a : Int)) := by rw [← HT.out]; exact HB2.out.tok k 3 HKT.out (by decide)
          have r3 := (own_cell HB2.out.own HB2.out.len t.a (by omega)).1
          have r4 := (own_cell HB2.out.own HB2.out.len t.a (by omega)).2
          have HB3 := hid (HB2.out.put (fun j hj => Nat.ne_of_lt (tks_rise HRS.out HTK.out hj HKT.out)) (by rw [HT.out]; omega))
          rw [HT.out, HP.out, HG.out, ← HZZ.out] at HB3
          go_upto_region 20 with fail
          clear r3 r4 q3
          generalize W4.setCell ⟨mg, t.a, none⟩ (.int .i64 (PG.size : Int)) = W5 at *
          have q3 : W5.cell? ⟨tg, k * 5 + 3, none⟩ = some (.int .i64 (t.a : Int)) := by rw [← HT.out]; exact HB3.out.tok k 3 HKT.out (by decide)
          have q4 : W5.cell? ⟨tg, k * 5 + 4, none⟩ = some (.int .i64 (t.e : Int)) := by rw [← HT.out]; exact HB3.out.tok k 4 HKT.out (by decide)
          go_wp2_with fail
          go_quiet (fail)
          go_wp2_with fail
          refine ⟨⟨k + 1, _, by omega, ?_, by go_num, hid (HB3.out.drew nq)⟩, by simp [intOf]; omega⟩
          rw [HPS.out, HPG.out]
        · have HRN := hid (show k % gn < gs.length by rw [← HGN.out]; exact Nat.mod_lt _ (Nat.pos_of_ne_zero hg0))
          rw [if_neg hg0] at HGO
          rcases HRI.out with h0 | ⟨gb, go, rfl, hgb, hgc⟩
          · have := HGN.out; omega
          have p0 := hgc (k % gn) HRN.out
          have hzm := HGI.out (gs.getD (k % gn) 0) (by rw [List.getD_eq_getElem?_getD, List.getElem?_eq_getElem HRN.out]; exact List.getElem_mem HRN.out)
          generalize gs.getD (k % gn) 0 = z at *
          clear hgc hgb
          have hrem : (k : Int).tmod (gn : Int) = ((k % gn : Nat) : Int) := rfl
          have hr0 : (gn : Int) ≠ 0 := by omega
          have hr1 : ((k % gn : Nat) : Int) < (gn : Int) := by have := Nat.mod_lt k (Nat.pos_of_ne_zero hg0); omega
          have hr2 : (0 : Int) ≤ ((k % gn : Nat) : Int) := by omega
          have hr3 : (0 : Int) < (gn : Int) := by omega
          have hr4 : (gn : Int) ≤ 140737488355328 := by omega
          have hkb : (k : Int) ≤ 4097 := by omega
          have hr5 : ¬ 9223372036854775807 < gn := by omega
          generalize hr : k % gn = r at *
          clear hr
          by_cases hz : z < 0
          · have HNZ := hid (show (nof z : Int) = -(z + 1) by unfold nof; rw [if_pos hz]; omega)
            go_wp2_with fail
            rw [← HNZ.out]
            refine (gap_yes (nof z) wr).mono ?_
            rintro e Y ⟨rfl, hY⟩
            rw [hY, ← HGO.out]
            clear hY
            have HPGE := hid (show P ++ G = PG from HPG.out.symm)
            go_upto_region 17 with fail
            clear z1
            rw [HPGE.out]
            have c1d : decide ((t.a : Int) < 0) = false := by simp
            have c2d : decide ((t.e : Int) < (t.a : Int)) = false := by simp; omega
            have c2n : decide (t.e < t.a) = false := by simp; omega
            have c3n : decide (src.size < t.e) = false := by simp; omega
            have c3d : decide ((src.size : Int) < (t.e : Int)) = false := by simp; omega
            go_wp2_with fail
            go_quiet (fail)
            have HB2 := hid (HB.out.drew nq)
            generalize wr.drewN nq = W4 at *
            clear q3 q4
            have q3 : W4.cell? ⟨tg, k * 5 + 3, none⟩ = some (.int .i64 (t.a : Int)) := by rw [← HT.out]; exact HB2.out.tok k 3 HKT.out (by decide)
            have r3 := (own_cell HB2.out.own HB2.out.len t.a (by omega)).1
            have r4 := (own_cell HB2.out.own HB2.out.len t.a (by omega)).2
            have HB3 := hid (HB2.out.put (fun j hj => Nat.ne_of_lt (tks_rise HRS.out HTK.out hj HKT.out)) (by rw [HT.out]; omega))
            rw [HT.out, HP.out, HG.out, ← HZZ.out] at HB3
            go_upto_region 20 with fail
            clear r3 r4 q3
            generalize W4.setCell ⟨mg, t.a, none⟩ (.int .i64 (PG.size : Int)) = W5 at *
            have q3 : W5.cell? ⟨tg, k * 5 + 3, none⟩ = some (.int .i64 (t.a : Int)) := by rw [← HT.out]; exact HB3.out.tok k 3 HKT.out (by decide)
            have q4 : W5.cell? ⟨tg, k * 5 + 4, none⟩ = some (.int .i64 (t.e : Int)) := by rw [← HT.out]; exact HB3.out.tok k 4 HKT.out (by decide)
            go_wp2_with fail
            go_quiet (fail)
            go_wp2_with fail
            refine ⟨⟨k + 1, _, by omega, ?_, by go_num, hid (HB3.out.drew nq)⟩, by simp [intOf]; omega⟩
            rw [HPS.out, HPG.out]
          · have HNZ := hid (show (nof z : Int) = z by unfold nof; rw [if_neg hz]; omega)
            go_wp2_with fail
            rw [← HNZ.out]
            refine (gap_yes (nof z) wr).mono ?_
            rintro e Y ⟨rfl, hY⟩
            rw [hY, ← HGO.out]
            clear hY
            have HPGE := hid (show P ++ G = PG from HPG.out.symm)
            go_upto_region 17 with fail
            clear z1
            rw [HPGE.out]
            have c1d : decide ((t.a : Int) < 0) = false := by simp
            have c2d : decide ((t.e : Int) < (t.a : Int)) = false := by simp; omega
            have c2n : decide (t.e < t.a) = false := by simp; omega
            have c3n : decide (src.size < t.e) = false := by simp; omega
            have c3d : decide ((src.size : Int) < (t.e : Int)) = false := by simp; omega
            go_wp2_with fail
            go_quiet (fail)
            have HB2 := hid (HB.out.drew nq)
            generalize wr.drewN nq = W4 at *
            clear q3 q4
            have q3 : W4.cell? ⟨tg, k * 5 + 3, none⟩ = some (.int .i64 (t.a : Int)) := by rw [← HT.out]; exact HB2.out.tok k 3 HKT.out (by decide)
            have r3 := (own_cell HB2.out.own HB2.out.len t.a (by omega)).1
            have r4 := (own_cell HB2.out.own HB2.out.len t.a (by omega)).2
            have HB3 := hid (HB2.out.put (fun j hj => Nat.ne_of_lt (tks_rise HRS.out HTK.out hj HKT.out)) (by rw [HT.out]; omega))
            rw [HT.out, HP.out, HG.out, ← HZZ.out] at HB3
            go_upto_region 20 with fail
            clear r3 r4 q3
            generalize W4.setCell ⟨mg, t.a, none⟩ (.int .i64 (PG.size : Int)) = W5 at *
            have q3 : W5.cell? ⟨tg, k * 5 + 3, none⟩ = some (.int .i64 (t.a : Int)) := by rw [← HT.out]; exact HB3.out.tok k 3 HKT.out (by decide)
            have q4 : W5.cell? ⟨tg, k * 5 + 4, none⟩ = some (.int .i64 (t.e : Int)) := by rw [← HT.out]; exact HB3.out.tok k 4 HKT.out (by decide)
            go_wp2_with fail
            go_quiet (fail)
            go_wp2_with fail
            refine ⟨⟨k + 1, _, by omega, ?_, by go_num, hid (HB3.out.drew nq)⟩, by simp [intOf]; omega⟩
            rw [HPS.out, HPG.out]
      · have hkl : k = L := by omega
        subst hkl
        have HOT := hid (show pw src (gof gs) T T.length = pw src (gof gs) T k by rw [HLL.out])
        generalize pw src (gof gs) T k = OT at *
        have HLB := hid HB.out.low
        by_cases hbig : 4096 < OT.size
        · have hb2 : decide ((4096 : Int) < (OT.size : Int)) = true := by simp; omega
          go_wp2_with fail
          go_ret
          exact ⟨rfl, HLB.out⟩
        have hb2 : decide ((4096 : Int) < (OT.size : Int)) = false := by simp; omega
        have HBT := hid (par_both HS.out HTE.out HOT.out (by omega))
        obtain ⟨ZC, hz⟩ : ∃ ZC : Array Value, ZC = f19 0 0 := ⟨_, rfl⟩
        have HZC := hid hz
        have HZ9 := hid (show ZC.size = 19 by rw [hz]; rfl)
        clear hz
        have e1 : (#[.int .i64 0, .int .i64 0, .string ⟨#[]⟩, .int .i64 0, .int .i64 0, .int .i64 0, .string ⟨#[]⟩, .int .i64 0, .int .i64 0, .int .i64 0, .string ⟨#[]⟩, .int .i64 0, .int .i64 0, .int .i64 0, .string ⟨#[]⟩, .int .i64 0, .int .i64 0, .int .i64 0, .string ⟨#[]⟩] : Array Value) = ZC := by rw [HZC.out]; rfl
        rcases HBT.out with ⟨s, s2, h1, h2, h3, h4⟩ | ⟨c, i, hi, h1, h2⟩
        · have HPR := hid h1
          have HPO := hid h2
          have HRX := hid (either_ok h1)
          have HRY := hid (either_ok h2)
          have HOS := hid h4
          have HPS2 := hid h3
          obtain ⟨n, hn⟩ : ∃ n, n = s.ps.length := ⟨_, rfl⟩
          have HN := hid hn
          have hn1 : n ≤ 1000 := by rw [hn]; exact HRX.out.most
          have hnm : n ≤ maxLen := by unfold maxLen; omega
          have e0 : ((n : Int) != (n : Int)) = false := by simp
          clear h1 h2 h3 h4 hn
          obtain ⟨cs, hcs⟩ : ∃ cs : Array Value, cs = f19 0 0 := ⟨_, rfl⟩
          have HCS := hid hcs
          have HC9 := hid (show cs.size = 19 by rw [hcs]; rfl)
          obtain ⟨cs2, hcs2⟩ : ∃ cs2 : Array Value, cs2 = f19 0 0 := ⟨_, rfl⟩
          have HCS2 := hid hcs2
          have HC92 := hid (show cs2.size = 19 by rw [hcs2]; rfl)
          have HNA := hid (fun W => (by rw [hcs]; exact read_nil W : Calls Tryz.prog 12 #[.nilIface] W fun e w' => e = .returned (.agg cs) ∧ Below W.heap.size W w'))
          have HNB := hid (fun W => (by rw [hcs2]; exact read_nil W : Calls Tryz.prog 12 #[.nilIface] W fun e w' => e = .returned (.agg cs2) ∧ Below W.heap.size W w'))
          clear hcs hcs2
          go_wp2_with fail
          refine (parse_any src wr (HV.out.low HLB.out)).mono ?_
          rintro e W4 ⟨hp, l⟩
          unfold PaR at hp
          rw [HPR.out] at hp
          obtain ⟨pb, B, Nb, tv, T1, v, o, ks, hB, rfl, pm⟩ := hp
          obtain ⟨pa, cap, rfl, hpl⟩ := pm.parts.pl
          obtain ⟨oa, oc, rfl, ro⟩ := own_rdi pm.offs
          rw [HRX.out.len, ← HN.out]
          have HPL := hid hpl.pl
          have HRO := hid ro
          have HL4 := hid l
          clear pm hB hpl ro l
          go_upto_region 24 with fail
          have HL5 := hid (belowA W4 (.cells #[.slice pa n cap] 25))
          have HX5 := hid (heap_alloc_new W4 (.cells #[.slice pa n cap] 25))
          generalize W4.alloc (.cells #[.slice pa n cap] 25) = W5 at *
          have HW5 := hid (bch HL4.out HL5.out)
          obtain ⟨b11, hb11⟩ : ∃ b, b = W4.heap.size := ⟨_, rfl⟩
          rw [← hb11]
          rw [← hb11] at HX5
          clear hb11
          go_wp2_with fail
          refine (parse_any OT W5 (HV.out.low (bch HLB.out HW5.out))).mono ?_
          rintro e W6 ⟨hp, l⟩
          unfold PaR at hp
          rw [HPO.out] at hp
          obtain ⟨pb, B, Nb, tv, T1, v, o, ks, hB, rfl, pm⟩ := hp
          obtain ⟨pa2, cap2, rfl, hpl⟩ := pm.parts.pl
          obtain ⟨oa2, oc2, rfl, ro⟩ := own_rdi pm.offs
          rw [HRY.out.len, HPS2.out, ← HN.out]
          rw [HPS2.out] at hpl
          have HPL2 := hid hpl.pl
          have HRO2 := hid ro
          have HL6 := hid l
          clear pm hB hpl ro l
          go_upto_region 25 with fail
          have HL7 := hid (belowA W6 (.cells #[.slice pa2 n cap2] 25))
          have HX7 := hid (heap_alloc_new W6 (.cells #[.slice pa2 n cap2] 25))
          generalize W6.alloc (.cells #[.slice pa2 n cap2] 25) = W7 at *
          obtain ⟨b14, hb14⟩ : ∃ b, b = W6.heap.size := ⟨_, rfl⟩
          rw [← hb14]
          rw [← hb14] at HX7
          clear hb14
          go_upto_region 25 with fail
          refine wp_region_lit ?_
          refine wpList_plain rfl fun K hK => ?_
          have HK := hid hK
          clear hK
          go_simp
          (try rw [e1])
          refine HK.out _ _ ?_
          clear HK
          try simp only [Act.put, List.setIfInBounds_toArray, List.set_cons_zero, List.set_cons_succ]
          refine wpList_step fun K hK => ?_
          rw [if_pos (by first | rfl | kernel_rfl)]
          go_simp
          refine (HNA.out W7).mono ?_
          rintro e W8 ⟨rfl, l⟩
          refine hK _ _ ?_
          clear hK K
          try simp only [Act.put, List.setIfInBounds_toArray, List.set_cons_zero, List.set_cons_succ]
          have HL8 := hid l
          clear l
          refine wpList_plain rfl fun K hK => ?_
          have HK := hid hK
          clear hK
          go_simp
          (try rw [e1])
          refine HK.out _ _ ?_
          clear HK
          try simp only [Act.put, List.setIfInBounds_toArray, List.set_cons_zero, List.set_cons_succ]
          refine wpList_step fun K hK => ?_
          rw [if_pos (by first | rfl | kernel_rfl)]
          go_simp
          refine (HNB.out W8).mono ?_
          rintro e W9 ⟨rfl, l⟩
          refine hK _ _ ?_
          clear hK K
          try simp only [Act.put, List.setIfInBounds_toArray, List.set_cons_zero, List.set_cons_succ]
          have HL9 := hid l
          clear l
          refine wpList_plain rfl fun K hK => ?_
          have HK := hid hK
          clear hK
          go_simp
          (try rw [e1])
          refine HK.out _ _ ?_
          clear HK
          try simp only [Act.put, List.setIfInBounds_toArray, List.set_cons_zero, List.set_cons_succ]
          refine wpList_plain rfl fun K hK => ?_
          have HK := hid hK
          clear hK
          go_simp
          (try rw [e1])
          refine HK.out _ _ ?_
          clear HK
          try simp only [Act.put, List.setIfInBounds_toArray, List.set_cons_zero, List.set_cons_succ]
          have HXA := hid (heap_alloc_new W9 (.cells ZC 35))
          have HBA := hid (belowA W9 (.cells ZC 35))
          have hsa : (W9.alloc (.cells ZC 35)).heap.size = W9.heap.size + 1 := by simp
          have HSA := hid hsa
          have HXB := hid (heap_alloc_new (W9.alloc (.cells ZC 35)) (.cells ZC 35))
          rw [hsa] at HXB
          try rw [hsa]
          clear hsa
          generalize W9.alloc (.cells ZC 35) = WA at *
          have HBB := hid (belowA WA (.cells ZC 35))
          have HXA2 := hid ((HBB.out.block _ (lt_blk HXA.out)).trans HXA.out)
          generalize WA.alloc (.cells ZC 35) = WB at *
          refine wpList_store_row rfl 35 _ _ rfl W9.heap.size cs rfl rfl 35 ZC HXA2.out (by rw [HC9.out]; exact info53) (by rw [HC9.out, HZ9.out]) (by rw [HCS.out]; kernel_rfl) ?_
          try simp only [Act.put, List.setIfInBounds_toArray, List.set_cons_zero, List.set_cons_succ]
          have HE7 := hid (setRow_heap _ _ ZC cs _ _ HXA2.out)
          have HE8 := hid ((setRow_other WB W9.heap.size (W9.heap.size + 1) cs (by omega)).trans HXB.out)
          have HD1 := hid (below_row (bch HBA.out HBB.out) W9.heap.size cs (Nat.le_refl _))
          generalize WB.setRow W9.heap.size cs = WC at *
          refine wpList_store_row rfl 35 _ _ rfl (W9.heap.size + 1) cs2 rfl rfl 35 ZC HE8.out (by rw [HC92.out]; exact info53) (by rw [HC92.out, HZ9.out]) (by rw [HCS2.out]; kernel_rfl) ?_
          try simp only [Act.put, List.setIfInBounds_toArray, List.set_cons_zero, List.set_cons_succ]
          have HF7 := hid ((setRow_other WC (W9.heap.size + 1) W9.heap.size cs2 (by omega)).trans HE7.out)
          have HF8 := hid (setRow_heap _ _ ZC cs2 _ _ HE8.out)
          have HD := hid (below_row HD1.out (W9.heap.size + 1) cs2 (Nat.le_succ _))
          generalize WC.setRow (W9.heap.size + 1) cs2 = WD at *
          have HWB := hid (bch HL6.out (bch HL7.out (bch HL8.out (bch HL9.out HD.out))))
          have HWD := hid (show Below wr.heap.size wr WD from bch HW5.out HWB.out)
          have HGE := hid (show wr.heap.size ≤ W9.heap.size from (bch HW5.out (bch HL6.out (bch HL7.out (bch HL8.out HL9.out)))).size)
          have HW7 := hid (bch HL8.out (bch HL9.out HD.out))
          clear HXA HBA HXB HBB HXA2 HE7 HE8 HD1 HD HSA
          generalize W9.heap.size = b7 at *
          have k0 : WD.cell? ⟨b7, 0, none⟩ = some (.int .i64 0) := by rw [cell_of_row _ _ 0 _ _ _ HF7.out, HCS.out]; rfl
          have k8 : WD.cell? ⟨b7 + 1, 0, none⟩ = some (.int .i64 0) := by rw [cell_of_row _ _ 0 _ _ _ HF8.out, HCS2.out]; rfl
          have HXa := hid ((HWB.out.block _ (lt_blk HX5.out)).trans HX5.out)
          have HXb := hid ((HW7.out.block _ (lt_blk HX7.out)).trans HX7.out)
          have kt1 : WD.cell? ⟨b11, 0, none⟩ = some (.slice pa n cap) := cell_of_row _ _ 0 _ _ _ HXa.out
          have kt2 : WD.cell? ⟨b14, 0, none⟩ = some (.slice pa2 n cap2) := cell_of_row _ _ 0 _ _ _ HXb.out
          have HPLa := hid (HPL.out.low (bch HL5.out HWB.out))
          have HPLb := hid (HPL2.out.low (bch HL7.out HW7.out))
          have HROa := hid (HRO.out.low (bch HL5.out HWB.out) (Nat.le_refl _))
          have HROb := hid (HRO2.out.low (bch HL7.out HW7.out) (Nat.le_refl _))
          have HSM := hid (same_tree pa pa2 s.ps cap cap2 WD HPLa.out HPLb.out HRX.out.most (fun j hj => by have h5 := (HRX.out.ok j hj).1; have h6 := fre_len s.ps j; have h7 := HRX.out.most; omega))
          rw [← HN.out] at HSM
          go_wp2_with fail
          refine HSM.out.mono ?_
          rintro e WE ⟨rfl, l⟩
          have HWE := hid l
          clear l k0 k8 kt1 kt2
          have HAT := hid (HROa.out.low HWE.out (Nat.le_refl _))
          have HTO := hid (HROb.out.low HWE.out (Nat.le_refl _))
          have HOW := hid (own_low (own_low HB.out.own HWD.out) HWE.out)
          have HFIN := hid (bch (bch HLB.out HWD.out) HWE.out)
          go_wp2_with fail
          go_loopw [19] (fun i wr2 => ∃ k2 : Nat, k2 ≤ n ∧ i = .int .i64 k2 ∧ Hid (∃ m, wr2 = WE.drewN m)) (fun i _ => n - (intOf i).toNat)
          case atStart => exact ⟨0, Nat.zero_le _, rfl, hid ⟨0, rfl⟩⟩
          case round =>
            obtain ⟨k2, hk2, rfl, HM⟩ := hrel
            by_cases hlt2 : k2 < n
            · obtain ⟨m0, hm0⟩ := HM.out
              have r1 : RdI wr oa s.os := by rw [hm0]; exact HAT.out
              have r2 : RdI wr oa2 s2.os := by rw [hm0]; exact HTO.out
              have HKS := hid (show k2 < s.os.length by rw [HRX.out.len, ← HN.out]; exact hlt2)
              have HKT := hid (show k2 < s2.os.length by rw [HRY.out.len, HPS2.out, ← HN.out]; exact hlt2)
              obtain ⟨i, hi, ea, eb⟩ := os_at HOS.out HKS.out
              have r0 : wr.cell? ⟨mg, (tk T i).a, none⟩ = some (.int .i64 (ml.getD (tk T i).a 0)) := by rw [hm0]; exact (own_cell HOW.out HB.out.len _ (by have := HTK.out.in hi; have := HMM.out; omega)).1
              rw [HB.out.mv i (by rw [HLL.out]; exact hi)] at r0
              have HIN := hid (HTK.out.in hi)
              have HM0 := hid hm0
              clear hm0 hi
              rcases r1 with h0 | ⟨b1, o1, rfl, hb1, hc1⟩
              · have := HKS.out; omega
              rcases r2 with h0 | ⟨b2, o2, rfl, hb2, hc2⟩
              · have := HKT.out; omega
              have p0 := hc1 k2 HKS.out
              have q0 := hc2 k2 HKT.out
              rw [ea] at p0
              rw [eb] at q0
              clear hc1 hc2 ea eb
              generalize (pw src (gof gs) T i).size + (gof gs i).size = y at *
              generalize (tk T i).a = x at *
              have g1 : (k2 : Int) < (n : Int) := by omega
              have g2 : (0 : Int) ≤ (k2 : Int) := by omega
              have ey : ((y : Int) != (y : Int)) = false := by simp
              have a0 : (0 : Int) ≤ (x : Int) := by omega
              have a2 : decide ((x : Int) < 0) = false := by simp
              have a3 : decide ((src.size : Int) < (x : Int)) = false := by have := HIN.out; simp; omega
              have a4 : decide (src.size < x) = false := by have := HIN.out; simp; omega
              have a5 : (x : Int) < (M : Int) := by have := HIN.out; have := HMM.out; omega
              go_wp2_with fail
              go_quiet (fail)
              go_wp2_with fail
              refine ⟨⟨k2 + 1, by omega, by go_num, hid ⟨m0 + nq, by rw [HM0.out, World.drewN_drewN]⟩⟩, by simp [intOf]; omega⟩
            · have hkl : k2 = n := by omega
              subst hkl
              go_wp2_with fail
              go_ret
              obtain ⟨m0, hm0⟩ := HM.out
              exact ⟨rfl, by rw [hm0]; exact below_drewN HFIN.out _⟩
        · have HPR := hid h1
          have HPO := hid h2
          have hc0 := parR_code h1
          obtain ⟨C, hC⟩ : ∃ C : Int, C = (c : Int) := ⟨_, rfl⟩
          have HC := hid hC
          have hcz : C ≠ 0 := by omega
          have hcn : (C != 0) = true := by simp; exact hcz
          have HI := hid hi
          have HRA := hid (rdc_of h1)
          have HRB := hid (rdc_of h2)
          have HAI := hid (HTK.out.in hi)
          have HMV := hid (HB.out.mv i (by rw [HLL.out]; exact hi))
          rw [← hC] at HRA HRB
          generalize (pw src (gof gs) T i).size + (gof gs i).size = y at *
          generalize (tk T i).a = x at *
          clear h1 h2 hC hc0 hi HPR HPO
          obtain ⟨cs, hcs⟩ : ∃ cs : Array Value, cs = f19 C (x : Int) := ⟨_, rfl⟩
          have HCS := hid hcs
          have HC9 := hid (show cs.size = 19 by rw [hcs]; rfl)
          obtain ⟨cs2, hcs2⟩ : ∃ cs2 : Array Value, cs2 = f19 C (y : Int) := ⟨_, rfl⟩
          have HCS2 := hid hcs2
          have HC92 := hid (show cs2.size = 19 by rw [hcs2]; rfl)
          have HRUN := hid (show ∀ w, (binOp .eql 35 (.agg cs2) (.agg cs2)).run Tryz.prog w = .ok (.bool true) w from fun w => (by rw [hcs2]; exact run_eqf C y w))
          clear hcs hcs2
          go_wp2_with fail
          refine (parse_any src wr (HV.out.low HLB.out)).mono ?_
          rintro e W4 ⟨hp, l⟩
          obtain ⟨va, vn, vc, oa, on, oc, er, rfl, hrd⟩ := par_read hp
          rw [HRA.out] at hrd
          dsimp only at hrd
          rw [← HCS.out] at hrd
          have HRD := hid hrd
          have HL4 := hid l
          clear hp l hrd
          go_upto_region 24 with fail
          have HL5 := hid (belowA W4 (.cells #[.slice va vn vc] 25))
          generalize W4.alloc (.cells #[.slice va vn vc] 25) = W5 at *
          have HW5 := hid (bch (bch HL4.out HL5.out) (Below.refl _ _))
          go_wp2_with fail
          refine (parse_any OT W5 (HV.out.low (bch HLB.out HW5.out))).mono ?_
          rintro e W6 ⟨hp, l⟩
          obtain ⟨va2, vn2, vc2, oa2, on2, oc2, er2, rfl, hrd⟩ := par_read hp
          rw [HRB.out] at hrd
          dsimp only at hrd
          rw [← HCS2.out] at hrd
          have HRD2 := hid hrd
          have HL6 := hid l
          clear hp l hrd
          go_upto_region 25 with fail
          have HL7 := hid (belowA W6 (.cells #[.slice va2 vn2 vc2] 25))
          generalize W6.alloc (.cells #[.slice va2 vn2 vc2] 25) = W7 at *
          go_upto_region 25 with fail
          refine wp_region_lit ?_
          refine wpList_plain rfl fun K hK => ?_
          have HK := hid hK
          clear hK
          go_simp
          (try rw [e1])
          refine HK.out _ _ ?_
          clear HK
          try simp only [Act.put, List.setIfInBounds_toArray, List.set_cons_zero, List.set_cons_succ]
          refine wpList_step fun K hK => ?_
          rw [if_pos (by first | rfl | kernel_rfl)]
          go_simp
          refine (HRD.out W7 (bch HL5.out (bch HL6.out HL7.out))).mono ?_
          rintro e W8 ⟨rfl, l⟩
          refine hK _ _ ?_
          clear hK K
          try simp only [Act.put, List.setIfInBounds_toArray, List.set_cons_zero, List.set_cons_succ]
          have HL8 := hid l
          clear l
          refine wpList_plain rfl fun K hK => ?_
          have HK := hid hK
          clear hK
          go_simp
          (try rw [e1])
          refine HK.out _ _ ?_
          clear HK
          try simp only [Act.put, List.setIfInBounds_toArray, List.set_cons_zero, List.set_cons_succ]
          refine wpList_step fun K hK => ?_
          rw [if_pos (by first | rfl | kernel_rfl)]
          go_simp
          refine (HRD2.out W8 (bch HL7.out HL8.out)).mono ?_
          rintro e W9 ⟨rfl, l⟩
          refine hK _ _ ?_
          clear hK K
          try simp only [Act.put, List.setIfInBounds_toArray, List.set_cons_zero, List.set_cons_succ]
          have HL9 := hid l
          clear l
          refine wpList_plain rfl fun K hK => ?_
          have HK := hid hK
          clear hK
          go_simp
          (try rw [e1])
          refine HK.out _ _ ?_
          clear HK
          try simp only [Act.put, List.setIfInBounds_toArray, List.set_cons_zero, List.set_cons_succ]
          refine wpList_plain rfl fun K hK => ?_
          have HK := hid hK
          clear hK
          go_simp
          (try rw [e1])
          refine HK.out _ _ ?_
          clear HK
          try simp only [Act.put, List.setIfInBounds_toArray, List.set_cons_zero, List.set_cons_succ]
          have HXA := hid (heap_alloc_new W9 (.cells ZC 35))
          have HBA := hid (belowA W9 (.cells ZC 35))
          have hsa : (W9.alloc (.cells ZC 35)).heap.size = W9.heap.size + 1 := by simp
          have HSA := hid hsa
          have HXB := hid (heap_alloc_new (W9.alloc (.cells ZC 35)) (.cells ZC 35))
          rw [hsa] at HXB
          try rw [hsa]
          clear hsa
          generalize W9.alloc (.cells ZC 35) = WA at *
          have HBB := hid (belowA WA (.cells ZC 35))
          have HXA2 := hid ((HBB.out.block _ (lt_blk HXA.out)).trans HXA.out)
          generalize WA.alloc (.cells ZC 35) = WB at *
          refine wpList_store_row rfl 35 _ _ rfl W9.heap.size cs rfl rfl 35 ZC HXA2.out (by rw [HC9.out]; exact info53) (by rw [HC9.out, HZ9.out]) (by rw [HCS.out]; kernel_rfl) ?_
          try simp only [Act.put, List.setIfInBounds_toArray, List.set_cons_zero, List.set_cons_succ]
          have HE7 := hid (setRow_heap _ _ ZC cs _ _ HXA2.out)
          have HE8 := hid ((setRow_other WB W9.heap.size (W9.heap.size + 1) cs (by omega)).trans HXB.out)
          have HD1 := hid (below_row (bch HBA.out HBB.out) W9.heap.size cs (Nat.le_refl _))
          generalize WB.setRow W9.heap.size cs = WC at *
          refine wpList_store_row rfl 35 _ _ rfl (W9.heap.size + 1) cs2 rfl rfl 35 ZC HE8.out (by rw [HC92.out]; exact info53) (by rw [HC92.out, HZ9.out]) (by rw [HCS2.out]; kernel_rfl) ?_
          try simp only [Act.put, List.setIfInBounds_toArray, List.set_cons_zero, List.set_cons_succ]
          have HF7 := hid ((setRow_other WC (W9.heap.size + 1) W9.heap.size cs2 (by omega)).trans HE7.out)
          have HF8 := hid (setRow_heap _ _ ZC cs2 _ _ HE8.out)
          have HD := hid (below_row HD1.out (W9.heap.size + 1) cs2 (Nat.le_succ _))
          generalize WC.setRow (W9.heap.size + 1) cs2 = WD at *
          have HWB := hid (bch HL6.out (bch HL7.out (bch HL8.out (bch HL9.out HD.out))))
          have HWD := hid (show Below wr.heap.size wr WD from bch HW5.out HWB.out)
          have HGE := hid (show wr.heap.size ≤ W9.heap.size from (bch HW5.out (bch HL6.out (bch HL7.out (bch HL8.out HL9.out)))).size)
          have HW7 := hid (bch HL8.out (bch HL9.out HD.out))
          clear HXA HBA HXB HBB HXA2 HE7 HE8 HD1 HD HSA
          generalize W9.heap.size = b7 at *
          have k0 : WD.cell? ⟨b7, 0, none⟩ = some (.int .i64 C) := by rw [cell_of_row _ _ 0 _ _ _ HF7.out, HCS.out]; rfl
          have k1 : WD.cell? ⟨b7, 1, none⟩ = some (.int .i64 (x : Int)) := by rw [cell_of_row _ _ 1 _ _ _ HF7.out, HCS.out]; rfl
          have f1 := frozen_of_row WD b7 1 cs _ HF7.out
          have r1 := (own_cell (own_low HB.out.own HWD.out) HB.out.len x (by have := HAI.out; have := HMM.out; omega)).1
          rw [HMV.out] at r1
          have a0 : (0 : Int) ≤ (x : Int) := by omega
          have a1 : (x : Int) ≤ (src.size : Int) := by have := HAI.out; omega
          have a2 : decide ((x : Int) < 0) = false := by simp
          have a3 : decide ((src.size : Int) < (x : Int)) = false := by simp; omega
          have a4 : decide (src.size < x) = false := by simp; omega
          have a5 : (x : Int) < (M : Int) := by have := HMM.out; omega
          go_upto_region 30 with fail
          have HG7 := hid (heap_setCell_same WD b7 1 cs _ (.int .i64 (y : Int)) HF7.out)
          rw [show cs.setIfInBounds 1 (.int .i64 (y : Int)) = cs2 by rw [HCS.out, HCS2.out]; rfl] at HG7
          have HG8 := hid ((heap_setCell_other WD ⟨b7, 1, none⟩ (b7 + 1) (.int .i64 (y : Int)) (by show b7 + 1 ≠ b7; omega)).trans HF8.out)
          have HGW := hid (show Below w.heap.size w (WD.setCell ⟨b7, 1, none⟩ (.int .i64 (y : Int))) from ⟨(bch HLB.out HWD.out).os, (bch HLB.out HWD.out).tape, (bch HLB.out HWD.out).output, by rw [World.size_setCell]; exact (bch HLB.out HWD.out).size, fun b hb => (heap_setCell_other _ _ _ _ (by have h1 := HGE.out; have h2 := HLB.out.size; show b ≠ b7; omega)).trans ((bch HLB.out HWD.out).block b hb)⟩)
          generalize WD.setCell ⟨b7, 1, none⟩ (.int .i64 (y : Int)) = WE at *
          refine wp_region_lit ?_
          refine wpList_load_row rfl 35 _ rfl b7 rfl _ cs2 (0, 0) _ HG7.out Tryz.underlying35 rfl (by rw [HC92.out]; exact info53) ?_
          try simp only [Act.put, List.setIfInBounds_toArray, List.set_cons_zero, List.set_cons_succ]
          refine wpList_load_row rfl 35 _ rfl (b7 + 1) rfl _ cs2 (0, 0) _ HG8.out Tryz.underlying35 rfl (by rw [HC92.out]; exact info53) ?_
          try simp only [Act.put, List.setIfInBounds_toArray, List.set_cons_zero, List.set_cons_succ]
          have hrun := HRUN.out
          refine wpList_plain rfl fun K hK => ?_
          have HK := hid hK
          clear hK
          go_simp
          (try rw [e1])
          refine HK.out _ _ ?_
          clear HK
          try simp only [Act.put, List.setIfInBounds_toArray, List.set_cons_zero, List.set_cons_succ]
          refine wpList_plain rfl fun K hK => ?_
          have HK := hid hK
          clear hK
          go_simp
          (try rw [e1])
          refine HK.out _ _ ?_
          clear HK
          try simp only [Act.put, List.setIfInBounds_toArray, List.set_cons_zero, List.set_cons_succ]
          go_wp2_with fail
          go_ret
          exact ⟨rfl, HGW.out⟩
end Go.Proofs.YtcldglilhhhdoaaGreatDoor.L
