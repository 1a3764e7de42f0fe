import Derived.Test.YtfkijmmflpnncaaDoorRf4
namespace Go.Proofs.YtfkijmmflpnncaaDoor.L
open Go.RowKit Bs Go.Maps
set_option linter.unusedVariables false
set_option maxHeartbeats 4000000 in
theorem rset_bad (m : Int) (a : Option Addr) (L cap : Nat) (s : ByteArray) (x : Int) (w : World) (hs : s.size ≤ maxLen) (hb : badB s = true) : Calls Tryd.prog 14 #[.agg #[.int .i64 m, .slice a L cap], .string s, .int .i64 x] w fun e w' => e = .returned (.tuple #[.agg #[.int .i64 m, .slice a L cap], .int .i64 51]) ∧ Below w.heap.size w w' := by
  have C := hid (fun W => rbad_any s W hs)
  rw [hb] at C
  have BO := Bp.mk2 w m (.slice a L cap) 35
  go_enter Tryd.func14, Tryd.ntmps14
  go_wp2_with fail
  generalize (w.alloc _).alloc _ = W at *
  refine (C.out _).mono ?_
  rintro e w2 ⟨rfl, hww⟩; subst hww
  have t1 := BO.c1
  have t2 := BO.c2
  have t3 := BO.c3
  have t4 := BO.c4
  have t5 := BO.f3
  have t6 := BO.f4
  have HB := hid BO.lo
  clear BO
  go_wp2_with fail
  (try simp only [Exit.inBlock, Exit.then])
  refine bodyPost_ret (v := .tuple #[.agg #[.int .i64 m, .slice a L cap], .int .i64 51]) ?_ rfl ⟨rfl, below_set (below_set HB.out _ _ _ (Nat.le_succ _)) _ _ _ (Nat.le_succ _)⟩
  rw [results_cell_tmp rfl]
  go_simp
set_option maxHeartbeats 4000000 in
theorem rset_gone (m : Int) (a : Option Addr) (cap : Nat) (d : List Dr) (s : ByteArray) (x : Int) (w : World) (hi : ItD w a cap d) (hl : d.length ≤ 65536) (hb : badB s = false) (hj : findD d s = -1) : Calls Tryd.prog 14 #[.agg #[.int .i64 m, .slice a d.length cap], .string s, .int .i64 x] w fun e w' => e = .returned (.tuple #[.agg #[.int .i64 m, .slice a d.length cap], .int .i64 54]) ∧ Below w.heap.size w w' := by
  have C := hid (fun W => rbad_any s W (maxLen_of hb))
  rw [hb] at C
  have F := hid (fun W h => findW (w := w) (W := W) m s hi hl h)
  rw [hj] at F
  have BO := Bp.mk2 w m (.slice a d.length cap) 35
  clear hi hb hj
  generalize d.length = L at *
  go_enter Tryd.func14, Tryd.ntmps14
  go_wp2_with fail
  generalize (w.alloc _).alloc _ = W at *
  refine (C.out _).mono ?_
  rintro e w2 ⟨rfl, hww⟩; subst hww
  have t1 := BO.c1
  have t2 := BO.c2
  have BH := hid BO
  clear BO
  go_wp2_with (go_at_call 35; refine (F.out _ BH.out.lo).mono ?_; rintro e w3 ⟨rfl, hb3⟩; have B3 := BH.out.low hb3; clear t1 t2 hb3; have u1 := B3.c1; have u2 := B3.c2; have u3 := B3.c3; have u4 := B3.c4; have u5 := B3.f3; have u6 := B3.f4; have HB := hid B3.lo; clear B3 BH)
  (try simp only [Exit.inBlock, Exit.then])
  refine bodyPost_ret (v := .tuple #[.agg #[.int .i64 m, .slice a L cap], .int .i64 54]) ?_ rfl ⟨rfl, below_set (below_set HB.out _ _ _ (Nat.le_succ _)) _ _ _ (Nat.le_succ _)⟩
  rw [results_cell_tmp rfl]
  go_simp
set_option maxHeartbeats 4000000 in
theorem rdrop_bad (m : Int) (a : Option Addr) (L cap : Nat) (s : ByteArray) (w : World) (hs : s.size ≤ maxLen) (hb : badB s = true) : Calls Tryd.prog 17 #[.agg #[.int .i64 m, .slice a L cap], .string s] w fun e w' => e = .returned (.tuple #[.agg #[.int .i64 m, .slice a L cap], .int .i64 0, .int .i64 51]) ∧ Below w.heap.size w w' := by
  have C := hid (fun W => rbad_any s W hs)
  rw [hb] at C
  have BO := Bp.mk2 w m (.slice a L cap) 35
  go_enter Tryd.func17, Tryd.ntmps17
  go_wp2_with fail
  generalize (w.alloc _).alloc _ = W at *
  refine (C.out _).mono ?_
  rintro e w2 ⟨rfl, hww⟩; subst hww
  have t1 := BO.c1
  have t2 := BO.c2
  have t3 := BO.c3
  have t4 := BO.c4
  have t5 := BO.f3
  have t6 := BO.f4
  have HB := hid BO.lo
  clear BO
  go_wp2_with fail
  (try simp only [Exit.inBlock, Exit.then])
  refine bodyPost_ret (v := .tuple #[.agg #[.int .i64 m, .slice a L cap], .int .i64 0, .int .i64 51]) ?_ rfl ⟨rfl, below_set (below_set HB.out _ _ _ (Nat.le_succ _)) _ _ _ (Nat.le_succ _)⟩
  rw [results_cell_tmp3 rfl]
  go_simp
set_option maxHeartbeats 4000000 in
theorem rdrop_gone (m : Int) (a : Option Addr) (cap : Nat) (d : List Dr) (s : ByteArray) (w : World) (hi : ItD w a cap d) (hl : d.length ≤ 65536) (hb : badB s = false) (hj : findD d s = -1) : Calls Tryd.prog 17 #[.agg #[.int .i64 m, .slice a d.length cap], .string s] w fun e w' => e = .returned (.tuple #[.agg #[.int .i64 m, .slice a d.length cap], .int .i64 0, .int .i64 54]) ∧ Below w.heap.size w w' := by
  have C := hid (fun W => rbad_any s W (maxLen_of hb))
  rw [hb] at C
  have F := hid (fun W h => findW (w := w) (W := W) m s hi hl h)
  rw [hj] at F
  have BO := Bp.mk2 w m (.slice a d.length cap) 35
  clear hi hb hj
  generalize d.length = L at *
  go_enter Tryd.func17, Tryd.ntmps17
  go_wp2_with fail
  generalize (w.alloc _).alloc _ = W at *
  refine (C.out _).mono ?_
  rintro e w2 ⟨rfl, hww⟩; subst hww
  have t1 := BO.c1
  have t2 := BO.c2
  have BH := hid BO
  clear BO
  go_wp2_with (go_at_call 35; refine (F.out _ BH.out.lo).mono ?_; rintro e w3 ⟨rfl, hb3⟩; have B3 := BH.out.low hb3; clear t1 t2 hb3; have u1 := B3.c1; have u2 := B3.c2; have u3 := B3.c3; have u4 := B3.c4; have u5 := B3.f3; have u6 := B3.f4; have HB := hid B3.lo; clear B3 BH)
  (try simp only [Exit.inBlock, Exit.then])
  refine bodyPost_ret (v := .tuple #[.agg #[.int .i64 m, .slice a L cap], .int .i64 0, .int .i64 54]) ?_ rfl ⟨rfl, below_set (below_set HB.out _ _ _ (Nat.le_succ _)) _ _ _ (Nat.le_succ _)⟩
  rw [results_cell_tmp3 rfl]
  go_simp
end Go.Proofs.YtfkijmmflpnncaaDoor.L
namespace Go.Proofs.YtfkijmmflpnncaaDoor.L
open Go.RowKit Bs Go.Maps
set_option linter.unusedVariables false
theorem cellsD_set : ∀ (d : List Dr) (j : Nat) (x : Int), j < d.length → (cellsD d).set (j * 3 + 2) (.int .i64 x) = cellsD (d.set j (ds d j, dn d j, x))
  | y :: d, 0, x, h => rfl
  | y :: d, j + 1, x, h => by
    have := cellsD_set d j x (by simpa using h)
    rw [cellsD_cons, show (j + 1) * 3 + 2 = j * 3 + 2 + 1 + 1 + 1 by omega]
    have e1 : ds (y :: d) (j + 1) = ds d j := by simp [ds]
    have e2 : dn (y :: d) (j + 1) = dn d j := by simp [dn]
    rw [e1, e2]
    simp only [List.set_cons_succ, cellsD_cons, this]
theorem set_rows {w w4 w7 : World} {d : List Dr} {L j g7 c7 : Nat} {x : Int} {o p : Value} (hL : L = d.length) (hj : j < L) (hz : w.heap.size + 1 < w4.heap.size)
    (h : w7.ownsRow w4.heap.size 52 3 (.slice (some ⟨g7, 0, none⟩) (0 + L) c7) (0 + L) ([] ++ cellsD d)) :
    OwnD (((w7.setCell ⟨g7, j * 3 + 2, none⟩ (.int .i64 x)).setCell ⟨w.heap.size + 1, 0, none⟩ o).setCell ⟨w.heap.size + 1, 1, none⟩ p) (.slice (some ⟨g7, 0, none⟩) (0 + L) c7) (d.set j (ds d j, dn d j, x)) := by
  have hg : w4.heap.size ≤ g7 := (h.lt g7 rfl).1
  have h2 := own_set h (j * 3 + 2) (.int .i64 x)
  rw [List.nil_append, cellsD_set d j x (by omega)] at h2
  unfold OwnD
  rw [List.length_set, ← hL]
  rw [Nat.zero_add] at h2 ⊢
  refine own_stays (own_base h2) (fun g hg' => ?_)
  simp [Value.ownBlock] at hg'
  subst hg'
  rw [set_other _ _ (by omega), set_other _ _ (by omega)]
set_option maxHeartbeats 8000000 in
set_option maxRecDepth 100000 in
theorem rset_okL (m : Nat) (a : Option Addr) (cap L : Nat) (d : List Dr) (hL : L = d.length) (s : ByteArray) (x : Int) (w : World) (ho : OwnD w (.slice a L cap) d) (hl : L ≤ 65536) (hb : badB s = false) (j : Nat) (hj : findD d s = j) (hjl : j < L) : Calls Tryd.prog 14 #[.agg #[.int .i64 (m : Int), .slice a L cap], .string s, .int .i64 x] w fun e w' => ∃ v', e = .returned (.tuple #[.agg #[.int .i64 (m : Int), v'], .int .i64 0]) ∧ OwnD w' v' (d.set j (ds d j, dn d j, x)) ∧ Below w.heap.size w w' := by
  obtain ⟨i0, hi0, hz0, hz1, hz2⟩ := info_parts infoD
  have C := hid (fun W => rbad_any s W (maxLen_of hb))
  rw [hb] at C
  have hi : ItD w a cap d := own_itemsD (by rw [← hL]; exact ho)
  have F := hid (fun W h => findL hL (w := w) (W := W) (m : Int) s hi (by omega) h)
  have HO := hid ho
  rw [hj] at F
  have BO := Bp.mk2 w m (.slice a L cap) 35
  have HL := hid hL
  rcases own_form ho with ⟨e0, h0⟩ | ⟨g, cap', e0, hle, hmx, hg⟩
  · omega
  injection e0 with e1 e2 e3
  clear e2 hle hmx hi hb hj ho hL
  subst e1 e3
  have SRC := hid (fun W (h : Below w.heap.size w W) => (HO.out.low h).cells (g := g) rfl)
  generalize hQ : (fun e w' => ∃ v', e = Ending.returned (.tuple #[.agg #[.int .i64 (m : Int), v'], .int .i64 0]) ∧ OwnD w' v' (d.set j (ds d j, dn d j, x)) ∧ Below w.heap.size w w') = Q
  have HQ := hid hQ
  clear hQ
  go_enter Tryd.func14, Tryd.ntmps14
  go_wp2_with fail
  generalize (w.alloc _).alloc _ = W at *
  refine (C.out _).mono ?_
  rintro e w2 ⟨rfl, hww⟩; subst hww
  have t1 := BO.c1
  have t2 := BO.c2
  have BH := hid BO
  clear BO
  go_wp2_with (first
    | (go_at_call 35
       refine (F.out _ BH.out.lo).mono ?_
       rintro e w4 ⟨rfl, hb3⟩
       have B4 := BH.out.low hb3
       clear t1 t2 hb3
       have d1 := B4.c1
       have d2 := B4.c2
       have d0 := B4.sz
       have d3 := (B4.low (w := w) ((Below.refl _ w4).alloc (Nat.le_refl _) (Obj.cells #[] 52 (0, 0)))).c2
       have SR := hid (SRC.out (w4.alloc (Obj.cells #[] 52 (0, 0))) (B4.lo.alloc (by omega) _))
       have CL := hid (show (cellsD d).length = L * 3 by rw [cellsD_len, HL.out])
       have HB4 := hid B4
       clear B4 SRC BH F C)
    | (at_builtin
       refine wpList_append_own _ rfl _ _ 33 rfl w4.heap.size 52 i0 (.agg #[.int .i64 0, .string ByteArray.empty, .int .i64 0]) 3 32 Tryd.underlying33 hi0 hz0 hz1 hz2 rfl (by decide) _ 0 [] rfl (World.ownsRow_made w4 #[] 0 (Nat.le_refl _) (Nat.zero_le _) rfl) ⟨g, 0, none⟩ L cap (cellsD d) rfl CL.out SR.out (cellsD_oneCell d) (by unfold maxLen; omega) (by omega) (by simp) ?_
       intro v5 w5 hown5 hgrow5 hnil5
       clear hnil5 d1 d2 d3
       have b5 : Below w4.heap.size w4 w5 := fresh_grown hgrow5
       obtain ⟨g7, c7, e7⟩ := own_some hown5 (by omega)
       subst e7
       have d1 := (HB4.out.low b5).c1
       have q3 := (HB4.out.low b5).c3
       have q4 := (HB4.out.low b5).c4
       have q5 := (HB4.out.low b5).f3
       have q6 := (HB4.out.low b5).f4
       have GG := (hown5.lt g7 rfl)
       have L7 := hid (HB4.out.low b5).lo
       have k1 : w5.cell? ⟨g7, j * 3 + 2, none⟩ = some (.int .i64 (dl d j)) := by
         have := hown5.cells (g := g7) rfl _ _ (cellsD_at d j (by rw [← HL.out]; exact hjl)).2.2
         rw [Go.WideShapes.add_plain] at this
         simpa using this
       have k2 : w5.frozen? ⟨g7, j * 3 + 2, none⟩ = false := own_fz hown5 _
       have O7 := hid hown5
       clear hown5 hgrow5 b5))
  (try simp only [Exit.inBlock, Exit.then])
  rw [← HQ.out]
  refine bodyPost_ret (v := .tuple #[.agg #[.int .i64 (m : Int), .slice (some ⟨g7, 0, none⟩) (0 + L) c7], .int .i64 0]) ?_ rfl ⟨_, rfl, ?_, ?_⟩
  · rw [results_cell_tmp rfl]
    go_simp
  · exact set_rows (o := .int .i64 (m : Int)) HL.out hjl d0 O7.out
  · exact below_set (below_set (below_set L7.out _ _ _ (by omega)) _ _ _ (Nat.le_succ _)) _ _ _ (Nat.le_succ _)
end Go.Proofs.YtfkijmmflpnncaaDoor.L
