import Derived.Test.YtfkijmmflpnncaaDoorMgAG
namespace Go.Proofs.YtfkijmmflpnncaaDoor.L
open Go.RowKit Bs Go.Maps
set_option linter.unusedVariables false
theorem rowsD {w : World} {g L cap : Nat} {d : List Dr} (hL : L = d.length) (h : OwnD w (.slice (some ⟨g, 0, none⟩) L cap) d) : ∀ j, j < L → w.cell? ⟨g, j * 3, none⟩ = some (.int .i64 (ds d j : Int)) ∧ w.cell? ⟨g, j * 3 + 1, none⟩ = some (.string (dn d j)) ∧ w.cell? ⟨g, j * 3 + 2, none⟩ = some (.int .i64 (dl d j)) := by
  intro j hj
  subst hL
  obtain ⟨a, b, c⟩ := cellsD_at d j hj
  have A := h.cells (g := g) rfl _ _ a
  have B := h.cells (g := g) rfl _ _ b
  have C := h.cells (g := g) rfl _ _ c
  rw [Go.WideShapes.add_plain] at A B C
  simp at A B C
  exact ⟨A, B, C⟩
def qD (d : List Dr) (j k : Nat) : List Dr := (d.take k).eraseIdx j
theorem qD_zero (d : List Dr) (j : Nat) : qD d j 0 = [] := by simp [qD]
theorem qD_all (d : List Dr) (j : Nat) : qD d j d.length = d.eraseIdx j := by simp [qD]
theorem row_at {d : List Dr} {k : Nat} (h : k < d.length) : d[k] = (ds d k, dn d k, dl d k) := by rw [ds_at h, dn_at h, dl_at h]
theorem qD_le (d : List Dr) (j k : Nat) : (qD d j k).length ≤ d.length := by
  unfold qD
  rw [List.length_eraseIdx]
  split <;> simp <;> omega
theorem qD_next {d : List Dr} {j k : Nat} (h : k < d.length) (hj : k ≠ j) : qD d j (k + 1) = qD d j k ++ [(ds d k, dn d k, dl d k)] := by
  unfold qD
  rw [List.take_add_one, List.getElem?_eq_getElem h, ← row_at h]
  simp only [Option.toList]
  have hl : (d.take k).length = k := by simp; omega
  by_cases c : j < k
  · rw [List.eraseIdx_append_of_lt_length (by omega)]
  · rw [List.eraseIdx_append_of_length_le (by omega), List.eraseIdx_of_length_le (l := d.take k) (by omega), List.eraseIdx_of_length_le (by simp; omega)]
theorem qD_same {d : List Dr} {j : Nat} (h : j < d.length) : qD d j (j + 1) = qD d j j := by
  unfold qD
  have hl : (d.take j).length = j := by simp; omega
  rw [List.take_add_one, List.getElem?_eq_getElem h, List.eraseIdx_append_of_length_le (by omega), List.eraseIdx_of_length_le (l := d.take j) (by omega), hl, Nat.sub_self]
  simp
theorem drop_rows {w w4 w7 : World} {v : Value} {q : List Dr} {o p : Value} (hz : w.heap.size + 1 < w4.heap.size) (h : w7.ownsRow w4.heap.size 52 3 v q.length (cellsD q)) :
    OwnD ((w7.setCell ⟨w.heap.size + 1, 0, none⟩ o).setCell ⟨w.heap.size + 1, 1, none⟩ p) v q :=
  own_stays (own_base h) (fun g hg => by
    have := (h.lt g hg).1
    rw [set_other _ _ (by omega), set_other _ _ (by omega)])
set_option maxHeartbeats 8000000 in
set_option maxRecDepth 100000 in
theorem rdrop_okL (m : Nat) (a : Option Addr) (cap L : Nat) (d : List Dr) (hL : L = d.length) (s : ByteArray) (w : World) (ho : OwnD w (.slice a L cap) d) (hl : L ≤ 65536) (hb : badB s = false) (j : Nat) (hj : findD d s = j) (hjl : j < L) : Calls Tryd.prog 17 #[.agg #[.int .i64 (m : Int), .slice a L cap], .string s] w fun e w' => ∃ v', e = .returned (.tuple #[.agg #[.int .i64 (m : Int), v'], .int .i64 (ds d j : Int), .int .i64 0]) ∧ OwnD w' v' (d.eraseIdx j) ∧ Below w.heap.size w w' := by
  obtain ⟨i0, hi0, hz0, hz1, hz2⟩ := info_parts infoD
  have C := hid (fun W => rbad_any s W (maxLen_of hb))
  rw [hb] at C
  have hi : ItD w a cap d := own_itemsD (by rw [← hL]; exact ho)
  have F := hid (fun W h => findL hL (w := w) (W := W) (m : Int) s hi (by omega) h)
  have HO := hid ho
  rw [hj] at F
  have BO := Bp.mk2 w m (.slice a L cap) 35
  have HL := hid hL
  rcases own_form ho with ⟨e0, h0⟩ | ⟨g, cap', e0, hle, hmx, hg⟩
  · omega
  injection e0 with e1 e2 e3
  clear e2 hle hmx hi hb hj ho hL
  subst e1 e3
  have SRC := hid (fun W (h : Below w.heap.size w W) => rowsD HL.out (HO.out.low h))
  generalize hQ : (fun e w' => ∃ v', e = Ending.returned (.tuple #[.agg #[.int .i64 (m : Int), v'], .int .i64 (ds d j : Int), .int .i64 0]) ∧ OwnD w' v' (d.eraseIdx j) ∧ Below w.heap.size w w') = Q
  have HQ := hid hQ
  clear hQ
  go_enter Tryd.func17, Tryd.ntmps17
  go_wp2_with fail
  generalize (w.alloc _).alloc _ = W at *
  refine (C.out _).mono ?_
  rintro e w2 ⟨rfl, hww⟩; subst hww
  have t1 := BO.c1
  have t2 := BO.c2
  have BH := hid BO
  clear BO
  go_wp2_with (first
    | (go_at_call 35
       refine (F.out _ BH.out.lo).mono ?_
       rintro e w4 ⟨rfl, hb3⟩
       have B4 := BH.out.low hb3
       clear t1 t2 hb3
       have d1 := B4.c1
       have d2 := B4.c2
       have d0 := B4.sz
       have HB4 := hid B4
       clear B4 BH F C))
  have b0 : Below w4.heap.size w4 (w4.alloc (Obj.cells #[] 52 (0, 0))) := (Below.refl _ w4).alloc (Nat.le_refl _) _
  have BL := hid (HB4.out.low b0)
  have OL : Hid (Below w4.heap.size w4 (w4.alloc (Obj.cells #[] 52 (0, 0))) ∧ (w4.alloc (Obj.cells #[] 52 (0, 0))).ownsRow w4.heap.size 52 3 (.slice (some ⟨w4.heap.size, 0, none⟩) 0 0) (qD d j 0).length (cellsD (qD d j 0))) := hid ⟨b0, by rw [qD_zero]; exact World.ownsRow_made w4 #[] 0 (Nat.le_refl _) (Nat.zero_le _) rfl⟩
  clear b0 d1 d2
  rw [show decide ((j : Int) < 0) = false from decide_eq_false (by omega)]
  go_loopw [8, 9] (fun v i wr => ∃ k : Nat, k ≤ L ∧ i = .int .i64 k ∧ Hid (Bp w wr m (.slice (some ⟨g, 0, none⟩) L cap)) ∧ Hid (Below w4.heap.size w4 wr ∧ wr.ownsRow w4.heap.size 52 3 v (qD d j k).length (cellsD (qD d j k)))) (fun _ i _ => L - (intOf i).toNat)
  case atStart => exact ⟨0, Nat.zero_le _, rfl, BL, OL⟩
  case round =>
    clear BL OL
    obtain ⟨k, hk, rfl, HB, HR⟩ := hrel
    have c1 := HB.out.c1
    have c2 := HB.out.c2
    by_cases hlt : k < L
    · by_cases hkj : k = j
      · subst hkj
        have SM := hid (qD_same (d := d) (j := k) (by rw [← HL.out]; exact hlt))
        go_wp2_with fail
        exact ⟨⟨k + 1, by omega, by go_num, HB, hid ⟨HR.out.1, by rw [SM.out]; exact HR.out.2⟩⟩, by simp [intOf]; omega⟩
      · have hkj' : ((k : Int) == (j : Int)) = false := beq_eq_false_iff_ne.2 (by omega)
        have NX := hid (qD_next (d := d) (j := j) (k := k) (by rw [← HL.out]; exact hlt) hkj)
        have LE := qD_le d j k
        rw [← HL.out] at LE
        obtain ⟨r0, r1, r2⟩ := SRC.out wr HB.out.lo k hlt
        have hsz := HR.out.1.size
        generalize hn : (qD d j k).length = n at *
        have HN := hid hn
        clear hn
        go_wp2_with (at_builtin
                     refine wpList_append_own _ rfl _ _ 33 rfl w4.heap.size 52 i0 (.agg #[.int .i64 0, .string ByteArray.empty, .int .i64 0]) 3 32 Tryd.underlying33 hi0 hz0 hz1 hz2 rfl (by decide) _ _ _ rfl (HR.out.2.alloc _) ⟨wr.heap.size, 0, none⟩ 1 1 [.int .i64 (ds d k : Int), .string (dn d k), .int .i64 (dl d k)] rfl rfl (cell_three_new _ _ _ _ _) (fun u hu => by simp at hu; rcases hu with rfl | rfl | rfl <;> rfl) (by unfold maxLen; omega) (by omega) (by simp; omega) ?_
                     intro v7 w7 hown7 hgrow7 hnil7
                     clear hnil7)
        have b7 := own_grown hsz HR.out.1 HR.out.2 hgrow7
        exact ⟨⟨k + 1, by omega, by go_num, hid (HB4.out.low b7), hid ⟨b7, by rw [NX.out, List.length_append, cellsD_app, HN.out]; exact hown7⟩⟩, by simp [intOf]; omega⟩
    · obtain rfl : k = L := by omega
      obtain ⟨r0, r1, r2⟩ := SRC.out wr HB.out.lo j hjl
      have q3 := HB.out.c3
      have q4 := HB.out.c4
      have q5 := HB.out.f3
      have q6 := HB.out.f4
      have ER := hid (show qD d j k = d.eraseIdx j by rw [HL.out]; exact qD_all d j)
      rw [ER.out] at HR
      have LO := hid HB.out.lo
      rcases own_form HR.out.2 with ⟨e7, h7⟩ | ⟨g7, c7, e7, h71, h72, h73⟩
      · subst e7
        clear h7
        go_wp2_with fail
        go_region
        go_wp2_with fail
        (try simp only [Exit.inBlock, Exit.then])
        rw [← HQ.out]
        refine bodyPost_ret (v := .tuple #[.agg #[.int .i64 (m : Int), .slice none 0 0], .int .i64 (ds d j : Int), .int .i64 0]) ?_ rfl ⟨_, rfl, ?_, ?_⟩
        · rw [results_cell_tmp3 rfl]
          go_simp
        · exact drop_rows (o := .int .i64 (m : Int)) (w7 := wr.drew) d0 HR.out.2
        · exact below_set (below_set (w := wr.drew) LO.out.drew _ _ _ (Nat.le_succ _)) _ _ _ (Nat.le_succ _)
      · subst e7
        clear h71 h72 h73
        have R2 := hid HR.out.2
        clear HR
        generalize hn : (d.eraseIdx j).length = n at *
        have HN := hid hn
        clear hn
        go_wp2_with fail
        go_region
        go_wp2_with fail
        (try simp only [Exit.inBlock, Exit.then])
        rw [← HQ.out]
        refine bodyPost_ret (v := .tuple #[.agg #[.int .i64 (m : Int), .slice (some ⟨g7, 0, none⟩) n c7], .int .i64 (ds d j : Int), .int .i64 0]) ?_ rfl ⟨_, rfl, ?_, ?_⟩
        · rw [results_cell_tmp3 rfl]
          go_simp
        · exact drop_rows (o := .int .i64 (m : Int)) (w7 := wr.drew) d0 (by rw [HN.out]; exact R2.out)
        · exact below_set (below_set (w := wr.drew) LO.out.drew _ _ _ (Nat.le_succ _)) _ _ _ (Nat.le_succ _)
end Go.Proofs.YtfkijmmflpnncaaDoor.L
