import Derived.Test.YtlhlpamciafocaaGreatDoorMgBE
namespace Go.Proofs.YtlhlpamciafocaaGreatDoor.L.Sw
open Go.RowKit Go.Shelf
set_option linter.unusedVariables false
/-- A row of texts of one's own. -/
abbrev tcells (l : List (List UInt8)) : List Value := l.map (fun x => Value.string (S x))
abbrev OwnS (w : World) (base : Nat) (v : Value) (l : List (List UInt8)) : Prop := w.ownsRow base 9 1 v l.length (tcells l)
theorem owns_set {W : World} {base g L cap : Nat} {zs : List (List UInt8)} (h : OwnS W base (.slice (some ⟨g, 0, none⟩) L cap) zs) (hL : L = zs.length) (x : Nat) (v : List UInt8) :
    OwnS (W.setCell ⟨g, x, none⟩ (.string (S v))) base (.slice (some ⟨g, 0, none⟩) L cap) (zs.set x v) ∧ W.grownBy (W.setCell ⟨g, x, none⟩ (.string (S v))) (some g) := by
  subst hL
  have := World.ownsRow.stored h x (.string (S v))
  refine ⟨?_, this.2⟩
  unfold OwnS tcells
  rw [List.length_set, List.map_set]
  exact this.1
theorem owns_cell {W : World} {base g L cap : Nat} {zs : List (List UInt8)} (h : OwnS W base (.slice (some ⟨g, 0, none⟩) L cap) zs) (hL : L = zs.length) (j : Nat) (hj : j < L) : W.cell? ⟨g, j, none⟩ = some (.string (S (zs.getD j []))) ∧ W.frozen? ⟨g, j, none⟩ = false := by
  subst hL
  refine ⟨?_, World.ownsRow.frozenAt h j⟩
  rw [World.ownsRow.cellAt h j (by omega), List.getElem?_map, List.getElem?_eq_getElem hj, List.getD_eq_getElem?_getD, List.getElem?_eq_getElem hj]
  rfl
theorem owns_made (w : World) (n base : Nat) (hn : n ≤ 1000) (hb : base ≤ w.heap.size) : OwnS (w.alloc (.cells (madeCells #[.string ⟨#[]⟩] n) 9)) base (.slice (some ⟨w.heap.size, 0, none⟩) n n) (List.replicate n []) := by
  have h := World.ownsRow_lit (base := base) (e := 9) (size := 1) w (madeCells #[.string ⟨#[]⟩] n) n hb (by unfold maxLen; omega) (by rw [size_madeCells]; simp)
  unfold OwnS tcells
  rw [List.length_replicate, List.map_replicate, ← toList_madeCells_one]
  exact h
theorem owns_low {w w' : World} {base : Nat} {v : Value} {zs : List (List UInt8)} (h : OwnS w base v zs) (hk : Below w.heap.size w w') : OwnS w' base v zs :=
  World.ownsRow.kept (row := none) h ⟨hk.os, hk.tape, hk.output, hk.size, fun k hkl _ => hk.block k hkl⟩ (by cases v.ownBlock <;> simp)
theorem owns_lt {w : World} {base g L cap : Nat} {zs : List (List UInt8)} (h : OwnS w base (.slice (some ⟨g, 0, none⟩) L cap) zs) : base ≤ g ∧ g < w.heap.size := by
  rcases h.2 with ⟨e, _⟩ | ⟨g', cap', cur, e, hb, hg, _⟩
  · cases e
  · cases e
    exact ⟨hb, lt_blk hg⟩
end Go.Proofs.YtlhlpamciafocaaGreatDoor.L.Sw
namespace Go.Proofs.YtlhlpamciafocaaGreatDoor.L.Sw
open Go.RowKit Go.Shelf
set_option linter.unusedVariables false
def kx (l : List (List UInt8)) (k : Nat) : List (List UInt8) := l.take k ++ List.replicate (l.length - k) []
theorem kx_len (l : List (List UInt8)) (k : Nat) (h : k ≤ l.length) : (kx l k).length = l.length := by
  simp [kx]
  omega
theorem kx_set (l : List (List UInt8)) (k : Nat) (h : k < l.length) (v : List UInt8) (hv : l[k]? = some v) : (kx l k).set k v = kx l (k + 1) := by
  apply List.ext_getElem?
  intro j
  have h1 := kx_len l k (by omega)
  by_cases e : j = k
  · subst e
    rw [List.getElem?_set_self (by omega)]
    unfold kx
    rw [List.getElem?_append_left (by simp; omega), List.getElem?_take_of_lt (by omega), hv]
  · rw [List.getElem?_set_ne (by omega)]
    unfold kx
    by_cases e2 : j < k
    · rw [List.getElem?_append_left (by simp; omega), List.getElem?_append_left (by simp; omega), List.getElem?_take_of_lt e2, List.getElem?_take_of_lt (by omega)]
    · rw [List.getElem?_append_right (by simp; omega), List.getElem?_append_right (by simp; omega)]
      simp only [List.getElem?_replicate, List.length_take]
      by_cases e3 : j < l.length
      · rw [if_pos (by omega), if_pos (by omega)]
      · rw [if_neg (by omega), if_neg (by omega)]
theorem kx_all (l : List (List UInt8)) : kx l l.length = l := by simp [kx]
theorem kx_zero (l : List (List UInt8)) : kx l 0 = List.replicate l.length [] := by simp [kx]
set_option maxHeartbeats 8000000 in
set_option maxRecDepth 100000 in
theorem kid_any (a : Option Addr) (T : List Pt) (cap : Nat) (p : Pt) (ka : Option Addr) (kc gt n i : Nat) (X : List (List UInt8)) (w : World)
    (hT : PL w a T) (hk : RdI w ka p.kids) (hin : ∀ x, x ∈ p.kids → 0 ≤ x ∧ x < i) (hi : i ≤ T.length) (hL : T.length ≤ 1000) (hl : p.kids.length ≤ 1000) (hn : i ≤ n) (hn1 : n ≤ 1000)
    (hX : ∀ j, j < i → w.cell? ⟨gt, j, none⟩ = some (.string (S (X.getD j [])))) (hgt : gt < w.heap.size) (hs : ∀ j, j < i → (X.getD j []).length ≤ 4096) :
    Calls Tryz.prog 31 #[.slice a T.length cap, .slice (some ⟨gt, 0, none⟩) n n, .agg #[.int .i64 p.kind, .string p.text, .int .i64 p.num, .slice ka p.kids.length kc]] w fun e w' => ∃ g, e = .returned (.slice (some ⟨g, 0, none⟩) p.kids.length p.kids.length) ∧ Kd w' g (ksL T X p) ∧ Below w.heap.size w w' := by
  obtain ⟨kd, tx, nu, ks⟩ := p
  simp only at *
  have HKL := hid (show ksL T X ⟨kd, tx, nu, ks⟩ = ks.map (kidL T X kd) from rfl)
  obtain ⟨m, hm⟩ : ∃ m, m = ks.length := ⟨_, rfl⟩
  obtain ⟨L, hLe⟩ : ∃ L, L = T.length := ⟨_, rfl⟩
  have HT := hid hT
  have HK := hid hk
  have HIN := hid hin
  have HN := hid hm
  have HL := hid hLe
  have HXC := hid hX
  have HGT := hid hgt
  have HS := hid hs
  have HGR := hid grouped_any
  have HML := hid (show (ks.map (kidL T X kd)).length = m by rw [List.length_map, hm])
  rw [← hm] at hl ⊢
  rw [← hLe] at hL hi ⊢
  clear hT hk hin hm hLe hX hgt hs
  have MK := fun W => make_txt m hl W
  have HB0 := hid (belowA w (.cells #[.int .i64 kd, .string tx, .int .i64 nu, .slice ka m kc] 50))
  have HX0 := hid (heap_alloc_new w (.cells #[.int .i64 kd, .string tx, .int .i64 nu, .slice ka m kc] 50))
  have HS0 := hid (show (w.alloc (.cells #[.int .i64 kd, .string tx, .int .i64 nu, .slice ka m kc] 50)).heap.size = w.heap.size + 1 by simp)
  go_enter Tryz.func31, Tryz.ntmps31
  go_upto_region 1 with (fail)
  generalize hY0 : w.alloc (.cells #[.int .i64 kd, .string tx, .int .i64 nu, .slice ka m kc] 50) = Y at *
  clear hY0
  have ⟨x0, x1, x2, x3⟩ := cells4 HX0.out
  have OV := hid (owns_made Y m Y.heap.size hl (Nat.le_refl _))
  have BV := hid (belowA Y (.cells (madeCells #[.string ⟨#[]⟩] m) 9))
  go_upto_region 2 with (fail)
  generalize hVe : Y.alloc (.cells (madeCells #[.string ⟨#[]⟩] m) 9) = V at *
  clear hVe MK x0 x1 x2 x3
  have ⟨x0, x1, x2, x3⟩ := cells4 ((BV.out.block _ (lt_blk HX0.out)).trans HX0.out)
  have HWG := hid (show w.heap.size < Y.heap.size by rw [HS0.out]; omega)
  have HB0' := hid (show w.heap.size ≤ Y.heap.size by rw [HS0.out]; omega)
  generalize hge : Y.heap.size = g at *
  have HGE := hid hge
  clear hge
  go_wp2_with fail
  clear x0 x1 x2 x3
  go_loopw [17] (fun i wr => ∃ k : Nat, k ≤ m ∧ i = .int .i64 k ∧ Hid (Below g Y wr) ∧ Hid (OwnS wr g (.slice (some ⟨g, 0, none⟩) m m) (kx (ks.map (kidL T X kd)) k))) (fun i _ => m - (intOf i).toNat)
  case atStart => exact ⟨0, Nat.zero_le _, rfl, BV, hid (by rw [kx_zero, HML.out]; exact OV.out)⟩
  case round =>
    obtain ⟨k, hk, rfl, HB, OW⟩ := hrel
    have HBW := hid (show Below w.heap.size w wr from HB0.out.trans (HB.out.mono HB0'.out))
    by_cases hlt : k < m
    · have r1 := HK.out.low HBW.out (Nat.le_refl _)
      have r2 := HT.out.low HBW.out
      rcases r1 with h0 | ⟨b1, o1, rfl, hb1, hc1⟩
      · have := HN.out; omega
      have hkn : k < ks.length := by rw [← HN.out]; exact hlt
      have p0 := hc1 k hkn
      have hmem : ks.getD k 0 ∈ ks := by rw [List.getD_eq_getElem?_getD, List.getElem?_eq_getElem hkn]; exact List.getElem_mem hkn
      have hx := HIN.out _ hmem
      obtain ⟨x, hxe⟩ : ∃ x : Nat, ks.getD k 0 = x := ⟨(ks.getD k 0).toNat, by omega⟩
      rw [hxe] at p0 hx
      have HXE := hid hxe
      rcases r2 with h0 | ⟨b2, o2, rfl, hb2, hc2⟩
      · have := HL.out; omega
      have hxi : x < i := by omega
      obtain ⟨_, _, q0, _⟩ := hc2 x (by have := HL.out; omega)
      have q1 := (HBW.out.cell (p := ⟨gt, x, none⟩) HGT.out).trans (HXC.out x hxi)
      have hsl := HS.out x hxi
      generalize hkk : (pt T x).kind = kk at *
      generalize hu : X.getD x [] = u at *
      have HVAL := hid (show (ks.map (kidL T X kd))[k]? = some (if brB kd kk then [40] ++ (u ++ [41]) else u) by
        rw [List.getElem?_map, List.getElem?_eq_getElem hkn]
        have hz2 := hxe
        rw [List.getD_eq_getElem?_getD, List.getElem?_eq_getElem hkn] at hz2
        simp only [Option.getD_some] at hz2
        rw [hz2]
        simp only [Option.map_some, kidL, Int.toNat_natCast, hkk, hu])
      have HKLN := hid (show (kx (ks.map (kidL T X kd)) k).length = m by rw [kx_len _ _ (by rw [HML.out]; exact hk), HML.out])
      have HSET := hid (fun v hv => kx_set (ks.map (kidL T X kd)) k (by rw [HML.out]; exact hlt) v hv)
      have c2 := (owns_cell OW.out HKLN.out.symm k hlt).1
      have f2 := (owns_cell OW.out HKLN.out.symm k hlt).2
      generalize hz : kx (ks.map (kidL T X kd)) k = zs at *
      generalize zs.getD k [] = v0 at *
      clear hz
      have hx1 := (HB.out.block _ HWG.out).trans HX0.out
      have ⟨x0, x1, x2, x3⟩ := cells4 hx1
      have g1 : (k : Int) < (m : Int) := by omega
      have g2 : (0 : Int) ≤ (k : Int) := by omega
      have g3 : (x : Int) < (L : Int) := by have := HL.out; omega
      have g4 : (0 : Int) ≤ (x : Int) := by omega
      have g5 : (x : Int) < (n : Int) := by omega
      have HJ1 := hid (show k + 1 ≤ m by omega)
      have HGW := hid (owns_lt OW.out).2
      have HGTW := hid (show gt < g from Nat.lt_of_lt_of_le HGT.out HB0'.out)
      have HKK := hid hkk
      clear hc1 hc2 hmem hx hxe hkn hkk hu hxi hx1
      go_upto_region 6 with (fail)
      have S1 := owns_set OW.out HKLN.out.symm k u
      have HB3 := hid (show Below g Y (wr.setCell ⟨g, k, none⟩ (.string (S u))) from HB.out.grown S1.2 (Nat.le_of_lt HGW.out) (fun j e => by cases e; exact Nat.le_refl _))
      have O3 := hid S1.1
      have HL3 := hid (show m = (zs.set k u).length by rw [List.length_set, HKLN.out])
      clear S1 c2 f2 x0 x1 x2 x3 q0 q1 p0
      generalize wr.setCell ⟨g, k, none⟩ (.string (S u)) = W1 at *
      have hx2 := (HB3.out.block _ HWG.out).trans HX0.out
      have ⟨x0, x1, x2, x3⟩ := cells4 hx2
      have HBW1 := hid (show Below w.heap.size w W1 from HB0.out.trans (HB3.out.mono HB0'.out))
      have r3 := HT.out.low HBW1.out
      rcases r3 with h0 | ⟨b3', o3', e3, hb3, hc3⟩
      · have := HL.out; omega
      cases e3
      obtain ⟨_, _, q0, _⟩ := hc3 x (by have := HL.out; omega)
      rw [HKK.out] at q0
      clear hc3 x1 x2 x3 hx2
      have HW := hid (fun (W : World) => write_any W.heap.size [[40], u, [41]] 3 (W.alloc (.cells ([[40], u, [41]].map (fun x => Value.string (S x))).toArray 9)) rfl (new_txt W _) (by simp) (by simp) (by intro x hx; simp at hx; rcases hx with rfl | rfl | rfl <;> first | omega | simp))
      simp only [List.map_cons, List.map_nil, List.flatten_cons, List.flatten_nil, List.append_nil] at HW
      go_region_held3 (fun Z => Z.cell? ⟨w.heap.size, 0, none⟩ = some (.int .i64 kd) ∧ Z.cell? ⟨b2, o2 + x * 4, none⟩ = some (.int .i64 kk)) (first | exact ⟨x0, q0⟩ | go_keep | assumption) (first | (go_at_call 49; refine (HGR.out _ _ _).mono ?_; rintro e w1 ⟨rfl, hww⟩; have hw2 := hww.symm; clear hww; subst hw2))
      have HB4 := hid (show Below g Y W1.drew from HB3.out.drew)
      have O4 := hid (show OwnS W1.drew g (.slice (some ⟨g, 0, none⟩) m m) (zs.set k u) from owns_low O3.out (Below.refl _ _).drew)
      clear x0 q0 hb3
      rename_i hHeld
      clear hHeld
      generalize W1.drew = W2 at *
      cases hbr : brB kd kk
      · have HV1 := hid (HVAL.out)
        rw [hbr] at HV1
        have HBR := hid hbr
        clear hbr
        go_wp2_with fail
        refine ⟨⟨k + 1, HJ1.out, by go_num, HB4, hid (by rw [← HSET.out u HV1.out]; exact O4.out)⟩, ?_⟩
        have h3 := HJ1.out
        simp [intOf]
        omega
      · have HV1 := hid (HVAL.out)
        rw [hbr] at HV1
        have HBR := hid hbr
        clear hbr
        have c4 := (owns_cell O4.out HL3.out k hlt).1
        rw [show (zs.set k u).getD k [] = u by rw [List.getD_eq_getElem?_getD, List.getElem?_set_self (by rw [HKLN.out]; exact hlt)]; rfl] at c4
        go_wp2_with (go_at_call 42; refine (HW.out _).mono ?_; rintro e w2 ⟨rfl, l2⟩; have M2 := hid (show Below W2.heap.size W2 w2 from bch (belowA W2 _) l2); clear l2; have O5 := hid (owns_low O4.out M2.out); have c5 := (owns_cell O5.out HL3.out k hlt).1; have f5 := (owns_cell O5.out HL3.out k hlt).2)
        have S5 := owns_set O5.out HL3.out k ([40] ++ (u ++ [41]))
        rw [List.set_set] at S5
        have HGW2 := (owns_lt O5.out).2
        have hg2 := (owns_lt O4.out).2
        have HB6 := hid (show Below g Y (w2.setCell ⟨g, k, none⟩ (.string (S ([40] ++ (u ++ [41]))))) from (HB4.out.trans (M2.out.mono (Nat.le_of_lt hg2))).grown S5.2 (Nat.le_of_lt HGW2) (fun j e => by cases e; exact Nat.le_refl _))
        refine ⟨⟨k + 1, HJ1.out, by go_num, HB6, hid (by rw [← HSET.out _ HV1.out]; exact S5.1)⟩, ?_⟩
        have h3 := HJ1.out
        simp [intOf]
        omega
    · obtain rfl : k = m := by omega
      go_wp2_with fail
      go_ret
      refine ⟨g, rfl, ⟨(owns_lt OW.out).2, fun j x hx => ?_⟩, HBW.out⟩
      rw [HKL.out] at hx
      have hO := OW.out
      have hj : j < (ks.map (kidL T X kd)).length := by
        rcases Nat.lt_or_ge j (ks.map (kidL T X kd)).length with h | h
        · exact h
        · rw [List.getElem?_eq_none h] at hx; cases hx
      rw [← HML.out, kx_all] at hO
      have := (owns_cell hO rfl j hj).1
      rw [this, List.getD_eq_getElem?_getD, hx]
      rfl
end Go.Proofs.YtlhlpamciafocaaGreatDoor.L.Sw
namespace Go.Proofs.YtlhlpamciafocaaGreatDoor.L.Sw
open Go.RowKit Go.Shelf
set_option linter.unusedVariables false
theorem txs_take (T : List Pt) (k : Nat) : ∀ {L : Nat}, k ≤ L → (txs T L).take k = txs T k
  | 0, h => by
    obtain rfl : k = 0 := by omega
    rfl
  | L + 1, h => by
    by_cases e : k = L + 1
    · subst e
      rw [List.take_of_length_le (by rw [txs_len]; omega)]
    · rw [txs, List.take_append_of_le_length (by rw [txs_len]; omega)]
      exact txs_take T k (by omega)
theorem kx_get (T : List Pt) {L k j : Nat} (hk : k ≤ L) (hj : j < k) : (kx (txs T L) k).getD j [] = (txs T k).getD j [] := by
  unfold kx
  rw [txs_take T k hk, List.getD_eq_getElem?_getD, List.getElem?_append_left (by rw [txs_len]; exact hj), ← List.getD_eq_getElem?_getD]
set_option maxHeartbeats 8000000 in
set_option maxRecDepth 100000 in
theorem textof_any (a : Option Addr) (T : List Pt) (cap : Nat) (w : World) (hT : PL w a T) (h1 : 1 ≤ T.length) (hL : T.length ≤ 1000) (hok : Ok0 T) (hv : TabW w) :
    Calls Tryz.prog 20 #[.slice a T.length cap] w fun e w' => Below w.heap.size w w' ∧ ((Shrt T T.length ∧ e = .returned (.tuple #[.string (S ((txs T T.length).getD (T.length - 1) [])), .bool true])) ∨ (¬ Shrt T T.length ∧ e = .returned (.tuple #[.string ⟨#[]⟩, .bool false]))) := by
  obtain ⟨L, hLe⟩ : ∃ L, L = T.length := ⟨_, rfl⟩
  have HT := hid hT
  have HL := hid hLe
  have HOK := hid hok
  have HV := hid hv
  rw [← hLe] at h1 hL ⊢
  clear hT hLe hok hv
  have MK := fun W => make_txt L hL W
  have OV := hid (owns_made w L w.heap.size hL (Nat.le_refl _))
  have BV := hid (belowA w (.cells (madeCells #[.string ⟨#[]⟩] L) 9))
  go_enter Tryz.func20, Tryz.ntmps20
  go_upto_region 2 with (fail)
  generalize hVe : w.alloc (.cells (madeCells #[.string ⟨#[]⟩] L) 9) = V at *
  clear hVe MK
  obtain ⟨g, hg⟩ : ∃ g, g = w.heap.size := ⟨_, rfl⟩
  rw [← hg] at OV BV ⊢
  have HG := hid hg
  clear hg
  go_wp2_with fail
  go_loopw [12] (fun i wr => ∃ k : Nat, k ≤ L ∧ i = .int .i64 k ∧ Hid (Below g w wr) ∧ Hid (OwnS wr g (.slice (some ⟨g, 0, none⟩) L L) (kx (txs T L) k)) ∧ Hid (Shrt T k)) (fun i _ => L - (intOf i).toNat)
  case atStart => exact ⟨0, Nat.zero_le _, rfl, BV, hid (by rw [kx_zero, txs_len]; exact OV.out), hid (shrt_zero T)⟩
  case round =>
    obtain ⟨k, hk, rfl, HB, OW, HSH⟩ := hrel
    have HBW := hid (show Below w.heap.size w wr by rw [← HG.out]; exact HB.out)
    have HKLN := hid (show (kx (txs T L) k).length = L by rw [kx_len _ _ (by rw [txs_len]; exact hk), txs_len])
    by_cases hlt : k < L
    · have r2 := HT.out.low HBW.out
      rcases r2 with h0 | ⟨b2, o2, rfl, hb2, hc2⟩
      · have := HL.out; omega
      obtain ⟨ka, kc, q0, q1, q2, q3, rk⟩ := hc2 k (by rw [← HL.out]; exact hlt)
      have HOA := hid (HOK.out k (by rw [← HL.out]; exact hlt))
      obtain ⟨r, hr⟩ : ∃ r, r = ptx T (txs T k) (pt T k) := ⟨_, rfl⟩
      have HR := hid hr
      have HRX := hid (show (txs T L)[k]? = some r by rw [hr]; exact txs_get T k hlt)
      have HPT := hid (show r = txK (pt T k).kind (quoteL (pt T k).text.data.toList) (pt T k).num (ksL T (txs T k) (pt T k)) from hr)
      have HKN := hid (show (ksL T (txs T k) (pt T k)).length = (pt T k).kids.length by unfold ksL; rw [List.length_map])
      have HML := hid (show (pt T k).kids.length ≤ 1000 by have h2 := fre_len T k; have h3 := HOA.out.many; omega)
      have HPE := hid (show pt T k = ⟨(pt T k).kind, (pt T k).text, (pt T k).num, (pt T k).kids⟩ from rfl)
      generalize hkd : (pt T k).kind = kd at *
      generalize htx : (pt T k).text = tx at *
      generalize hnu : (pt T k).num = nu at *
      generalize hks : (pt T k).kids = ks at *
      obtain ⟨mm, hmm⟩ : ∃ mm, mm = ks.length := ⟨_, rfl⟩
      rw [← hmm] at q3
      have HKS := hid (show ∀ x, x ∈ ks → 0 ≤ x ∧ x < (k : Int) from fun x hx => HOA.out.lt (by rw [hks]; exact hx))
      have HTAB := hid HOA.out.tab
      have g1 : (k : Int) < (L : Int) := by omega
      have g2 : (0 : Int) ≤ (k : Int) := by omega
      have HB2 := hid (belowA wr (.cells #[.int .i64 kd, .string tx, .int .i64 nu, .slice ka mm kc] 50))
      have HP2 := hid (heap_alloc_new wr (.cells #[.int .i64 kd, .string tx, .int .i64 nu, .slice ka mm kc] 50))
      have HMM := hid hmm
      have HRK := hid rk
      have HKDE := hid hkd
      have HTXE := hid htx
      have HNUE := hid hnu
      have HKSE := hid hks
      clear hc2 rk hmm hkd htx hnu hks hr
      go_upto_region 5 with (fail)
      have HGW := hid (owns_lt OW.out).2
      have OY := hid (owns_low OW.out HB2.out)
      have HBY := hid (show Below w.heap.size w _ from bch HBW.out HB2.out)
      clear q0 q1 q2 q3
      have HRY := hid (HRK.out.low HB2.out (Nat.le_refl _))
      generalize wr.alloc (.cells #[.int .i64 kd, .string tx, .int .i64 nu, .slice ka mm kc] 50) = Y at *
      generalize hPe : wr.heap.size = P at *
      clear hPe
      have HPL := hid (lt_blk HP2.out)
      have HTY := hid (HT.out.low HBY.out)
      have HGY := hid (owns_lt OY.out).2
      have HKD := hid (show ∀ W, Below Y.heap.size Y W → Calls Tryz.prog 31 #[.slice (some ⟨b2, o2, none⟩) L cap, .slice (some ⟨g, 0, none⟩) L L, .agg #[.int .i64 kd, .string tx, .int .i64 nu, .slice ka mm kc]] W fun e w' => ∃ gk, e = .returned (.slice (some ⟨gk, 0, none⟩) mm mm) ∧ Kd w' gk (ksL T (txs T k) (pt T k)) ∧ Below W.heap.size W w' by
        intro W hW
        have := kid_any (some ⟨b2, o2, none⟩) T cap (pt T k) ka kc g L k (txs T k) W (HTY.out.low hW) (by rw [HKSE.out]; exact HRY.out.low hW (Nat.le_refl _)) (by rw [HKSE.out]; exact HKS.out) (by rw [← HL.out]; omega) (by rw [← HL.out]; exact hL) (by rw [HKSE.out]; exact HML.out) (by omega) hL (by
          intro j hj
          have hc := (owns_cell (owns_low OY.out hW) HKLN.out.symm j (by omega)).1
          rw [kx_get T hk hj] at hc
          exact hc) (Nat.lt_of_lt_of_le HGY.out hW.size) (fun j hj => HSH.out j hj)
        rw [HKDE.out, HTXE.out, HNUE.out, HKSE.out, ← HMM.out, ← HL.out] at this
        exact this)
      have HCT := hid (show ∀ W gk, Kd W gk (ksL T (txs T k) (pt T k)) → TabW W → Calls Tryz.prog 30 #[.agg #[.int .i64 kd, .string tx, .int .i64 nu, .slice ka mm kc], .slice (some ⟨gk, 0, none⟩) mm mm] W fun e w' => e = .returned (.string (S r)) ∧ Below W.heap.size W w' by
        intro W gk hK hV
        have ht := HTAB.out
        unfold tabD at ht
        rw [HKDE.out, HTXE.out, HNUE.out, HKSE.out] at ht
        have := ctext_any kd tx nu (.slice ka mm kc) gk mm (ksL T (txs T k) (pt T k)) W (by rw [HKN.out, HMM.out]) hK (fun x hx => by
          unfold ksL at hx
          obtain ⟨y, _, rfl⟩ := List.mem_map.1 hx
          exact kid_len HSH.out _ _) (by rw [HKN.out]; exact HML.out) hV (by rw [HKN.out]; exact ht.1) ht.2.1 ht.2.2.1 ht.2.2.2.1
        rw [← HPT.out] at this
        exact this)
      have HVY := hid (HV.out.low HBY.out)
      generalize ksL T (txs T k) (pt T k) = KS at *
      have ⟨q0, q1, q2, q3⟩ := cells4 HP2.out
      have hgP : g ≠ P := by have := HGW.out; omega
      clear HB2 HRY HTAB HKS
      go_region_held3 (fun Z => Z.cell? ⟨P, 0, none⟩ = some (.int .i64 kd) ∧ Z.cell? ⟨P, 1, none⟩ = some (.string tx) ∧ Z.cell? ⟨P, 2, none⟩ = some (.int .i64 nu) ∧ Z.cell? ⟨P, 3, none⟩ = some (.slice ka mm kc)) (first | exact ⟨q0, q1, q2, q3⟩ | (refine ⟨?_, ?_, ?_, ?_⟩ <;> assumption) | go_keep)
        (first
          | (go_at_call 31; refine (HKD.out _ (by first | exact (Below.refl _ _).drew | exact Below.refl _ _)).mono ?_; rintro e w1 ⟨gk, rfl, hK, l1⟩; have M1 := hid (show Below Y.heap.size Y w1 from undrew l1); clear l1; have HKd := hid hK; clear hK; have a0 := (M1.out.cell (p := ⟨P, 0, none⟩) HPL.out).trans q0; have a1 := (M1.out.cell (p := ⟨P, 1, none⟩) HPL.out).trans q1; have a2 := (M1.out.cell (p := ⟨P, 2, none⟩) HPL.out).trans q2; have a3 := (M1.out.cell (p := ⟨P, 3, none⟩) HPL.out).trans q3)
          | (go_at_call 30; refine (HCT.out _ gk HKd.out (HVY.out.low M1.out)).mono ?_; rintro e w2 ⟨rfl, l2⟩; have M2 := hid (show Below Y.heap.size Y w2 from bch M1.out l2); clear l2; have a0 := (M2.out.cell (p := ⟨P, 0, none⟩) HPL.out).trans q0; have a1 := (M2.out.cell (p := ⟨P, 1, none⟩) HPL.out).trans q1; have a2 := (M2.out.cell (p := ⟨P, 2, none⟩) HPL.out).trans q2; have a3 := (M2.out.cell (p := ⟨P, 3, none⟩) HPL.out).trans q3; have O5 := hid (owns_low OY.out M2.out); have c5 := (owns_cell O5.out HKLN.out.symm k hlt).1; have f5 := (owns_cell O5.out HKLN.out.symm k hlt).2))
      have S5 := owns_set O5.out HKLN.out.symm k r
      have HGW2 := (owns_lt O5.out).2
      have HB6 := hid (show Below g w (w2.setCell ⟨g, k, none⟩ (.string (S r))) from ((show Below g w w2 by rw [HG.out]; exact bch HBY.out M2.out).grown S5.2 (Nat.le_of_lt HGW2) (fun j e => by cases e; exact Nat.le_refl _)))
      have O6 := hid S5.1
      rw [kx_set (txs T L) k (by rw [txs_len]; exact hlt) r HRX.out] at O6
      clear a0 a1 a2 a3 c5 f5 S5 HGW2 q0 q1 q2 q3 hgP
      rename_i hHeld
      clear hHeld
      generalize w2.setCell ⟨g, k, none⟩ (.string (S r)) = W6 at *
      have HKL6 := hid (show (kx (txs T L) (k + 1)).length = L by rw [kx_len _ _ (by rw [txs_len]; omega), txs_len])
      have c6 := (owns_cell O6.out HKL6.out.symm k hlt).1
      rw [kx_get T (show k + 1 ≤ L by omega) (show k < k + 1 by omega), getD_txs T (show k < k + 1 by omega), ← HR.out] at c6
      have HRS := hid (S_size r)
      generalize S r = R at *
      have HJ1 := hid (show k + 1 ≤ L by omega)
      by_cases hlong : 4096 < R.size
      · go_wp2_with fail
        refine bodyPost_ret (v := .tuple #[.string ⟨#[]⟩, .bool false]) (by simp [results, Tryz.results20]) rfl ⟨by rw [← HG.out]; exact HB6.out, Or.inr ⟨fun hS => ?_, rfl⟩⟩
        have h5 := hS k hlt
        rw [getD_txs T hlt, ← HR.out, ← HRS.out] at h5
        omega
      · go_wp2_with fail
        refine ⟨⟨k + 1, HJ1.out, by go_num, HB6, O6, hid (HSH.out.more (by rw [← HR.out, ← HRS.out]; omega))⟩, ?_⟩
        have h3 := HJ1.out
        simp [intOf]
        omega
    · obtain rfl : k = L := by omega
      obtain ⟨k1, hk1⟩ : ∃ k1, k1 = k - 1 := ⟨_, rfl⟩
      have c0 := (owns_cell OW.out HKLN.out.symm k1 (by omega)).1
      rw [kx_get T (Nat.le_refl k) (show k1 < k by omega)] at c0
      have e1 : ((k : Int) - 1) = (k1 : Int) := by omega
      have g1 : (k1 : Int) < (k : Int) := by omega
      have g2 : (0 : Int) ≤ (k1 : Int) := by omega
      have HSK := hid (show Shrt T k from HSH.out)
      have HRE := hid (show S ((txs T k).getD k1 []) = S ((txs T k).getD (k - 1) []) by rw [hk1])
      generalize S ((txs T k).getD k1 []) = R at *
      clear hk1
      go_wp2_with fail
      exact bodyPost_ret (v := .tuple #[.string R, .bool true]) (by simp [results, Tryz.results20]) rfl ⟨HBW.out, Or.inl ⟨HSK.out, by rw [HRE.out]⟩⟩
end Go.Proofs.YtlhlpamciafocaaGreatDoor.L.Sw
namespace Go.Proofs.YtlhlpamciafocaaGreatDoor.L.Sw
open Go.RowKit Go.Shelf
set_option linter.unusedVariables false
abbrev T0 : List Pt := [⟨1, ⟨#[]⟩, 0, []⟩, ⟨3, ⟨#[]⟩, 0, [0]⟩]
theorem ok0 : Ok0 T0 := by
  intro j hj
  match j, hj with
  | 0, _ => exact ⟨by decide, rfl, rfl, by decide, by decide, by kernel_rfl, fun x hx => by cases hx⟩
  | 1, _ => exact ⟨by decide, rfl, rfl, by decide, by decide, by kernel_rfl, fun x hx => by simp [T0, pt] at hx; subst hx; kernel_rfl⟩
theorem nests0 : nests T0 = [1, 0] := by kernel_rfl
theorem res0 : Res T0 0 0 := by
  refine Or.inr (Or.inr ⟨by decide, by decide, Or.inr (Or.inr ⟨ok0, ?_, Or.inr ⟨?_, rfl, rfl⟩⟩)⟩)
  · rintro (h | h)
    · exact h (by decide)
    · exact absurd h (by decide)
  · intro j hj
    rw [nests0]
    match j, hj with
    | 0, _ => decide
    | 1, _ => decide
theorem nestr0 : NestR T0 1 := by
  refine ⟨fun j hj => ?_, 0, by decide, by rw [nests0]; rfl⟩
  rw [nests0]
  match j, hj with
  | 0, _ => decide
  | 1, _ => decide
theorem gd0 : GdT T0 := ⟨by decide, fun j hj => by
  match j, hj with
  | 0, _ => decide
  | 1, _ => decide⟩
theorem Fx.pl {w : World} {gp gk : Nat} (h : Fx w gp gk) : PL w (some ⟨gp, 0, none⟩) T0 := by
  obtain ⟨p0, p1, p2, p3, p4, p5, p6, p7, k0⟩ := h.cells
  refine Or.inr ⟨gp, 0, rfl, lt_blk h.row, fun j hj => ?_⟩
  match j, hj with
  | 0, _ => exact ⟨none, 0, p0, p1, p2, p3, Or.inl rfl⟩
  | 1, _ =>
    refine ⟨some ⟨gk, 0, none⟩, 1, p4, p5, p6, p7, Or.inr ⟨gk, 0, rfl, lt_blk h.kid, fun i hi => ?_⟩⟩
    match i, hi with
    | 0, _ => exact k0
theorem err0 {B : Nat} {W : World} {ev : Value} (h : ErrR T0 B W ev) : ev = .nilIface := by
  rcases h with h | ⟨N, c, i, _, _, _, h, h0⟩
  · exact h.1
  · exact absurd (res_one h res0).1 h0
theorem valid0 (gp gk : Nat) (w : World) (h : Fx w gp gk) : Calls Tryz.prog 8 #[.agg #[.slice (some ⟨gp, 0, none⟩) 2 2]] w fun e w' => e = .returned .nilIface ∧ Below w.heap.size w w' := by
  refine (valid_any _ T0 2 w h.pl gd0).mono ?_
  rintro e w' ⟨ev, rfl, l, he⟩
  rw [err0 he]
  exact ⟨rfl, l⟩
theorem nest0 (gp gk : Nat) (w : World) (h : Fx w gp gk) : Calls Tryz.prog 14 #[.agg #[.slice (some ⟨gp, 0, none⟩) 2 2]] w fun e w' => e = .returned (.tuple #[.int .i64 1, .nilIface]) ∧ Below w.heap.size w w' := by
  refine (nest_any _ T0 2 w h.pl gd0).mono ?_
  rintro e w' ⟨m, ev, rfl, l, he, hm⟩
  have e0 := err0 he
  subst e0
  rcases hm with ⟨hm, _⟩ | ⟨_, hm⟩
  · exact absurd rfl hm
  · rw [hm.one nestr0]
    exact ⟨rfl, l⟩
set_option maxHeartbeats 4000000 in
set_option maxRecDepth 100000 in
theorem text0 (gp gk : Nat) (w : World) (h : Fx w gp gk) : Calls Tryz.prog 10 #[.agg #[.slice (some ⟨gp, 0, none⟩) 2 2]] w fun e w' => e = .returned (.tuple #[.string ⟨#[33, 116, 114, 117, 101]⟩, .nilIface]) ∧ Below w.heap.size w w' := by
  have HB0 := hid (belowA w (.cells #[.slice (some ⟨gp, 0, none⟩) 2 2] 24))
  have HX0 := hid (Boxed.new w 24 (.slice (some ⟨gp, 0, none⟩) 2 2))
  have HF := hid (h.low HB0.out)
  clear h
  go_enter Tryz.func10, Tryz.ntmps10
  go_upto_region 1 with (fail)
  generalize w.alloc (.cells #[.slice (some ⟨gp, 0, none⟩) 2 2] 24) = X at *
  have HV := hid (valid0 gp gk X HF.out)
  have xt := HX0.out.cell
  go_upto_region 4 with (go_at_call 8; refine HV.out.mono ?_; rintro e w1 ⟨rfl, l1⟩; have L1 := hid l1; clear l1)
  have HF1 := hid (HF.out.low L1.out)
  have yt := (boxed_low HX0.out L1.out).cell
  have HTO := hid (textof_fixed gp gk w1 HF1.out)
  go_wp2_with (go_at_call 20; refine HTO.out.mono ?_; rintro e w2 ⟨rfl, l2⟩; have L2 := hid l2; clear l2)
  exact bodyPost_ret (v := .tuple #[.string ⟨#[33, 116, 114, 117, 101]⟩, .nilIface]) (by simp [results, Tryz.results10]) rfl ⟨rfl, (HB0.out.trans (L1.out.mono HB0.out.size)).trans (L2.out.mono (Nat.le_trans HB0.out.size L1.out.size))⟩
end Go.Proofs.YtlhlpamciafocaaGreatDoor.L.Sw
namespace Go.Proofs.YtlhlpamciafocaaGreatDoor.L.Sw
open Go.RowKit Go.Shelf
set_option linter.unusedVariables false
/-- What Text answers. -/
def TxR (T : List Pt) (B : Nat) (W : World) (s : ByteArray) (ev : Value) : Prop :=
  (ErrR T B W ev ∧ ev ≠ .nilIface ∧ s = ⟨#[]⟩) ∨ (Res T 0 0 ∧ Shrt T T.length ∧ ev = .nilIface ∧ s = S ((txs T T.length).getD (T.length - 1) [])) ∨
  (Res T 0 0 ∧ ¬ Shrt T T.length ∧ s = ⟨#[]⟩ ∧ ∃ N, ev = fv N ∧ Flt W N 131 (-1) ∧ B ≤ N)
set_option maxHeartbeats 4000000 in
set_option maxRecDepth 100000 in
theorem text_any (a : Option Addr) (T : List Pt) (cap : Nat) (w : World) (hT : PL w a T) (hG : GdT T) (hv : TabW w) :
    Calls Tryz.prog 10 #[.agg #[.slice a T.length cap]] w fun e w' => ∃ s ev, e = .returned (.tuple #[.string s, ev]) ∧ Below w.heap.size w w' ∧ TxR T w.heap.size w' s ev := by
  have HB0 := hid (belowA w (.cells #[.slice a T.length cap] 24))
  have HX0 := hid (Boxed.new w 24 (.slice a T.length cap))
  have HT := hid (hT.low HB0.out)
  have HTV := hid (hv.low HB0.out)
  have HGD := hid hG
  have HV := hid (fun W h => valid_any a T cap W h hG)
  have HTO := hid (fun W h (hr : Res T 0 0) => textof_any a T cap W h hr.ok.1 hr.ok.2.1 hr.ok.2.2.1)
  have HSZ := hid (show (w.alloc (.cells #[.slice a T.length cap] 24)).heap.size = w.heap.size + 1 by simp)
  clear hT hG hv
  generalize hL : T.length = L at *
  have HL := hid hL
  clear hL
  go_enter Tryz.func10, Tryz.ntmps10
  go_upto_region 1 with (fail)
  generalize w.alloc (.cells #[.slice a L cap] 24) = X at *
  have xt := HX0.out.cell
  go_upto_region 2 with (go_at_call 8; refine (HV.out _ HT.out).mono ?_; rintro e w1 ⟨ev, rfl, l1, he⟩; have L1 := hid l1; have HE := hid he; clear l1 he)
  rcases HE.out with ⟨he, hres⟩ | ⟨N, c, i, he, hf, hB, hr, hc⟩
  · subst he
    have yt := (boxed_low HX0.out L1.out).cell
    have HRS := hid hres
    have HTT := hid (HTO.out w1 (HT.out.low L1.out) hres (HTV.out.low L1.out))
    clear hres xt HTO
    have HRE := hid (show S ((txs T L).getD (L - 1) []) = S ((txs T T.length).getD (T.length - 1) []) by rw [HL.out])
    generalize S ((txs T L).getD (L - 1) []) = R at *
    have HFA := hid (fun W => fault_any 131 (-1) W)
    go_upto_region 5 with (go_at_call 20; refine HTT.out.mono ?_; rintro e w2 ⟨l2, hcs⟩; have L2 := hid l2; clear l2; rcases hcs with ⟨hs, rfl⟩ | ⟨hs, rfl⟩)
    · have HSH := hid hs
      clear hs
      go_wp2_with fail
      exact bodyPost_ret (v := .tuple #[.string R, .nilIface]) (by simp [results, Tryz.results10]) rfl ⟨R, .nilIface, rfl, bch (bch HB0.out L1.out) L2.out, Or.inr (Or.inl ⟨HRS.out, by rw [HL.out]; exact HSH.out, rfl, HRE.out⟩)⟩
    · have HSH := hid hs
      clear hs
      go_wp2_with (go_at_call 21; refine (HFA.out _).mono ?_; rintro e w3 ⟨rfl, hf3, l3⟩; have L3 := hid l3; have HF3 := hid hf3; clear l3 hf3)
      exact bodyPost_ret (v := .tuple #[.string ⟨#[]⟩, fv w2.heap.size]) (by simp [results, Tryz.results10]) rfl ⟨_, _, rfl, bch (bch (bch HB0.out L1.out) L2.out) L3.out, Or.inr (Or.inr ⟨HRS.out, by rw [HL.out]; exact HSH.out, rfl, w2.heap.size, rfl, HF3.out, (bch (bch HB0.out L1.out) L2.out).size⟩)⟩
  · subst he
    have HER := hid (show ErrR T w.heap.size w1 (fv N) from Or.inr ⟨N, c, i, rfl, hf, Nat.le_trans HB0.out.size hB, hr, hc⟩)
    have HNE := hid (show fv N ≠ .nilIface from fun h => by cases h)
    clear hf hB hr hc xt HTO
    unfold fv at *
    go_wp2_with fail
    exact bodyPost_ret (v := .tuple #[.string ⟨#[]⟩, fv N]) (by simp [results, Tryz.results10, fv]) rfl ⟨_, _, rfl, bch HB0.out L1.out, Or.inl ⟨HER.out, HNE.out, rfl⟩⟩
end Go.Proofs.YtlhlpamciafocaaGreatDoor.L.Sw
namespace Go.Proofs.YtlhlpamciafocaaGreatDoor.L.Sw
open Go.RowKit Go.Shelf
set_option linter.unusedVariables false
abbrev kidC : Obj := .cells #[.int .i64 0] 3
abbrev rowC (g : Nat) : Obj := .cells #[.int .i64 1, .string ⟨#[]⟩, .int .i64 0, .slice none 0 0, .int .i64 3, .string ⟨#[]⟩, .int .i64 0, .slice (some ⟨g, 0, none⟩) 1 1] 50
abbrev treeC (g : Nat) : Obj := .cells #[.slice (some ⟨g, 0, none⟩) 2 2] 24
set_option maxHeartbeats 4000000 in
set_option maxRecDepth 100000 in
theorem awake_any (w : World) : Calls Tryz.prog 7 #[] w fun e w' => e = .returned (.bool true) ∧ Below w.heap.size w w' := by
  have b1 := belowA w kidC
  have b2 := b1.alloc (by simp) (rowC w.heap.size)
  have b3 := b2.alloc (by simp; omega) (treeC (w.heap.size + 1))
  have hs1 : (w.alloc kidC).heap.size = w.heap.size + 1 := by simp
  have hs2 : ((w.alloc kidC).alloc (rowC w.heap.size)).heap.size = w.heap.size + 1 + 1 := by simp
  have hs3 : (((w.alloc kidC).alloc (rowC w.heap.size)).alloc (treeC (w.heap.size + 1))).heap.size = w.heap.size + 1 + 1 + 1 := by simp
  have hF : Fx (((w.alloc kidC).alloc (rowC w.heap.size)).alloc (treeC (w.heap.size + 1))) (w.heap.size + 1) w.heap.size := by
    refine ⟨(Below.heap_alloc _ _ _ (by rw [hs2]; omega)).trans ?_, (Below.heap_alloc _ _ _ (by rw [hs2]; omega)).trans ((Below.heap_alloc _ _ _ (by rw [hs1]; omega)).trans (heap_alloc_new w _))⟩
    have := heap_alloc_new (w.alloc kidC) (rowC w.heap.size)
    rwa [hs1] at this
  have hX : Boxed (((w.alloc kidC).alloc (rowC w.heap.size)).alloc (treeC (w.heap.size + 1))) (w.heap.size + 1 + 1) 24 (.slice (some ⟨w.heap.size + 1, 0, none⟩) 2 2) := by
    have := heap_alloc_new ((w.alloc kidC).alloc (rowC w.heap.size)) (treeC (w.heap.size + 1))
    rwa [hs2] at this
  have HB := hid b3
  have HF := hid hF
  have HX := hid hX
  clear b1 b2 b3 hs1 hs2 hs3 hF hX
  go_enter Tryz.func7, Tryz.ntmps7
  go_upto_region 2 with (fail)
  generalize (((w.alloc kidC).alloc (rowC w.heap.size)).alloc (treeC (w.heap.size + 1))) = X at *
  have HT := hid (text0 _ _ X HF.out)
  have xt := HX.out.cell
  go_upto_region 3 with (go_at_call 10; refine HT.out.mono ?_; rintro e w1 ⟨rfl, l1⟩; have L1 := hid l1; clear l1)
  have HN := hid (nest0 _ _ w1 (HF.out.low L1.out))
  have yt := (boxed_low HX.out L1.out).cell
  go_wp2_with (go_at_call 14; refine HN.out.mono ?_; rintro e w2 ⟨rfl, l2⟩; have L2 := hid l2; clear l2)
  exact bodyPost_ret (v := .bool true) (by simp [results, Tryz.results7]) rfl ⟨rfl, (HB.out.trans (L1.out.mono HB.out.size)).trans (L2.out.mono (Nat.le_trans HB.out.size L1.out.size))⟩
end Go.Proofs.YtlhlpamciafocaaGreatDoor.L.Sw
