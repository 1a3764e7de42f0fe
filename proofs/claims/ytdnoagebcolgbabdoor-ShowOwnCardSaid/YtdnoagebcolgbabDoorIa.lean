import Derived.Test.YtdnoagebcolgbabDoorHZ
namespace Go.Proofs.YtdnoagebcolgbabDoor.L
open Go.RowKit Go.Shelf
set_option linter.unusedVariables false
def kx (l : List (List UInt8)) (k : Nat) : List (List UInt8) := l.take k ++ List.replicate (l.length - k) []
theorem kx_len (l : List (List UInt8)) (k : Nat) (h : k ≤ l.length) : (kx l k).length = l.length := by
  simp [kx]
  omega
theorem kx_set (l : List (List UInt8)) (k : Nat) (h : k < l.length) (v : List UInt8) (hv : l[k]? = some v) : (kx l k).set k v = kx l (k + 1) := by
  apply List.ext_getElem?
  intro j
  have h1 := kx_len l k (by omega)
  by_cases e : j = k
  · subst e
    rw [List.getElem?_set_self (by omega)]
    unfold kx
    rw [List.getElem?_append_left (by simp; omega), List.getElem?_take_of_lt (by omega), hv]
  · rw [List.getElem?_set_ne (by omega)]
    unfold kx
    by_cases e2 : j < k
    · rw [List.getElem?_append_left (by simp; omega), List.getElem?_append_left (by simp; omega), List.getElem?_take_of_lt e2, List.getElem?_take_of_lt (by omega)]
    · rw [List.getElem?_append_right (by simp; omega), List.getElem?_append_right (by simp; omega)]
      simp only [List.getElem?_replicate, List.length_take]
      by_cases e3 : j < l.length
      · rw [if_pos (by omega), if_pos (by omega)]
      · rw [if_neg (by omega), if_neg (by omega)]
theorem kx_all (l : List (List UInt8)) : kx l l.length = l := by simp [kx]
theorem kx_zero (l : List (List UInt8)) : kx l 0 = List.replicate l.length [] := by simp [kx]
set_option maxHeartbeats 8000000 in
set_option maxRecDepth 100000 in
theorem kid_any (a : Option Addr) (T : List Pt) (cap : Nat) (p : Pt) (ka : Option Addr) (kc gt n i : Nat) (X : List (List UInt8)) (w : World)
    (hT : PL w a T) (hk : RdI w ka p.kids) (hin : ∀ x, x ∈ p.kids → 0 ≤ x ∧ x < i) (hi : i ≤ T.length) (hL : T.length ≤ 1000) (hl : p.kids.length ≤ 1000) (hn : i ≤ n) (hn1 : n ≤ 1000)
    (hX : ∀ j, j < i → w.cell? ⟨gt, j, none⟩ = some (.string (S (X.getD j [])))) (hgt : gt < w.heap.size) (hs : ∀ j, j < i → (X.getD j []).length ≤ 4096) :
    Calls Tryd.prog 23 #[.slice a T.length cap, .slice (some ⟨gt, 0, none⟩) n n, .agg #[.int .i64 p.kind, .string p.text, .int .i64 p.num, .slice ka p.kids.length kc]] w fun e w' => ∃ g, e = .returned (.slice (some ⟨g, 0, none⟩) p.kids.length p.kids.length) ∧ Kd w' g (ksL T X p) ∧ Below w.heap.size w w' := by
  obtain ⟨kd, tx, nu, ks⟩ := p
  simp only at *
  have HKL := hid (show ksL T X ⟨kd, tx, nu, ks⟩ = ks.map (kidL T X kd) from rfl)
  obtain ⟨m, hm⟩ : ∃ m, m = ks.length := ⟨_, rfl⟩
  obtain ⟨L, hLe⟩ : ∃ L, L = T.length := ⟨_, rfl⟩
  have HT := hid hT
  have HK := hid hk
  have HIN := hid hin
  have HN := hid hm
  have HL := hid hLe
  have HXC := hid hX
  have HGT := hid hgt
  have HS := hid hs
  have HGR := hid grouped_any
  have HML := hid (show (ks.map (kidL T X kd)).length = m by rw [List.length_map, hm])
  rw [← hm] at hl ⊢
  rw [← hLe] at hL hi ⊢
  clear hT hk hin hm hLe hX hgt hs
  have MK := fun W => make_txt m hl W
  have HB0 := hid (belowA w (.cells #[.int .i64 kd, .string tx, .int .i64 nu, .slice ka m kc] 33))
  have HX0 := hid (heap_alloc_new w (.cells #[.int .i64 kd, .string tx, .int .i64 nu, .slice ka m kc] 33))
  have HS0 := hid (show (w.alloc (.cells #[.int .i64 kd, .string tx, .int .i64 nu, .slice ka m kc] 33)).heap.size = w.heap.size + 1 by simp)
  go_enter Tryd.func23, Tryd.ntmps23
  go_upto_region 1 with (fail)
  generalize hY0 : w.alloc (.cells #[.int .i64 kd, .string tx, .int .i64 nu, .slice ka m kc] 33) = Y at *
  clear hY0
  have ⟨x0, x1, x2, x3⟩ := cells4 HX0.out
  have OV := hid (owns_made Y m Y.heap.size hl (Nat.le_refl _))
  have BV := hid (belowA Y (.cells (madeCells #[.string ⟨#[]⟩] m) 9))
  go_upto_region 2 with (fail)
  generalize hVe : Y.alloc (.cells (madeCells #[.string ⟨#[]⟩] m) 9) = V at *
  clear hVe MK x0 x1 x2 x3
  have ⟨x0, x1, x2, x3⟩ := cells4 ((BV.out.block _ (lt_blk HX0.out)).trans HX0.out)
  have HWG := hid (show w.heap.size < Y.heap.size by rw [HS0.out]; omega)
  have HB0' := hid (show w.heap.size ≤ Y.heap.size by rw [HS0.out]; omega)
  generalize hge : Y.heap.size = g at *
  have HGE := hid hge
  clear hge
  go_wp2_with fail
  clear x0 x1 x2 x3
  go_loopw [17] (fun i wr => ∃ k : Nat, k ≤ m ∧ i = .int .i64 k ∧ Hid (Below g Y wr) ∧ Hid (OwnS wr g (.slice (some ⟨g, 0, none⟩) m m) (kx (ks.map (kidL T X kd)) k))) (fun i _ => m - (intOf i).toNat)
  case atStart => exact ⟨0, Nat.zero_le _, rfl, BV, hid (by rw [kx_zero, HML.out]; exact OV.out)⟩
  case round =>
    obtain ⟨k, hk, rfl, HB, OW⟩ := hrel
    have HBW := hid (show Below w.heap.size w wr from HB0.out.trans (HB.out.mono HB0'.out))
    by_cases hlt : k < m
    · have r1 := HK.out.low HBW.out (Nat.le_refl _)
      have r2 := HT.out.low HBW.out
      rcases r1 with h0 | ⟨b1, o1, rfl, hb1, hc1⟩
      · have := HN.out; omega
      have hkn : k < ks.length := by rw [← HN.out]; exact hlt
      have p0 := hc1 k hkn
      have hmem : ks.getD k 0 ∈ ks := by rw [List.getD_eq_getElem?_getD, List.getElem?_eq_getElem hkn]; exact List.getElem_mem hkn
      have hx := HIN.out _ hmem
      obtain ⟨x, hxe⟩ : ∃ x : Nat, ks.getD k 0 = x := ⟨(ks.getD k 0).toNat, by omega⟩
      rw [hxe] at p0 hx
      have HXE := hid hxe
      rcases r2 with h0 | ⟨b2, o2, rfl, hb2, hc2⟩
      · have := HL.out; omega
      have hxi : x < i := by omega
      obtain ⟨_, _, q0, _⟩ := hc2 x (by have := HL.out; omega)
      have q1 := (HBW.out.cell (p := ⟨gt, x, none⟩) HGT.out).trans (HXC.out x hxi)
      have hsl := HS.out x hxi
      generalize hkk : (pt T x).kind = kk at *
      generalize hu : X.getD x [] = u at *
      have HVAL := hid (show (ks.map (kidL T X kd))[k]? = some (if brB kd kk then [40] ++ (u ++ [41]) else u) by
        rw [List.getElem?_map, List.getElem?_eq_getElem hkn]
        have hz2 := hxe
        rw [List.getD_eq_getElem?_getD, List.getElem?_eq_getElem hkn] at hz2
        simp only [Option.getD_some] at hz2
        rw [hz2]
        simp only [Option.map_some, kidL, Int.toNat_natCast, hkk, hu])
      have HKLN := hid (show (kx (ks.map (kidL T X kd)) k).length = m by rw [kx_len _ _ (by rw [HML.out]; exact hk), HML.out])
      have HSET := hid (fun v hv => kx_set (ks.map (kidL T X kd)) k (by rw [HML.out]; exact hlt) v hv)
      have c2 := (owns_cell OW.out HKLN.out.symm k hlt).1
      have f2 := (owns_cell OW.out HKLN.out.symm k hlt).2
      generalize hz : kx (ks.map (kidL T X kd)) k = zs at *
      generalize zs.getD k [] = v0 at *
      clear hz
      have hx1 := (HB.out.block _ HWG.out).trans HX0.out
      have ⟨x0, x1, x2, x3⟩ := cells4 hx1
      have g1 : (k : Int) < (m : Int) := by omega
      have g2 : (0 : Int) ≤ (k : Int) := by omega
      have g3 : (x : Int) < (L : Int) := by have := HL.out; omega
      have g4 : (0 : Int) ≤ (x : Int) := by omega
      have g5 : (x : Int) < (n : Int) := by omega
      have HJ1 := hid (show k + 1 ≤ m by omega)
      have HGW := hid (owns_lt OW.out).2
      have HGTW := hid (show gt < g from Nat.lt_of_lt_of_le HGT.out HB0'.out)
      have HKK := hid hkk
      clear hc1 hc2 hmem hx hxe hkn hkk hu hxi hx1
      go_upto_region 6 with (fail)
      have S1 := owns_set OW.out HKLN.out.symm k u
      have HB3 := hid (show Below g Y (wr.setCell ⟨g, k, none⟩ (.string (S u))) from HB.out.grown S1.2 (Nat.le_of_lt HGW.out) (fun j e => by cases e; exact Nat.le_refl _))
      have O3 := hid S1.1
      have HL3 := hid (show m = (zs.set k u).length by rw [List.length_set, HKLN.out])
      clear S1 c2 f2 x0 x1 x2 x3 q0 q1 p0
      generalize wr.setCell ⟨g, k, none⟩ (.string (S u)) = W1 at *
      have hx2 := (HB3.out.block _ HWG.out).trans HX0.out
      have ⟨x0, x1, x2, x3⟩ := cells4 hx2
      have HBW1 := hid (show Below w.heap.size w W1 from HB0.out.trans (HB3.out.mono HB0'.out))
      have r3 := HT.out.low HBW1.out
      rcases r3 with h0 | ⟨b3', o3', e3, hb3, hc3⟩
      · have := HL.out; omega
      cases e3
      obtain ⟨_, _, q0, _⟩ := hc3 x (by have := HL.out; omega)
      rw [HKK.out] at q0
      clear hc3 x1 x2 x3 hx2
      have HW := hid (fun (W : World) => write_any W.heap.size [[40], u, [41]] 3 (W.alloc (.cells ([[40], u, [41]].map (fun x => Value.string (S x))).toArray 9)) rfl (new_txt W _) (by simp) (by simp) (by intro x hx; simp at hx; rcases hx with rfl | rfl | rfl <;> first | omega | simp))
      simp only [List.map_cons, List.map_nil, List.flatten_cons, List.flatten_nil, List.append_nil] at HW
      go_region_held3 (fun Z => Z.cell? ⟨w.heap.size, 0, none⟩ = some (.int .i64 kd) ∧ Z.cell? ⟨b2, o2 + x * 4, none⟩ = some (.int .i64 kk)) (first | exact ⟨x0, q0⟩ | go_keep | assumption) (first | (go_at_call 39; refine (HGR.out _ _ _).mono ?_; rintro e w1 ⟨rfl, hww⟩; have hw2 := hww.symm; clear hww; subst hw2))
      have HB4 := hid (show Below g Y W1.drew from HB3.out.drew)
      have O4 := hid (show OwnS W1.drew g (.slice (some ⟨g, 0, none⟩) m m) (zs.set k u) from owns_low O3.out (Below.refl _ _).drew)
      clear x0 q0 hb3
      rename_i hHeld
      clear hHeld
      generalize W1.drew = W2 at *
      cases hbr : brB kd kk
      · have HV1 := hid (HVAL.out)
        rw [hbr] at HV1
        have HBR := hid hbr
        clear hbr
        go_wp2_with fail
        refine ⟨⟨k + 1, HJ1.out, by go_num, HB4, hid (by rw [← HSET.out u HV1.out]; exact O4.out)⟩, ?_⟩
        have h3 := HJ1.out
        simp [intOf]
        omega
      · have HV1 := hid (HVAL.out)
        rw [hbr] at HV1
        have HBR := hid hbr
        clear hbr
        have c4 := (owns_cell O4.out HL3.out k hlt).1
        rw [show (zs.set k u).getD k [] = u by rw [List.getD_eq_getElem?_getD, List.getElem?_set_self (by rw [HKLN.out]; exact hlt)]; rfl] at c4
        go_wp2_with (go_at_call 32; refine (HW.out _).mono ?_; rintro e w2 ⟨rfl, l2⟩; have M2 := hid (show Below W2.heap.size W2 w2 from bch (belowA W2 _) l2); clear l2; have O5 := hid (owns_low O4.out M2.out); have c5 := (owns_cell O5.out HL3.out k hlt).1; have f5 := (owns_cell O5.out HL3.out k hlt).2)
        have S5 := owns_set O5.out HL3.out k ([40] ++ (u ++ [41]))
        rw [List.set_set] at S5
        have HGW2 := (owns_lt O5.out).2
        have hg2 := (owns_lt O4.out).2
        have HB6 := hid (show Below g Y (w2.setCell ⟨g, k, none⟩ (.string (S ([40] ++ (u ++ [41]))))) from (HB4.out.trans (M2.out.mono (Nat.le_of_lt hg2))).grown S5.2 (Nat.le_of_lt HGW2) (fun j e => by cases e; exact Nat.le_refl _))
        refine ⟨⟨k + 1, HJ1.out, by go_num, HB6, hid (by rw [← HSET.out _ HV1.out]; exact S5.1)⟩, ?_⟩
        have h3 := HJ1.out
        simp [intOf]
        omega
    · obtain rfl : k = m := by omega
      go_wp2_with fail
      go_ret
      refine ⟨g, rfl, ⟨(owns_lt OW.out).2, fun j x hx => ?_⟩, HBW.out⟩
      rw [HKL.out] at hx
      have hO := OW.out
      have hj : j < (ks.map (kidL T X kd)).length := by
        rcases Nat.lt_or_ge j (ks.map (kidL T X kd)).length with h | h
        · exact h
        · rw [List.getElem?_eq_none h] at hx; cases hx
      rw [← HML.out, kx_all] at hO
      have := (owns_cell hO rfl j hj).1
      rw [this, List.getD_eq_getElem?_getD, hx]
      rfl
end Go.Proofs.YtdnoagebcolgbabDoor.L
