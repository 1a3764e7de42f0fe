import Derived.Test.YtkagdmhijjfnnaaDoorPd8
namespace Go.Proofs.YtkagdmhijjfnnaaDoor
open Go.RowKit Bs
set_option linter.unusedVariables false
theorem own_shape {w : World} {v : Value} {zs : List Int} (h : OwnI w 0 v zs) : ∃ a cap, v = .slice a zs.length cap ∧ zs.length ≤ cap ∧ (a = none → cap = 0) ∧ (∀ ad, a = some ad → ∃ b, ad = ⟨b, 0, none⟩ ∧ b < w.heap.size) := by
  rcases own_read h with ⟨rfl, rfl⟩ | ⟨b, cap, rfl, hcap, hb, hc⟩
  · exact ⟨none, 0, rfl, Nat.le_refl _, fun _ => rfl, (fun ad e => by cases e)⟩
  · exact ⟨_, cap, rfl, hcap, (fun e => by cases e), fun ad e => ⟨b, by injection e with e; exact e.symm, hb⟩⟩
theorem own_rd {w : World} {a : Option Addr} {cap : Nat} {zs : List Int} (h : OwnI w 0 (.slice a zs.length cap) zs) : Rd w a zs := by
  rcases own_read h with ⟨e, e2⟩ | ⟨b, cap', e, _, hb, hc⟩
  · exact Or.inl (by rw [e2]; rfl)
  · injection e with e1 _ e3
    subst e1
    exact Or.inr ⟨b, 0, rfl, hb, hc⟩
theorem own_take {w W : World} {a : Option Addr} {cap : Nat} {zs : List Int} (h : OwnI w 0 (.slice a zs.length cap) zs) (hW : Below w.heap.size w W) {k : Nat} (hk : k ≤ zs.length) : Holds W (.slice a k cap) (zs.take k) := by
  rcases own_read h with ⟨e, e2⟩ | ⟨b, cap', e, _, _, hc⟩
  · injection e with e1 _ e3
    subst e1; subst e3; subst e2
    obtain rfl : k = 0 := by simpa using hk
    exact ⟨Or.inl ⟨rfl, rfl⟩⟩
  · injection e with e1 _ e3
    subst e1; subst e3
    exact holds_take (fun j hj => (hW.cell (p := ⟨b, 0 + j, none⟩) (block_lt_of_cell (hc j hj))).trans (hc j hj)) hk
theorem own_drop {w W : World} {b cap : Nat} {zs : List Int} (h : OwnI w 0 (.slice (some ⟨b, 0, none⟩) zs.length cap) zs) (hW : Below w.heap.size w W) {k l c : Nat} (hk : k + l = zs.length) : Holds W (.slice (some ⟨b, 0 + k, none⟩) l c) (zs.drop k) := by
  rcases own_read h with ⟨e, e2⟩ | ⟨b, cap', e, _, _, hc⟩
  · cases e
  · injection e with e1 _ e3
    injection e1 with e1
    injection e1 with e1 _ _
    subst e1; subst e3
    exact holds_drop (fun j hj => (hW.cell (p := ⟨_, 0 + j, none⟩) (block_lt_of_cell (hc j hj))).trans (hc j hj)) hk
set_option maxRecDepth 100000 in
set_option maxHeartbeats 4000000 in
theorem dadd_no (n : Nat) (v : Value) (zs : List Int) (i : Int) (w : World) (h : OwnI w 0 v zs) (hu : Up zs) (hL : zs.length ≤ 65536) (hno : ¬ (0 ≤ i ∧ i < n) ∨ i ∈ zs) :
    Calls Tryd.prog 76 #[.agg #[.int .i64 (n : Int), v], .int .i64 i] w fun e w' => e = .returned (.tuple #[.agg #[.int .i64 (n : Int), v], .bool false]) ∧ Below w.heap.size w w' := by
  obtain ⟨a, cap, rfl, hcap, hnone, hsome⟩ := own_shape h
  have X0 := hid (Bp.new w n (.slice a zs.length cap))
  have HK := hid (fun W (hW : Below w.heap.size w W) => dbelow n a cap zs i W ((own_rd h).low hW (Nat.le_refl _)) hu hL)
  have HRD := hid (own_rd h)
  have HI := hid (has_iff hu i)
  have hle := bel_le zs i
  clear h hu hnone hsome
  obtain ⟨L, hLe⟩ : ∃ L, L = zs.length := ⟨_, rfl⟩
  have HL := hid hLe
  rw [← hLe] at hL HK X0 HI hle hcap ⊢
  clear hLe
  generalize bel zs i = k at *
  by_cases hin : 0 ≤ i ∧ i < n
  · have hm : i ∈ zs := by
      rcases hno with c | c
      · exact absurd hin c
      · exact c
    obtain ⟨hkL, hz⟩ := HI.out.1 hm
    obtain ⟨i1, i2⟩ := hin
    have i3 : ¬ (n : Int) ≤ i := by omega
    have i4 : ¬ i < 0 := by omega
    go_enter Tryd.func76, Tryd.ntmps76
    have t0 := X0.out.a0
    go_wp2_with fail
    generalize (w.alloc _).alloc _ = X at *
    refine (HK.out X X0.out.low).mono ?_
    rintro e w1 ⟨rfl, hb1⟩
    have X1 := hid (X0.out.on hb1)
    rcases HRD.out.low X1.out.low (Nat.le_refl _) with c | ⟨b, off, rfl, _, hc⟩
    · have := HL.out; omega
    have hx := hc k (by rw [← HL.out]; exact hkL)
    rw [hz] at hx
    have u0 := X1.out.a0
    have u1 := X1.out.a1
    have r0 := X1.out.r0
    have r1 := X1.out.r1
    have f0 := X1.out.f0
    have f1 := X1.out.f1
    have XL := hid X1.out.low
    have hkL' : (k : Int) < (L : Int) := by omega
    clear hc hb1 X0 X1 HK t0 HI hm hno hz
    go_wp2_with fail
    refine bodyPost_ret (v := .tuple #[.agg #[.int .i64 (n : Int), .slice (some ⟨b, off, none⟩) L cap], .bool false]) ?_ rfl ⟨rfl, below_st (below_st XL.out _ _ _ (by omega)) _ _ _ (by omega)⟩
    rw [results_cell_tmp rfl]
    go_simp
  · have X1 := X0.out
    have u0 := X1.a0
    have u1 := X1.a1
    have r0 := X1.r0
    have r1 := X1.r1
    have f0 := X1.f0
    have f1 := X1.f1
    have XL := hid X1.low
    clear X1 X0 HK HI hno
    go_enter Tryd.func76, Tryd.ntmps76
    by_cases i1 : i < 0
    · clear hin
      go_wp2_with fail
      refine bodyPost_ret (v := .tuple #[.agg #[.int .i64 (n : Int), .slice a L cap], .bool false]) ?_ rfl ⟨rfl, (lowAlloc w _).alloc (by simp) _⟩
      rw [results_cell_tmp rfl]
      go_simp
    · have i2 : (n : Int) ≤ i := by omega
      clear hin
      go_wp2_with fail
      refine bodyPost_ret (v := .tuple #[.agg #[.int .i64 (n : Int), .slice a L cap], .bool false]) ?_ rfl ⟨rfl, (lowAlloc w _).alloc (by simp) _⟩
      rw [results_cell_tmp rfl]
      go_simp
theorem own_form9 {w : World} {base : Nat} {v : Value} {zs : List Int} (h : OwnI w base v zs) : ∃ a l cap, v = .slice a l cap := by
  obtain ⟨a, c, e⟩ := own_form h
  exact ⟨a, _, c, e⟩
theorem holds_void (w : World) (ad : Addr) (c : Nat) {ys : List Int} (h : ys = []) : Holds w (.slice (some ⟨ad.block, ad.off, none⟩) 0 c) ys := by
  subst h
  exact ⟨Or.inr ⟨ad.block, ad.off, c, rfl, fun j hj => by cases hj⟩⟩
theorem holds_one (w : World) (t : TypeId) (z : Int) : Holds (w.alloc (.cells #[.int .i64 z] t)) (.slice (some ⟨w.heap.size, 0, none⟩) 1 1) [z] := by
  refine ⟨Or.inr ⟨w.heap.size, 0, 1, rfl, fun j hj => ?_⟩⟩
  obtain rfl : j = 0 := by simp at hj; exact hj
  rw [cell_of_row _ _ _ _ _ _ (heap_alloc_new w _)]
  rfl
set_option maxRecDepth 100000 in
set_option maxHeartbeats 4000000 in
theorem dadd_yes (n : Nat) (v : Value) (zs : List Int) (i : Int) (w : World) (h : OwnI w 0 v zs) (hu : Up zs) (hL : zs.length ≤ 65536) (h0 : 0 ≤ i) (h1 : i < n) (hno : ¬ i ∈ zs) :
    Calls Tryd.prog 76 #[.agg #[.int .i64 (n : Int), v], .int .i64 i] w fun e w' => ∃ v', e = .returned (.tuple #[.agg #[.int .i64 (n : Int), v'], .bool true]) ∧ OwnI w' w.heap.size v' (zs.take (bel zs i) ++ [i] ++ zs.drop (bel zs i)) ∧ Below w.heap.size w w' := by
  obtain ⟨a, cap, rfl, hcap, hnone, hsome⟩ := own_shape h
  have X0 := hid (Bp.new w n (.slice a zs.length cap))
  have HK := hid (fun W (hW : Below w.heap.size w W) => dbelow n a cap zs i W ((own_rd h).low hW (Nat.le_refl _)) hu hL)
  have HRD := hid (own_rd h)
  have HI := hid (has_iff hu i)
  have hle := bel_le zs i
  have HT := hid (fun W (hW : Below w.heap.size w W) => own_take h hW hle)
  have HD := hid (fun b (e : a = some ⟨b, 0, none⟩) W (hW : Below w.heap.size w W) c l (hkl : bel zs i + l = zs.length) => show Holds W (.slice (some ⟨b, bel zs i, none⟩) l c) (zs.drop (bel zs i)) by
    have := own_drop (c := c) (by rw [e] at h; exact h) hW hkl
    rw [Nat.zero_add] at this
    exact this)
  have HC := hid (fun b (e : a = some ⟨b, 0, none⟩) W (hW : Below w.heap.size w W) c l (hkl : bel zs i + l = zs.length) => show Holds W (.slice (if cap = bel zs i then some ⟨b, 0, none⟩ else some ⟨b, bel zs i, none⟩) l c) (zs.drop (bel zs i)) by
    by_cases hq : cap = bel zs i
    · have hl0 : l = 0 := by omega
      have hdr : zs.drop (bel zs i) = [] := List.eq_nil_of_length_eq_zero (by rw [List.length_drop]; omega)
      rw [if_pos hq, hdr, hl0]
      exact ⟨Or.inr ⟨b, 0, c, rfl, fun j hj => by cases hj⟩⟩
    · rw [if_neg hq]
      exact HD.out b e W hW c l hkl)
  have hl1 : (zs.take (bel zs i)).length = bel zs i := by rw [List.length_take]; omega
  have hl2 : (zs.drop (bel zs i)).length = zs.length - (bel zs i) := by rw [List.length_drop]
  clear h hu
  obtain ⟨L, hLe⟩ : ∃ L, L = zs.length := ⟨_, rfl⟩
  have HL := hid hLe
  rw [← hLe] at hL HK X0 HI hle hcap HD HC hl2
  rw [← hLe]
  clear hLe
  generalize bel zs i = k at *
  generalize zs.take k = ya at *
  generalize zs.drop k = yb at *
  obtain ⟨R, hR⟩ : ∃ R, R = ya ++ [i] ++ yb := ⟨_, rfl⟩
  rw [← hR]
  have HR := hid hR
  clear hR
  have HS := hid hsome
  have HN := hid hnone
  clear hsome hnone
  have i3 : ¬ (n : Int) ≤ i := by omega
  have i4 : ¬ i < 0 := by omega
  have hk2 : k ≤ cap := by omega
  go_enter Tryd.func76, Tryd.ntmps76
  have t0 := X0.out.a0
  go_wp2_with fail
  generalize (w.alloc _).alloc _ = X at *
  refine (HK.out X X0.out.low).mono ?_
  rintro e w1 ⟨rfl, hb1⟩
  have X1 := hid (X0.out.on hb1)
  have XZ := hid (own_zero w1 w1.heap.size rfl)
  have XB := hid (X1.out.on (lowAlloc w1 (.cells #[] 3)))
  have hsz := hid (show w.heap.size + 1 < w1.heap.size from X1.out.lt)
  have s0 := X1.out.a0
  have s1 := X1.out.a1
  have u0 := XB.out.a0
  have u1 := XB.out.a1
  have T1 := hid (HT.out _ XB.out.low)
  clear hb1 X0 HK t0 HT
  by_cases hkL : k < L
  · rcases HRD.out.low X1.out.low (Nat.le_refl _) with c | ⟨b, off, hab, _, hc⟩
    · have := HL.out; omega
    obtain ⟨b', e9, _⟩ := HS.out _ hab
    injection e9 with e9 e10 _
    subst e9; subst e10
    subst hab
    have hx := hc k (by rw [← HL.out]; exact hkL)
    have hne := hid (fun c => hno (HI.out.2 ⟨hkL, c⟩))
    clear hc HI HS HN HRD hno
    generalize zs.getD k 0 = z at hx hne
    have hz' : (z == i) = false := by simpa using hne.out
    have hkL' : (k : Int) < (L : Int) := by omega
    rw [Nat.zero_add] at hx
    clear hne
    go_wp2_with (first
      | (at_builtin; refine wpList_append_src rfl _ _ rfl w1.heap.size _ [] rfl XZ.out _ (ya) rfl T1.out (by (try simp); omega) (by simp) ?_; intro v1 w2 o1 g1; have X2 := hid (XB.out.grown g1 (fun b e => by have := (own_lt XZ.out e).1; have := hsz.out; omega)); have H2 := hid (show w1.heap.size ≤ w2.heap.size by have := g1.size; simp at this; omega); have O1 := hid (show OwnI w2 w1.heap.size _ ya from o1); have u0 := X2.out.a0; have u1 := X2.out.a1; have hlt2 := hid (X2.out.lt); clear XZ o1 g1 s0 s1)
      | (at_builtin; refine wpList_append_src rfl _ _ rfl w1.heap.size _ ya rfl (own_low O1.out (lowAlloc w2 (.cells #[.int .i64 i] 3))) _ [i] rfl (holds_one w2 3 i) (by (try simp); omega) (by have := H2.out; simp; omega) ?_; intro v3 w3 o3 g3; have X3 := hid ((X2.out.on (lowAlloc w2 (.cells #[.int .i64 i] 3))).grown g3 (fun b e => by have := (own_lt O1.out e).1; have := hsz.out; omega)); have H3 := hid (show w1.heap.size ≤ w3.heap.size by have := g3.size; have := H2.out; simp at *; omega); have O3 := hid (show OwnI w3 w1.heap.size _ (ya ++ [i]) from o3); have u0 := X3.out.a0; have u1 := X3.out.a1; clear O1 o3 g3)
      | (at_builtin; refine wpList_append_src rfl _ _ rfl w1.heap.size _ (ya ++ [i]) rfl O3.out _ yb rfl (HD.out _ rfl _ X3.out.low _ _ (by omega)) (by (try simp); omega) (by have := H3.out; omega) ?_; intro v4 w4 o4 g4; have X4 := (X3.out.grown g4 (fun b e => by have := (own_lt O3.out e).1; have := hsz.out; omega)); obtain ⟨av4, lv4, cv4, hv⟩ := own_form9 o4; subst hv; have O4 := hid (own_mono o4 (show w.heap.size ≤ w1.heap.size by have := hsz.out; omega)); have F4 := hid (own_far o4 hsz.out); have u0 := X4.a0; have u1 := X4.a1; have r0 := X4.r0; have r1 := X4.r1; have f0 := X4.f0; have f1 := X4.f1; have XL := hid X4.low; clear O3 o4 g4 X4))
    refine bodyPost_ret (v := .tuple #[.agg #[.int .i64 (n : Int), .slice av4 lv4 cv4], .bool true]) ?_ rfl ⟨_, rfl, by rw [HR.out]; exact own_set (own_set O4.out _ F4.out) _ F4.out, below_st (below_st XL.out _ _ _ (by omega)) _ _ _ (by omega)⟩
    rw [results_cell_tmp rfl]
    go_simp
  · have hkL' : ¬ (k : Int) < (L : Int) := by omega
    cases a with
    | none =>
      obtain rfl : cap = 0 := HN.out rfl
      obtain rfl : L = 0 := by omega
      obtain rfl : k = 0 := by omega
      have hdn : yb = [] := List.eq_nil_of_length_eq_zero (by rw [hl2])
      clear HI HS HN HRD hno
      go_wp2_with (first
        | (at_builtin; refine wpList_append_src rfl _ _ rfl w1.heap.size _ [] rfl XZ.out _ (ya) rfl T1.out (by (try simp); omega) (by simp) ?_; intro v1 w2 o1 g1; have X2 := hid (XB.out.grown g1 (fun b e => by have := (own_lt XZ.out e).1; have := hsz.out; omega)); have H2 := hid (show w1.heap.size ≤ w2.heap.size by have := g1.size; simp at this; omega); have O1 := hid (show OwnI w2 w1.heap.size _ ya from o1); have u0 := X2.out.a0; have u1 := X2.out.a1; have hlt2 := hid (X2.out.lt); clear XZ o1 g1 s0 s1)
        | (at_builtin; refine wpList_append_src rfl _ _ rfl w1.heap.size _ ya rfl (own_low O1.out (lowAlloc w2 (.cells #[.int .i64 i] 3))) _ [i] rfl (holds_one w2 3 i) (by (try simp); omega) (by have := H2.out; simp; omega) ?_; intro v3 w3 o3 g3; have X3 := hid ((X2.out.on (lowAlloc w2 (.cells #[.int .i64 i] 3))).grown g3 (fun b e => by have := (own_lt O1.out e).1; have := hsz.out; omega)); have H3 := hid (show w1.heap.size ≤ w3.heap.size by have := g3.size; have := H2.out; simp at *; omega); have O3 := hid (show OwnI w3 w1.heap.size _ (ya ++ [i]) from o3); have u0 := X3.out.a0; have u1 := X3.out.a1; clear O1 o3 g3)
        | (at_builtin; refine wpList_append_src rfl _ _ rfl w1.heap.size _ (ya ++ [i]) rfl O3.out _ yb rfl ((show Holds w3 (.slice none 0 0) (yb) from ⟨Or.inl ⟨rfl, hdn⟩⟩)) (by (try simp); omega) (by have := H3.out; omega) ?_; intro v4 w4 o4 g4; have X4 := (X3.out.grown g4 (fun b e => by have := (own_lt O3.out e).1; have := hsz.out; omega)); obtain ⟨av4, lv4, cv4, hv⟩ := own_form9 o4; subst hv; have O4 := hid (own_mono o4 (show w.heap.size ≤ w1.heap.size by have := hsz.out; omega)); have F4 := hid (own_far o4 hsz.out); have u0 := X4.a0; have u1 := X4.a1; have r0 := X4.r0; have r1 := X4.r1; have f0 := X4.f0; have f1 := X4.f1; have XL := hid X4.low; clear O3 o4 g4 X4))
      refine bodyPost_ret (v := .tuple #[.agg #[.int .i64 (n : Int), .slice av4 lv4 cv4], .bool true]) ?_ rfl ⟨_, rfl, by rw [HR.out]; exact own_set (own_set O4.out _ F4.out) _ F4.out, below_st (below_st XL.out _ _ _ (by omega)) _ _ _ (by omega)⟩
      rw [results_cell_tmp rfl]
      go_simp
    | some ad =>
      obtain ⟨b, e9, _⟩ := HS.out _ rfl
      subst e9
      clear HI HS HN HRD hno HD HC
      obtain rfl : L = k := by omega
      have hyb : yb = [] := List.eq_nil_of_length_eq_zero (by omega)
      by_cases hq : cap = L
      · subst hq
        go_wp2_with (first
          | (at_builtin; refine wpList_append_src rfl _ _ rfl w1.heap.size _ [] rfl XZ.out _ (ya) rfl T1.out (by (try simp); omega) (by simp) ?_; intro v1 w2 o1 g1; have X2 := hid (XB.out.grown g1 (fun b e => by have := (own_lt XZ.out e).1; have := hsz.out; omega)); have H2 := hid (show w1.heap.size ≤ w2.heap.size by have := g1.size; simp at this; omega); have O1 := hid (show OwnI w2 w1.heap.size _ ya from o1); have u0 := X2.out.a0; have u1 := X2.out.a1; have hlt2 := hid (X2.out.lt); clear XZ o1 g1 s0 s1)
          | (at_builtin; refine wpList_append_src rfl _ _ rfl w1.heap.size _ ya rfl (own_low O1.out (lowAlloc w2 (.cells #[.int .i64 i] 3))) _ [i] rfl (holds_one w2 3 i) (by (try simp); omega) (by have := H2.out; simp; omega) ?_; intro v3 w3 o3 g3; have X3 := hid ((X2.out.on (lowAlloc w2 (.cells #[.int .i64 i] 3))).grown g3 (fun b e => by have := (own_lt O1.out e).1; have := hsz.out; omega)); have H3 := hid (show w1.heap.size ≤ w3.heap.size by have := g3.size; have := H2.out; simp at *; omega); have O3 := hid (show OwnI w3 w1.heap.size _ (ya ++ [i]) from o3); have u0 := X3.out.a0; have u1 := X3.out.a1; clear O1 o3 g3)
          | (at_builtin; refine wpList_append_src rfl _ _ rfl w1.heap.size _ (ya ++ [i]) rfl O3.out _ yb rfl (holds_void _ ⟨b, _, none⟩ _ hyb) (by (try simp); omega) (by have := H3.out; omega) ?_; intro v4 w4 o4 g4; have X4 := (X3.out.grown g4 (fun b e => by have := (own_lt O3.out e).1; have := hsz.out; omega)); obtain ⟨av4, lv4, cv4, hv⟩ := own_form9 o4; subst hv; have O4 := hid (own_mono o4 (show w.heap.size ≤ w1.heap.size by have := hsz.out; omega)); have F4 := hid (own_far o4 hsz.out); have u0 := X4.a0; have u1 := X4.a1; have r0 := X4.r0; have r1 := X4.r1; have f0 := X4.f0; have f1 := X4.f1; have XL := hid X4.low; clear O3 o4 g4 X4))
        refine bodyPost_ret (v := .tuple #[.agg #[.int .i64 (n : Int), .slice av4 lv4 cv4], .bool true]) ?_ rfl ⟨_, rfl, by rw [HR.out]; exact own_set (own_set O4.out _ F4.out) _ F4.out, below_st (below_st XL.out _ _ _ (by omega)) _ _ _ (by omega)⟩
        rw [results_cell_tmp rfl]
        go_simp
      · have hq2 : ¬ L = cap := by omega
        go_wp2_with (first
          | (at_builtin; refine wpList_append_src rfl _ _ rfl w1.heap.size _ [] rfl XZ.out _ (ya) rfl T1.out (by (try simp); omega) (by simp) ?_; intro v1 w2 o1 g1; have X2 := hid (XB.out.grown g1 (fun b e => by have := (own_lt XZ.out e).1; have := hsz.out; omega)); have H2 := hid (show w1.heap.size ≤ w2.heap.size by have := g1.size; simp at this; omega); have O1 := hid (show OwnI w2 w1.heap.size _ ya from o1); have u0 := X2.out.a0; have u1 := X2.out.a1; have hlt2 := hid (X2.out.lt); clear XZ o1 g1 s0 s1)
          | (at_builtin; refine wpList_append_src rfl _ _ rfl w1.heap.size _ ya rfl (own_low O1.out (lowAlloc w2 (.cells #[.int .i64 i] 3))) _ [i] rfl (holds_one w2 3 i) (by (try simp); omega) (by have := H2.out; simp; omega) ?_; intro v3 w3 o3 g3; have X3 := hid ((X2.out.on (lowAlloc w2 (.cells #[.int .i64 i] 3))).grown g3 (fun b e => by have := (own_lt O1.out e).1; have := hsz.out; omega)); have H3 := hid (show w1.heap.size ≤ w3.heap.size by have := g3.size; have := H2.out; simp at *; omega); have O3 := hid (show OwnI w3 w1.heap.size _ (ya ++ [i]) from o3); have u0 := X3.out.a0; have u1 := X3.out.a1; clear O1 o3 g3)
          | (at_builtin; refine wpList_append_src rfl _ _ rfl w1.heap.size _ (ya ++ [i]) rfl O3.out _ yb rfl (holds_void _ ⟨b, _, none⟩ _ hyb) (by (try simp); omega) (by have := H3.out; omega) ?_; intro v4 w4 o4 g4; have X4 := (X3.out.grown g4 (fun b e => by have := (own_lt O3.out e).1; have := hsz.out; omega)); obtain ⟨av4, lv4, cv4, hv⟩ := own_form9 o4; subst hv; have O4 := hid (own_mono o4 (show w.heap.size ≤ w1.heap.size by have := hsz.out; omega)); have F4 := hid (own_far o4 hsz.out); have u0 := X4.a0; have u1 := X4.a1; have r0 := X4.r0; have r1 := X4.r1; have f0 := X4.f0; have f1 := X4.f1; have XL := hid X4.low; clear O3 o4 g4 X4))
        refine bodyPost_ret (v := .tuple #[.agg #[.int .i64 (n : Int), .slice av4 lv4 cv4], .bool true]) ?_ rfl ⟨_, rfl, by rw [HR.out]; exact own_set (own_set O4.out _ F4.out) _ F4.out, below_st (below_st XL.out _ _ _ (by omega)) _ _ _ (by omega)⟩
        rw [results_cell_tmp rfl]
        go_simp
set_option maxRecDepth 100000 in
set_option maxHeartbeats 4000000 in
theorem drem_yes (n : Nat) (v : Value) (zs : List Int) (i : Int) (w : World) (h : OwnI w 0 v zs) (hu : Up zs) (hL : zs.length ≤ 65536) (hin : i ∈ zs) :
    Calls Tryd.prog 77 #[.agg #[.int .i64 (n : Int), v], .int .i64 i] w fun e w' => ∃ v', e = .returned (.tuple #[.agg #[.int .i64 (n : Int), v'], .bool true]) ∧ OwnI w' w.heap.size v' (zs.take (bel zs i) ++ zs.drop (bel zs i + 1)) ∧ Below w.heap.size w w' := by
  obtain ⟨a, cap, rfl, hcap, hnone, hsome⟩ := own_shape h
  have X0 := hid (Bp.new w n (.slice a zs.length cap))
  have HK := hid (fun W (hW : Below w.heap.size w W) => dbelow n a cap zs i W ((own_rd h).low hW (Nat.le_refl _)) hu hL)
  have HRD := hid (own_rd h)
  have HI := hid (has_iff hu i)
  have hle := bel_le zs i
  have HT := hid (fun W (hW : Below w.heap.size w W) => own_take h hW hle)
  have HD := hid (fun b (e : a = some ⟨b, 0, none⟩) W (hW : Below w.heap.size w W) c l (hkl : (bel zs i + 1) + l = zs.length) => show Holds W (.slice (some ⟨b, (bel zs i + 1), none⟩) l c) (zs.drop ((bel zs i + 1))) by
    have := own_drop (c := c) (by rw [e] at h; exact h) hW hkl
    rw [Nat.zero_add] at this
    exact this)
  have HC := hid (fun b (e : a = some ⟨b, 0, none⟩) W (hW : Below w.heap.size w W) c l (hkl : (bel zs i + 1) + l = zs.length) => show Holds W (.slice (if cap = (bel zs i + 1) then some ⟨b, 0, none⟩ else some ⟨b, (bel zs i + 1), none⟩) l c) (zs.drop ((bel zs i + 1))) by
    by_cases hq : cap = (bel zs i + 1)
    · have hl0 : l = 0 := by omega
      have hdr : zs.drop ((bel zs i + 1)) = [] := List.eq_nil_of_length_eq_zero (by rw [List.length_drop]; omega)
      rw [if_pos hq, hdr, hl0]
      exact ⟨Or.inr ⟨b, 0, c, rfl, fun j hj => by cases hj⟩⟩
    · rw [if_neg hq]
      exact HD.out b e W hW c l hkl)
  have hl1 : (zs.take (bel zs i)).length = bel zs i := by rw [List.length_take]; omega
  have hl2 : (zs.drop ((bel zs i + 1))).length = zs.length - ((bel zs i + 1)) := by rw [List.length_drop]
  clear h hu
  obtain ⟨L, hLe⟩ : ∃ L, L = zs.length := ⟨_, rfl⟩
  have HL := hid hLe
  rw [← hLe] at hL HK X0 HI hle hcap HD HC hl2
  rw [← hLe]
  clear hLe
  generalize bel zs i = k at *
  generalize zs.take k = ya at *
  generalize zs.drop (k + 1) = yb at *
  obtain ⟨R, hR⟩ : ∃ R, R = ya ++ yb := ⟨_, rfl⟩
  rw [← hR]
  have HR := hid hR
  clear hR
  have HS := hid hsome
  have HN := hid hnone
  clear hsome hnone
  have hk2 : k ≤ cap := by omega
  go_enter Tryd.func77, Tryd.ntmps77
  have t0 := X0.out.a0
  go_wp2_with fail
  generalize (w.alloc _).alloc _ = X at *
  refine (HK.out X X0.out.low).mono ?_
  rintro e w1 ⟨rfl, hb1⟩
  have X1 := hid (X0.out.on hb1)
  have XZ := hid (own_zero w1 w1.heap.size rfl)
  have XB := hid (X1.out.on (lowAlloc w1 (.cells #[] 3)))
  have hsz := hid (show w.heap.size + 1 < w1.heap.size from X1.out.lt)
  have s0 := X1.out.a0
  have s1 := X1.out.a1
  have u0 := XB.out.a0
  have u1 := XB.out.a1
  have T1 := hid (HT.out _ XB.out.low)
  clear hb1 X0 HK t0 HT
  obtain ⟨hkL, hz⟩ := HI.out.1 hin
  rcases HRD.out.low X1.out.low (Nat.le_refl _) with c | ⟨b, off, hab, _, hc⟩
  · have := HL.out; omega
  obtain ⟨b', e9, _⟩ := HS.out _ hab
  injection e9 with e9 e10 _
  subst e9; subst e10
  subst hab
  have hx := hc k (by rw [← HL.out]; exact hkL)
  rw [hz] at hx
  clear hc HI HS HN HRD hin hz
  have hkL' : (k : Int) < (L : Int) := by omega
  have hk3 : k + 1 ≤ L := hkL
  have hk4 : ¬ (L : Int) ≤ (k : Int) := by omega
  have hk5 : ¬ L ≤ k := by omega
  rw [Nat.zero_add] at hx
  by_cases hq : cap = k + 1
  · have hyb : yb = [] := List.eq_nil_of_length_eq_zero (by omega)
    obtain rfl : L = k + 1 := by omega
    subst hq
    clear HD HC
    go_wp2_with (first
      | (at_builtin; refine wpList_append_src rfl _ _ rfl w1.heap.size _ [] rfl XZ.out _ (ya) rfl T1.out (by (try simp); omega) (by simp) ?_; intro v1 w2 o1 g1; have X2 := hid (XB.out.grown g1 (fun b e => by have := (own_lt XZ.out e).1; have := hsz.out; omega)); have H2 := hid (show w1.heap.size ≤ w2.heap.size by have := g1.size; simp at this; omega); have O1 := hid (show OwnI w2 w1.heap.size _ ya from o1); have u0 := X2.out.a0; have u1 := X2.out.a1; have hlt2 := hid (X2.out.lt); clear XZ o1 g1 s0 s1)
      | (at_builtin; refine wpList_append_src rfl _ _ rfl w1.heap.size _ (ya) rfl O1.out _ yb rfl (holds_void _ ⟨b, _, none⟩ _ hyb) (by (try simp); omega) (by have := H2.out; omega) ?_; intro v4 w4 o4 g4; have X4 := (X2.out.grown g4 (fun b e => by have := (own_lt O1.out e).1; have := hsz.out; omega)); obtain ⟨av4, lv4, cv4, hv⟩ := own_form9 o4; subst hv; have O4 := hid (own_mono o4 (show w.heap.size ≤ w1.heap.size by have := hsz.out; omega)); have F4 := hid (own_far o4 hsz.out); have u0 := X4.a0; have u1 := X4.a1; have r0 := X4.r0; have r1 := X4.r1; have f0 := X4.f0; have f1 := X4.f1; have XL := hid X4.low; clear O1 o4 g4 X4))
    refine bodyPost_ret (v := .tuple #[.agg #[.int .i64 (n : Int), .slice av4 lv4 cv4], .bool true]) ?_ rfl ⟨_, rfl, by rw [HR.out]; exact own_set (own_set O4.out _ F4.out) _ F4.out, below_st (below_st XL.out _ _ _ (by omega)) _ _ _ (by omega)⟩
    rw [results_cell_tmp rfl]
    go_simp
  · have hq2 : ¬ k + 1 = cap := by omega
    clear HC
    go_wp2_with (first
      | (at_builtin; refine wpList_append_src rfl _ _ rfl w1.heap.size _ [] rfl XZ.out _ (ya) rfl T1.out (by (try simp); omega) (by simp) ?_; intro v1 w2 o1 g1; have X2 := hid (XB.out.grown g1 (fun b e => by have := (own_lt XZ.out e).1; have := hsz.out; omega)); have H2 := hid (show w1.heap.size ≤ w2.heap.size by have := g1.size; simp at this; omega); have O1 := hid (show OwnI w2 w1.heap.size _ ya from o1); have u0 := X2.out.a0; have u1 := X2.out.a1; have hlt2 := hid (X2.out.lt); clear XZ o1 g1 s0 s1)
      | (at_builtin; refine wpList_append_src rfl _ _ rfl w1.heap.size _ (ya) rfl O1.out _ yb rfl (HD.out _ rfl _ X2.out.low _ _ (by omega)) (by (try simp); omega) (by have := H2.out; omega) ?_; intro v4 w4 o4 g4; have X4 := (X2.out.grown g4 (fun b e => by have := (own_lt O1.out e).1; have := hsz.out; omega)); obtain ⟨av4, lv4, cv4, hv⟩ := own_form9 o4; subst hv; have O4 := hid (own_mono o4 (show w.heap.size ≤ w1.heap.size by have := hsz.out; omega)); have F4 := hid (own_far o4 hsz.out); have u0 := X4.a0; have u1 := X4.a1; have r0 := X4.r0; have r1 := X4.r1; have f0 := X4.f0; have f1 := X4.f1; have XL := hid X4.low; clear O1 o4 g4 X4))
    refine bodyPost_ret (v := .tuple #[.agg #[.int .i64 (n : Int), .slice av4 lv4 cv4], .bool true]) ?_ rfl ⟨_, rfl, by rw [HR.out]; exact own_set (own_set O4.out _ F4.out) _ F4.out, below_st (below_st XL.out _ _ _ (by omega)) _ _ _ (by omega)⟩
    rw [results_cell_tmp rfl]
    go_simp
end Go.Proofs.YtkagdmhijjfnnaaDoor
