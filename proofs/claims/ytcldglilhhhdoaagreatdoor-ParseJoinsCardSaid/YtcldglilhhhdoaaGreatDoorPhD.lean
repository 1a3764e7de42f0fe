import Derived.Test.YtcldglilhhhdoaaGreatDoorPhC
namespace Go.Proofs.YtcldglilhhhdoaaGreatDoor.L
open Go.RowKit Go.Shelf
set_option linter.unusedVariables false
set_option linter.unusedSimpArgs false
section
variable {fs ss : ByteArray} {l1 l2 T : List Tok} {A B : List Pt}
theorem and_run (R1 : Rd1 fs A l1) (R2 : Rd1 ss B l2) {y0 y2 y3 : Nat} (t0 : tk T 0 = m1 40 y0) (S1 : Sits fs l1 T 1) (t2 : tk T (l1.length + 2) = m2 38 38 y2) (t3 : tk T (l1.length + 3) = m1 40 y3) (S2 : Sits ss l2 T (l1.length + 3 + 1)) (t5 : (tk T (l2.length + (l1.length + 3 + 1) + 1)).kind = 0) (h1 : l1.length ≤ 4093) (h2 : l2.length ≤ 4093) :
    Wh T (A ++ B.map (shK A.length) ++ [⟨4, ⟨#[]⟩, 0, [(A.length : Int) - 1, (A.length : Int) + B.length - 1]⟩]) := by
  rcases group_run (p := 0) S1 R1 t0 0 [] [] (n := 16389) (by omega) (by omega) with ⟨os, g1⟩ | ⟨x, g1⟩
  · rw [map_sh0, List.nil_append] at g1
    have hm1 : isM T ⟨l1.length + (0 + 1) + 1, 0, A, os⟩ [38, 38] = true := isM_m2 (s := ⟨l1.length + (0 + 1) + 1, 0, A, os⟩) t2
    rcases group_run (p := l1.length + 3) S2 R2 t3 0 A os (n := 16389) (by omega) (by omega) with ⟨os2, g2⟩ | ⟨x, g2⟩
    · have hm2 : ∀ ps os m, isM T ⟨l2.length + (l1.length + 3 + 1) + 1, 0, ps, os⟩ m = false := fun ps os m => isM_not (by rw [t5]; decide)
      obtain ⟨x, hr⟩ := row_two (T := T) (kd := 4) g1 hm1 g2 (hm2 _ _ _)
      have hc : gr T 16391 .conj ⟨0, 0, [], []⟩ = _ := (g_conj T 16390 _).trans hr
      have he : gr T 16392 .expr ⟨0, 0, [], []⟩ = _ := (g_expr T 16391 _).trans (row_one hc (hm2 _ _ _))
      refine wh_ok he ?_ t5
      show (A ++ B.map (shK A.length)) ++ [_] = _
      simp
    · have hc : gr T 16391 .conj ⟨0, 0, [], []⟩ = _ := (g_conj T 16390 _).trans (row_two_bad g1 hm1 g2)
      exact wh_bad ((g_expr T 16391 _).trans (row_bad hc))
  · have hc : gr T 16391 .conj ⟨0, 0, [], []⟩ = _ := (g_conj T 16390 _).trans (row_bad g1)
    exact wh_bad ((g_expr T 16391 _).trans (row_bad hc))
theorem or_run (R1 : Rd1 fs A l1) (R2 : Rd1 ss B l2) {y0 y2 y3 : Nat} (t0 : tk T 0 = m1 40 y0) (S1 : Sits fs l1 T 1) (t2 : tk T (l1.length + 2) = m2 124 124 y2) (t3 : tk T (l1.length + 3) = m1 40 y3) (S2 : Sits ss l2 T (l1.length + 3 + 1)) (t5 : (tk T (l2.length + (l1.length + 3 + 1) + 1)).kind = 0) (h1 : l1.length ≤ 4093) (h2 : l2.length ≤ 4093) :
    Wh T (A ++ B.map (shK A.length) ++ [⟨5, ⟨#[]⟩, 0, [(A.length : Int) - 1, (A.length : Int) + B.length - 1]⟩]) := by
  rcases group_run (p := 0) S1 R1 t0 0 [] [] (n := 16389) (by omega) (by omega) with ⟨os, g1⟩ | ⟨x, g1⟩
  · rw [map_sh0, List.nil_append] at g1
    have hm0 : isM T ⟨l1.length + (0 + 1) + 1, 0, A, os⟩ [38, 38] = false := isM_m2 (s := ⟨l1.length + (0 + 1) + 1, 0, A, os⟩) t2
    have hm1 : isM T ⟨l1.length + (0 + 1) + 1, 0, A, os⟩ [124, 124] = true := isM_m2 (s := ⟨l1.length + (0 + 1) + 1, 0, A, os⟩) t2
    have c1 : gr T 16391 .conj ⟨0, 0, [], []⟩ = _ := (g_conj T 16390 _).trans (row_one g1 hm0)
    rcases group_run (p := l1.length + 3) S2 R2 t3 0 A os (n := 16389) (by omega) (by omega) with ⟨os2, g2⟩ | ⟨x, g2⟩
    · have hm2 : ∀ ps os m, isM T ⟨l2.length + (l1.length + 3 + 1) + 1, 0, ps, os⟩ m = false := fun ps os m => isM_not (by rw [t5]; decide)
      have c2 : gr T 16391 .conj (adv ⟨l1.length + (0 + 1) + 1, 0, A, os⟩) = _ := (g_conj T 16390 _).trans (row_one g2 (hm2 _ _ _))
      obtain ⟨x, hr⟩ := row_two (T := T) (kd := 5) c1 hm1 c2 (hm2 _ _ _)
      have he : gr T 16392 .expr ⟨0, 0, [], []⟩ = _ := (g_expr T 16391 _).trans hr
      refine wh_ok he ?_ t5
      show (A ++ B.map (shK A.length)) ++ [_] = _
      simp
    · have c2 : gr T 16391 .conj (adv ⟨l1.length + (0 + 1) + 1, 0, A, os⟩) = _ := (g_conj T 16390 _).trans (row_bad g2)
      exact wh_bad ((g_expr T 16391 _).trans (row_two_bad c1 hm1 c2))
  · have hc : gr T 16391 .conj ⟨0, 0, [], []⟩ = _ := (g_conj T 16390 _).trans (row_bad g1)
    exact wh_bad ((g_expr T 16391 _).trans (row_bad hc))
theorem not_run (R1 : Rd1 fs A l1) {y0 y1 : Nat} (t0 : tk T 0 = m1 33 y0) (t1 : tk T 1 = m1 40 y1) (S1 : Sits fs l1 T (1 + 1)) (t5 : (tk T (l1.length + (1 + 1) + 1)).kind = 0) (h1 : l1.length ≤ 4093) :
    Wh T (A ++ [⟨3, ⟨#[]⟩, 0, [(A.length : Int) - 1]⟩]) := by
  have e1 : isM T ⟨0, 0, [], []⟩ [33] = true := isM_m1 (s := ⟨0, 0, [], []⟩) t0
  have eu : gr T 16390 .unit ⟨0, 0, [], []⟩ = negP T (gr T 16389 .unit) ⟨0, 0, [], []⟩ := by
    show unitP T (gr T 16389 .expr) (gr T 16389 .unit) (gr T 16389 .term) ⟨0, 0, [], []⟩ = _
    unfold unitP
    rw [e1, if_pos rfl]
  have eo : openP T ⟨0, 0, [], []⟩ [33] = .ok ((), ⟨1, 1, [], []⟩) := by
    unfold openP
    rw [e1, if_pos rfl, if_neg (by decide)]
    rfl
  apply wh_unit
  rw [eu]
  unfold negP
  rw [eo, bnd_ok]
  rcases group_run (p := 1) S1 R1 t1 1 [] [] (n := 16388) (by omega) (by omega) with ⟨os, g1⟩ | ⟨x, g1⟩
  · rw [map_sh0, List.nil_append] at g1
    left
    rw [g1, bnd_ok]
    refine ⟨(A.length : Int), l1.length + (1 + 1) + 1, os ++ [((tk T 0).a : Int)], ?_, t5⟩
    unfold putP shutP
    simp
  · right
    exact ⟨x, by rw [g1]; rfl⟩
theorem par_run (R1 : Rd1 fs A l1) {y0 : Nat} (t0 : tk T 0 = m1 40 y0) (S1 : Sits fs l1 T (0 + 1)) (t5 : (tk T (l1.length + (0 + 1) + 1)).kind = 0) (h1 : l1.length ≤ 4093) : Wh T A := by
  apply wh_unit
  rcases group_run (p := 0) S1 R1 t0 0 [] [] (n := 16389) (by omega) (by omega) with ⟨os, g1⟩ | ⟨x, g1⟩
  · rw [map_sh0, List.nil_append] at g1
    exact Or.inl ⟨_, _, _, g1, t5⟩
  · exact Or.inr ⟨x, g1⟩
/-- near, apart and count. -/
theorem sel_run (R1 : Rd1 fs A l1) {q : ByteArray} {y1 y3 a e : Nat} (t1 : tk T 1 = m1 40 y1) (t2 : tk T 2 = ⟨1, q, 0, a, e⟩) (t3 : tk T 3 = m1 44 y3) (S1 : Sits fs l1 T 4) (kd : Int) {n : Nat} (h1 : 4 * (l1.length + 1) + 3 < n) (h2 : n ≤ 16392) :
    (∃ os, selP T (gr T n .expr) kd ⟨0, 0, [], []⟩ = .ok ((A.length : Int), ⟨l1.length + 5, 0, A ++ [⟨kd, q, 0, [(A.length : Int) - 1]⟩], os⟩)) ∨ ∃ x, selP T (gr T n .expr) kd ⟨0, 0, [], []⟩ = .error (122, x) := by
  have e1 : isM T ⟨1, 0, [], []⟩ [40] = true := isM_m1 (s := ⟨1, 0, [], []⟩) t1
  have eo : openP T ⟨1, 0, [], []⟩ [40] = .ok ((), ⟨2, 1, [], []⟩) := by
    unfold openP
    rw [e1, if_pos rfl, if_neg (by decide)]
    rfl
  have et : textP T ⟨2, 1, [], []⟩ = .ok (q, ⟨3, 1, [], []⟩) := by
    unfold textP
    show (if (tk T 2).kind = 1 then _ else _) = _
    rw [t2]
    rfl
  have ec : markP T ⟨3, 1, [], []⟩ [44] = .ok ((), ⟨4, 1, [], []⟩) := by
    have e3 : isM T ⟨3, 1, [], []⟩ [44] = true := isM_m1 (s := ⟨3, 1, [], []⟩) t3
    unfold markP
    rw [e3, if_pos rfl]
    rfl
  unfold selP
  show (∃ os, bnd (withP T _ ⟨1, 0, [], []⟩) _ = _) ∨ ∃ x, bnd (withP T _ ⟨1, 0, [], []⟩) _ = _
  unfold withP
  rw [eo, bnd_ok]
  simp only
  rw [et, bnd_ok, ec, bnd_ok]
  rcases inner_run S1 R1 1 [] [] h1 h2 with ⟨os', hr⟩ | ⟨x, hx⟩
  · left
    rw [map_sh0, List.nil_append] at hr
    obtain ⟨x, hx⟩ := S1.shut
    have em : isM T ⟨l1.length + 4, 1, A, os'⟩ [41] = true := isM_m1 (s := ⟨l1.length + 4, 1, A, os'⟩) hx
    have emk : markP T ⟨l1.length + 4, 1, A, os'⟩ [41] = .ok ((), ⟨l1.length + 5, 1, A, os'⟩) := by
      unfold markP
      rw [em, if_pos rfl]
      rfl
    refine ⟨os' ++ [((tk T 0).a : Int)], ?_⟩
    rw [hr, bnd_ok, bnd_ok, emk, bnd_ok, bnd_ok]
    unfold putP shutP
    simp
  · right
    exact ⟨x, by rw [hx]; rfl⟩
theorem sel_unit (R1 : Rd1 fs A l1) {q b0 : ByteArray} {y1 y3 a e a0 e0 : Nat} (t0 : tk T 0 = ⟨3, b0, 0, a0, e0⟩) (t1 : tk T 1 = m1 40 y1) (t2 : tk T 2 = ⟨1, q, 0, a, e⟩) (t3 : tk T 3 = m1 44 y3) (S1 : Sits fs l1 T 4) (t5 : (tk T (l1.length + 5)).kind = 0) (h1 : l1.length ≤ 4093) (kd : Int)
    (hw : (kd = 8 ∧ b0.toList = [110, 101, 97, 114]) ∨ (kd = 9 ∧ b0.toList = [97, 112, 97, 114, 116])) : Wh T (A ++ [⟨kd, q, 0, [(A.length : Int) - 1]⟩]) := by
  have hm : ∀ m, isM T ⟨0, 0, [], []⟩ m = false := fun m => isM_not (by show (tk T 0).kind ≠ 4; rw [t0]; exact (by decide : (3 : Nat) ≠ 4))
  have eu : gr T 16390 .unit ⟨0, 0, [], []⟩ = selP T (gr T 16389 .expr) kd ⟨0, 0, [], []⟩ := by
    show unitP T (gr T 16389 .expr) (gr T 16389 .unit) (gr T 16389 .term) ⟨0, 0, [], []⟩ = _
    unfold unitP
    rw [hm, hm, if_neg (by decide), if_neg (by decide)]
    unfold atomP
    simp only
    rw [t0]
    simp only
    rcases hw with ⟨rfl, hb⟩ | ⟨rfl, hb⟩
    · rw [hb]; rfl
    · rw [hb]; rfl
  apply wh_unit
  rw [eu]
  rcases sel_run R1 t1 t2 t3 S1 kd (n := 16389) (by omega) (by omega) with ⟨os, h⟩ | h
  · exact Or.inl ⟨_, _, _, h, t5⟩
  · exact Or.inr h
theorem cnt_run (R1 : Rd1 fs A l1) {q b0 bn : ByteArray} {y1 y3 y6 a e a0 e0 a7 e7 : Nat} (t0 : tk T 0 = ⟨3, b0, 0, a0, e0⟩) (hb : b0.toList = [99, 111, 117, 110, 116]) (t1 : tk T 1 = m1 40 y1) (t2 : tk T 2 = ⟨1, q, 0, a, e⟩) (t3 : tk T 3 = m1 44 y3) (S1 : Sits fs l1 T 4) (t6 : tk T (l1.length + 5) = m2 62 61 y6) (t7 : tk T (l1.length + 6) = ⟨2, bn, 7, a7, e7⟩) (t8 : (tk T (l1.length + 7)).kind = 0) (h1 : l1.length ≤ 4093) :
    Wh T (A ++ [⟨20, q, 0, [(A.length : Int) - 1]⟩, ⟨12, ⟨#[]⟩, 7, []⟩, ⟨6, ⟨#[]⟩, 6, [(A.length : Int), (A.length : Int) + 1]⟩]) := by
  have hm : ∀ m, isM T ⟨0, 0, [], []⟩ m = false := fun m => isM_not (by show (tk T 0).kind ≠ 4; rw [t0]; exact (by decide : (3 : Nat) ≠ 4))
  have eu : gr T 16390 .unit ⟨0, 0, [], []⟩ = compP T (gr T 16389 .term) ⟨0, 0, [], []⟩ := by
    show unitP T (gr T 16389 .expr) (gr T 16389 .unit) (gr T 16389 .term) ⟨0, 0, [], []⟩ = _
    unfold unitP
    rw [hm, hm, if_neg (by decide), if_neg (by decide)]
    unfold atomP
    simp only
    rw [t0]
    simp only
    rw [hb]
    rfl
  have et : gr T 16389 .term ⟨0, 0, [], []⟩ = selP T (gr T 16388 .expr) 20 ⟨0, 0, [], []⟩ := by
    show termP T (gr T 16388 .expr) (gr T 16388 .term) ⟨0, 0, [], []⟩ = _
    unfold termP
    rw [hm]
    simp only
    rw [t0]
    show wordP T (gr T 16388 .expr) (gr T 16388 .term) ⟨0, 0, [], []⟩ = _
    unfold wordP
    simp only
    rw [t0]
    simp only
    rw [hb]
    rfl
  apply wh_unit
  rw [eu]
  unfold compP
  rw [et]
  rcases sel_run R1 t1 t2 t3 S1 20 (n := 16388) (by omega) (by omega) with ⟨os, h⟩ | ⟨x, h⟩
  · left
    rw [h, bnd_ok]
    simp only
    have eb : betO (tk T (l1.length + 5)) = some (6, 6) := by
      rw [t6]
      unfold betO
      rw [m2_txt]
      rfl
    rw [eb]
    simp only
    have e7 : gr T 16389 .term (adv ⟨l1.length + 5, 0, A ++ [⟨20, q, 0, [(A.length : Int) - 1]⟩], os⟩) = elP T ⟨l1.length + 6, 0, A ++ [⟨20, q, 0, [(A.length : Int) - 1]⟩], os⟩ := by
      show termP T (gr T 16388 .expr) (gr T 16388 .term) ⟨l1.length + 6, 0, A ++ [⟨20, q, 0, [(A.length : Int) - 1]⟩], os⟩ = _
      unfold termP
      simp only
      rw [t7]
      rfl
    have e8 : elP T ⟨l1.length + 6, 0, A ++ [⟨20, q, 0, [(A.length : Int) - 1]⟩], os⟩ = .ok ((A.length : Int) + 1, ⟨l1.length + 7, 0, A ++ [⟨20, q, 0, [(A.length : Int) - 1]⟩] ++ [⟨12, ⟨#[]⟩, 7, []⟩], os ++ [(a7 : Int)]⟩) := by
      unfold elP
      simp only
      rw [t7]
      unfold putP adv
      simp
    rw [e7, e8, bnd_ok]
    refine ⟨(A.length : Int) + 2, l1.length + 7, os ++ [(a7 : Int)] ++ [((tk T (l1.length + 5)).a : Int)], ?_, t8⟩
    unfold putP
    simp
  · right
    exact ⟨x, by rw [h]; rfl⟩
end
end Go.Proofs.YtcldglilhhhdoaaGreatDoor.L
