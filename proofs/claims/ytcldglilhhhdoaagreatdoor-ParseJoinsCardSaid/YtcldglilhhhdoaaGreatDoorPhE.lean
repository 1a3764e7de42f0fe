import Derived.Test.YtcldglilhhhdoaaGreatDoorPhD
namespace Go.Proofs.YtcldglilhhhdoaaGreatDoor.L
open Go.RowKit Go.Shelf
set_option linter.unusedVariables false
set_option linter.unusedSimpArgs false
theorem bt_at {w pre mid post : ByteArray} (h : w = pre ++ mid ++ post) {j p : Nat} (hj : j < mid.size) (hp : p = pre.size + j) : bt w p = bt mid j := by
  subst hp
  rw [h, bt_app', if_pos (by rw [ByteArray.size_append]; omega), bt_app', if_neg (by omega), show pre.size + j - pre.size = j by omega]
theorem emw_of {w pre F post : ByteArray} (h : w = pre ++ F ++ (⟨#[10]⟩ ++ post)) {d : Nat} (hd : d = pre.size) : Emw F w d := by
  subst hd
  have hz : w.size = pre.size + F.size + (1 + post.size) := by
    rw [h, ByteArray.size_append, ByteArray.size_append, ByteArray.size_append]
    rfl
  refine ⟨by omega, fun j hj => bt_at h hj rfl, ?_⟩
  have h2 : w = (pre ++ F) ++ ⟨#[10]⟩ ++ post := by rw [h]; simp only [ByteArray.append_assoc]
  exact bt_at h2 (j := 0) (by show 0 < 1; omega) (by rw [ByteArray.size_append]; rfl)
theorem tk_r0 (x y : List Tok) : tk (x ++ y) x.length = tk y 0 := by
  have := tk_r x y 0
  rwa [Nat.add_zero] at this
theorem tk_s (x : Tok) (r : List Tok) (i : Nat) : tk (x :: r) (i + 1) = tk r i := rfl
theorem app_inj {l l' : List Tok} {t : Tok} (h : l ++ [t] = l' ++ [t]) : l = l' := List.append_cancel_right h
theorem sc_rd {F w : ByteArray} {A : List Pt} {l : List Tok} (R : Rd1 F A l) {d : Nat} (E : Emw F w d) : Scn w d (l.map (shT d)) (d + F.size + 1) := by
  obtain ⟨l', h1, h2⟩ := sc_src E (by rw [R.scan])
  rw [R.scan] at h1
  rw [app_inj h1]
  exact h2
theorem two_scan {F S M w : ByteArray} {A B : List Pt} {l1 l2 : List Tok} (R1 : Rd1 F A l1) (R2 : Rd1 S B l2) (hw : w = ⟨#[40]⟩ ++ F ++ ⟨#[10, 41]⟩ ++ M ++ ⟨#[40]⟩ ++ S ++ ⟨#[10, 41]⟩) (c : UInt8) (hM : ∀ p, (∀ j, j < M.size → bt w (p + j) = bt M j) → p + M.size < w.size → ∃ y, Scn w p [m2 c c y] (p + M.size)) (hz : w.size ≤ 4096) :
    ∃ T y0 y2 y3, scanT w = (T, none) ∧ tk T 0 = m1 40 y0 ∧ Sits F l1 T 1 ∧ tk T (l1.length + 2) = m2 c c y2 ∧ tk T (l1.length + 3) = m1 40 y3 ∧ Sits S l2 T (l1.length + 3 + 1) ∧ (tk T (l2.length + (l1.length + 3 + 1) + 1)).kind = 0 := by
  have z1 : (⟨#[40]⟩ : ByteArray).size = 1 := rfl
  have z2 : (⟨#[10, 41]⟩ : ByteArray).size = 2 := rfl
  have z3 : (⟨#[10]⟩ : ByteArray).size = 1 := rfl
  have z4 : (⟨#[41]⟩ : ByteArray).size = 1 := rfl
  have e2 : (⟨#[10, 41]⟩ : ByteArray) = ⟨#[10]⟩ ++ ⟨#[41]⟩ := rfl
  have hs : w.size = 1 + F.size + 2 + M.size + 1 + S.size + 2 := by rw [hw]; simp only [ByteArray.size_append, z1, z2]
  have w1 : w = ByteArray.empty ++ ⟨#[40]⟩ ++ (F ++ ⟨#[10, 41]⟩ ++ M ++ ⟨#[40]⟩ ++ S ++ ⟨#[10, 41]⟩) := by rw [hw]; simp only [ByteArray.append_assoc, ByteArray.empty_append]
  have w2 : w = ⟨#[40]⟩ ++ F ++ (⟨#[10]⟩ ++ (⟨#[41]⟩ ++ M ++ ⟨#[40]⟩ ++ S ++ ⟨#[10, 41]⟩)) := by rw [hw, e2]; simp only [ByteArray.append_assoc]
  have w3 : w = (⟨#[40]⟩ ++ F ++ ⟨#[10]⟩) ++ ⟨#[41]⟩ ++ (M ++ ⟨#[40]⟩ ++ S ++ ⟨#[10, 41]⟩) := by rw [hw, e2]; simp only [ByteArray.append_assoc]
  have w4 : w = (⟨#[40]⟩ ++ F ++ ⟨#[10, 41]⟩) ++ M ++ (⟨#[40]⟩ ++ S ++ ⟨#[10, 41]⟩) := by rw [hw]; simp only [ByteArray.append_assoc]
  have w5 : w = (⟨#[40]⟩ ++ F ++ ⟨#[10, 41]⟩ ++ M) ++ ⟨#[40]⟩ ++ (S ++ ⟨#[10, 41]⟩) := by rw [hw]; simp only [ByteArray.append_assoc]
  have w6 : w = (⟨#[40]⟩ ++ F ++ ⟨#[10, 41]⟩ ++ M ++ ⟨#[40]⟩) ++ S ++ (⟨#[10]⟩ ++ ⟨#[41]⟩) := by rw [hw, e2]
  have w7 : w = (⟨#[40]⟩ ++ F ++ ⟨#[10, 41]⟩ ++ M ++ ⟨#[40]⟩ ++ S ++ ⟨#[10]⟩) ++ ⟨#[41]⟩ ++ ByteArray.empty := by rw [hw, e2]; simp only [ByteArray.append_assoc, ByteArray.append_empty]
  have b0 : bt w 0 = 40 := bt_at w1 (j := 0) (by show 0 < 1; omega) rfl
  have b1 : bt w (1 + F.size + 1) = 41 := bt_at w3 (j := 0) (by show 0 < 1; omega) (by simp only [ByteArray.size_append, z1, z3] <;> omega)
  have b2 : bt w (1 + F.size + 1 + 1 + M.size) = 40 := bt_at w5 (j := 0) (by show 0 < 1; omega) (by simp only [ByteArray.size_append, z1, z2] <;> omega)
  have b3 : bt w (1 + F.size + 1 + 1 + M.size + 1 + S.size + 1) = 41 := bt_at w7 (j := 0) (by show 0 < 1; omega) (by simp only [ByteArray.size_append, z1, z2, z3] <;> omega)
  have s0 := sc_open b0 (by omega)
  have s1 := sc_rd R1 (emw_of w2 z1.symm)
  have s2 := sc_shut b1 (by omega)
  obtain ⟨y, s3⟩ := hM (1 + F.size + 1 + 1) (fun j hj => bt_at w4 hj (by simp only [ByteArray.size_append, z1, z2] <;> omega)) (by omega)
  have s4 := sc_open b2 (by omega)
  have s5 := sc_rd R2 (emw_of w6 (d := 1 + F.size + 1 + 1 + M.size + 1) (by simp only [ByteArray.size_append, z1, z2] <;> omega))
  have s6 := sc_shut b3 (by omega)
  have hT := sc_end ((((((s0.trans s1).trans s2).trans s3).trans s4).trans s5).trans s6) (by omega) hz
  simp only [List.append_assoc, List.cons_append, List.nil_append] at hT
  refine ⟨_, 0, y, 1 + F.size + 1 + 1 + M.size, hT, rfl, ⟨fun i hi => ⟨1, ?_⟩, ⟨1 + F.size + 1, ?_⟩⟩, ?_, ?_, ⟨fun i hi => ⟨1 + F.size + 1 + 1 + M.size + 1, ?_⟩, ⟨1 + F.size + 1 + 1 + M.size + 1 + S.size + 1, ?_⟩⟩, ?_⟩
  · rw [tk_s, tk_l (by simpa using hi), tk_map hi]
  · rw [show l1.length + 1 = (l1.map (shT 1)).length + 0 + 1 by simp, tk_s, tk_r0]
    rfl
  · rw [show l1.length + 2 = (l1.map (shT 1)).length + 1 + 1 by simp, tk_s, tk_r]
    rfl
  · rw [show l1.length + 3 = (l1.map (shT 1)).length + 2 + 1 by simp, tk_s, tk_r]
    rfl
  · rw [show i + (l1.length + 3 + 1) = (l1.map (shT 1)).length + (i + 3) + 1 by simp; omega, tk_s, tk_r, tk_s, tk_s, tk_s, tk_l (by simpa using hi), tk_map hi]
  · rw [show l2.length + (l1.length + 3 + 1) = (l1.map (shT 1)).length + ((l2.map (shT (1 + F.size + 1 + 1 + M.size + 1))).length + 0 + 3) + 1 by simp; omega, tk_s, tk_r, tk_s, tk_s, tk_s, tk_r0]
    rfl
  · rw [show l2.length + (l1.length + 3 + 1) + 1 = (l1.map (shT 1)).length + ((l2.map (shT (1 + F.size + 1 + 1 + M.size + 1))).length + 1 + 3) + 1 by simp; omega, tk_s, tk_r, tk_s, tk_s, tk_s, tk_r]
    rfl
theorem and_mid {w : ByteArray} (p : Nat) (h : ∀ j, j < (⟨#[32, 38, 38, 32]⟩ : ByteArray).size → bt w (p + j) = bt ⟨#[32, 38, 38, 32]⟩ j) (hz : p + (⟨#[32, 38, 38, 32]⟩ : ByteArray).size < w.size) : ∃ y, Scn w p [m2 38 38 y] (p + (⟨#[32, 38, 38, 32]⟩ : ByteArray).size) := by
  have hz : p + 4 < w.size := hz
  have b0 : bt w p = 32 := h 0 (by decide)
  have b1 : bt w (p + 1) = 38 := h 1 (by decide)
  have b2 : bt w (p + 1 + 1) = 38 := h 2 (by decide)
  have b3 : bt w (p + 1 + 2) = 32 := h 3 (by decide)
  exact ⟨_, ((sc_blank (by omega) b0).trans (sc_and b1 b2 (by omega))).trans (sc_blank (by omega) b3)⟩
theorem or_mid {w : ByteArray} (p : Nat) (h : ∀ j, j < (⟨#[124, 124]⟩ : ByteArray).size → bt w (p + j) = bt ⟨#[124, 124]⟩ j) (hz : p + (⟨#[124, 124]⟩ : ByteArray).size < w.size) : ∃ y, Scn w p [m2 124 124 y] (p + (⟨#[124, 124]⟩ : ByteArray).size) := by
  have hz : p + 2 < w.size := hz
  have b0 : bt w p = 124 := h 0 (by decide)
  have b1 : bt w (p + 1) = 124 := h 1 (by decide)
  exact ⟨_, sc_or b0 b1 (by omega)⟩
/-- What a source reads as, unless a limit is met. -/
def Rds (src : ByteArray) (L : List Pt) : Prop := (4096 < src.size ∧ ∃ x, parR src = .error (110, x)) ∨ (∃ x, parR src = .error (122, x)) ∨ (1000 < L.length ∧ ∃ x, parR src = .error (123, x)) ∨ (L.length ≤ 1000 ∧ ∃ s, parR src = .ok s ∧ s.ps = L)
theorem rds_big {src : ByteArray} {L : List Pt} (h : 4096 < src.size) : Rds src L := by
  left
  refine ⟨h, ?_⟩
  unfold parR scanT
  rw [if_neg (by omega)]
  exact ⟨_, rfl⟩
theorem rds_wh {src : ByteArray} {T : List Tok} {L : List Pt} (h : scanT src = (T, none)) (hw : Wh T L) : Rds src L := by
  right
  unfold parR
  rw [h]
  simp only
  rcases hw with ⟨x, hw⟩ | ⟨hl, x, hw⟩ | ⟨hl, s, hw, hs⟩
  · left; exact ⟨x, by rw [hw]⟩
  · right; left; exact ⟨hl, x, by rw [hw]⟩
  · right; right; exact ⟨hl, s, by rw [hw], hs⟩
theorem rds_and {F S w : ByteArray} {A B : List Pt} {l1 l2 : List Tok} (R1 : Rd1 F A l1) (R2 : Rd1 S B l2) (hw : w = ⟨#[40]⟩ ++ F ++ ⟨#[10, 41]⟩ ++ ⟨#[32, 38, 38, 32]⟩ ++ ⟨#[40]⟩ ++ S ++ ⟨#[10, 41]⟩) : Rds w (A ++ B.map (shK A.length) ++ [⟨4, ⟨#[]⟩, 0, [(A.length : Int) - 1, (A.length : Int) + B.length - 1]⟩]) := by
  by_cases hz : w.size ≤ 4096
  · obtain ⟨T, y0, y2, y3, hT, t0, S1, t2, t3, S2, t5⟩ := two_scan R1 R2 hw 38 and_mid hz
    have hs : w.size = 1 + F.size + 2 + 4 + 1 + S.size + 2 := by rw [hw]; simp only [ByteArray.size_append]; rfl
    exact rds_wh hT (and_run R1 R2 t0 S1 t2 t3 S2 t5 (by have := R1.len; omega) (by have := R2.len; omega))
  · exact rds_big (by omega)
theorem rds_or {F S w : ByteArray} {A B : List Pt} {l1 l2 : List Tok} (R1 : Rd1 F A l1) (R2 : Rd1 S B l2) (hw : w = ⟨#[40]⟩ ++ F ++ ⟨#[10, 41]⟩ ++ ⟨#[124, 124]⟩ ++ ⟨#[40]⟩ ++ S ++ ⟨#[10, 41]⟩) : Rds w (A ++ B.map (shK A.length) ++ [⟨5, ⟨#[]⟩, 0, [(A.length : Int) - 1, (A.length : Int) + B.length - 1]⟩]) := by
  by_cases hz : w.size ≤ 4096
  · obtain ⟨T, y0, y2, y3, hT, t0, S1, t2, t3, S2, t5⟩ := two_scan R1 R2 hw 124 or_mid hz
    have hs : w.size = 1 + F.size + 2 + 2 + 1 + S.size + 2 := by rw [hw]; simp only [ByteArray.size_append]; rfl
    exact rds_wh hT (or_run R1 R2 t0 S1 t2 t3 S2 t5 (by have := R1.len; omega) (by have := R2.len; omega))
  · exact rds_big (by omega)
theorem rds_not {F w : ByteArray} {A : List Pt} {l1 : List Tok} (R1 : Rd1 F A l1) (hw : w = ⟨#[33, 40]⟩ ++ F ++ ⟨#[10, 41]⟩) : Rds w (A ++ [⟨3, ⟨#[]⟩, 0, [(A.length : Int) - 1]⟩]) := by
  by_cases hz : w.size ≤ 4096
  · have z1 : (⟨#[33, 40]⟩ : ByteArray).size = 2 := rfl
    have z3 : (⟨#[10]⟩ : ByteArray).size = 1 := rfl
    have e2 : (⟨#[10, 41]⟩ : ByteArray) = ⟨#[10]⟩ ++ ⟨#[41]⟩ := rfl
    have hs : w.size = 2 + F.size + 2 := by rw [hw]; simp only [ByteArray.size_append]; rfl
    have w1 : w = ByteArray.empty ++ ⟨#[33, 40]⟩ ++ (F ++ ⟨#[10, 41]⟩) := by rw [hw]; simp only [ByteArray.append_assoc, ByteArray.empty_append]
    have w2 : w = ⟨#[33, 40]⟩ ++ F ++ (⟨#[10]⟩ ++ ⟨#[41]⟩) := by rw [hw, e2]
    have w3 : w = (⟨#[33, 40]⟩ ++ F ++ ⟨#[10]⟩) ++ ⟨#[41]⟩ ++ ByteArray.empty := by rw [hw, e2]; simp only [ByteArray.append_assoc, ByteArray.append_empty]
    have b0 : bt w 0 = 33 := bt_at w1 (j := 0) (by show 0 < 2; omega) rfl
    have b1 : bt w (0 + 1) = 40 := bt_at w1 (j := 1) (by show 1 < 2; omega) rfl
    have b2 : bt w (2 + F.size + 1) = 41 := bt_at w3 (j := 0) (by show 0 < 1; omega) (by simp only [ByteArray.size_append, z1, z3] <;> omega)
    have s0 := sc_not b0 b1 (by omega)
    have s1 := sc_open b1 (by omega)
    have s2 := sc_rd R1 (emw_of w2 z1.symm)
    have s3 := sc_shut b2 (by omega)
    have hT := sc_end (((s0.trans s1).trans s2).trans s3) (by omega) hz
    simp only [List.append_assoc, List.cons_append, List.nil_append] at hT
    refine rds_wh hT (not_run R1 (T := _) (y0 := _) (y1 := _) rfl rfl ⟨fun i hi => ⟨2, ?_⟩, ⟨2 + F.size + 1, ?_⟩⟩ ?_ (by have := R1.len; omega))
    · rw [show i + (1 + 1) = i + 1 + 1 by omega, tk_s, tk_s, tk_l (by simpa using hi), tk_map hi]
    · rw [show l1.length + (1 + 1) = (l1.map (shT 2)).length + 0 + 1 + 1 by simp, tk_s, tk_s, tk_r0]
      rfl
    · rw [show l1.length + (1 + 1) + 1 = (l1.map (shT 2)).length + 1 + 1 + 1 by simp, tk_s, tk_s, tk_r]
      rfl
  · exact rds_big (by omega)
theorem rds_par {F w : ByteArray} {A : List Pt} {l1 : List Tok} (R1 : Rd1 F A l1) (hw : w = ⟨#[32, 40, 32]⟩ ++ F ++ ⟨#[10, 32, 41, 32]⟩) : Rds w A := by
  by_cases hz : w.size ≤ 4096
  · have z1 : (⟨#[32, 40, 32]⟩ : ByteArray).size = 3 := rfl
    have z3 : (⟨#[10]⟩ : ByteArray).size = 1 := rfl
    have e2 : (⟨#[10, 32, 41, 32]⟩ : ByteArray) = ⟨#[10]⟩ ++ ⟨#[32, 41, 32]⟩ := rfl
    have hs : w.size = 3 + F.size + 4 := by rw [hw]; simp only [ByteArray.size_append]; rfl
    have w1 : w = ByteArray.empty ++ ⟨#[32, 40, 32]⟩ ++ (F ++ ⟨#[10, 32, 41, 32]⟩) := by rw [hw]; simp only [ByteArray.append_assoc, ByteArray.empty_append]
    have w2 : w = ⟨#[32, 40, 32]⟩ ++ F ++ (⟨#[10]⟩ ++ ⟨#[32, 41, 32]⟩) := by rw [hw, e2]
    have w3 : w = (⟨#[32, 40, 32]⟩ ++ F ++ ⟨#[10]⟩) ++ ⟨#[32, 41, 32]⟩ ++ ByteArray.empty := by rw [hw, e2]; simp only [ByteArray.append_assoc, ByteArray.append_empty]
    have b0 : bt w 0 = 32 := bt_at w1 (j := 0) (by show 0 < 3; omega) rfl
    have b1 : bt w (0 + 1) = 40 := bt_at w1 (j := 1) (by show 1 < 3; omega) rfl
    have b2 : bt w (0 + 1 + 1) = 32 := bt_at w1 (j := 2) (by show 2 < 3; omega) rfl
    have b3 : bt w (3 + F.size + 1) = 32 := bt_at w3 (j := 0) (by show 0 < 3; omega) (by simp only [ByteArray.size_append, z1, z3] <;> omega)
    have b4 : bt w (3 + F.size + 1 + 1) = 41 := bt_at w3 (j := 1) (by show 1 < 3; omega) (by simp only [ByteArray.size_append, z1, z3] <;> omega)
    have b5 : bt w (3 + F.size + 1 + 1 + 1) = 32 := bt_at w3 (j := 2) (by show 2 < 3; omega) (by simp only [ByteArray.size_append, z1, z3] <;> omega)
    have s0 := ((sc_blank (by omega) b0).trans (sc_open b1 (by omega))).trans (sc_blank (by omega) b2)
    have s2 := sc_rd R1 (emw_of w2 z1.symm)
    have s3 := ((sc_blank (by omega) b3).trans (sc_shut b4 (by omega))).trans (sc_blank (by omega) b5)
    have hT := sc_end ((s0.trans s2).trans s3) (by omega) hz
    simp only [List.append_assoc, List.cons_append, List.nil_append] at hT
    refine rds_wh hT (par_run R1 (T := _) (y0 := _) rfl ⟨fun i hi => ⟨3, ?_⟩, ⟨3 + F.size + 1 + 1, ?_⟩⟩ ?_ (by have := R1.len; omega))
    · rw [show i + (0 + 1) = i + 1 by omega, tk_s, tk_l (by simpa using hi), tk_map hi]
    · rw [show l1.length + (0 + 1) = (l1.map (shT 3)).length + 0 + 1 by simp, tk_s, tk_r0]
      rfl
    · rw [show l1.length + (0 + 1) + 1 = (l1.map (shT 3)).length + 1 + 1 by simp, tk_s, tk_r]
      rfl
  · exact rds_big (by omega)
end Go.Proofs.YtcldglilhhhdoaaGreatDoor.L
