import Derived.Test.YtcldglilhhhdoaaGreatDoorPhE
import Derived.Test.YtcldglilhhhdoaaGreatDoorMgAS
namespace Go.Proofs.YtcldglilhhhdoaaGreatDoor.L
open Go.RowKit Go.Shelf
set_option linter.unusedVariables false
set_option linter.unusedSimpArgs false
def wNear : ByteArray := ⟨#[110, 101, 97, 114]⟩
def wApart : ByteArray := ⟨#[97, 112, 97, 114, 116]⟩
def wCount : ByteArray := ⟨#[99, 111, 117, 110, 116]⟩
/-- A word ahead of an opening mark. -/
structure Wd (W : ByteArray) : Prop where
  pos : 0 < W.size
  tok : tokS (W ++ ⟨#[40]⟩) 0 = .ok ⟨3, W, 0, 0, W.size⟩
  rem : bt W 0 ≠ 35
  blk : blkB (iv (bt W 0)) = false
theorem wd_near : Wd wNear := by
  refine ⟨by decide, ?_, by decide, by decide⟩
  have e : behW (wNear ++ ⟨#[40]⟩) 0 = 4 := (behW_go _ 0 (by decide) (by decide)).trans ((behW_go _ 1 (by decide) (by decide)).trans ((behW_go _ 2 (by decide) (by decide)).trans ((behW_go _ 3 (by decide) (by decide)).trans (behW_no _ 4 (by decide) (by decide)))))
  unfold tokS
  rw [if_neg (by decide), if_neg (by decide), if_pos (by decide), e]
  rfl
theorem wd_apart : Wd wApart := by
  refine ⟨by decide, ?_, by decide, by decide⟩
  have e : behW (wApart ++ ⟨#[40]⟩) 0 = 5 := (behW_go _ 0 (by decide) (by decide)).trans ((behW_go _ 1 (by decide) (by decide)).trans ((behW_go _ 2 (by decide) (by decide)).trans ((behW_go _ 3 (by decide) (by decide)).trans ((behW_go _ 4 (by decide) (by decide)).trans (behW_no _ 5 (by decide) (by decide))))))
  unfold tokS
  rw [if_neg (by decide), if_neg (by decide), if_pos (by decide), e]
  rfl
theorem wd_count : Wd wCount := by
  refine ⟨by decide, ?_, by decide, by decide⟩
  have e : behW (wCount ++ ⟨#[40]⟩) 0 = 5 := (behW_go _ 0 (by decide) (by decide)).trans ((behW_go _ 1 (by decide) (by decide)).trans ((behW_go _ 2 (by decide) (by decide)).trans ((behW_go _ 3 (by decide) (by decide)).trans ((behW_go _ 4 (by decide) (by decide)).trans (behW_no _ 5 (by decide) (by decide))))))
  unfold tokS
  rw [if_neg (by decide), if_neg (by decide), if_pos (by decide), e]
  rfl
def seven : ByteArray := ⟨#[55]⟩
theorem tok_7 : tokS seven 0 = .ok ⟨2, ⟨#[]⟩, 7, 0, 1⟩ := by
  have e : behW seven (0 + 1) = 1 := behW_end _ _ (by decide)
  unfold tokS
  rw [if_neg (by decide), if_pos (by decide)]
  unfold numTok
  rw [e]
  rfl
theorem sc_7 {w : ByteArray} {p : Nat} (h : bt w p = 55) (hz : w.size = p + 1) : Scn w p [⟨2, ⟨#[]⟩, 7, p, p + 1⟩] (p + 1) := by
  have E : Em2 seven w 0 1 p := by
    refine ⟨by omega, by decide, by omega, fun j hj => ?_, Or.inl ?_⟩
    · obtain rfl : j = 0 := by omega
      exact h
    · rw [bt_out w _ (by omega), bt_out seven 1 (by decide)]
  exact sc_tok (by omega) (by rw [h]; decide) (by rw [h]; decide) (tok_em2 (by decide) tok_7 E)
/-- The quoted text as bytes. -/
def qbs (q : ByteArray) : ByteArray := ⟨(quoteL q.data.toList).toArray⟩
theorem qbs_size (q : ByteArray) : (qbs q).size = (quoteL q.data.toList).length := by show (quoteL q.data.toList).toArray.size = _; simp
theorem qbs_bt (q : ByteArray) (j : Nat) : bt (qbs q) j = (quoteL q.data.toList).getD j 0 := rfl
/-- The beginning of near, apart and count, up to the mark that shuts. -/
theorem sel_scan {F W G Z q w : ByteArray} {A : List Pt} {l1 : List Tok} (R1 : Rd1 F A l1) (D : Wd W) (hq : q.size ≤ 127) (hG : G = ⟨#[44]⟩ ∨ G = ⟨#[44, 32]⟩) (hw : w = W ++ ⟨#[40]⟩ ++ qbs q ++ G ++ F ++ ⟨#[10, 41]⟩ ++ Z) :
    ∃ y0 y1 y2 z2 y3 d y4, Scn w 0 (⟨3, W, 0, y0, W.size⟩ :: m1 40 y1 :: ⟨1, q, 0, y2, z2⟩ :: m1 44 y3 :: (l1.map (shT d) ++ [m1 41 y4])) (w.size - Z.size) := by
  have z1 : (⟨#[40]⟩ : ByteArray).size = 1 := rfl
  have z2 : (⟨#[10, 41]⟩ : ByteArray).size = 2 := rfl
  have z3 : (⟨#[10]⟩ : ByteArray).size = 1 := rfl
  have e2 : (⟨#[10, 41]⟩ : ByteArray) = ⟨#[10]⟩ ++ ⟨#[41]⟩ := rfl
  have hg : bt G 0 = 44 ∧ 1 ≤ G.size ∧ G.size ≤ 2 ∧ (G.size = 2 → bt G 1 = 32) := by
    rcases hG with rfl | rfl
    · exact ⟨rfl, by decide, by decide, fun h => absurd h (by decide)⟩
    · exact ⟨rfl, by decide, by decide, fun _ => rfl⟩
  have hqs := qbs_size q
  have hs : w.size = W.size + 1 + (qbs q).size + G.size + F.size + 2 + Z.size := by rw [hw]; simp only [ByteArray.size_append, z1, z2]
  have w0 : w = ByteArray.empty ++ W ++ (⟨#[40]⟩ ++ qbs q ++ G ++ F ++ ⟨#[10, 41]⟩ ++ Z) := by rw [hw]; simp only [ByteArray.append_assoc, ByteArray.empty_append]
  have w1 : w = W ++ ⟨#[40]⟩ ++ (qbs q ++ G ++ F ++ ⟨#[10, 41]⟩ ++ Z) := by rw [hw]; simp only [ByteArray.append_assoc]
  have w2 : w = (W ++ ⟨#[40]⟩) ++ qbs q ++ (G ++ F ++ ⟨#[10, 41]⟩ ++ Z) := by rw [hw]; simp only [ByteArray.append_assoc]
  have w3 : w = (W ++ ⟨#[40]⟩ ++ qbs q) ++ G ++ (F ++ ⟨#[10, 41]⟩ ++ Z) := by rw [hw]; simp only [ByteArray.append_assoc]
  have w4 : w = (W ++ ⟨#[40]⟩ ++ qbs q ++ G) ++ F ++ (⟨#[10]⟩ ++ (⟨#[41]⟩ ++ Z)) := by rw [hw, e2]; simp only [ByteArray.append_assoc]
  have w5 : w = (W ++ ⟨#[40]⟩ ++ qbs q ++ G ++ F ++ ⟨#[10]⟩) ++ ⟨#[41]⟩ ++ Z := by rw [hw, e2]; simp only [ByteArray.append_assoc]
  have hp := D.pos
  have b0 : bt w 0 = bt W 0 := bt_at w0 (j := 0) hp rfl
  have b1 : bt w W.size = 40 := bt_at w1 (j := 0) (by show 0 < 1; omega) rfl
  have b3 : bt w (W.size + 1 + (qbs q).size) = 44 := by rw [← hg.1]; exact bt_at w3 (j := 0) (by omega) (by simp only [ByteArray.size_append, z1] <;> omega)
  have b5 : bt w (W.size + 1 + (qbs q).size + G.size + F.size + 1) = 41 := bt_at w5 (j := 0) (by show 0 < 1; omega) (by simp only [ByteArray.size_append, z1, z3] <;> omega)
  have E0 : Em2 (W ++ ⟨#[40]⟩) w 0 W.size 0 := by
    refine ⟨Nat.zero_le _, by rw [ByteArray.size_append]; omega, by omega, fun j hj => ?_, Or.inl ?_⟩
    · rw [bt_app', if_pos (by omega)]
      exact bt_at w0 (j := 0 + j) (by omega) (by show 0 + j = 0 + (0 + j); omega)
    · rw [show 0 + (W.size - 0) = W.size by omega, b1, bt_app', if_neg (by omega), Nat.sub_self]
      rfl
  have t0 := tok_em2 (by rw [ByteArray.size_append]; omega) D.tok E0
  have s0 : Scn w 0 [⟨3, W, 0, 0, W.size⟩] W.size := by
    have := sc_tok (by omega) (by rw [b0]; exact D.rem) (by rw [b0]; exact D.blk) t0
    simpa using this
  have s1 := sc_open b1 (by omega)
  have st : Stands w (W.size + 1) (quoteL q.data.toList) := by
    refine ⟨by rw [← hqs]; omega, fun j hj => ?_⟩
    rw [← qbs_bt]
    exact bt_at w2 (by rw [hqs]; exact hj) (by simp only [ByteArray.size_append, z1] <;> omega)
  have s2 := sc_q st (by simpa using hq)
  rw [← hqs] at s2
  have s3 := sc_comma b3 (by omega)
  have s4 : Scn w (W.size + 1 + (qbs q).size + 1) [] (W.size + 1 + (qbs q).size + G.size) := by
    by_cases h2 : G.size = 2
    · rw [h2]
      refine sc_blank (by omega) ?_
      rw [← hg.2.2.2 h2]
      exact bt_at w3 (j := 1) (by omega) (by simp only [ByteArray.size_append, z1] <;> omega)
    · rw [show G.size = 1 by omega]
      unfold Scn
      rfl
  have s5 := sc_rd R1 (emw_of w4 (d := W.size + 1 + (qbs q).size + G.size) (by simp only [ByteArray.size_append, z1]))
  have s6 := sc_shut b5 (by omega)
  have hall := (((((s0.trans s1).trans s2).trans s3).trans s4).trans s5).trans s6
  rw [show W.size + 1 + (qbs q).size + G.size + F.size + 1 + 1 = w.size - Z.size by omega] at hall
  have eq0 : (⟨q.data.toList.toArray⟩ : ByteArray) = q := by simp
  rw [eq0] at hall
  simp only [List.append_assoc, List.cons_append, List.nil_append] at hall
  exact ⟨_, _, _, _, _, _, _, hall⟩
theorem rds_sel {F W G q w : ByteArray} {A : List Pt} {l1 : List Tok} (R1 : Rd1 F A l1) (D : Wd W) (hq : q.size ≤ 127) (hG : G = ⟨#[44]⟩ ∨ G = ⟨#[44, 32]⟩) (hw : w = W ++ ⟨#[40]⟩ ++ qbs q ++ G ++ F ++ ⟨#[10, 41]⟩) (kd : Int) (hk : (kd = 8 ∧ W.toList = [110, 101, 97, 114]) ∨ (kd = 9 ∧ W.toList = [97, 112, 97, 114, 116])) : Rds w (A ++ [⟨kd, q, 0, [(A.length : Int) - 1]⟩]) := by
  by_cases hz : w.size ≤ 4096
  · obtain ⟨y0, y1, y2, z2, y3, d, y4, h⟩ := sel_scan (w := w) (Z := ByteArray.empty) R1 D hq hG (by rw [hw, ByteArray.append_empty])
    have hT := sc_end h (by show ¬ w.size - 0 < w.size; omega) hz
    have hs : w.size = W.size + 1 + (qbs q).size + G.size + F.size + 2 := by rw [hw]; simp only [ByteArray.size_append]; rfl
    have hg : 1 ≤ G.size := by rcases hG with rfl | rfl <;> decide
    simp only [List.append_assoc, List.cons_append, List.nil_append] at hT
    refine rds_wh hT (sel_unit R1 rfl rfl rfl rfl ⟨fun i hi => ⟨d, ?_⟩, ⟨y4, ?_⟩⟩ ?_ (by have := R1.len; omega) kd hk)
    · rw [tk_s, tk_s, tk_s, tk_s, tk_l (by simpa using hi), tk_map hi]
    · rw [show l1.length + 4 = (l1.map (shT d)).length + 0 + 1 + 1 + 1 + 1 by simp, tk_s, tk_s, tk_s, tk_s, tk_r0]
      rfl
    · rw [show l1.length + 5 = (l1.map (shT d)).length + 1 + 1 + 1 + 1 + 1 by simp, tk_s, tk_s, tk_s, tk_s, tk_r]
      rfl
  · exact rds_big (by omega)
theorem rds_cnt {F q w : ByteArray} {A : List Pt} {l1 : List Tok} (R1 : Rd1 F A l1) (hq : q.size ≤ 127) (hw : w = wCount ++ ⟨#[40]⟩ ++ qbs q ++ ⟨#[44]⟩ ++ F ++ ⟨#[10, 41]⟩ ++ ⟨#[62, 61, 55]⟩) : Rds w (A ++ [⟨20, q, 0, [(A.length : Int) - 1]⟩, ⟨12, ⟨#[]⟩, 7, []⟩, ⟨6, ⟨#[]⟩, 6, [(A.length : Int), (A.length : Int) + 1]⟩]) := by
  by_cases hz : w.size ≤ 4096
  · obtain ⟨y0, y1, y2, z2, y3, d, y4, h⟩ := sel_scan (Z := ⟨#[62, 61, 55]⟩) R1 wd_count hq (Or.inl rfl) hw
    have zz : (⟨#[62, 61, 55]⟩ : ByteArray).size = 3 := rfl
    have hs : w.size = 5 + 1 + (qbs q).size + 1 + F.size + 2 + 3 := by rw [hw]; simp only [ByteArray.size_append]; rfl
    have w1 : w = (wCount ++ ⟨#[40]⟩ ++ qbs q ++ ⟨#[44]⟩ ++ F ++ ⟨#[10, 41]⟩) ++ ⟨#[62, 61, 55]⟩ ++ ByteArray.empty := by rw [ByteArray.append_empty]; exact hw
    have hps : (wCount ++ ⟨#[40]⟩ ++ qbs q ++ ⟨#[44]⟩ ++ F ++ ⟨#[10, 41]⟩ : ByteArray).size = w.size - 3 := by
      have : (wCount ++ ⟨#[40]⟩ ++ qbs q ++ ⟨#[44]⟩ ++ F ++ ⟨#[10, 41]⟩ : ByteArray).size = 5 + 1 + (qbs q).size + 1 + F.size + 2 := by simp only [ByteArray.size_append]; rfl
      omega
    have b0 : bt w (w.size - 3) = 62 := bt_at w1 (j := 0) (by show 0 < 3; omega) (by rw [hps]; rfl)
    have b1 : bt w (w.size - 3 + 1) = 61 := bt_at w1 (j := 1) (by show 1 < 3; omega) (by rw [hps])
    have b2 : bt w (w.size - 3 + 2) = 55 := bt_at w1 (j := 2) (by show 2 < 3; omega) (by rw [hps])
    rw [zz] at h
    have s1 := sc_ge b0 b1 (by omega)
    have s2 := sc_7 b2 (by omega)
    have hT := sc_end ((h.trans s1).trans s2) (by omega) hz
    simp only [List.append_assoc, List.cons_append, List.nil_append] at hT
    refine rds_wh hT (cnt_run R1 (y6 := w.size - 3) (bn := ⟨#[]⟩) (a7 := w.size - 3 + 2) (e7 := w.size - 3 + 2 + 1) rfl (by simp [wCount, ByteArray.toList_eq]) rfl rfl rfl ⟨fun i hi => ⟨d, ?_⟩, ⟨y4, ?_⟩⟩ ?_ ?_ ?_ (by have := R1.len; omega))
    · rw [tk_s, tk_s, tk_s, tk_s, tk_l (by simpa using hi), tk_map hi]
    · rw [show l1.length + 4 = (l1.map (shT d)).length + 0 + 1 + 1 + 1 + 1 by simp, tk_s, tk_s, tk_s, tk_s, tk_r0]
      rfl
    · rw [show l1.length + 5 = (l1.map (shT d)).length + 1 + 1 + 1 + 1 + 1 by simp, tk_s, tk_s, tk_s, tk_s, tk_r]
      rfl
    · rw [show l1.length + 6 = (l1.map (shT d)).length + 2 + 1 + 1 + 1 + 1 by simp, tk_s, tk_s, tk_s, tk_s, tk_r]
      rfl
    · rw [show l1.length + 7 = (l1.map (shT d)).length + 3 + 1 + 1 + 1 + 1 by simp, tk_s, tk_s, tk_s, tk_s, tk_r]
      rfl
  · exact rds_big (by omega)
end Go.Proofs.YtcldglilhhhdoaaGreatDoor.L
namespace Go.Proofs.YtcldglilhhhdoaaGreatDoor.L
open Go.RowKit Go.Shelf
set_option linter.unusedVariables false
set_option linter.unusedSimpArgs false
theorem OwnP.base {W : World} {b b' : Nat} {v : Value} {T : List Pt} {ks : Nat → Value} {k : Nat} (h : OwnP W b v T ks k) (hb : b' ≤ b) : OwnP W b' v T ks k := ⟨row_base h.row hb, fun j hj => row_base (h.kids j hj) hb⟩
/-- The lists of two trees. -/
def kcat (n : Nat) (ks ks2 : Nat → Value) (j : Nat) : Value := if j < n then ks j else ks2 (j - n)
theorem pt_l {A B : List Pt} {j : Nat} (h : j < A.length) : pt (A ++ B) j = pt A j := by
  unfold pt
  rw [List.getD_eq_getElem?_getD, List.getD_eq_getElem?_getD, List.getElem?_append_left h]
theorem pt_r (A B : List Pt) (j : Nat) : pt (A ++ B) (A.length + j) = pt B j := by
  unfold pt
  rw [List.getD_eq_getElem?_getD, List.getD_eq_getElem?_getD, List.getElem?_append_right (by omega), show A.length + j - A.length = j by omega]
theorem CP_l {A B : List Pt} {ks : Nat → Value} : ∀ {k : Nat}, k ≤ A.length → CP (A ++ B) ks k = CP A ks k
  | 0, _ => rfl
  | k + 1, h => by
    simp only [CP]
    rw [CP_l (by omega), pt_l (by omega)]
theorem CP_cat (A B : List Pt) (ks ks2 : Nat → Value) : ∀ m, CP (A ++ B) (kcat A.length ks ks2) (A.length + m) = CP A ks A.length ++ CP B ks2 m
  | 0 => by
    rw [Nat.add_zero, CP_l (Nat.le_refl _)]
    simp only [CP, List.append_nil]
    exact CP_congr A fun j hj => by unfold kcat; rw [if_pos hj]
  | m + 1 => by
    have e0 : CP (A ++ B) (kcat A.length ks ks2) (A.length + (m + 1)) = CP (A ++ B) (kcat A.length ks ks2) (A.length + m) ++ [.int .i64 (pt (A ++ B) (A.length + m)).kind, .string (pt (A ++ B) (A.length + m)).text, .int .i64 (pt (A ++ B) (A.length + m)).num, kcat A.length ks ks2 (A.length + m)] := rfl
    rw [e0, CP_cat A B ks ks2 m, pt_r, List.append_assoc]
    simp only [CP]
    have e : kcat A.length ks ks2 (A.length + m) = ks2 m := by unfold kcat; rw [if_neg (by omega), show A.length + m - A.length = m by omega]
    rw [e]
theorem CP_one {T : List Pt} {ks : Nat → Value} (h : ∀ j, j < T.length → (ks j).oneCell' = true) : ∀ {k : Nat}, k ≤ T.length → ∀ u ∈ CP T ks k, u.oneCell' = true
  | 0, _, u, hu => by cases hu
  | k + 1, hk, u, hu => by
    simp only [CP] at hu
    rcases List.mem_append.1 hu with hu | hu
    · exact CP_one h (by omega) u hu
    · simp only [List.mem_cons, List.not_mem_nil, or_false] at hu
      rcases hu with rfl | rfl | rfl | rfl
      · rfl
      · rfl
      · rfl
      · exact h k (by omega)
theorem kids_one {W : World} {b : Nat} {v : Value} {T : List Pt} {ks : Nat → Value} (h : OwnP W b v T ks T.length) : ∀ j, j < T.length → (ks j).oneCell' = true := fun j hj => by
  obtain ⟨a, c, e⟩ := own_form (h.kids j hj)
  rw [e]
  rfl
/-- A tree as a row of one's own from a place on, its lists of kids anywhere. -/
structure OwnR (W : World) (base : Nat) (v : Value) (T : List Pt) (ks : Nat → Value) (k : Nat) : Prop where
  row : W.ownsRow base 46 4 v k (CP T ks k)
  kids : ∀ j, j < k → OwnI W 0 (ks j) (pt T j).kids
theorem OwnP.r {W : World} {b : Nat} {v : Value} {T : List Pt} {ks : Nat → Value} {k : Nat} (h : OwnP W b v T ks k) : OwnR W b v T ks k := ⟨h.row, fun j hj => row_base (h.kids j hj) (Nat.zero_le _)⟩
theorem OwnR.base {W : World} {b b' : Nat} {v : Value} {T : List Pt} {ks : Nat → Value} {k : Nat} (h : OwnR W b v T ks k) (hb : b' ≤ b) : OwnR W b' v T ks k := ⟨row_base h.row hb, h.kids⟩
theorem OwnR.p {W : World} {b : Nat} {v : Value} {T : List Pt} {ks : Nat → Value} {k : Nat} (h : OwnR W b v T ks k) : OwnP W 0 v T ks k := ⟨row_base h.row (Nat.zero_le _), h.kids⟩
theorem OwnR.low {W W' : World} {b : Nat} {v : Value} {T : List Pt} {ks : Nat → Value} {k : Nat} (h : OwnR W b v T ks k) (hk : Below W.heap.size W W') : OwnR W' b v T ks k := ⟨row_kept h.row (fun j e => hk.block j (row_at h.row e).2.1), fun j hj => own_low (h.kids j hj) hk⟩
theorem OwnR.pl {W : World} {b : Nat} {v : Value} {T : List Pt} {ks : Nat → Value} (h : OwnR W b v T ks T.length) : ∃ a cap, v = .slice a T.length cap ∧ PL W a T := by
  obtain ⟨a, c, e, h⟩ := h.p.pl
  exact ⟨a, c, e, h.pl⟩
/-- Behind an append of a tree to another. -/
theorem cat_own {W W' : World} {b b2 : Nat} {v v2 v' : Value} {A B : List Pt} {ks ks2 : Nat → Value} (h : OwnR W b v A ks A.length) (h2 : OwnR W b2 v2 B ks2 B.length) (hr : W'.ownsRow b 46 4 v' (A.length + B.length) (CP A ks A.length ++ CP B ks2 B.length)) (hg : W.grownBy W' v.ownBlock) : OwnR W' b v' (A ++ B) (kcat A.length ks ks2) (A ++ B).length := by
  refine ⟨by rw [List.length_append, CP_cat]; exact hr, fun j hj => ?_⟩
  rw [List.length_append] at hj
  by_cases hA : j < A.length
  · have e : kcat A.length ks ks2 j = ks j := by unfold kcat; rw [if_pos hA]
    rw [e, pt_l hA]
    exact World.ownsRow.kept (h.kids j hA) hg (row_ne (h.kids j hA) h.row (by decide))
  · have hB : j - A.length < B.length := by omega
    have e : kcat A.length ks ks2 j = ks2 (j - A.length) := by unfold kcat; rw [if_neg hA]
    have e2 : pt (A ++ B) j = pt B (j - A.length) := by rw [← pt_r A B (j - A.length), show A.length + (j - A.length) = j by omega]
    rw [e, e2]
    exact World.ownsRow.kept (h2.kids _ hB) hg (row_ne (h2.kids _ hB) h.row (by decide))
theorem wp_parts {w : World} {o : Oper} {a : Act} {K : Act → World → Prop} {Q : Exit → Act → World → Prop} (s x : Operand)
    (ho : o.op = .call { callee := .builtin .append, args := #[s, x], argTypes := #[23, 23] })
    {b b2 : Nat} {v v2 : Value} {A B : List Pt} {ks ks2 : Nat → Value} (hs : a.eval s = v) (hx : a.eval x = v2) (h1 : OwnR w b v A ks A.length) (h2 : OwnR w b2 v2 B ks2 B.length) (hp : 0 < B.length) (hb : A.length + B.length ≤ 100000) (hbase : b ≤ w.heap.size)
    (h : ∀ v' w', OwnR w' b v' (A ++ B) (kcat A.length ks ks2) (A ++ B).length → Below b w w' → K (a.put o.dst v') w') : o.wp Tryz.prog a w K Q := by
  obtain ⟨i0, hi, hz0, hz1, hz2⟩ := info_parts infoP
  rcases h2.row.2 with ⟨e, n0⟩ | ⟨g, cap, cur, e, hb2, hg2, h3, h4, h5, h6⟩
  · omega
  · refine wp_append_own w s x 23 ho b 46 i0 (.agg #[.int .i64 0, .string ByteArray.empty, .int .i64 0, .slice none 0 0]) 4 56 Tryz.underlying23 hi hz0 hz1 hz2 rfl (by decide) v _ _ hs h1.row ⟨g, 0, none⟩ B.length cap (CP B ks2 B.length) (hx.trans e) (CP_len _ _ _) ?_ (CP_one (kids_one h2.p) (Nat.le_refl _)) (by unfold maxLen; omega) (by omega) hbase ?_
    · intro j u hu
      rw [Go.WideShapes.add_plain, Nat.zero_add, cell_of_row w g _ _ _ _ hg2]
      have hj : j < B.length * 4 := by
        have := (List.getElem?_eq_some_iff.1 hu).1
        rw [CP_len] at this
        exact this
      rw [← hu, ← h6, List.getElem?_take_of_lt hj, Array.getElem?_toList]
    · intro v' w' hr hgr _
      exact h v' w' (cat_own h1 h2 hr hgr) ((Below.refl b w).grown hgr hbase (fun k e => (h1.row.lt k e).1))
theorem append_parts {w : World} {ops : Array Oper} {rest : List Oper} {o : Oper} {a : Act} {Q : Exit → Act → World → Prop} (hgd : o.guard = none) (s x : Operand)
    (ho : o.op = .call { callee := .builtin .append, args := #[s, x], argTypes := #[23, 23] })
    {b b2 : Nat} {v v2 : Value} {A B : List Pt} {ks ks2 : Nat → Value} (hs : a.eval s = v) (hx : a.eval x = v2) (h1 : OwnR w b v A ks A.length) (h2 : OwnR w b2 v2 B ks2 B.length) (hp : 0 < B.length) (hb : A.length + B.length ≤ 100000) (hbase : b ≤ w.heap.size)
    (h : ∀ v' w', OwnR w' b v' (A ++ B) (kcat A.length ks ks2) (A ++ B).length → Below b w w' → wpList Tryz.prog ops Q rest (a.put o.dst v') w') : wpList Tryz.prog ops Q (o :: rest) a w :=
  wpList_plain hgd fun _ hK => wp_parts s x ho hs hx h1 h2 hp hb hbase fun v' w' h3 h4 => hK _ _ (h v' w' h3 h4)
/-- A row of one part, of three, and an empty one, as they are built. -/
theorem made_one {w : World} {kd nu : Int} {tx : ByteArray} {zs : List Int} {kv : Value} (hk : OwnI w 0 kv zs) : OwnR (w.alloc (.cells #[.int .i64 kd, .string tx, .int .i64 nu, kv] 46)) w.heap.size (.slice (some ⟨w.heap.size, 0, none⟩) 1 1) [⟨kd, tx, nu, zs⟩] (fun _ => kv) 1 := by
  refine ⟨⟨rfl, .inr ⟨w.heap.size, 1, _, rfl, Nat.le_refl _, heap_alloc_new w _, Nat.le_refl _, by decide, rfl, rfl⟩⟩, fun j hj => ?_⟩
  obtain rfl : j = 0 := by omega
  exact own_low hk (belowA w _)
theorem made_three {w : World} {k1 k2 k3 n1 n2 n3 : Int} {x1 x2 x3 : ByteArray} {z1 z2 z3 : List Int} {v1 v2 v3 : Value} (h1 : OwnI w 0 v1 z1) (h2 : OwnI w 0 v2 z2) (h3 : OwnI w 0 v3 z3) : OwnR (w.alloc (.cells #[.int .i64 k1, .string x1, .int .i64 n1, v1, .int .i64 k2, .string x2, .int .i64 n2, v2, .int .i64 k3, .string x3, .int .i64 n3, v3] 46)) w.heap.size (.slice (some ⟨w.heap.size, 0, none⟩) 3 3) [⟨k1, x1, n1, z1⟩, ⟨k2, x2, n2, z2⟩, ⟨k3, x3, n3, z3⟩] (fun j => if j = 0 then v1 else if j = 1 then v2 else v3) 3 := by
  refine ⟨⟨rfl, .inr ⟨w.heap.size, 3, _, rfl, Nat.le_refl _, heap_alloc_new w _, Nat.le_refl _, by decide, rfl, rfl⟩⟩, fun j hj => ?_⟩
  rcases (show j = 0 ∨ j = 1 ∨ j = 2 by omega) with rfl | rfl | rfl
  · exact own_low h1 (belowA w _)
  · exact own_low h2 (belowA w _)
  · exact own_low h3 (belowA w _)
theorem made_none (w : World) : OwnR (w.alloc (.cells #[] 46)) w.heap.size (.slice (some ⟨w.heap.size, 0, none⟩) 0 0) [] (fun _ => undef) 0 :=
  ⟨World.ownsRow_made w #[] 0 (Nat.le_refl _) (Nat.zero_le _) rfl, fun j hj => absurd hj (Nat.not_lt_zero _)⟩
end Go.Proofs.YtcldglilhhhdoaaGreatDoor.L
