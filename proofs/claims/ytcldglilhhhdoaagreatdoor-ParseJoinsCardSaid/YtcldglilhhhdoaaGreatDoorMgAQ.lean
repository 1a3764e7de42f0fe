import Derived.Test.YtcldglilhhhdoaaGreatDoorMgAI
import Derived.Test.YtcldglilhhhdoaaGreatDoorMgAP
import Derived.Deep.MidRow
import Derived.Deep.QuietTactic
import Derived.BigQuiet
import Derived.Test.YtcldglilhhhdoaaGreatDoorMgAJ
namespace Go.Proofs.YtcldglilhhhdoaaGreatDoor.L
open Go.RowKit
set_option linter.unusedVariables false
set_option linter.unusedSimpArgs false
end Go.Proofs.YtcldglilhhhdoaaGreatDoor.L
namespace Go.Proofs.YtcldglilhhhdoaaGreatDoor.L
open Go.RowKit
set_option linter.unusedVariables false
set_option linter.unusedSimpArgs false
end Go.Proofs.YtcldglilhhhdoaaGreatDoor.L
namespace Go.Proofs.YtcldglilhhhdoaaGreatDoor.L
open Go.RowKit
set_option linter.unusedVariables false
set_option linter.unusedSimpArgs false
/-- A fault as plain data. -/
def f19 (c a : Int) : Array Value := #[.int .i64 c, .int .i64 a, .string ⟨#[]⟩, .int .i64 0, .int .i64 0, .int .i64 0, .string ⟨#[]⟩, .int .i64 0, .int .i64 0, .int .i64 0, .string ⟨#[]⟩, .int .i64 0, .int .i64 0, .int .i64 0, .string ⟨#[]⟩, .int .i64 0, .int .i64 0, .int .i64 0, .string ⟨#[]⟩]
theorem read_flt (N c : Nat) (a : Int) (w : World) (h : Fli w N c a) (h0 : c ≠ 0) : Calls Tryz.prog 12 #[fv N] w fun e w' => e = .returned (.agg (f19 c a)) ∧ Below w.heap.size w w' := read_yes N c a w h h0
set_option maxHeartbeats 4000000 in
set_option maxRecDepth 100000 in
theorem read_nil (w : World) : Calls Tryz.prog 12 #[.nilIface] w fun e w' => e = .returned (.agg (f19 0 0)) ∧ Below w.heap.size w w' := by
  obtain ⟨ZC, hz⟩ : ∃ ZC : Array Value, ZC = f19 0 0 := ⟨_, rfl⟩
  have hz9 : ZC.size = 19 := by rw [hz]; rfl
  have HZ := hid hz
  have HZ9 := hid hz9
  have HB := hid (belowA w (.cells ZC 35))
  have HX := hid (heap_alloc_new w (.cells ZC 35))
  rw [← hz]
  clear hz hz9
  go_enter Tryz.func12, Tryz.ntmps12
  go_upto_region 2 with fail
  have e1 : (#[.int .i64 0, .int .i64 0, .string ⟨#[]⟩, .int .i64 0, .int .i64 0, .int .i64 0, .string ⟨#[]⟩, .int .i64 0, .int .i64 0, .int .i64 0, .string ⟨#[]⟩, .int .i64 0, .int .i64 0, .int .i64 0, .string ⟨#[]⟩, .int .i64 0, .int .i64 0, .int .i64 0, .string ⟨#[]⟩] : Array Value) = ZC := by rw [HZ.out]; rfl
  rw [e1]
  refine wp_region_lit ?_
  refine wpList_plain rfl fun K hK => ?_
  have HK := hid hK
  clear hK
  go_simp
  (try rw [e1])
  refine HK.out _ _ ?_
  clear HK
  try simp only [Act.put, List.setIfInBounds_toArray, List.set_cons_zero, List.set_cons_succ]
  refine wpList_store_row rfl 35 _ _ rfl w.heap.size ZC rfl rfl 35 ZC HX.out (by rw [HZ9.out]; exact info53) rfl (by rw [HZ.out]; kernel_rfl) ?_
  try simp only [Act.put, List.setIfInBounds_toArray, List.set_cons_zero, List.set_cons_succ]
  have HX3 := hid (setRow_heap _ _ ZC ZC _ _ HX.out)
  have HB3 := hid (below_row HB.out w.heap.size ZC (Nat.le_refl _))
  generalize (w.alloc (.cells ZC 35)).setRow w.heap.size ZC = W3 at *
  go_wp2_with fail
  exact ⟨rfl, .agg ZC, results_cell_row Tryz.results12 _ W3 w.heap.size 35 ZC (0, 0) _ rfl HX3.out Tryz.underlying35 rfl (by rw [HZ9.out]; exact info53), rfl, HB3.out⟩
/-- What reading Parse's error gives. -/
def rdc (src : ByteArray) : Int × Int :=
  match parR src with
  | .ok _ => (0, 0)
  | .error (c, x) => ((c : Int), x)
/-- Every fault of Parse has a number. -/
theorem parR_code {src : ByteArray} {c : Nat} {x : Int} (h : parR src = .error (c, x)) : c ≠ 0 := by
  unfold parR at h
  cases hs : (scanT src).2 with
  | some q =>
    obtain ⟨c', a'⟩ := q
    rw [hs] at h
    simp only [Except.error.injEq, Prod.mk.injEq] at h
    have := scanT_codes hs
    omega
  | none =>
    rw [hs] at h
    simp only at h
    cases hw : wholeP (scanT src).1 16392 with
    | ok q => rw [hw] at h; cases h
    | error q =>
      rw [hw] at h
      simp only [Except.error.injEq] at h
      subst h
      exact whole_code hw (scan_fin2 hs).1 (scanT_len src)
end Go.Proofs.YtcldglilhhhdoaaGreatDoor.L
namespace Go.Proofs.YtcldglilhhhdoaaGreatDoor.L
open Go.RowKit
set_option linter.unusedVariables false
set_option linter.unusedSimpArgs false
end Go.Proofs.YtcldglilhhhdoaaGreatDoor.L
namespace Go.Proofs.YtcldglilhhhdoaaGreatDoor.L
open Go.RowKit
set_option linter.unusedVariables false
set_option linter.unusedSimpArgs false
end Go.Proofs.YtcldglilhhhdoaaGreatDoor.L
namespace Go.Proofs.YtcldglilhhhdoaaGreatDoor.L
open Go.RowKit
set_option linter.unusedVariables false
set_option linter.unusedSimpArgs false
end Go.Proofs.YtcldglilhhhdoaaGreatDoor.L
namespace Go.Proofs.YtcldglilhhhdoaaGreatDoor.L
open Go.RowKit
set_option linter.unusedVariables false
set_option linter.unusedSimpArgs false
end Go.Proofs.YtcldglilhhhdoaaGreatDoor.L
namespace Go.Proofs.YtcldglilhhhdoaaGreatDoor.L
open Go.RowKit
set_option linter.unusedVariables false
set_option linter.unusedSimpArgs false
/-- How many kids a part of this kind has. -/
def Ari (k : Int) (n : Nat) : Prop := ((k = 3 ∨ k = 8 ∨ k = 9 ∨ k = 19 ∨ k = 20) ∧ n = 1) ∨ ((k = 4 ∨ k = 5) ∧ 2 ≤ n) ∨ ((k = 6 ∨ k = 7) ∧ n = 2) ∨ (k = 13 ∧ n ≤ 64) ∨ ((k = 1 ∨ k = 2 ∨ k = 10 ∨ k = 11 ∨ k = 12 ∨ k = 14 ∨ k = 15 ∨ k = 16 ∨ k = 17 ∨ k = 18) ∧ n = 0)
/-- The token that stands for a part. -/
def BgT (k n : Int) (t : Tok) : Prop :=
  (t.kind = 4 ∧ ((k = 3 ∧ t.text.toList = [33]) ∨ (k = 4 ∧ t.text.toList = [38, 38]) ∨ (k = 5 ∧ t.text.toList = [124, 124]) ∨ (k = 13 ∧ t.text.toList = [123]) ∨ (k = 6 ∧ cmpO t.text.toList ≠ 0))) ∨
  (t.kind = 1 ∧ k = 11) ∨ (t.kind = 2 ∧ k = 12) ∨
  (t.kind = 3 ∧ ((k = 7 ∧ n = 0 ∧ t.text.toList = [105, 110]) ∨ (k = 7 ∧ n = 1 ∧ t.text.toList = [110, 111, 116, 105, 110]) ∨ (k = 1 ∧ t.text.toList = [116, 114, 117, 101]) ∨ (k = 2 ∧ t.text.toList = [102, 97, 108, 115, 101]) ∨ (k = 8 ∧ t.text.toList = [110, 101, 97, 114]) ∨ (k = 9 ∧ t.text.toList = [97, 112, 97, 114, 116]) ∨ (k = 10 ∧ t.text.toList = [116, 111, 108, 101, 114, 97, 116, 101, 100]) ∨ (k = 19 ∧ t.text.toList = [105, 110, 116]) ∨ (k = 20 ∧ t.text.toList = [99, 111, 117, 110, 116]) ∨
    ((k = 14 ∨ k = 15 ∨ k = 16 ∨ k = 17 ∨ k = 18) ∧ ((n = 2 ∧ t.text.toList = [110, 111, 100, 101]) ∨ (n = 1 ∧ t.text.toList = [112, 111, 100]) ∨ (n = 3 ∧ t.text.toList = [105, 116])))))
def Bgt (T : List Tok) (p : Pt) (x : Int) : Prop := ∃ i, x = ((tk T i).a : Int) ∧ BgT p.kind p.num (tk T i)
/-- A part is in its place. -/
def PlG (T : List Tok) (ps : List Pt) (j : Nat) (p : Pt) (x : Int) : Prop := p.kids.length ≤ (fre ps j).length ∧ p.kids = (fre ps j).drop ((fre ps j).length - p.kids.length) ∧ p.text.size ≤ 127 ∧ Ari p.kind p.kids.length ∧ Bgt T p x
structure Gs (T : List Tok) (fr : List Int) (s : PS) : Prop where
  len : s.os.length = s.ps.length
  fr : fre s.ps s.ps.length = fr
  ok : ∀ j, j < s.ps.length → PlG T s.ps j (pt s.ps j) (s.os.getD j 0)
theorem fre_app (ps : List Pt) (p : Pt) : ∀ j, j ≤ ps.length → fre (ps ++ [p]) j = fre ps j
  | 0, _ => rfl
  | j + 1, h => by
    simp only [fre]
    rw [fre_app ps p j (by omega), pt_app ps p (by omega)]
theorem Gs.put {T : List Tok} {fr kids : List Int} {s s' : PS} {p : Pt} {x r : Int} (h : Gs T (fr ++ kids) s) (e : putP s p x = .ok (r, s')) (hk : p.kids = kids) (ht : p.text.size ≤ 127) (ha : Ari p.kind kids.length) (hb : Bgt T p x) : Gs T (fr ++ [r]) s' := by
  unfold putP at e
  injection e with e
  injection e with e1 e2
  subst e1
  subst e2
  have hf := h.fr
  refine ⟨by simp [h.len], ?_, fun j hj => ?_⟩
  · show fre (s.ps ++ [p]) (s.ps ++ [p]).length = _
    rw [List.length_append, List.length_singleton]
    simp only [fre]
    rw [fre_app _ _ _ (Nat.le_refl _), pt_last, hf, hk, List.length_append, Nat.add_sub_cancel, List.take_left]
  · show PlG T (s.ps ++ [p]) j (pt (s.ps ++ [p]) j) ((s.os ++ [x]).getD j 0)
    have hj' : j < s.ps.length + 1 := by simpa using hj
    by_cases hl : j < s.ps.length
    · have := h.ok j hl
      unfold PlG at this ⊢
      rw [fre_app _ _ _ (by omega), pt_app _ _ hl]
      rw [show (s.os ++ [x]).getD j 0 = s.os.getD j 0 by rw [List.getD_eq_getElem?_getD, List.getD_eq_getElem?_getD, List.getElem?_append_left (by rw [h.len]; exact hl)]]
      exact this
    · have ej : j = s.ps.length := by omega
      subst ej
      unfold PlG
      rw [fre_app _ _ _ (Nat.le_refl _), pt_last, hf]
      rw [show (s.os ++ [x]).getD s.ps.length 0 = x by rw [← h.len, List.getD_eq_getElem?_getD, List.getElem?_append_right (Nat.le_refl _)]; simp]
      refine ⟨by rw [hk]; simp, ?_, ht, by rw [hk]; exact ha, hb⟩
      rw [hk, List.length_append, Nat.add_sub_cancel, List.drop_left]
theorem Gs.to {T : List Tok} {fr : List Int} {s s' : PS} (h : Gs T fr s) (hp : s'.ps = s.ps) (ho : s'.os = s.os) : Gs T fr s' := ⟨by rw [hp, ho]; exact h.len, by rw [hp]; exact h.fr, by rw [hp, ho]; exact h.ok⟩
theorem gs_adv {T : List Tok} {fr : List Int} {s : PS} (h : Gs T fr s) : Gs T fr (adv s) := h.to rfl rfl
theorem gs_mark {T : List Tok} {fr : List Int} {s s' : PS} {m : List UInt8} {u : Unit} (h : Gs T fr s) (e : markP T s m = .ok (u, s')) : Gs T fr s' := by rw [mark_ok e]; exact gs_adv h
theorem gs_text {T : List Tok} {fr : List Int} {s s' : PS} {t : ByteArray} (h : Gs T fr s) (e : textP T s = .ok (t, s')) : Gs T fr s' := by rw [text_ok e]; exact gs_adv h
theorem gs_open {T : List Tok} {fr : List Int} {s s' : PS} {m : List UInt8} {u : Unit} (h : Gs T fr s) (e : openP T s m = .ok (u, s')) : Gs T fr s' := by rw [open_ok e]; exact h.to rfl rfl
theorem gs_named {T : List Tok} {fr : List Int} {s s' : PS} {t : ByteArray} (h : Gs T fr s) (e : namedP T s = .ok (t, s')) : Gs T fr s' := by rw [named_ok e]; exact h.to rfl rfl
/-- Texts in quotes are short. -/
def Txt (T : List Tok) : Prop := ∀ i, (tk T i).kind = 1 → (tk T i).text.size ≤ 127
theorem text_len {T : List Tok} (hT : Txt T) {s s' : PS} {t : ByteArray} (e : textP T s = .ok (t, s')) : t.size ≤ 127 := by
  unfold textP at e
  split at e
  · rename_i h1
    injection e with e
    injection e with e1 _
    rw [← e1]
    exact hT _ h1
  · cases e
theorem named_len {T : List Tok} (hT : Txt T) {s s' : PS} {t : ByteArray} (e : namedP T s = .ok (t, s')) : t.size ≤ 127 := by
  unfold namedP at e
  obtain ⟨_, s1, _, e⟩ := bnd_inv e
  obtain ⟨t1, s2, e2, e⟩ := bnd_inv e
  obtain ⟨_, s3, _, e⟩ := bnd_inv e
  injection e with e
  injection e with e _
  rw [← e]
  exact text_len hT e2
def Fo (T : List Tok) (r : PS → PRes Int) : Prop := ∀ s fr k s', Gs T fr s → r s = .ok (k, s') → Gs T (fr ++ [k]) s'
theorem none0 : (⟨#[]⟩ : ByteArray).size ≤ 127 := by decide
theorem fo_el {T : List Tok} (hT : Txt T) {s s' : PS} {fr : List Int} {k : Int} (h : Gs T fr s) (h1 : isEl (tk T s.nx) = true) (e : elP T s = .ok (k, s')) : Gs T (fr ++ [k]) s' := by
  unfold elP at e
  have h0 : Gs T (fr ++ []) (adv s) := by rw [List.append_nil]; exact gs_adv h
  split at e
  · rename_i hk
    exact h0.put e rfl (hT _ hk) (Or.inr (Or.inr (Or.inr (Or.inr ⟨by simp, rfl⟩)))) ⟨s.nx, rfl, Or.inr (Or.inl ⟨hk, rfl⟩)⟩
  · rename_i hk
    have h2 : (tk T s.nx).kind = 2 := by unfold isEl at h1; simp at h1; omega
    exact h0.put e rfl none0 (Or.inr (Or.inr (Or.inr (Or.inr ⟨by simp, rfl⟩)))) ⟨s.nx, rfl, Or.inr (Or.inr (Or.inl ⟨h2, rfl⟩))⟩
theorem fo_mem {T : List Tok} (hT : Txt T) {s s' : PS} {fr : List Int} {k : Int} {n : Nat} (h : Gs T fr s) (e : memP T s n = .ok (k, s')) : Gs T (fr ++ [k]) s' ∧ n ≠ 64 := by
  unfold memP at e
  split at e
  · rename_i h1
    split at e
    · cases e
    · rename_i h2
      exact ⟨fo_el hT h h1 e, h2⟩
  · cases e
theorem fo_mems {T : List Tok} (hT : Txt T) : ∀ (n : Nat) {ks ks' : List Int} {s s' : PS} {fr : List Int}, Gs T (fr ++ ks) s → ks.length ≤ 64 → memsP T n ks s = .ok (ks', s') → Gs T (fr ++ ks') s' ∧ ks'.length ≤ 64
  | 0, ks, ks', s, s', fr, h, hl, e => by
    unfold memsP at e
    injection e with e; injection e with e1 e2; subst e1; subst e2
    exact ⟨h, hl⟩
  | n + 1, ks, ks', s, s', fr, h, hl, e => by
    unfold memsP at e
    split at e
    · obtain ⟨k, s1, e1, e2⟩ := bnd_inv e
      obtain ⟨h1, h2⟩ := fo_mem hT (gs_adv h) e1
      exact fo_mems hT n (by rw [← List.append_assoc]; exact h1) (by simp; omega) e2
    · injection e with e; injection e with e1 e2; subst e1; subst e2
      exact ⟨h, hl⟩
theorem fo_set {T : List Tok} (hT : Txt T) : Fo T (setP T) := by
  intro s fr k s' h e
  unfold setP at e
  obtain ⟨_, s1, e1, e⟩ := bnd_inv e
  obtain ⟨ks, s2, e2, e⟩ := bnd_inv e
  obtain ⟨ks', s3, e3, e⟩ := bnd_inv e
  obtain ⟨_, s4, e4, e⟩ := bnd_inv e
  have g1 := gs_mark h e1
  have g2 : Gs T (fr ++ ks) s2 ∧ ks.length ≤ 64 := by
    split at e2
    · injection e2 with e2; injection e2 with ea eb; subst ea; subst eb
      exact ⟨by rw [List.append_nil]; exact g1, by simp⟩
    · obtain ⟨k1, s5, e5, e6⟩ := bnd_inv e2
      injection e6 with e6; injection e6 with ea eb; subst ea; subst eb
      exact ⟨(fo_mem hT g1 e5).1, by simp⟩
  obtain ⟨g3, h3⟩ := fo_mems hT _ g2.1 g2.2 e3
  have hm : isM T s [123] = true := by
    unfold markP at e1
    split at e1
    · assumption
    · cases e1
  unfold isM at hm
  simp at hm
  exact (gs_mark g3 e4).put e rfl none0 (Or.inr (Or.inr (Or.inr (Or.inl ⟨rfl, h3⟩)))) ⟨s.nx, rfl, Or.inl ⟨hm.1, by simp [hm.2]⟩⟩
theorem fo_who {T : List Tok} (hT : Txt T) {s s' : PS} {fr : List Int} {k side : Int} (h : Gs T fr s) (h3 : (tk T s.nx).kind = 3) (hs : (side = 2 ∧ (tk T s.nx).text.toList = [110, 111, 100, 101]) ∨ (side = 1 ∧ (tk T s.nx).text.toList = [112, 111, 100]) ∨ (side = 3 ∧ (tk T s.nx).text.toList = [105, 116])) (e : whoP T s side = .ok (k, s')) : Gs T (fr ++ [k]) s' := by
  have hb : ∀ (kd : Int) (x : ByteArray), (kd = 14 ∨ kd = 15 ∨ kd = 16 ∨ kd = 17 ∨ kd = 18) → Bgt T ⟨kd, x, side, []⟩ ((tk T s.nx).a : Int) := fun kd x hk => ⟨s.nx, rfl, Or.inr (Or.inr (Or.inr ⟨h3, Or.inr (Or.inr (Or.inr (Or.inr (Or.inr (Or.inr (Or.inr (Or.inr (Or.inr ⟨hk, hs⟩))))))))⟩))⟩
  have ha : ∀ kd : Int, (kd = 14 ∨ kd = 15 ∨ kd = 16 ∨ kd = 17 ∨ kd = 18) → Ari kd ([] : List Int).length := fun kd hk => Or.inr (Or.inr (Or.inr (Or.inr ⟨by omega, rfl⟩)))
  have nl : ∀ {z : PS}, Gs T fr z → Gs T (fr ++ []) z := fun h => by rw [List.append_nil]; exact h
  unfold whoP at e
  split at e
  · obtain ⟨t, s1, e1, e⟩ := bnd_inv e
    obtain ⟨_, s2, e2, e⟩ := bnd_inv e
    exact (nl (gs_mark (gs_text (gs_adv (gs_adv h)) e1) e2)).put e rfl (text_len hT e1) (ha 14 (by simp)) (hb 14 t (by simp))
  · obtain ⟨_, s1, e1, e⟩ := bnd_inv e
    obtain ⟨kf, s2, e2, e⟩ := bnd_inv e
    have g2 : Gs T fr s2 ∧ (kf = 15 ∨ kf = 16 ∨ kf = 17 ∨ kf = 18) := by
      unfold fieldP at e2
      split at e2
      · cases e2
      · rename_i h0
        injection e2 with e2; injection e2 with ea eb; subst eb
        refine ⟨gs_adv (gs_mark (gs_adv h) e1), ?_⟩
        rw [← ea]
        unfold fieldO at h0 ⊢
        repeat' (split at h0)
        all_goals first | (exact absurd rfl h0) | (rename_i hx; simp_all) | simp_all
    split at e
    · obtain ⟨t, s3, e3, e⟩ := bnd_inv e
      exact (nl (gs_named g2.1 e3)).put e rfl (named_len hT e3) (ha 18 (by simp)) (hb 18 t (by simp))
    · exact (nl g2.1).put e rfl none0 (ha kf (by omega)) (hb kf _ (by omega))
end Go.Proofs.YtcldglilhhhdoaaGreatDoor.L
