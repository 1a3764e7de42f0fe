import Derived.Test.YtlhlpamciafocaaGreatDoorMgAO
import Derived.Deep.MidRow
import Derived.Deep.QuietTactic
import Derived.BigQuiet
namespace Go.Proofs.YtlhlpamciafocaaGreatDoor.L
open Go.RowKit
set_option linter.unusedVariables false
set_option linter.unusedSimpArgs false
set_option maxHeartbeats 4000000 in
set_option maxRecDepth 100000 in
theorem same_parts (a b : Option Addr) (T : List Pt) (ca cb : Nat) (w : World) (hA : PL w a T) (hB : PL w b T) (hn : T.length ≤ 1000) (hk : ∀ j, j < T.length → (pt T j).kids.length ≤ 1000000) :
    Calls Tryz.prog 17 #[.agg #[.slice a T.length ca], .agg #[.slice b T.length cb]] w fun e w' => e = .returned (.bool true) ∧ Below w.heap.size w w' := by
  obtain ⟨L, hL⟩ : ∃ L, L = T.length := ⟨_, rfl⟩
  have HA := hid hA
  have HB := hid hB
  have HL := hid hL
  have HK := hid hk
  rw [← hL] at hn ⊢
  have hLm : L ≤ maxLen := by unfold maxLen; omega
  have e0 : ((L : Int) != (L : Int)) = false := by simp
  clear hA hB hL hk
  have HB2 := hid (show Below w.heap.size w ((w.alloc (.cells #[.slice a L ca] 24)).alloc (.cells #[.slice b L cb] 24)) from (belowA w _).trans ((belowA _ _).mono (belowA w _).size))
  have HX1 := hid (show ((w.alloc (.cells #[.slice a L ca] 24)).alloc (.cells #[.slice b L cb] 24)).heap[w.heap.size]? = some (.cells #[.slice a L ca] 24 (0, 0)) from ((belowA (w.alloc (.cells #[.slice a L ca] 24)) _).block _ (by simp)).trans (heap_alloc_new w _))
  have HX2 := hid (show ((w.alloc (.cells #[.slice a L ca] 24)).alloc (.cells #[.slice b L cb] 24)).heap[w.heap.size + 1]? = some (.cells #[.slice b L cb] 24 (0, 0)) from (by have h1 := heap_alloc_new (w.alloc (.cells #[.slice a L ca] 24)) (.cells #[.slice b L cb] 24); rw [World.size_alloc] at h1; exact h1))
  go_enter Tryz.func17, Tryz.ntmps17
  go_upto_region 1 with fail
  generalize ((w.alloc (.cells #[.slice a L ca] 24)).alloc (.cells #[.slice b L cb] 24)) = X at *
  have HPA := hid (HA.out.low HB2.out)
  have HPB := hid (HB.out.low HB2.out)
  generalize hb0 : w.heap.size = b0 at *
  have HB0 := hid hb0
  clear hb0
  have x1 : X.cell? ⟨b0, 0, none⟩ = some (.slice a L ca) := cell_of_row _ _ 0 _ _ _ HX1.out
  have x2 : X.cell? ⟨b0 + 1, 0, none⟩ = some (.slice b L cb) := cell_of_row _ _ 0 _ _ _ HX2.out
  go_wp2_with fail
  clear x1 x2
  go_loopw [5] (fun i wr => ∃ k : Nat, k ≤ L ∧ i = .int .i64 k ∧ Hid (Below X.heap.size X wr)) (fun i _ => L - (intOf i).toNat)
  case atStart => exact ⟨0, Nat.zero_le _, rfl, hid (Below.refl _ _)⟩
  case round =>
    obtain ⟨k, hk, rfl, HBW⟩ := hrel
    have x1 : wr.cell? ⟨b0, 0, none⟩ = some (.slice a L ca) := (HBW.out.cell (p := ⟨b0, 0, none⟩) (lt_blk HX1.out)).trans (cell_of_row _ _ 0 _ _ _ HX1.out)
    by_cases hlt : k < L
    · rcases HPA.out.low HBW.out with h9 | ⟨ga, oa, rfl, hga, hca⟩
      · have := HL.out; omega
      obtain ⟨ka, kc, q0, q1, q2, q3, rka⟩ := hca k (by rw [← HL.out]; exact hlt)
      rcases HPB.out.low HBW.out with h9 | ⟨gb, ob, rfl, hgb, hcb⟩
      · have := HL.out; omega
      obtain ⟨la, lc, r0, r1, r2, r3, rkb⟩ := hcb k (by rw [← HL.out]; exact hlt)
      have hkn := HK.out k (by rw [← HL.out]; exact hlt)
      clear hca hcb
      generalize (pt T k).kind = kd at *
      generalize (pt T k).text = tx at *
      generalize (pt T k).num = nu at *
      generalize (pt T k).kids = kids at *
      obtain ⟨kn, hkl⟩ : ∃ kn, kn = kids.length := ⟨_, rfl⟩
      rw [← hkl] at q3 r3 hkn
      have HKL := hid hkl
      have RKA := hid rka
      have RKB := hid rkb
      clear hkl rka rkb
      have g1 : (k : Int) < (L : Int) := by omega
      have g2 : (0 : Int) ≤ (k : Int) := by omega
      have hkm : kn ≤ maxLen := by unfold maxLen; omega
      go_upto_region 7 with fail
      have HY1 := hid (heap_alloc_new wr (.cells #[.int .i64 kd, .string tx, .int .i64 nu, .slice ka kn kc] 50))
      have HC1 := hid (belowA wr (.cells #[.int .i64 kd, .string tx, .int .i64 nu, .slice ka kn kc] 50))
      have BX1 := hid (HBW.out.trans (HC1.out.mono HBW.out.size))
      have RKA1 := hid (RKA.out.low HC1.out (Nat.le_refl _))
      have RKB1 := hid (RKB.out.low HC1.out (Nat.le_refl _))
      replace r0 := (HC1.out.cell (p := ⟨gb, ob + k * 4, none⟩) hgb).trans r0
      replace r1 := (HC1.out.cell (p := ⟨gb, ob + k * 4 + 1, none⟩) hgb).trans r1
      replace r2 := (HC1.out.cell (p := ⟨gb, ob + k * 4 + 2, none⟩) hgb).trans r2
      replace r3 := (HC1.out.cell (p := ⟨gb, ob + k * 4 + 3, none⟩) hgb).trans r3
      generalize wr.alloc (.cells #[.int .i64 kd, .string tx, .int .i64 nu, .slice ka kn kc] 50) = V1 at *
      generalize wr.heap.size = c1 at *
      clear x1 q0 q1 q2 q3
      have x2 : V1.cell? ⟨b0 + 1, 0, none⟩ = some (.slice (some ⟨gb, ob, none⟩) L cb) := (BX1.out.cell (p := ⟨b0 + 1, 0, none⟩) (lt_blk HX2.out)).trans (cell_of_row _ _ 0 _ _ _ HX2.out)
      go_upto_region 8 with fail
      have HY2 := hid (heap_alloc_new V1 (.cells #[.int .i64 kd, .string tx, .int .i64 nu, .slice la kn lc] 50))
      have HC2 := hid (belowA V1 (.cells #[.int .i64 kd, .string tx, .int .i64 nu, .slice la kn lc] 50))
      have BX2 := hid (BX1.out.trans (HC2.out.mono BX1.out.size))
      have RKA2 := hid (RKA1.out.low HC2.out (Nat.le_refl _))
      have RKB2 := hid (RKB1.out.low HC2.out (Nat.le_refl _))
      have HY12 := hid ((HC2.out.block _ (lt_blk HY1.out)).trans HY1.out)
      generalize V1.alloc (.cells #[.int .i64 kd, .string tx, .int .i64 nu, .slice la kn lc] 50) = V2 at *
      generalize V1.heap.size = c2 at *
      clear x2 r0 r1 r2 r3
      have y0 : V2.cell? ⟨c1, 0, none⟩ = some (.int .i64 kd) := cell_of_row _ _ 0 _ _ _ HY12.out
      have y1 : V2.cell? ⟨c1, 1, none⟩ = some (.string tx) := cell_of_row _ _ 1 _ _ _ HY12.out
      have y2 : V2.cell? ⟨c1, 2, none⟩ = some (.int .i64 nu) := cell_of_row _ _ 2 _ _ _ HY12.out
      have y3 : V2.cell? ⟨c1, 3, none⟩ = some (.slice ka kn kc) := cell_of_row _ _ 3 _ _ _ HY12.out
      have z0 : V2.cell? ⟨c2, 0, none⟩ = some (.int .i64 kd) := cell_of_row _ _ 0 _ _ _ HY2.out
      have z1 : V2.cell? ⟨c2, 1, none⟩ = some (.string tx) := cell_of_row _ _ 1 _ _ _ HY2.out
      have z2 : V2.cell? ⟨c2, 2, none⟩ = some (.int .i64 nu) := cell_of_row _ _ 2 _ _ _ HY2.out
      have z3 : V2.cell? ⟨c2, 3, none⟩ = some (.slice la kn lc) := cell_of_row _ _ 3 _ _ _ HY2.out
      have f1 : (kd != kd) = false := by simp
      have f2 : (tx.toList != tx.toList) = false := by simp
      have f3 : (nu != nu) = false := by simp
      have f4 : ((kn : Int) != (kn : Int)) = false := by simp
      go_wp2_with fail
      clear y0 y1 y2 y3 z0 z1 z2 z3
      go_loopw [8] (fun i wr2 => ∃ q : Nat, q ≤ kn ∧ i = .int .i64 q ∧ Hid (∃ m, wr2 = V2.drewN m)) (fun i _ => kn - (intOf i).toNat)
      case atStart => exact ⟨0, Nat.zero_le _, rfl, hid ⟨0, rfl⟩⟩
      case round =>
        obtain ⟨q, hq, rfl, HM⟩ := hrel
        obtain ⟨m0, hm0⟩ := HM.out
        have HMM := hid hm0
        clear HM
        have y3 : wr.cell? ⟨c1, 3, none⟩ = some (.slice ka kn kc) := by rw [hm0]; exact cell_of_row _ _ 3 _ _ _ HY12.out
        have z3 : wr.cell? ⟨c2, 3, none⟩ = some (.slice la kn lc) := by rw [hm0]; exact cell_of_row _ _ 3 _ _ _ HY2.out
        by_cases hqn : q < kn
        · rcases RKA2.out with h9 | ⟨ha, pa, rfl, hal, hac⟩
          · have := HKL.out; omega
          rcases RKB2.out with h9 | ⟨hb, pb2, rfl, hbl, hbc⟩
          · have := HKL.out; omega
          have p0 := hac q (by rw [← HKL.out]; exact hqn)
          have p1 := hbc q (by rw [← HKL.out]; exact hqn)
          have p0 : wr.cell? ⟨ha, pa + q, none⟩ = some (.int .i64 (kids.getD q 0)) := by rw [hm0]; exact p0
          have p1 : wr.cell? ⟨hb, pb2 + q, none⟩ = some (.int .i64 (kids.getD q 0)) := by rw [hm0]; exact p1
          clear hac hbc hm0
          generalize kids.getD q 0 = x at *
          have g3 : (q : Int) < (kn : Int) := by omega
          have g4 : (0 : Int) ≤ (q : Int) := by omega
          have g5 : (q : Int) ≤ 1000000 := by omega
          have f5 : (x != x) = false := by simp
          go_wp2_with fail
          go_quiet (fail)
          go_wp2_with fail
          refine ⟨⟨q + 1, by omega, by go_num, hid ⟨m0 + nq, by rw [HMM.out, World.drewN_drewN]⟩⟩, by simp [intOf]; omega⟩
        · obtain rfl : q = kn := by omega
          clear hm0
          go_wp2_with fail
          refine ⟨⟨k + 1, by omega, by go_num, hid (by rw [HMM.out]; exact below_drewN BX2.out _)⟩, by simp [intOf]; omega⟩
    · obtain rfl : k = L := by omega
      go_wp2_with fail
      go_ret
      exact ⟨rfl, by rw [HB0.out]; exact HB2.out.trans (HBW.out.mono (by have := lt_blk HX1.out; omega))⟩
end Go.Proofs.YtlhlpamciafocaaGreatDoor.L
namespace Go.Proofs.YtlhlpamciafocaaGreatDoor.L
open Go.RowKit
set_option linter.unusedVariables false
set_option linter.unusedSimpArgs false
theorem bch {w W W' : World} (h : Below w.heap.size w W) (k : Below W.heap.size W W') : Below w.heap.size w W' := h.trans (k.mono h.size)
end Go.Proofs.YtlhlpamciafocaaGreatDoor.L
namespace Go.Proofs.YtlhlpamciafocaaGreatDoor.L
open Go.RowKit
set_option linter.unusedVariables false
set_option linter.unusedSimpArgs false
end Go.Proofs.YtlhlpamciafocaaGreatDoor.L
namespace Go.Proofs.YtlhlpamciafocaaGreatDoor.L
open Go.RowKit
set_option linter.unusedVariables false
set_option linter.unusedSimpArgs false
/-- How many kids a part of this kind has. -/
def Ari (k : Int) (n : Nat) : Prop := ((k = 3 ∨ k = 8 ∨ k = 9 ∨ k = 19 ∨ k = 20) ∧ n = 1) ∨ ((k = 4 ∨ k = 5) ∧ 2 ≤ n) ∨ ((k = 6 ∨ k = 7) ∧ n = 2) ∨ (k = 13 ∧ n ≤ 64) ∨ ((k = 1 ∨ k = 2 ∨ k = 10 ∨ k = 11 ∨ k = 12 ∨ k = 14 ∨ k = 15 ∨ k = 16 ∨ k = 17 ∨ k = 18) ∧ n = 0)
/-- The token that stands for a part. -/
def BgT (k n : Int) (t : Tok) : Prop :=
  (t.kind = 4 ∧ ((k = 3 ∧ t.text.toList = [33]) ∨ (k = 4 ∧ t.text.toList = [38, 38]) ∨ (k = 5 ∧ t.text.toList = [124, 124]) ∨ (k = 13 ∧ t.text.toList = [123]) ∨ (k = 6 ∧ cmpO t.text.toList ≠ 0))) ∨
  (t.kind = 1 ∧ k = 11) ∨ (t.kind = 2 ∧ k = 12) ∨
  (t.kind = 3 ∧ ((k = 7 ∧ n = 0 ∧ t.text.toList = [105, 110]) ∨ (k = 7 ∧ n = 1 ∧ t.text.toList = [110, 111, 116, 105, 110]) ∨ (k = 1 ∧ t.text.toList = [116, 114, 117, 101]) ∨ (k = 2 ∧ t.text.toList = [102, 97, 108, 115, 101]) ∨ (k = 8 ∧ t.text.toList = [110, 101, 97, 114]) ∨ (k = 9 ∧ t.text.toList = [97, 112, 97, 114, 116]) ∨ (k = 10 ∧ t.text.toList = [116, 111, 108, 101, 114, 97, 116, 101, 100]) ∨ (k = 19 ∧ t.text.toList = [105, 110, 116]) ∨ (k = 20 ∧ t.text.toList = [99, 111, 117, 110, 116]) ∨
    ((k = 14 ∨ k = 15 ∨ k = 16 ∨ k = 17 ∨ k = 18) ∧ ((n = 2 ∧ t.text.toList = [110, 111, 100, 101]) ∨ (n = 1 ∧ t.text.toList = [112, 111, 100]) ∨ (n = 3 ∧ t.text.toList = [105, 116])))))
def Bgt (T : List Tok) (p : Pt) (x : Int) : Prop := ∃ i, x = ((tk T i).a : Int) ∧ BgT p.kind p.num (tk T i)
/-- A part is in its place. -/
def PlG (T : List Tok) (ps : List Pt) (j : Nat) (p : Pt) (x : Int) : Prop := p.kids.length ≤ (fre ps j).length ∧ p.kids = (fre ps j).drop ((fre ps j).length - p.kids.length) ∧ p.text.size ≤ 127 ∧ Ari p.kind p.kids.length ∧ Bgt T p x
structure Gs (T : List Tok) (fr : List Int) (s : PS) : Prop where
  len : s.os.length = s.ps.length
  fr : fre s.ps s.ps.length = fr
  ok : ∀ j, j < s.ps.length → PlG T s.ps j (pt s.ps j) (s.os.getD j 0)
theorem fre_app (ps : List Pt) (p : Pt) : ∀ j, j ≤ ps.length → fre (ps ++ [p]) j = fre ps j
  | 0, _ => rfl
  | j + 1, h => by
    simp only [fre]
    rw [fre_app ps p j (by omega), pt_app ps p (by omega)]
theorem Gs.put {T : List Tok} {fr kids : List Int} {s s' : PS} {p : Pt} {x r : Int} (h : Gs T (fr ++ kids) s) (e : putP s p x = .ok (r, s')) (hk : p.kids = kids) (ht : p.text.size ≤ 127) (ha : Ari p.kind kids.length) (hb : Bgt T p x) : Gs T (fr ++ [r]) s' := by
  unfold putP at e
  injection e with e
  injection e with e1 e2
  subst e1
  subst e2
  have hf := h.fr
  refine ⟨by simp [h.len], ?_, fun j hj => ?_⟩
  · show fre (s.ps ++ [p]) (s.ps ++ [p]).length = _
    rw [List.length_append, List.length_singleton]
    simp only [fre]
    rw [fre_app _ _ _ (Nat.le_refl _), pt_last, hf, hk, List.length_append, Nat.add_sub_cancel, List.take_left]
  · show PlG T (s.ps ++ [p]) j (pt (s.ps ++ [p]) j) ((s.os ++ [x]).getD j 0)
    have hj' : j < s.ps.length + 1 := by simpa using hj
    by_cases hl : j < s.ps.length
    · have := h.ok j hl
      unfold PlG at this ⊢
      rw [fre_app _ _ _ (by omega), pt_app _ _ hl]
      rw [show (s.os ++ [x]).getD j 0 = s.os.getD j 0 by rw [List.getD_eq_getElem?_getD, List.getD_eq_getElem?_getD, List.getElem?_append_left (by rw [h.len]; exact hl)]]
      exact this
    · have ej : j = s.ps.length := by omega
      subst ej
      unfold PlG
      rw [fre_app _ _ _ (Nat.le_refl _), pt_last, hf]
      rw [show (s.os ++ [x]).getD s.ps.length 0 = x by rw [← h.len, List.getD_eq_getElem?_getD, List.getElem?_append_right (Nat.le_refl _)]; simp]
      refine ⟨by rw [hk]; simp, ?_, ht, by rw [hk]; exact ha, hb⟩
      rw [hk, List.length_append, Nat.add_sub_cancel, List.drop_left]
theorem Gs.to {T : List Tok} {fr : List Int} {s s' : PS} (h : Gs T fr s) (hp : s'.ps = s.ps) (ho : s'.os = s.os) : Gs T fr s' := ⟨by rw [hp, ho]; exact h.len, by rw [hp]; exact h.fr, by rw [hp, ho]; exact h.ok⟩
theorem gs_adv {T : List Tok} {fr : List Int} {s : PS} (h : Gs T fr s) : Gs T fr (adv s) := h.to rfl rfl
theorem gs_mark {T : List Tok} {fr : List Int} {s s' : PS} {m : List UInt8} {u : Unit} (h : Gs T fr s) (e : markP T s m = .ok (u, s')) : Gs T fr s' := by rw [mark_ok e]; exact gs_adv h
theorem gs_text {T : List Tok} {fr : List Int} {s s' : PS} {t : ByteArray} (h : Gs T fr s) (e : textP T s = .ok (t, s')) : Gs T fr s' := by rw [text_ok e]; exact gs_adv h
theorem gs_open {T : List Tok} {fr : List Int} {s s' : PS} {m : List UInt8} {u : Unit} (h : Gs T fr s) (e : openP T s m = .ok (u, s')) : Gs T fr s' := by rw [open_ok e]; exact h.to rfl rfl
theorem gs_named {T : List Tok} {fr : List Int} {s s' : PS} {t : ByteArray} (h : Gs T fr s) (e : namedP T s = .ok (t, s')) : Gs T fr s' := by rw [named_ok e]; exact h.to rfl rfl
/-- Texts in quotes are short. -/
def Txt (T : List Tok) : Prop := ∀ i, (tk T i).kind = 1 → (tk T i).text.size ≤ 127
theorem text_len {T : List Tok} (hT : Txt T) {s s' : PS} {t : ByteArray} (e : textP T s = .ok (t, s')) : t.size ≤ 127 := by
  unfold textP at e
  split at e
  · rename_i h1
    injection e with e
    injection e with e1 _
    rw [← e1]
    exact hT _ h1
  · cases e
theorem named_len {T : List Tok} (hT : Txt T) {s s' : PS} {t : ByteArray} (e : namedP T s = .ok (t, s')) : t.size ≤ 127 := by
  unfold namedP at e
  obtain ⟨_, s1, _, e⟩ := bnd_inv e
  obtain ⟨t1, s2, e2, e⟩ := bnd_inv e
  obtain ⟨_, s3, _, e⟩ := bnd_inv e
  injection e with e
  injection e with e _
  rw [← e]
  exact text_len hT e2
def Fo (T : List Tok) (r : PS → PRes Int) : Prop := ∀ s fr k s', Gs T fr s → r s = .ok (k, s') → Gs T (fr ++ [k]) s'
theorem none0 : (⟨#[]⟩ : ByteArray).size ≤ 127 := by decide
theorem fo_el {T : List Tok} (hT : Txt T) {s s' : PS} {fr : List Int} {k : Int} (h : Gs T fr s) (h1 : isEl (tk T s.nx) = true) (e : elP T s = .ok (k, s')) : Gs T (fr ++ [k]) s' := by
  unfold elP at e
  have h0 : Gs T (fr ++ []) (adv s) := by rw [List.append_nil]; exact gs_adv h
  split at e
  · rename_i hk
    exact h0.put e rfl (hT _ hk) (Or.inr (Or.inr (Or.inr (Or.inr ⟨by simp, rfl⟩)))) ⟨s.nx, rfl, Or.inr (Or.inl ⟨hk, rfl⟩)⟩
  · rename_i hk
    have h2 : (tk T s.nx).kind = 2 := by unfold isEl at h1; simp at h1; omega
    exact h0.put e rfl none0 (Or.inr (Or.inr (Or.inr (Or.inr ⟨by simp, rfl⟩)))) ⟨s.nx, rfl, Or.inr (Or.inr (Or.inl ⟨h2, rfl⟩))⟩
theorem fo_mem {T : List Tok} (hT : Txt T) {s s' : PS} {fr : List Int} {k : Int} {n : Nat} (h : Gs T fr s) (e : memP T s n = .ok (k, s')) : Gs T (fr ++ [k]) s' ∧ n ≠ 64 := by
  unfold memP at e
  split at e
  · rename_i h1
    split at e
    · cases e
    · rename_i h2
      exact ⟨fo_el hT h h1 e, h2⟩
  · cases e
theorem fo_mems {T : List Tok} (hT : Txt T) : ∀ (n : Nat) {ks ks' : List Int} {s s' : PS} {fr : List Int}, Gs T (fr ++ ks) s → ks.length ≤ 64 → memsP T n ks s = .ok (ks', s') → Gs T (fr ++ ks') s' ∧ ks'.length ≤ 64
  | 0, ks, ks', s, s', fr, h, hl, e => by
    unfold memsP at e
    injection e with e; injection e with e1 e2; subst e1; subst e2
    exact ⟨h, hl⟩
  | n + 1, ks, ks', s, s', fr, h, hl, e => by
    unfold memsP at e
    split at e
    · obtain ⟨k, s1, e1, e2⟩ := bnd_inv e
      obtain ⟨h1, h2⟩ := fo_mem hT (gs_adv h) e1
      exact fo_mems hT n (by rw [← List.append_assoc]; exact h1) (by simp; omega) e2
    · injection e with e; injection e with e1 e2; subst e1; subst e2
      exact ⟨h, hl⟩
theorem fo_set {T : List Tok} (hT : Txt T) : Fo T (setP T) := by
  intro s fr k s' h e
  unfold setP at e
  obtain ⟨_, s1, e1, e⟩ := bnd_inv e
  obtain ⟨ks, s2, e2, e⟩ := bnd_inv e
  obtain ⟨ks', s3, e3, e⟩ := bnd_inv e
  obtain ⟨_, s4, e4, e⟩ := bnd_inv e
  have g1 := gs_mark h e1
  have g2 : Gs T (fr ++ ks) s2 ∧ ks.length ≤ 64 := by
    split at e2
    · injection e2 with e2; injection e2 with ea eb; subst ea; subst eb
      exact ⟨by rw [List.append_nil]; exact g1, by simp⟩
    · obtain ⟨k1, s5, e5, e6⟩ := bnd_inv e2
      injection e6 with e6; injection e6 with ea eb; subst ea; subst eb
      exact ⟨(fo_mem hT g1 e5).1, by simp⟩
  obtain ⟨g3, h3⟩ := fo_mems hT _ g2.1 g2.2 e3
  have hm : isM T s [123] = true := by
    unfold markP at e1
    split at e1
    · assumption
    · cases e1
  unfold isM at hm
  simp at hm
  exact (gs_mark g3 e4).put e rfl none0 (Or.inr (Or.inr (Or.inr (Or.inl ⟨rfl, h3⟩)))) ⟨s.nx, rfl, Or.inl ⟨hm.1, by simp [hm.2]⟩⟩
theorem fo_who {T : List Tok} (hT : Txt T) {s s' : PS} {fr : List Int} {k side : Int} (h : Gs T fr s) (h3 : (tk T s.nx).kind = 3) (hs : (side = 2 ∧ (tk T s.nx).text.toList = [110, 111, 100, 101]) ∨ (side = 1 ∧ (tk T s.nx).text.toList = [112, 111, 100]) ∨ (side = 3 ∧ (tk T s.nx).text.toList = [105, 116])) (e : whoP T s side = .ok (k, s')) : Gs T (fr ++ [k]) s' := by
  have hb : ∀ (kd : Int) (x : ByteArray), (kd = 14 ∨ kd = 15 ∨ kd = 16 ∨ kd = 17 ∨ kd = 18) → Bgt T ⟨kd, x, side, []⟩ ((tk T s.nx).a : Int) := fun kd x hk => ⟨s.nx, rfl, Or.inr (Or.inr (Or.inr ⟨h3, Or.inr (Or.inr (Or.inr (Or.inr (Or.inr (Or.inr (Or.inr (Or.inr (Or.inr ⟨hk, hs⟩))))))))⟩))⟩
  have ha : ∀ kd : Int, (kd = 14 ∨ kd = 15 ∨ kd = 16 ∨ kd = 17 ∨ kd = 18) → Ari kd ([] : List Int).length := fun kd hk => Or.inr (Or.inr (Or.inr (Or.inr ⟨by omega, rfl⟩)))
  have nl : ∀ {z : PS}, Gs T fr z → Gs T (fr ++ []) z := fun h => by rw [List.append_nil]; exact h
  unfold whoP at e
  split at e
  · obtain ⟨t, s1, e1, e⟩ := bnd_inv e
    obtain ⟨_, s2, e2, e⟩ := bnd_inv e
    exact (nl (gs_mark (gs_text (gs_adv (gs_adv h)) e1) e2)).put e rfl (text_len hT e1) (ha 14 (by simp)) (hb 14 t (by simp))
  · obtain ⟨_, s1, e1, e⟩ := bnd_inv e
    obtain ⟨kf, s2, e2, e⟩ := bnd_inv e
    have g2 : Gs T fr s2 ∧ (kf = 15 ∨ kf = 16 ∨ kf = 17 ∨ kf = 18) := by
      unfold fieldP at e2
      split at e2
      · cases e2
      · rename_i h0
        injection e2 with e2; injection e2 with ea eb; subst eb
        refine ⟨gs_adv (gs_mark (gs_adv h) e1), ?_⟩
        rw [← ea]
        unfold fieldO at h0 ⊢
        repeat' (split at h0)
        all_goals first | (exact absurd rfl h0) | (rename_i hx; simp_all) | simp_all
    split at e
    · obtain ⟨t, s3, e3, e⟩ := bnd_inv e
      exact (nl (gs_named g2.1 e3)).put e rfl (named_len hT e3) (ha 18 (by simp)) (hb 18 t (by simp))
    · exact (nl g2.1).put e rfl none0 (ha kf (by omega)) (hb kf _ (by omega))
end Go.Proofs.YtlhlpamciafocaaGreatDoor.L
