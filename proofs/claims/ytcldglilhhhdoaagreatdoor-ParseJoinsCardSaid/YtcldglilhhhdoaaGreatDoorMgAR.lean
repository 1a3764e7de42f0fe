import Derived.Test.YtcldglilhhhdoaaGreatDoorMgAH
import Derived.Test.YtcldglilhhhdoaaGreatDoorPdB
import Derived.Test.YtcldglilhhhdoaaGreatDoorMgAQ
namespace Go.Proofs.YtcldglilhhhdoaaGreatDoor.L
open Go.RowKit Go.Shelf
set_option linter.unusedVariables false
end Go.Proofs.YtcldglilhhhdoaaGreatDoor.L
namespace Go.Proofs.YtcldglilhhhdoaaGreatDoor.L
open Go.RowKit Go.Shelf
set_option linter.unusedVariables false
set_option linter.unusedSimpArgs false
theorem ext_head {s : ByteArray} {k e : Nat} {c : UInt8} {l : List UInt8} (h1 : k < e) (h2 : e ≤ s.size) (h : (s.extract k e).toList = c :: l) : bt s k = c := by
  have := bt_ext s k e 0 (by omega) h2
  rw [Nat.add_zero] at this
  rw [← this]
  unfold bt
  rw [ByteArray.toList_eq] at h
  rw [h]
  rfl
theorem txS_len (s : ByteArray) (f : Nat) : ∀ (n k : Nat) (l l' : List UInt8) (e : Nat), s.size - k = n → txS s f k l = .ok l' e → l'.length ≤ 127 := by
  intro n
  induction n using Nat.strongRecOn with
  | ind n ih =>
    intro k l l' e hn h
    by_cases hlt : k < s.size
    · by_cases c : bt s k = 34
      · rw [txS_q s f k l hlt c] at h
        split at h
        · exact TR.noConfusion h
        · obtain ⟨rfl, _⟩ := TR.ok.inj h
          omega
      · by_cases d : bt s k = 92
        · by_cases e0 : (esc3 s k).2 = 0
          · rw [txS_e0 s f k l hlt d e0] at h
            exact TR.noConfusion h
          · rw [txS_e s f k l hlt d e0] at h
            exact ih (s.size - (k + (esc3 s k).2)) (by omega) _ _ _ _ rfl h
        · by_cases e0 : iv (bt s k) < 32
          · rw [txS_low s f k l hlt c d e0] at h
            exact TR.noConfusion h
          · rw [txS_go s f k l hlt c d e0] at h
            exact ih (s.size - (k + 1)) (by omega) _ _ _ _ rfl h
    · rw [txS_end s f k l hlt] at h
      exact TR.noConfusion h
theorem tok_head {s : ByteArray} {k : Nat} {t : Tok} (hk : k < s.size) (h : tokS s k = .ok t) : (t.kind = 1 → bt s k = 34 ∧ t.text.size ≤ 127) ∧ (t.kind = 2 → digB (iv (bt s k)) = true ∨ bt s k = 45) ∧ ((t.kind = 3 ∨ t.kind = 4) → ∀ c l, t.text.toList = c :: l → bt s k = c) := by
  have hin := tok_in hk h
  unfold tokS at h
  split at h
  · rename_i h34
    cases hx : txS s k (k + 1) [] with
    | bad c a => rw [hx] at h; exact RR.noConfusion h
    | ok l e =>
      rw [hx] at h
      have hl := txS_len s k _ (k + 1) [] l e rfl hx
      have ht := RR.ok.inj h
      subst ht
      exact ⟨fun _ => ⟨h34, by show l.toArray.size ≤ 127; simpa using hl⟩, fun h2 => (by cases h2), fun h2 => (by rcases h2 with h2 | h2 <;> cases h2)⟩
  · split at h
    · rename_i hd
      unfold numTok at h
      split at h
      · exact RR.noConfusion h
      · have ht := RR.ok.inj h
        subst ht
        refine ⟨fun h1 => (by cases h1), fun _ => ?_, fun h2 => (by rcases h2 with h2 | h2 <;> cases h2)⟩
        rcases hd with hd | hd
        · exact Or.inl hd
        · exact Or.inr hd.1
    · split at h
      · have ht := RR.ok.inj h
        subst ht
        exact ⟨fun h1 => (by cases h1), fun h2 => (by cases h2), fun _ c l hc => ext_head hin.2.1 hin.2.2 hc⟩
      · unfold markS at h
        split at h
        · have ht := RR.ok.inj h
          subst ht
          exact ⟨fun h1 => (by cases h1), fun h2 => (by cases h2), fun _ c l hc => ext_head hin.2.1 hin.2.2 hc⟩
        · split at h
          · have ht := RR.ok.inj h
            subst ht
            exact ⟨fun h1 => (by cases h1), fun h2 => (by cases h2), fun _ c l hc => ext_head hin.2.1 hin.2.2 hc⟩
          · exact RR.noConfusion h
/-- The byte with which a part begins. -/
def BgC (k n : Int) (c : UInt8) : Prop :=
  (k = 3 ∧ c = 33) ∨ (k = 4 ∧ c = 38) ∨ (k = 5 ∧ c = 124) ∨ (k = 13 ∧ c = 123) ∨ (k = 6 ∧ (c = 61 ∨ c = 33 ∨ c = 60 ∨ c = 62)) ∨ (k = 11 ∧ c = 34) ∨ (k = 12 ∧ (c = 45 ∨ digB (iv c) = true)) ∨
  (k = 7 ∧ n = 0 ∧ c = 105) ∨ (k = 7 ∧ n = 1 ∧ c = 110) ∨ (k = 1 ∧ c = 116) ∨ (k = 2 ∧ c = 102) ∨ (k = 8 ∧ c = 110) ∨ (k = 9 ∧ c = 97) ∨ (k = 10 ∧ c = 116) ∨ (k = 19 ∧ c = 105) ∨ (k = 20 ∧ c = 99) ∨
  ((k = 14 ∨ k = 15 ∨ k = 16 ∨ k = 17 ∨ k = 18) ∧ ((n = 2 ∧ c = 110) ∨ (n = 1 ∧ c = 112) ∨ (n = 3 ∧ c = 105)))
theorem cmp_head {l : List UInt8} (h : cmpO l ≠ 0) : ∃ c r, l = c :: r ∧ (c = 61 ∨ c = 33 ∨ c = 60 ∨ c = 62) := by
  unfold cmpO at h
  repeat' (split at h)
  all_goals first | (rename_i e; subst e; exact ⟨_, _, rfl, by decide⟩) | (exact absurd rfl h)
theorem bg_byte {src : ByteArray} {t : Tok} {k n : Int} {c : UInt8} (hb : BgT k n t) (h1 : t.kind = 1 → c = 34) (h2 : t.kind = 2 → digB (iv c) = true ∨ c = 45) (h3 : (t.kind = 3 ∨ t.kind = 4) → ∀ d l, t.text.toList = d :: l → c = d) : BgC k n c := by
  unfold BgT at hb
  unfold BgC
  rcases hb with ⟨h4, hb⟩ | ⟨h4, hb⟩ | ⟨h4, hb⟩ | ⟨h4, hb⟩
  · have h5 := h3 (Or.inr h4)
    rcases hb with ⟨hk, hb⟩ | ⟨hk, hb⟩ | ⟨hk, hb⟩ | ⟨hk, hb⟩ | ⟨hk, hb⟩
    · have := h5 _ _ hb; simp [hk, this]
    · have := h5 _ _ hb; simp [hk, this]
    · have := h5 _ _ hb; simp [hk, this]
    · have := h5 _ _ hb; simp [hk, this]
    · obtain ⟨d, r, e, hd⟩ := cmp_head hb
      have := h5 _ _ e
      rw [← this] at hd
      exact Or.inr (Or.inr (Or.inr (Or.inr (Or.inl ⟨hk, hd⟩))))
  · have := h1 h4; simp [hb, this]
  · exact Or.inr (Or.inr (Or.inr (Or.inr (Or.inr (Or.inr (Or.inl ⟨hb, (h2 h4).symm⟩))))))
  · have h5 := h3 (Or.inl h4)
    rcases hb with ⟨hk, hn, hb⟩ | ⟨hk, hn, hb⟩ | ⟨hk, hb⟩ | ⟨hk, hb⟩ | ⟨hk, hb⟩ | ⟨hk, hb⟩ | ⟨hk, hb⟩ | ⟨hk, hb⟩ | ⟨hk, hb⟩ | ⟨hk, hb⟩
    · have := h5 _ _ hb; simp [hk, hn, this]
    · have := h5 _ _ hb; simp [hk, hn, this]
    · have := h5 _ _ hb; simp [hk, this]
    · have := h5 _ _ hb; simp [hk, this]
    · have := h5 _ _ hb; simp [hk, this]
    · have := h5 _ _ hb; simp [hk, this]
    · have := h5 _ _ hb; simp [hk, this]
    · have := h5 _ _ hb; simp [hk, this]
    · have := h5 _ _ hb; simp [hk, this]
    · refine Or.inr (Or.inr (Or.inr (Or.inr (Or.inr (Or.inr (Or.inr (Or.inr (Or.inr (Or.inr (Or.inr (Or.inr (Or.inr (Or.inr (Or.inr (Or.inr ⟨hk, ?_⟩)))))))))))))))
      rcases hb with ⟨hn, hb⟩ | ⟨hn, hb⟩ | ⟨hn, hb⟩
      · exact Or.inl ⟨hn, h5 _ _ hb⟩
      · exact Or.inr (Or.inl ⟨hn, h5 _ _ hb⟩)
      · exact Or.inr (Or.inr ⟨hn, h5 _ _ hb⟩)
theorem bgT_kind {k n : Int} {t : Tok} (hb : BgT k n t) : t.kind ≠ 0 := by
  unfold BgT at hb
  omega
theorem scan_txt {src : ByteArray} (h : (scanT src).2 = none) : Txt (scanT src).1 := fun i hk => by
  obtain ⟨_, h2, h3, _, _⟩ := tk_spec h (i := i) (by rw [hk]; decide)
  exact ((tok_head h2 h3).1 hk).2
theorem bgt_byte {src : ByteArray} (h : (scanT src).2 = none) {p : Pt} {x : Int} (hb : Bgt (scanT src).1 p x) : ∃ n : Nat, x = (n : Int) ∧ n < src.size ∧ BgC p.kind p.num (bt src n) := by
  obtain ⟨i, hx, hb⟩ := hb
  obtain ⟨_, h2, h3, _, _⟩ := tk_spec h (bgT_kind hb)
  have ⟨a1, a2, a3⟩ := tok_head h2 h3
  exact ⟨_, hx, h2, bg_byte (src := src) hb (fun hk => (a1 hk).1) a2 a3⟩
theorem gs_zero (T : List Tok) : Gs T [] ⟨0, 0, [], []⟩ := ⟨rfl, rfl, fun j hj => absurd hj (Nat.not_lt_zero _)⟩
/-- What stands of a tree that was read. -/
structure Rdd (src : ByteArray) (s : PS) : Prop where
  len : s.os.length = s.ps.length
  top : (fre s.ps s.ps.length).length = 1
  most : s.ps.length ≤ 1000
  ok : ∀ j, j < s.ps.length → (pt s.ps j).kids.length ≤ (fre s.ps j).length ∧ (pt s.ps j).kids = (fre s.ps j).drop ((fre s.ps j).length - (pt s.ps j).kids.length) ∧ (pt s.ps j).text.size ≤ 127 ∧ Ari (pt s.ps j).kind (pt s.ps j).kids.length
  bg : ∀ j, j < s.ps.length → ∃ n : Nat, s.os.getD j 0 = (n : Int) ∧ n < src.size ∧ BgC (pt s.ps j).kind (pt s.ps j).num (bt src n)
theorem either_ok {src : ByteArray} {s : PS} (h : parR src = .ok s) : Rdd src s := by
  unfold parR at h
  cases hs : (scanT src).2 with
  | some q => obtain ⟨c, a⟩ := q; rw [hs] at h; cases h
  | none =>
    rw [hs] at h
    simp only at h
    cases hw : wholeP (scanT src).1 16392 with
    | error q => rw [hw] at h; cases h
    | ok q =>
      obtain ⟨u, s1⟩ := q
      rw [hw] at h
      simp only [Except.ok.injEq] at h
      subst h
      unfold wholeP at hw
      obtain ⟨k, s2, e1, e2⟩ := bnd_inv hw
      have g := fo_gr (scan_txt hs) _ _ _ _ _ _ (gs_zero _) e1
      split at e2
      · split at e2
        · cases e2
        · rename_i h1000
          injection e2 with e2; injection e2 with _ e2; subst e2
          exact ⟨g.len, by rw [g.fr]; rfl, by omega, fun j hj => by have h5 := g.ok j hj; exact ⟨h5.1, h5.2.1, h5.2.2.1, h5.2.2.2.1⟩, fun j hj => bgt_byte hs (g.ok j hj).2.2.2.2⟩
      · cases e2
end Go.Proofs.YtcldglilhhhdoaaGreatDoor.L
namespace Go.Proofs.YtcldglilhhhdoaaGreatDoor.L
open Go.RowKit
set_option linter.unusedVariables false
set_option linter.unusedSimpArgs false
theorem bet_kind {t : Tok} {q : Int × Int} (h : betO t = some q) : t.kind ≠ 0 := by
  intro h0
  unfold betO at h
  rw [if_neg (by omega), if_neg (by omega)] at h
  cases h
end Go.Proofs.YtcldglilhhhdoaaGreatDoor.L
namespace Go.Proofs.YtcldglilhhhdoaaGreatDoor.L
open Go.RowKit Go.Shelf
set_option linter.unusedVariables false
set_option linter.unusedSimpArgs false
end Go.Proofs.YtcldglilhhhdoaaGreatDoor.L
namespace Go.Proofs.YtcldglilhhhdoaaGreatDoor.L
open Go.RowKit
set_option linter.unusedVariables false
set_option linter.unusedSimpArgs false
end Go.Proofs.YtcldglilhhhdoaaGreatDoor.L
namespace Go.Proofs.YtcldglilhhhdoaaGreatDoor.L
open Go.RowKit
set_option linter.unusedVariables false
set_option linter.unusedSimpArgs false
set_option maxHeartbeats 4000000 in
set_option maxRecDepth 100000 in
theorem same_tree (a b : Option Addr) (T : List Pt) (ca cb : Nat) (w : World) (hA : PL w a T) (hB : PL w b T) (hn : T.length ≤ 1000) (hk : ∀ j, j < T.length → (pt T j).kids.length ≤ 1000000) :
    Calls Tryz.prog 13 #[.agg #[.slice a T.length ca], .agg #[.slice b T.length cb]] w fun e w' => e = .returned (.bool true) ∧ Below w.heap.size w w' := by
  obtain ⟨L, hL⟩ : ∃ L, L = T.length := ⟨_, rfl⟩
  have HA := hid hA
  have HB := hid hB
  have HL := hid hL
  have HK := hid hk
  rw [← hL] at hn ⊢
  have hLm : L ≤ maxLen := by unfold maxLen; omega
  have e0 : ((L : Int) != (L : Int)) = false := by simp
  clear hA hB hL hk
  have HB2 := hid (show Below w.heap.size w ((w.alloc (.cells #[.slice a L ca] 25)).alloc (.cells #[.slice b L cb] 25)) from (belowA w _).trans ((belowA _ _).mono (belowA w _).size))
  have HX1 := hid (show ((w.alloc (.cells #[.slice a L ca] 25)).alloc (.cells #[.slice b L cb] 25)).heap[w.heap.size]? = some (.cells #[.slice a L ca] 25 (0, 0)) from ((belowA (w.alloc (.cells #[.slice a L ca] 25)) _).block _ (by simp)).trans (heap_alloc_new w _))
  have HX2 := hid (show ((w.alloc (.cells #[.slice a L ca] 25)).alloc (.cells #[.slice b L cb] 25)).heap[w.heap.size + 1]? = some (.cells #[.slice b L cb] 25 (0, 0)) from (by have h1 := heap_alloc_new (w.alloc (.cells #[.slice a L ca] 25)) (.cells #[.slice b L cb] 25); rw [World.size_alloc] at h1; exact h1))
  go_enter Tryz.func13, Tryz.ntmps13
  go_upto_region 1 with fail
  generalize ((w.alloc (.cells #[.slice a L ca] 25)).alloc (.cells #[.slice b L cb] 25)) = X at *
  have HPA := hid (HA.out.low HB2.out)
  have HPB := hid (HB.out.low HB2.out)
  generalize hb0 : w.heap.size = b0 at *
  have HB0 := hid hb0
  clear hb0
  have x1 : X.cell? ⟨b0, 0, none⟩ = some (.slice a L ca) := cell_of_row _ _ 0 _ _ _ HX1.out
  have x2 : X.cell? ⟨b0 + 1, 0, none⟩ = some (.slice b L cb) := cell_of_row _ _ 0 _ _ _ HX2.out
  go_wp2_with fail
  clear x1 x2
  go_loopw [5] (fun i wr => ∃ k : Nat, k ≤ L ∧ i = .int .i64 k ∧ Hid (Below X.heap.size X wr)) (fun i _ => L - (intOf i).toNat)
  case atStart => exact ⟨0, Nat.zero_le _, rfl, hid (Below.refl _ _)⟩
  case round =>
    obtain ⟨k, hk, rfl, HBW⟩ := hrel
    have x1 : wr.cell? ⟨b0, 0, none⟩ = some (.slice a L ca) := (HBW.out.cell (p := ⟨b0, 0, none⟩) (lt_blk HX1.out)).trans (cell_of_row _ _ 0 _ _ _ HX1.out)
    by_cases hlt : k < L
    · rcases HPA.out.low HBW.out with h9 | ⟨ga, oa, rfl, hga, hca⟩
      · have := HL.out; omega
      obtain ⟨ka, kc, q0, q1, q2, q3, rka⟩ := hca k (by rw [← HL.out]; exact hlt)
      rcases HPB.out.low HBW.out with h9 | ⟨gb, ob, rfl, hgb, hcb⟩
      · have := HL.out; omega
      obtain ⟨la, lc, r0, r1, r2, r3, rkb⟩ := hcb k (by rw [← HL.out]; exact hlt)
      have hkn := HK.out k (by rw [← HL.out]; exact hlt)
      clear hca hcb
      generalize (pt T k).kind = kd at *
      generalize (pt T k).text = tx at *
      generalize (pt T k).num = nu at *
      generalize (pt T k).kids = kids at *
      obtain ⟨kn, hkl⟩ : ∃ kn, kn = kids.length := ⟨_, rfl⟩
      rw [← hkl] at q3 r3 hkn
      have HKL := hid hkl
      have RKA := hid rka
      have RKB := hid rkb
      clear hkl rka rkb
      have g1 : (k : Int) < (L : Int) := by omega
      have g2 : (0 : Int) ≤ (k : Int) := by omega
      have hkm : kn ≤ maxLen := by unfold maxLen; omega
      go_upto_region 7 with fail
      have HY1 := hid (heap_alloc_new wr (.cells #[.int .i64 kd, .string tx, .int .i64 nu, .slice ka kn kc] 46))
      have HC1 := hid (belowA wr (.cells #[.int .i64 kd, .string tx, .int .i64 nu, .slice ka kn kc] 46))
      have BX1 := hid (HBW.out.trans (HC1.out.mono HBW.out.size))
      have RKA1 := hid (RKA.out.low HC1.out (Nat.le_refl _))
      have RKB1 := hid (RKB.out.low HC1.out (Nat.le_refl _))
      replace r0 := (HC1.out.cell (p := ⟨gb, ob + k * 4, none⟩) hgb).trans r0
      replace r1 := (HC1.out.cell (p := ⟨gb, ob + k * 4 + 1, none⟩) hgb).trans r1
      replace r2 := (HC1.out.cell (p := ⟨gb, ob + k * 4 + 2, none⟩) hgb).trans r2
      replace r3 := (HC1.out.cell (p := ⟨gb, ob + k * 4 + 3, none⟩) hgb).trans r3
      generalize wr.alloc (.cells #[.int .i64 kd, .string tx, .int .i64 nu, .slice ka kn kc] 46) = V1 at *
      generalize wr.heap.size = c1 at *
      clear x1 q0 q1 q2 q3
      have x2 : V1.cell? ⟨b0 + 1, 0, none⟩ = some (.slice (some ⟨gb, ob, none⟩) L cb) := (BX1.out.cell (p := ⟨b0 + 1, 0, none⟩) (lt_blk HX2.out)).trans (cell_of_row _ _ 0 _ _ _ HX2.out)
      go_upto_region 8 with fail
      have HY2 := hid (heap_alloc_new V1 (.cells #[.int .i64 kd, .string tx, .int .i64 nu, .slice la kn lc] 46))
      have HC2 := hid (belowA V1 (.cells #[.int .i64 kd, .string tx, .int .i64 nu, .slice la kn lc] 46))
      have BX2 := hid (BX1.out.trans (HC2.out.mono BX1.out.size))
      have RKA2 := hid (RKA1.out.low HC2.out (Nat.le_refl _))
      have RKB2 := hid (RKB1.out.low HC2.out (Nat.le_refl _))
      have HY12 := hid ((HC2.out.block _ (lt_blk HY1.out)).trans HY1.out)
      generalize V1.alloc (.cells #[.int .i64 kd, .string tx, .int .i64 nu, .slice la kn lc] 46) = V2 at *
      generalize V1.heap.size = c2 at *
      clear x2 r0 r1 r2 r3
      have y0 : V2.cell? ⟨c1, 0, none⟩ = some (.int .i64 kd) := cell_of_row _ _ 0 _ _ _ HY12.out
      have y1 : V2.cell? ⟨c1, 1, none⟩ = some (.string tx) := cell_of_row _ _ 1 _ _ _ HY12.out
      have y2 : V2.cell? ⟨c1, 2, none⟩ = some (.int .i64 nu) := cell_of_row _ _ 2 _ _ _ HY12.out
      have y3 : V2.cell? ⟨c1, 3, none⟩ = some (.slice ka kn kc) := cell_of_row _ _ 3 _ _ _ HY12.out
      have z0 : V2.cell? ⟨c2, 0, none⟩ = some (.int .i64 kd) := cell_of_row _ _ 0 _ _ _ HY2.out
      have z1 : V2.cell? ⟨c2, 1, none⟩ = some (.string tx) := cell_of_row _ _ 1 _ _ _ HY2.out
      have z2 : V2.cell? ⟨c2, 2, none⟩ = some (.int .i64 nu) := cell_of_row _ _ 2 _ _ _ HY2.out
      have z3 : V2.cell? ⟨c2, 3, none⟩ = some (.slice la kn lc) := cell_of_row _ _ 3 _ _ _ HY2.out
      have f1 : (kd != kd) = false := by simp
      have f2 : (tx.toList != tx.toList) = false := by simp
      have f3 : (nu != nu) = false := by simp
      have f4 : ((kn : Int) != (kn : Int)) = false := by simp
      go_wp2_with fail
      clear y0 y1 y2 y3 z0 z1 z2 z3
      go_loopw [8] (fun i wr2 => ∃ q : Nat, q ≤ kn ∧ i = .int .i64 q ∧ Hid (∃ m, wr2 = V2.drewN m)) (fun i _ => kn - (intOf i).toNat)
      case atStart => exact ⟨0, Nat.zero_le _, rfl, hid ⟨0, rfl⟩⟩
      case round =>
        obtain ⟨q, hq, rfl, HM⟩ := hrel
        obtain ⟨m0, hm0⟩ := HM.out
        have HMM := hid hm0
        clear HM
        have y3 : wr.cell? ⟨c1, 3, none⟩ = some (.slice ka kn kc) := by rw [hm0]; exact cell_of_row _ _ 3 _ _ _ HY12.out
        have z3 : wr.cell? ⟨c2, 3, none⟩ = some (.slice la kn lc) := by rw [hm0]; exact cell_of_row _ _ 3 _ _ _ HY2.out
        by_cases hqn : q < kn
        · rcases RKA2.out with h9 | ⟨ha, pa, rfl, hal, hac⟩
          · have := HKL.out; omega
          rcases RKB2.out with h9 | ⟨hb, pb2, rfl, hbl, hbc⟩
          · have := HKL.out; omega
          have p0 := hac q (by rw [← HKL.out]; exact hqn)
          have p1 := hbc q (by rw [← HKL.out]; exact hqn)
          have p0 : wr.cell? ⟨ha, pa + q, none⟩ = some (.int .i64 (kids.getD q 0)) := by rw [hm0]; exact p0
          have p1 : wr.cell? ⟨hb, pb2 + q, none⟩ = some (.int .i64 (kids.getD q 0)) := by rw [hm0]; exact p1
          clear hac hbc hm0
          generalize kids.getD q 0 = x at *
          have g3 : (q : Int) < (kn : Int) := by omega
          have g4 : (0 : Int) ≤ (q : Int) := by omega
          have g5 : (q : Int) ≤ 1000000 := by omega
          have f5 : (x != x) = false := by simp
          go_wp2_with fail
          go_quiet (fail)
          go_wp2_with fail
          refine ⟨⟨q + 1, by omega, by go_num, hid ⟨m0 + nq, by rw [HMM.out, World.drewN_drewN]⟩⟩, by simp [intOf]; omega⟩
        · obtain rfl : q = kn := by omega
          clear hm0
          go_wp2_with fail
          refine ⟨⟨k + 1, by omega, by go_num, hid (by rw [HMM.out]; exact below_drewN BX2.out _)⟩, by simp [intOf]; omega⟩
    · obtain rfl : k = L := by omega
      go_wp2_with fail
      go_ret
      exact ⟨rfl, by rw [HB0.out]; exact HB2.out.trans (HBW.out.mono (by have := lt_blk HX1.out; omega))⟩
end Go.Proofs.YtcldglilhhhdoaaGreatDoor.L
