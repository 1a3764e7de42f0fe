import Derived.Test.YtlhlpamciafocaaGreatDoorMgAP
namespace Go.Proofs.YtlhlpamciafocaaGreatDoor.L
open Go.RowKit Go.Shelf
set_option linter.unusedVariables false
set_option linter.unusedSimpArgs false
theorem scan_codes (s : ByteArray) : ∀ (n k : Nat), s.size - k = n → ∀ c a, (scanS s k).2 = some (c, a) → 111 ≤ c ∧ c ≤ 115 := by
  have TX : ∀ (f : Nat) (n k : Nat) (l : List UInt8), s.size - k = n → ∀ c a, txS s f k l = .bad c a → 111 ≤ c ∧ c ≤ 115 := by
    intro f n
    induction n using Nat.strongRecOn with
    | ind n ih =>
      intro k l hn c0 a0 h
      by_cases hlt : k < s.size
      · by_cases c : bt s k = 34
        · rw [txS_q s f k l hlt c] at h
          split at h
          · obtain ⟨rfl, _⟩ := TR.bad.inj h
            omega
          · exact TR.noConfusion h
        · by_cases d : bt s k = 92
          · by_cases e0 : (esc3 s k).2 = 0
            · rw [txS_e0 s f k l hlt d e0] at h
              obtain ⟨rfl, _⟩ := TR.bad.inj h
              omega
            · rw [txS_e s f k l hlt d e0] at h
              exact ih (s.size - (k + (esc3 s k).2)) (by omega) _ _ rfl c0 a0 h
          · by_cases e0 : iv (bt s k) < 32
            · rw [txS_low s f k l hlt c d e0] at h
              obtain ⟨rfl, _⟩ := TR.bad.inj h
              omega
            · rw [txS_go s f k l hlt c d e0] at h
              exact ih (s.size - (k + 1)) (by omega) _ _ rfl c0 a0 h
      · rw [txS_end s f k l hlt] at h
        obtain ⟨rfl, _⟩ := TR.bad.inj h
        omega
  have TK : ∀ k c a, tokS s k = .bad c a → 111 ≤ c ∧ c ≤ 115 := by
    intro k c a h
    unfold tokS at h
    split at h
    · cases hx : txS s k (k + 1) [] with
      | bad c' a' => rw [hx] at h; obtain ⟨rfl, _⟩ := RR.bad.inj h; exact TX k _ (k + 1) [] rfl _ _ hx
      | ok l e => rw [hx] at h; exact RR.noConfusion h
    · split at h
      · unfold numTok at h
        split at h
        · obtain ⟨rfl, _⟩ := RR.bad.inj h; omega
        · exact RR.noConfusion h
      · split at h
        · exact RR.noConfusion h
        · unfold markS at h
          split at h
          · exact RR.noConfusion h
          · split at h
            · exact RR.noConfusion h
            · obtain ⟨rfl, _⟩ := RR.bad.inj h; omega
  intro n
  induction n using Nat.strongRecOn with
  | ind n ih =>
    intro k hn c a h
    by_cases hl : gapS s k < s.size
    · cases ht : tokS s (gapS s k) with
      | bad c' a' =>
        rw [scan_bad hl ht] at h
        have := Option.some.inj h
        cases this
        exact TK _ _ _ ht
      | ok t =>
        rw [scan_go hl ht] at h
        have h1 := tok_in hl ht
        have h2 := gapS_ge s k
        exact ih (s.size - t.e) (by omega) t.e rfl c a h
    · rw [scan_fin hl] at h
      cases h
theorem scanT_codes {src : ByteArray} {c a : Nat} (h : (scanT src).2 = some (c, a)) : 110 ≤ c ∧ c ≤ 115 := by
  unfold scanT at h
  split at h
  · have := scan_codes src _ 0 rfl c a h
    omega
  · injection h with h
    injection h with h1 h2
    omega
theorem tk_out {T : List Tok} {i : Nat} (h : ¬ i < T.length) : (tk T i).kind = 0 := by
  unfold tk
  rw [List.getD_eq_getElem?_getD, List.getElem?_eq_none (by omega)]
  rfl
theorem tk_mem {T : List Tok} {i : Nat} (h : i < T.length) : tk T i ∈ T := by
  unfold tk
  rw [List.getD_eq_getElem?_getD, List.getElem?_eq_getElem h]
  exact List.getElem_mem h
/-- A token of the source that isn't its end. -/
theorem tk_spec {src : ByteArray} (h : (scanT src).2 = none) {i : Nat} (hk : (tk (scanT src).1 i).kind ≠ 0) : i + 1 < (scanT src).1.length ∧ (tk (scanT src).1 i).a < src.size ∧ tokS src (tk (scanT src).1 i).a = .ok (tk (scanT src).1 i) ∧ (tk (scanT src).1 i).a < (tk (scanT src).1 i).e ∧ (tk (scanT src).1 i).e ≤ src.size := by
  have hi : i < (scanT src).1.length := Classical.byContradiction fun hn => hk (tk_out hn)
  have h1 := (scan_fin2 h).2 i hi hk
  obtain ⟨_, l, hl, hs⟩ := scan_shape h
  have hm : tk (scanT src).1 i ∈ l := by
    have h2 := tk_mem hi
    rw [hl] at h2
    rcases List.mem_append.1 h2 with h3 | h3
    · rw [hl]; exact h3
    · rw [hl] at hk
      rw [List.mem_singleton] at h3
      rw [h3] at hk
      exact absurd rfl hk
  obtain ⟨h2, h3, h4⟩ := hs _ hm
  have h5 := tok_in h2 h3
  exact ⟨h1, h2, h3, h5.2.1, h5.2.2⟩
end Go.Proofs.YtlhlpamciafocaaGreatDoor.L
namespace Go.Proofs.YtlhlpamciafocaaGreatDoor.L
open Go.RowKit
set_option linter.unusedVariables false
set_option linter.unusedSimpArgs false
/-- No fault without a number. -/
def Nz {α : Type} (r : PRes α) : Prop := ∀ c x, r = .error (c, x) → c ≠ 0
theorem nz_ok {α : Type} (q : α × PS) : Nz (.ok q : PRes α) := fun c x h => by cases h
theorem nz_err {α : Type} {c : Nat} {x : Int} (h : c ≠ 0) : Nz (.error (c, x) : PRes α) := fun c' x' e => by
  injection e with e
  injection e with e1 e2
  rw [← e1]; exact h
theorem nz_put (s : PS) (p : Pt) (x : Int) : Nz (putP s p x) := nz_ok _
theorem nz_ref {α : Type} (T : List Tok) (s : PS) : Nz (.error (rfE T s) : PRes α) := by
  refine nz_err (c := (rfE T s).1) (x := (rfE T s).2) ?_
  unfold rfE
  simp only
  split <;> decide
theorem nz_bnd {α β : Type} {p : PRes α} {f : α → PS → PRes β} (hp : Nz p) (hf : ∀ a s1, p = .ok (a, s1) → Nz (f a s1)) : Nz (bnd p f) := by
  cases p with
  | error q =>
    obtain ⟨c, x⟩ := q
    rw [bnd_bad]
    exact nz_err (hp c x rfl)
  | ok q =>
    obtain ⟨a, s1⟩ := q
    rw [bnd_ok]
    exact hf a s1 rfl
theorem nz_ite {α : Type} {c : Prop} [Decidable c] {p q : PRes α} (hp : c → Nz p) (hq : ¬ c → Nz q) : Nz (if c then p else q) := by
  by_cases h : c
  · rw [if_pos h]; exact hp h
  · rw [if_neg h]; exact hq h
theorem open_kind {T : List Tok} {s s' : PS} {m : List UInt8} {u : Unit} (h : openP T s m = .ok (u, s')) : (tk T s.nx).kind ≠ 0 := by
  unfold openP at h
  split at h
  · rename_i h1
    exact isM_kind h1
  · cases h
theorem nz_mark (T : List Tok) (s : PS) (m : List UInt8) : Nz (markP T s m) := nz_ite (fun _ => nz_ok _) (fun _ => nz_ref T s)
theorem nz_text (T : List Tok) (s : PS) : Nz (textP T s) := nz_ite (fun _ => nz_ok _) (fun _ => nz_ref T s)
theorem nz_open (T : List Tok) (s : PS) (m : List UInt8) : Nz (openP T s m) := nz_ite (fun _ => nz_ite (fun _ => nz_err (by decide)) (fun _ => nz_ok _)) (fun _ => nz_ref T s)
theorem nz_field (T : List Tok) (s : PS) : Nz (fieldP T s) := nz_ite (fun _ => nz_ref T s) (fun _ => nz_ok _)
theorem nz_el (T : List Tok) (s : PS) : Nz (elP T s) := nz_ite (fun _ => nz_put _ _ _) (fun _ => nz_put _ _ _)
theorem nz_mem (T : List Tok) (s : PS) (n : Nat) : Nz (memP T s n) := nz_ite (fun _ => nz_ite (fun _ => nz_err (by decide)) (fun _ => nz_el T s)) (fun _ => nz_ref T s)
theorem nz_mems (T : List Tok) : ∀ (n : Nat) (ks : List Int) (s : PS), Nz (memsP T n ks s)
  | 0, ks, s => nz_ok _
  | n + 1, ks, s => nz_ite (fun _ => nz_bnd (nz_mem _ _ _) fun k s1 _ => nz_mems T n _ s1) (fun _ => nz_ok _)
theorem nz_set (T : List Tok) (s : PS) : Nz (setP T s) :=
  nz_bnd (nz_mark _ _ _) fun _ s1 _ => nz_bnd (nz_ite (fun _ => nz_ok _) (fun _ => nz_bnd (nz_mem _ _ _) fun k s2 _ => nz_ok _)) fun ks s2 _ => nz_bnd (nz_mems _ _ _ _) fun ks s3 _ => nz_bnd (nz_mark _ _ _) fun _ s4 _ => nz_put _ _ _
theorem nz_named (T : List Tok) (s : PS) : Nz (namedP T s) := nz_bnd (nz_mark _ _ _) fun _ s1 _ => nz_bnd (nz_text _ _) fun t s2 _ => nz_bnd (nz_mark _ _ _) fun _ s3 _ => nz_ok _
theorem nz_who (T : List Tok) (s : PS) (side : Int) : Nz (whoP T s side) :=
  nz_ite (fun _ => nz_bnd (nz_text _ _) fun t s1 _ => nz_bnd (nz_mark _ _ _) fun _ s2 _ => nz_put _ _ _) (fun _ => nz_bnd (nz_mark _ _ _) fun _ s1 _ => nz_bnd (nz_field _ _) fun k s2 _ => nz_ite (fun _ => nz_bnd (nz_named _ _) fun t s3 _ => nz_put _ _ _) (fun _ => nz_put _ _ _))
theorem nz_tol (T : List Tok) (s : PS) : Nz (tolP T s) := nz_bnd (nz_named _ _) fun t s1 _ => nz_put _ _ _
section
variable {T : List Tok} {one : PS → PRes Int} {lo : Nat}
theorem nz_rows (h : ∀ s, lo ≤ s.nx → Nz (one s)) (hg : Gone one) (m : List UInt8) : ∀ (n : Nat) (ks : List Int) (s : PS), lo ≤ s.nx → Nz (rowsP T one m n ks s)
  | 0, ks, s, hl => nz_ok _
  | n + 1, ks, s, hl => nz_ite (fun _ => nz_bnd (h _ (Nat.le_trans hl (Nat.le_succ _))) fun k s1 e => nz_rows h hg m n _ s1 (by have := (hg _ _ _ e).nx; simp only [adv] at this; omega)) (fun _ => nz_ok _)
theorem nz_row (h : ∀ s, lo ≤ s.nx → Nz (one s)) (hg : Gone one) (kd : Int) (m : List UInt8) (s : PS) (hl : lo ≤ s.nx) : Nz (rowP T one kd m s) :=
  nz_bnd (h s hl) fun k0 s1 e => nz_bnd (nz_rows h hg m _ _ s1 (by have := (hg _ _ _ e).nx; omega)) fun ks s2 _ => nz_ite (fun _ => nz_ok _) (fun _ => nz_put _ _ _)
theorem nz_with {α : Type} {inner : PS → PRes α} (s : PS) (h : ∀ s1, s.nx + 1 ≤ s1.nx → (tk T s.nx).kind ≠ 0 → Nz (inner s1)) : Nz (withP T inner s) :=
  nz_bnd (nz_open _ _ _) fun _ s1 e => nz_bnd (h s1 (by have := (gn_open e).nx; omega) (open_kind e)) fun k s2 _ => nz_bnd (nz_mark _ _ _) fun _ s3 _ => nz_ok _
theorem nz_sel (s : PS) (h : ∀ s1, s.nx + 1 ≤ s1.nx → Nz (one s1)) (kd : Int) : Nz (selP T one kd s) :=
  nz_bnd (nz_with (adv s) fun s1 h1 _ => nz_bnd (nz_text _ _) fun t s2 e2 => nz_bnd (nz_mark _ _ _) fun _ s3 e3 => nz_bnd (h s3 (by have h4 := (gn_text e2).nx; have h5 := (gn_mark e3).nx; simp only [adv] at h1; omega)) fun k s4 _ => nz_ok _) fun q s5 _ => nz_put _ _ _
theorem nz_neg (s : PS) (h : ∀ s1, s.nx + 1 ≤ s1.nx → (tk T s.nx).kind ≠ 0 → Nz (one s1)) : Nz (negP T one s) :=
  nz_bnd (nz_open _ _ _) fun _ s1 e => nz_bnd (h s1 (by have := (gn_open e).nx; omega) (open_kind e)) fun k s2 _ => nz_put _ _ _
theorem nz_comp (s : PS) (hg : Gone one) (h : ∀ s1, s.nx ≤ s1.nx → Nz (one s1)) : Nz (compP T one s) := by
  refine nz_bnd (h s (Nat.le_refl _)) fun l s1 e => ?_
  cases betO (tk T s1.nx) with
  | none => exact nz_ref T s1
  | some q => exact nz_bnd (h _ (by have := (hg _ _ _ e).nx; simp only [adv]; omega)) fun r s2 _ => nz_put _ _ _
end
theorem nz_gr {T : List Tok} : ∀ (n : Nat) (g : Gr) (s : PS), 4 * (T.length - s.nx) + lvl g < n → Nz (gr T n g s)
  | 0, g, s, h => absurd h (Nat.not_lt_zero _)
  | n + 1, .expr, s, h => nz_row (lo := s.nx) (fun s1 h1 => nz_gr n .conj s1 (by simp only [lvl] at *; omega)) (gn_gr n .conj) 5 _ s (Nat.le_refl _)
  | n + 1, .conj, s, h => nz_row (lo := s.nx) (fun s1 h1 => nz_gr n .unit s1 (by simp only [lvl] at *; omega)) (gn_gr n .unit) 4 _ s (Nat.le_refl _)
  | n + 1, .unit, s, h => by
    have hb : (tk T s.nx).kind ≠ 0 → s.nx < T.length := fun hk => Classical.byContradiction fun hn => hk (tk_out hn)
    have ex : ∀ s1, s.nx + 1 ≤ s1.nx → (tk T s.nx).kind ≠ 0 → Nz (gr T n .expr s1) := fun s1 h1 hk => nz_gr n .expr s1 (by have := hb hk; simp only [lvl] at *; omega)
    have te : ∀ s1, s.nx ≤ s1.nx → Nz (gr T n .term s1) := fun s1 h1 => nz_gr n .term s1 (by simp only [lvl] at *; omega)
    show Nz (unitP T (gr T n .expr) (gr T n .unit) (gr T n .term) s)
    refine nz_ite (fun _ => nz_neg s fun s1 h1 hk => nz_gr n .unit s1 (by have := hb hk; simp only [lvl] at *; omega)) (fun _ => nz_ite (fun _ => nz_with s ex) (fun _ => ?_))
    refine nz_ite (fun h3 => ?_) (fun _ => nz_comp s (gn_gr n .term) te)
    have hk : (tk T s.nx).kind ≠ 0 := by rw [h3]; decide
    exact nz_ite (fun _ => nz_put _ _ _) (fun _ => nz_ite (fun _ => nz_put _ _ _) (fun _ => nz_ite (fun _ => nz_sel s (fun s1 h1 => ex s1 h1 hk) 8) (fun _ => nz_ite (fun _ => nz_sel s (fun s1 h1 => ex s1 h1 hk) 9) (fun _ => nz_ite (fun _ => nz_tol _ _) (fun _ => nz_comp s (gn_gr n .term) te)))))
  | n + 1, .term, s, h => by
    have hb : (tk T s.nx).kind ≠ 0 → s.nx < T.length := fun hk => Classical.byContradiction fun hn => hk (tk_out hn)
    show Nz (termP T (gr T n .expr) (gr T n .term) s)
    refine nz_ite (fun _ => nz_el _ _) (fun _ => nz_ite (fun _ => nz_set _ _) (fun _ => nz_ite (fun h3 => ?_) (fun _ => nz_ref _ _)))
    have hk : (tk T s.nx).kind ≠ 0 := by rw [h3]; decide
    have hl := hb hk
    have ex : ∀ s1, s.nx + 1 ≤ s1.nx → Nz (gr T n .expr s1) := fun s1 h1 => nz_gr n .expr s1 (by simp only [lvl] at *; omega)
    have te : ∀ s1, s.nx + 1 ≤ s1.nx → Nz (gr T n .term s1) := fun s1 h1 => nz_gr n .term s1 (by simp only [lvl] at *; omega)
    exact nz_ite (fun _ => nz_who _ _ _) (fun _ => nz_ite (fun _ => nz_who _ _ _) (fun _ => nz_ite (fun _ => nz_who _ _ _) (fun _ => nz_ite (fun _ => nz_bnd (nz_with (adv s) fun s1 h1 _ => te s1 (by simp only [adv] at h1; omega)) fun k s1 _ => nz_put _ _ _) (fun _ => nz_ite (fun _ => nz_sel s ex 20) (fun _ => nz_ref _ _)))))
theorem whole_code {T : List Tok} {c : Nat} {x : Int} (h : wholeP T 16392 = .error (c, x)) (h0 : 0 < T.length) (hl : T.length ≤ 4097) : c ≠ 0 := by
  have : Nz (wholeP T 16392) := nz_bnd (nz_gr _ _ _ (by simp only [lvl]; omega)) fun k s _ => nz_ite (fun _ => nz_ite (fun _ => nz_err (by decide)) (fun _ => nz_ok _)) (fun _ => nz_ref _ _)
  exact this c x h
end Go.Proofs.YtlhlpamciafocaaGreatDoor.L
namespace Go.Proofs.YtlhlpamciafocaaGreatDoor.L
open Go.RowKit
set_option linter.unusedVariables false
set_option linter.unusedSimpArgs false
set_option maxHeartbeats 4000000 in
set_option maxRecDepth 100000 in
theorem same_parts (a b : Option Addr) (T : List Pt) (ca cb : Nat) (w : World) (hA : PL w a T) (hB : PL w b T) (hn : T.length ≤ 1000) (hk : ∀ j, j < T.length → (pt T j).kids.length ≤ 1000000) :
    Calls Tryz.prog 17 #[.agg #[.slice a T.length ca], .agg #[.slice b T.length cb]] w fun e w' => e = .returned (.bool true) ∧ Below w.heap.size w w' := by
  obtain ⟨L, hL⟩ : ∃ L, L = T.length := ⟨_, rfl⟩
  have HA := hid hA
  have HB := hid hB
  have HL := hid hL
  have HK := hid hk
  rw [← hL] at hn ⊢
  have hLm : L ≤ maxLen := by unfold maxLen; omega
  have e0 : ((L : Int) != (L : Int)) = false := by simp
  clear hA hB hL hk
  have HB2 := hid (show Below w.heap.size w ((w.alloc (.cells #[.slice a L ca] 24)).alloc (.cells #[.slice b L cb] 24)) from (belowA w _).trans ((belowA _ _).mono (belowA w _).size))
  have HX1 := hid (show ((w.alloc (.cells #[.slice a L ca] 24)).alloc (.cells #[.slice b L cb] 24)).heap[w.heap.size]? = some (.cells #[.slice a L ca] 24 (0, 0)) from ((belowA (w.alloc (.cells #[.slice a L ca] 24)) _).block _ (by simp)).trans (heap_alloc_new w _))
  have HX2 := hid (show ((w.alloc (.cells #[.slice a L ca] 24)).alloc (.cells #[.slice b L cb] 24)).heap[w.heap.size + 1]? = some (.cells #[.slice b L cb] 24 (0, 0)) from (by have h1 := heap_alloc_new (w.alloc (.cells #[.slice a L ca] 24)) (.cells #[.slice b L cb] 24); rw [World.size_alloc] at h1; exact h1))
  go_enter Tryz.func17, Tryz.ntmps17
  go_upto_region 1 with fail
  generalize ((w.alloc (.cells #[.slice a L ca] 24)).alloc (.cells #[.slice b L cb] 24)) = X at *
  have HPA := hid (HA.out.low HB2.out)
  have HPB := hid (HB.out.low HB2.out)
  generalize hb0 : w.heap.size = b0 at *
  have HB0 := hid hb0
  clear hb0
  have x1 : X.cell? ⟨b0, 0, none⟩ = some (.slice a L ca) := cell_of_row _ _ 0 _ _ _ HX1.out
  have x2 : X.cell? ⟨b0 + 1, 0, none⟩ = some (.slice b L cb) := cell_of_row _ _ 0 _ _ _ HX2.out
  go_wp2_with fail
  clear x1 x2
  go_loopw [5] (fun i wr => ∃ k : Nat, k ≤ L ∧ i = .int .i64 k ∧ Hid (Below X.heap.size X wr)) (fun i _ => L - (intOf i).toNat)
  case atStart => exact ⟨0, Nat.zero_le _, rfl, hid (Below.refl _ _)⟩
  case round =>
    obtain ⟨k, hk, rfl, HBW⟩ := hrel
    have x1 : wr.cell? ⟨b0, 0, none⟩ = some (.slice a L ca) := (HBW.out.cell (p := ⟨b0, 0, none⟩) (lt_blk HX1.out)).trans (cell_of_row _ _ 0 _ _ _ HX1.out)
    by_cases hlt : k < L
    · rcases HPA.out.low HBW.out with h9 | ⟨ga, oa, rfl, hga, hca⟩
      · have := HL.out; omega
      obtain ⟨ka, kc, q0, q1, q2, q3, rka⟩ := hca k (by rw [← HL.out]; exact hlt)
      rcases HPB.out.low HBW.out with h9 | ⟨gb, ob, rfl, hgb, hcb⟩
      · have := HL.out; omega
      obtain ⟨la, lc, r0, r1, r2, r3, rkb⟩ := hcb k (by rw [← HL.out]; exact hlt)
      have hkn := HK.out k (by rw [← HL.out]; exact hlt)
      clear hca hcb
      generalize (pt T k).kind = kd at *
      generalize (pt T k).text = tx at *
      generalize (pt T k).num = nu at *
      generalize (pt T k).kids = kids at *
      obtain ⟨kn, hkl⟩ : ∃ kn, kn = kids.length := ⟨_, rfl⟩
      rw [← hkl] at q3 r3 hkn
      have HKL := hid hkl
      have RKA := hid rka
      have RKB := hid rkb
      clear hkl rka rkb
      have g1 : (k : Int) < (L : Int) := by omega
      have g2 : (0 : Int) ≤ (k : Int) := by omega
      have hkm : kn ≤ maxLen := by unfold maxLen; omega
      go_upto_region 7 with fail
      have HY1 := hid (heap_alloc_new wr (.cells #[.int .i64 kd, .string tx, .int .i64 nu, .slice ka kn kc] 50))
      have HC1 := hid (belowA wr (.cells #[.int .i64 kd, .string tx, .int .i64 nu, .slice ka kn kc] 50))
      have BX1 := hid (HBW.out.trans (HC1.out.mono HBW.out.size))
      have RKA1 := hid (RKA.out.low HC1.out (Nat.le_refl _))
      have RKB1 := hid (RKB.out.low HC1.out (Nat.le_refl _))
      replace r0 := (HC1.out.cell (p := ⟨gb, ob + k * 4, none⟩) hgb).trans r0
      replace r1 := (HC1.out.cell (p := ⟨gb, ob + k * 4 + 1, none⟩) hgb).trans r1
      replace r2 := (HC1.out.cell (p := ⟨gb, ob + k * 4 + 2, none⟩) hgb).trans r2
      replace r3 := (HC1.out.cell (p := ⟨gb, ob + k * 4 + 3, none⟩) hgb).trans r3
      generalize wr.alloc (.cells #[.int .i64 kd, .string tx, .int .i64 nu, .slice ka kn kc] 50) = V1 at *
      generalize wr.heap.size = c1 at *
      clear x1 q0 q1 q2 q3
      have x2 : V1.cell? ⟨b0 + 1, 0, none⟩ = some (.slice (some ⟨gb, ob, none⟩) L cb) := (BX1.out.cell (p := ⟨b0 + 1, 0, none⟩) (lt_blk HX2.out)).trans (cell_of_row _ _ 0 _ _ _ HX2.out)
      go_upto_region 8 with fail
      have HY2 := hid (heap_alloc_new V1 (.cells #[.int .i64 kd, .string tx, .int .i64 nu, .slice la kn lc] 50))
      have HC2 := hid (belowA V1 (.cells #[.int .i64 kd, .string tx, .int .i64 nu, .slice la kn lc] 50))
      have BX2 := hid (BX1.out.trans (HC2.out.mono BX1.out.size))
      have RKA2 := hid (RKA1.out.low HC2.out (Nat.le_refl _))
      have RKB2 := hid (RKB1.out.low HC2.out (Nat.le_refl _))
      have HY12 := hid ((HC2.out.block _ (lt_blk HY1.out)).trans HY1.out)
      generalize V1.alloc (.cells #[.int .i64 kd, .string tx, .int .i64 nu, .slice la kn lc] 50) = V2 at *
      generalize V1.heap.size = c2 at *
      clear x2 r0 r1 r2 r3
      have y0 : V2.cell? ⟨c1, 0, none⟩ = some (.int .i64 kd) := cell_of_row _ _ 0 _ _ _ HY12.out
      have y1 : V2.cell? ⟨c1, 1, none⟩ = some (.string tx) := cell_of_row _ _ 1 _ _ _ HY12.out
      have y2 : V2.cell? ⟨c1, 2, none⟩ = some (.int .i64 nu) := cell_of_row _ _ 2 _ _ _ HY12.out
      have y3 : V2.cell? ⟨c1, 3, none⟩ = some (.slice ka kn kc) := cell_of_row _ _ 3 _ _ _ HY12.out
      have z0 : V2.cell? ⟨c2, 0, none⟩ = some (.int .i64 kd) := cell_of_row _ _ 0 _ _ _ HY2.out
      have z1 : V2.cell? ⟨c2, 1, none⟩ = some (.string tx) := cell_of_row _ _ 1 _ _ _ HY2.out
      have z2 : V2.cell? ⟨c2, 2, none⟩ = some (.int .i64 nu) := cell_of_row _ _ 2 _ _ _ HY2.out
      have z3 : V2.cell? ⟨c2, 3, none⟩ = some (.slice la kn lc) := cell_of_row _ _ 3 _ _ _ HY2.out
      have f1 : (kd != kd) = false := by simp
      have f2 : (tx.toList != tx.toList) = false := by simp
      have f3 : (nu != nu) = false := by simp
      have f4 : ((kn : Int) != (kn : Int)) = false := by simp
      go_wp2_with fail
      clear y0 y1 y2 y3 z0 z1 z2 z3
      go_loopw [8] (fun i wr2 => ∃ q : Nat, q ≤ kn ∧ i = .int .i64 q ∧ Hid (∃ m, wr2 = V2.drewN m)) (fun i _ => kn - (intOf i).toNat)
      case atStart => exact ⟨0, Nat.zero_le _, rfl, hid ⟨0, rfl⟩⟩
      case round =>
        obtain ⟨q, hq, rfl, HM⟩ := hrel
        obtain ⟨m0, hm0⟩ := HM.out
        have HMM := hid hm0
        clear HM
        have y3 : wr.cell? ⟨c1, 3, none⟩ = some (.slice ka kn kc) := by rw [hm0]; exact cell_of_row _ _ 3 _ _ _ HY12.out
        have z3 : wr.cell? ⟨c2, 3, none⟩ = some (.slice la kn lc) := by rw [hm0]; exact cell_of_row _ _ 3 _ _ _ HY2.out
        by_cases hqn : q < kn
        · rcases RKA2.out with h9 | ⟨ha, pa, rfl, hal, hac⟩
          · have := HKL.out; omega
          rcases RKB2.out with h9 | ⟨hb, pb2, rfl, hbl, hbc⟩
          · have := HKL.out; omega
          have p0 := hac q (by rw [← HKL.out]; exact hqn)
          have p1 := hbc q (by rw [← HKL.out]; exact hqn)
          have p0 : wr.cell? ⟨ha, pa + q, none⟩ = some (.int .i64 (kids.getD q 0)) := by rw [hm0]; exact p0
          have p1 : wr.cell? ⟨hb, pb2 + q, none⟩ = some (.int .i64 (kids.getD q 0)) := by rw [hm0]; exact p1
          clear hac hbc hm0
          generalize kids.getD q 0 = x at *
          have g3 : (q : Int) < (kn : Int) := by omega
          have g4 : (0 : Int) ≤ (q : Int) := by omega
          have g5 : (q : Int) ≤ 1000000 := by omega
          have f5 : (x != x) = false := by simp
          go_wp2_with fail
          go_quiet (fail)
          go_wp2_with fail
          refine ⟨⟨q + 1, by omega, by go_num, hid ⟨m0 + nq, by rw [HMM.out, World.drewN_drewN]⟩⟩, by simp [intOf]; omega⟩
        · obtain rfl : q = kn := by omega
          clear hm0
          go_wp2_with fail
          refine ⟨⟨k + 1, by omega, by go_num, hid (by rw [HMM.out]; exact below_drewN BX2.out _)⟩, by simp [intOf]; omega⟩
    · obtain rfl : k = L := by omega
      go_wp2_with fail
      go_ret
      exact ⟨rfl, by rw [HB0.out]; exact HB2.out.trans (HBW.out.mono (by have := lt_blk HX1.out; omega))⟩
end Go.Proofs.YtlhlpamciafocaaGreatDoor.L
