import Derived.Test.YtlhlpamciafocaaGreatDoorMgAX
import Derived.Sort.QuietIn
import Derived.RangeFuncCalls
import Derived.Test.YtlhlpamciafocaaGreatDoorMgAO
import Derived.Test.YtlhlpamciafocaaGreatDoorMgAD
import Derived.Test.YtlhlpamciafocaaGreatDoorMgAR
namespace Go.Proofs.YtlhlpamciafocaaGreatDoor.L
open Go.RowKit Go.Shelf
set_option linter.unusedVariables false
set_option linter.unusedSimpArgs false
section
variable {T : List Tok}
theorem bet_v {t : Tok} {kd nu : Int} (h : betO t = some (kd, nu)) : (kd = 6 ∧ 1 ≤ nu ∧ nu ≤ 6) ∨ (kd = 7 ∧ (nu = 0 ∨ nu = 1)) := by
  unfold betO at h
  split at h
  · split at h
    · cases h
    · rename_i hc
      injection h with h
      injection h with h1 h2
      left
      refine ⟨h1.symm, ?_⟩
      rw [← h2]
      unfold cmpO at hc ⊢
      repeat' split
      all_goals first | omega | simp_all
  · split at h
    · split at h
      · injection h with h
        injection h with h1 h2
        exact Or.inr ⟨h1.symm, Or.inl h2.symm⟩
      · split at h
        · injection h with h
          injection h with h1 h2
          exact Or.inr ⟨h1.symm, Or.inr h2.symm⟩
        · cases h
    · cases h
theorem comp_v {te : PS → PRes Int} (h : Vg .term te) (hs : Sn te) : Vg .unit (compP T te) := by
  intro s k s' ht hn e
  unfold compP at e
  obtain ⟨l, s1, e1, e⟩ := bnd_inv e
  split at e
  · cases e
  · rename_i kd nu hb
    have hb := bet_v hb
    obtain ⟨r, s2, e2, e⟩ := bnd_inv e
    have n1 := hs _ _ _ e1
    obtain ⟨y1, v1⟩ := h s l s1 ht hn e1
    obtain ⟨y2, v2⟩ := h (adv s1) r s2 v1.tb (by show s1.ns ≤ 32; omega) e2
    obtain ⟨Q1, q1⟩ := v1.ext
    obtain ⟨Q2, q2⟩ := v2.ext
    have q2 : s2.ps = s1.ps ++ Q2 := q2
    have hbt : ∀ q, btw kd q = 0 := fun q => by rcases hb with ⟨rfl, _⟩ | ⟨rfl, _⟩ <;> simp [btw, opB, brB]
    have hcl : ∀ q, clG .term q → clsB kd q = true := fun q hq => by
      have hq : 11 ≤ q ∧ q ≤ 20 := hq
      rcases hb with ⟨rfl, _⟩ | ⟨rfl, _⟩ <;> simp [clsB] <;> omega
    have k1 : Kd s1.ps s.ns kd [l] := kd_one v1 fun q hq => ⟨hcl q hq, by rw [hbt]; omega⟩
    have k2 : Kd s2.ps s.ns kd [r] := kd_one v2 fun q hq => ⟨hcl q hq, by rw [hbt]; show (s.ns : Int) + 0 ≤ (s1.ns : Int) + _; omega⟩
    refine put_v (g := .unit) (s0 := s) e ⟨Q1 ++ Q2, by rw [q2, q1, List.append_assoc]⟩ hn v2.tb ⟨?_, ?_, ?_, ?_⟩ ?_ ?_ ?_
    · rcases hb with ⟨rfl, _⟩ | ⟨rfl, _⟩ <;> simp [kidsB]
    · show 1 ≤ kd; omega
    · show kd ≤ 20; omega
    · rcases hb with ⟨rfl, hz⟩ | ⟨rfl, hz⟩
      · simp [holdsB, ByteArray.toList_eq]; omega
      · simp [holdsB, ByteArray.toList_eq]; exact hz
    · show Kd s2.ps s.ns kd ([l] ++ [r])
      exact Kd.app (by rw [q2]; exact k1.ext Q2) k2
    · show 1 ≤ kd ∧ kd ≤ 10; omega
    · rcases hb with ⟨rfl, _⟩ | ⟨rfl, _⟩ <;> rfl
theorem rows_v {g1 : Gr} {one : PS → PRes Int} {m : List UInt8} {kd : Int} {ns : Nat} (h : Vg g1 one) (hs : Sn one) (hn : ns ≤ 32) (hcl : ∀ q, clG g1 q → clsB kd q = true ∧ (ns : Int) + btw kd q ≤ (ns : Int) + (exG g1 q : Int)) : ∀ (n : Nat) {ks ks' : List Int} {s s' : PS}, Tb s.ps → s.ns = ns → Kd s.ps ns kd ks → rowsP T one m n ks s = .ok (ks', s') → (∃ Q, s'.ps = s.ps ++ Q) ∧ Tb s'.ps ∧ Kd s'.ps ns kd ks' ∧ ((ks' = ks ∧ s' = s) ∨ ks.length < ks'.length)
  | 0, ks, ks', s, s', ht, hns, hk, e => by
    injection e with e
    injection e with e1 e2
    subst e1 e2
    exact ⟨⟨[], by simp⟩, ht, hk, Or.inl ⟨rfl, rfl⟩⟩
  | n + 1, ks, ks', s, s', ht, hns, hk, e => by
    unfold rowsP at e
    split at e
    · obtain ⟨k, s1, e1, e2⟩ := bnd_inv e
      obtain ⟨y, v⟩ := h (adv s) k s1 ht (by show s.ns ≤ 32; omega) e1
      have n1 : s1.ns = (adv s).ns := hs _ _ _ e1
      have n1 : s1.ns = s.ns := n1
      obtain ⟨Q, hQ⟩ := v.ext
      have hQ' : s1.ps = s.ps ++ Q := hQ
      have k1 : Kd s1.ps ns kd [k] := kd_one v fun q hq => ⟨(hcl q hq).1, by have := (hcl q hq).2; show _ ≤ ((s.ns : Nat) : Int) + _; omega⟩
      obtain ⟨⟨Q2, hQ2⟩, t2, k2, hl⟩ := rows_v h hs hn hcl n v.tb (by omega) (Kd.app (by rw [hQ']; exact hk.ext Q) k1) e2
      refine ⟨⟨Q ++ Q2, by rw [hQ2, hQ', List.append_assoc]⟩, t2, k2, Or.inr ?_⟩
      rcases hl with ⟨rfl, _⟩ | hl
      · simp
      · simp at hl; omega
    · injection e with e
      injection e with e1 e2
      subst e1 e2
      exact ⟨⟨[], by simp⟩, ht, hk, Or.inl ⟨rfl, rfl⟩⟩
theorem row_v {g g1 : Gr} {one : PS → PRes Int} {m : List UInt8} {kd : Int} (h : Vg g1 one) (hs : Sn one) (hk : (kd = 4 ∧ g1 = .unit ∧ g = .conj) ∨ (kd = 5 ∧ g1 = .conj ∧ g = .expr)) : Vg g (rowP T one kd m) := by
  intro s k s' ht hn e
  unfold rowP at e
  obtain ⟨k0, s1, e1, e⟩ := bnd_inv e
  obtain ⟨ks, s2, e2, e⟩ := bnd_inv e
  obtain ⟨y, v⟩ := h s k0 s1 ht hn e1
  have n1 := hs _ _ _ e1
  have hcl : ∀ q, clG g1 q → clsB kd q = true ∧ (s.ns : Int) + btw kd q ≤ (s.ns : Int) + (exG g1 q : Int) := fun q hq => by
    rcases hk with ⟨rfl, rfl, _⟩ | ⟨rfl, rfl, _⟩
    · have hq : 1 ≤ q ∧ q ≤ 10 := hq
      exact ⟨by simp [clsB] <;> omega, by rw [br_unit.2.1]; exact Int.le_refl _⟩
    · have hq : 1 ≤ q ∧ q ≤ 10 := hq
      exact ⟨by simp [clsB] <;> omega, by rw [br_unit.2.2]; exact Int.le_refl _⟩
  obtain ⟨⟨Q2, hQ2⟩, t2, k2, hl⟩ := rows_v h hs hn hcl 4097 v.tb n1 (kd_one v hcl) e2
  split at e
  · rename_i h1
    injection e with e
    injection e with ea eb
    subst ea
    subst eb
    rcases hl with ⟨_, rfl⟩ | hl
    · refine ⟨y, v.up fun q hq => ?_⟩
      rcases hk with ⟨rfl, rfl, rfl⟩ | ⟨rfl, rfl, rfl⟩
      · refine ⟨hq, ?_⟩
        show s.ns + (if q = 5 then 1 else 0) ≤ s.ns + (if q = 4 ∨ q = 5 then 1 else 0)
        split <;> split <;> omega
      · refine ⟨hq, ?_⟩
        show s.ns + 0 ≤ _
        omega
    · rw [h1] at hl
      simp at hl
  · rename_i h1
    obtain ⟨Q, hQ⟩ := v.ext
    have hlen : 2 ≤ ks.length := by
      rcases hl with ⟨rfl, _⟩ | hl
      · exact absurd rfl h1
      · simp at hl; omega
    refine put_v (g := g) (s0 := s) e ⟨Q ++ Q2, by rw [hQ2, hQ, List.append_assoc]⟩ hn t2 ⟨?_, ?_, ?_, ?_⟩ k2 ?_ ?_
    · rcases hk with ⟨rfl, _⟩ | ⟨rfl, _⟩ <;> simp [kidsB] <;> omega
    · show 1 ≤ kd; omega
    · show kd ≤ 20; omega
    · rcases hk with ⟨rfl, _⟩ | ⟨rfl, _⟩ <;> simp [holdsB, ByteArray.toList_eq]
    · rcases hk with ⟨rfl, _, rfl⟩ | ⟨rfl, _, rfl⟩ <;> simp [clG]
    · rcases hk with ⟨rfl, _, rfl⟩ | ⟨rfl, _, rfl⟩ <;> rfl
theorem atom_v (hT : Txt T) {ex te : PS → PRes Int} (h1 : Vg .expr ex) (h2 : Vg .term te) (hs : Sn te) : Vg .unit (atomP T ex te) := by
  intro s k s' ht hn e
  unfold atomP at e
  split at e
  · split at e
    · exact const_v (Or.inl rfl) s k s' ht hn e
    · split at e
      · exact const_v (Or.inr rfl) s k s' ht hn e
      · split at e
        · exact sel_v hT h1 (Or.inl ⟨rfl, rfl⟩) s k s' ht hn e
        · split at e
          · exact sel_v hT h1 (Or.inr (Or.inl ⟨rfl, rfl⟩)) s k s' ht hn e
          · split at e
            · exact tol_v hT s k s' ht hn e
            · exact comp_v h2 hs s k s' ht hn e
  · exact comp_v h2 hs s k s' ht hn e
theorem word_v (hT : Txt T) {ex te : PS → PRes Int} (h1 : Vg .expr ex) (h2 : Vg .term te) : Vg .term (wordP T ex te) := by
  intro s k s' ht hn e
  unfold wordP at e
  split at e
  · exact who_v hT (by omega) s k s' ht hn e
  · split at e
    · exact who_v hT (by omega) s k s' ht hn e
    · split at e
      · exact who_v hT (by omega) s k s' ht hn e
      · split at e
        · exact int_v h2 s k s' ht hn e
        · split at e
          · exact sel_v hT h1 (Or.inr (Or.inr ⟨rfl, rfl⟩)) s k s' ht hn e
          · cases e
theorem gr_v (hT : Txt T) (hN : Nmt T) : ∀ (n : Nat) (g : Gr), Vg g (gr T n g)
  | 0, g => fun s k s' _ _ e => by cases g <;> cases e
  | n + 1, .expr => row_v (gr_v hT hN n .conj) (sn_gr n .conj) (Or.inr ⟨rfl, rfl, rfl⟩)
  | n + 1, .conj => row_v (gr_v hT hN n .unit) (sn_gr n .unit) (Or.inl ⟨rfl, rfl, rfl⟩)
  | n + 1, .unit => fun s k s' ht hn e => by
    have e : unitP T (gr T n .expr) (gr T n .unit) (gr T n .term) s = .ok (k, s') := e
    unfold unitP at e
    split at e
    · exact neg_v (gr_v hT hN n .unit) s k s' ht hn e
    · split at e
      · exact group_v (gr_v hT hN n .expr) s k s' ht hn e
      · exact atom_v hT (gr_v hT hN n .expr) (gr_v hT hN n .term) (sn_gr n .term) s k s' ht hn e
  | n + 1, .term => fun s k s' ht hn e => by
    have e : termP T (gr T n .expr) (gr T n .term) s = .ok (k, s') := e
    unfold termP at e
    split at e
    · rename_i he
      obtain ⟨y, v, _⟩ := el_v hT hN ht hn he e
      exact ⟨y, v⟩
    · split at e
      · exact set_v hT hN s k s' ht hn e
      · split at e
        · exact word_v hT (gr_v hT hN n .expr) (gr_v hT hN n .term) s k s' ht hn e
        · cases e
end
end Go.Proofs.YtlhlpamciafocaaGreatDoor.L
namespace Go.Proofs.YtlhlpamciafocaaGreatDoor.L
open Go.RowKit Go.Shelf
set_option linter.unusedVariables false
set_option linter.unusedSimpArgs false
theorem val_lt : ∀ (l : List UInt8) (n : Nat), allD l = true → valF n l < (n + 1) * 10 ^ l.length
  | [], n, _ => by simp [valF]
  | c :: r, n, h => by
    unfold allD at h
    simp only [List.all_cons, Bool.and_eq_true] at h
    have hc := (dig_nat c).1 h.1
    have ih := val_lt r (n * 10 + (c.toNat - 48)) h.2
    show valF (n * 10 + (c.toNat - 48)) r < _
    rw [List.length_cons, Nat.pow_succ]
    have h2 : (n * 10 + (c.toNat - 48) + 1) * 10 ^ r.length ≤ ((n + 1) * 10) * 10 ^ r.length := Nat.mul_le_mul_right _ (by omega)
    have h3 : (n + 1) * 10 * 10 ^ r.length = (n + 1) * (10 ^ r.length * 10) := by rw [Nat.mul_assoc, Nat.mul_comm 10]
    omega
theorem num_le {t : ByteArray} {z : Int} (h : numS t = some z) : -999999999999999999 ≤ z ∧ z ≤ 999999999999999999 := by
  unfold numS at h
  split at h
  · split at h
    · cases h
    · injection h with h; omega
  · split at h
    · cases h
    · rename_i hc
      injection h with h
      have h18 : (dgs t).length ≤ 18 := by
        apply Classical.byContradiction
        intro hn
        exact hc (Or.inl (by omega))
      have hall : allD (dgs t) = true := by
        cases hb : allD (dgs t)
        · exact absurd (Or.inr (Or.inr (Or.inr hb))) hc
        · rfl
      have hv := val_lt (dgs t) 0 hall
      have hp : 10 ^ (dgs t).length ≤ 10 ^ 18 := Nat.pow_le_pow_right (by decide) h18
      have h10 : (10 : Nat) ^ 18 = 1000000000000000000 := by decide
      rw [h10] at hp
      split at h <;> omega
theorem tok_num {s : ByteArray} {k : Nat} {t : Tok} (h : tokS s k = .ok t) (hk : t.kind = 2) : -999999999999999999 ≤ t.num ∧ t.num ≤ 999999999999999999 := by
  unfold tokS at h
  split at h
  · cases hx : txS s k (k + 1) [] with
    | bad c a => rw [hx] at h; exact RR.noConfusion h
    | ok l e => rw [hx] at h; rw [← RR.ok.inj h] at hk; exact absurd hk (show ¬ (1 : Nat) = 2 by decide)
  · split at h
    · unfold numTok at h
      split at h
      · cases h
      · rename_i z hz
        rw [← RR.ok.inj h]
        exact num_le hz
    · split at h
      · rw [← RR.ok.inj h] at hk; exact absurd hk (show ¬ (3 : Nat) = 2 by decide)
      · unfold markS at h
        split at h
        · rw [← RR.ok.inj h] at hk; exact absurd hk (show ¬ (4 : Nat) = 2 by decide)
        · split at h
          · rw [← RR.ok.inj h] at hk; exact absurd hk (show ¬ (4 : Nat) = 2 by decide)
          · cases h
theorem scan_nmt {src : ByteArray} (h : (scanT src).2 = none) : Nmt (scanT src).1 := fun i hk => by
  have h1 := tk_spec h (i := i) (by rw [hk]; decide)
  exact tok_num h1.2.2.1 hk
theorem chn_all {P : List Pt} {D : Nat → Prop} (hstep : ∀ y, D y → ∀ x : Nat, (x : Int) ∈ (pt P y).kids → D x) {a b : Nat} {l : List Int} (h : Chn P a l b) : (∀ x : Nat, (x : Int) ∈ l → D x) → ∀ j, a ≤ j → j < b → D j := by
  induction h with
  | nil a => intro _ j h1 h2; omega
  | @cons a y b r h1 h2 ih1 ih2 =>
    intro hD j hj1 hj2
    have hy := hD y (by simp)
    by_cases e1 : j < y
    · exact ih1 (fun x hx => hstep y hy x hx) j hj1 e1
    · by_cases e2 : j = y
      · rw [e2]; exact hy
      · exact ih2 (fun x hx => hD x (by simp [hx])) j (by omega) hj2
/-- EVERY TREE THAT IS READ IS VALID. -/
theorem valid_of {src : ByteArray} {s : PS} (h : parR src = .ok s) : Res s.ps 0 0 := by
  have R := either_ok h
  unfold parR at h
  cases hs : (scanT src).2 with
  | some q => obtain ⟨c, a⟩ := q; rw [hs] at h; cases h
  | none =>
    rw [hs] at h
    simp only at h
    cases hw : wholeP (scanT src).1 16392 with
    | error q => rw [hw] at h; cases h
    | ok q =>
      obtain ⟨u, s1⟩ := q
      rw [hw] at h
      simp only [Except.ok.injEq] at h
      subst h
      unfold wholeP at hw
      obtain ⟨k, s2, e1, e2⟩ := bnd_inv hw
      have g := fo_gr (scan_txt hs) _ _ _ _ _ _ (gs_zero _) e1
      obtain ⟨y, v⟩ := gr_v (scan_txt hs) (scan_nmt hs) 16392 .expr ⟨0, 0, [], []⟩ k s2 (fun j hj => absurd hj (Nat.not_lt_zero _)) (by decide) e1
      split at e2
      · split at e2
        · cases e2
        · injection e2 with e2; injection e2 with _ e2; subst e2
          have hf := fre_last _ g.fr
          have hy : y = s2.ps.length - 1 := by have := v.eq; have := hf.1; omega
          have hok : Ok0 s2.ps := fun j hj => by
            obtain ⟨a1, a2, a3, a4, a5⟩ := v.tb j hj
            have r := R.ok j hj
            exact ⟨r.1, r.2.1, a1, a2, a3, a4, fun x hx => (a5 x hx).2.2⟩
          have hl : ¬ Lst s2.ps := by
            unfold Lst
            have h9 := R.top
            have hc : 1 ≤ (pt s2.ps y).kind ∧ (pt s2.ps y).kind ≤ 10 := v.cl
            rw [hy] at hc
            omega
          have hn0 := nest_root hok (by have := hf.2; omega)
          obtain ⟨hh, H, hle⟩ := v.hg
          have hH := H []
          rw [List.append_nil] at hH
          have hD0 : (∃ h : Nat, Hg s2.ps y h ∧ (nests s2.ps).getD y 0 + (h : Int) ≤ 32) := ⟨hh, hH, by rw [hy, hn0]; have : (0 : Nat) + hh + exG .expr (pt s2.ps y).kind ≤ 32 := hle; omega⟩
          have hstep : ∀ y, (y < s2.ps.length ∧ ∃ h : Nat, Hg s2.ps y h ∧ (nests s2.ps).getD y 0 + (h : Int) ≤ 32) → ∀ x : Nat, (x : Int) ∈ (pt s2.ps y).kids → (x < s2.ps.length ∧ ∃ h : Nat, Hg s2.ps x h ∧ (nests s2.ps).getD x 0 + (h : Int) ≤ 32) := by
            rintro y ⟨hyl, h, hg, hle⟩ x hx
            have hlt := (hok y hyl).lt hx
            cases hg with
            | mk f q1 q2 =>
              have := q1 x hx
              exact ⟨by omega, f x, q2 x hx, by rw [nest_kid hok hx hyl]; omega⟩
          have hc := chn_fre hok s2.ps.length (Nat.le_refl _)
          rw [g.fr] at hc
          have hall := chn_all (D := fun y => y < s2.ps.length ∧ ∃ h : Nat, Hg s2.ps y h ∧ (nests s2.ps).getD y 0 + (h : Int) ≤ 32) hstep hc (fun x hx => by
            have hx : (x : Int) = k := by simpa using hx
            have e : x = y := by have := v.eq; omega
            rw [e]
            exact ⟨v.lt, hD0⟩)
          refine Or.inr (Or.inr ⟨by have := hf.2; omega, R.most, Or.inr (Or.inr ⟨hok, hl, Or.inr ⟨fun j hj => ?_, rfl, rfl⟩⟩)⟩)
          obtain ⟨_, h, _, h9⟩ := hall j (Nat.zero_le _) hj
          omega
      · cases e2
end Go.Proofs.YtlhlpamciafocaaGreatDoor.L
namespace Go.RowKit
open Go
section
variable {n : Nat} {P : Program} {ops : Array Oper} {Q : Exit → Act → World → Prop} {md : Region.Mode} {l : Nat} {F : Fence}
end
end Go.RowKit
namespace Go.Proofs.YtlhlpamciafocaaGreatDoor.L.Sw
open Go.RowKit
set_option linter.unusedVariables false
theorem loadFm (W : World) (N : Nat) (a b c d e f g : Value) (h : W.heap[N]? = some (.cells #[a, b, c, d, e, f, g] 88 (0, 0))) : (loadVar 88 ⟨N, 0, none⟩).run Tryz.prog W = .ok (.agg #[a, b, c, d, e, f, g]) W := by
  have h0 : W.cell? ⟨N, 0, none⟩ = some a := by unfold World.cell?; rw [h]; rfl
  have h1 : W.cell? ⟨N, 1, none⟩ = some b := by unfold World.cell?; rw [h]; rfl
  have h2 : W.cell? ⟨N, 2, none⟩ = some c := by unfold World.cell?; rw [h]; rfl
  have h3 : W.cell? ⟨N, 3, none⟩ = some d := by unfold World.cell?; rw [h]; rfl
  have h4 : W.cell? ⟨N, 4, none⟩ = some e := by unfold World.cell?; rw [h]; rfl
  have h5 : W.cell? ⟨N, 5, none⟩ = some f := by unfold World.cell?; rw [h]; rfl
  have h6 : W.cell? ⟨N, 6, none⟩ = some g := by unfold World.cell?; rw [h]; rfl
  go_simp
theorem res_fm {fn : Func} {p : Tmp} (hr : fn.results = #[.cell p 88]) (tmps : Array Value) (W : World) (N : Nat) (a b c d e f g : Value) (hp : tmps.getD p undef = .pointer (some ⟨N, 0, none⟩)) (h : W.heap[N]? = some (.cells #[a, b, c, d, e, f, g] 88 (0, 0))) :
    (results fn tmps).run Tryz.prog W = .ok (.agg #[a, b, c, d, e, f, g]) W := by
  rw [results_cell1 hr, hp]
  have := loadFm W N a b c d e f g h
  simp [asAddr, this, Result.andThen]
set_option maxHeartbeats 4000000 in
theorem formof_any (k : Int) (w : World) : Calls Tryz.prog 39 #[.int .i64 k] w fun e w' => e = .returned (fmv (fmO k)) ∧ Below w.heap.size w w' := by
  rcases kind_cases k with (rfl | rfl | rfl | rfl | rfl | rfl | rfl | rfl | rfl | rfl | rfl | rfl | rfl | rfl | rfl | rfl | rfl | rfl | rfl | rfl) | h
  case inr =>
    have e1 : (k == 1) = false := by simp; omega
    have e2 : (k == 2) = false := by simp; omega
    have e3 : (k == 3) = false := by simp; omega
    have e4 : (k == 4) = false := by simp; omega
    have e5 : (k == 5) = false := by simp; omega
    have e6 : (k == 6) = false := by simp; omega
    have e7 : (k == 7) = false := by simp; omega
    have e8 : (k == 8) = false := by simp; omega
    have e9 : (k == 9) = false := by simp; omega
    have e10 : (k == 10) = false := by simp; omega
    have e11 : (k == 11) = false := by simp; omega
    have e12 : (k == 12) = false := by simp; omega
    have e13 : (k == 13) = false := by simp; omega
    have e14 : (k == 14) = false := by simp; omega
    have e15 : (k == 15) = false := by simp; omega
    have e16 : (k == 16) = false := by simp; omega
    have e17 : (k == 17) = false := by simp; omega
    have e18 : (k == 18) = false := by simp; omega
    have e19 : (k == 19) = false := by simp; omega
    have e20 : (k == 20) = false := by simp; omega
    have ef : fmO k = ⟨0, 0, 0, 0, false, 0, 0⟩ := by unfold fmO; repeat rw [if_neg (by omega)]
    rw [ef]
    clear ef h
    go_enter Tryz.func39, Tryz.ntmps39
    go_wp2
    (try simp only [Exit.inBlock, Exit.then])
    refine bodyPost_ret (res_fm rfl _ _ w.heap.size _ _ _ _ _ _ _ rfl (heap_alloc_new w _)) rfl ⟨rfl, belowA w _⟩
  all_goals
    go_enter Tryz.func39, Tryz.ntmps39
    go_wp2
    (try simp only [Exit.inBlock, Exit.then])
    refine bodyPost_ret (res_fm rfl _ _ w.heap.size _ _ _ _ _ _ _ rfl (heap_alloc_new w _)) rfl ⟨rfl, belowA w _⟩
end Go.Proofs.YtlhlpamciafocaaGreatDoor.L.Sw
namespace Go.Proofs.YtlhlpamciafocaaGreatDoor.L.Sw
open Go.RowKit
set_option linter.unusedVariables false
set_option maxHeartbeats 4000000 in
theorem fits_any (f : Fm) (kd nu : Int) (tx : ByteArray) (a : Option Addr) (n c : Nat) (w : World) : Calls Tryz.prog 56 #[fmv f, .agg #[.int .i64 kd, .string tx, .int .i64 nu, .slice a n c]] w fun e w' => e = .returned (.bool (fitsB f tx nu n)) ∧ Below w.heap.size w w' := by
  unfold fmv
  go_enter Tryz.func56, Tryz.ntmps56
  go_wp2
  all_goals go_ret
  all_goals refine ⟨ret_bool ?_, (belowA w _).alloc (by simp) _⟩
  all_goals unfold fitsB
  all_goals first | (simp_all; done) | (simp_all; omega) | (rw [Bool.eq_iff_iff]; simp_all; done) | (rw [Bool.eq_iff_iff]; simp_all; omega)
set_option maxHeartbeats 4000000 in
theorem takes_any (f : Fm) (c : Int) (w : World) : Calls Tryz.prog 55 #[fmv f, .int .i64 c] w fun e w' => e = .returned (.bool (takesB f c)) ∧ Below w.heap.size w w' := by
  unfold fmv
  go_enter Tryz.func55, Tryz.ntmps55
  go_wp2
  all_goals go_ret
  all_goals refine ⟨ret_bool ?_, belowA w _⟩
  all_goals unfold takesB
  all_goals first | (simp_all; done) | (simp_all; omega) | (rw [Bool.eq_iff_iff]; simp_all; done) | (rw [Bool.eq_iff_iff]; simp_all; omega)
end Go.Proofs.YtlhlpamciafocaaGreatDoor.L.Sw
namespace Go.Proofs.YtlhlpamciafocaaGreatDoor.L.Sw
open Go.RowKit
set_option linter.unusedVariables false
set_option maxHeartbeats 4000000 in
theorem toodeep_any (k : Int) (w : World) : Calls Tryz.prog 29 #[.int .i64 k] w fun e w' => e = .returned (.bool (decide (32 < k))) ∧ w' = w := by
  go_enter Tryz.func29, Tryz.ntmps29
  go_wp2
  all_goals go_ret
  all_goals refine ⟨ret_bool ?_, rfl⟩
  all_goals first | (simp_all; done) | (simp_all; omega) | (rw [Bool.eq_iff_iff]; simp_all; done) | (rw [Bool.eq_iff_iff]; simp_all; omega)
set_option maxHeartbeats 4000000 in
theorem grouped_any (k n : Int) (w : World) : Calls Tryz.prog 49 #[.int .i64 k, .int .i64 n] w fun e w' => e = .returned (.bool (brB k n)) ∧ w' = w := by
  rcases kind_cases k with (rfl | rfl | rfl | rfl | rfl | rfl | rfl | rfl | rfl | rfl | rfl | rfl | rfl | rfl | rfl | rfl | rfl | rfl | rfl | rfl) | h
  case inr =>
    have e1 : (k == 1) = false := by simp; omega
    have e2 : (k == 2) = false := by simp; omega
    have e3 : (k == 3) = false := by simp; omega
    have e4 : (k == 4) = false := by simp; omega
    have e5 : (k == 5) = false := by simp; omega
    have e6 : (k == 6) = false := by simp; omega
    have e7 : (k == 7) = false := by simp; omega
    have e8 : (k == 8) = false := by simp; omega
    have e9 : (k == 9) = false := by simp; omega
    have e10 : (k == 10) = false := by simp; omega
    have e11 : (k == 11) = false := by simp; omega
    have e12 : (k == 12) = false := by simp; omega
    have e13 : (k == 13) = false := by simp; omega
    have e14 : (k == 14) = false := by simp; omega
    have e15 : (k == 15) = false := by simp; omega
    have e16 : (k == 16) = false := by simp; omega
    have e17 : (k == 17) = false := by simp; omega
    have e18 : (k == 18) = false := by simp; omega
    have e19 : (k == 19) = false := by simp; omega
    have e20 : (k == 20) = false := by simp; omega
    have ef : brB k n = false := by unfold brB; repeat rw [if_neg (by omega)]
    rw [ef]
    clear ef h
    go_enter Tryz.func49, Tryz.ntmps49
    go_wp2
    all_goals go_ret
    all_goals refine ⟨ret_bool ?_, rfl⟩
    all_goals first | (simp_all; done) | (simp_all; omega) | (rw [Bool.eq_iff_iff]; simp_all; done) | (rw [Bool.eq_iff_iff]; simp_all; omega)
  all_goals
    go_enter Tryz.func49, Tryz.ntmps49
    go_wp2
    all_goals go_ret
    all_goals refine ⟨ret_bool ?_, rfl⟩
    all_goals unfold brB
    all_goals first | (simp_all; done) | (simp_all; omega) | (rw [Bool.eq_iff_iff]; simp_all; done) | (rw [Bool.eq_iff_iff]; simp_all; omega)
set_option maxHeartbeats 4000000 in
theorem opens_any (k : Int) (w : World) : Calls Tryz.prog 58 #[.int .i64 k] w fun e w' => e = .returned (.bool (opB k)) ∧ w' = w := by
  rcases kind_cases k with (rfl | rfl | rfl | rfl | rfl | rfl | rfl | rfl | rfl | rfl | rfl | rfl | rfl | rfl | rfl | rfl | rfl | rfl | rfl | rfl) | h
  case inr =>
    have e1 : (k == 1) = false := by simp; omega
    have e2 : (k == 2) = false := by simp; omega
    have e3 : (k == 3) = false := by simp; omega
    have e4 : (k == 4) = false := by simp; omega
    have e5 : (k == 5) = false := by simp; omega
    have e6 : (k == 6) = false := by simp; omega
    have e7 : (k == 7) = false := by simp; omega
    have e8 : (k == 8) = false := by simp; omega
    have e9 : (k == 9) = false := by simp; omega
    have e10 : (k == 10) = false := by simp; omega
    have e11 : (k == 11) = false := by simp; omega
    have e12 : (k == 12) = false := by simp; omega
    have e13 : (k == 13) = false := by simp; omega
    have e14 : (k == 14) = false := by simp; omega
    have e15 : (k == 15) = false := by simp; omega
    have e16 : (k == 16) = false := by simp; omega
    have e17 : (k == 17) = false := by simp; omega
    have e18 : (k == 18) = false := by simp; omega
    have e19 : (k == 19) = false := by simp; omega
    have e20 : (k == 20) = false := by simp; omega
    have ef : opB k = false := by unfold opB; repeat rw [if_neg (by omega)]
    rw [ef]
    clear ef h
    go_enter Tryz.func58, Tryz.ntmps58
    go_wp2
    all_goals go_ret
    all_goals refine ⟨ret_bool ?_, rfl⟩
    all_goals first | (simp_all; done) | (simp_all; omega) | (rw [Bool.eq_iff_iff]; simp_all; done) | (rw [Bool.eq_iff_iff]; simp_all; omega)
  all_goals
    go_enter Tryz.func58, Tryz.ntmps58
    go_wp2
    all_goals go_ret
    all_goals refine ⟨ret_bool ?_, rfl⟩
    all_goals unfold opB
    all_goals first | (simp_all; done) | (simp_all; omega) | (rw [Bool.eq_iff_iff]; simp_all; done) | (rw [Bool.eq_iff_iff]; simp_all; omega)
set_option maxHeartbeats 4000000 in
theorem between_any (k n : Int) (w : World) : Calls Tryz.prog 41 #[.int .i64 k, .int .i64 n] w fun e w' => e = .returned (.int .i64 ((if opB k then 1 else 0) + (if brB k n then 1 else 0))) ∧ w' = w := by
  have HO := hid opens_any
  have HG := hid grouped_any
  go_enter Tryz.func41, Tryz.ntmps41
  go_wp2_with (first | (go_at_call 58; refine (HO.out _ _).mono ?_; rintro e w1 ⟨rfl, hww⟩; have hw2 := hww.symm; clear hww; subst hw2) | (go_at_call 49; refine (HG.out _ _ _).mono ?_; rintro e w1 ⟨rfl, hww⟩; have hw2 := hww.symm; clear hww; subst hw2))
  all_goals go_ret
  all_goals simp_all
end Go.Proofs.YtlhlpamciafocaaGreatDoor.L.Sw
namespace Go.Proofs.YtlhlpamciafocaaGreatDoor.L.Sw
open Go.RowKit
set_option linter.unusedVariables false
set_option maxHeartbeats 4000000 in
set_option maxRecDepth 100000 in
/-- slices.Equal of two lists of numbers. -/
theorem equal_any (a b : Option Addr) (A B : List Int) (ca cb : Nat) (w : World) (ha : RdI w a A) (hb : RdI w b B) (hA : A.length ≤ 140737488355328) :
    Calls Tryz.prog 37 #[.slice a A.length ca, .slice b B.length cb] w fun e w' => e = .returned (.bool (decide (A = B))) ∧ ∃ m, w' = w.drewN m := by
  by_cases hl : A.length = B.length
  · have HAB : A = B ↔ ∀ j, j < A.length → A.getD j 0 = B.getD j 0 := by
      constructor
      · intro h j _
        rw [h]
      · intro h
        refine List.ext_getElem hl fun j h1 h2 => ?_
        have := h j h1
        rw [List.getD_eq_getElem?_getD, List.getD_eq_getElem?_getD, List.getElem?_eq_getElem h1, List.getElem?_eq_getElem h2] at this
        exact this
    have hbl : B.length = A.length := hl.symm
    rw [hbl]
    obtain ⟨L, hL⟩ : ∃ L, L = A.length := ⟨_, rfl⟩
    rw [← hL] at hA HAB hbl ⊢
    have HEQ := hid HAB
    have RA := hid ha
    have RB := hid hb
    have HLA := hid hL
    have HLB := hid hbl
    clear HAB ha hb hL hbl hl
    go_enter Tryz.func37, Tryz.ntmps37
    go_wp2
    go_loopw [13] (fun i wr => ∃ k : Nat, k ≤ L ∧ i = .int .i64 k ∧ Hid (∃ m, wr = w.drewN m) ∧ Hid (∀ j, j < k → A.getD j 0 = B.getD j 0)) (fun i _ => L - (intOf i).toNat)
    case atStart => exact ⟨0, Nat.zero_le _, rfl, hid ⟨0, rfl⟩, hid (fun j hj => by omega)⟩
    case round =>
      obtain ⟨k, hk, rfl, HB, HE⟩ := hrel
      by_cases hlt : k < L
      · obtain ⟨m0, hm0⟩ := HB.out
        have r1 : RdI wr a A := by rw [hm0]; exact RA.out
        have r2 : RdI wr b B := by rw [hm0]; exact RB.out
        have HM := hid hm0
        clear hm0
        rcases r1 with h0 | ⟨b1, o1, rfl, hb1, hc1⟩
        · have := HLA.out; omega
        rcases r2 with h0 | ⟨b2, o2, rfl, hb2, hc2⟩
        · have := HLB.out; omega
        have p0 := hc1 k (by rw [← HLA.out]; exact hlt)
        have q0 := hc2 k (by rw [HLB.out]; exact hlt)
        obtain ⟨x, hx⟩ : ∃ x, x = A.getD k 0 := ⟨_, rfl⟩
        obtain ⟨y, hy⟩ : ∃ y, y = B.getD k 0 := ⟨_, rfl⟩
        rw [← hx] at p0
        rw [← hy] at q0
        have HX := hid hx
        have HY := hid hy
        clear hc1 hc2 hx hy
        have g1 : (k : Int) < (L : Int) := by omega
        have g2 : (0 : Int) ≤ (k : Int) := by omega
        by_cases exy : x = y
        · have HXY := hid exy
          have e1 : (x != y) = false := by simp [exy]
          clear exy
          go_wp2_with fail
          go_quiet (fail)
          go_wp2_with fail
          refine ⟨⟨k + 1, by omega, by go_num, hid ⟨m0 + nq, by rw [HM.out, World.drewN_drewN]⟩, hid (fun j hj => ?_)⟩, by simp [intOf]; omega⟩
          by_cases e : j = k
          · rw [e, ← HX.out, ← HY.out, HXY.out]
          · exact HE.out j (by omega)
        · have e1 : (x != y) = true := by simp [exy]
          go_wp2_with fail
          go_quiet (fail)
          go_wp2_with fail
          go_ret
          refine ⟨ret_bool ?_, m0 + nq, by rw [HM.out, World.drewN_drewN]⟩
          have hne : ¬ A = B := fun h => exy (by rw [HX.out, HY.out, h])
          simp [hne]
      · have hkl : k = L := by omega
        subst hkl
        go_wp2_with fail
        go_ret
        refine ⟨ret_bool ?_, HB.out⟩
        have he := HEQ.out.2 HE.out
        simp [he]
  · have hne : ¬ A = B := fun h => hl (by rw [h])
    have h1 : ((A.length : Int) != (B.length : Int)) = true := by simp; omega
    go_enter Tryz.func37, Tryz.ntmps37
    go_wp2
    go_ret
    exact ⟨ret_bool (by simp [hne]), 0, rfl⟩
end Go.Proofs.YtlhlpamciafocaaGreatDoor.L.Sw
namespace Go.Proofs.YtlhlpamciafocaaGreatDoor.L.Sw
open Go.RowKit
set_option linter.unusedVariables false
set_option maxRecDepth 100000 in
theorem run_cl (a b c d e f g : Value) (w : World) : (Instr.field 88 (.agg #[a, b, c, d, e, f, g]) 0).run Tryz.prog w = .ok a w := by kernel_rfl
set_option maxHeartbeats 8000000 in
set_option maxRecDepth 100000 in
theorem right_any (a : Option Addr) (T : List Pt) (cap : Nat) (p : Pt) (ka : Option Addr) (kc : Nat) (w : World) (hT : PL w a T) (hk : RdI w ka p.kids) (hin : ∀ x, x ∈ p.kids → 0 ≤ x ∧ x < T.length) (hl : p.kids.length ≤ 1000) (hL : T.length ≤ 1000) :
    Calls Tryz.prog 38 #[.slice a T.length cap, .agg #[.int .i64 p.kind, .string p.text, .int .i64 p.num, .slice ka p.kids.length kc]] w fun e w' => ∃ b, e = .returned (.bool b) ∧ (b = true ↔ tabP T p) ∧ Below w.heap.size w w' := by
  obtain ⟨kd, tx, nu, ks⟩ := p
  simp only at *
  obtain ⟨n, hn⟩ : ∃ n, n = ks.length := ⟨_, rfl⟩
  obtain ⟨L, hLe⟩ : ∃ L, L = T.length := ⟨_, rfl⟩
  have HT := hid hT
  have HK := hid hk
  have HIN := hid hin
  have HN := hid hn
  have HL := hid hLe
  have HFO := hid formof_any
  have HTK := hid takes_any
  have HFI := hid fits_any
  rw [← hn] at hl ⊢
  rw [← hLe] at hL ⊢
  clear hT hk hin hn hLe
  have hB0 := belowA w (.cells #[.int .i64 kd, .string tx, .int .i64 nu, .slice ka n kc] 50)
  have hX0 := heap_alloc_new w (.cells #[.int .i64 kd, .string tx, .int .i64 nu, .slice ka n kc] 50)
  have HB0 := hid hB0
  have HX0 := hid hX0
  clear hB0 hX0
  have RC := run_cl
  go_enter Tryz.func38, Tryz.ntmps38
  unfold fmv at HFO
  go_upto_region 2 with (go_at_call 39; refine (HFO.out _ _).mono ?_; rintro e w1 ⟨rfl, l1⟩; have L1 := hid l1; clear l1; have hX1 := (L1.out.block _ (lt_blk HX0.out)).trans HX0.out; have ⟨x0, x1, x2, x3⟩ := cells4 hX1)
  have hB5 := belowA w1 (.cells #[.int .i64 (fmO kd).cl, .int .i64 (fmO kd).kd, .int .i64 (fmO kd).ls, .int .i64 (fmO kd).ms, .bool (fmO kd).tx, .int .i64 (fmO kd).lo, .int .i64 (fmO kd).hi] 88)
  have hX5 := heap_alloc_new w1 (.cells #[.int .i64 (fmO kd).cl, .int .i64 (fmO kd).kd, .int .i64 (fmO kd).ls, .int .i64 (fmO kd).ms, .bool (fmO kd).tx, .int .i64 (fmO kd).lo, .int .i64 (fmO kd).hi] 88)
  have HX1 := hid ((hB5.block _ (lt_blk hX1)).trans hX1)
  have HB5 := hid (show Below w.heap.size w (w1.alloc (.cells #[.int .i64 (fmO kd).cl, .int .i64 (fmO kd).kd, .int .i64 (fmO kd).ls, .int .i64 (fmO kd).ms, .bool (fmO kd).tx, .int .i64 (fmO kd).lo, .int .i64 (fmO kd).hi] 88)) from (HB0.out.trans (L1.out.mono (by simp))).trans (hB5.mono (by have := L1.out.size; simp at this; omega)))
  have hlt5 : w.heap.size ≠ w1.heap.size := by have := L1.out.size; simp at this; omega
  have HX5 := hid hX5
  have HS5 := hid (show (w1.alloc (.cells #[.int .i64 (fmO kd).cl, .int .i64 (fmO kd).kd, .int .i64 (fmO kd).ls, .int .i64 (fmO kd).ms, .bool (fmO kd).tx, .int .i64 (fmO kd).lo, .int .i64 (fmO kd).hi] 88)).heap.size = w1.heap.size + 1 by simp)
  unfold fmv at HTK HFI
  clear hB5 hX5 hX1 L1 x0 x1 x2 x3 HB0 HX0
  generalize w1.alloc (.cells #[.int .i64 (fmO kd).cl, .int .i64 (fmO kd).kd, .int .i64 (fmO kd).ls, .int .i64 (fmO kd).ms, .bool (fmO kd).tx, .int .i64 (fmO kd).lo, .int .i64 (fmO kd).hi] 88) = W5 at *
  generalize w1.heap.size = b5 at *
  have ⟨x0, x1, x2, x3⟩ := cells4 HX1.out
  go_wp2_with fail
  clear x0 x1 x2 x3
  go_loopw [14] (fun i wr => ∃ k : Nat, k ≤ n ∧ i = .int .i64 k ∧ Hid (Below W5.heap.size W5 wr) ∧ Hid (∀ j, j < k → takesB (fmO kd) (fmO (pt T (ks.getD j 0).toNat).kind).cl = true)) (fun i _ => n - (intOf i).toNat)
  case atStart => exact ⟨0, Nat.zero_le _, rfl, hid (Below.refl _ _), hid (fun j hj => by omega)⟩
  case round =>
    obtain ⟨k, hk, rfl, HB, HE⟩ := hrel
    have hx5 := (HB.out.block _ (lt_blk HX5.out)).trans HX5.out
    have ⟨f0, f1, f2, f3, f4, f5, f6⟩ := cells7 hx5
    by_cases hlt : k < n
    · have r1 := (HK.out.low HB5.out (Nat.le_refl _)).low HB.out (Nat.le_refl _)
      have r2 := (HT.out.low HB5.out).low HB.out
      rcases r1 with h0 | ⟨b1, o1, rfl, hb1, hc1⟩
      · have := HN.out; omega
      have hkn : k < ks.length := by rw [← HN.out]; exact hlt
      have p0 := hc1 k hkn
      have hmem : ks.getD k 0 ∈ ks := by rw [List.getD_eq_getElem?_getD, List.getElem?_eq_getElem hkn]; exact List.getElem_mem hkn
      have hx := HIN.out _ hmem
      obtain ⟨x, hxe⟩ : ∃ x : Nat, ks.getD k 0 = x := ⟨(ks.getD k 0).toNat, by omega⟩
      rw [hxe] at p0 hx
      have HXE := hid hxe
      rcases r2 with h0 | ⟨b2, o2, rfl, hb2, hc2⟩
      · have := HL.out; omega
      obtain ⟨_, _, q0, _⟩ := hc2 x (by omega)
      have g3 : (x : Int) < (L : Int) := by have := HL.out; omega
      clear hc1 hc2 hmem hxe hx hkn
      have g1 : (k : Int) < (n : Int) := by omega
      have g2 : (0 : Int) ≤ (k : Int) := by omega
      have g4 : (0 : Int) ≤ (x : Int) := by omega
      generalize hkk : (pt T x).kind = kk at *
      have HKK := hid hkk
      clear hkk
      go_wp2_with fail
      go_region_held3 (fun Y => Y.cell? ⟨b5, 0, none⟩ = some (.int .i64 (fmO kd).cl) ∧ Y.cell? ⟨b5, 1, none⟩ = some (.int .i64 (fmO kd).kd) ∧ Y.cell? ⟨b5, 2, none⟩ = some (.int .i64 (fmO kd).ls) ∧ Y.cell? ⟨b5, 3, none⟩ = some (.int .i64 (fmO kd).ms) ∧ Y.cell? ⟨b5, 4, none⟩ = some (.bool (fmO kd).tx) ∧ Y.cell? ⟨b5, 5, none⟩ = some (.int .i64 (fmO kd).lo) ∧ Y.cell? ⟨b5, 6, none⟩ = some (.int .i64 (fmO kd).hi) ∧ Y.cell? ⟨b2, o2 + x * 4, none⟩ = some (.int .i64 kk))
        (first | exact ⟨f0, f1, f2, f3, f4, f5, f6, q0⟩ | exact T2 | exact T3)
        (first
          | (go_at_call 39; refine (HFO.out _ _).mono ?_; rintro e w2 ⟨rfl, l2⟩
             have l2' : Below wr.heap.size wr w2 := ⟨l2.os, l2.tape, l2.output, l2.size, l2.block⟩
             have L2 := hid l2'
             have y5 := (l2'.block _ (lt_blk hx5)).trans hx5
             have ⟨t0, t1, t2, t3, t4, t5, t6⟩ := cells7 y5
             have T2 := And.intro t0 (And.intro t1 (And.intro t2 (And.intro t3 (And.intro t4 (And.intro t5 (And.intro t6 ((l2'.cell (p := ⟨b2, o2 + x * 4, none⟩) hb2).trans q0)))))))
             clear l2 l2' t0 t1 t2 t3 t4 t5 t6)
          | (go_at_call 55; refine (HTK.out (fmO kd) (fmO kk).cl _).mono ?_; rintro e w3 ⟨rfl, l3⟩
             have l3' : Below w2.heap.size w2 w3 := ⟨l3.os, l3.tape, l3.output, l3.size, l3.block⟩
             have L3 := hid l3'
             have z5 := (l3'.block _ (lt_blk y5)).trans y5
             have ⟨t0, t1, t2, t3, t4, t5, t6⟩ := cells7 z5
             have T3 := And.intro t0 (And.intro t1 (And.intro t2 (And.intro t3 (And.intro t4 (And.intro t5 (And.intro t6 ((l3'.cell (p := ⟨b2, o2 + x * 4, none⟩) (Nat.lt_of_lt_of_le hb2 L2.out.size)).trans T2.2.2.2.2.2.2.2)))))))
             clear l3 l3' t0 t1 t2 t3 t4 t5 t6))
      have B3 := hid (show Below W5.heap.size W5 w3 from (HB.out.trans (L2.out.mono HB.out.size)).trans (L3.out.mono (Nat.le_trans HB.out.size L2.out.size)))
      clear T2 T3 L2 L3 y5 z5 f0 f1 f2 f3 f4 f5 f6 hx5 q0 p0
      cases ht : takesB (fmO kd) (fmO kk).cl
      · go_wp2_with fail
        go_ret
        refine ⟨false, rfl, ⟨(fun h => by cases h), fun h => ?_⟩, HB5.out.trans (B3.out.mono HB5.out.size)⟩
        have hkn : k < ks.length := by rw [← HN.out]; exact hlt
        have hmem : ks.getD k 0 ∈ ks := by rw [List.getD_eq_getElem?_getD, List.getElem?_eq_getElem hkn]; exact List.getElem_mem hkn
        have := h.2 _ hmem
        rw [HXE.out] at this
        rw [show ((x : Int)).toNat = x from Int.toNat_natCast x, HKK.out, ht] at this
        cases this
      · have HTT := hid ht
        clear ht
        go_wp2_with fail
        refine ⟨⟨k + 1, by omega, by go_num, B3, hid (fun j hj => ?_)⟩, by simp [intOf]; omega⟩
        by_cases e : j = k
        · rw [e, HXE.out, show ((x : Int)).toNat = x from Int.toNat_natCast x, HKK.out]
          exact HTT.out
        · exact HE.out j (by omega)
    · obtain rfl : k = n := by omega
      have hx1 := (HB.out.block _ (lt_blk HX1.out)).trans HX1.out
      have ⟨x0, x1, x2, x3⟩ := cells4 hx1
      go_wp2_with (go_at_call 56; refine (HFI.out (fmO kd) kd nu tx ka k kc _).mono ?_; rintro e w2 ⟨rfl, l2⟩; have L2 := hid l2; clear l2)
      go_ret
      refine ⟨_, rfl, ?_, (HB5.out.trans (HB.out.mono HB5.out.size)).trans (L2.out.mono (Nat.le_trans HB5.out.size HB.out.size))⟩
      unfold tabP
      simp only
      rw [← HN.out]
      constructor
      · intro h
        refine ⟨h, fun y hy => ?_⟩
        obtain ⟨j, hj, e⟩ := List.getElem_of_mem hy
        have := HE.out j (by rw [HN.out]; exact hj)
        rw [List.getD_eq_getElem?_getD, List.getElem?_eq_getElem hj] at this
        simp only [Option.getD_some, e] at this
        exact this
      · intro h
        exact h.1
end Go.Proofs.YtlhlpamciafocaaGreatDoor.L.Sw
