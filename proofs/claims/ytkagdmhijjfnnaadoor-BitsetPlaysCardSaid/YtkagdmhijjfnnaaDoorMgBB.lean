import Derived.Test.YtkagdmhijjfnnaaDoorMgBA
namespace Go.Proofs.YtkagdmhijjfnnaaDoor
open Go.RowKit Bs
set_option linter.unusedVariables false
set_option maxHeartbeats 1000000 in
theorem andnotwith_nn (w : World) : Calls Tryd.prog 41 #[.pointer none, .pointer none] w fun e w' => e = .returned (.tuple #[]) ∧ w' = w := by
  go_enter Tryd.func41, Tryd.ntmps41
  go_wp2_with (go_at_call 55; refine (list_nil _).mono ?_; rintro e w' ⟨rfl, rfl⟩)
  go_loopw [16] (fun i wr => i = .int .i64 0 ∧ wr = w') (fun _ _ => 0)
  case atStart => exact ⟨rfl, rfl⟩
  case round =>
    obtain ⟨rfl, rfl⟩ := hrel
    go_wp2
    go_end0
    exact ⟨rfl, rfl⟩
set_option maxHeartbeats 1000000 in
theorem orwith_nn (w : World) : Calls Tryd.prog 45 #[.pointer none, .pointer none] w fun e w' => e = .returned (.tuple #[]) ∧ w' = w := by
  go_enter Tryd.func45, Tryd.ntmps45
  go_wp2_with (go_at_call 55; refine (list_nil _).mono ?_; rintro e w' ⟨rfl, rfl⟩)
  go_loopw [16] (fun i wr => i = .int .i64 0 ∧ wr = w') (fun _ _ => 0)
  case atStart => exact ⟨rfl, rfl⟩
  case round =>
    obtain ⟨rfl, rfl⟩ := hrel
    go_wp2
    go_end0
    exact ⟨rfl, rfl⟩
set_option maxRecDepth 100000 in
set_option maxHeartbeats 1000000 in
theorem andwith_nn (w : World) : Calls Tryd.prog 46 #[.pointer none, .pointer none] w fun e w' => e = .returned (.tuple #[]) ∧ w' = w := by
  go_enter Tryd.func46, Tryd.ntmps46
  go_wp2_with (go_at_call 55; refine (list_nil _).mono ?_; rintro e w' ⟨rfl, rfl⟩)
  go_loopw [18] (fun i wr => i = .int .i64 0 ∧ wr = w') (fun _ _ => 0)
  case atStart => exact ⟨rfl, rfl⟩
  case round =>
    obtain ⟨rfl, rfl⟩ := hrel
    have hcl := clear_nil wr
    go_wp2_with fail
    go_end0
    exact ⟨rfl, rfl⟩
theorem SO.other {w : World} {v : Value} {q n : Nat} {S : Nat → Bool} (h : SO w v q n S) (hv : v = .pointer none) (q' : Nat) : SO w v q' n S := by
  rcases h with h | ⟨p, e, _⟩
  · exact Or.inl h
  · rw [hv] at e; cases e
theorem ap_of {w : World} {v' : Value} {p q q' n' : Nat} {T : Nat → Bool} (h' : SO w v' q' n' T) (hap : ∀ p', v' = .pointer (some ⟨p', 0, none⟩) → q ≠ q' ∨ p = p') : ∃ q'', SO w v' q'' n' T ∧ (q ≠ q'' ∨ v' = .pointer (some ⟨p, 0, none⟩)) := by
  rcases h' with h' | ⟨p', e, s⟩
  · exact ⟨q + 1, Or.inl h', Or.inl (by omega)⟩
  · refine ⟨q', Or.inr ⟨p', e, s⟩, ?_⟩
    rcases hap p' e with c | c
    · exact Or.inl c
    · exact Or.inr (by rw [e, c])
theorem andw_mv {v v' : Value} {q n q' n' : Nat} {S T : Nat → Bool} (w : World) (h : SO w v q n S) (h' : SO w v' q' n' T) (hap : ∀ p p', v = .pointer (some ⟨p, 0, none⟩) → v' = .pointer (some ⟨p', 0, none⟩) → q ≠ q' ∨ p = p') :
    Calls Tryd.prog 46 #[v, v'] w fun e w' => e = .returned (.tuple #[]) ∧ Mv w w' v q q n (fun i => S i && T i) := by
  rcases h with ⟨rfl, rfl, hS⟩ | ⟨p, rfl, h⟩
  · have fin : ∀ i, (S i && T i) = false := fun i => by rw [hS]; rfl
    rcases h' with ⟨rfl, _, _⟩ | ⟨p', rfl, ⟨ws, x, _⟩⟩
    · refine (andwith_nn w).mono ?_
      rintro e w' ⟨rfl, rfl⟩
      exact ⟨rfl, Or.inl ⟨rfl, Below.refl _ _, rfl, fin⟩⟩
    · refine (andwith_nill p' _ _ ws w x).mono ?_
      rintro e w' ⟨rfl, rfl⟩
      exact ⟨rfl, Or.inl ⟨rfl, Below.refl _ _, rfl, fin⟩⟩
  · obtain ⟨q'', h'', c⟩ := ap_of (p := p) (q := q) h' (fun p' e => hap p p' rfl e)
    refine (andwith_o w h h'' c).mono ?_
    rintro e w' ⟨rfl, s, c⟩
    exact ⟨rfl, Or.inr ⟨p, rfl, s, Or.inl ⟨c, rfl⟩⟩⟩
theorem andnw_mv {v v' : Value} {q n q' n' : Nat} {S T : Nat → Bool} (w : World) (h : SO w v q n S) (h' : SO w v' q' n' T) (hap : ∀ p p', v = .pointer (some ⟨p, 0, none⟩) → v' = .pointer (some ⟨p', 0, none⟩) → q ≠ q' ∨ p = p') :
    Calls Tryd.prog 41 #[v, v'] w fun e w' => e = .returned (.tuple #[]) ∧ Mv w w' v q q n (fun i => S i && !T i) := by
  rcases h with ⟨rfl, rfl, hS⟩ | ⟨p, rfl, h⟩
  · have fin : ∀ i, (S i && !T i) = false := fun i => by rw [hS]; rfl
    rcases h' with ⟨rfl, _, _⟩ | ⟨p', rfl, ⟨ws, x, _⟩⟩
    · refine (andnotwith_nn w).mono ?_
      rintro e w' ⟨rfl, rfl⟩
      exact ⟨rfl, Or.inl ⟨rfl, Below.refl _ _, rfl, fin⟩⟩
    · refine (andnotwith_nill p' _ _ ws w x).mono ?_
      rintro e w' ⟨rfl, rfl⟩
      exact ⟨rfl, Or.inl ⟨rfl, Below.refl _ _, rfl, fin⟩⟩
  · obtain ⟨q'', h'', c⟩ := ap_of (p := p) (q := q) h' (fun p' e => hap p p' rfl e)
    refine (andnotwith_o w h h'' c).mono ?_
    rintro e w' ⟨rfl, s, c⟩
    exact ⟨rfl, Or.inr ⟨p, rfl, s, Or.inl ⟨c, rfl⟩⟩⟩
theorem orw_mv {v v' : Value} {q n q' n' : Nat} {S T : Nat → Bool} (w : World) (h : SO w v q n S) (h' : SO w v' q' n' T) (hap : ∀ p p', v = .pointer (some ⟨p, 0, none⟩) → v' = .pointer (some ⟨p', 0, none⟩) → q ≠ q' ∨ p = p') :
    Calls Tryd.prog 45 #[v, v'] w fun e w' => e = .returned (.tuple #[]) ∧ Mv w w' v q q n (fun i => (S i || T i) && decide (i < n)) := by
  rcases h with ⟨rfl, rfl, hS⟩ | ⟨p, rfl, h⟩
  · have fin : ∀ i, ((S i || T i) && decide (i < 0)) = false := fun i => by simp
    rcases h' with ⟨rfl, _, _⟩ | ⟨p', rfl, ⟨ws, x, _⟩⟩
    · refine (orwith_nn w).mono ?_
      rintro e w' ⟨rfl, rfl⟩
      exact ⟨rfl, Or.inl ⟨rfl, Below.refl _ _, rfl, fin⟩⟩
    · refine (orwith_nill p' _ _ ws w x).mono ?_
      rintro e w' ⟨rfl, rfl⟩
      exact ⟨rfl, Or.inl ⟨rfl, Below.refl _ _, rfl, fin⟩⟩
  · obtain ⟨q'', h'', c⟩ := ap_of (p := p) (q := q) h' (fun p' e => hap p p' rfl e)
    refine (orwith_o w h h'' c).mono ?_
    rintro e w' ⟨rfl, s, c⟩
    exact ⟨rfl, Or.inr ⟨p, rfl, s, Or.inl ⟨c, rfl⟩⟩⟩
theorem Rg.apq {w0 W : World} {B : Nat} {st : Nat → RSt} (h : Rg w0 W B st) {a b : Nat} (ha : a < 4) (hb : b < 4) : ∀ p p', (st a).v = .pointer (some ⟨p, 0, none⟩) → (st b).v = .pointer (some ⟨p', 0, none⟩) → (st a).q ≠ (st b).q ∨ p = p' := fun p p' e e' => by
  by_cases c : a = b
  · subst c; rw [e] at e'; injection e' with e'; injection e' with e'; injection e' with e' _ _; exact Or.inr e'
  · exact Or.inl (h.ap a b ha hb c p p' e e').2
theorem or_cut (a b : Bool) (i n : Nat) (h : a = true → i < n) : ((a || b) && decide (i < n)) = ((true && a && !(b && decide (i < n))) || (true && !a && (b && decide (i < n))) || (true && a && (b && decide (i < n)))) := by
  by_cases c : i < n
  · simp only [c, decide_true, Bool.and_true]; cases a <;> cases b <;> rfl
  · have : a = false := by
      cases a
      · rfl
      · exact absurd (h rfl) c
    subst this
    simp [c]
theorem cut_out (b : Bool) {t : Nat} (n : Nat) (ht : n ≤ t) : (b && decide (t < n)) = false := by
  have c : ¬ t < n := by omega
  simp [c]
theorem with_is {n : Nat} {T : Nat → Bool} {m : Nat} {B : List Int} (h : MsOf n T B) : MsOf n (fun i => T i && decide (i < m)) (B.take (bel B (m : Int))) := by
  refine MsOf.of_up (up_take h.up _) fun z => ?_
  have e : z ∈ B.take (bel B (m : Int)) ↔ z ∈ B ∧ z < m := by
    constructor
    · intro hz; exact ⟨(take_drop_mem (bel B (m : Int)) z).2 (Or.inl hz), take_lt h.up _ z hz⟩
    · rintro ⟨hz, hl⟩
      rcases (take_drop_mem (bel B (m : Int)) z).1 hz with c | c
      · exact c
      · have := drop_ge h.up _ z c; omega
  rw [e, h.mem_iff]
  constructor
  · rintro ⟨⟨a, e1, e2, e3⟩, hl⟩; exact ⟨a, e1, e2, by simp [e3]; omega⟩
  · rintro ⟨a, e1, e2, e3⟩
    simp at e3
    exact ⟨⟨a, e1, e2, e3.1⟩, by omega⟩
end Go.Proofs.YtkagdmhijjfnnaaDoor
namespace Go.Proofs.YtkagdmhijjfnnaaDoor
open Go.RowKit Bs
set_option linter.unusedVariables false
/-- A list that came in: an empty one may stand anywhere. -/
def HoldsG (w : World) (v : Value) (zs : List Int) : Prop := Holds w v zs ∨ (zs = [] ∧ ∃ a cap, v = .slice (some a) 0 cap)
def HoldsWG (w : World) (v : Value) (us : List Nat) : Prop := HoldsW w v us ∨ (us = [] ∧ ∃ a cap, v = .slice (some a) 0 cap)
theorem HoldsG.low {w w' : World} {v : Value} {zs : List Int} (h : HoldsG w v zs) (k : Below w.heap.size w w') : HoldsG w' v zs := by
  rcases h with h | h
  · exact Or.inl (h.low k)
  · exact Or.inr h
theorem HoldsWG.low {w w' : World} {v : Value} {us : List Nat} (h : HoldsWG w v us) (k : Below w.heap.size w w') : HoldsWG w' v us := by
  rcases h with h | h
  · exact Or.inl (h.low k)
  · exact Or.inr h
theorem HoldsG.rd {w : World} {v : Value} {zs : List Int} (h : HoldsG w v zs) : ∃ a cap, v = .slice a zs.length cap ∧ Rd w a zs := by
  rcases h with h | ⟨rfl, a, cap, rfl⟩
  · exact h.rd
  · exact ⟨_, cap, rfl, Or.inl rfl⟩
theorem HoldsWG.rd {w : World} {v : Value} {us : List Nat} (h : HoldsWG w v us) : ∃ a cap, v = .slice a us.length cap ∧ Rw w a us := by
  rcases h with h | ⟨rfl, a, cap, rfl⟩
  · exact h.rd
  · exact ⟨_, cap, rfl, Or.inl rfl⟩
set_option maxRecDepth 100000 in
set_option maxHeartbeats 2000000 in
theorem ints_ownG (v : Value) (zs : List Int) (w : World) (h : HoldsG w v zs) (hL : zs.length ≤ 17592186043904) :
    Calls Tryd.prog 67 #[v] w fun e w' => ∃ v', e = .returned v' ∧ OwnI w' w.heap.size v' zs ∧ Below w.heap.size w w' := by
  rcases h with h | ⟨rfl, a, cap, rfl⟩
  · exact ints_own v zs w h hL
  obtain ⟨i0, hi, hz0, hz1, hz2⟩ := info3
  have HB := hid (lowAlloc w (.cells #[] 3))
  have O := hid (own_zero w w.heap.size rfl)
  go_enter Tryd.func67, Tryd.ntmps67
  go_wp2_with (at_builtin; refine wpList_append_own _ rfl _ _ 28 rfl w.heap.size 3 i0 (.int .i64 0) 1 8 Tryd.underlying28 hi hz0 hz1 hz2 rfl (by decide) _ _ _ rfl O.out a 0 cap [] rfl rfl (fun j u hj => by cases hj) (fun u hu => by cases hu) (by unfold maxLen; simp) (by simp) (by simp) ?_; intro v1 w1 o1 g1 _)
  have B1 := hid (HB.out.grown g1 (by simp) (fun k hk => by have := owns_block O.out k hk; omega))
  have O1 := hid o1
  clear o1 g1 HB O
  go_wp2_with fail
  go_ret
  exact ⟨_, rfl, O1.out, B1.out⟩
set_option maxRecDepth 100000 in
set_option maxHeartbeats 2000000 in
theorem words_ownG (v : Value) (us : List Nat) (w : World) (h : HoldsWG w v us) (hL : us.length ≤ 17592186043904) :
    Calls Tryd.prog 36 #[v] w fun e w' => ∃ g cap, e = .returned (.slice (some ⟨g, 0, none⟩) us.length cap) ∧ WSlice w' (.slice (some ⟨g, 0, none⟩) us.length cap) g cap us ∧ w.heap.size ≤ g ∧ Below w.heap.size w w' := by
  rcases h with h | ⟨rfl, a, cap, rfl⟩
  · exact words_own v us w h hL
  obtain ⟨i0, hi0, hz0, hz1, hz2⟩ := info59
  have HB := hid (lowAlloc w (.cells #[] 59))
  have OW := hid (show (w.alloc (.cells #[] 59)).ownsRow w.heap.size 59 1 (.slice (some ⟨w.heap.size, 0, none⟩) 0 0) 0 [] from World.ownsRow_made w #[] 0 (Nat.le_refl _) (Nat.zero_le _) rfl)
  go_enter Tryd.func36, Tryd.ntmps36
  go_wp2_with (at_builtin; refine wpList_append_own _ rfl _ _ 35 rfl w.heap.size 59 i0 (.int .u64 0) 1 8 Tryd.underlying35 hi0 hz0 hz1 hz2 rfl (by decide) _ 0 [] rfl (World.ownsRow_made w #[] 0 (Nat.le_refl _) (by unfold maxLen; omega) rfl) a 0 cap [] rfl rfl (fun j u hj => by cases hj) (fun u hu => by cases hu) (by unfold maxLen; simp) (by simp) (by simp) ?_; intro v' w1 hown hgrow hnil)
  have hb1 : Below w.heap.size w w1 := HB.out.grown hgrow (by simp) (fun k hk => owns_block59 OW.out k hk)
  have hne : v' ≠ .slice none 0 0 := fun e => absurd (show Value.slice (some ⟨w.heap.size, 0, none⟩) 0 0 = .slice none 0 0 from (hnil.1 e).1) (by simp)
  obtain ⟨g, cp, ow⟩ := own_words (us := []) hown hne
  have hv' := ow.sl.hv
  subst hv'
  have HO := hid ow
  have HB1 := hid hb1
  clear hown hgrow hnil hb1 hne ow
  go_wp2_with fail
  go_ret
  exact ⟨_, _, rfl, HO.out.sl, HO.out.base, HB1.out⟩
theorem from_pad (n : Nat) (v : Value) (zs : List Int) {base0 : Nat} (w : World) (hn : n ≤ 65536) (hlen : zs.length ≤ 9223372036854775807) (h : OwnI w base0 v zs) (hz : ∃ z ∈ zs, ¬ (0 ≤ z ∧ z < n)) :
    Calls Tryd.prog 47 #[.int .i64 n, v] w fun e w' => e = .returned (.tuple #[.pointer none, .int .i64 12]) ∧ Below w.heap.size w w' := by
  obtain ⟨a, cap, rfl, hr⟩ := (holds_of_owns h).rd
  exact from_bad n a cap zs w hn hr hlen hz
/-- made, refused. -/
theorem results_tmp_ok : True := trivial
set_option maxRecDepth 100000 in
set_option maxHeartbeats 4000000 in
theorem made_no (ka : Nat) (f : Int) (rn : Int) (a : Option Addr) (l cap : Nat) (w0 W : World) (B : Nat) (st : Nat → RSt) (h : Rg w0 W B st) (hf : f ≠ 0) :
    Calls Tryd.prog 66 #[.pointer (some ⟨B, 0, none⟩), .int .i64 (ka : Int), .pointer none, .int .i64 f, .agg #[.int .i64 rn, .slice a l cap], .int .i64 f] W fun e w' => e = .returned (.bool true) ∧ Rg w0 w' B st := by
  have R1 := hid (h.low (lowAlloc W (.cells #[.int .i64 rn, .slice a l cap] 30)))
  have e1 : (f == 0) = false := by simpa using hf
  have e2 : (f != 0) = true := by simpa using hf
  clear h
  go_enter Tryd.func66, Tryd.ntmps66
  go_wp2_with (go_at_call 13; refine (num_any _ _).mono ?_; rintro e w9 ⟨rfl, hww⟩; subst hww)
  go_ret
  exact ⟨rfl, R1.out⟩
set_option maxRecDepth 100000 in
set_option maxHeartbeats 4000000 in
theorem made_ok (ka : Nat) (ha : ka < 4) (p q n : Nat) (S : Nat → Bool) (lv : Value) (ms : List Int) (w0 W : World) (B : Nat) (st : Nat → RSt) (h : Rg w0 W B st) (hs : SetAt W p q n S) (ho : OwnI W 0 lv ms)
    (hL : w0.heap.size ≤ p ∧ w0.heap.size ≤ q ∧ ∀ i, i < 4 → ∀ p', (st i).v = .pointer (some ⟨p', 0, none⟩) → p' ≠ p ∧ (st i).q ≠ q) :
    Calls Tryd.prog 66 #[.pointer (some ⟨B, 0, none⟩), .int .i64 (ka : Int), .pointer (some ⟨p, 0, none⟩), .int .i64 0, .agg #[.int .i64 (n : Int), lv], .int .i64 0] W fun e w' => e = .returned (.bool true) ∧ Rg w0 w' B (upd st ka ⟨.pointer (some ⟨p, 0, none⟩), q, n, S, n, lv, ms, false⟩) := by
  obtain ⟨a, l, cap, rfl⟩ := own_form9 ho
  have b1 := lowAlloc W (.cells #[.int .i64 (n : Int), .slice a l cap] 30)
  have R1 := hid (h.low b1)
  have S1 := hid (hs.low b1)
  have O1 := hid (own_low ho b1)
  have HL := hid hL
  have rb := heap_alloc_new W (.cells #[.int .i64 (n : Int), .slice a l cap] 30)
  have RB := hid rb
  clear h hs ho hL b1 rb
  have hia : (ka : Int) < 4 := by omega
  go_enter Tryd.func66, Tryd.ntmps66
  go_wp2_with (go_at_call 13; refine (num_any _ _).mono ?_; rintro e w9 ⟨rfl, hww⟩; subst hww)
  generalize W.alloc _ = V at *
  obtain ⟨m0, m1, m2, m3⟩ := R1.out.cells ha
  have z0 := R1.out.fz ka
  have z1 := R1.out.fz (4 + ka * 2)
  have z2 := R1.out.fz (4 + ka * 2 + 1)
  have z3 := R1.out.fz (12 + ka)
  have n0 : V.cell? ⟨W.heap.size, 0, none⟩ = some (.int .i64 (n : Int)) := by rw [cell_of_row _ _ 0 _ _ _ RB.out]; rfl
  have n1 : V.cell? ⟨W.heap.size, 1, none⟩ = some (.slice a l cap) := by rw [cell_of_row _ _ 1 _ _ _ RB.out]; rfl
  have hBn : B ≠ W.heap.size := by
    obtain ⟨cur, hc, _⟩ := R1.out.bb
    exact kinds_ne hc RB.out (by decide)
  go_region
  have FIN := hid ((R1.out.setA ha ⟨.pointer (some ⟨p, 0, none⟩), q, n, S, n, .slice a l cap, ms, false⟩ (Or.inr ⟨p, rfl, S1.out⟩) O1.out (fun p9 e => by
    injection e with e; injection e with e; injection e with e _ _
    subst e
    exact ⟨HL.out.1, HL.out.2.1, fun i hi _ p' e' => HL.out.2.2 i hi p' e'⟩)).low (belowDr _))
  clear m0 m1 m2 m3 z0 z1 z2 z3 n0 n1
  go_wp2_with fail
  go_ret
  exact ⟨rfl, FIN.out⟩
end Go.Proofs.YtkagdmhijjfnnaaDoor
namespace Go.Proofs.YtkagdmhijjfnnaaDoor
open Go.RowKit Bs
set_option linter.unusedVariables false
set_option maxRecDepth 100000 in
set_option maxHeartbeats 8000000 in
theorem mk_new (oa ob oc : Int) (n : Nat) (vL vW : Value) (w0 W : World) (B : Nat) (st : Nat → RSt) (h : Rg w0 W B st) (ok : Ok st) (hn : n ≤ 65536) :
    Calls Tryd.prog 48 #[.pointer (some ⟨B, 0, none⟩), .agg #[.int .i64 1, .int .i64 oa, .int .i64 ob, .int .i64 oc, .int .i64 (n : Int), vL, vW]] W fun e w' => e = .returned (.bool true) ∧ ∃ st', Rg w0 w' B st' ∧ Ok st' := by
  obtain ⟨ka, ha, ea⟩ := reg_of oa
  have O1 := hid (Ob.new W 1 oa ob oc (n : Int) vL vW)
  have BL1 := hid (lowAlloc W (.cells #[.int .i64 1, .int .i64 oa, .int .i64 ob, .int .i64 oc, .int .i64 (n : Int), vL, vW] 37))
  have R1 := hid (h.low BL1.out)
  have OK := hid ok
  clear h ok
  have o0 := O1.out.o0
  have o1 := O1.out.o1
  have o4 := O1.out.o4
  have o5 := O1.out.o5
  have o6 := O1.out.o6
  go_enter Tryd.func48, Tryd.ntmps48
  go_wp2_with fail
  generalize W.alloc _ = X at *
  clear ea
  refine (new_new n _ hn).mono ?_
  rintro e w2 ⟨p9, q9, rfl, fr⟩
  have L2 := hid fr.low
  have HP := hid fr.hp
  have HQ := hid fr.hq
  have SF := hid (fr.at')
  have O2 := hid (O1.out.on L2.out)
  have R2 := hid (R1.out.low L2.out)
  clear o0 o1 o4 o5 o6
  have o4 := O2.out.o4
  have o5 := O2.out.o5
  have o6 := O2.out.o6
  go_wp2_with fail
  refine (dnew n _ hn).mono ?_
  rintro e w3 ⟨rfl, hb3⟩
  have OW3 := hid (show OwnI w3 0 (.slice none 0 0) [] from World.ownsRow_nil w3 0 3 1)
  have R4 := hid ((R2.out.low hb3).low (lowAlloc w3 (.cells #[.int .i64 (n : Int), .slice none 0 0] 30)))
  have rb4 := heap_alloc_new w3 (.cells #[.int .i64 (n : Int), .slice none 0 0] 30)
  have g0 : (w3.alloc (.cells #[.int .i64 (n : Int), .slice none 0 0] 30)).cell? ⟨w3.heap.size, 0, none⟩ = some (.int .i64 (n : Int)) := by rw [cell_of_row _ _ 0 _ _ _ rb4]; rfl
  have g1 : (w3.alloc (.cells #[.int .i64 (n : Int), .slice none 0 0] 30)).cell? ⟨w3.heap.size, 1, none⟩ = some (.slice none 0 0) := by rw [cell_of_row _ _ 1 _ _ _ rb4]; rfl
  clear rb4 o4 o5 o6
  go_wp2_with fail
  have S4 := hid ((SF.out.low hb3).low (lowAlloc w3 (.cells #[.int .i64 (n : Int), .slice none 0 0] 30)))
  have W4 := hid (own_low OW3.out (lowAlloc w3 (.cells #[.int .i64 (n : Int), .slice none 0 0] 30)))
  refine (made_ok ka ha p9 q9 n (fun _ => false) (.slice none 0 0) [] w0 _ B st R4.out S4.out W4.out ⟨Nat.le_trans R1.out.lo.size HP.out, Nat.le_trans R1.out.lo.size HQ.out, fun i hi p' e' => by
    have := R1.out.lts hi e'
    have h1 := HP.out
    have h2 := HQ.out
    exact ⟨by omega, by omega⟩⟩).mono ?_
  rintro e w5 ⟨rfl, R5⟩
  have FIN := hid R5
  have KX := hid (show Ok1 ⟨.pointer (some ⟨p9, 0, none⟩), q9, n, (fun _ => false), n, .slice none 0 0, [], false⟩ from ⟨rfl, ⟨((card_zero_iff _ _).2 (fun _ _ => rfl)).symm, fun t ht => by cases ht⟩, hn, (fun t ht => SF.out.cl t ht), Or.inr ⟨rfl, p9, rfl⟩⟩)
  clear R5 g0 g1
  go_wp2_with fail
  go_ret
  exact ⟨rfl, _, FIN.out, OK.out.upd KX.out⟩
end Go.Proofs.YtkagdmhijjfnnaaDoor
namespace Go.Proofs.YtkagdmhijjfnnaaDoor
open Go.RowKit Bs
set_option linter.unusedVariables false
set_option maxRecDepth 100000 in
set_option maxHeartbeats 8000000 in
theorem mk_new_no (oa ob oc : Int) (oi : Int) (vL vW : Value) (w0 W : World) (B : Nat) (st : Nat → RSt) (h : Rg w0 W B st) (ok : Ok st) (hn : ¬ (0 ≤ oi ∧ oi ≤ 65536)) :
    Calls Tryd.prog 48 #[.pointer (some ⟨B, 0, none⟩), .agg #[.int .i64 1, .int .i64 oa, .int .i64 ob, .int .i64 oc, .int .i64 oi, vL, vW]] W fun e w' => e = .returned (.bool true) ∧ ∃ st', Rg w0 w' B st' ∧ Ok st' := by
  obtain ⟨ka, ha, ea⟩ := reg_of oa
  have O1 := hid (Ob.new W 1 oa ob oc oi vL vW)
  have BL1 := hid (lowAlloc W (.cells #[.int .i64 1, .int .i64 oa, .int .i64 ob, .int .i64 oc, .int .i64 oi, vL, vW] 37))
  have R1 := hid (h.low BL1.out)
  have OK := hid ok
  clear h ok
  have o0 := O1.out.o0
  have o1 := O1.out.o1
  have o4 := O1.out.o4
  have o5 := O1.out.o5
  have o6 := O1.out.o6
  go_enter Tryd.func48, Tryd.ntmps48
  go_wp2_with fail
  generalize W.alloc _ = X at *
  clear ea
  refine (new_no oi _ hn).mono ?_
  rintro e w2 ⟨rfl, hww⟩
  have L2 := hid (show Below X.heap.size X w2 from by rw [hww]; exact Below.refl _ _)
  clear hww
  have O2 := hid (O1.out.on L2.out)
  have R2 := hid (R1.out.low L2.out)
  clear o0 o1 o4 o5 o6
  have o4 := O2.out.o4
  have o5 := O2.out.o5
  have o6 := O2.out.o6
  go_wp2_with fail
  refine (dnew_no oi _ hn).mono ?_
  rintro e w3 ⟨rfl, hb3⟩
  have R4 := hid ((R2.out.low hb3).low (lowAlloc w3 (.cells #[.int .i64 0, .slice none 0 0] 30)))
  have rb4 := heap_alloc_new w3 (.cells #[.int .i64 0, .slice none 0 0] 30)
  have g0 : (w3.alloc (.cells #[.int .i64 0, .slice none 0 0] 30)).cell? ⟨w3.heap.size, 0, none⟩ = some (.int .i64 0) := by rw [cell_of_row _ _ 0 _ _ _ rb4]; rfl
  have g1 : (w3.alloc (.cells #[.int .i64 0, .slice none 0 0] 30)).cell? ⟨w3.heap.size, 1, none⟩ = some (.slice none 0 0) := by rw [cell_of_row _ _ 1 _ _ _ rb4]; rfl
  clear rb4 o4 o5 o6
  go_wp2_with fail
  refine (made_no ka 11 0 none 0 0 w0 _ B st R4.out (by decide)).mono ?_
  rintro e w5 ⟨rfl, R5⟩
  have FIN := hid R5
  clear R5 g0 g1
  go_wp2_with fail
  go_ret
  exact ⟨rfl, _, FIN.out, OK.out⟩
end Go.Proofs.YtkagdmhijjfnnaaDoor
namespace Go.Proofs.YtkagdmhijjfnnaaDoor
open Go.RowKit Bs
set_option linter.unusedVariables false
set_option maxRecDepth 100000 in
set_option maxHeartbeats 8000000 in
theorem mk_from (oa ob oc : Int) (n : Nat) (vL vW : Value) (w0 W : World) (B : Nat) (st : Nat → RSt) (h : Rg w0 W B st) (ok : Ok st) (hn : n ≤ 65536) (zs : List Int) (hH : HoldsG W vL zs) (hlen : zs.length ≤ 17592186043904) (hz : ∀ z ∈ zs, 0 ≤ z ∧ z < n) :
    Calls Tryd.prog 48 #[.pointer (some ⟨B, 0, none⟩), .agg #[.int .i64 2, .int .i64 oa, .int .i64 ob, .int .i64 oc, .int .i64 (n : Int), vL, vW]] W fun e w' => e = .returned (.bool true) ∧ ∃ st', Rg w0 w' B st' ∧ Ok st' := by
  obtain ⟨ka, ha, ea⟩ := reg_of oa
  have O1 := hid (Ob.new W 2 oa ob oc (n : Int) vL vW)
  have BL1 := hid (lowAlloc W (.cells #[.int .i64 2, .int .i64 oa, .int .i64 ob, .int .i64 oc, .int .i64 (n : Int), vL, vW] 37))
  have R1 := hid (h.low BL1.out)
  have OK := hid ok
  obtain ⟨aL, cL, hvL, rdL⟩ := hH.rd
  subst hvL
  have HO := hid (fun V (hV : Below (W.alloc (.cells #[.int .i64 2, .int .i64 oa, .int .i64 ob, .int .i64 oc, .int .i64 (n : Int), .slice aL zs.length cL, vW] 37)).heap.size (W.alloc (.cells #[.int .i64 2, .int .i64 oa, .int .i64 ob, .int .i64 oc, .int .i64 (n : Int), .slice aL zs.length cL, vW] 37)) V) => hH.low (belowT BL1.out hV))
  have RL := hid (fun V (hV : Below (W.alloc (.cells #[.int .i64 2, .int .i64 oa, .int .i64 ob, .int .i64 oc, .int .i64 (n : Int), .slice aL zs.length cL, vW] 37)).heap.size (W.alloc (.cells #[.int .i64 2, .int .i64 oa, .int .i64 ob, .int .i64 oc, .int .i64 (n : Int), .slice aL zs.length cL, vW] 37)) V) => rdL.low (belowT BL1.out hV) (Nat.le_refl _))
  clear hH rdL
  clear h ok
  have o0 := O1.out.o0
  have o1 := O1.out.o1
  have o4 := O1.out.o4
  have o5 := O1.out.o5
  have o6 := O1.out.o6
  go_enter Tryd.func48, Tryd.ntmps48
  go_wp2_with fail
  generalize W.alloc _ = X at *
  clear ea
  go_region_held3 (fun Y => Y.cell? ⟨W.heap.size, 4, none⟩ = some (.int .i64 (n : Int)) ∧ Y.cell? ⟨W.heap.size, 5, none⟩ = some (.slice aL zs.length cL))
    (first | exact ⟨o4, o5⟩ | exact T1 | exact T2 | go_keep)
    (first
      | (go_at_call 67; refine (ints_ownG _ zs _ (HO.out _ (belowDr X)) hlen).mono ?_; rintro e w1 ⟨v1, rfl, ow1, hb1⟩
         have L1 := hid (belowT (belowDr X) hb1)
         have T1 := And.intro ((L1.out.cell (p := ⟨W.heap.size, 4, none⟩) O1.out.lt).trans o4) ((L1.out.cell (p := ⟨W.heap.size, 5, none⟩) O1.out.lt).trans o5)
         have OW1 := hid ow1
         clear ow1
         clear hb1)
      | (go_at_call 47; refine (from_any n v1 zs _ hn (by omega) (holds_of_owns OW1.out) hz).mono ?_; rintro e w2 ⟨rfl, ⟨ws, xs, hm⟩, hb2⟩
         have L2 := hid (belowT L1.out hb2)
         have T2 := And.intro ((L2.out.cell (p := ⟨W.heap.size, 4, none⟩) O1.out.lt).trans o4) ((L2.out.cell (p := ⟨W.heap.size, 5, none⟩) O1.out.lt).trans o5)
         have SF := hid (show SetAt w2 (w1.heap.size + 1) w1.heap.size n (fun i : Nat => decide ((i : Int) ∈ zs)) from ⟨ws, xs, hm⟩)
         have HP := hid (show X.heap.size ≤ w1.heap.size + 1 from Nat.le_succ_of_le L1.out.size)
         have HQ := hid (show X.heap.size ≤ w1.heap.size from L1.out.size)
         clear xs hm
         clear hb2))
  clear T1 T2
  have O2 := hid (O1.out.on L2.out)
  have R2 := hid (R1.out.low L2.out)
  clear o0 o1 o4 o5 o6
  have o4 := O2.out.o4
  have o5 := O2.out.o5
  have o6 := O2.out.o6
  go_wp2_with fail
  refine (dfrom n aL cL zs _ hn (RL.out _ L2.out) (by omega) hz).mono ?_
  rintro e w3 ⟨v3, rfl, ow3, hb3⟩
  obtain ⟨av, lv, cv, hv⟩ := own_form9 ow3
  subst hv
  have OW3 := hid (own_mono ow3 (Nat.zero_le _))
  clear ow3
  have R4 := hid ((R2.out.low hb3).low (lowAlloc w3 (.cells #[.int .i64 (n : Int), .slice av lv cv] 30)))
  have rb4 := heap_alloc_new w3 (.cells #[.int .i64 (n : Int), .slice av lv cv] 30)
  have g0 : (w3.alloc (.cells #[.int .i64 (n : Int), .slice av lv cv] 30)).cell? ⟨w3.heap.size, 0, none⟩ = some (.int .i64 (n : Int)) := by rw [cell_of_row _ _ 0 _ _ _ rb4]; rfl
  have g1 : (w3.alloc (.cells #[.int .i64 (n : Int), .slice av lv cv] 30)).cell? ⟨w3.heap.size, 1, none⟩ = some (.slice av lv cv) := by rw [cell_of_row _ _ 1 _ _ _ rb4]; rfl
  clear rb4 o4 o5 o6
  go_wp2_with fail
  have S4 := hid ((SF.out.low hb3).low (lowAlloc w3 (.cells #[.int .i64 (n : Int), .slice av lv cv] 30)))
  have W4 := hid (own_low OW3.out (lowAlloc w3 (.cells #[.int .i64 (n : Int), .slice av lv cv] 30)))
  refine (made_ok ka ha (w1.heap.size + 1) w1.heap.size n (fun i : Nat => decide ((i : Int) ∈ zs)) (.slice av lv cv) (msR n (fun i : Nat => decide ((i : Int) ∈ zs))) w0 _ B st R4.out S4.out W4.out ⟨Nat.le_trans R1.out.lo.size HP.out, Nat.le_trans R1.out.lo.size HQ.out, fun i hi p' e' => by
    have := R1.out.lts hi e'
    have h1 := HP.out
    have h2 := HQ.out
    exact ⟨by omega, by omega⟩⟩).mono ?_
  rintro e w5 ⟨rfl, R5⟩
  have FIN := hid R5
  have KX := hid (show Ok1 ⟨.pointer (some ⟨(w1.heap.size + 1), 0, none⟩), w1.heap.size, n, (fun i : Nat => decide ((i : Int) ∈ zs)), n, .slice av lv cv, (msR n (fun i : Nat => decide ((i : Int) ∈ zs))), false⟩ from ⟨rfl, msR_is _ _, hn, (fun t ht => SF.out.cl t ht), Or.inr ⟨rfl, (w1.heap.size + 1), rfl⟩⟩)
  clear R5 g0 g1
  go_wp2_with fail
  go_ret
  exact ⟨rfl, _, FIN.out, OK.out.upd KX.out⟩
end Go.Proofs.YtkagdmhijjfnnaaDoor
