import Derived.Test.YtkagdmhijjfnnaaDoorPf2
namespace Go.Proofs.YtkagdmhijjfnnaaDoor
open Go.RowKit Bs
set_option linter.unusedVariables false
theorem and3 (n : Int) : bits .and .i64 n 3 = n % 4 := by
  have h : (BitVec.ofInt 64 3).toNat = 2 ^ 2 - 1 := by decide
  have key : (BitVec.ofInt 64 n &&& BitVec.ofInt 64 3).toNat = (n % ((2 ^ 64 : Nat) : Int)).toNat % 2 ^ 2 := by
    rw [BitVec.toNat_and, BitVec.toNat_ofInt, h, Nat.and_two_pow_sub_one_eq_mod]
  show IntKind.i64.wrap ((BitVec.ofInt 64 n &&& BitVec.ofInt 64 3).toNat : Nat) = n % 4
  rw [key, IntKind.wrap_i64]
  omega
theorem reg_of (n : Int) : ∃ k : Nat, k < 4 ∧ bits .and .i64 n 3 = (k : Int) := ⟨(n % 4).toNat, by omega, by rw [and3]; omega⟩
/-- Both sides tell one thing of a register. -/
structure Ok1 (x : RSt) : Prop where
  rn : x.rn = x.n
  is : MsOf x.n x.S x.ms
  n : x.n ≤ 65536
  bd : ∀ t, x.n ≤ t → x.S t = false
  nl : (x.nil = true ∧ x.v = .pointer none) ∨ (x.nil = false ∧ ∃ p, x.v = .pointer (some ⟨p, 0, none⟩))
def Ok (st : Nat → RSt) : Prop := ∀ i, i < 4 → Ok1 (st i)
theorem Ok.upd {st : Nat → RSt} (h : Ok st) {a : Nat} {x : RSt} (hx : Ok1 x) : Ok (upd st a x) := fun i hi => by
  by_cases d : i = a
  · subst d; rw [upd_same]; exact hx
  · rw [upd_other _ _ d]; exact h i hi
theorem Ok1.up {x : RSt} (h : Ok1 x) : Up x.ms := h.is.up
theorem Ok1.len {x : RSt} (h : Ok1 x) : x.ms.length ≤ 65536 := Nat.le_trans h.is.le h.n
/-- The operation in its box. -/
structure Ob (w W : World) (k a b c i : Int) (vL vW : Value) : Prop where
  o0 : W.cell? ⟨w.heap.size, 0, none⟩ = some (.int .i64 k)
  o1 : W.cell? ⟨w.heap.size, 1, none⟩ = some (.int .i64 a)
  o2 : W.cell? ⟨w.heap.size, 2, none⟩ = some (.int .i64 b)
  o3 : W.cell? ⟨w.heap.size, 3, none⟩ = some (.int .i64 c)
  o4 : W.cell? ⟨w.heap.size, 4, none⟩ = some (.int .i64 i)
  o5 : W.cell? ⟨w.heap.size, 5, none⟩ = some vL
  o6 : W.cell? ⟨w.heap.size, 6, none⟩ = some vW
  lt : w.heap.size < W.heap.size
theorem Ob.new (w : World) (k a b c i : Int) (vL vW : Value) : Ob w (w.alloc (.cells #[.int .i64 k, .int .i64 a, .int .i64 b, .int .i64 c, .int .i64 i, vL, vW] 37)) k a b c i vL vW := by
  have h := heap_alloc_new w (.cells #[.int .i64 k, .int .i64 a, .int .i64 b, .int .i64 c, .int .i64 i, vL, vW] 37)
  refine ⟨?_, ?_, ?_, ?_, ?_, ?_, ?_, by simp⟩
  · rw [cell_of_row _ _ 0 _ _ _ h]; rfl
  · rw [cell_of_row _ _ 1 _ _ _ h]; rfl
  · rw [cell_of_row _ _ 2 _ _ _ h]; rfl
  · rw [cell_of_row _ _ 3 _ _ _ h]; rfl
  · rw [cell_of_row _ _ 4 _ _ _ h]; rfl
  · rw [cell_of_row _ _ 5 _ _ _ h]; rfl
  · rw [cell_of_row _ _ 6 _ _ _ h]; rfl
theorem Ob.on {w W W' : World} {k a b c i : Int} {vL vW : Value} (h : Ob w W k a b c i vL vW) (hb : Below W.heap.size W W') : Ob w W' k a b c i vL vW :=
  ⟨(hb.cell (p := ⟨w.heap.size, 0, none⟩) h.lt).trans h.o0, (hb.cell (p := ⟨w.heap.size, 1, none⟩) h.lt).trans h.o1, (hb.cell (p := ⟨w.heap.size, 2, none⟩) h.lt).trans h.o2, (hb.cell (p := ⟨w.heap.size, 3, none⟩) h.lt).trans h.o3, (hb.cell (p := ⟨w.heap.size, 4, none⟩) h.lt).trans h.o4, (hb.cell (p := ⟨w.heap.size, 5, none⟩) h.lt).trans h.o5, (hb.cell (p := ⟨w.heap.size, 6, none⟩) h.lt).trans h.o6, Nat.lt_of_lt_of_le h.lt hb.size⟩
/-- A box that is none of theirs turns. -/
theorem Rg.box {w0 W W' : World} {B : Nat} {st : Nat → RSt} (h : Rg w0 W B st) {k : Nat} (c : Chg k W W') {cs : Array Value} {t : TypeId} (hk : W.heap[k]? = some (.cells cs t (0, 0))) (ht : t ≠ 74 ∧ t ≠ 59 ∧ t ≠ 3 ∧ t ≠ 33) (hw : w0.heap.size ≤ k) : Rg w0 W' B st := by
  obtain ⟨cur, hcr, hsz, r⟩ := h.bb
  refine ⟨⟨cur, (c.block B h.lt (kinds_ne hcr hk (fun e => ht.2.2.2 e.symm))).trans hcr, hsz, r⟩, fun i hi => ?_, fun i hi => ?_, h.ap, h.fa, Chg.below h.lo c hw h.lo.size, h.hB, h.t0⟩
  · rcases h.so i hi with s | ⟨p, e, s⟩
    · exact Or.inl s
    · obtain ⟨cp, hp⟩ := s.bp
      obtain ⟨cq, hq⟩ := s.bq
      exact Or.inr ⟨p, e, s.keep c (kinds_ne hp hk (fun e => ht.1 e.symm)) (kinds_ne hq hk (fun e => ht.2.1 e.symm))⟩
  · refine own_keep (h.ow i hi) c fun e => ?_
    obtain ⟨cs', hg⟩ := (h.ow i hi).kind e
    exact kinds_ne hg hk (fun e => ht.2.2.1 e.symm) rfl
/-- A fresh set and a list of one's own stay when a box is turned. -/
theorem SetAt.box {W W' : World} {p q n k : Nat} {S : Nat → Bool} (h : SetAt W p q n S) (c : Chg k W W') {cs : Array Value} {t : TypeId} (hk : W.heap[k]? = some (.cells cs t (0, 0))) (ht : t ≠ 74 ∧ t ≠ 59) : SetAt W' p q n S := by
  obtain ⟨cp, hp⟩ := h.bp
  obtain ⟨cq, hq⟩ := h.bq
  exact h.keep c (kinds_ne hp hk (fun e => ht.1 e.symm)) (kinds_ne hq hk (fun e => ht.2 e.symm))
theorem own_box {W W' : World} {base k : Nat} {v : Value} {zs : List Int} (h : OwnI W base v zs) (c : Chg k W W') {cs : Array Value} {t : TypeId} (hk : W.heap[k]? = some (.cells cs t (0, 0))) (ht : t ≠ 3) : OwnI W' base v zs :=
  own_keep h c fun e => by
    obtain ⟨cs', hg⟩ := h.kind e
    exact kinds_ne hg hk (fun e => ht e.symm) rfl
theorem pk_is {n n' m : Nat} {S T U : Nat → Bool} {A B : List Int} {al ot bo : Bool} (hA : MsOf n S A) (hB : MsOf n' T B) (bS : ∀ t, n ≤ t → S t = false) (bT : ∀ t, n' ≤ t → T t = false) (hU : ∀ i, U i = ((al && S i && !T i) || (ot && !S i && T i) || (bo && S i && T i))) (hm : ∀ i, U i = true → i < m) : MsOf m U (pk al ot bo A B) := by
  refine MsOf.of_up (pk_up hA.up hB.up) fun z => ?_
  rw [pk_mem hA.up hB.up z]
  have iA : z ∈ A ↔ ∃ a : Nat, z = a ∧ S a = true := by
    rw [hA.mem_iff]
    constructor
    · rintro ⟨a, e, _, h⟩; exact ⟨a, e, h⟩
    · rintro ⟨a, e, h⟩
      refine ⟨a, e, ?_, h⟩
      apply Classical.byContradiction; intro c
      rw [bS a (by omega)] at h; cases h
  have iB : z ∈ B ↔ ∃ a : Nat, z = a ∧ T a = true := by
    rw [hB.mem_iff]
    constructor
    · rintro ⟨a, e, _, h⟩; exact ⟨a, e, h⟩
    · rintro ⟨a, e, h⟩
      refine ⟨a, e, ?_, h⟩
      apply Classical.byContradiction; intro c
      rw [bT a (by omega)] at h; cases h
  by_cases hz : 0 ≤ z
  · obtain ⟨i, rfl⟩ : ∃ i : Nat, z = i := ⟨z.toNat, by omega⟩
    have jA : (i : Int) ∈ A ↔ S i = true := by
      rw [iA]
      constructor
      · rintro ⟨a, e, h⟩; obtain rfl : i = a := by omega
        exact h
      · intro h; exact ⟨i, rfl, h⟩
    have jB : (i : Int) ∈ B ↔ T i = true := by
      rw [iB]
      constructor
      · rintro ⟨a, e, h⟩; obtain rfl : i = a := by omega
        exact h
      · intro h; exact ⟨i, rfl, h⟩
    have jU : (∃ a : Nat, (i : Int) = a ∧ a < m ∧ U a = true) ↔ U i = true := by
      constructor
      · rintro ⟨a, e, _, h⟩; obtain rfl : i = a := by omega
        exact h
      · intro h; exact ⟨i, rfl, hm i h, h⟩
    rw [jA, jB, jU, hU i]
    cases al <;> cases ot <;> cases bo <;> cases S i <;> cases T i <;> simp
  · have nA : ¬ z ∈ A := fun c => by obtain ⟨a, e, _⟩ := iA.1 c; omega
    have nB : ¬ z ∈ B := fun c => by obtain ⟨a, e, _⟩ := iB.1 c; omega
    have nU : ¬ ∃ a : Nat, z = a ∧ a < m ∧ U a = true := fun ⟨a, e, _⟩ => by omega
    simp [nA, nB, nU]
end Go.Proofs.YtkagdmhijjfnnaaDoor
namespace Go.Proofs.YtkagdmhijjfnnaaDoor
open Go.RowKit Bs
set_option linter.unusedVariables false
set_option maxRecDepth 100000 in
set_option maxHeartbeats 8000000 in
theorem join_and (oa ob oc oi : Int) (vL vW : Value) (w0 W : World) (B : Nat) (st : Nat → RSt) (h : Rg w0 W B st) (ok : Ok st) :
    Calls Tryd.prog 49 #[.pointer (some ⟨B, 0, none⟩), .agg #[.int .i64 4, .int .i64 oa, .int .i64 ob, .int .i64 oc, .int .i64 oi, vL, vW]] W fun e w' => e = .returned (.bool true) ∧ ∃ st', Rg w0 w' B st' ∧ Ok st' := by
  obtain ⟨ka, ha, ea⟩ := reg_of oa
  obtain ⟨kb, hb, eb⟩ := reg_of ob
  obtain ⟨kc, hc, ec⟩ := reg_of oc
  have O1 := hid (Ob.new W 4 oa ob oc oi vL vW)
  have R1 := hid (h.low (lowAlloc W (.cells #[.int .i64 4, .int .i64 oa, .int .i64 ob, .int .i64 oc, .int .i64 oi, vL, vW] 37)))
  obtain ⟨ab, cb, eqb, _⟩ := own_shape (h.ow kb hb)
  obtain ⟨ac, cc, eqc, _⟩ := own_shape (h.ow kc hc)
  have BB := hid eqb
  have CC := hid eqc
  have OK := hid ok
  clear h ok eqb eqc
  have o0 := O1.out.o0
  have o1 := O1.out.o1
  have o2 := O1.out.o2
  have o3 := O1.out.o3
  go_enter Tryd.func49, Tryd.ntmps49
  go_wp2_with fail
  generalize W.alloc _ = X at *
  go_quiet (fail)
  have bX := belowT (belowDrewN nq) (lowAlloc (X.drewN nq) (.cells #[.int .i64 0, .slice none 0 0] 30))
  have O2 := hid (O1.out.on bX)
  have R2 := hid (R1.out.low bX)
  have rb2 : Hid (((X.drewN nq).alloc (.cells #[.int .i64 0, .slice none 0 0] 30)).heap[X.heap.size]? = some (.cells #[.int .i64 0, .slice none 0 0] 30)) := hid (heap_alloc_new (X.drewN nq) _)
  have p0 := O2.out.o0
  have hrw := hid (show w0.heap.size ≤ X.heap.size from R1.out.lo.size)
  have hBr := hid (show B < X.heap.size from R1.out.lt)
  clear o0 o1 o2 o3 O1 R1 bX ea eb ec
  go_wp2_with fail
  generalize (X.drewN nq).alloc _ = Z at *
  generalize X.heap.size = rb at *
  have hi : (kb : Int) < 4 := by omega
  have hj : (kc : Int) < 4 := by omega
  have hia : (ka : Int) < 4 := by omega
  obtain ⟨b0, b1, b2, b3⟩ := R2.out.cells hb
  obtain ⟨d0, d1, d2, d3⟩ := R2.out.cells hc
  rw [BB.out] at b2
  rw [CC.out] at d2
  have Y0 := hid (R2.out.low (belowDr Z))
  have rbY := hid (show Z.drew.heap[rb]? = some (.cells #[.int .i64 0, .slice none 0 0] 30) from rb2.out)
  have hBn : B ≠ rb := by have := hBr.out; omega
  go_region_held3 (fun Y => Y.cell? ⟨B, kb, none⟩ = some (st kb).v ∧ Y.cell? ⟨B, kc, none⟩ = some (st kc).v ∧ Y.cell? ⟨B, 4 + kb * 2, none⟩ = some (.int .i64 ((st kb).rn : Int)) ∧ Y.cell? ⟨B, 4 + kb * 2 + 1, none⟩ = some (.slice ab (st kb).ms.length cb) ∧ Y.cell? ⟨B, 4 + kc * 2, none⟩ = some (.int .i64 ((st kc).rn : Int)) ∧ Y.cell? ⟨B, 4 + kc * 2 + 1, none⟩ = some (.slice ac (st kc).ms.length cc))
    (first | exact ⟨b0, d0, b1, b2, d1, d2⟩ | exact T2 | exact T3 | exact ⟨(cell_oth hBn).trans ((cell_oth hBn).trans T3.1), (cell_oth hBn).trans ((cell_oth hBn).trans T3.2.1), (cell_oth hBn).trans ((cell_oth hBn).trans T3.2.2.1), (cell_oth hBn).trans ((cell_oth hBn).trans T3.2.2.2.1), (cell_oth hBn).trans ((cell_oth hBn).trans T3.2.2.2.2.1), (cell_oth hBn).trans ((cell_oth hBn).trans T3.2.2.2.2.2)⟩ | go_keep)
    (first
      | (go_at_call 19; refine (and_o _ (Y0.out.so kb hb) (Y0.out.so kc hc)).mono ?_; rintro e w2 ⟨p9, q9, rfl, fr⟩
         have Y2 := hid (Y0.out.low fr.low)
         have FR := hid fr
         have rb3 := hid ((fr.low.block rb (lt_of_block rbY.out)).trans rbY.out)
         obtain ⟨x0, x1, x2, x3⟩ := Y2.out.cells hb
         obtain ⟨y0, y1, y2, y3⟩ := Y2.out.cells hc
         rw [BB.out] at x2
         rw [CC.out] at y2
         have T2 := And.intro x0 (And.intro y0 (And.intro x1 (And.intro x2 (And.intro y1 y2))))
         clear fr)
      | (go_at_call 70; refine (dand (st kb).rn (st kc).rn ab ac cb cc (st kb).ms (st kc).ms _ (own_rd (by rw [← BB.out]; exact Y2.out.ow kb hb)) (own_rd (by rw [← CC.out]; exact Y2.out.ow kc hc)) (OK.out kb hb).len (OK.out kc hc).len).mono ?_; rintro e w3 ⟨v9, rfl, ho, hb3⟩
         have Y3 := hid (Y2.out.low hb3)
         obtain ⟨x0, x1, x2, x3⟩ := Y3.out.cells hb
         obtain ⟨y0, y1, y2, y3⟩ := Y3.out.cells hc
         rw [BB.out] at x2
         rw [CC.out] at y2
         have T3 := And.intro x0 (And.intro y0 (And.intro x1 (And.intro x2 (And.intro y1 y2))))
         have S3 := hid (FR.out.at'.low hb3)
         obtain ⟨av, lv, cv, hv⟩ := own_form9 ho
         subst hv
         have O3 := hid ho
         have rb4 := hid ((hb3.block rb (lt_of_block rb3.out)).trans rb3.out)
         have r0 : w3.cell? ⟨rb, 0, none⟩ = some (.int .i64 0) := by rw [cell_of_row _ _ 0 _ _ _ rb4.out]; rfl
         have r1 : w3.cell? ⟨rb, 1, none⟩ = some (.slice none 0 0) := by rw [cell_of_row _ _ 1 _ _ _ rb4.out]; rfl
         have f0 := frozen_of_row w3 rb 0 _ _ rb4.out
         have f1 := frozen_of_row w3 rb 1 _ _ rb4.out
         clear ho))
  go_wp2_with fail
  clear b0 b1 b2 b3 d0 d1 d2 d3 x0 x1 x2 x3 y0 y1 y2 y3 T2 T3 r0 r1 f0 f1 p0
  generalize hm9 : max (st kb).rn (st kc).rn = m9 at *
  have cg : Chg rb w3 ((w3.setCell ⟨rb, 0, none⟩ (.int .i64 (m9 : Int))).setCell ⟨rb, 1, none⟩ (.slice av lv cv)) := (Chg.setCell 0 _).trans (Chg.setCell 1 _)
  have RV := hid (Y3.out.box cg rb4.out (by decide) hrw.out)
  have SV := hid (S3.out.box cg rb4.out (by decide))
  have OV := hid (own_box O3.out cg rb4.out (by decide))
  have rbV : Hid (((w3.setCell ⟨rb, 0, none⟩ (.int .i64 (m9 : Int))).setCell ⟨rb, 1, none⟩ (.slice av lv cv)).heap[rb]? = some (.cells #[.int .i64 (m9 : Int), .slice av lv cv] 30 (0, 0))) := hid (by rw [heap_setCell_same _ rb 1 _ _ _ (heap_setCell_same w3 rb 0 _ _ _ rb4.out)]; rfl)
  have HM9 := hid hm9
  clear cg hm9
  generalize (w3.setCell ⟨rb, 0, none⟩ (.int .i64 (m9 : Int))).setCell ⟨rb, 1, none⟩ (.slice av lv cv) = V at *
  obtain ⟨m0, m1, m2, m3⟩ := RV.out.cells ha
  have z0 := RV.out.fz ka
  have z1 := RV.out.fz (4 + ka * 2)
  have z2 := RV.out.fz (4 + ka * 2 + 1)
  have z3 := RV.out.fz (12 + ka)
  have n0 : V.cell? ⟨rb, 0, none⟩ = some (.int .i64 (m9 : Int)) := by rw [cell_of_row _ _ 0 _ _ _ rbV.out]; rfl
  have n1 : V.cell? ⟨rb, 1, none⟩ = some (.slice av lv cv) := by rw [cell_of_row _ _ 1 _ _ _ rbV.out]; rfl
  go_region
  have bdd := SV.out.bound
  have hX := hid (show Ok1 ⟨.pointer (some ⟨p9, 0, none⟩), q9, max (st kb).n (st kc).n, fun i => (st kb).S i && (st kc).S i, m9, .slice av lv cv, pk false false true (st kb).ms (st kc).ms, false⟩ from ⟨by rw [← HM9.out]; rw [(OK.out kb hb).rn, (OK.out kc hc).rn], pk_is (OK.out kb hb).is (OK.out kc hc).is (OK.out kb hb).bd (OK.out kc hc).bd (fun i => by dsimp only; cases (st kb).S i <;> cases (st kc).S i <;> rfl) (fun i e => bdd i e), Nat.max_le.2 ⟨(OK.out kb hb).n, (OK.out kc hc).n⟩, (fun t ht => SV.out.cl t ht), Or.inr ⟨rfl, p9, rfl⟩⟩)
  have FIN := hid ((RV.out.setA ha ⟨.pointer (some ⟨p9, 0, none⟩), q9, max (st kb).n (st kc).n, fun i => (st kb).S i && (st kc).S i, m9, .slice av lv cv, pk false false true (st kb).ms (st kc).ms, false⟩ (Or.inr ⟨p9, rfl, SV.out⟩) (own_mono OV.out (Nat.zero_le _)) (fun p e => by
    injection e with e; injection e with e; injection e with e _ _
    subst e
    refine ⟨Nat.le_trans Y0.out.lo.size FR.out.hp, Nat.le_trans Y0.out.lo.size FR.out.hq, fun i hi _ p' e' => ?_⟩
    have := Y0.out.lts hi e'
    have h1 := FR.out.hp
    have h2 := FR.out.hq
    exact ⟨by omega, by show _ ≠ q9; omega⟩)).low (belowDr _))
  clear m0 m1 m2 m3 z0 z1 z2 z3 n0 n1 bdd
  go_wp2_with fail
  go_ret
  exact ⟨rfl, _, FIN.out, OK.out.upd hX.out⟩
end Go.Proofs.YtkagdmhijjfnnaaDoor
