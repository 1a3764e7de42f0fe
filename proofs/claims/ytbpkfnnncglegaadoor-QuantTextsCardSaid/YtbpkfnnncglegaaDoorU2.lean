import Derived.WalkKit
import Derived.WalkSpells
import Derived.WalkLawsBesides
import Derived.Handy
import Derived.Test.YtbpkfnnncglegaaDoorProg
import Derived.OwnWalk
import Derived.Laws.AppendOwnNone
import Derived.Laws.OwnMore
import Derived.Deep.Cut
import Derived.Test.YtbpkfnnncglegaaDoorU1
namespace Go.Proofs.YtbpkfnnncglegaaDoor.L
open Go.RowKit
set_option linter.unusedVariables false
theorem hid {p : Prop} (h : p) : Hid p := h
theorem ret_bool {a b : Bool} (h : a = b) : Ending.returned (.bool a) = .returned (.bool b) := by rw [h]
theorem belowA (w : World) (o : Obj) : Below w.heap.size w (w.alloc o) := (Below.refl _ _).alloc (Nat.le_refl _) _
theorem lt_blk {W : World} {k : Nat} {o : Obj} (h : W.heap[k]? = some o) : k < W.heap.size := (Array.getElem?_eq_some_iff.1 h).1
theorem bchS {w a b : World} (h1 : Below w.heap.size w a) (h2 : Below a.heap.size a b) : Below w.heap.size w b := h1.trans (h2.mono h1.size)
abbrev OwnI (w : World) (base : Nat) (v : Value) (zs : List Int) : Prop := w.ownsRow base 3 1 v zs.length (zs.map (Value.int .i64))
theorem info3 : (Tryd.prog.info? 3).map (fun i => (i.zero, i.size, i.bytes)) = some (some (.int .i64 0), 1, 8) := by kernel_rfl
theorem own_form {w : World} {base : Nat} {v : Value} {zs : List Int} (h : OwnI w base v zs) : ∃ a cap, v = .slice a zs.length cap := by
  rcases h.2 with ⟨e, n0⟩ | ⟨g, cap, cur, e, _⟩
  · exact ⟨none, 0, by rw [e, n0]⟩
  · exact ⟨_, _, e⟩
theorem own_low {w w' : World} {base : Nat} {v : Value} {zs : List Int} (h : OwnI w base v zs) (hk : Below w.heap.size w w') : OwnI w' base v zs :=
  World.ownsRow.kept (row := none) h ⟨hk.os, hk.tape, hk.output, hk.size, fun k hkl _ => hk.block k hkl⟩ (by cases v.ownBlock <;> simp)
theorem row_ge {w : World} {base e s n : Nat} {v : Value} {xs : List Value} (h : w.ownsRow base e s v n xs) : ∀ k, v.ownBlock = some k → base ≤ k := by
  intro k hk
  rcases h.2 with ⟨rfl, _⟩ | ⟨g, cap, cur, rfl, hb, _⟩
  · cases hk
  · cases hk; exact hb
theorem own_cell {W : World} {base L : Nat} {a : Option Addr} {cap : Nat} {zs : List Int} (h : OwnI W base (.slice a L cap) zs) (hL : L = zs.length) (j : Nat) (hj : j < L) : ∃ g, a = some ⟨g, 0, none⟩ ∧ W.cell? ⟨g, j, none⟩ = some (.int .i64 (zs.getD j 0)) := by
  subst hL
  rcases h.2 with ⟨e, n0⟩ | ⟨g, cap', cur, e, hb, hg, h3, h4, h5, h6⟩
  · omega
  · cases e
    refine ⟨g, rfl, ?_⟩
    rw [World.ownsRow.cellAt h j (by omega), List.getElem?_map, List.getElem?_eq_getElem hj, List.getD_eq_getElem?_getD, List.getElem?_eq_getElem hj]
    rfl
theorem cell_one_new (w : World) (a : Value) (t : TypeId) : ∀ (j : Nat) (u : Value), [a][j]? = some u → (w.alloc (.cells #[a] t)).cell? ((⟨w.heap.size, 0, none⟩ : Addr).add j) = some u := by
  intro j u h
  rw [Go.WideShapes.add_plain]
  rw [cell_of_row (w.alloc (.cells #[a] t)) w.heap.size (0 + j) _ _ _ (heap_alloc_new w _)]
  simpa using h
/-- The digits of E, from the lowest on, m of them. -/
def dl (E m : Nat) : List Int := (List.range m).map (fun j => ((E / 10 ^ j % 10 : Nat) : Int))
theorem dl_len (E m : Nat) : (dl E m).length = m := by simp [dl]
theorem dl_succ (E m : Nat) : dl E (m + 1) = dl E m ++ [((E / 10 ^ m % 10 : Nat) : Int)] := by simp [dl, List.range_succ]
theorem dl_get (E m j : Nat) (h : j < m) : (dl E m).getD j 0 = ((E / 10 ^ j % 10 : Nat) : Int) := by
  unfold dl
  rw [List.getD_eq_getElem?_getD, List.getElem?_map, List.getElem?_range h]
  rfl
/-- One digit more is put behind a row of digits. -/
theorem wpList_dig {w : World} {ops : Array Oper} {rest : List Oper} {o : Oper} {a : Act} {Q : Exit → Act → World → Prop} (hgd : o.guard = none) (s x : Operand)
    (ho : o.op = .call { callee := .builtin .append, args := #[s, x], argTypes := #[22, 22] })
    (base : Nat) (v : Value) (E m : Nat) (d : Int) (hd : d = ((E / 10 ^ m % 10 : Nat) : Int)) (hs : a.eval s = v) (hown : OwnI w base v (dl E m)) (hx : a.eval x = .slice (some ⟨w.heap.size, 0, none⟩) 1 1) (hm : m ≤ 1000) (hbase : base ≤ w.heap.size)
    (h : ∀ v' w', OwnI w' base v' (dl E (m + 1)) → Below base w w' → w.heap.size ≤ w'.heap.size → wpList Tryd.prog ops Q rest (a.put o.dst v') w') :
    wpList Tryd.prog ops Q (o :: rest) a (w.alloc (.cells #[.int .i64 d] 3)) := by
  obtain ⟨i0, hi, hz0, hz1, hz2⟩ := info_parts info3
  have hown' : (w.alloc (.cells #[.int .i64 d] 3)).ownsRow base 3 1 v m ((dl E m).map (Value.int .i64)) := by
    have := World.ownsRow.alloc hown (.cells #[.int .i64 d] 3)
    rwa [dl_len] at this
  refine wpList_append_own _ hgd s x 22 ho base 3 i0 (.int .i64 0) 1 8 Tryd.underlying22 hi hz0 hz1 hz2 rfl (by decide) v m _ hs hown' ⟨w.heap.size, 0, none⟩ 1 1 [.int .i64 d] hx rfl (cell_one_new w _ _) (fun u hu => by simp at hu; subst hu; rfl) (by unfold maxLen; omega) (by omega) (by simp; omega) ?_
  intro v' w' ho' hg _
  have hb := ((belowA w (.cells #[.int .i64 d] 3)).mono hbase).grown hg (by simp; omega) (row_ge hown)
  refine h v' w' ?_ hb hb.size
  unfold OwnI
  rw [dl_len, dl_succ, List.map_append, ← hd]
  exact ho'
theorem tmod10 (v : Nat) : Int.tmod (v : Int) 10 = ((v % 10 : Nat) : Int) := rfl
theorem tdiv10 (v : Nat) : Int.tdiv (v : Int) 10 = ((v / 10 : Nat) : Int) := rfl
/-- The carry of a multiplication by 5 at the place i. -/
theorem carry_next {D i c : Nat} (h : D * 5 / 10 ^ i = c + 5 * (D / 10 ^ i)) : (D / 10 ^ i % 10 * 5 + c) % 10 = D * 5 / 10 ^ i % 10 ∧ D * 5 / 10 ^ (i + 1) = (D / 10 ^ i % 10 * 5 + c) / 10 + 5 * (D / 10 ^ (i + 1)) := by
  have e1 : D * 5 / 10 ^ (i + 1) = D * 5 / 10 ^ i / 10 := by rw [Nat.pow_succ, Nat.div_div_eq_div_mul]
  have e2 : D / 10 ^ (i + 1) = D / 10 ^ i / 10 := by rw [Nat.pow_succ, Nat.div_div_eq_div_mul]
  rw [e1, e2, h]
  generalize D / 10 ^ i = q
  omega
set_option maxHeartbeats 4000000 in
set_option maxRecDepth 100000 in
theorem times_any (dv : Value) (D m : Nat) (w : World) (B : Nat) (hd : OwnI w B dv (dl D m)) (hD : D < 10 ^ m) (hm : m ≤ 500) :
    Calls Tryd.prog 17 #[dv, .int .i64 5] w fun e w' => ∃ v' m', e = .returned v' ∧ OwnI w' w.heap.size v' (dl (D * 5) m') ∧ D * 5 < 10 ^ m' ∧ m' ≤ m + 1 ∧ Below w.heap.size w w' := by
  obtain ⟨a, cap, rfl⟩ := own_form hd
  have HD := hid hd
  rw [dl_len] at HD ⊢
  have HLT := hid hD
  have O0 := hid (show OwnI (w.alloc (.cells #[] 3)) w.heap.size (.slice (some ⟨w.heap.size, 0, none⟩) 0 0) (dl (D * 5) 0) from World.ownsRow_made w #[] 0 (Nat.le_refl _) (Nat.zero_le _) rfl)
  have B0 := hid (belowA w (.cells #[] 3))
  clear hd hD
  go_enter Tryd.func17, Tryd.ntmps17
  go_upto_region 2 with (fail)
  generalize w.alloc (.cells #[] 3) = X at *
  go_wp2_with fail
  go_loopw [5, 6, 7] (fun o c i wr => ∃ k cn : Nat, k ≤ m ∧ i = .int .i64 (k : Int) ∧ c = .int .i64 (cn : Int) ∧ Hid (D * 5 / 10 ^ k = cn + 5 * (D / 10 ^ k)) ∧ cn ≤ 5 ∧ Hid (OwnI wr w.heap.size o (dl (D * 5) k)) ∧ Hid (Below w.heap.size w wr)) (fun _ _ i _ => m - (intOf i).toNat)
  case atStart => exact ⟨0, 0, Nat.zero_le _, rfl, rfl, hid (by simp; omega), by omega, O0, B0⟩
  case round =>
    clear O0 B0
    obtain ⟨k, cn, hk, rfl, rfl, HC, hcn, HO, HB⟩ := hrel
    by_cases hkm : k < m
    · obtain ⟨g, rfl, hc⟩ := own_cell (own_low HD.out HB.out) (dl_len D m).symm k hkm
      rw [dl_get D m k hkm] at hc
      have HN := hid (carry_next HC.out)
      have hq : D / 10 ^ k % 10 < 10 := Nat.mod_lt _ (by decide)
      generalize D / 10 ^ k % 10 = q at *
      obtain ⟨ov, oc, rfl⟩ := own_form HO.out
      rw [dl_len] at HO ⊢
      have g1 : (k : Int) < (m : Int) := by omega
      have g2 : (0 : Int) ≤ (k : Int) := by omega
      have e1 : (q : Int) * 5 + (cn : Int) = ((q * 5 + cn : Nat) : Int) := by omega
      have e2 := tmod10 (q * 5 + cn)
      have e3 := tdiv10 (q * 5 + cn)
      have HZ := hid HB.out.size
      obtain ⟨vv, hvv⟩ : ∃ vv, vv = q * 5 + cn := ⟨_, rfl⟩
      have hv9 : vv ≤ 50 := by omega
      rw [← hvv] at e1 e2 e3 HN
      clear hvv
      have HDD := hid (show (vv : Int) % 10 = ((D * 5 / 10 ^ k % 10 : Nat) : Int) by rw [← HN.out.1]; rfl)
      go_wp2_with (at_builtin; go_loud (refine wpList_dig rfl _ _ rfl w.heap.size (.slice ov k oc) (D * 5) k _ HDD.out rfl HO.out rfl (by omega) HZ.out ?_))
      intro v' w' ho' hb' hs'
      have HO' := hid ho'
      have HB' := hid (HB.out.trans hb')
      clear ho' hb' hs'
      obtain ⟨ov', oc', rfl⟩ := own_form HO'.out
      rw [dl_len] at HO' ⊢
      go_wp2_with fail
      refine ⟨⟨k + 1, vv / 10, by omega, by go_num, rfl, hid HN.out.2, by omega, HO', HB'⟩, ?_⟩
      simp [intOf]
      omega
    · obtain rfl : k = m := by omega
      have HC2 := hid (show D * 5 / 10 ^ k = cn by
        have h := HC.out
        rw [Nat.div_eq_of_lt HLT.out] at h
        omega)
      have hc5 : cn ≤ 5 := hcn
      clear HC
      go_wp2_with fail
      go_loopw [5, 6] (fun o c wr => ∃ j cn : Nat, c = .int .i64 (cn : Int) ∧ Hid (D * 5 / 10 ^ j = cn) ∧ ((j = k ∧ cn ≤ 5) ∨ (j = k + 1 ∧ cn = 0)) ∧ Hid (OwnI wr w.heap.size o (dl (D * 5) j)) ∧ Hid (Below w.heap.size w wr)) (fun _ c _ => (intOf c).toNat)
      case atStart => exact ⟨k, cn, rfl, HC2, .inl ⟨rfl, hc5⟩, HO, HB⟩
      case round =>
        clear HO HB HC2 hc5
        obtain ⟨j, cn, rfl, HC, hj, HO, HB⟩ := hrel
        by_cases h0 : 0 < cn
        · obtain ⟨rfl, hc5⟩ : j = k ∧ cn ≤ 5 := by rcases hj with h | h <;> omega
          have g1 : (0 : Int) < (cn : Int) := by omega
          obtain ⟨ov, oc, rfl⟩ := own_form HO.out
          rw [dl_len] at HO ⊢
          have HZ := hid HB.out.size
          have HDG := hid (show D * 5 / 10 ^ j % 10 = cn % 10 by rw [HC.out])
          have HDD := hid (show (cn : Int) % 10 = ((D * 5 / 10 ^ j % 10 : Nat) : Int) by rw [HDG.out]; rfl)
          have HNX := hid (show D * 5 / 10 ^ (j + 1) = 0 by rw [Nat.pow_succ, ← Nat.div_div_eq_div_mul, HC.out]; omega)
          go_wp2_with (at_builtin; go_loud (refine wpList_dig rfl _ _ rfl w.heap.size (.slice ov j oc) (D * 5) j _ HDD.out rfl HO.out rfl (by omega) HZ.out ?_))
          intro v' w' ho' hb' hs'
          have HO' := hid ho'
          have HB' := hid (HB.out.trans hb')
          clear ho' hb' hs'
          obtain ⟨ov', oc', rfl⟩ := own_form HO'.out
          rw [dl_len] at HO' ⊢
          go_wp2_with fail
          have h10 : (cn : Int) / 10 = ((0 : Nat) : Int) := by omega
          refine ⟨⟨j + 1, 0, by rw [h10], HNX, .inr ⟨rfl, rfl⟩, HO', HB'⟩, ?_⟩
          simp [intOf]
          omega
        · obtain rfl : cn = 0 := by omega
          obtain ⟨ov, oc, rfl⟩ := own_form HO.out
          rw [dl_len] at HO ⊢
          have HL := hid (show D * 5 < 10 ^ j from by
            have hp : 0 < 10 ^ j := Nat.pow_pos (by decide)
            exact (Nat.div_eq_zero_iff_lt hp).1 HC.out)
          have HJ := hid (show j ≤ k + 1 by omega)
          go_wp2_with fail
          go_ret
          exact ⟨_, rfl, j, HO.out, HL.out, HJ.out, HB.out⟩
theorem own_mono {W : World} {base base' : Nat} {v : Value} {zs : List Int} (h : OwnI W base v zs) (hb : base' ≤ base) : OwnI W base' v zs := by
  refine ⟨h.1, ?_⟩
  rcases h.2 with e | ⟨g, cap, cur, e, hg, r⟩
  · exact .inl e
  · exact .inr ⟨g, cap, cur, e, Nat.le_trans hb hg, r⟩
set_option maxHeartbeats 4000000 in
set_option maxRecDepth 100000 in
theorem power_any (dv : Value) (D m n B : Nat) (w : World) (hd : OwnI w B dv (dl D m)) (hB : B ≤ w.heap.size) (hD : D < 10 ^ m) (hm : m + n ≤ 400) :
    Calls Tryd.prog 13 #[dv, .int .i64 5, .int .i64 (n : Int)] w fun e w' => ∃ v' m', e = .returned v' ∧ OwnI w' B v' (dl (D * 5 ^ n) m') ∧ D * 5 ^ n < 10 ^ m' ∧ m' ≤ m + n ∧ Below w.heap.size w w' := by
  have HD := hid hd
  have HLT := hid hD
  have HBB := hid hB
  obtain ⟨a, cap, rfl⟩ := own_form hd
  rw [dl_len] at HD ⊢
  clear hd hD hB
  go_enter Tryd.func13, Tryd.ntmps13
  go_wp2_with fail
  go_loopw [0, 7] (fun d i wr => ∃ k j : Nat, k ≤ n ∧ i = .int .i64 (k : Int) ∧ Hid (OwnI wr B d (dl (D * 5 ^ k) j)) ∧ Hid (D * 5 ^ k < 10 ^ j) ∧ j ≤ m + k ∧ Hid (Below w.heap.size w wr)) (fun _ i _ => n - (intOf i).toNat)
  case atStart => exact ⟨0, m, Nat.zero_le _, rfl, hid (by simpa using HD.out), hid (by simpa using HLT.out), by omega, hid (Below.refl _ _)⟩
  case round =>
    obtain ⟨k, j, hk, rfl, HO, HL, hj, HB⟩ := hrel
    by_cases hkn : k < n
    · have HT := hid (times_any u0 (D * 5 ^ k) j wr B HO.out HL.out (by omega))
      obtain ⟨a1, c1, e1⟩ := own_form HO.out
      rw [dl_len] at e1
      subst e1
      have g1 : (k : Int) < (n : Int) := by omega
      have HBW := hid (Nat.le_trans HBB.out HB.out.size)
      go_wp2_with (go_at_call 17; refine HT.out.mono ?_; rintro e w1 ⟨v', m', rfl, o1, l1, h1, b1⟩; have O1 := hid (own_mono o1 HBW.out); have L1 := hid l1; have B1' := hid (bchS HB.out b1); clear o1 l1 b1; dsimp only)
      refine ⟨⟨k + 1, m', by omega, by go_num, hid (by rw [Nat.pow_succ, ← Nat.mul_assoc]; exact O1.out), hid (by rw [Nat.pow_succ, ← Nat.mul_assoc]; exact L1.out), by omega, B1'⟩, ?_⟩
      simp [intOf]
      omega
    · obtain rfl : k = n := by omega
      go_wp2_with fail
      go_ret
      exact ⟨_, j, rfl, HO.out, HL.out, hj, HB.out⟩
end Go.Proofs.YtbpkfnnncglegaaDoor.L
