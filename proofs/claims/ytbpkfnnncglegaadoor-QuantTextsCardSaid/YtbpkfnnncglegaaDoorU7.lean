import Derived.Test.YtbpkfnnncglegaaDoorU6
import Derived.Test.YtbpkfnnncglegaaDoorLayN
import Derived.Test.YtbpkfnnncglegaaDoorLayU
import Derived.Lib.LaidTab
namespace Go.Proofs.YtbpkfnnncglegaaDoor.L
open Go.RowKit Go.Shelf
set_option linter.unusedVariables false
def TabW (w : World) : Prop := Lib.TabIs Tryd.prog w "internal/strconv.uint64pow10" .u64 Lib.pow10Tab
theorem var_low {w w' : World} {name : String} {x : Array Value} (h : w.var? Tryd.prog name = some x) (hb : Below w.heap.size w w') : w'.var? Tryd.prog name = some x := by
  unfold World.var? at h ⊢
  cases e : Tryd.prog.globalNamed name with
  | none => rw [e] at h; cases h
  | some g =>
    rw [e] at h
    simp only [Option.bind_some] at h ⊢
    have hlt : g < w.heap.size := by
      apply Classical.byContradiction
      intro n
      rw [Array.getElem?_eq_none (by omega)] at h
      cases h
    rw [hb.block g hlt]
    exact h
theorem TabW.low {w w' : World} (h : TabW w) (hb : Below w.heap.size w w') : TabW w' := var_low h hb
theorem below_grow (w : World) (k : Nat) (os : Array Obj) : Below w.heap.size w (Sort.grow (w.drewN k) os) := by
  refine ⟨rfl, rfl, rfl, ?_, fun j hj => ?_⟩
  · show w.heap.size ≤ (w.heap ++ os).size
    simp
  · show (w.heap ++ os)[j]? = _
    rw [Array.getElem?_append_left hj]
theorem itoa_any (n : Nat) (h1 : n ≤ 9223372036854775807) (w : World) (hv : TabW w) : Calls Tryd.prog 7 #[.int .i64 (n : Int)] w fun e w' => e = .returned (.string (S (Lib.decDigits n))) ∧ Below w.heap.size w w' := by
  refine (show Calls Tryd.prog 7 _ _ _ from Any.strconv_Itoa laysM171 (n : Int) (by omega) (by omega) w hv).mono ?_
  rintro e w' ⟨rfl, k, os, rfl⟩
  refine ⟨?_, below_grow w k os⟩
  have : Lib.itoa (n : Int) = Lib.decDigits n := by
    unfold Lib.itoa
    rw [if_neg (by omega)]
    rfl
  rw [this]
set_option maxHeartbeats 4000000 in
theorem apu_any (u : Nat) (hu : u < 18446744073709551616) (w : World) (hv : TabW w) : Calls Tryd.prog 12 #[.slice none 0 0, .int .u64 (u : Int), .int .i64 10] w fun e w' => ∃ v', e = .returned v' ∧ OwnB w' w.heap.size v' (Lib.decDigits u) ∧ Below w.heap.size w w' := by
  have HC := hid (show Calls Tryd.prog 16 #[.slice none 0 0, .int .u64 (u : Int), .int .i64 10] w fun e w' => ∃ v', e = .returned v' ∧ OwnB w' w.heap.size v' (Lib.decDigits u) ∧ Below w.heap.size w w' by
    refine (show Calls Tryd.prog 16 _ _ _ from Any.internal_strconv_AppendUint_10 laysM288 w.heap.size 0 u hu (.slice none 0 0) [] w (World.ownsRow_nil _ _ _ _) (Nat.le_refl _) (by omega) hv).mono ?_
    rintro e w' ⟨v', rfl, ho, hb, _⟩
    refine ⟨v', rfl, ?_, hb⟩
    rw [Nat.zero_add, List.nil_append] at ho
    exact ho)
  clear hv
  go_enter Tryd.func12, Tryd.ntmps12
  go_wp2_with (go_at_call 16; refine HC.out.mono ?_; rintro e w1 ⟨v1, rfl, o1, b1⟩; have O1 := hid o1; have B1 := hid b1; clear o1 b1; obtain ⟨a1, c1, rfl⟩ := ownb_form O1.out; dsimp only)
  go_ret
  exact ⟨_, rfl, O1.out, B1.out⟩
theorem infoB : (Tryd.prog.info? 5).map (fun i => (i.zero, i.size, i.bytes)) = some (some (.int .u8 0), 1, 1) := by kernel_rfl
/-- One byte more is put behind a row of bytes. -/
theorem wpList_byte {w : World} {ops : Array Oper} {rest : List Oper} {o : Oper} {a : Act} {Q : Exit → Act → World → Prop} (hgd : o.guard = none) (s x : Operand)
    (ho : o.op = .call { callee := .builtin .append, args := #[s, x], argTypes := #[38, 38] })
    (base : Nat) (v : Value) (l : List UInt8) (c : UInt8) (d : Int) (hd : d = iv c) (hs : a.eval s = v) (hown : OwnB w base v l) (hx : a.eval x = .slice (some ⟨w.heap.size, 0, none⟩) 1 1) (hm : l.length ≤ 1000) (hbase : base ≤ w.heap.size)
    (h : ∀ v' w', OwnB w' base v' (l ++ [c]) → Below base w w' → wpList Tryd.prog ops Q rest (a.put o.dst v') w') :
    wpList Tryd.prog ops Q (o :: rest) a (w.alloc (.cells #[.int .u8 d] 5)) := by
  obtain ⟨i0, hi, hz0, hz1, hz2⟩ := info_parts infoB
  have hown' := World.ownsRow.alloc hown (.cells #[.int .u8 d] 5)
  refine wpList_append_own _ hgd s x 38 ho base 5 i0 (.int .u8 0) 1 1 Tryd.underlying38 hi hz0 hz1 hz2 rfl (by decide) v l.length _ hs hown' ⟨w.heap.size, 0, none⟩ 1 1 [.int .u8 d] hx rfl (cell_one_new w _ _) (fun u hu => by simp at hu; subst hu; rfl) (by unfold maxLen; omega) (by omega) (by simp; omega) ?_
  intro v' w' ho' hg _
  have hb := ((belowA w (.cells #[.int .u8 d] 5)).mono hbase).grown hg (by simp; omega) (row_ge hown)
  refine h v' w' ?_ hb
  unfold OwnB
  rw [List.length_append, byteCells_eq, List.map_append]
  rw [byteCells_eq] at ho'
  rw [hd] at ho'
  exact ho'
theorem ownb_low {w w' : World} {base : Nat} {v : Value} {zs : List UInt8} (h : OwnB w base v zs) (hk : Below w.heap.size w w') : OwnB w' base v zs :=
  World.ownsRow.kept (row := none) h ⟨hk.os, hk.tape, hk.output, hk.size, fun k hkl _ => hk.block k hkl⟩ (by cases v.ownBlock <;> simp)
theorem tdivN (a b : Nat) : Int.tdiv (a : Int) (b : Int) = ((a / b : Nat) : Int) := rfl
theorem tmodN (a b : Nat) : Int.tmod (a : Int) (b : Int) = ((a % b : Nat) : Int) := rfl
theorem ediv_N (a b : Nat) : (a : Int) / (b : Int) = ((a / b : Nat) : Int) := rfl
theorem emod_N (a b : Nat) : (a : Int) % (b : Int) = ((a % b : Nat) : Int) := rfl
theorem cell2 {W : World} {N : Nat} {a b : Value} {ty : TypeId} (h : W.heap[N]? = some (.cells #[a, b] ty (0, 0))) : W.cell? ⟨N, 0, none⟩ = some a ∧ W.cell? ⟨N, 1, none⟩ = some b := by
  constructor
  · rw [cell_of_row W N 0 _ _ _ h]; rfl
  · rw [cell_of_row W N 1 _ _ _ h]; rfl
set_option maxHeartbeats 8000000 in
set_option maxRecDepth 100000 in
theorem inu_loop (w X : World) (xb sl scp ln wt M p low D : Nat) (sa : Option Addr) (ut hd tot : List UInt8) {t0 t1 t2 t4 t7 t8 t9 t10 t11 t12 t13 t14 t15 t16 t17 t18 t19 t20 t21 t22 t23 t24 t25 t26 t27 t28 t29 t30 t31 t32 t33 t34 t35 t36 t37 t38 t39 t40 t41 t42 : Value}
    (hx : X.heap[xb]? = some (.cells #[.string (S ut), .int .u64 (wt : Int)] 33 (0, 0))) (hxl : w.heap.size ≤ xb) (hO : OwnB X (xb + 1) (.slice sa sl scp) hd) (hsl : sl = hd.length) (hR : Rst D p wt M 0 ln) (hlw : Lw D p low) (htot : hd ++ rng D low (p - low) = tot) (ht : tot.length ≤ 200) (hut : ut.length ≤ 2) (hw : wt ≤ 1152921504606846976) (hlow : Below w.heap.size w X) :
    Code.wp Tryd.prog (rtC (rtC (rtC (rtC (Option.getD Tryd.f8.body Code.skip))))) (bodyPost Tryd.prog Tryd.f8 (fun e w' => e = .returned (.string (S (tot ++ ut))) ∧ Below w.heap.size w w')) { tmps := #[t0, t1, t2, .pointer (some ⟨xb, 0, none⟩), t4, .slice sa sl scp, .int .u64 (ln : Int), t7, t8, t9, t10, t11, t12, t13, t14, t15, t16, t17, t18, t19, t20, t21, t22, t23, t24, t25, t26, t27, t28, t29, t30, t31, t32, t33, t34, t35, t36, t37, t38, t39, t40, t41, t42], defers := [] } X := by
  simp only [rtC, Option.getD, Tryd.f8]
  have hwt0 : ¬ ((wt : Int) = 0) := by have := hR.pos; omega
  have HX := hid hx
  have HXL := hid hxl
  have I0 := hid (show OwnB X (xb + 1) (.slice sa sl scp) hd ∧ Rst D p wt M 0 ln ∧ hd ++ rng D low (p - low - 0) = tot ∧ Below (xb + 1) X X from ⟨hO, hR, htot, Below.refl _ _⟩)
  have HLW := hid hlw
  have HLE := hid hlw.le
  have HL0 := hid hlow
  have hll : ln < wt := hR.lt
  have HTL := hid ht
  have hs2 : ut.length ≤ 2 := hut
  have HXS := hid (lt_blk hx)
  clear hx hO hR hlw htot hlow hxl ht
  go_wp2_with fail
  go_loopw [5, 6] (fun s l wr => ∃ (hd : List UInt8) (t ln k c : Nat) (a : Option Addr), l = .int .u64 (ln : Int) ∧ s = .slice a k c ∧ k = hd.length ∧ t ≤ p - low ∧ ln < wt ∧ Hid (OwnB wr (xb + 1) (.slice a k c) hd ∧ Rst D p wt M t ln ∧ hd ++ rng D low (p - low - t) = tot ∧ Below (xb + 1) X wr)) (fun s _ _ => match s with | .slice _ k _ => tot.length - k | _ => 0)
  case atStart => exact ⟨hd, 0, ln, sl, scp, sa, rfl, rfl, hsl, Nat.zero_le _, hll, I0⟩
  case round =>
    clear I0 hsl hll
    obtain ⟨hd, t, ln, k, c, a, rfl, rfl, hk, ht, hll, HI⟩ := hrel
    have ⟨x0, x1⟩ := cell2 ((HI.out.2.2.2.block _ (Nat.lt_succ_self xb)).trans HX.out)
    have HLN := hid (show k + (p - low - t) = tot.length by
      have h := congrArg List.length HI.out.2.2.1
      rw [List.length_append, rng_len] at h
      omega)
    have HKE := hid hk
    have hk1000 : hd.length ≤ 1000 := by have := HLN.out; have := HTL.out; omega
    clear hk
    by_cases hl : 0 < ln
    · have htl : t < p - low := by
        apply Classical.byContradiction
        intro h1
        have h2 : p - t = low := by have := HLE.out; omega
        have h3 := (HI.out.2.1.zero (by omega)).2 (by rw [h2]; exact HLW.out.dvd)
        omega
      have HDG := hid (HI.out.2.1.digit (by omega))
      have HNX := hid HI.out.2.1.next
      have hq10 : D / 10 ^ (p - 1 - t) % 10 < 10 := Nat.mod_lt _ (by decide)
      have HRG := hid (show rng D low (p - low - t) = dgt D (p - 1 - t) :: rng D low (p - low - (t + 1)) by
        have e : p - low - t = (p - low - (t + 1)) + 1 := by omega
        rw [e]
        show dgt D (low + (p - low - (t + 1))) :: _ = _
        have : low + (p - low - (t + 1)) = p - 1 - t := by have := HLE.out; omega
        rw [this])
      have HIV := hid (dgt_iv D (p - 1 - t))
      rw [← HDG.out] at HIV hq10
      have hnl : ln * 10 % wt < wt := Nat.mod_lt _ (by omega)
      have g1 : (0 : Int) < (ln : Int) := by omega
      have e0 : (ln : Int) * 10 = ((ln * 10 : Nat) : Int) := by omega
      have e1 := tdivN (ln * 10) wt
      have e2 := tmodN (ln * 10) wt
      have e3 := ediv_N (ln * 10) wt
      have e4 := emod_N (ln * 10) wt
      have hl10 : ln * 10 ≤ 11529215046068469760 := by omega
      have HOA := hid HI.out.1
      have HZ := hid (show xb + 1 ≤ wr.heap.size by have := HI.out.2.2.2.size; have := HXS.out; omega)
      generalize ln * 10 / wt = q at *
      generalize ln * 10 % wt = ln2 at *
      generalize ln * 10 = l10 at *
      generalize dgt D (p - 1 - t) = cy at HRG HIV
      have er := wrap8 q hq10
      have er2 : IntKind.u8.wrap (q : Int) = (q : Int) := by unfold IntKind.wrap; simp [IntKind.bits, IntKind.signed]; omega
      go_wp2_with (at_builtin; go_loud (refine wpList_byte rfl _ _ rfl (xb + 1) (.slice a k c) hd cy _ HIV.out.symm rfl HOA.out rfl hk1000 HZ.out ?_))
      intro v' w' ho' hb'
      have HO' := hid ho'
      have HB' := hid (HI.out.2.2.2.trans hb')
      have ⟨y0, y1⟩ := cell2 (((HI.out.2.2.2.trans hb').block _ (Nat.lt_succ_self xb)).trans HX.out)
      clear ho' hb'
      obtain ⟨ov', oc', rfl⟩ := ownb_form HO'.out
      have hlen : (hd ++ [cy]).length = k + 1 := by rw [List.length_append, ← HKE.out]; rfl
      rw [hlen] at HO' ⊢
      go_wp2_with fail
      refine ⟨⟨hd ++ [cy], t + 1, ln2, k + 1, _, _, rfl, rfl, hlen.symm, by omega, hnl, hid ⟨HO'.out, HNX.out, by rw [← HI.out.2.2.1, HRG.out]; simp, HB'.out⟩⟩, ?_⟩
      show tot.length - (k + 1) < tot.length - k
      have := HLN.out
      omega
    · obtain rfl : ln = 0 := by omega
      have htl : t = p - low := by
        have h1 := (HI.out.2.1.zero (by omega)).1 rfl
        apply Classical.byContradiction
        intro h2
        rcases HLW.out.no with h3 | h3
        · omega
        · exact h3 (Nat.dvd_trans (Nat.pow_dvd_pow 10 (show low + 1 ≤ p - t by omega)) h1)
      have HHD := hid (show hd = tot by
        have h := HI.out.2.2.1
        rw [htl, Nat.sub_self] at h
        rw [← h]
        simp [rng])
      have hcv := conv_own HI.out.1
      have HLA := hid (HL0.out.trans (HI.out.2.2.2.mono (show w.heap.size ≤ xb + 1 by have := HXL.out; omega)))
      have hlb : ¬ (9223372036854775807 < hd.length + ut.length) := by have := HLN.out; have := HTL.out; omega
      clear htl
      go_wp2_with fail
      go_ret
      refine ⟨?_, HLA.out⟩
      show Ending.returned (.string (S hd ++ S ut)) = _
      rw [S_app, HHD.out]
set_option maxHeartbeats 8000000 in
set_option maxRecDepth 100000 in
theorem inunit_any (n wt M p low : Nat) (ut : List UInt8) (hn : n ≤ 9223372036854775807) (hM : wt * M = 10 ^ p) (hw0 : 0 < wt) (hw : wt ≤ 1152921504606846976) (hp : p ≤ 60) (hlw : Lw (n * M) p low) (hut : ut.length ≤ 2) (w : World) (hv : TabW w) :
    Calls Tryd.prog 8 #[.int .u64 (n : Int), .agg #[.string (S ut), .int .u64 (wt : Int)]] w fun e w' => e = .returned (.string (S (Lib.decDigits (n / wt) ++ frB (n * M) p low ++ ut))) ∧ Below w.heap.size w w' := by
  have R0 := Rst.first (n := n) hM hw0
  have HZ0 := R0.zero (Nat.zero_le p)
  have HR0 := hid R0
  have HBB := hid (belowA w (.cells #[.string (S ut), .int .u64 (wt : Int)] 33))
  have HXX := hid (heap_alloc_new w (.cells #[.string (S ut), .int .u64 (wt : Int)] 33))
  have hun : n / wt ≤ 9223372036854775807 := Nat.le_trans (Nat.div_le_self _ _) hn
  have hln : n % wt < wt := Nat.mod_lt _ hw0
  have HAP := hid (fun W h => apu_any (n / wt) (by omega) W h)
  have HDL := hid (dec19 hun)
  have e1 := tdivN n wt
  have e2 := tmodN n wt
  have e3 := ediv_N n wt
  have e4 := emod_N n wt
  have HFR := hid (show (0 < n % wt ↔ low < p) by
    constructor
    · intro h
      apply Classical.byContradiction
      intro h1
      have h2 : low = p := by have := hlw.le; omega
      have h3 := hlw.dvd
      rw [h2] at h3
      have := HZ0.2 (by simpa using h3)
      omega
    · intro h
      apply Classical.byContradiction
      intro h1
      have h2 := HZ0.1 (by omega)
      rcases hlw.no with h3 | h3
      · omega
      · exact h3 (Nat.dvd_trans (Nat.pow_dvd_pow 10 (show low + 1 ≤ p by omega)) (by simpa using h2)))
  generalize n / wt = un at *
  generalize n % wt = ln at *
  generalize n * M = D at *
  have HLW := hid hlw
  have HV := hid (hv.low HBB.out)
  have hwt0 : ¬ ((wt : Int) = 0) := by omega
  have hs2 : (S ut).size ≤ 2 := by rw [S_size]; exact hut
  have HUT := hid hut
  clear hv hlw HZ0 R0
  go_enter Tryd.func8, Tryd.ntmps8
  go_upto_region 1 with (fail)
  have HSZ := hid (show (w.alloc (.cells #[.string (S ut), .int .u64 (wt : Int)] 33)).heap.size = w.heap.size + 1 by simp)
  generalize w.alloc (.cells #[.string (S ut), .int .u64 (wt : Int)] 33) = X at *
  have ⟨x0, x1⟩ := cell2 HXX.out
  go_upto_region 2 with (go_at_call 12; refine (HAP.out _ HV.out).mono ?_; rintro e w1 ⟨v1, rfl, o1, b1⟩; have O1 := hid o1; have B1 := hid b1; clear o1 b1; obtain ⟨a1, c1, rfl⟩ := ownb_form O1.out; dsimp only)
  have ⟨y0, y1⟩ := cell2 ((B1.out.block _ (lt_blk HXX.out)).trans HXX.out)
  have HY := hid ((B1.out.block _ (lt_blk HXX.out)).trans HXX.out)
  have HXS := hid (show X.heap.size = w.heap.size + 1 from HSZ.out)
  rw [HXS.out] at O1 B1
  clear x0 x1
  obtain ⟨dd, hdd⟩ : ∃ dd, dd = Lib.decDigits un := ⟨_, rfl⟩
  rw [← hdd] at O1 HDL ⊢
  have hdl : dd.length ≤ 1000 := by have := HDL.out; omega
  have HDE := hid hdd
  clear hdd
  obtain ⟨k1, hk1⟩ : ∃ k1, k1 = dd.length := ⟨_, rfl⟩
  have HK1 := hid hk1
  rw [← hk1] at O1 ⊢
  clear hk1
  by_cases hl : 0 < ln
  · have hlp := HFR.out.1 hl
    have HTT := hid (show dd ++ frB D p low = (dd ++ [46]) ++ rng D low (p - low) by unfold frB; rw [if_pos hlp]; simp)
    have g1 : (0 : Int) < (ln : Int) := by omega
    have HZ := hid (show w.heap.size + 1 ≤ w1.heap.size by have := B1.out.size; rw [HXS.out] at this; exact this)
    have HOA := hid (show OwnB w1 (w.heap.size + 1) (.slice a1 k1 c1) dd from O1.out)
    have H46 := hid (show (46 : Int) = iv 46 from rfl)
    go_upto_region 3 with (fail)
    rename_i KK aK K2 aK2
    have HKK := hid aK
    clear aK
    go_wp2_with (at_builtin; go_loud (refine wpList_byte rfl _ _ rfl (w.heap.size + 1) (.slice a1 k1 c1) dd 46 _ H46.out rfl HOA.out rfl hdl HZ.out ?_))
    intro v' w' ho' hb'
    have HO' := hid ho'
    have HB' := hid hb'
    clear ho' hb'
    obtain ⟨ov', oc', rfl⟩ := ownb_form HO'.out
    go_wp2_with fail
    refine HKK.out _ _ ?_
    refine inu_loop w w' w.heap.size _ _ ln wt M p low D _ ut (dd ++ [46]) (Lib.decDigits un ++ frB D p low) ((HB'.out.block _ (Nat.lt_succ_self _)).trans HY.out) (Nat.le_refl _) HO'.out rfl HR0.out HLW.out (by rw [← HDE.out, HTT.out]) ?_ HUT.out hw ?_
    · rw [← HDE.out, HTT.out, List.length_append, List.length_append, rng_len]
      have := HDL.out
      have : ([46] : List UInt8).length = 1 := rfl
      omega
    · exact (bchS HBB.out (by rw [HXS.out]; exact B1.out)).trans (HB'.out.mono (Nat.le_succ _))
  · have hlp : ¬ low < p := fun h => hl (HFR.out.2 h)
    have HTT := hid (show dd ++ frB D p low = dd by unfold frB; rw [if_neg hlp, List.append_nil])
    obtain rfl : ln = 0 := by omega
    have HOA := hid (show OwnB w1 (w.heap.size + 1) (.slice a1 k1 c1) dd from O1.out)
    go_upto_region 3 with (fail)
    rename_i KK aK K2 aK2
    have HKK := hid aK
    clear aK
    go_wp2_with fail
    refine HKK.out _ _ ?_
    refine inu_loop w w1 w.heap.size k1 c1 0 wt M p low D _ ut dd (Lib.decDigits un ++ frB D p low) HY.out (Nat.le_refl _) HOA.out HK1.out HR0.out HLW.out ?_ ?_ HUT.out hw ?_
    · have : p - low = 0 := by omega
      rw [← HDE.out, HTT.out, this]
      simp [rng]
    · rw [← HDE.out, HTT.out]
      have := HDL.out
      omega
    · exact bchS HBB.out (by rw [HXS.out]; exact B1.out)
end Go.Proofs.YtbpkfnnncglegaaDoor.L
