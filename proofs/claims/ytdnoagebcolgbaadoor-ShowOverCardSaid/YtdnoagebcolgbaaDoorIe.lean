import Derived.Test.YtdnoagebcolgbaaDoorId
import Derived.Test.YtdnoagebcolgbaaDoorHA
namespace Go.Proofs.YtdnoagebcolgbaaDoor.L
open Go.RowKit Go.Shelf
set_option linter.unusedVariables false
theorem jn_step (KL : List (List UInt8)) (sep : List UInt8) (k : Nat) (v : List UInt8) (h : KL[k]? = some v) : Lib.join (KL.take (k + 1)) sep = (if k = 0 then Lib.join (KL.take k) sep else Lib.join (KL.take k) sep ++ sep) ++ v := by
  have hk : k < KL.length := by
    rcases Nat.lt_or_ge k KL.length with h' | h'
    · exact h'
    · rw [List.getElem?_eq_none h'] at h; cases h
  rw [List.getElem?_eq_getElem hk] at h
  cases h
  rw [List.take_succ_eq_append_getElem hk]
  by_cases e : k = 0
  · subst e
    simp [Lib.join_one, Lib.join_nil]
  · rw [if_neg e, join_snoc _ _ _ (by intro h0; have := congrArg List.length h0; rw [List.length_take, List.length_nil] at this; omega), List.append_assoc]
set_option maxHeartbeats 8000000 in
set_option maxRecDepth 100000 in
theorem rjoin_any (a : Option Addr) (T : List Pt) (cap : Nat) (p : Pt) (ka : Option Addr) (kc gt n i : Nat) (X : List (List UInt8)) (sep : List UInt8) (w : World)
    (hT : PL w a T) (hk : RdI w ka p.kids) (hin : ∀ x, x ∈ p.kids → 0 ≤ x ∧ x < i) (hi : i ≤ T.length) (hL : T.length ≤ 1000) (hl : p.kids.length ≤ 1000) (hn : i ≤ n) (hn1 : n ≤ 1000)
    (hX : ∀ j, j < i → w.cell? ⟨gt, j, none⟩ = some (.string (S (X.getD j [])))) (hgt : gt < w.heap.size) (hs : ∀ j, j < i → (X.getD j []).length ≤ 4096) (hKB : ∀ x, x ∈ ksL T X p → x.length ≤ 4098) (hsp : sep.length ≤ 10) :
    Calls Tryd.prog 37 #[.agg #[.slice a T.length cap], .agg #[.int .i64 p.kind, .string p.text, .int .i64 p.num, .slice ka p.kids.length kc], .slice (some ⟨gt, 0, none⟩) n n, .string (S sep)] w fun e w' => e = .returned (.string (S (Lib.join (ksL T X p) sep))) ∧ Below w.heap.size w w' := by
  obtain ⟨kd, tx, nu, ks⟩ := p
  simp only at *
  have HKE := hid (show ksL T X ⟨kd, tx, nu, ks⟩ = ks.map (kidL T X kd) from rfl)
  obtain ⟨m, hm⟩ : ∃ m, m = ks.length := ⟨_, rfl⟩
  obtain ⟨L, hLe⟩ : ∃ L, L = T.length := ⟨_, rfl⟩
  have HT := hid hT
  have HK := hid hk
  have HIN := hid hin
  have HN := hid hm
  have HL := hid hLe
  have HXC := hid hX
  have HGT := hid hgt
  have HS := hid hs
  have HBR := hid rbr_any
  have HKB := hid hKB
  obtain ⟨KL, hKL⟩ : ∃ KL, KL = ksL T X ⟨kd, tx, nu, ks⟩ := ⟨_, rfl⟩
  have HKL := hid (show KL = ks.map (kidL T X kd) from hKL)
  rw [← hKL] at HKB ⊢
  have HML := hid (show KL.length = m by rw [HKL.out, List.length_map, hm])
  have HSP := hid hsp
  have HBND := hid (show ∀ k, (Lib.join (KL.take k) sep).length ≤ 5000000 by
    intro k
    have := join_le 4098 (l := KL.take k) (sep := sep) (fun x hx => HKB.out x (List.mem_of_mem_take hx)) (by rw [List.length_take, HML.out]; omega) HSP.out
    omega)
  rw [← hm] at hl ⊢
  rw [← hLe] at hL hi ⊢
  clear hT hk hin hm hLe hX hgt hs hKB hKL HKE
  obtain ⟨SP, hSP⟩ : ∃ SP, SP = S sep := ⟨_, rfl⟩
  have hspz : SP.size ≤ 10 := by rw [hSP, S_size]; exact hsp
  have HSPE := hid hSP
  rw [← hSP]
  clear hSP hsp
  have HB0 := hid (belowA w (.cells #[.slice a L cap] 24))
  have HX0 := hid (Boxed.new w 24 (.slice a L cap))
  have HS0 := hid (show (w.alloc (.cells #[.slice a L cap] 24)).heap.size = w.heap.size + 1 by simp)
  go_enter Tryd.func37, Tryd.ntmps37
  go_upto_region 1 with (fail)
  generalize hY0 : w.alloc (.cells #[.slice a L cap] 24) = Y at *
  clear hY0
  have HB1 := hid (belowA Y (.cells #[.int .i64 kd, .string tx, .int .i64 nu, .slice ka m kc] 45))
  have HX1 := hid (heap_alloc_new Y (.cells #[.int .i64 kd, .string tx, .int .i64 nu, .slice ka m kc] 45))
  have HXV := hid (boxed_low HX0.out HB1.out)
  generalize hV0 : Y.alloc (.cells #[.int .i64 kd, .string tx, .int .i64 nu, .slice ka m kc] 45) = V at *
  clear hV0
  rw [HS0.out] at HX1
  have HBV := hid (show Below w.heap.size w V from bch HB0.out HB1.out)
  generalize hpb : w.heap.size + 1 = pb at *
  have HPB := hid hpb
  clear hpb HB1 HX0
  go_wp2_with fail
  go_loopw [9, 10] (fun s j wr => ∃ k : Nat, k ≤ m ∧ s = .string (S (Lib.join (KL.take k) sep)) ∧ j = .int .i64 k ∧ Hid (Below V.heap.size V wr)) (fun _ j _ => m - (intOf j).toNat)
  case atStart => exact ⟨0, Nat.zero_le _, rfl, rfl, hid (Below.refl _ _)⟩
  case round =>
    obtain ⟨k, hk, rfl, rfl, HB⟩ := hrel
    have HBW := hid (show Below w.heap.size w wr from bch HBV.out HB.out)
    have hx1 := (HB.out.block _ (lt_blk HX1.out)).trans HX1.out
    have ⟨x0, x1, x2, x3⟩ := cells4 hx1
    clear hx1 x1 x2
    by_cases hlt : k < m
    · have xt := (boxed_low HXV.out HB.out).cell
      have r1 := HK.out.low HBW.out (Nat.le_refl _)
      have r2 := HT.out.low HBW.out
      rcases r1 with h0 | ⟨b1, o1, rfl, hb1, hc1⟩
      · have := HN.out; omega
      have hkn : k < ks.length := by rw [← HN.out]; exact hlt
      have p0 := hc1 k hkn
      have hmem : ks.getD k 0 ∈ ks := by rw [List.getD_eq_getElem?_getD, List.getElem?_eq_getElem hkn]; exact List.getElem_mem hkn
      have hx := HIN.out _ hmem
      obtain ⟨x, hxe⟩ : ∃ x : Nat, ks.getD k 0 = x := ⟨(ks.getD k 0).toNat, by omega⟩
      rw [hxe] at p0 hx
      rcases r2 with h0 | ⟨b2, o2, rfl, hb2, hc2⟩
      · have := HL.out; omega
      have hxi : x < i := by omega
      obtain ⟨_, _, q0, _⟩ := hc2 x (by have := HL.out; omega)
      have q1 := (HBW.out.cell (p := ⟨gt, x, none⟩) HGT.out).trans (HXC.out x hxi)
      have hsl := HS.out x hxi
      generalize hkk : (pt T x).kind = kk at *
      generalize hu : X.getD x [] = u at *
      have HVAL := hid (show KL[k]? = some (if brB kd kk then [40] ++ (u ++ [41]) else u) by
        rw [HKL.out, List.getElem?_map, List.getElem?_eq_getElem hkn]
        have hz2 := hxe
        rw [List.getD_eq_getElem?_getD, List.getElem?_eq_getElem hkn] at hz2
        simp only [Option.getD_some] at hz2
        rw [hz2]
        simp only [Option.map_some, kidL, Int.toNat_natCast, hkk, hu])
      have HST := hid (jn_step KL sep k _ HVAL.out)
      have hab := HBND.out k
      generalize Lib.join (KL.take k) sep = al at *
      obtain ⟨A, hA⟩ : ∃ A, A = S al := ⟨_, rfl⟩
      obtain ⟨U, hU⟩ : ∃ U, U = S u := ⟨_, rfl⟩
      have hAz : A.size ≤ 5000000 := by rw [hA, S_size]; exact hab
      have hUz : U.size ≤ 4096 := by rw [hU, S_size]; exact hsl
      have HA := hid hA
      have HU := hid hU
      rw [← hU] at q1
      rw [← hA]
      have g1 : (k : Int) < (m : Int) := by omega
      have g2 : (0 : Int) ≤ (k : Int) := by omega
      have g3 : (x : Int) < (L : Int) := by have := HL.out; omega
      have g4 : (0 : Int) ≤ (x : Int) := by omega
      have g5 : (x : Int) < (n : Int) := by omega
      have HJ1 := hid (show k + 1 ≤ m by omega)
      clear hc1 hc2 hmem hx hxe hkn hkk hu hxi hA hU hab hsl
      by_cases hk0 : k = 0
      · rw [if_pos hk0] at HST
        have hk0' : ¬ (0 : Int) < (k : Int) := by omega
        clear hk0
        cases hbr : brB kd kk
        · rw [hbr] at HST
          have HBRE := hid hbr
          clear hbr
          go_upto_region 7 with (fail)
          go_region_held3 (fun Z => Z.cell? ⟨pb, 0, none⟩ = some (.int .i64 kd) ∧ Z.cell? ⟨pb, 3, none⟩ = some (.slice (some ⟨b1, o1, none⟩) m kc) ∧ Z.cell? ⟨w.heap.size, 0, none⟩ = some (.slice (some ⟨b2, o2, none⟩) L cap) ∧ Z.cell? ⟨b1, o1 + k, none⟩ = some (.int .i64 x) ∧ Z.cell? ⟨b2, o2 + x * 4, none⟩ = some (.int .i64 kk)) (first | exact ⟨x0, x3, xt, p0, q0⟩ | go_keep | assumption) (first | (go_at_call 29; refine (HBR.out _ _ _).mono ?_; rw [HBRE.out]; rintro e w1 ⟨rfl, hww⟩; have hw2 := hww.symm; clear hww; subst hw2))
          go_wp2_with fail
          refine ⟨⟨k + 1, HJ1.out, ?_, by go_num, hid HB.out.drew⟩, ?_⟩
          · congr 1
            rw [HST.out, HA.out, HU.out]
            try rw [HSPE.out]
            try rw [show (⟨#[40]⟩ : ByteArray) = S [40] from rfl]
            try rw [show (⟨#[41]⟩ : ByteArray) = S [41] from rfl]
            simp only [S_app]
            simp
          · have h3 := HJ1.out
            simp [intOf]
            omega
        · rw [hbr] at HST
          have HBRE := hid hbr
          clear hbr
          go_upto_region 7 with (fail)
          go_region_held3 (fun Z => Z.cell? ⟨pb, 0, none⟩ = some (.int .i64 kd) ∧ Z.cell? ⟨pb, 3, none⟩ = some (.slice (some ⟨b1, o1, none⟩) m kc) ∧ Z.cell? ⟨w.heap.size, 0, none⟩ = some (.slice (some ⟨b2, o2, none⟩) L cap) ∧ Z.cell? ⟨b1, o1 + k, none⟩ = some (.int .i64 x) ∧ Z.cell? ⟨b2, o2 + x * 4, none⟩ = some (.int .i64 kk)) (first | exact ⟨x0, x3, xt, p0, q0⟩ | go_keep | assumption) (first | (go_at_call 29; refine (HBR.out _ _ _).mono ?_; rw [HBRE.out]; rintro e w1 ⟨rfl, hww⟩; have hw2 := hww.symm; clear hww; subst hw2))
          go_wp2_with fail
          refine ⟨⟨k + 1, HJ1.out, ?_, by go_num, hid HB.out.drew⟩, ?_⟩
          · congr 1
            rw [HST.out, HA.out, HU.out]
            try rw [HSPE.out]
            try rw [show (⟨#[40]⟩ : ByteArray) = S [40] from rfl]
            try rw [show (⟨#[41]⟩ : ByteArray) = S [41] from rfl]
            simp only [S_app]
            simp
          · have h3 := HJ1.out
            simp [intOf]
            omega
      · rw [if_neg hk0] at HST
        have hk0' : (0 : Int) < (k : Int) := by omega
        clear hk0
        cases hbr : brB kd kk
        · rw [hbr] at HST
          have HBRE := hid hbr
          clear hbr
          go_upto_region 7 with (fail)
          go_region_held3 (fun Z => Z.cell? ⟨pb, 0, none⟩ = some (.int .i64 kd) ∧ Z.cell? ⟨pb, 3, none⟩ = some (.slice (some ⟨b1, o1, none⟩) m kc) ∧ Z.cell? ⟨w.heap.size, 0, none⟩ = some (.slice (some ⟨b2, o2, none⟩) L cap) ∧ Z.cell? ⟨b1, o1 + k, none⟩ = some (.int .i64 x) ∧ Z.cell? ⟨b2, o2 + x * 4, none⟩ = some (.int .i64 kk)) (first | exact ⟨x0, x3, xt, p0, q0⟩ | go_keep | assumption) (first | (go_at_call 29; refine (HBR.out _ _ _).mono ?_; rw [HBRE.out]; rintro e w1 ⟨rfl, hww⟩; have hw2 := hww.symm; clear hww; subst hw2))
          go_wp2_with fail
          refine ⟨⟨k + 1, HJ1.out, ?_, by go_num, hid HB.out.drew⟩, ?_⟩
          · congr 1
            rw [HST.out, HA.out, HU.out]
            try rw [HSPE.out]
            try rw [show (⟨#[40]⟩ : ByteArray) = S [40] from rfl]
            try rw [show (⟨#[41]⟩ : ByteArray) = S [41] from rfl]
            simp only [S_app]
            simp
          · have h3 := HJ1.out
            simp [intOf]
            omega
        · rw [hbr] at HST
          have HBRE := hid hbr
          clear hbr
          go_upto_region 7 with (fail)
          go_region_held3 (fun Z => Z.cell? ⟨pb, 0, none⟩ = some (.int .i64 kd) ∧ Z.cell? ⟨pb, 3, none⟩ = some (.slice (some ⟨b1, o1, none⟩) m kc) ∧ Z.cell? ⟨w.heap.size, 0, none⟩ = some (.slice (some ⟨b2, o2, none⟩) L cap) ∧ Z.cell? ⟨b1, o1 + k, none⟩ = some (.int .i64 x) ∧ Z.cell? ⟨b2, o2 + x * 4, none⟩ = some (.int .i64 kk)) (first | exact ⟨x0, x3, xt, p0, q0⟩ | go_keep | assumption) (first | (go_at_call 29; refine (HBR.out _ _ _).mono ?_; rw [HBRE.out]; rintro e w1 ⟨rfl, hww⟩; have hw2 := hww.symm; clear hww; subst hw2))
          go_wp2_with fail
          refine ⟨⟨k + 1, HJ1.out, ?_, by go_num, hid HB.out.drew⟩, ?_⟩
          · congr 1
            rw [HST.out, HA.out, HU.out]
            try rw [HSPE.out]
            try rw [show (⟨#[40]⟩ : ByteArray) = S [40] from rfl]
            try rw [show (⟨#[41]⟩ : ByteArray) = S [41] from rfl]
            simp only [S_app]
            simp
          · have h3 := HJ1.out
            simp [intOf]
            omega
    · obtain rfl : k = m := by omega
      go_wp2_with fail
      go_ret
      refine ⟨?_, HBW.out⟩
      rw [← HML.out, List.take_length]
      rfl
end Go.Proofs.YtdnoagebcolgbaaDoor.L
