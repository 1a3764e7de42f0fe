import Derived.Test.YtnclpdgbjefpmaaJa
namespace Go.Proofs.Ytnclpdgbjefpmaa.L
open Go.RowKit
set_option linter.unusedVariables false
set_option linter.unusedSimpArgs false
set_option maxHeartbeats 1000000 in
set_option maxRecDepth 100000 in
theorem dsgn_bad {g : Nat} {a : Option Addr} {cap : Nat} {B : List UInt8} {W : World} {k c p : Nat} (h : Dm g a cap B W k c p) (hc : c ≠ 0) :
    Calls Try.prog 71 #[.pointer (some ⟨g, 0, none⟩)] W fun e w' => e = .returned (.int .i64 0) ∧ w' = W := by
  have HC := hid (dcnt_bad h hc 0 2000000000000000000)
  clear h
  go_enter Try.func71, Try.ntmps71
  go_wp2_with fail
  refine HC.out.mono ?_
  rintro e w1 ⟨rfl, rfl⟩
  go_wp2_with fail
  go_ret
  exact ⟨rfl, rfl⟩
set_option maxHeartbeats 1000000 in
set_option maxRecDepth 100000 in
theorem dsgn_any {g : Nat} {a : Option Addr} {cap : Nat} {B : List UInt8} {W : World} {k : Nat} (h : Dm g a cap B W k 0 0) :
    Calls Try.prog 71 #[.pointer (some ⟨g, 0, none⟩)] W (Do (α := Int) g a cap B (fun (z : Int) v _ => v = .int .i64 z) (fun v _ => v = .int .i64 0) (sgnC.P B k) W) := by
  have HC := hid (dcnt_any h 0 2000000000000000000 (by decide) (by decide))
  rw [sgnC_P]
  obtain ⟨r, hr⟩ : ∃ r, r = cntD B k 0 2000000000000000000 9 0 k 0 := ⟨_, rfl⟩
  rw [← hr] at HC ⊢
  cases r with
  | error x =>
    obtain ⟨c, p⟩ := x
    clear hr h
    go_enter Try.func71, Try.ntmps71
    go_wp2_with fail
    refine HC.out.mono ?_
    rintro e w1 ⟨v, k', rfl, rfl, h0, h1, h2⟩
    have HF := hid h1
    have HGB := hid h2
    have HC0 := hid h0
    clear h1 h2 h0
    go_wp2_with fail
    go_ret
    exact ⟨_, k', rfl, rfl, HC0.out, HF.out, HGB.out⟩
  | ok x =>
    obtain ⟨n, k1⟩ := x
    have hle := (cntD_le hr.symm).2
    clear hr h
    have e1 := tmodN n 2
    have e2 := tdivN n 2
    show Calls _ _ _ _ (Do (α := Int) g a cap B (fun (z : Int) v _ => v = .int .i64 z) (fun v _ => v = .int .i64 0) (.ok (unz n, k1)) W)
    by_cases hod : n % 2 = 1
    · have e3 : (n : Int) % 2 = 1 := by omega
      have HU := hid (show unz n = (-(((n + 1) / 2 : Nat) : Int)) from by unfold unz; rw [if_pos hod])
      have HOD := hid hod
      clear hod
      go_enter Try.func71, Try.ntmps71
      go_wp2_with fail
      refine HC.out.mono ?_
      rintro e w1 ⟨v, rfl, rfl, h1, h2⟩
      have HR1 := hid h1
      have HGB := hid h2
      clear h1 h2
      go_wp2_with fail
      go_ret
      exact ⟨_, rfl, congrArg (Value.int .i64) (show _ = unz n from by rw [HU.out]; have := HOD.out; (try unfold wrap64); omega), HR1.out, HGB.out⟩
    · have e3 : (n : Int) % 2 = 0 := by omega
      have HU := hid (show unz n = ((n / 2 : Nat) : Int) from by unfold unz; rw [if_neg hod])
      clear hod
      go_enter Try.func71, Try.ntmps71
      go_wp2_with fail
      refine HC.out.mono ?_
      rintro e w1 ⟨v, rfl, rfl, h1, h2⟩
      have HR1 := hid h1
      have HGB := hid h2
      clear h1 h2
      go_wp2_with fail
      go_ret
      exact ⟨_, rfl, by rw [HU.out]; first | rfl | simp, HR1.out, HGB.out⟩
set_option maxHeartbeats 1000000 in
set_option maxRecDepth 100000 in
theorem dtxt_bad {g : Nat} {a : Option Addr} {cap : Nat} {B : List UInt8} {W : World} {k c p : Nat} (h : Dm g a cap B W k c p) (hc : c ≠ 0) :
    Calls Try.prog 70 #[.pointer (some ⟨g, 0, none⟩)] W fun e w' => e = .returned (.string ⟨#[]⟩) ∧ w' = W := by
  have HC := hid (dcnt_bad h hc 0 127)
  have c2 : W.cell? ⟨g, 2, none⟩ = some (.int .i64 (c : Int)) := cell_of_row _ _ 2 _ _ _ h.box
  have h1 : ((c : Int) != 0) = true := by simpa using hc
  have h2 : ((c : Int) == 0) = false := by simpa using hc
  clear h
  go_enter Try.func70, Try.ntmps70
  go_wp2_with fail
  refine HC.out.mono ?_
  rintro e w1 ⟨rfl, hw⟩
  subst hw
  go_wp2_with fail
  go_ret
  exact ⟨rfl, rfl⟩
set_option maxHeartbeats 1000000 in
set_option maxRecDepth 100000 in
theorem dtxt_any {g : Nat} {a : Option Addr} {cap : Nat} {B : List UInt8} {W : World} {k : Nat} (h : Dm g a cap B W k 0 0) :
    Calls Try.prog 70 #[.pointer (some ⟨g, 0, none⟩)] W (Do (α := ByteArray) g a cap B (fun (s : ByteArray) v _ => v = .string s) (fun v _ => v = .string ⟨#[]⟩) (textC.P B k) W) := by
  have HC := hid (dcnt_any h 0 127 (by decide) (by decide))
  have hlen := h.len
  have hcpl := h.cpl
  have hcpm := h.cpm
  have hbm : B.length ≤ maxLen := by unfold maxLen; omega
  rw [textC_P]
  obtain ⟨r, hr⟩ : ∃ r, r = cntD B k 0 127 9 0 k 0 := ⟨_, rfl⟩
  rw [← hr] at HC ⊢
  cases r with
  | error x =>
    obtain ⟨c, p⟩ := x
    clear hr h
    go_enter Try.func70, Try.ntmps70
    go_wp2_with fail
    refine HC.out.mono ?_
    rintro e w1 ⟨v, k', rfl, rfl, h0, h1, h2⟩
    have HF := hid h1
    have HGB := hid h2
    have HC0 := hid h0
    have c2 : w1.cell? ⟨g, 2, none⟩ = some (.int .i64 (c : Int)) := cell_of_row _ _ 2 _ _ _ h1.box
    have n1 : ((c : Int) != 0) = true := by simpa using h0
    have n2 : ((c : Int) == 0) = false := by simpa using h0
    clear h1 h2 h0
    go_wp2_with fail
    go_ret
    exact ⟨_, k', rfl, rfl, HC0.out, HF.out, HGB.out⟩
  | ok x =>
    obtain ⟨n, k1⟩ := x
    have hle := (cntD_le hr.symm).2
    have hk1 : 0 < B.length := by
      obtain ⟨u, _, _, _, _, _, ho, _⟩ := cnt_bwd 9 0 k 0 n k1 hr.symm
      have := ho.le
      have := cnt_pos u
      omega
    obtain ⟨b, off, rfl⟩ : ∃ b off, a = some ⟨b, off, none⟩ := by
      rcases h.row with h0 | ⟨b, off, e, _⟩
      · omega
      · exact ⟨b, off, e⟩
    clear hr h
    show Calls _ _ _ _ (Do (α := ByteArray) g (some ⟨b, off, none⟩) cap B (fun (s : ByteArray) v _ => v = .string s) (fun v _ => v = .string ⟨#[]⟩) (if B.length - k1 < n then .error (201, B.length) else .ok (⟨((B.drop k1).take n).toArray⟩, k1 + n)) W)
    by_cases hs : B.length - k1 < n
    · rw [if_pos hs]
      have HS := hid hs
      clear hs
      go_enter Try.func70, Try.ntmps70
      go_wp2_with fail
      refine HC.out.mono ?_
      rintro e w1 ⟨v, rfl, rfl, h1, h2⟩
      have hk1 := h1.le
      have HR1 := hid h1
      have HGB := hid h2
      have c0 : w1.cell? ⟨g, 0, none⟩ = some (.slice (some ⟨b, off, none⟩) B.length cap) := cell_of_row _ _ 0 _ _ _ h1.box
      have c1 : w1.cell? ⟨g, 1, none⟩ = some (.int .i64 (k1 : Int)) := cell_of_row _ _ 1 _ _ _ h1.box
      have c2 : w1.cell? ⟨g, 2, none⟩ = some (.int .i64 0) := cell_of_row _ _ 2 _ _ _ h1.box
      have a1 : (B.length : Int) - (k1 : Int) < (n : Int) := by have := HS.out; omega
      have a2 : ¬ (n : Int) ≤ (B.length : Int) - (k1 : Int) := by omega
      clear h1 h2
      go_upto_region 4 with fail
      go_quiet (fail)
      have HD := hid (drew_below w1 nq)
      have HR2 := hid (HR1.out.low' HD.out)
      have HG2 := hid (HGB.out.trans (Gb.of HD.out))
      generalize w1.drewN nq = V at *
      clear c0 c1 c2
      have c0 : V.cell? ⟨g, 0, none⟩ = some (.slice (some ⟨b, off, none⟩) B.length cap) := cell_of_row _ _ 0 _ _ _ HR2.out.box
      have HFA := hid (dfail_any HR2.out 201 B.length)
      go_wp2_with fail
      refine HFA.out.mono ?_
      rintro e w2 ⟨rfl, h1, h2⟩
      have HR4 := hid h1
      have HG4 := hid (HG2.out.trans h2)
      clear h1 h2 HFA
      go_wp2_with fail
      go_ret
      exact ⟨_, _, rfl, rfl, by decide, HR4.out, HG4.out⟩
    · rw [if_neg hs]
      have HS := hid hs
      clear hs
      go_enter Try.func70, Try.ntmps70
      go_wp2_with fail
      refine HC.out.mono ?_
      rintro e w1 ⟨v, rfl, rfl, h1, h2⟩
      have hk1 := h1.le
      have HR1 := hid h1
      have HGB := hid h2
      have c0 : w1.cell? ⟨g, 0, none⟩ = some (.slice (some ⟨b, off, none⟩) B.length cap) := cell_of_row _ _ 0 _ _ _ h1.box
      have c1 : w1.cell? ⟨g, 1, none⟩ = some (.int .i64 (k1 : Int)) := cell_of_row _ _ 1 _ _ _ h1.box
      have c2 : w1.cell? ⟨g, 2, none⟩ = some (.int .i64 0) := cell_of_row _ _ 2 _ _ _ h1.box
      have a1 : ¬ (B.length : Int) - (k1 : Int) < (n : Int) := by have := HS.out; omega
      clear h1 h2
      go_upto_region 4 with fail
      go_quiet (fail)
      have HD := hid (drew_below w1 nq)
      have HR2 := hid (HR1.out.low' HD.out)
      have HGC := hid (HGB.out.trans (Gb.of HD.out))
      generalize w1.drewN nq = V at *
      clear c0 c1 c2
      have c1 : V.cell? ⟨g, 1, none⟩ = some (.int .i64 (k1 : Int)) := cell_of_row _ _ 1 _ _ _ HR2.out.box
      have f1 : V.frozen? ⟨g, 1, none⟩ = false := frz_row HR2.out.box 1
      have HG2 := hid (gb_set HR2.out.box 1 (.int .i64 ((k1 : Int) + (n : Int))))
      have HB2 := hid (show (V.setCell ⟨g, 1, none⟩ (.int .i64 ((k1 : Int) + (n : Int)))).heap[g]? = some (.cells #[.slice (some ⟨b, off, none⟩) B.length cap, .int .i64 ((k1 + n : Nat) : Int), .int .i64 ((0 : Nat) : Int), .int .i64 ((0 : Nat) : Int)] 73 (0, 0)) from by
        rw [setCell_eq_setRow _ _ _ _ _ _ _ HR2.out.box, setRow_heap _ _ _ _ _ _ HR2.out.box]; rfl)
      have HR3 := hid (HR2.out.go HG2.out HB2.out (by have := HS.out; omega))
      have HGD := hid (HGC.out.trans HG2.out)
      go_upto_region 8 with fail
      generalize V.setCell ⟨g, 1, none⟩ (.int .i64 ((k1 : Int) + (n : Int))) = U at *
      clear c1 f1
      have c0 : U.cell? ⟨g, 0, none⟩ = some (.slice (some ⟨b, off, none⟩) B.length cap) := cell_of_row _ _ 0 _ _ _ HR3.out.box
      have c1 : U.cell? ⟨g, 1, none⟩ = some (.int .i64 ((k1 : Int) + (n : Int))) := cell_of_row _ _ 1 _ _ _ HR3.out.box
      obtain ⟨tx, htx⟩ : ∃ tx, tx = (B.drop k1).take n := ⟨_, rfl⟩
      have htl : tx.length = n := by rw [htx]; have := HS.out; simp; omega
      obtain ⟨A, hA⟩ : ∃ A, A = (if cap = k1 then some ⟨b, off, none⟩ else some (⟨b, off + k1, none⟩ : Addr)) := ⟨_, rfl⟩
      have hcv : ∀ q, (convert 32 9 (.slice A n (cap - k1))).run Try.prog (U.drewN q) = .ok (.string ⟨tx.toArray⟩) (U.drewN q) := by
        intro q
        rw [← htl]
        by_cases hck : cap = k1
        · rw [hA, if_pos hck]
          refine run_convert_bytes_back (P := Try.prog) (U.drewN q) 32 9 5 ⟨b, off, none⟩ (cap - k1) tx Try.underlying32 Try.underlying5 Try.underlying9 (fun j hj => ?_)
          have := HS.out
          omega
        · rw [hA, if_neg hck]
          refine run_convert_bytes_back (P := Try.prog) (U.drewN q) 32 9 5 ⟨b, off + k1, none⟩ (cap - k1) tx Try.underlying32 Try.underlying5 Try.underlying9 (fun j hj => ?_)
          rcases HR3.out.row with h0 | ⟨b', off', e, hrow⟩
          · omega
          · injection e with e
            injection e with e1 e2
            subst e1 e2
            rw [Go.WideShapes.add_plain, World.cell?_drewN]
            have := hrow (k1 + j) (by have := HS.out; omega)
            rw [Nat.add_assoc, this]
            congr 2
            unfold iv
            congr 1
            rw [show tx[j] = B.getD (k1 + j) 0 from by simp only [htx]; rw [List.getElem_take, List.getElem_drop, List.getD_eq_getElem?_getD, List.getElem?_eq_getElem (by omega)]; rfl]
      have hnn : ((k1 : Int) + (n : Int)).toNat - k1 = n := by omega
      have HTX := hid htx
      have HTL := hid htl
      clear htx htl
      have a3 := HS.out
      have a4 : (k1 : Int) + (n : Int) ≤ (cap : Int) := by omega
      have hsz : ∀ q, (sizeOf (Try.prog.elem 32)).run Try.prog (U.drewN q) = .ok 1 (U.drewN q) := fun q => by kernel_rfl
      have a6 : (k1 : Int) ≤ (k1 : Int) + (n : Int) := by omega
      have a5 : IntKind.i64.wrap (k1 : Int) = (k1 : Int) := by rw [IntKind.wrap_i64]; omega
      have a7 : (k1 : Int) + (n : Int) - (n : Int) = (k1 : Int) := by omega
      refine wp_region_quiet_lit (by kernel_rfl) (by kernel_rfl) ?_
      iterate 14 (quiet_step (fail))
      refine wpQuiet_step (fun K hK => ?_)
      go_simp
      try rw [hnn]
      rw [← hA]
      refine hK _ ?_
      clear hK K
      have HA := hid hA
      clear hA hnn
      iterate 2 (quiet_step (fail))
      refine wpQuiet_nil ?_
      rintro _ ⟨nq, rfl⟩
      go_wp2_with fail
      go_ret
      exact ⟨_, rfl, by rw [← HTX.out]; rfl, HR3.out.low' (drew_below _ _), HGD.out.trans (Gb.of (drew_below _ _))⟩
end Go.Proofs.Ytnclpdgbjefpmaa.L
