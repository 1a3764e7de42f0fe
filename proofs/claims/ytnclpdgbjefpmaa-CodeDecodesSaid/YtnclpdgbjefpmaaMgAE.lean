import Derived.Test.YtnclpdgbjefpmaaEx
import Derived.Laws.IdiomStrings
namespace Go.Proofs.Ytnclpdgbjefpmaa.L
open Go.RowKit
set_option linter.unusedVariables false
set_option linter.unusedSimpArgs false
theorem sgnC_P (B : List UInt8) (k : Nat) : sgnC.P B k = dbnd (cntD B k 0 2000000000000000000 9 0 k 0) fun n k1 => .ok (unz n, k1) := rfl
theorem cntD_le {B : List UInt8} {k lo hi n k' : Nat} (h : cntD B k lo hi 9 0 k 0 = .ok (n, k')) : lo ≤ n ∧ n ≤ hi := by
  obtain ⟨u, _, _, _, h1, h2, _⟩ := cnt_bwd 9 0 k 0 n k' h
  exact ⟨h1, h2⟩
set_option maxHeartbeats 1000000 in
set_option maxRecDepth 100000 in
theorem rsigned_any {g : Nat} {a : Option Addr} {cap : Nat} {B : List UInt8} {W : World} {k room : Nat} (h : Rm g a cap B W k room) :
    Calls Try.prog 78 #[.pointer (some ⟨g, 0, none⟩)] W (Ro (α := Int) g a cap B (fun _ => room) (fun (z : Int) v _ => v = .int .i64 z) (sgnC.P B k) W) := by
  have HC := hid (rcount_any h 0 2000000000000000000 (by decide) (by decide))
  rw [sgnC_P]
  obtain ⟨r, hr⟩ : ∃ r, r = cntD B k 0 2000000000000000000 9 0 k 0 := ⟨_, rfl⟩
  rw [← hr] at HC ⊢
  cases r with
  | error x =>
    obtain ⟨c, p⟩ := x
    clear hr h
    go_enter Try.func78, Try.ntmps78
    go_wp2_with fail
    refine HC.out.mono ?_
    rintro e w1 ⟨N, rfl, h1, h2⟩
    have HF := hid h1
    have HGB := hid h2
    clear h1 h2
    go_wp2_with fail
    exact ⟨rfl, N, rfl, HF.out, HGB.out⟩
  | ok x =>
    obtain ⟨n, k1⟩ := x
    have hle := (cntD_le hr.symm).2
    clear hr h
    have e1 := tmodN n 2
    have e2 := tdivN n 2
    show Calls _ _ _ _ (Ro (α := Int) g a cap B (fun _ => room) (fun (z : Int) v _ => v = .int .i64 z) (.ok (unz n, k1)) W)
    by_cases hod : n % 2 = 1
    · have e3 : (n : Int) % 2 = 1 := by omega
      have HU := hid (show unz n = (-(((n + 1) / 2 : Nat) : Int)) from by unfold unz; rw [if_pos hod])
      clear hod
      go_enter Try.func78, Try.ntmps78
      go_wp2_with fail
      refine HC.out.mono ?_
      rintro e w1 ⟨v, rfl, rfl, h1, h2⟩
      have HR1 := hid h1
      have HGB := hid h2
      clear h1 h2
      go_wp2_with fail
      go_ret
      exact ⟨_, rfl, congrArg (Value.int .i64) (show wrap64 (-((n : Int) + 1).tdiv 2) = unz n from by rw [HU.out, show ((n : Int) + 1).tdiv 2 = (((n + 1) / 2 : Nat) : Int) from tdivN (n + 1) 2]; unfold wrap64; omega), HR1.out, HGB.out⟩
    · have e3 : (n : Int) % 2 = 0 := by omega
      have HU := hid (show unz n = ((n / 2 : Nat) : Int) from by unfold unz; rw [if_neg hod])
      clear hod
      go_enter Try.func78, Try.ntmps78
      go_wp2_with fail
      refine HC.out.mono ?_
      rintro e w1 ⟨v, rfl, rfl, h1, h2⟩
      have HR1 := hid h1
      have HGB := hid h2
      clear h1 h2
      go_wp2_with fail
      go_ret
      exact ⟨_, rfl, by rw [HU.out]; first | rfl | simp, HR1.out, HGB.out⟩
set_option maxHeartbeats 1000000 in
set_option maxRecDepth 100000 in
theorem rpool_any {g : Nat} {a : Option Addr} {cap : Nat} {B : List UInt8} {W : World} {k room : Nat} (h : Rm g a cap B W k room) :
    Calls Try.prog 75 #[.pointer (some ⟨g, 0, none⟩)] W (Ro (α := Nat) g a cap B (fun n => room - n) (fun (n : Nat) v _ => v = .int .i64 (n : Int)) (cntD B k 0 room 9 0 k 0) W) := by
  have hrm := h.rm
  have HC := hid (rcount_any h 0 room (by omega) (by decide))
  have c2 : W.cell? ⟨g, 2, none⟩ = some (.int .i64 (room : Int)) := cell_of_row _ _ 2 _ _ _ h.box
  obtain ⟨r, hr⟩ : ∃ r, r = cntD B k 0 room 9 0 k 0 := ⟨_, rfl⟩
  rw [← hr] at HC ⊢
  cases r with
  | error x =>
    obtain ⟨c, p⟩ := x
    clear hr h
    go_enter Try.func75, Try.ntmps75
    go_wp2_with fail
    refine HC.out.mono ?_
    rintro e w1 ⟨N, rfl, h1, h2⟩
    have HF := hid h1
    have HGB := hid h2
    clear h1 h2
    go_wp2_with fail
    exact ⟨rfl, N, rfl, HF.out, HGB.out⟩
  | ok x =>
    obtain ⟨n, k1⟩ := x
    have hle := (cntD_le hr.symm).2
    clear hr h
    go_enter Try.func75, Try.ntmps75
    go_wp2_with fail
    refine HC.out.mono ?_
    rintro e w1 ⟨v, rfl, rfl, h1, h2⟩
    have HR1 := hid h1
    have c2 : w1.cell? ⟨g, 2, none⟩ = some (.int .i64 (room : Int)) := cell_of_row _ _ 2 _ _ _ h1.box
    have f2 : w1.frozen? ⟨g, 2, none⟩ = false := frz_row h1.box 2
    have HG2 := hid (gb_set h1.box 2 (.int .i64 ((room : Int) - (n : Int))))
    have HB2 := hid (show (w1.setCell ⟨g, 2, none⟩ (.int .i64 ((room : Int) - (n : Int)))).heap[g]? = some (.cells #[.slice a B.length cap, .int .i64 (k1 : Int), .int .i64 ((room - n : Nat) : Int)] 83 (0, 0)) from by
      rw [show ((room - n : Nat) : Int) = (room : Int) - (n : Int) by omega, setCell_eq_setRow _ _ _ _ _ _ _ h1.box, setRow_heap _ _ _ _ _ _ h1.box]; rfl)
    have HR2 := hid (h1.go HG2.out HB2.out h1.le (by omega))
    have HGB := hid (Gb.trans h2 HG2.out)
    clear h1 h2
    go_wp2_with fail
    go_ret
    exact ⟨_, rfl, rfl, HR2.out, HGB.out⟩
end Go.Proofs.Ytnclpdgbjefpmaa.L
namespace Go.Proofs.Ytnclpdgbjefpmaa.L
open Go.RowKit
set_option linter.unusedVariables false
set_option linter.unusedSimpArgs false
theorem textC_P (B : List UInt8) (k : Nat) : textC.P B k = dbnd (cntD B k 0 127 9 0 k 0) fun n k1 => if B.length - k1 < n then .error (201, B.length) else .ok (⟨((B.drop k1).take n).toArray⟩, k1 + n) := by
  show dbnd (dbnd (cntD B k 0 127 9 0 k 0) fun n k1 => dbnd (if B.length - k1 < n then .error (201, B.length) else .ok ((B.drop k1).take n, k1 + n)) fun b k2 => .ok ((n, b), k2)) (fun (x : Nat × List UInt8) k2 => (.ok ((ByteArray.mk x.2.toArray), k2) : DR ByteArray)) = _
  cases cntD B k 0 127 9 0 k 0 with
  | error e => rfl
  | ok x =>
    obtain ⟨n, k1⟩ := x
    show dbnd (dbnd (if B.length - k1 < n then .error (201, B.length) else .ok ((B.drop k1).take n, k1 + n)) fun b k2 => .ok ((n, b), k2)) (fun (x : Nat × List UInt8) k2 => (.ok ((ByteArray.mk x.2.toArray), k2) : DR ByteArray)) = if B.length - k1 < n then .error (201, B.length) else .ok (⟨((B.drop k1).take n).toArray⟩, k1 + n)
    split <;> rfl
set_option maxHeartbeats 1000000 in
set_option maxRecDepth 100000 in
theorem rtext_any {g : Nat} {a : Option Addr} {cap : Nat} {B : List UInt8} {W : World} {k room : Nat} (h : Rm g a cap B W k room) :
    Calls Try.prog 76 #[.pointer (some ⟨g, 0, none⟩)] W (Ro (α := ByteArray) g a cap B (fun _ => room) (fun (s : ByteArray) v _ => v = .string s) (textC.P B k) W) := by
  have HC := hid (rcount_any h 0 127 (by decide) (by decide))
  have hlen := h.len
  have hcpl := h.cpl
  have hcpm := h.cpm
  have hbm : B.length ≤ maxLen := by unfold maxLen; omega
  rw [textC_P]
  obtain ⟨r, hr⟩ : ∃ r, r = cntD B k 0 127 9 0 k 0 := ⟨_, rfl⟩
  rw [← hr] at HC ⊢
  cases r with
  | error x =>
    obtain ⟨c, p⟩ := x
    clear hr h
    go_enter Try.func76, Try.ntmps76
    go_wp2_with fail
    refine HC.out.mono ?_
    rintro e w1 ⟨N, rfl, h1, h2⟩
    have HF := hid h1
    have HGB := hid h2
    clear h1 h2
    go_wp2_with fail
    exact ⟨rfl, N, rfl, HF.out, HGB.out⟩
  | ok x =>
    obtain ⟨n, k1⟩ := x
    have hle := (cntD_le hr.symm).2
    have hk1 : 0 < B.length := by
      obtain ⟨u, _, _, _, _, _, ho, _⟩ := cnt_bwd 9 0 k 0 n k1 hr.symm
      have := ho.le
      have := cnt_pos u
      omega
    obtain ⟨b, off, rfl⟩ : ∃ b off, a = some ⟨b, off, none⟩ := by
      rcases h.row with h0 | ⟨b, off, e, _⟩
      · omega
      · exact ⟨b, off, e⟩
    clear hr h
    show Calls _ _ _ _ (Ro (α := ByteArray) g (some ⟨b, off, none⟩) cap B (fun _ => room) (fun (s : ByteArray) v _ => v = .string s) (if B.length - k1 < n then .error (201, B.length) else .ok (⟨((B.drop k1).take n).toArray⟩, k1 + n)) W)
    have HG := hid (fun w => giveup_any 201 B.length w)
    by_cases hs : B.length - k1 < n
    · rw [if_pos hs]
      have HS := hid hs
      clear hs
      go_enter Try.func76, Try.ntmps76
      go_wp2_with fail
      refine HC.out.mono ?_
      rintro e w1 ⟨v, rfl, rfl, h1, h2⟩
      have hk1 := h1.le
      have HR1 := hid h1
      have HGB := hid h2
      have c0 : w1.cell? ⟨g, 0, none⟩ = some (.slice (some ⟨b, off, none⟩) B.length cap) := cell_of_row _ _ 0 _ _ _ h1.box
      have c1 : w1.cell? ⟨g, 1, none⟩ = some (.int .i64 (k1 : Int)) := cell_of_row _ _ 1 _ _ _ h1.box
      have a1 : (B.length : Int) - (k1 : Int) < (n : Int) := by have := HS.out; omega
      have a2 : ¬ (n : Int) ≤ (B.length : Int) - (k1 : Int) := by omega
      clear h1 h2
      go_upto_region 2 with fail
      go_quiet (fail)
      have HD := hid (drew_below w1 nq)
      have HR2 := hid (HR1.out.low' HD.out)
      generalize w1.drewN nq = V at *
      clear c0 c1
      have c0 : V.cell? ⟨g, 0, none⟩ = some (.slice (some ⟨b, off, none⟩) B.length cap) := cell_of_row _ _ 0 _ _ _ HR2.out.box
      go_wp2_with fail
      refine (HG.out V).mono ?_
      rintro e w2 ⟨NN, rfl, h3, h4⟩
      have HF := hid h3
      have HGG := hid (HGB.out.trans ((Gb.of HD.out).trans (Gb.of h4)))
      clear h3 h4
      go_wp2_with fail
      exact ⟨rfl, NN, rfl, HF.out, HGG.out⟩
    · rw [if_neg hs]
      have HS := hid hs
      clear hs
      go_enter Try.func76, Try.ntmps76
      go_wp2_with fail
      refine HC.out.mono ?_
      rintro e w1 ⟨v, rfl, rfl, h1, h2⟩
      have hk1 := h1.le
      have HR1 := hid h1
      have HGB := hid h2
      have c0 : w1.cell? ⟨g, 0, none⟩ = some (.slice (some ⟨b, off, none⟩) B.length cap) := cell_of_row _ _ 0 _ _ _ h1.box
      have c1 : w1.cell? ⟨g, 1, none⟩ = some (.int .i64 (k1 : Int)) := cell_of_row _ _ 1 _ _ _ h1.box
      have a1 : ¬ (B.length : Int) - (k1 : Int) < (n : Int) := by have := HS.out; omega
      clear h1 h2
      go_upto_region 2 with fail
      go_quiet (fail)
      have HD := hid (drew_below w1 nq)
      have HR2 := hid (HR1.out.low' HD.out)
      have HGC := hid (HGB.out.trans (Gb.of HD.out))
      generalize w1.drewN nq = V at *
      clear c0 c1
      have c1 : V.cell? ⟨g, 1, none⟩ = some (.int .i64 (k1 : Int)) := cell_of_row _ _ 1 _ _ _ HR2.out.box
      have f1 : V.frozen? ⟨g, 1, none⟩ = false := frz_row HR2.out.box 1
      have HG2 := hid (gb_set HR2.out.box 1 (.int .i64 ((k1 : Int) + (n : Int))))
      have HB2 := hid (show (V.setCell ⟨g, 1, none⟩ (.int .i64 ((k1 : Int) + (n : Int)))).heap[g]? = some (.cells #[.slice (some ⟨b, off, none⟩) B.length cap, .int .i64 ((k1 + n : Nat) : Int), .int .i64 (room : Int)] 83 (0, 0)) from by
        rw [setCell_eq_setRow _ _ _ _ _ _ _ HR2.out.box, setRow_heap _ _ _ _ _ _ HR2.out.box]; rfl)
      have HR3 := hid (HR2.out.go HG2.out HB2.out (by have := HS.out; omega) HR2.out.rm)
      have HGD := hid (HGC.out.trans HG2.out)
      go_upto_region 5 with fail
      generalize V.setCell ⟨g, 1, none⟩ (.int .i64 ((k1 : Int) + (n : Int))) = U at *
      clear c1 f1
      have c0 : U.cell? ⟨g, 0, none⟩ = some (.slice (some ⟨b, off, none⟩) B.length cap) := cell_of_row _ _ 0 _ _ _ HR3.out.box
      have c1 : U.cell? ⟨g, 1, none⟩ = some (.int .i64 ((k1 : Int) + (n : Int))) := cell_of_row _ _ 1 _ _ _ HR3.out.box
      obtain ⟨tx, htx⟩ : ∃ tx, tx = (B.drop k1).take n := ⟨_, rfl⟩
      have htl : tx.length = n := by rw [htx]; have := HS.out; simp; omega
      obtain ⟨A, hA⟩ : ∃ A, A = (if cap = k1 then some ⟨b, off, none⟩ else some (⟨b, off + k1, none⟩ : Addr)) := ⟨_, rfl⟩
      have hcv : ∀ q, (convert 32 9 (.slice A n (cap - k1))).run Try.prog (U.drewN q) = .ok (.string ⟨tx.toArray⟩) (U.drewN q) := by
        intro q
        rw [← htl]
        by_cases hck : cap = k1
        · rw [hA, if_pos hck]
          refine run_convert_bytes_back (P := Try.prog) (U.drewN q) 32 9 5 ⟨b, off, none⟩ (cap - k1) tx Try.underlying32 Try.underlying5 Try.underlying9 (fun j hj => ?_)
          have := HS.out
          omega
        · rw [hA, if_neg hck]
          refine run_convert_bytes_back (P := Try.prog) (U.drewN q) 32 9 5 ⟨b, off + k1, none⟩ (cap - k1) tx Try.underlying32 Try.underlying5 Try.underlying9 (fun j hj => ?_)
          rcases HR3.out.row with h0 | ⟨b', off', e, hrow⟩
          · omega
          · injection e with e
            injection e with e1 e2
            subst e1 e2
            rw [Go.WideShapes.add_plain, World.cell?_drewN]
            have := hrow (k1 + j) (by have := HS.out; omega)
            rw [Nat.add_assoc, this]
            congr 2
            unfold iv
            congr 1
            rw [show tx[j] = B.getD (k1 + j) 0 from by simp only [htx]; rw [List.getElem_take, List.getElem_drop, List.getD_eq_getElem?_getD, List.getElem?_eq_getElem (by omega)]; rfl]
      have hnn : ((k1 : Int) + (n : Int)).toNat - k1 = n := by omega
      have HTX := hid htx
      have HTL := hid htl
      clear htx htl
      have a3 := HS.out
      have a4 : (k1 : Int) + (n : Int) ≤ (cap : Int) := by omega
      have hsz : ∀ q, (sizeOf (Try.prog.elem 32)).run Try.prog (U.drewN q) = .ok 1 (U.drewN q) := fun q => by kernel_rfl
      have a6 : (k1 : Int) ≤ (k1 : Int) + (n : Int) := by omega
      have a5 : IntKind.i64.wrap (k1 : Int) = (k1 : Int) := by rw [IntKind.wrap_i64]; omega
      refine wp_region_quiet_lit (by kernel_rfl) (by kernel_rfl) ?_
      iterate 14 (quiet_step (fail))
      refine wpQuiet_step (fun K hK => ?_)
      go_simp
      try rw [hnn]
      rw [← hA]
      refine hK _ ?_
      clear hK K
      have HA := hid hA
      clear hA hnn
      iterate 2 (quiet_step (fail))
      refine wpQuiet_nil ?_
      rintro _ ⟨nq, rfl⟩
      go_wp2_with fail
      go_ret
      exact ⟨_, rfl, by rw [← HTX.out]; rfl, HR3.out.low' (drew_below _ _), HGD.out.trans (Gb.of (drew_below _ _))⟩
end Go.Proofs.Ytnclpdgbjefpmaa.L
