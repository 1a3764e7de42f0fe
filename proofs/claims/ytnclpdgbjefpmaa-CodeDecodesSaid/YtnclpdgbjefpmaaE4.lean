import Derived.Test.YtnclpdgbjefpmaaE3
namespace Go.Proofs.Ytnclpdgbjefpmaa.L
open Go.RowKit
set_option linter.unusedVariables false
set_option linter.unusedSimpArgs false
theorem row_base {W : World} {b b' n size : Nat} {e : TypeId} {v : Value} {xs : List Value} (h : W.ownsRow b e size v n xs) (hb : b' ≤ b) : W.ownsRow b' e size v n xs := by
  refine ⟨h.1, ?_⟩
  rcases h.2 with ⟨e, n0⟩ | ⟨g, cap, cur, e, hg, r⟩
  · exact Or.inl ⟨e, n0⟩
  · exact Or.inr ⟨g, cap, cur, e, Nat.le_trans hb hg, r⟩
theorem lst_P {α : Type} [Inhabited α] (C : Cod α) (lt : α → α → Bool) (lo hi : Nat) (hhi : hi < 128 ^ 9) (B : List UInt8) (k : Nat) : (C.lst lt lo hi hhi).P B k = dbnd (cntD B k lo hi 9 0 k 0) fun n k1 => (C.ris lt n .none).P B k1 := by
  show dbnd (dbnd (cntD B k lo hi 9 0 k 0) fun n k1 => dbnd ((C.ris lt n .none).P B k1) fun l k2 => .ok ((n, l), k2)) (fun x k2 => .ok (x.2, k2)) = _
  cases cntD B k lo hi 9 0 k 0 with
  | error e => rfl
  | ok y =>
    obtain ⟨n, k1⟩ := y
    show dbnd (dbnd ((C.ris lt n .none).P B k1) fun l k2 => .ok ((n, l), k2)) (fun x k2 => .ok (x.2, k2)) = (C.ris lt n .none).P B k1
    cases (C.ris lt n .none).P B k1 <;> rfl
set_option maxHeartbeats 1000000 in
set_option maxRecDepth 100000 in
theorem rset_s {g : Nat} {a : Option Addr} {cap : Nat} {B : List UInt8} {W : World} {k room : Nat} (h : Rm g a cap B W k room) :
    Calls Try.prog 80 #[.pointer (some ⟨g, 0, none⟩)] W (Ro (α := List ByteArray) g a cap B (fun _ => room) (fun (l : List ByteArray) v W' => W'.ownsRow W.heap.size 9 1 v l.length (l.map Value.string)) (setC.P B k) W) := by
  have HC := hid (rcount_any h 1 1000 (by decide) (by decide))
  rw [show setC.P B k = _ from lst_P textC ltS 1 1000 (by decide) B k]
  obtain ⟨r, hr⟩ : ∃ r, r = cntD B k 1 1000 9 0 k 0 := ⟨_, rfl⟩
  rw [← hr] at HC ⊢
  cases r with
  | error x =>
    obtain ⟨c, p⟩ := x
    clear hr h
    go_enter Try.func80, Try.ntmps80
    go_wp2_with fail
    refine HC.out.mono ?_
    rintro e w1 ⟨N, rfl, h1, h2⟩
    have HF := hid h1
    have HGB := hid h2
    clear h1 h2
    go_wp2_with fail
    exact ⟨rfl, N, rfl, HF.out, HGB.out⟩
  | ok x =>
    obtain ⟨n, k1⟩ := x
    have hle := (cntD_le hr.symm).2
    clear hr h
    show Calls _ _ _ _ (Ro (α := List ByteArray) g a cap B (fun _ => room) (fun (l : List ByteArray) v W' => W'.ownsRow W.heap.size 9 1 v l.length (l.map Value.string)) ((textC.ris ltS n .none).P B k1) W)
    have HRS := hid (fun (w1 : World) (h1 : Rm g a cap B w1 k1 room) => rising_s h1 n (by omega))
    obtain ⟨r2, hr2⟩ : ∃ r2, r2 = (textC.ris ltS n .none).P B k1 := ⟨_, rfl⟩
    rw [← hr2] at HRS ⊢
    clear hr2
    go_enter Try.func80, Try.ntmps80
    go_wp2_with fail
    refine HC.out.mono ?_
    rintro e w1 ⟨v, rfl, rfl, h1, h2⟩
    have HR1 := hid h1
    have HG1 := hid h2
    clear h1 h2
    go_wp2_with fail
    refine (HRS.out w1 HR1.out).mono ?_
    cases r2 with
    | error x =>
      obtain ⟨c, p⟩ := x
      rintro e w2 ⟨N, rfl, h1, h2⟩
      have HF := hid h1
      have HGB := hid (HG1.out.trans h2)
      clear h1 h2
      go_wp2_with fail
      exact ⟨rfl, N, rfl, HF.out, HGB.out⟩
    | ok x =>
      obtain ⟨l, k2⟩ := x
      rintro e w2 ⟨v2, rfl, h0, h1, h2⟩
      have HO := hid (row_base h0 HG1.out.size)
      have HR2 := hid h1
      have HGB := hid (HG1.out.trans h2)
      clear h0 h1 h2
      obtain ⟨va, vn, vc, rfl⟩ : ∃ a1 a2 a3, v2 = .slice a1 a2 a3 := by
        rcases HO.out.2 with ⟨e, _⟩ | ⟨_, _, _, e, _⟩
        · exact ⟨_, _, _, e⟩
        · exact ⟨_, _, _, e⟩
      go_wp2_with fail
      go_ret
      exact ⟨_, rfl, HO.out, HR2.out, HGB.out⟩
set_option maxHeartbeats 1000000 in
set_option maxRecDepth 100000 in
theorem rset_i {g : Nat} {a : Option Addr} {cap : Nat} {B : List UInt8} {W : World} {k room : Nat} (h : Rm g a cap B W k room) :
    Calls Try.prog 82 #[.pointer (some ⟨g, 0, none⟩)] W (Ro (α := List Int) g a cap B (fun _ => room) (fun (l : List Int) v W' => W'.ownsRow W.heap.size 3 1 v l.length (l.map (Value.int .i64))) (nsetC.P B k) W) := by
  have HC := hid (rcount_any h 1 1000 (by decide) (by decide))
  rw [show nsetC.P B k = _ from lst_P sgnC ltI 1 1000 (by decide) B k]
  obtain ⟨r, hr⟩ : ∃ r, r = cntD B k 1 1000 9 0 k 0 := ⟨_, rfl⟩
  rw [← hr] at HC ⊢
  cases r with
  | error x =>
    obtain ⟨c, p⟩ := x
    clear hr h
    go_enter Try.func82, Try.ntmps82
    go_wp2_with fail
    refine HC.out.mono ?_
    rintro e w1 ⟨N, rfl, h1, h2⟩
    have HF := hid h1
    have HGB := hid h2
    clear h1 h2
    go_wp2_with fail
    exact ⟨rfl, N, rfl, HF.out, HGB.out⟩
  | ok x =>
    obtain ⟨n, k1⟩ := x
    have hle := (cntD_le hr.symm).2
    clear hr h
    show Calls _ _ _ _ (Ro (α := List Int) g a cap B (fun _ => room) (fun (l : List Int) v W' => W'.ownsRow W.heap.size 3 1 v l.length (l.map (Value.int .i64))) ((sgnC.ris ltI n .none).P B k1) W)
    have HRS := hid (fun (w1 : World) (h1 : Rm g a cap B w1 k1 room) => rising_i h1 n (by omega))
    obtain ⟨r2, hr2⟩ : ∃ r2, r2 = (sgnC.ris ltI n .none).P B k1 := ⟨_, rfl⟩
    rw [← hr2] at HRS ⊢
    clear hr2
    go_enter Try.func82, Try.ntmps82
    go_wp2_with fail
    refine HC.out.mono ?_
    rintro e w1 ⟨v, rfl, rfl, h1, h2⟩
    have HR1 := hid h1
    have HG1 := hid h2
    clear h1 h2
    go_wp2_with fail
    refine (HRS.out w1 HR1.out).mono ?_
    cases r2 with
    | error x =>
      obtain ⟨c, p⟩ := x
      rintro e w2 ⟨N, rfl, h1, h2⟩
      have HF := hid h1
      have HGB := hid (HG1.out.trans h2)
      clear h1 h2
      go_wp2_with fail
      exact ⟨rfl, N, rfl, HF.out, HGB.out⟩
    | ok x =>
      obtain ⟨l, k2⟩ := x
      rintro e w2 ⟨v2, rfl, h0, h1, h2⟩
      have HO := hid (row_base h0 HG1.out.size)
      have HR2 := hid h1
      have HGB := hid (HG1.out.trans h2)
      clear h0 h1 h2
      obtain ⟨va, vn, vc, rfl⟩ : ∃ a1 a2 a3, v2 = .slice a1 a2 a3 := by
        rcases HO.out.2 with ⟨e, _⟩ | ⟨_, _, _, e, _⟩
        · exact ⟨_, _, _, e⟩
        · exact ⟨_, _, _, e⟩
      go_wp2_with fail
      go_ret
      exact ⟨_, rfl, HO.out, HR2.out, HGB.out⟩
end Go.Proofs.Ytnclpdgbjefpmaa.L
