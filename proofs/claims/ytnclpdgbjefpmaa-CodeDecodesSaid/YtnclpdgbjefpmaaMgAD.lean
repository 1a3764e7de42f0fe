import Derived.Test.YtnclpdgbjefpmaaEu
import Derived.Deep.QuietTactic
import Derived.BigQuiet
namespace Go.Proofs.Ytnclpdgbjefpmaa.L
open Go.RowKit
set_option linter.unusedVariables false
set_option linter.unusedSimpArgs false
theorem below_kp {g m : Nat} {W W' : World} (k : Kp (g + 1) g W W') (hm : m ≤ g) : Below m W W' :=
  ⟨k.os, k.tape, k.output, k.size, fun j hj => k.old j (by omega) (by omega)⟩
theorem own_base {W : World} {b b' : Nat} {v : Value} {l : List UInt8} (h : OwnB W b v l) (hb : b' ≤ b) : OwnB W b' v l := by
  refine ⟨h.1, ?_⟩
  rcases h.2 with ⟨e, n0⟩ | ⟨g, cap, cur, e, hg, r⟩
  · exact Or.inl ⟨e, n0⟩
  · exact Or.inr ⟨g, cap, cur, e, Nat.le_trans hb hg, r⟩
set_option maxHeartbeats 8000000 in
set_option maxRecDepth 100000 in
theorem encode_any (p : Pg) (pv : Array Value) (w : World) (hR : PgR w pv p) (hg : GdP p) :
    Calls Try.prog 11 #[.agg pv] w fun e w' => Below w.heap.size w w' ∧ (formB p = false → e = .returned (.tuple #[.slice none 0 0, .int .i64 207])) ∧ (formB p = true → ∃ v', e = .returned (.tuple #[v', .int .i64 0]) ∧ OwnB w' w.heap.size v' (enc p)) := by
  obtain ⟨a0, c0, a1, c1, a2, c2, a3, c3, a4, c4, hpv, r0, r1, r2, r3, r4⟩ := hR.ex
  clear r0 r1 r2 r3 r4
  have HX := hid (heap_alloc_new w (.cells pv 30))
  have HB := hid (belowA w (.cells pv 30))
  have HR := hid (hR.low HB.out)
  have HF := hid (hasform_any pv p (w.alloc (.cells pv 30)) HR.out hg)
  have HPV := hid hpv
  have HRW := hid hR
  have h0 : p.tx.length ≤ maxLen := by have := hg.tx; unfold maxLen; omega
  have h1 : p.nu.length ≤ maxLen := by have := hg.nu; unfold maxLen; omega
  have h2 : p.st.length ≤ maxLen := by have := hg.st; unfold maxLen; omega
  have h3 : p.ns.length ≤ maxLen := by have := hg.ns; unfold maxLen; omega
  have h4 : p.cd.length ≤ maxLen := by have := hg.cd; unfold maxLen; omega
  clear hR
  subst hpv
  obtain ⟨fb, hfb⟩ : ∃ fb, formB p = fb := ⟨_, rfl⟩
  rw [hfb] at HF ⊢
  have HFB := hid hfb
  clear hfb
  go_enter Try.func11, Try.ntmps11
  go_upto_region 1 with fail
  obtain ⟨W, hW⟩ : ∃ W, W = w.alloc (.cells #[.slice a0 p.tx.length c0, .slice a1 p.nu.length c1, .slice a2 p.st.length c2, .slice a3 p.ns.length c3, .slice a4 p.cd.length c4, .int .i64 p.dep, .int .i64 p.loc] 30) := ⟨_, rfl⟩
  rw [← hW] at HX HB HR HF ⊢
  have HS := hid (show w.heap.size < W.heap.size from lt_blk HX.out)
  clear hW
  obtain ⟨q, hq⟩ : ∃ q, q = w.heap.size := ⟨_, rfl⟩
  rw [← hq] at HX HS ⊢
  have HQ := hid hq
  clear hq
  have x0 : W.cell? ⟨q, 0, none⟩ = some (.slice a0 p.tx.length c0) := cell_of_row _ _ 0 _ _ _ HX.out
  have x1 : W.cell? ⟨q, 1, none⟩ = some (.slice a1 p.nu.length c1) := cell_of_row _ _ 1 _ _ _ HX.out
  have x2 : W.cell? ⟨q, 2, none⟩ = some (.slice a2 p.st.length c2) := cell_of_row _ _ 2 _ _ _ HX.out
  have x3 : W.cell? ⟨q, 3, none⟩ = some (.slice a3 p.ns.length c3) := cell_of_row _ _ 3 _ _ _ HX.out
  have x4 : W.cell? ⟨q, 4, none⟩ = some (.slice a4 p.cd.length c4) := cell_of_row _ _ 4 _ _ _ HX.out
  have x5 : W.cell? ⟨q, 5, none⟩ = some (.int .i64 p.dep) := cell_of_row _ _ 5 _ _ _ HX.out
  have x6 : W.cell? ⟨q, 6, none⟩ = some (.int .i64 p.loc) := cell_of_row _ _ 6 _ _ _ HX.out
  go_wp2_with fail
  refine HF.out.mono ?_
  rintro e w1 ⟨rfl, h1b⟩
  have HW1 := hid h1b
  clear h1b
  cases fb with
  | false =>
    go_wp2_with fail
    refine bodyPost_ret (results_tmp2 rfl _ _ _) rfl ?_
    exact ⟨bch HB.out HW1.out, rfl⟩
  | true =>
    have HX := hid ((HW1.out.block _ (lt_blk HX.out)).trans HX.out)
    have HB := hid (bch HB.out HW1.out)
    have HS := hid (Nat.lt_of_lt_of_le HS.out HW1.out.size)
    clear HW1 HF x0 x1 x2 x3 x4 x5 x6
    go_upto_region 4 with fail
    have HX2 := hid (heap_alloc_new w1 (.cells #[.slice none 0 0] 62))
    have HB2 := hid (belowA w1 (.cells #[.slice none 0 0] 62))
    have HX := hid ((HB2.out.block _ (lt_blk HX.out)).trans HX.out)
    have HB3 := hid (bch HB.out HB2.out)
    obtain ⟨W2, hW2⟩ : ∃ W2, W2 = w1.alloc (.cells #[.slice none 0 0] 62) := ⟨_, rfl⟩
    have HS2 := hid (show W2.heap.size = w1.heap.size + 1 by rw [hW2]; simp)
    rw [← hW2] at HX2 HB2 HB3 HX ⊢
    clear hW2
    obtain ⟨g, hgg⟩ : ∃ g, g = w1.heap.size := ⟨_, rfl⟩
    rw [← hgg] at HX2 HS2 HS ⊢
    have HG := hid hgg
    clear hgg
    have HV := hid (show Wv (g + 1) g (.slice none 0 0) [] W2 from ⟨HX2.out, World.ownsRow_nil _ _ _ _, by omega, by have := HS2.out; omega⟩)
    have HP := hid (program_any p _ (g + 1) g _ W2 ⟨w, by have := HB3.out; exact this, by have := HS.out; have := HQ.out; omega, HRW.out⟩ ((formB_iff p).1 HFB.out) HV.out)
    have x0 : W2.cell? ⟨q, 0, none⟩ = some (.slice a0 p.tx.length c0) := cell_of_row _ _ 0 _ _ _ HX.out
    have x1 : W2.cell? ⟨q, 1, none⟩ = some (.slice a1 p.nu.length c1) := cell_of_row _ _ 1 _ _ _ HX.out
    have x2 : W2.cell? ⟨q, 2, none⟩ = some (.slice a2 p.st.length c2) := cell_of_row _ _ 2 _ _ _ HX.out
    have x3 : W2.cell? ⟨q, 3, none⟩ = some (.slice a3 p.ns.length c3) := cell_of_row _ _ 3 _ _ _ HX.out
    have x4 : W2.cell? ⟨q, 4, none⟩ = some (.slice a4 p.cd.length c4) := cell_of_row _ _ 4 _ _ _ HX.out
    have x5 : W2.cell? ⟨q, 5, none⟩ = some (.int .i64 p.dep) := cell_of_row _ _ 5 _ _ _ HX.out
    have x6 : W2.cell? ⟨q, 6, none⟩ = some (.int .i64 p.loc) := cell_of_row _ _ 6 _ _ _ HX.out
    go_wp2_with fail
    refine HP.out.mono ?_
    rintro e w3 ⟨rfl, ⟨v3, k1⟩, k2⟩
    have HV3 := hid k1
    have HK3 := hid k2
    have y : w3.cell? ⟨g, 0, none⟩ = some v3 := cell_of_row _ _ 0 _ _ _ k1.box
    obtain ⟨va, n, vc, rfl⟩ : ∃ va n vc, v3 = .slice va n vc := by obtain ⟨x, y, e⟩ := ownb_form k1.own; exact ⟨_, _, _, e⟩
    clear k1 k2 x0 x1 x2 x3 x4 x5 x6
    go_wp2_with fail
    refine bodyPost_ret (results_tmp2 rfl _ _ _) rfl ?_
    refine ⟨HB3.out.trans (below_kp HK3.out (by have := HS.out; have := HQ.out; omega)), _, rfl, ?_⟩
    have := HV3.out.own
    exact own_base this (by have := HS.out; have := HQ.out; omega)
end Go.Proofs.Ytnclpdgbjefpmaa.L
namespace Go.Proofs.Ytnclpdgbjefpmaa.L
open Go.RowKit
set_option linter.unusedVariables false
set_option linter.unusedSimpArgs false
/-- A fault in memory. -/
def Fli (W : World) (N c a : Nat) : Prop := W.heap[N]? = some (.cells #[.int .i64 (c : Int), .int .i64 (a : Int), .string ⟨#[]⟩, .nilIface] 54 (0, 0))
abbrev pe (N : Nat) : Ending := .panicked [{ v := .iface 51 (.pointer (some ⟨N, 0, none⟩)), recovered := false }]
/-- Nothing has changed but one block. -/
def Gb (g : Nat) (W W' : World) : Prop := W.grownBy W' (some g)
theorem Gb.refl (g : Nat) (W : World) : Gb g W W := ⟨rfl, rfl, rfl, Nat.le_refl _, fun _ _ _ => rfl⟩
theorem Gb.trans {g : Nat} {W W' W'' : World} (h : Gb g W W') (k : Gb g W' W'') : Gb g W W'' :=
  ⟨k.os.trans h.os, k.tape.trans h.tape, k.output.trans h.output, Nat.le_trans h.size k.size, fun j hj hn => (k.block j (Nat.lt_of_lt_of_le hj h.size) hn).trans (h.block j hj hn)⟩
theorem Gb.of {g : Nat} {W W' : World} (h : Below W.heap.size W W') : Gb g W W' := ⟨h.os, h.tape, h.output, h.size, fun j hj _ => h.block j hj⟩
theorem Gb.at {g k : Nat} {W W' : World} {o : Obj} (h : Gb g W W') (hk : W.heap[k]? = some o) (hg : k ≠ g) : W'.heap[k]? = some o :=
  (h.block k (lt_blk hk) (fun e => hg (by injection e))).trans hk
theorem Gb.below {g : Nat} {W W' : World} (h : Gb g W W') : Below g W W' ∨ W.heap.size ≤ g := by
  by_cases hg : W.heap.size ≤ g
  · exact Or.inr hg
  · exact Or.inl ⟨h.os, h.tape, h.output, h.size, fun j hj => h.block j (by omega) (fun e => by injection e; omega)⟩
theorem gb_set {g : Nat} {W : World} {cs : Array Value} {t : TypeId} (h : W.heap[g]? = some (.cells cs t (0, 0))) (j : Nat) (v : Value) : Gb g W (W.setCell ⟨g, j, none⟩ v) := by
  rw [setCell_eq_setRow _ _ _ _ _ _ _ h]
  refine ⟨rfl, rfl, rfl, by simp, fun k hk hn => setRow_other _ _ _ _ (fun e => hn (by rw [e]))⟩
/-- Bytes that can be read. -/
def BR (W : World) (a : Option Addr) (B : List UInt8) : Prop := B.length = 0 ∨ ∃ b off, a = some ⟨b, off, none⟩ ∧ ∀ j, j < B.length → W.cell? ⟨b, off + j, none⟩ = some (.int .u8 (iv (B.getD j 0)))
/-- The reader in memory. -/
structure Rm (g : Nat) (a : Option Addr) (cap : Nat) (B : List UInt8) (W : World) (k room : Nat) : Prop where
  box : W.heap[g]? = some (.cells #[.slice a B.length cap, .int .i64 (k : Int), .int .i64 (room : Int)] 83 (0, 0))
  row : BR W a B
  low : ∀ b off u, a = some ⟨b, off, u⟩ → b < g
  le : k ≤ B.length
  len : B.length ≤ 140737488355328
  rm : room ≤ 4096
  cpl : B.length ≤ cap
  cpm : cap ≤ maxLen
theorem Rm.go {g : Nat} {a : Option Addr} {cap : Nat} {B : List UInt8} {W W' : World} {k room k' room' : Nat} (h : Rm g a cap B W k room) (hg : Gb g W W') (hb : W'.heap[g]? = some (.cells #[.slice a B.length cap, .int .i64 (k' : Int), .int .i64 (room' : Int)] 83 (0, 0))) (hk : k' ≤ B.length) (hr : room' ≤ 4096) : Rm g a cap B W' k' room' := by
  refine ⟨hb, ?_, h.low, hk, h.len, hr, h.cpl, h.cpm⟩
  rcases h.row with h0 | ⟨b, off, rfl, h1⟩
  · exact Or.inl h0
  · refine Or.inr ⟨b, off, rfl, fun j hj => ?_⟩
    have h2 := h1 j hj
    have h3 := h.low b off none rfl
    have h4 := lt_blk h.box
    exact (World.cell?_of_block (a := ⟨b, off + j, none⟩) (hg.block b (by omega) (fun e => by injection e; omega))).trans h2
theorem Rm.low' {g : Nat} {a : Option Addr} {cap : Nat} {B : List UInt8} {W W' : World} {k room : Nat} (h : Rm g a cap B W k room) (hb : Below W.heap.size W W') : Rm g a cap B W' k room :=
  h.go (Gb.of hb) ((hb.block _ (lt_blk h.box)).trans h.box) h.le h.rm
theorem u8_eta (u : UInt8) : UInt8.ofNat u.toNat = u := by simp
/-- What a piece of the reader does. -/
def Ro {α : Type} (g : Nat) (a : Option Addr) (cap : Nat) (B : List UInt8) (rm : α → Nat) (V : α → Value → World → Prop) (r : DR α) (W : World) (e : Ending) (W' : World) : Prop :=
  match r with
  | .ok (x, k') => ∃ v, e = .returned v ∧ V x v W' ∧ Rm g a cap B W' k' (rm x) ∧ Gb g W W'
  | .error (c, p) => ∃ N, e = pe N ∧ Fli W' N c p ∧ Gb g W W'
theorem drew_below (W : World) (n : Nat) : Below W.heap.size W (W.drewN n) := ⟨rfl, rfl, rfl, Nat.le_refl _, fun _ _ => rfl⟩
theorem giveup_any (c a : Nat) (w : World) : Calls Try.prog 84 #[.int .i64 (c : Int), .int .i64 (a : Int)] w fun e w' => ∃ N, e = pe N ∧ Fli w' N c a ∧ Below w.heap.size w w' := by
  have HB := hid (belowA w (.cells #[.int .i64 (c : Int), .int .i64 (a : Int), .string ⟨#[]⟩, .nilIface] 54))
  have HX := hid (heap_alloc_new w (.cells #[.int .i64 (c : Int), .int .i64 (a : Int), .string ⟨#[]⟩, .nilIface] 54))
  go_enter Try.func84, Try.ntmps84
  go_wp2_with fail
  exact ⟨rfl, _, rfl, HX.out, HB.out⟩
/-- A byte more. -/
def tkP (B : List UInt8) (k : Nat) : DR UInt8 := if k < B.length then .ok (B.getD k 0, k + 1) else .error (201, k)
set_option maxHeartbeats 4000000 in
set_option maxRecDepth 100000 in
theorem take_any {g : Nat} {a : Option Addr} {cap : Nat} {B : List UInt8} {W : World} {k room : Nat} (h : Rm g a cap B W k room) :
    Calls Try.prog 89 #[.pointer (some ⟨g, 0, none⟩)] W (Ro g a cap B (fun _ => room) (fun x v _ => v = .int .u8 (iv x)) (tkP B k) W) := by
  have HR := hid h
  have hlen := h.len
  have hle := h.le
  have hb : B.length ≤ maxLen := by unfold maxLen; omega
  have c0 : W.cell? ⟨g, 0, none⟩ = some (.slice a B.length cap) := cell_of_row _ _ 0 _ _ _ h.box
  have c1 : W.cell? ⟨g, 1, none⟩ = some (.int .i64 (k : Int)) := cell_of_row _ _ 1 _ _ _ h.box
  have f1 : W.frozen? ⟨g, 1, none⟩ = false := frz_row h.box 1
  have HLE := hid hle
  unfold tkP
  by_cases hk : k < B.length
  · rw [if_pos hk]
    have e1 : ((k : Int) == (B.length : Int)) = false := by simp; omega
    have hk1 : (k : Int) + 1 ≤ 140737488355328 := by omega
    obtain ⟨c, hc⟩ : ∃ c, c = B.getD k 0 := ⟨_, rfl⟩
    rw [← hc]
    have HC := hid hc
    have HLT := hid hk
    have hkI : (k : Int) < (B.length : Int) := by omega
    clear hc
    go_enter Try.func89, Try.ntmps89
    go_upto_region 1 with fail
    go_quiet (fail)
    have HD1 := hid (drew_below W nq)
    have HR1 := hid (h.low' HD1.out)
    generalize W.drewN nq = V at *
    clear c0 c1 f1
    have c0 : V.cell? ⟨g, 0, none⟩ = some (.slice a B.length cap) := cell_of_row _ _ 0 _ _ _ HR1.out.box
    have c1 : V.cell? ⟨g, 1, none⟩ = some (.int .i64 (k : Int)) := cell_of_row _ _ 1 _ _ _ HR1.out.box
    have f1 : V.frozen? ⟨g, 1, none⟩ = false := frz_row HR1.out.box 1
    have HG1 := hid (gb_set HR1.out.box 1 (.int .i64 ((k : Int) + 1)))
    have HB1 := hid (show (V.setCell ⟨g, 1, none⟩ (.int .i64 ((k : Int) + 1))).heap[g]? = some (.cells #[.slice a B.length cap, .int .i64 (((k + 1 : Nat) : Int)), .int .i64 (room : Int)] 83 (0, 0)) from by rw [setCell_eq_setRow _ _ _ _ _ _ _ HR1.out.box, setRow_heap _ _ _ _ _ _ HR1.out.box]; rfl)
    have HR2 := hid (HR1.out.go HG1.out HB1.out (by omega) h.rm)
    have HGB := hid ((Gb.of HD1.out).trans HG1.out)
    clear hle h
    go_upto_region 4 with fail
    clear c0 c1 f1
    generalize V.setCell ⟨g, 1, none⟩ (.int .i64 ((k : Int) + 1)) = U at *
    have c0 : U.cell? ⟨g, 0, none⟩ = some (.slice a B.length cap) := cell_of_row _ _ 0 _ _ _ HR2.out.box
    have c1 : U.cell? ⟨g, 1, none⟩ = some (.int .i64 ((k : Int) + 1)) := cell_of_row _ _ 1 _ _ _ HR2.out.box
    obtain ⟨b, off, ha, hrow⟩ : ∃ b off, a = some ⟨b, off, none⟩ ∧ ∀ j, j < B.length → U.cell? ⟨b, off + j, none⟩ = some (.int .u8 (iv (B.getD j 0))) := by
      rcases HR2.out.row with h0 | h1
      · have := HLT.out; omega
      · exact h1
    have d : U.cell? ⟨b, off + k, none⟩ = some (.int .u8 (iv c)) := by rw [HC.out]; exact hrow k HLT.out
    clear hrow
    subst ha
    go_quiet (fail)
    go_wp2_with fail
    go_ret
    exact ⟨_, rfl, rfl, HR2.out.low' (drew_below _ _), HGB.out.trans (Gb.of (drew_below _ _))⟩
  · rw [if_neg hk]
    obtain rfl : k = B.length := by omega
    have HG := hid (fun w => giveup_any 201 B.length w)
    clear h hle
    go_enter Try.func89, Try.ntmps89
    go_upto_region 1 with fail
    go_quiet (fail)
    have HD1 := hid (drew_below W nq)
    have HR1 := hid (HR.out.low' HD1.out)
    generalize W.drewN nq = V at *
    clear c0 c1 f1
    have c1 : V.cell? ⟨g, 1, none⟩ = some (.int .i64 (B.length : Int)) := cell_of_row _ _ 1 _ _ _ HR1.out.box
    go_wp2_with fail
    refine (HG.out V).mono ?_
    rintro e U ⟨N, rfl, h1, h2⟩
    have HF := hid h1
    have HD2 := hid h2
    clear h1 h2
    go_wp2_with fail
    exact ⟨rfl, N, rfl, HF.out, Gb.of (bch HD1.out HD2.out)⟩
end Go.Proofs.Ytnclpdgbjefpmaa.L
