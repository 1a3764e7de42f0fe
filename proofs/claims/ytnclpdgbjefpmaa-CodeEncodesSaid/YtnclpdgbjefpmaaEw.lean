import Derived.Deep.QuietTactic
import Derived.BigQuiet
import Derived.Test.YtnclpdgbjefpmaaEv
namespace Go.Proofs.Ytnclpdgbjefpmaa.L
open Go.RowKit
set_option linter.unusedVariables false
set_option linter.unusedSimpArgs false
/-- A fault in memory. -/
def Fli (W : World) (N c a : Nat) : Prop := W.heap[N]? = some (.cells #[.int .i64 (c : Int), .int .i64 (a : Int), .string ⟨#[]⟩, .nilIface] 54 (0, 0))
abbrev pe (N : Nat) : Ending := .panicked [{ v := .iface 51 (.pointer (some ⟨N, 0, none⟩)), recovered := false }]
/-- Nothing has changed but one block. -/
def Gb (g : Nat) (W W' : World) : Prop := W.grownBy W' (some g)
theorem Gb.refl (g : Nat) (W : World) : Gb g W W := ⟨rfl, rfl, rfl, Nat.le_refl _, fun _ _ _ => rfl⟩
theorem Gb.trans {g : Nat} {W W' W'' : World} (h : Gb g W W') (k : Gb g W' W'') : Gb g W W'' :=
  ⟨k.os.trans h.os, k.tape.trans h.tape, k.output.trans h.output, Nat.le_trans h.size k.size, fun j hj hn => (k.block j (Nat.lt_of_lt_of_le hj h.size) hn).trans (h.block j hj hn)⟩
theorem Gb.of {g : Nat} {W W' : World} (h : Below W.heap.size W W') : Gb g W W' := ⟨h.os, h.tape, h.output, h.size, fun j hj _ => h.block j hj⟩
theorem Gb.at {g k : Nat} {W W' : World} {o : Obj} (h : Gb g W W') (hk : W.heap[k]? = some o) (hg : k ≠ g) : W'.heap[k]? = some o :=
  (h.block k (lt_blk hk) (fun e => hg (by injection e))).trans hk
theorem Gb.below {g : Nat} {W W' : World} (h : Gb g W W') : Below g W W' ∨ W.heap.size ≤ g := by
  by_cases hg : W.heap.size ≤ g
  · exact Or.inr hg
  · exact Or.inl ⟨h.os, h.tape, h.output, h.size, fun j hj => h.block j (by omega) (fun e => by injection e; omega)⟩
theorem gb_set {g : Nat} {W : World} {cs : Array Value} {t : TypeId} (h : W.heap[g]? = some (.cells cs t (0, 0))) (j : Nat) (v : Value) : Gb g W (W.setCell ⟨g, j, none⟩ v) := by
  rw [setCell_eq_setRow _ _ _ _ _ _ _ h]
  refine ⟨rfl, rfl, rfl, by simp, fun k hk hn => setRow_other _ _ _ _ (fun e => hn (by rw [e]))⟩
/-- Bytes that can be read. -/
def BR (W : World) (a : Option Addr) (B : List UInt8) : Prop := B.length = 0 ∨ ∃ b off, a = some ⟨b, off, none⟩ ∧ ∀ j, j < B.length → W.cell? ⟨b, off + j, none⟩ = some (.int .u8 (iv (B.getD j 0)))
/-- The reader in memory. -/
structure Rm (g : Nat) (a : Option Addr) (cap : Nat) (B : List UInt8) (W : World) (k room : Nat) : Prop where
  box : W.heap[g]? = some (.cells #[.slice a B.length cap, .int .i64 (k : Int), .int .i64 (room : Int)] 83 (0, 0))
  row : BR W a B
  low : ∀ b off u, a = some ⟨b, off, u⟩ → b < g
  le : k ≤ B.length
  len : B.length ≤ 140737488355328
  rm : room ≤ 4096
  cpl : B.length ≤ cap
  cpm : cap ≤ maxLen
theorem Rm.go {g : Nat} {a : Option Addr} {cap : Nat} {B : List UInt8} {W W' : World} {k room k' room' : Nat} (h : Rm g a cap B W k room) (hg : Gb g W W') (hb : W'.heap[g]? = some (.cells #[.slice a B.length cap, .int .i64 (k' : Int), .int .i64 (room' : Int)] 83 (0, 0))) (hk : k' ≤ B.length) (hr : room' ≤ 4096) : Rm g a cap B W' k' room' := by
  refine ⟨hb, ?_, h.low, hk, h.len, hr, h.cpl, h.cpm⟩
  rcases h.row with h0 | ⟨b, off, rfl, h1⟩
  · exact Or.inl h0
  · refine Or.inr ⟨b, off, rfl, fun j hj => ?_⟩
    have h2 := h1 j hj
    have h3 := h.low b off none rfl
    have h4 := lt_blk h.box
    exact (World.cell?_of_block (a := ⟨b, off + j, none⟩) (hg.block b (by omega) (fun e => by injection e; omega))).trans h2
theorem Rm.low' {g : Nat} {a : Option Addr} {cap : Nat} {B : List UInt8} {W W' : World} {k room : Nat} (h : Rm g a cap B W k room) (hb : Below W.heap.size W W') : Rm g a cap B W' k room :=
  h.go (Gb.of hb) ((hb.block _ (lt_blk h.box)).trans h.box) h.le h.rm
theorem u8_eta (u : UInt8) : UInt8.ofNat u.toNat = u := by simp
/-- What a piece of the reader does. -/
def Ro {α : Type} (g : Nat) (a : Option Addr) (cap : Nat) (B : List UInt8) (rm : α → Nat) (V : α → Value → World → Prop) (r : DR α) (W : World) (e : Ending) (W' : World) : Prop :=
  match r with
  | .ok (x, k') => ∃ v, e = .returned v ∧ V x v W' ∧ Rm g a cap B W' k' (rm x) ∧ Gb g W W'
  | .error (c, p) => ∃ N, e = pe N ∧ Fli W' N c p ∧ Gb g W W'
theorem drew_below (W : World) (n : Nat) : Below W.heap.size W (W.drewN n) := ⟨rfl, rfl, rfl, Nat.le_refl _, fun _ _ => rfl⟩
theorem giveup_any (c a : Nat) (w : World) : Calls Try.prog 84 #[.int .i64 (c : Int), .int .i64 (a : Int)] w fun e w' => ∃ N, e = pe N ∧ Fli w' N c a ∧ Below w.heap.size w w' := by
  have HB := hid (belowA w (.cells #[.int .i64 (c : Int), .int .i64 (a : Int), .string ⟨#[]⟩, .nilIface] 54))
  have HX := hid (heap_alloc_new w (.cells #[.int .i64 (c : Int), .int .i64 (a : Int), .string ⟨#[]⟩, .nilIface] 54))
  go_enter Try.func84, Try.ntmps84
  go_wp2_with fail
  exact ⟨rfl, _, rfl, HX.out, HB.out⟩
/-- A byte more. -/
def tkP (B : List UInt8) (k : Nat) : DR UInt8 := if k < B.length then .ok (B.getD k 0, k + 1) else .error (201, k)
set_option maxHeartbeats 4000000 in
set_option maxRecDepth 100000 in
theorem take_any {g : Nat} {a : Option Addr} {cap : Nat} {B : List UInt8} {W : World} {k room : Nat} (h : Rm g a cap B W k room) :
    Calls Try.prog 89 #[.pointer (some ⟨g, 0, none⟩)] W (Ro g a cap B (fun _ => room) (fun x v _ => v = .int .u8 (iv x)) (tkP B k) W) := by
  have HR := hid h
  have hlen := h.len
  have hle := h.le
  have hb : B.length ≤ maxLen := by unfold maxLen; omega
  have c0 : W.cell? ⟨g, 0, none⟩ = some (.slice a B.length cap) := cell_of_row _ _ 0 _ _ _ h.box
  have c1 : W.cell? ⟨g, 1, none⟩ = some (.int .i64 (k : Int)) := cell_of_row _ _ 1 _ _ _ h.box
  have f1 : W.frozen? ⟨g, 1, none⟩ = false := frz_row h.box 1
  have HLE := hid hle
  unfold tkP
  by_cases hk : k < B.length
  · rw [if_pos hk]
    have e1 : ((k : Int) == (B.length : Int)) = false := by simp; omega
    have hk1 : (k : Int) + 1 ≤ 140737488355328 := by omega
    obtain ⟨c, hc⟩ : ∃ c, c = B.getD k 0 := ⟨_, rfl⟩
    rw [← hc]
    have HC := hid hc
    have HLT := hid hk
    have hkI : (k : Int) < (B.length : Int) := by omega
    clear hc
    go_enter Try.func89, Try.ntmps89
    go_upto_region 1 with fail
    go_quiet (fail)
    have HD1 := hid (drew_below W nq)
    have HR1 := hid (h.low' HD1.out)
    generalize W.drewN nq = V at *
    clear c0 c1 f1
    have c0 : V.cell? ⟨g, 0, none⟩ = some (.slice a B.length cap) := cell_of_row _ _ 0 _ _ _ HR1.out.box
    have c1 : V.cell? ⟨g, 1, none⟩ = some (.int .i64 (k : Int)) := cell_of_row _ _ 1 _ _ _ HR1.out.box
    have f1 : V.frozen? ⟨g, 1, none⟩ = false := frz_row HR1.out.box 1
    have HG1 := hid (gb_set HR1.out.box 1 (.int .i64 ((k : Int) + 1)))
    have HB1 := hid (show (V.setCell ⟨g, 1, none⟩ (.int .i64 ((k : Int) + 1))).heap[g]? = some (.cells #[.slice a B.length cap, .int .i64 (((k + 1 : Nat) : Int)), .int .i64 (room : Int)] 83 (0, 0)) from by rw [setCell_eq_setRow _ _ _ _ _ _ _ HR1.out.box, setRow_heap _ _ _ _ _ _ HR1.out.box]; rfl)
    have HR2 := hid (HR1.out.go HG1.out HB1.out (by omega) h.rm)
    have HGB := hid ((Gb.of HD1.out).trans HG1.out)
    clear hle h
    go_upto_region 4 with fail
    clear c0 c1 f1
    generalize V.setCell ⟨g, 1, none⟩ (.int .i64 ((k : Int) + 1)) = U at *
    have c0 : U.cell? ⟨g, 0, none⟩ = some (.slice a B.length cap) := cell_of_row _ _ 0 _ _ _ HR2.out.box
    have c1 : U.cell? ⟨g, 1, none⟩ = some (.int .i64 ((k : Int) + 1)) := cell_of_row _ _ 1 _ _ _ HR2.out.box
    obtain ⟨b, off, ha, hrow⟩ : ∃ b off, a = some ⟨b, off, none⟩ ∧ ∀ j, j < B.length → U.cell? ⟨b, off + j, none⟩ = some (.int .u8 (iv (B.getD j 0))) := by
      rcases HR2.out.row with h0 | h1
      · have := HLT.out; omega
      · exact h1
    have d : U.cell? ⟨b, off + k, none⟩ = some (.int .u8 (iv c)) := by rw [HC.out]; exact hrow k HLT.out
    clear hrow
    subst ha
    go_quiet (fail)
    go_wp2_with fail
    go_ret
    exact ⟨_, rfl, rfl, HR2.out.low' (drew_below _ _), HGB.out.trans (Gb.of (drew_below _ _))⟩
  · rw [if_neg hk]
    obtain rfl : k = B.length := by omega
    have HG := hid (fun w => giveup_any 201 B.length w)
    clear h hle
    go_enter Try.func89, Try.ntmps89
    go_upto_region 1 with fail
    go_quiet (fail)
    have HD1 := hid (drew_below W nq)
    have HR1 := hid (HR.out.low' HD1.out)
    generalize W.drewN nq = V at *
    clear c0 c1 f1
    have c1 : V.cell? ⟨g, 1, none⟩ = some (.int .i64 (B.length : Int)) := cell_of_row _ _ 1 _ _ _ HR1.out.box
    go_wp2_with fail
    refine (HG.out V).mono ?_
    rintro e U ⟨N, rfl, h1, h2⟩
    have HF := hid h1
    have HD2 := hid h2
    clear h1 h2
    go_wp2_with fail
    exact ⟨rfl, N, rfl, HF.out, Gb.of (bch HD1.out HD2.out)⟩
end Go.Proofs.Ytnclpdgbjefpmaa.L
