import Derived.Test.YtimmjikpcekffaaGreatDoorMgAT
import Derived.Test.YtimmjikpcekffaaGreatDoorMgBF
import Derived.Test.YtimmjikpcekffaaGreatDoorRows
import Derived.Test.YtimmjikpcekffaaGreatDoorTie
import Derived.Test.YtimmjikpcekffaaGreatDoorCards
import Derived.ProofKit
import Derived.LaidMore
import Derived.LaidLaws
import Derived.LaidSub
import Derived.OpenShut
import Derived.SizedLaws
import Derived.Deep.DeepHandedRow
import Derived.Deep.Slices
import Derived.Lib.SmallJoins
import Derived.Lib.LaidTab
import Derived.SevenTiedAt
namespace Go.Proofs.YtimmjikpcekffaaGreatDoor.L
open Go.RowKit
set_option linter.unusedVariables false
set_option linter.unusedSimpArgs false
set_option maxHeartbeats 4000000 in
set_option maxRecDepth 100000 in
theorem normvalid_any (ma sa : Option Addr) (M : List Pp) (S : List (List Pp)) (mn sn mc sc : Nat) (hmn : mn = M.length) (hsn : sn = S.length) (w : World) (hM : PQ w ma M) (hS : PS w sa S) (hl : sn ≤ 4611686018427387904) (hB : meS M S S.length ≤ 4611686018427387904) (gM : GdP M) (gS : GdS' S) (hg : Gv w) :
    Calls Tryz.prog 3 #[.agg #[.slice ma mn mc, .slice sa sn sc]] w fun e w' => e = .returned (.bool true) ∧ Below w.heap.size w w' := by
  have LX : Below w.heap.size w (w.alloc (.cells #[.slice ma mn mc, .slice sa sn sc] 25)) := belowA w _
  have X0 : Bs (w.alloc (.cells #[.slice ma mn mc, .slice sa sn sc] 25)) w.heap.size [.slice ma mn mc, .slice sa sn sc] := by simpa using bs_new w #[.slice ma mn mc, .slice sa sn sc] 25
  have HLX := hid LX
  have HX0 := hid X0
  have HRV := hid (fun (W : World) (hb : Below w.heap.size w W) => rvalid_any16 ma sa M S mn sn mc sc hmn hsn W (PQ.low hM hb) (PS.low hS hb) hl gM gS)
  have HNV := hid (fun (W : World) (hb : Below w.heap.size w W) => nvalid_any ma sa M S mn sn mc sc hmn hsn W (PQ.low hM hb) (PS.low hS hb) hl hB gM gS)
  have HG := hid (hg.low LX)
  clear LX X0 hmn hsn hM hS gM gS hB hg
  go_enter Tryz.func3, Tryz.ntmps3
  go_wp2_with fail
  generalize w.alloc (.cells #[.slice ma mn mc, .slice sa sn sc] 25) = x0 at *
  refine (awake_any x0 HG.out).mono ?_
  rintro e x1 ⟨rfl, l1⟩
  have L1 := hid (HLX.out.trans (l1.mono HLX.out.size))
  have X1 := HX0.out.low l1
  have HX1 := hid X1
  have c0 := X1.2 0 _ rfl
  have c1 := X1.2 1 _ rfl
  clear X1 l1
  go_wp2_with fail
  refine (HRV.out x1 L1.out).mono ?_
  rintro e x2 ⟨⟨b1, rfl, hb1⟩, l2⟩
  have L2 := hid (L1.out.trans (l2.mono L1.out.size))
  have X2 := HX1.out.low l2
  have HR1 := hid hb1
  clear c0 c1 hb1
  have c0 := X2.2 0 _ rfl
  have c1 := X2.2 1 _ rfl
  clear X2 l2
  go_wp2_with fail
  refine (HNV.out x2 L2.out).mono ?_
  rintro e x3 ⟨⟨b2, rfl, hb2⟩, l3⟩
  have L3 := hid (L2.out.trans (l3.mono L2.out.size))
  have hbe : b2 = b1 := by
    have h1 := HR1.out
    rw [← va_is, ← hb2] at h1
    cases b1 <;> cases b2 <;> simp_all
  have HBE := hid hbe
  clear hb2 l3 hbe c0 c1
  go_wp2_with fail
  go_ret
  refine ⟨?_, L3.out⟩
  rw [HBE.out]
  simp
end Go.Proofs.YtimmjikpcekffaaGreatDoor.L
namespace Go.Proofs.YtimmjikpcekffaaGreatDoor.L
open Go.ChangeShapes Go.WideShapes Go.ChangeAt Go.RowKit Go.Joins
set_option linter.unusedVariables false
set_option linter.unusedSimpArgs false
theorem own : ownKnob Tryz.prog.godebug = none := by kernel_rfl
theorem laidOut : laidOutB Tryz.prog = true := by kernel_rfl
theorem cells9 : Tryz.prog.cellsOf 9 = 1 := by kernel_rfl
theorem cells3 : Tryz.prog.cellsOf 3 = 1 := by kernel_rfl
theorem cells4' : Tryz.prog.cellsOf 4 = 1 := by kernel_rfl
theorem cellsTK : Tryz.prog.cellsOf 43 = 1 := by kernel_rfl
theorem cellsSd : Tryz.prog.cellsOf 39 = 1 := by kernel_rfl
theorem cellsLK : Tryz.prog.cellsOf 42 = 1 := by kernel_rfl
theorem cellsPK : Tryz.prog.cellsOf 41 = 1 := by kernel_rfl
theorem cellsCm : Tryz.prog.cellsOf 46 = 1 := by kernel_rfl
theorem cellsI : Tryz.prog.cellsOf 29 = 1 := by kernel_rfl
theorem cellsS : Tryz.prog.cellsOf 47 = 1 := by kernel_rfl
theorem cellsTm : Tryz.prog.cellsOf 45 = 4 := by kernel_rfl
theorem cellsLt : Tryz.prog.cellsOf 49 = 16 := by kernel_rfl
theorem cellsPp : Tryz.prog.cellsOf 51 = 19 := by kernel_rfl
theorem cellsLs : Tryz.prog.cellsOf 22 = 1 := by kernel_rfl
theorem cellsSs : Tryz.prog.cellsOf 23 = 1 := by kernel_rfl
theorem cellsPn : Tryz.prog.cellsOf 25 = 2 := by kernel_rfl
theorem readPn : Tryz.prog.readableRec 25 = true := by kernel_rfl
theorem rowPn : 25 < Tryz.prog.types.size := of_decide_eq_true (by kernel_rfl)
theorem block_lt {w : World} {b o : Nat} {v : Value} (h : w.cell? ⟨b, o, none⟩ = some v) : b < w.heap.size := by
  apply Classical.byContradiction
  intro n
  have : w.heap[b]? = none := Array.getElem?_eq_none (by omega)
  simp [World.cell?, this] at h
theorem bulk_one {H : Type} (d : DataW H) : 1 ≤ Rows.uptoBulk d := by
  cases d with
  | lit l => cases l <;> simp [Rows.uptoBulk]
  | nil => simp [Rows.uptoBulk]
  | ptr d => simp [Rows.uptoBulk]
  | slice elems spare => simp [Rows.uptoBulk]
  | agg parts => simp [Rows.uptoBulk]
  | iface t d => simp [Rows.uptoBulk]
  | map entries => simp [Rows.uptoBulk]
  | held h => simp [Rows.uptoBulk]
theorem bulk_part {H : Type} {d : DataW H} {l : List (DataW H)} (h : d ∈ l) : Rows.uptoBulk d ≤ Rows.uptoBulkAll l := by
  induction l with
  | nil => cases h
  | cons x r ih =>
    simp only [Rows.uptoBulkAll]
    cases List.mem_cons.1 h with
    | inl e => subst e; omega
    | inr e => have := ih e; omega
theorem bulk_len {H : Type} (l : List (DataW H)) : l.length ≤ Rows.uptoBulkAll l := by
  induction l with
  | nil => simp [Rows.uptoBulkAll]
  | cons x r ih => have := bulk_one x; simp only [Rows.uptoBulkAll, List.length_cons]; omega
theorem bulk_app {H : Type} (a b : List (DataW H)) : Rows.uptoBulkAll (a ++ b) = Rows.uptoBulkAll a + Rows.uptoBulkAll b := by
  induction a with
  | nil => simp [Rows.uptoBulkAll]
  | cons x r ih => simp only [List.cons_append, Rows.uptoBulkAll, ih]; omega
theorem bulk_at {H : Type} (D : Nat → DataW H) {i n : Nat} (h : i < n) : Rows.uptoBulk (D i) ≤ Rows.uptoBulkAll ((List.range n).map D) := bulk_part (List.mem_map.2 ⟨i, List.mem_range.2 h, rfl⟩)
/-- A list of numbers that came in, opened. -/
theorem ints_open {H : Type} {enc : TypeId × Value → H} {W : World} {fuel : Nat} {v : Value} {y : DataW H × List MemPlace} (h : DataW.trod enc Tryz.prog W 0 (fun _ => true) true fuel 29 [v] = some y) :
    ∃ (a : Option Addr) (zs : List Int) (cap : Nat), v = .slice a zs.length cap ∧ RdI W a zs ∧ zs.length < Rows.uptoBulk y.1 := by
  rcases Go.Deep.open_slice Tryz.underlying29 h with ⟨hv, hx⟩ | ⟨a, len, cap, m, n, D, Pl, hv, hb, hl, hm, hmm, hx, hc⟩
  · simp at hv
    exact ⟨none, [], 0, hv, Or.inl rfl, by have := bulk_one y.1; simp; omega⟩
  · simp at hv
    rw [cells3] at hc
    have hbk : len < Rows.uptoBulk y.1 := by
      rw [hx]
      have := bulk_len ((List.range len).map D)
      simp only [Rows.uptoBulk]
      simp at this
      omega
    have hml : len ≤ m := by rw [hmm]; split <;> omega
    have key : ∀ i, i < len → ∃ s : Int, W.cell? (a.add i) = some (.int .i64 s) := by
      intro i hi
      obtain ⟨cs', h1, h2⟩ := hc i (by omega)
      obtain ⟨s, e1, e2, _⟩ := DataW.trod_int Tryz.underlying3 h2
      subst e1
      obtain ⟨_, _, hcell⟩ := World.cells?_some h1
      have h0 := hcell 0 (by omega)
      refine ⟨s, ?_⟩
      have e0 : ((a.add (i * 1)).add 0) = a.add i := by rw [Nat.mul_one]; unfold Addr.add; simp
      rw [e0] at h0
      simpa using h0
    obtain ⟨q, hq⟩ := Go.Deep.choose_lt key
    refine ⟨some a, (List.range len).map q, cap, by simpa using hv, ?_, by simpa using hbk⟩
    by_cases h0 : len = 0
    · exact Or.inl (by simpa using h0)
    right
    obtain ⟨b, off, spot⟩ := a
    have k0 := hq 0 (by omega)
    have hspot : spot = none := by simpa [Addr.add] using World.cell?_spot k0
    subst hspot
    refine ⟨b, off, rfl, ?_, fun j hj => ?_⟩
    · rw [Go.WideShapes.add_plain] at k0
      exact block_lt k0
    · have hj' : j < len := by simpa using hj
      have := hq j hj'
      rw [Go.WideShapes.add_plain] at this
      rw [this]
      simp [List.getD_eq_getElem?_getD, List.getElem?_range hj']
/-- A list of texts that came in, opened. -/
theorem strs_open {H : Type} {enc : TypeId × Value → H} {W : World} {fuel : Nat} {v : Value} {y : DataW H × List MemPlace} (h : DataW.trod enc Tryz.prog W 0 (fun _ => true) true fuel 47 [v] = some y) :
    ∃ (a : Option Addr) (l : List ByteArray) (cap : Nat), v = .slice a l.length cap ∧ RdS W a l ∧ l.length < Rows.uptoBulk y.1 ∧ ∀ k, (l.getD k ByteArray.empty).size ≤ Rows.uptoBulk y.1 := by
  rcases Go.Deep.open_slice Tryz.underlying47 h with ⟨hv, hx⟩ | ⟨a, len, cap, m, n, D, Pl, hv, hb, hl, hm, hmm, hx, hc⟩
  · simp at hv
    exact ⟨none, [], 0, hv, Or.inl rfl, by have := bulk_one y.1; simp; omega, fun k => by simp [List.getD]⟩
  · simp at hv
    rw [cells9] at hc
    have hbk : Rows.uptoBulkAll ((List.range len).map D) < Rows.uptoBulk y.1 := by
      rw [hx]
      simp only [Rows.uptoBulk]
      omega
    have hln : len < Rows.uptoBulk y.1 := by
      have := bulk_len ((List.range len).map D)
      simp at this
      omega
    have hml : len ≤ m := by rw [hmm]; split <;> omega
    have key : ∀ i, i < len → ∃ s : ByteArray, W.cell? (a.add i) = some (.string s) ∧ s.size ≤ Rows.uptoBulk (D i) := by
      intro i hi
      obtain ⟨cs', h1, h2⟩ := hc i (by omega)
      obtain ⟨s, e1, e2, _⟩ := DataW.trod_string Tryz.underlying9 h2
      subst e1
      obtain ⟨_, _, hcell⟩ := World.cells?_some h1
      have h0 := hcell 0 (by omega)
      refine ⟨s, ?_, ?_⟩
      · have e0 : ((a.add (i * 1)).add 0) = a.add i := by rw [Nat.mul_one]; unfold Addr.add; simp
        rw [e0] at h0
        simpa using h0
      · have hD : D i = .lit (.string s.data.toList) := congrArg Prod.fst e2
        rw [hD]
        simp [Rows.uptoBulk]
    obtain ⟨q, hq⟩ := Go.Deep.choose_lt key
    refine ⟨some a, (List.range len).map q, cap, by simpa using hv, ?_, by simpa using hln, fun k => ?_⟩
    · by_cases h0 : len = 0
      · exact Or.inl (by simpa using h0)
      right
      obtain ⟨b, off, spot⟩ := a
      have k0 := (hq 0 (by omega)).1
      have hspot : spot = none := by simpa [Addr.add] using World.cell?_spot k0
      subst hspot
      refine ⟨b, off, rfl, ?_, fun j hj => ?_⟩
      · rw [Go.WideShapes.add_plain] at k0
        exact block_lt k0
      · have hj' : j < len := by simpa using hj
        have := (hq j hj').1
        rw [Go.WideShapes.add_plain] at this
        rw [this]
        simp [List.getD_eq_getElem?_getD, List.getElem?_range hj']
    · by_cases hk : k < len
      · have h1 := (hq k hk).2
        have h2 := bulk_at D hk
        have h3 : ((List.range len).map q).getD k ByteArray.empty = q k := by simp [List.getD_eq_getElem?_getD, List.getElem?_range hk]
        rw [h3]
        omega
      · have h3 : ((List.range len).map q).getD k ByteArray.empty = ByteArray.empty := by
          rw [List.getD_eq_getElem?_getD, List.getElem?_eq_none (by simp; omega)]
          rfl
        rw [h3]
        exact Nat.zero_le _
/-- A term that came in. -/
theorem term_open {H : Type} {enc : TypeId × Value → H} {W : World} {fuel : Nat} {v0 v1 v2 v3 : Value} {y : DataW H × List MemPlace} (h : DataW.trod enc Tryz.prog W 0 (fun _ => true) true fuel 45 [v0, v1, v2, v3] = some y) :
    ∃ (tk ts : Int) (ty : ByteArray) (tl : Int), v0 = .int .i64 tk ∧ v1 = .int .i64 ts ∧ v2 = .string ty ∧ v3 = .int .i64 tl ∧ ty.size ≤ Rows.uptoBulk y.1 := by
  obtain ⟨xs, k, hk, hxy, _, hxl, hf⟩ := DataW.trod_struct Tryz.underlying45 h
  match xs, hxl with
  | [y0, y1, y2, y3], _ =>
    have g0 := hf 0 _ rfl
    have g1 := hf 1 _ rfl
    have g2 := hf 2 _ rfl
    have g3 := hf 3 _ rfl
    simp [cells3, cells9, cellsTK, cellsSd] at g0 g1 g2 g3
    obtain ⟨p, e0, _, _⟩ := DataW.trod_int Tryz.underlying43 g0
    obtain ⟨s, e1, _, _⟩ := DataW.trod_int Tryz.underlying39 g1
    obtain ⟨t, e2, f2, _⟩ := DataW.trod_string Tryz.underlying9 g2
    obtain ⟨q, e3, _, _⟩ := DataW.trod_int Tryz.underlying3 g3
    simp at e0 e1 e2 e3
    refine ⟨p, s, t, q, e0, e1, e2, e3, ?_⟩
    rw [hxy]
    simp only [Rows.uptoBulk, Rows.uptoBulkAll, List.map]
    rw [f2]
    simp [Rows.uptoBulk]
    omega
end Go.Proofs.YtimmjikpcekffaaGreatDoor.L
namespace Go.Proofs.YtimmjikpcekffaaGreatDoor.L
open Go.ChangeShapes Go.WideShapes Go.ChangeAt Go.RowKit Go.Joins
set_option linter.unusedVariables false
set_option linter.unusedSimpArgs false
/-- What bounds a literal. -/
def GdL (l : Ltr) (B : Nat) : Prop := l.tx.length + l.nm.length + 1 ≤ B ∧ l.ty.size ≤ B ∧ l.oy.size ≤ B ∧ l.ky.size ≤ B ∧ ∀ k, (l.tx.getD k ByteArray.empty).size ≤ B
set_option maxRecDepth 100000 in
set_option maxHeartbeats 4000000 in
theorem lit_open {H : Type} {enc : TypeId × Value → H} {W : World} {fuel : Nat} {v0 v1 v2 v3 v4 v5 v6 v7 v8 v9 v10 v11 v12 v13 v14 v15 : Value} {y : DataW H × List MemPlace} (h : DataW.trod enc Tryz.prog W 0 (fun _ => true) true fuel 49 [v0, v1, v2, v3, v4, v5, v6, v7, v8, v9, v10, v11, v12, v13, v14, v15] = some y) :
    ∃ (l : Ltr) (xa : Option Addr) (xc : Nat) (na : Option Addr) (nc : Nat), ([v0, v1, v2, v3, v4, v5, v6, v7, v8, v9, v10, v11, v12, v13, v14, v15] : List Value) = [.int .i64 l.kd, .int .i64 l.tk, .int .i64 l.ts, .string l.ty, .int .i64 l.tl, .int .i64 l.rl, .int .i64 l.nu, .slice xa l.tx.length xc, .slice na l.nm.length nc, .int .i64 l.ok, .int .i64 l.os, .string l.oy, .int .i64 l.ol, .int .i64 l.of, .string l.ky, .int .i64 l.sl] ∧ RdS W xa l.tx ∧ RdI W na l.nm ∧ GdL l (Rows.uptoBulk y.1) := by
  obtain ⟨xs, k, hk, hxy, _, hxl, hf⟩ := DataW.trod_struct Tryz.underlying49 h
  match xs, hxl with
  | [y0, y1, y2, y3, y4, y5, y6, y7, y8, y9], _ =>
    have g0 := hf 0 _ rfl
    have g1 := hf 1 _ rfl
    have g2 := hf 2 _ rfl
    have g3 := hf 3 _ rfl
    have g4 := hf 4 _ rfl
    have g5 := hf 5 _ rfl
    have g6 := hf 6 _ rfl
    have g7 := hf 7 _ rfl
    have g8 := hf 8 _ rfl
    have g9 := hf 9 _ rfl
    simp [cells3, cells9, cellsLK, cellsTm, cellsCm, cellsS, cellsI, cellsSd] at g0 g1 g2 g3 g4 g5 g6 g7 g8 g9
    obtain ⟨kd, e0, _, _⟩ := DataW.trod_int Tryz.underlying42 g0
    obtain ⟨tk, ts, ty, tl, a1, a2, a3, a4, b1⟩ := term_open g1
    obtain ⟨rl, e2, _, _⟩ := DataW.trod_int Tryz.underlying46 g2
    obtain ⟨nu, e3, _, _⟩ := DataW.trod_int Tryz.underlying3 g3
    obtain ⟨xa, tx, xc, e4, r4, b4, b4'⟩ := strs_open g4
    obtain ⟨na, nm, nc, e5, r5, b5⟩ := ints_open g5
    obtain ⟨ok, os, oy, ol, c1, c2, c3, c4, b6⟩ := term_open g6
    obtain ⟨of, e7, _, _⟩ := DataW.trod_int Tryz.underlying39 g7
    obtain ⟨ky, e8, f8, _⟩ := DataW.trod_string Tryz.underlying9 g8
    obtain ⟨sl, e9, _, _⟩ := DataW.trod_int Tryz.underlying3 g9
    simp at e0 e2 e3 e7 e8 e9
    subst e0 e2 e3 e7 e8 e9 a1 a2 a3 a4 c1 c2 c3 c4 e4 e5
    have hB : Rows.uptoBulk y.1 = Rows.uptoBulk y0.1 + (Rows.uptoBulk y1.1 + (Rows.uptoBulk y2.1 + (Rows.uptoBulk y3.1 + (Rows.uptoBulk y4.1 + (Rows.uptoBulk y5.1 + (Rows.uptoBulk y6.1 + (Rows.uptoBulk y7.1 + (Rows.uptoBulk y8.1 + (Rows.uptoBulk y9.1 + 0))))))))) + 1 := by
      rw [hxy]
      simp only [Rows.uptoBulk, Rows.uptoBulkAll, List.map]
    have hk8 : ky.size ≤ Rows.uptoBulk y8.1 := by
      rw [f8]
      simp [Rows.uptoBulk]
    refine ⟨⟨kd, tk, ts, ty, tl, rl, nu, tx, nm, ok, os, oy, ol, of, ky, sl⟩, xa, xc, na, nc, rfl, r4, r5, ?_⟩
    rw [hB]
    generalize Rows.uptoBulk y0.1 = B0 at *
    generalize Rows.uptoBulk y1.1 = B1 at *
    generalize Rows.uptoBulk y2.1 = B2 at *
    generalize Rows.uptoBulk y3.1 = B3 at *
    generalize Rows.uptoBulk y4.1 = B4 at *
    generalize Rows.uptoBulk y5.1 = B5 at *
    generalize Rows.uptoBulk y6.1 = B6 at *
    generalize Rows.uptoBulk y7.1 = B7 at *
    generalize Rows.uptoBulk y8.1 = B8 at *
    generalize Rows.uptoBulk y9.1 = B9 at *
    exact ⟨by show tx.length + nm.length + 1 ≤ _; omega, by show ty.size ≤ _; omega, by show oy.size ≤ _; omega, by show ky.size ≤ _; omega, fun k => by have := b4' k; show (tx.getD k ByteArray.empty).size ≤ _; omega⟩
/-- What bounds a part. -/
def GdB (p : Pp) (B : Nat) : Prop := p.ks.length ≤ B ∧ p.l.tx.length + p.l.nm.length + 1 ≤ B ∧ p.l.ty.size ≤ B ∧ p.l.oy.size ≤ B ∧ p.l.ky.size ≤ B ∧ ∀ k, (p.l.tx.getD k ByteArray.empty).size ≤ B
set_option maxRecDepth 100000 in
set_option maxHeartbeats 4000000 in
theorem part_open {H : Type} {enc : TypeId × Value → H} {W : World} {fuel : Nat} {cs : List Value} (hcl : cs.length = 19) {y : DataW H × List MemPlace} (h : DataW.trod enc Tryz.prog W 0 (fun _ => true) true fuel 51 cs = some y) :
    ∃ (p : Pp) (xa : Option Addr) (xc : Nat) (na : Option Addr) (nc : Nat) (ka : Option Addr) (kc : Nat), cs = pvs p xa xc na nc ka kc ∧ RdS W xa p.l.tx ∧ RdI W na p.l.nm ∧ RdI W ka p.ks ∧ GdB p (Rows.uptoBulk y.1) := by
  obtain ⟨xs, k, hk, hxy, _, hxl, hf⟩ := DataW.trod_struct Tryz.underlying51 h
  match xs, hxl, cs, hcl with
  | [y0, y1, y2, y3], _, [v0, v1, v2, v3, v4, v5, v6, v7, v8, v9, v10, v11, v12, v13, v14, v15, v16, v17, v18], _ =>
    have g0 := hf 0 _ rfl
    have g1 := hf 1 _ rfl
    have g2 := hf 2 _ rfl
    have g3 := hf 3 _ rfl
    simp [cellsPK, cells4', cellsLt, cellsI] at g0 g1 g2 g3
    obtain ⟨pk, e0, _, _⟩ := DataW.trod_int Tryz.underlying41 g0
    obtain ⟨pn, e1, _⟩ := DataW.trod_bool Tryz.underlying4 g1
    obtain ⟨l, xa, xc, na, nc, e2, r2, r2', b2⟩ := lit_open g2
    obtain ⟨ka, ks, kc, e3, r3, b3⟩ := ints_open g3
    simp only [List.cons.injEq, and_true] at e0 e1 e2
    have hB : Rows.uptoBulk y.1 = Rows.uptoBulk y0.1 + (Rows.uptoBulk y1.1 + (Rows.uptoBulk y2.1 + (Rows.uptoBulk y3.1 + 0))) + 1 := by
      rw [hxy]
      simp only [Rows.uptoBulk, Rows.uptoBulkAll, List.map]
    refine ⟨⟨pk, pn, l, ks⟩, xa, xc, na, nc, ka, kc, ?_, r2, r2', r3, ?_⟩
    · obtain ⟨z0, z1, z2, z3, z4, z5, z6, z7, z8, z9, z10, z11, z12, z13, z14, z15⟩ := e2
      subst e0 e1 e3
      subst z0 z1 z2 z3 z4 z5 z6 z7 z8 z9 z10 z11 z12 z13 z14 z15
      rfl
    · obtain ⟨q1, q2, q3, q4, q5⟩ := b2
      rw [hB]
      generalize Rows.uptoBulk y0.1 = B0 at *
      generalize Rows.uptoBulk y1.1 = B1 at *
      generalize Rows.uptoBulk y2.1 = B2 at *
      generalize Rows.uptoBulk y3.1 = B3 at *
      exact ⟨by show ks.length ≤ _; omega, by show l.tx.length + l.nm.length + 1 ≤ _; omega, by show l.ty.size ≤ _; omega, by show l.oy.size ≤ _; omega, by show l.ky.size ≤ _; omega, fun k => by have := q5 k; show (l.tx.getD k ByteArray.empty).size ≤ _; omega⟩
end Go.Proofs.YtimmjikpcekffaaGreatDoor.L
