import Derived.Test.YtnclpdgbjefpmaaRows
import Derived.Test.YtnclpdgbjefpmaaGm
import Derived.ProofKit
import Derived.OpenShut
import Derived.SizedLaws
import Derived.Deep.Slices
import Derived.Lib.SmallJoins
namespace Go.Proofs.Ytnclpdgbjefpmaa.L
open Go.ChangeShapes Go.WideShapes Go.ChangeAt Go.RowKit Go.Joins
set_option linter.unusedVariables false
set_option linter.unusedSimpArgs false
theorem own : ownKnob Try.prog.godebug = none := by kernel_rfl
theorem reach_num : reachBytes = 140737488351232 := by kernel_rfl
theorem laidOut : laidOutB Try.prog = true := by kernel_rfl
theorem cells9 : Try.prog.cellsOf 9 = 1 := by kernel_rfl
theorem cells3 : Try.prog.cellsOf 3 = 1 := by kernel_rfl
theorem cells5 : Try.prog.cellsOf 5 = 1 := by kernel_rfl
theorem cellsSt : Try.prog.cellsOf 24 = 1 := by kernel_rfl
theorem cellsNt : Try.prog.cellsOf 25 = 1 := by kernel_rfl
theorem cellsSs : Try.prog.cellsOf 26 = 1 := by kernel_rfl
theorem cellsNs : Try.prog.cellsOf 27 = 1 := by kernel_rfl
theorem cellsIl : Try.prog.cellsOf 28 = 1 := by kernel_rfl
theorem cellsIn : Try.prog.cellsOf 68 = 4 := by kernel_rfl
theorem cellsOp : Try.prog.cellsOf 66 = 1 := by kernel_rfl
theorem cellsPg : Try.prog.cellsOf 30 = 7 := by kernel_rfl
theorem bytes9 : Try.prog.bytesOf 9 = 16 := by kernel_rfl
theorem bytes3 : Try.prog.bytesOf 3 = 8 := by kernel_rfl
theorem bytes5 : Try.prog.bytesOf 5 = 1 := by kernel_rfl
theorem bytesSt : Try.prog.bytesOf 24 = 24 := by kernel_rfl
theorem bytesNt : Try.prog.bytesOf 25 = 24 := by kernel_rfl
theorem bytesIn : Try.prog.bytesOf 68 = 32 := by kernel_rfl
theorem readPg : Try.prog.readableRec 30 = true := by kernel_rfl
theorem rowPg : 30 < Try.prog.types.size := of_decide_eq_true (by kernel_rfl)
theorem readBy : Try.prog.readableRec 32 = true := by kernel_rfl
theorem rowBy : 32 < Try.prog.types.size := of_decide_eq_true (by kernel_rfl)
theorem readIn : Try.prog.readableRec 3 = true := by kernel_rfl
theorem rowIn : 3 < Try.prog.types.size := of_decide_eq_true (by kernel_rfl)
theorem all_le {l : List Nat} {n : Nat} (h : l.all (fun x => decide (x ≤ n)) = true) {x : Nat} (hx : x ∈ l) : x ≤ n := by
  have := List.all_eq_true.1 h x hx
  simpa using this
theorem block_lt {w : World} {b o : Nat} {v : Value} (h : w.cell? ⟨b, o, none⟩ = some v) : b < w.heap.size := by
  apply Classical.byContradiction
  intro n
  have : w.heap[b]? = none := Array.getElem?_eq_none (by omega)
  simp [World.cell?, this] at h
theorem mem_all {H : Type} {P : Program} {e : TypeId} {ds : List (DataW H)} {d : DataW H} (h : d ∈ ds) {x : Nat} (hx : x ∈ d.weights P e) : x ∈ DataW.weightsAll P e ds := by
  induction ds with
  | nil => cases h
  | cons y r ih =>
    rw [DataW.weightsAll, List.mem_append]
    rcases List.mem_cons.1 h with rfl | h
    · exact Or.inl hx
    · exact Or.inr (ih h)
/-- A list of things of one cell each that came in, opened. -/
theorem one_open {α : Type} [Inhabited α] (inj : α → Value) (Ok : α → Prop) {H : Type} {enc : TypeId × Value → H} {W : World} {fuel : Nat} {v : Value} {d : DataW H} {p : List MemPlace} {t e : TypeId} {BB : Nat} (ht : Try.prog.underlying t = some (.slice e)) (h1 : Try.prog.cellsOf e = 1) (hb : Try.prog.bytesOf e = BB) (hB : 1 ≤ BB)
    (h : DataW.trod enc Try.prog W 0 (fun _ => true) true fuel t [v] = some (d, p)) (hk : ∀ x ∈ d.weights Try.prog t, x ≤ reachBytes)
    (each : ∀ {n : Nat} {u : Value} {D : DataW H} {Pl : List MemPlace}, DataW.trod enc Try.prog W 0 (fun _ => true) true n e [u] = some (D, Pl) → (∀ x ∈ D.weights Try.prog e, x ≤ reachBytes) → ∃ s : α, u = inj s ∧ Ok s) :
    ∃ (a : Option Addr) (zs : List α) (cap : Nat), v = .slice a zs.length cap ∧ RdV W a (zs.map inj) ∧ (a = none → cap = 0) ∧ zs.length ≤ 140737488355328 ∧ ∀ z ∈ zs, Ok z := by
  rcases Go.Deep.open_slice ht h with ⟨hv, hx⟩ | ⟨a, len, cap, m, n, D, Pl, hv, hb0, hl, hm, hmm, hx, hc⟩
  · simp at hv
    exact ⟨none, [], 0, hv, Or.inl rfl, fun _ => rfl, by simp, fun z hz => by cases hz⟩
  · simp at hv
    simp at hmm
    rw [h1] at hc
    have hx1 := congrArg Prod.fst hx
    simp only at hx1
    have hbytes : len ≤ 140737488355328 := by
      subst hmm
      have := hk (m * BB) (by rw [hx1]; simp [DataW.weights, ht, hb]; left; rw [show len + (m - len) = m by omega])
      rw [reach_num] at this
      have : m * 1 ≤ m * BB := Nat.mul_le_mul_left m hB
      omega
    have hin : ∀ i, i < len → ∀ x ∈ (D i).weights Try.prog e, x ≤ reachBytes := by
      intro i hi x hxx
      refine hk x ?_
      rw [hx1]
      have := mem_all (P := Try.prog) (e := e) (ds := (List.range len).map D) (List.mem_map.2 ⟨i, List.mem_range.2 hi, rfl⟩) hxx
      simp only [DataW.weights, ht]
      exact List.mem_cons_of_mem _ (List.mem_append_left _ this)
    have key : ∀ i, i < len → ∃ s : α, W.cell? (a.add i) = some (inj s) ∧ Ok s := by
      intro i hi
      obtain ⟨cs', h1, h2⟩ := hc i (by omega)
      obtain ⟨_, hlen, hcell⟩ := World.cells?_some h1
      match cs', hlen with
      | [u], _ =>
        obtain ⟨s, e1, ok⟩ := each h2 (hin i hi)
        subst e1
        have h0 := hcell 0 (by simp)
        refine ⟨s, ?_, ok⟩
        have e0 : ((a.add (i * 1)).add 0) = a.add i := by rw [Nat.mul_one]; unfold Addr.add; simp
        rw [e0] at h0
        simpa using h0
    obtain ⟨q, hq⟩ := Go.Deep.choose_lt key
    refine ⟨some a, (List.range len).map q, cap, by simpa using hv, ?_, (fun e => by cases e), by simpa using hbytes, fun z hz => ?_⟩
    · by_cases h0 : len = 0
      · exact Or.inl (by simpa using h0)
      right
      obtain ⟨b, off, spot⟩ := a
      have k0 := (hq 0 (by omega)).1
      have hspot : spot = none := by simpa [Addr.add] using World.cell?_spot k0
      subst hspot
      refine ⟨b, off, rfl, ?_, fun j hj => ?_⟩
      · rw [Go.WideShapes.add_plain] at k0
        exact block_lt k0
      · have hj' : j < len := by simpa using hj
        have := (hq j hj').1
        rw [Go.WideShapes.add_plain] at this
        rw [this]
        simp [List.getD_eq_getElem?_getD, List.getElem?_range hj']
    · rw [List.mem_map] at hz
      obtain ⟨j, hj, rfl⟩ := hz
      exact (hq j (List.mem_range.1 hj)).2
section
variable {H : Type} {enc : TypeId × Value → H} {W : World} {fuel : Nat} {v : Value} {d : DataW H} {p : List MemPlace}
theorem texts_open (h : DataW.trod enc Try.prog W 0 (fun _ => true) true fuel 24 [v] = some (d, p)) (hk : ∀ x ∈ d.weights Try.prog 24, x ≤ reachBytes) :
    ∃ (a : Option Addr) (zs : List ByteArray) (cap : Nat), v = .slice a zs.length cap ∧ RdV W a (zs.map Value.string) ∧ (a = none → cap = 0) ∧ zs.length ≤ 140737488355328 := by
  obtain ⟨a, zs, cap, e, r, n, l, _⟩ := one_open Value.string (fun _ => True) Try.underlying24 cells9 bytes9 (by omega) h hk (fun h2 _ => by
    obtain ⟨s, e1, _⟩ := DataW.trod_string Try.underlying9 h2
    exact ⟨s, by simpa using e1, trivial⟩)
  exact ⟨a, zs, cap, e, r, n, l⟩
theorem nums_open (h : DataW.trod enc Try.prog W 0 (fun _ => true) true fuel 25 [v] = some (d, p)) (hk : ∀ x ∈ d.weights Try.prog 25, x ≤ reachBytes) :
    ∃ (a : Option Addr) (zs : List Int) (cap : Nat), v = .slice a zs.length cap ∧ RdV W a (zs.map (Value.int .i64)) ∧ (a = none → cap = 0) ∧ zs.length ≤ 140737488355328 := by
  obtain ⟨a, zs, cap, e, r, n, l, _⟩ := one_open (Value.int .i64) (fun _ => True) Try.underlying25 cells3 bytes3 (by omega) h hk (fun h2 _ => by
    obtain ⟨s, e1, _⟩ := DataW.trod_int Try.underlying3 h2
    exact ⟨s, by simpa using e1, trivial⟩)
  exact ⟨a, zs, cap, e, r, n, l⟩
theorem bytes_open (h : DataW.trod enc Try.prog W 0 (fun _ => true) true fuel 32 [v] = some (d, p)) (hk : ∀ x ∈ d.weights Try.prog 32, x ≤ reachBytes) :
    ∃ (a : Option Addr) (A : List UInt8) (cap : Nat), v = .slice a A.length cap ∧ BsN W a cap A := by
  obtain ⟨a, zs, cap, e, r, n, l, _⟩ := one_open (fun u : UInt8 => Value.int .u8 (iv u)) (fun _ => True) Try.underlying32 cells5 bytes5 (by omega) h hk (fun h2 _ => by
    obtain ⟨s, e1, _, wf⟩ := DataW.trod_int Try.underlying5 h2
    have hw : 0 ≤ s ∧ s ≤ 255 := by
      have h : IntKind.u8.min ≤ s ∧ s ≤ IntKind.u8.max := by simpa [Lit.wf] using wf
      exact h
    refine ⟨UInt8.ofNat s.toNat, ?_, trivial⟩
    have e2 : iv (UInt8.ofNat s.toNat) = s := by unfold iv; rw [u8_nat (by omega)]; omega
    rw [e2]
    simpa using e1)
  refine ⟨a, zs, cap, e, ?_, ?_, l⟩
  · rcases r with h0 | ⟨b, off, ha, hb, hc⟩
    · exact Or.inl (by simpa using h0)
    · exact Or.inr ⟨b, off, ha, fun j hj => by rw [hc j (by simpa using hj), getD_map _ zs 0 j hj]⟩
  · intro ha
    refine ⟨n ha, ?_⟩
    rcases r with h0 | ⟨b, off, e', _⟩
    · simpa using h0
    · rw [ha] at e'
      cases e'
theorem lists_rdn {α : Type} {inj : α → Value} {a : Option Addr} {zs : List (Value × List α)} (r : RdV W a (zs.map Prod.fst)) (ok : ∀ z ∈ zs, ∃ ea ec, z.1 = .slice ea z.2.length ec ∧ (ea = none → ec = 0) ∧ RdV W ea (z.2.map inj)) : RdN inj W a (zs.map Prod.snd) := by
  refine ⟨zs.map Prod.fst, by simp, r, fun j hj => ?_⟩
  have hj' : j < zs.length := by simpa using hj
  obtain ⟨ea, ec, h1, h2, h3⟩ := ok zs[j] (List.getElem_mem hj')
  refine ⟨ea, ec, ?_, h2, ?_⟩
  · simp only [List.getD_eq_getElem?_getD, List.getElem?_map, List.getElem?_eq_getElem hj']
    exact h1
  · simp only [List.getD_eq_getElem?_getD, List.getElem?_map, List.getElem?_eq_getElem hj']
    exact h3
theorem sets_open (h : DataW.trod enc Try.prog W 0 (fun _ => true) true fuel 26 [v] = some (d, p)) (hk : ∀ x ∈ d.weights Try.prog 26, x ≤ reachBytes) :
    ∃ (a : Option Addr) (ls : List (List ByteArray)) (cap : Nat), v = .slice a ls.length cap ∧ RdN Value.string W a ls ∧ (a = none → cap = 0) ∧ ls.length ≤ 140737488355328 ∧ ∀ l ∈ ls, l.length ≤ 140737488355328 := by
  obtain ⟨a, zs, cap, e, r, n, l, ok⟩ := one_open (Prod.fst : Value × List ByteArray → Value) (fun z => (∃ ea ec, z.1 = .slice ea z.2.length ec ∧ (ea = none → ec = 0) ∧ RdV W ea (z.2.map Value.string)) ∧ z.2.length ≤ 140737488355328) Try.underlying26 cellsSt bytesSt (by omega) h hk (fun {_} {u} {_} {_} h2 hk2 => by
    obtain ⟨ea, l, ec, e1, r1, n1, l1⟩ := texts_open h2 hk2
    exact ⟨(u, l), rfl, ⟨ea, ec, e1, n1, r1⟩, l1⟩)
  refine ⟨a, zs.map Prod.snd, cap, by rw [List.length_map]; exact e, lists_rdn r (fun z hz => (ok z hz).1), n, by rw [List.length_map]; exact l, fun l hl => ?_⟩
  obtain ⟨z, hz, rfl⟩ := List.mem_map.1 hl
  exact (ok z hz).2
theorem nsets_open (h : DataW.trod enc Try.prog W 0 (fun _ => true) true fuel 27 [v] = some (d, p)) (hk : ∀ x ∈ d.weights Try.prog 27, x ≤ reachBytes) :
    ∃ (a : Option Addr) (ls : List (List Int)) (cap : Nat), v = .slice a ls.length cap ∧ RdN (Value.int .i64) W a ls ∧ (a = none → cap = 0) ∧ ls.length ≤ 140737488355328 ∧ ∀ l ∈ ls, l.length ≤ 140737488355328 := by
  obtain ⟨a, zs, cap, e, r, n, l, ok⟩ := one_open (Prod.fst : Value × List Int → Value) (fun z => (∃ ea ec, z.1 = .slice ea z.2.length ec ∧ (ea = none → ec = 0) ∧ RdV W ea (z.2.map (Value.int .i64))) ∧ z.2.length ≤ 140737488355328) Try.underlying27 cellsNt bytesNt (by omega) h hk (fun {_} {u} {_} {_} h2 hk2 => by
    obtain ⟨ea, l, ec, e1, r1, n1, l1⟩ := nums_open h2 hk2
    exact ⟨(u, l), rfl, ⟨ea, ec, e1, n1, r1⟩, l1⟩)
  refine ⟨a, zs.map Prod.snd, cap, by rw [List.length_map]; exact e, lists_rdn r (fun z hz => (ok z hz).1), n, by rw [List.length_map]; exact l, fun l hl => ?_⟩
  obtain ⟨z, hz, rfl⟩ := List.mem_map.1 hl
  exact (ok z hz).2
set_option maxRecDepth 100000 in
set_option maxHeartbeats 1000000 in
theorem code_open (h : DataW.trod enc Try.prog W 0 (fun _ => true) true fuel 28 [v] = some (d, p)) (hk : ∀ x ∈ d.weights Try.prog 28, x ≤ reachBytes) :
    ∃ (a : Option Addr) (l : List Ins) (cap : Nat), v = .slice a l.length cap ∧ RdC W a l ∧ (a = none → cap = 0) ∧ l.length ≤ 140737488355328 := by
  rcases Go.Deep.open_slice Try.underlying28 h with ⟨hv, hx⟩ | ⟨a, len, cap, m, n, D, Pl, hv, hb0, hl, hm, hmm, hx, hc⟩
  · simp at hv
    exact ⟨none, [], 0, hv, Or.inl rfl, fun _ => rfl, by simp⟩
  · simp at hv
    simp at hmm
    rw [cellsIn] at hc
    have hx1 := congrArg Prod.fst hx
    simp only at hx1
    have hbytes : len ≤ 140737488355328 := by
      subst hmm
      have := hk (m * 32) (by rw [hx1]; simp [DataW.weights, Try.underlying28, bytesIn]; left; omega)
      rw [reach_num] at this
      omega
    have key : ∀ i, i < len → ∃ s : Ins, W.cell? (a.add (i * 4)) = some (.int .i64 s.op) ∧ W.cell? (a.add (i * 4 + 1)) = some (.int .i64 s.a) ∧ W.cell? (a.add (i * 4 + 2)) = some (.int .i64 s.b) ∧ W.cell? (a.add (i * 4 + 3)) = some (.int .i64 s.c) := by
      intro i hi
      obtain ⟨cs', h1, h2⟩ := hc i (by omega)
      obtain ⟨_, hlen, hcell⟩ := World.cells?_some h1
      obtain ⟨xs, k, hk2, hxy, _, hxl, hf⟩ := DataW.trod_struct Try.underlying68 h2
      match xs, hxl, cs', hlen with
      | [y0, y1, y2, y3], _, [v0, v1, v2, v3], _ =>
        have g0 := hf 0 _ rfl
        have g1 := hf 1 _ rfl
        have g2 := hf 2 _ rfl
        have g3 := hf 3 _ rfl
        simp [cells3, cellsOp] at g0 g1 g2 g3
        obtain ⟨z0, e0, _⟩ := DataW.trod_int Try.underlying66 g0
        obtain ⟨z1, e1, _⟩ := DataW.trod_int Try.underlying3 g1
        obtain ⟨z2, e2, _⟩ := DataW.trod_int Try.underlying3 g2
        obtain ⟨z3, e3, _⟩ := DataW.trod_int Try.underlying3 g3
        simp at e0 e1 e2 e3
        subst e0 e1 e2 e3
        have f0 := hcell 0 (by omega)
        have f1 := hcell 1 (by omega)
        have f2 := hcell 2 (by omega)
        have f3 := hcell 3 (by omega)
        rw [Go.Deep.add_add] at f0 f1 f2 f3
        exact ⟨⟨z0, z1, z2, z3⟩, by simpa using f0, by simpa using f1, by simpa using f2, by simpa using f3⟩
    obtain ⟨q, hq⟩ := Go.Deep.choose_lt key
    refine ⟨some a, (List.range len).map q, cap, by simpa using hv, ?_, (fun e => by cases e), by simpa using hbytes⟩
    by_cases h0 : len = 0
    · exact Or.inl (by simpa using h0)
    right
    obtain ⟨b, off, spot⟩ := a
    have k0 := (hq 0 (by omega)).1
    have hspot : spot = none := by simpa [Addr.add] using World.cell?_spot k0
    subst hspot
    refine ⟨b, off, rfl, ?_, fun j hj => ?_⟩
    · rw [Go.WideShapes.add_plain] at k0
      exact block_lt k0
    · have hj' : j < len := by simpa using hj
      have e : ((List.range len).map q).getD j default = q j := by simp [List.getD_eq_getElem?_getD, List.getElem?_range hj']
      rw [e]
      obtain ⟨a0, a1, a2, a3⟩ := hq j hj'
      rw [Go.WideShapes.add_plain] at a0 a1 a2 a3
      exact ⟨a0, by rw [Nat.add_assoc]; exact a1, by rw [Nat.add_assoc]; exact a2, by rw [Nat.add_assoc]; exact a3⟩
end
set_option maxRecDepth 100000 in
set_option maxHeartbeats 1000000 in
theorem bytes_arg {H : Type} {enc : TypeId × Value → H} {W : World} {base : Nat} {v : Value} {d : DataW H} {p : List MemPlace} (hv : Value.okWide Try.prog W .any base 32 v) (h : DataW.Trod enc Try.prog W 0 (fun _ => true) true 32 v d p)
    (hsz : ∀ x ∈ d.weights Try.prog 32, x ≤ reachBytes) : ∃ (a : Option Addr) (A : List UInt8) (cap : Nat), v = .slice a A.length cap ∧ BsN W a cap A := by
  obtain ⟨a, len, cap, rfl⟩ := okWide_slice Try.underlying32 hv
  obtain ⟨fuel, hf⟩ := h
  exact bytes_open (by simpa [Value.cells] using hf) hsz
set_option maxRecDepth 100000 in
set_option maxHeartbeats 1000000 in
theorem prog_arg {H : Type} {enc : TypeId × Value → H} {W : World} {base : Nat} {v : Value} {d : DataW H} {p : List MemPlace} (hv : Value.okWide Try.prog W .any base 30 v) (h : DataW.Trod enc Try.prog W 0 (fun _ => true) true 30 v d p)
    (hsz : ∀ x ∈ d.weights Try.prog 30, x ≤ reachBytes) : ∃ (pv : Array Value) (q : Pg), v = .agg pv ∧ PgN W pv q ∧ GdP q := by
  obtain ⟨cs, rfl, hcs⟩ := okWide_struct Try.underlying30 hv
  obtain ⟨fuel, hf⟩ := h
  have hf' : DataW.trod enc Try.prog W 0 (fun _ => true) true fuel 30 cs.toList = some (d, p) := by simpa [Value.cells] using hf
  obtain ⟨xs, k, hk2, hxy, hcl, hxl, hff⟩ := DataW.trod_struct Try.underlying30 hf'
  match hce : cs.toList, xs, hxl, hcl with
  | [c0, c1, c2, c3, c4, c5, c6], [y0, y1, y2, y3, y4, y5, y6], _, _ =>
    rw [hce] at hff
    have g0 := hff 0 _ rfl
    have g1 := hff 1 _ rfl
    have g2 := hff 2 _ rfl
    have g3 := hff 3 _ rfl
    have g4 := hff 4 _ rfl
    have g5 := hff 5 _ rfl
    have g6 := hff 6 _ rfl
    simp [cells3, cellsSt, cellsNt, cellsSs, cellsNs, cellsIl] at g0 g1 g2 g3 g4 g5 g6
    have hD : d = .agg [y0.1, y1.1, y2.1, y3.1, y4.1, y5.1, y6.1] := congrArg Prod.fst hxy
    rw [hD] at hsz
    simp only [DataW.weights, Try.underlying30] at hsz
    obtain ⟨a0, l0, c0', rfl, r0, n0, b0⟩ := texts_open (d := y0.1) (p := y0.2) g0 (fun x hx => hsz x (by simp [DataW.weightsEach, hx]))
    obtain ⟨a1, l1, c1', rfl, r1, n1, b1⟩ := nums_open (d := y1.1) (p := y1.2) g1 (fun x hx => hsz x (by simp [DataW.weightsEach, hx]))
    obtain ⟨a2, l2, c2', rfl, r2, n2, b2, e2⟩ := sets_open (d := y2.1) (p := y2.2) g2 (fun x hx => hsz x (by simp [DataW.weightsEach, hx]))
    obtain ⟨a3, l3, c3', rfl, r3, n3, b3, e3⟩ := nsets_open (d := y3.1) (p := y3.2) g3 (fun x hx => hsz x (by simp [DataW.weightsEach, hx]))
    obtain ⟨a4, l4, c4', rfl, r4, n4, b4⟩ := code_open (d := y4.1) (p := y4.2) g4 (fun x hx => hsz x (by simp [DataW.weightsEach, hx]))
    obtain ⟨z5, e5, _⟩ := DataW.trod_int Try.underlying3 g5
    obtain ⟨z6, e6, _⟩ := DataW.trod_int Try.underlying3 g6
    simp at e5 e6
    subst e5 e6
    refine ⟨cs, ⟨l0, l1, l2, l3, l4, z5, z6⟩, rfl, ⟨a0, c0', a1, c1', a2, c2', a3, c3', a4, c4', ?_, r0, r1, r2, r3, r4, n0, n1, n4⟩, ⟨b0, b1, b2, b3, b4, e2, e3⟩⟩
    apply Array.ext'
    rw [hce]
end Go.Proofs.Ytnclpdgbjefpmaa.L
