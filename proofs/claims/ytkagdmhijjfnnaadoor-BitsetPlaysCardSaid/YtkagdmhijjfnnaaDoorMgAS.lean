import Derived.Test.YtkagdmhijjfnnaaDoorMgAR
import Derived.Laws.MakeOwn
namespace Go.Proofs.YtkagdmhijjfnnaaDoor
open Go.RowKit Bs
set_option linter.unusedVariables false
/-- A row of bools. -/
def brow (bs : List Bool) : Array Value := (bs.map Value.bool).toArray
theorem brow_get (bs : List Bool) (i : Nat) (h : i < bs.length) : (brow bs)[i]? = some (.bool (bs.getD i false)) := by
  simp [brow, List.getD_eq_getElem?_getD, List.getElem?_eq_getElem h]
theorem brow_size (bs : List Bool) : (brow bs).size = bs.length := by simp [brow]
theorem brow_set (bs : List Bool) (i : Nat) (x : Bool) : (brow bs).setIfInBounds i (.bool x) = brow (bs.set i x) := by
  simp only [brow, List.setIfInBounds_toArray]
  congr 1
  rw [List.map_set]
theorem infoB : ∃ i : TypeInfo, Tryd.prog.info? 4 = some i ∧ i.zero = some (.bool false) ∧ i.size = 1 ∧ i.bytes = 1 := by
  refine ⟨(Tryd.prog.info? 4).getD default, ?_, ?_, ?_, ?_⟩ <;> kernel_rfl
theorem made_bools (k : Nat) : madeCells (Value.bool false).cells k = brow (List.replicate k false) := by
  apply Array.ext
  · simp [madeCells, brow]
  · intro i h1 h2
    simp [madeCells, Value.cells, Nat.mod_one, brow]
theorem make_bools (n : Nat) (hn : n ≤ 65536) (w : World) : Sem.run Tryd.prog (Instr.makeSlice 98 (.int .i64 (n : Int)) (.int .i64 (n : Int))) w =
    .ok (.slice (some ⟨w.heap.size, 0, none⟩) n n) (w.alloc (.cells (brow (List.replicate n false)) 4)) := by
  obtain ⟨i, hi, hz, hs, hb⟩ := infoB
  have h := run_makeSlice (P := Tryd.prog) w 98 4 i (.bool false) Tryd.underlying98 hi hz .i64 .i64 n n (by omega) (by omega) (by rw [hs]; omega) (by rw [hb]; omega) (by omega)
  rw [hs, Nat.mul_one, Int.toNat_natCast, made_bools] at h
  exact h
/-- The answer's box and the set's own. -/
structure Fx (w W : World) (S : Nat) (n : Int) (v : Value) : Prop where
  r : W.heap[w.heap.size]? = some (.cells #[.int .i64 0, .slice none 0 0] 30 (0, 0))
  s : W.heap[S]? = some (.cells #[.int .i64 n, v] 30 (0, 0))
  lt : w.heap.size < S
  low : Below w.heap.size w W
theorem Fx.on {w W W' : World} {S : Nat} {n : Int} {v : Value} (h : Fx w W S n v) (k : Below W.heap.size W W') : Fx w W' S n v :=
  ⟨(k.block _ (lt_of_block h.r)).trans h.r, (k.block _ (lt_of_block h.s)).trans h.s, h.lt, belowT h.low k⟩
theorem Fx.s0 {w W : World} {S : Nat} {n : Int} {v : Value} (h : Fx w W S n v) : W.cell? ⟨S, 0, none⟩ = some (.int .i64 n) := by rw [cell_of_row _ _ 0 _ _ _ h.s]; rfl
theorem Fx.s1 {w W : World} {S : Nat} {n : Int} {v : Value} (h : Fx w W S n v) : W.cell? ⟨S, 1, none⟩ = some v := by rw [cell_of_row _ _ 1 _ _ _ h.s]; rfl
theorem Fx.sf {w W : World} {S : Nat} {n : Int} {v : Value} (h : Fx w W S n v) (k : Nat) : W.frozen? ⟨S, k, none⟩ = false := frozen_of_row _ _ k _ _ h.s
theorem Fx.r0 {w W : World} {S : Nat} {n : Int} {v : Value} (h : Fx w W S n v) : W.cell? ⟨w.heap.size, 0, none⟩ = some (.int .i64 0) := by rw [cell_of_row _ _ 0 _ _ _ h.r]; rfl
theorem Fx.r1 {w W : World} {S : Nat} {n : Int} {v : Value} (h : Fx w W S n v) : W.cell? ⟨w.heap.size, 1, none⟩ = some (.slice none 0 0) := by rw [cell_of_row _ _ 1 _ _ _ h.r]; rfl
theorem Fx.rf {w W : World} {S : Nat} {n : Int} {v : Value} (h : Fx w W S n v) (k : Nat) : W.frozen? ⟨w.heap.size, k, none⟩ = false := frozen_of_row _ _ k _ _ h.r
theorem Fx.new {w W : World} (hW : Below (w.alloc (.cells #[.int .i64 0, .slice none 0 0] 30)).heap.size (w.alloc (.cells #[.int .i64 0, .slice none 0 0] 30)) W) (n : Int) (v : Value) : Fx w (W.alloc (.cells #[.int .i64 n, v] 30)) W.heap.size n v := by
  have hs := hW.size
  simp at hs
  refine ⟨?_, heap_alloc_new W _, by omega, ?_⟩
  · rw [heap_alloc_old _ _ (by omega), hW.block _ (by simp)]
    exact heap_alloc_new w _
  · exact belowT (belowT (lowAlloc w _) hW) (lowAlloc W _)
theorem Fx.other {w W : World} {S : Nat} {n : Int} {v : Value} (h : Fx w W S n v) {g : Nat} (k : Nat) (u : Value) (h1 : g ≠ w.heap.size) (h2 : g ≠ S) (h3 : w.heap.size ≤ g) : Fx w (W.setCell ⟨g, k, none⟩ u) S n v :=
  ⟨(set_oth W u h1.symm).trans h.r, (set_oth W u h2.symm).trans h.s, h.lt, below_st h.low _ _ _ h3⟩
theorem Fx.grown {w W W' : World} {S : Nat} {n : Int} {v : Value} (h : Fx w W S n v) {g : Option Nat} (k : W.grownBy W' g) (hg : ∀ b, g = some b → S < b) : Fx w W' S n v := by
  have l := lt_of_block h.s
  have hl := h.lt
  exact ⟨(k.block _ (by omega) (fun e => by have := hg _ e.symm; omega)).trans h.r, (k.block _ l (fun e => by have := hg _ e.symm; omega)).trans h.s, h.lt, h.low.grown k (by omega) (fun b e => by have := hg b e; omega)⟩
theorem Fx.put {w W : World} {S : Nat} {n : Int} {v : Value} (h : Fx w W S n v) (u : Value) : Fx w (W.setCell ⟨S, 1, none⟩ u) S n u := by
  have hl := h.lt
  refine ⟨(set_oth W u (by omega)).trans h.r, ?_, h.lt, below_st h.low _ _ _ (by omega)⟩
  rw [heap_setCell_same W S 1 _ _ u h.s]
  rfl
set_option maxRecDepth 100000 in
set_option maxHeartbeats 4000000 in
theorem dfrom_no (n : Int) (a : Option Addr) (l cap : Nat) (w : World) (hn : ¬ (0 ≤ n ∧ n ≤ 65536)) :
    Calls Tryd.prog 68 #[.int .i64 n, .slice a l cap] w fun e w' => e = .returned (.tuple #[.agg #[.int .i64 0, .slice none 0 0], .int .i64 11]) ∧ Below w.heap.size w w' := by
  have HN := hid (dnew_no n (w.alloc (.cells #[.int .i64 0, .slice none 0 0] 30)) hn)
  clear hn
  go_enter Tryd.func68, Tryd.ntmps68
  go_wp2_with fail
  refine HN.out.mono ?_
  rintro e w1 ⟨rfl, hb1⟩
  have X := Fx.new hb1 0 (.slice none 0 0)
  have s0 := X.s0
  have s1 := X.s1
  have r0 := X.r0
  have r1 := X.r1
  have f0 := X.rf 0
  have f1 := X.rf 1
  have XL := hid X.low
  clear X hb1 HN
  go_wp2_with fail
  refine bodyPost_ret (v := .tuple #[.agg #[.int .i64 0, .slice none 0 0], .int .i64 11]) ?_ rfl ⟨rfl, below_st (below_st XL.out _ _ _ (by omega)) _ _ _ (by omega)⟩
  rw [results_cell_tmp rfl]
  go_simp
set_option maxRecDepth 100000 in
set_option maxHeartbeats 4000000 in
theorem dfrom_bad (n : Nat) (a : Option Addr) (cap : Nat) (zs : List Int) (w : World) (hn : n ≤ 65536) (h : Rd w a zs) (hL : zs.length ≤ 9223372036854775807) (hz : ∃ z ∈ zs, ¬ (0 ≤ z ∧ z < n)) :
    Calls Tryd.prog 68 #[.int .i64 (n : Int), .slice a zs.length cap] w fun e w' => e = .returned (.tuple #[.agg #[.int .i64 0, .slice none 0 0], .int .i64 12]) ∧ Below w.heap.size w w' := by
  have HN := hid (dnew n (w.alloc (.cells #[.int .i64 0, .slice none 0 0] 30)) hn)
  have H := hid h
  have HZ := hid hz
  clear h hz
  obtain ⟨L, hLe⟩ : ∃ L, L = zs.length := ⟨_, rfl⟩
  have HL := hid hLe
  rw [← hLe] at hL ⊢
  clear hLe
  go_enter Tryd.func68, Tryd.ntmps68
  go_wp2_with fail
  refine HN.out.mono ?_
  rintro e w1 ⟨rfl, hb1⟩
  have X := hid (Fx.new hb1 n (.slice none 0 0))
  have s0 := X.out.s0
  have s1 := X.out.s1
  clear hb1 HN
  go_wp2_with fail
  generalize w1.alloc _ = W at *
  go_loop [8] (fun x => ∃ k : Nat, k ≤ L ∧ x = .int .i64 k ∧ Hid (∀ j, j < k → 0 ≤ zs.getD j 0 ∧ zs.getD j 0 < n)) (fun x => L - (intOf x).toNat)
  case atStart => exact ⟨0, Nat.zero_le _, rfl, hid fun j hj => by omega⟩
  case round =>
    obtain ⟨k, hk, rfl, HK⟩ := hrel
    by_cases hlt : k < L
    · rcases H.out.low X.out.low (Nat.le_refl _) with h0 | ⟨b, off, rfl, hb, hc⟩
      · have := HL.out; omega
      have hx := hc k (by rw [← HL.out]; exact hlt)
      have KK := hid (fun c j (hj : j < k + 1) => show 0 ≤ zs.getD j 0 ∧ zs.getD j 0 < n by
        by_cases e : j = k
        · rw [e]; exact c
        · exact HK.out j (by omega))
      clear hc
      generalize zs.getD k 0 = z at hx KK
      by_cases h0 : z < 0
      · have r0 := X.out.r0
        have r1 := X.out.r1
        have f0 := X.out.rf 0
        have f1 := X.out.rf 1
        have XL := hid X.out.low
        go_wp2_with fail
        refine bodyPost_ret (v := .tuple #[.agg #[.int .i64 0, .slice none 0 0], .int .i64 12]) ?_ rfl ⟨rfl, below_st (below_st XL.out _ _ _ (by omega)) _ _ _ (by omega)⟩
        rw [results_cell_tmp rfl]
        go_simp
      · by_cases h1 : (n : Int) ≤ z
        · have r0 := X.out.r0
          have r1 := X.out.r1
          have f0 := X.out.rf 0
          have f1 := X.out.rf 1
          have XL := hid X.out.low
          go_wp2_with fail
          refine bodyPost_ret (v := .tuple #[.agg #[.int .i64 0, .slice none 0 0], .int .i64 12]) ?_ rfl ⟨rfl, below_st (below_st XL.out _ _ _ (by omega)) _ _ _ (by omega)⟩
          rw [results_cell_tmp rfl]
          go_simp
        · have K9 := hid (KK.out (by omega))
          clear KK
          go_wp2_with fail
          exact ⟨⟨k + 1, by omega, by go_num, K9⟩, by simp [intOf]; omega⟩
    · exfalso
      obtain ⟨z, hz, hno⟩ := HZ.out
      obtain ⟨j, hj, rfl⟩ := mem_getD.1 hz
      exact hno (HK.out j (by have := HL.out; omega))
end Go.Proofs.YtkagdmhijjfnnaaDoor
namespace Go.Proofs.YtkagdmhijjfnnaaDoor
open Go.RowKit Bs
set_option linter.unusedVariables false
/-- The document's From in its third part: which places are in stands in the row I. -/
structure Fy (w W : World) (S I : Nat) (n : Nat) (v : Value) (bs : List Bool) : Prop where
  fx : Fx w W S n v
  row : W.heap[I]? = some (.cells (brow bs) 4 (0, 0))
  lt : S < I
  len : bs.length = n
theorem Fy.put {w W : World} {S I n : Nat} {v : Value} {bs : List Bool} (h : Fy w W S I n v bs) (k : Nat) : Fy w (W.setCell ⟨I, k, none⟩ (.bool true)) S I n v (bs.set k true) := by
  have l1 := h.lt
  have l2 := h.fx.lt
  refine ⟨h.fx.other k _ (by omega) (by omega) (by omega), ?_, h.lt, by rw [List.length_set]; exact h.len⟩
  rw [heap_setCell_same W I k _ _ _ h.row, brow_set]
theorem Fy.get {w W : World} {S I n : Nat} {v : Value} {bs : List Bool} (h : Fy w W S I n v bs) {k : Nat} (hk : k < n) : W.cell? ⟨I, k, none⟩ = some (.bool (bs.getD k false)) := by
  rw [cell_of_row _ _ k _ _ _ h.row, brow_get bs k (by rw [h.len]; exact hk)]
theorem set_true (bs : List Bool) (n z : Nat) (hz : z < bs.length) (j : Nat) : (bs.set z true).getD j false = (bs.getD j false || decide (j = z)) := by
  rw [List.getD_eq_getElem?_getD, List.getD_eq_getElem?_getD, List.getElem?_set]
  by_cases e : z = j
  · subst e; simp [hz]
  · have e' : ¬ j = z := fun c => e c.symm
    simp [e, e']
set_option maxRecDepth 100000 in
set_option maxHeartbeats 4000000 in
theorem dfrom (n : Nat) (a : Option Addr) (cap : Nat) (zs : List Int) (w : World) (hn : n ≤ 65536) (h : Rd w a zs) (hL : zs.length ≤ 9223372036854775807) (hz : ∀ z ∈ zs, 0 ≤ z ∧ z < n) :
    Calls Tryd.prog 68 #[.int .i64 (n : Int), .slice a zs.length cap] w fun e w' => ∃ v, e = .returned (.tuple #[.agg #[.int .i64 (n : Int), v], .int .i64 0]) ∧ OwnI w' w.heap.size v (msR n (fun i => decide ((i : Int) ∈ zs))) ∧ Below w.heap.size w w' := by
  obtain ⟨i0, hi, hz0, hz1, hz2⟩ := info3
  have HN := hid (dnew n (w.alloc (.cells #[.int .i64 0, .slice none 0 0] 30)) hn)
  have H := hid h
  have HZ := hid (fun k (hk : k < zs.length) => hz (zs.getD k 0) (mem_getD.2 ⟨k, hk, rfl⟩))
  clear h hz
  obtain ⟨L, hLe⟩ : ∃ L, L = zs.length := ⟨_, rfl⟩
  have HL := hid hLe
  rw [← hLe] at hL HZ ⊢
  clear hLe
  go_enter Tryd.func68, Tryd.ntmps68
  go_wp2_with fail
  refine HN.out.mono ?_
  rintro e w1 ⟨rfl, hb1⟩
  have X := hid (Fx.new hb1 n (.slice none 0 0))
  have s0 := X.out.s0
  have s1 := X.out.s1
  have hws : Hid ((w1.alloc (.cells #[.int .i64 (n : Int), .slice none 0 0] 30)).heap.size = w1.heap.size + 1) := hid (by simp)
  clear hb1 HN
  go_wp2_with fail
  generalize w1.alloc _ = W at *
  generalize w1.heap.size = S at *
  go_loop [8] (fun x => ∃ k : Nat, k ≤ L ∧ x = .int .i64 k) (fun x => L - (intOf x).toNat)
  case atStart => exact ⟨0, Nat.zero_le _, rfl⟩
  case round =>
    obtain ⟨k, hk, rfl⟩ := hrel
    by_cases hlt : k < L
    · rcases H.out.low X.out.low (Nat.le_refl _) with h0 | ⟨b, off, rfl, hb, hc⟩
      · have := HL.out; omega
      have hx := hc k (by rw [← HL.out]; exact hlt)
      obtain ⟨z1, z2⟩ := HZ.out k hlt
      clear hc
      generalize zs.getD k 0 = z at hx z1 z2
      have z3 : ¬ z < 0 := by omega
      have z4 : ¬ (n : Int) ≤ z := by omega
      go_wp2_with fail
      exact ⟨⟨k + 1, by omega, by go_num⟩, by simp [intOf]; omega⟩
    · obtain rfl : k = L := by omega
      have hmk := make_bools n hn W
      clear hlt
      go_wp2_with fail
      clear hmk
      have Y0 := hid (show Fy w (W.alloc (.cells (brow (List.replicate n false)) 4)) S W.heap.size n (.slice none 0 0) (List.replicate n false) from ⟨X.out.on (lowAlloc W _), heap_alloc_new W _, by have := hws.out; omega, by simp⟩)
      have HI0 := hid (show S < W.heap.size by have := hws.out; omega)
      generalize W.alloc _ = V at *
      generalize W.heap.size = I at *
      clear s0 s1 X hws
      go_loopw [10] (fun x wr => ∃ (m : Nat) (bs : List Bool), m ≤ k ∧ x = .int .i64 m ∧ Hid (Fy w wr S I n (.slice none 0 0) bs) ∧ Hid (∀ j : Nat, bs.getD j false = decide ((j : Int) ∈ zs.take m))) (fun x _ => k - (intOf x).toNat)
      case atStart => exact ⟨0, _, Nat.zero_le _, rfl, Y0, hid fun j => by
        rw [List.getD_eq_getElem?_getD, List.getElem?_replicate]
        split <;> simp⟩
      case round =>
        obtain ⟨m, bs, hm, rfl, HY, HB⟩ := hrel
        by_cases hlt : m < k
        · have hm2 : m < zs.length := by rw [← HL.out]; exact hlt
          rcases H.out.low HY.out.fx.low (Nat.le_refl _) with h0 | ⟨b, off, rfl, hb, hc⟩
          · omega
          have hx := hc m hm2
          obtain ⟨z1, z2⟩ := HZ.out m hlt
          have HT := hid (fun (z : Nat) (e : zs.getD m 0 = (z : Int)) (j : Nat) => take_dec zs m j z hm2 e)
          clear hc hm2
          generalize zs.getD m 0 = z' at hx z1 z2 HT
          obtain ⟨z, rfl⟩ : ∃ z : Nat, z' = z := ⟨z'.toNat, by omega⟩
          have z3 : z < n := by omega
          have hcell := HY.out.get z3
          have hfz : wr.frozen? ⟨I, z, none⟩ = false := frozen_of_row _ _ z _ _ HY.out.row
          have Y9 := hid (HY.out.put z)
          have B9 := hid (fun j => show (bs.set z true).getD j false = decide ((j : Int) ∈ zs.take (m + 1)) by
            rw [set_true bs n z (by rw [HY.out.len]; exact z3) j, HB.out j]
            exact HT.out z rfl j)
          clear HT HB
          go_wp2_with fail
          exact ⟨⟨m + 1, _, by omega, by go_num, Y9, B9⟩, by simp [intOf]; omega⟩
        · obtain rfl : m = k := by omega
          have HS : Hid (∀ j : Nat, bs.getD j false = decide ((j : Int) ∈ zs)) := hid fun j => by
            rw [HB.out j, HL.out, List.take_length]
          clear HB hlt Y0
          generalize wr = V2 at *
          obtain ⟨T, hT⟩ : ∃ T : Nat → Bool, T = fun i : Nat => decide ((i : Int) ∈ zs) := ⟨_, rfl⟩
          have HS2 : Hid (∀ j : Nat, bs.getD j false = T j) := hid fun j => by rw [hT]; exact HS.out j
          have HTT := hid hT
          clear hT HS
          go_wp2_with fail
          go_loopw [11] (fun x wr => ∃ (c : Nat) (v : Value), c ≤ n ∧ x = .int .i64 c ∧ Hid (Fy w wr S I n v bs) ∧ Hid (OwnI wr (I + 1) v (msR c T))) (fun x _ => n - (intOf x).toNat)
          case atStart => exact ⟨0, _, Nat.zero_le _, rfl, HY, hid (World.ownsRow_nil _ _ _ _)⟩
          case round =>
            obtain ⟨c, v, hc, rfl, HY, HO⟩ := hrel
            by_cases hlt : c < n
            · have hcell := HY.out.get hlt
              rw [HS2.out c] at hcell
              have hms := msR_succ c T
              cases hT : T c
              · rw [hT] at hcell hms
                simp only [Bool.false_eq_true, if_false, List.append_nil] at hms
                have O9 := hid (show OwnI wr (I + 1) v (msR (c + 1) T) by rw [hms]; exact HO.out)
                clear hms HO
                go_wp2_with fail
                exact ⟨⟨c + 1, v, by omega, by go_num, HY, O9⟩, by simp [intOf]; omega⟩
              · rw [hT] at hcell hms
                simp only [if_true] at hms
                have s1 := HY.out.fx.s1
                have hlen : (msR c T).length ≤ c := by rw [msR_len]; exact card_le _ _
                have HMS := hid hms
                have hsz : I + 1 ≤ wr.heap.size := lt_of_block HY.out.row
                have hfz := HY.out.fx.sf 1
                clear hms
                go_wp2_with (at_builtin; refine wpList_append_src rfl _ _ rfl (I + 1) _ (msR c T) rfl (own_low HO.out (lowAlloc wr (.cells #[.int .i64 (c : Int)] 3))) _ [(c : Int)] rfl (holds_one wr 3 c) (by (try simp); omega) (by simp; omega) ?_; intro v1 w2 o1 g1; have HY2 := hid (show Fy w w2 S I n v bs from ⟨(HY.out.fx.on (lowAlloc wr _)).grown g1 (fun b e => by have := (own_lt HO.out e).1; have := HY.out.lt; omega), (g1.block I (by simp; omega) (fun e => by have := (own_lt HO.out e.symm).1; omega)).trans ((lowAlloc wr _).block I (lt_of_block HY.out.row) |>.trans HY.out.row), HY.out.lt, HY.out.len⟩); have O1 := hid o1; obtain ⟨av, lv, cv, hv⟩ := own_form9 o1; subst hv; have s1 := HY2.out.fx.s1; have hf2 := HY2.out.fx.sf 1; clear o1 g1 hfz)
                have l1 := HY.out.lt
                have O9 := hid (show OwnI (w2.setCell ⟨S, 1, none⟩ (.slice av lv cv)) (I + 1) (.slice av lv cv) (msR (c + 1) T) by rw [HMS.out]; exact own_set O1.out _ (fun e => by have := (own_lt O1.out e).1; omega))
                have Y9 := hid (show Fy w (w2.setCell ⟨S, 1, none⟩ (.slice av lv cv)) S I n (.slice av lv cv) bs from ⟨HY2.out.fx.put _, (set_oth w2 _ (by omega)).trans HY2.out.row, HY2.out.lt, HY2.out.len⟩)
                exact ⟨⟨c + 1, _, by omega, by go_num, Y9, O9⟩, by simp [intOf]; omega⟩
            · obtain rfl : c = n := by omega
              have s0 := HY.out.fx.s0
              have s1 := HY.out.fx.s1
              have r0 := HY.out.fx.r0
              have r1 := HY.out.fx.r1
              have f0 := HY.out.fx.rf 0
              have f1 := HY.out.fx.rf 1
              have XL := hid HY.out.fx.low
              obtain ⟨av, lv, cv, hv⟩ := own_form9 HO.out
              subst hv
              have F9 := hid (fun e => by have := (own_lt HO.out e).1; have := HY.out.lt; have := HY.out.fx.lt; omega : Value.ownBlock (.slice av lv cv) ≠ some w.heap.size)
              have O9 := hid (own_mono HO.out (show w.heap.size ≤ I + 1 by have := HY.out.lt; have := HY.out.fx.lt; omega))
              clear hlt HY HO
              go_wp2_with fail
              refine bodyPost_ret (v := .tuple #[.agg #[.int .i64 (c : Int), .slice av lv cv], .int .i64 0]) ?_ rfl ⟨_, rfl, by rw [← HTT.out]; exact own_set (own_set O9.out _ F9.out) _ F9.out, below_st (below_st XL.out _ _ _ (by omega)) _ _ _ (by omega)⟩
              rw [results_cell_tmp rfl]
              go_simp
end Go.Proofs.YtkagdmhijjfnnaaDoor
