import Derived.Test.YtkagdmhijjfnnaaDoorPd0
namespace Go.Proofs.YtkagdmhijjfnnaaDoor
open Go.RowKit Bs
set_option linter.unusedVariables false
/-- A list of numbers, to be read. -/
def Rd (w : World) (a : Option Addr) (zs : List Int) : Prop := zs.length = 0 ∨ ∃ b off, a = some ⟨b, off, none⟩ ∧ b < w.heap.size ∧ ∀ j, j < zs.length → w.cell? ⟨b, off + j, none⟩ = some (.int .i64 (zs.getD j 0))
theorem Rd.low {w w' : World} {a : Option Addr} {zs : List Int} (h : Rd w a zs) {B : Nat} (k : Below B w w') (hB : w.heap.size ≤ B) : Rd w' a zs := by
  rcases h with h | ⟨b, off, rfl, h2, h3⟩
  · exact Or.inl h
  · exact Or.inr ⟨b, off, rfl, Nat.lt_of_lt_of_le h2 k.size, fun j hj => (k.cell (p := ⟨b, off + j, none⟩) (Nat.lt_of_lt_of_le h2 hB)).trans (h3 j hj)⟩
theorem Rd.drew {w : World} {a : Option Addr} {zs : List Int} (h : Rd w a zs) (n : Nat) : Rd (w.drewN n) a zs := h
theorem Rd.alloc {w : World} {a : Option Addr} {zs : List Int} (h : Rd w a zs) (o : Obj) : Rd (w.alloc o) a zs := h.low (lowAlloc w o) (Nat.le_refl _)
theorem Hl.rd {w : World} {lo : Nat} {v : Value} {zs : List Int} (h : Hl w lo v zs) : ∃ a cap, v = .slice a zs.length cap ∧ Rd w a zs := by
  obtain ⟨a, cap, rfl, h⟩ := h
  refine ⟨a, cap, rfl, ?_⟩
  rcases h with h | ⟨b, off, rfl, h1, h2, h3⟩
  · exact Or.inl (by rw [h]; rfl)
  · exact Or.inr ⟨b, off, rfl, h2, h3⟩
set_option maxRecDepth 100000 in
set_option maxHeartbeats 2000000 in
theorem dbelow (n : Int) (a : Option Addr) (cap : Nat) (zs : List Int) (i : Int) (w : World) (h : Rd w a zs) (hu : Up zs) (hL : zs.length ≤ 65536) :
    Calls Tryd.prog 98 #[.agg #[.int .i64 n, .slice a zs.length cap], .int .i64 i] w fun e w' => e = .returned (.int .i64 ((bel zs i : Nat) : Int)) ∧ Below w.heap.size w w' := by
  have hr := h.alloc (.cells #[.int .i64 n, .slice a zs.length cap] 30)
  have HB := hid (lowAlloc w (.cells #[.int .i64 n, .slice a zs.length cap] 30))
  have HU := hid hu
  have HE := hid (fun k (hk : k ≤ zs.length) h1 h2 => bel_of (zs := zs) (i := i) hk h1 h2)
  have H := hid hr
  clear h hr hu
  obtain ⟨L, hLe⟩ : ∃ L, L = zs.length := ⟨_, rfl⟩
  have HL := hid hLe
  rw [← hLe] at hL HB H ⊢
  clear hLe
  go_enter Tryd.func98, Tryd.ntmps98
  go_wp2_with fail
  go_quiet (fail)
  go_wp2_with fail
  go_loopw [5, 6] (fun x y wr => ∃ lo hi : Nat, lo ≤ hi ∧ hi ≤ L ∧ x = .int .i64 lo ∧ y = .int .i64 hi ∧ Hid (∀ j, j < lo → zs.getD j 0 < i) ∧ Hid (∀ j, hi ≤ j → j < L → i ≤ zs.getD j 0) ∧ ∃ m, wr = (w.alloc (.cells #[.int .i64 n, .slice a L cap] 30)).drewN m) (fun x y _ => (intOf y).toNat - (intOf x).toNat)
  case atStart => exact ⟨0, L, Nat.zero_le _, Nat.le_refl _, rfl, rfl, hid fun j hj => by omega, hid fun j h1 h2 => by omega, _, rfl⟩
  case round =>
    obtain ⟨lo, hi, h1, h2, rfl, rfl, A, B, m0, rfl⟩ := hrel
    by_cases hlt : lo < hi
    · have hm : (lo + hi) / 2 < L := by omega
      have em : IntKind.i64.wrap (((lo : Int) + (hi : Int)) / 2) = (((lo + hi) / 2 : Nat) : Int) := by rw [IntKind.wrap_i64]; omega
      obtain ⟨m, hmd⟩ : ∃ m, m = (lo + hi) / 2 := ⟨_, rfl⟩
      have hm1 : lo ≤ m := by omega
      have hm2 : m < hi := by omega
      have em' : ((lo : Int) + (hi : Int)) / 2 = (m : Int) := by omega
      rw [← hmd] at hm em
      clear hmd
      rcases H.out with h0 | ⟨b, off, rfl, hb, hc⟩
      · have := HL.out; omega
      have hx := hc m (by rw [← HL.out]; exact hm)
      clear hc
      have AA := hid (fun (c : zs.getD m 0 < i) j (hj : j < m + 1) => show zs.getD j 0 < i by
        by_cases e : j = m
        · rw [e]; exact c
        · exact Int.lt_trans (HU.out.lt (j := j) (k := m) (by omega) (by rw [← HL.out]; exact hm)) c)
      have BB := hid (fun (c : ¬ zs.getD m 0 < i) j (h1 : m ≤ j) (h2 : j < L) => show i ≤ zs.getD j 0 by
        by_cases e : j = m
        · rw [e]; omega
        · have := HU.out.lt (j := m) (k := j) (by omega) (by rw [← HL.out]; exact h2); omega)
      generalize zs.getD m 0 = z at hx AA BB
      by_cases hz : z < i
      · have A9 := hid (AA.out hz)
        clear AA BB
        go_wp2
        exact ⟨⟨m + 1, hi, by omega, h2, by go_num, rfl, A9, B, _, rfl⟩, by simp [intOf]; omega⟩
      · have B9 := hid (BB.out hz)
        clear AA BB
        go_wp2
        exact ⟨⟨lo, m, by omega, by omega, rfl, congrArg (Value.int .i64) em', A, B9, _, rfl⟩, by simp [intOf]; omega⟩
    · have ehl : lo = hi := by omega
      have hge : ¬ (lo : Int) < (hi : Int) := by omega
      have B : Hid (∀ j, lo ≤ j → j < L → i ≤ zs.getD j 0) := hid (by rw [ehl]; exact B.out)
      have e := hid (HE.out lo (by rw [← HL.out]; omega) A.out (fun j j1 j2 => B.out j j1 (by rw [HL.out]; exact j2)))
      clear ehl
      go_wp2_with fail
      go_ret
      exact ⟨by rw [e.out]; rfl, belowT HB.out (belowDrewN _)⟩
/-- What the calls with a set and a number begin with: the set in its box, and how many are below. -/
structure Bx1 (w W : World) (n : Int) (a : Option Addr) (L cap : Nat) : Prop where
  c0 : W.cell? ⟨w.heap.size, 0, none⟩ = some (.int .i64 n)
  c1 : W.cell? ⟨w.heap.size, 1, none⟩ = some (.slice a L cap)
  lt : w.heap.size < W.heap.size
  low : Below w.heap.size w W
theorem Bx1.new (w : World) (n : Int) (a : Option Addr) (L cap : Nat) : Bx1 w (w.alloc (.cells #[.int .i64 n, .slice a L cap] 30)) n a L cap := by
  refine ⟨?_, ?_, by simp, lowAlloc w _⟩
  · rw [cell_of_row _ w.heap.size 0 _ _ _ (heap_alloc_new w _)]; rfl
  · rw [cell_of_row _ w.heap.size 1 _ _ _ (heap_alloc_new w _)]; rfl
theorem Bx1.on {w W W' : World} {n : Int} {a : Option Addr} {L cap : Nat} (h : Bx1 w W n a L cap) (k : Below W.heap.size W W') : Bx1 w W' n a L cap :=
  ⟨(k.cell (p := ⟨w.heap.size, 0, none⟩) h.lt).trans h.c0, (k.cell (p := ⟨w.heap.size, 1, none⟩) h.lt).trans h.c1, Nat.lt_of_lt_of_le h.lt k.size, belowT h.low k⟩
set_option maxRecDepth 100000 in
set_option maxHeartbeats 2000000 in
theorem dhas (n : Int) (a : Option Addr) (cap : Nat) (zs : List Int) (i : Int) (w : World) (h : Rd w a zs) (hu : Up zs) (hL : zs.length ≤ 65536) :
    Calls Tryd.prog 82 #[.agg #[.int .i64 n, .slice a zs.length cap], .int .i64 i] w fun e w' => e = .returned (.bool (decide (i ∈ zs))) ∧ Below w.heap.size w w' := by
  have HK := hid (dbelow n a cap zs i _ (h.alloc (.cells #[.int .i64 n, .slice a zs.length cap] 30)) hu hL)
  have X0 := hid (Bx1.new w n a zs.length cap)
  have H := hid h
  have HI := hid (has_iff hu i)
  have hle := bel_le zs i
  clear h hu
  obtain ⟨L, hLe⟩ : ∃ L, L = zs.length := ⟨_, rfl⟩
  have HL := hid hLe
  rw [← hLe] at hL HK X0 HI hle ⊢
  clear hLe
  obtain ⟨k, hk⟩ : ∃ k, k = bel zs i := ⟨_, rfl⟩
  rw [← hk] at HK HI hle
  clear hk
  go_enter Tryd.func82, Tryd.ntmps82
  go_wp2_with fail
  refine HK.out.mono ?_
  rintro e w1 ⟨rfl, hb1⟩
  have X1 := X0.out.on hb1
  have H1 := hid (H.out.low X1.low (Nat.le_refl _))
  have c0 := X1.c0
  have c1 := X1.c1
  have XL := hid X1.low
  clear X1 hb1 HK X0 H
  by_cases hlt : k < L
  · rcases H1.out with h0 | ⟨b, off, rfl, hb, hc⟩
    · have := HL.out; omega
    have hx := hc k (by rw [← HL.out]; exact hlt)
    have hiff := hid (HI.out)
    clear hc HI H1
    generalize zs.getD k 0 = z at hx hiff
    have g1 : (k : Int) < (L : Int) := by omega
    by_cases hz : z = i
    · have e9 := hid (show decide (i ∈ zs) = true from decide_eq_true (hiff.out.2 ⟨hlt, hz⟩))
      have hz' : (z == i) = true := by simp [hz]
      clear hiff hz
      go_wp2_with fail
      go_ret
      exact ⟨by rw [e9.out]; rfl, XL.out⟩
    · have e9 := hid (show decide (i ∈ zs) = false from decide_eq_false fun c => hz (hiff.out.1 c).2)
      have hz' : (z == i) = false := by simp [hz]
      clear hiff hz
      go_wp2_with fail
      go_ret
      exact ⟨by rw [e9.out]; rfl, XL.out⟩
  · have e9 := hid (show decide (i ∈ zs) = false from decide_eq_false fun c => hlt (HI.out.1 c).1)
    have g1 : ¬ (k : Int) < (L : Int) := by omega
    clear HI
    go_wp2_with fail
    go_ret
    exact ⟨by rw [e9.out]; rfl, XL.out⟩
set_option maxRecDepth 100000 in
set_option maxHeartbeats 2000000 in
theorem dnext (n : Int) (a : Option Addr) (cap : Nat) (zs : List Int) (i : Int) (w : World) (h : Rd w a zs) (hu : Up zs) (hL : zs.length ≤ 65536) :
    Calls Tryd.prog 83 #[.agg #[.int .i64 n, .slice a zs.length cap], .int .i64 i] w fun e w' => e = .returned (.int .i64 (if bel zs i < zs.length then zs.getD (bel zs i) 0 else -1)) ∧ Below w.heap.size w w' := by
  obtain ⟨r, hr⟩ : ∃ r, r = (if bel zs i < zs.length then zs.getD (bel zs i) 0 else -1) := ⟨_, rfl⟩
  rw [← hr]
  have HR := hid hr
  clear hr
  have HK := hid (dbelow n a cap zs i _ (h.alloc (.cells #[.int .i64 n, .slice a zs.length cap] 30)) hu hL)
  have X0 := hid (Bx1.new w n a zs.length cap)
  have H := hid h
  clear h hu
  obtain ⟨L, hLe⟩ : ∃ L, L = zs.length := ⟨_, rfl⟩
  have HL := hid hLe
  rw [← hLe] at hL HK X0 HR ⊢
  clear hLe
  obtain ⟨k, hk⟩ : ∃ k, k = bel zs i := ⟨_, rfl⟩
  rw [← hk] at HK HR
  clear hk
  go_enter Tryd.func83, Tryd.ntmps83
  go_wp2_with fail
  refine HK.out.mono ?_
  rintro e w1 ⟨rfl, hb1⟩
  have X1 := X0.out.on hb1
  have H1 := hid (H.out.low X1.low (Nat.le_refl _))
  have c0 := X1.c0
  have c1 := X1.c1
  have XL := hid X1.low
  clear X1 hb1 HK X0 H
  by_cases hlt : k < L
  · rcases H1.out with h0 | ⟨b, off, rfl, hb, hc⟩
    · have := HL.out; omega
    have hx := hc k (by rw [← HL.out]; exact hlt)
    have e9 := hid (show r = zs.getD k 0 from HR.out.trans (if_pos hlt))
    clear hc H1 HR
    generalize zs.getD k 0 = z at hx e9
    have g1 : (k : Int) < (L : Int) := by omega
    go_wp2_with fail
    go_ret
    exact ⟨by rw [e9.out]; rfl, XL.out⟩
  · have e9 := hid (show r = -1 from HR.out.trans (if_neg hlt))
    clear HR
    have g1 : ¬ (k : Int) < (L : Int) := by omega
    go_wp2_with fail
    go_ret
    exact ⟨by rw [e9.out]; rfl, XL.out⟩
set_option maxRecDepth 100000 in
set_option maxHeartbeats 2000000 in
theorem dprev (n : Int) (a : Option Addr) (cap : Nat) (zs : List Int) (i : Int) (w : World) (h : Rd w a zs) (hu : Up zs) (hL : zs.length ≤ 65536) :
    Calls Tryd.prog 84 #[.agg #[.int .i64 n, .slice a zs.length cap], .int .i64 i] w fun e w' => e = .returned (.int .i64 (prv zs i)) ∧ Below w.heap.size w w' := by
  have HK := hid (dbelow n a cap zs i _ (h.alloc (.cells #[.int .i64 n, .slice a zs.length cap] 30)) hu hL)
  have X0 := hid (Bx1.new w n a zs.length cap)
  have H := hid h
  have HI := hid (has_iff hu i)
  have HP := hid (show prv zs i = if i ∈ zs then i else if 0 < bel zs i then zs.getD (bel zs i - 1) 0 else -1 from rfl)
  have hle := bel_le zs i
  clear h hu
  obtain ⟨L, hLe⟩ : ∃ L, L = zs.length := ⟨_, rfl⟩
  have HL := hid hLe
  rw [← hLe] at hL HK X0 HI hle ⊢
  clear hLe
  obtain ⟨k, hk⟩ : ∃ k, k = bel zs i := ⟨_, rfl⟩
  rw [← hk] at HK HI hle HP
  clear hk
  go_enter Tryd.func84, Tryd.ntmps84
  go_wp2_with fail
  refine HK.out.mono ?_
  rintro e w1 ⟨rfl, hb1⟩
  have X1 := X0.out.on hb1
  have H1 := hid (H.out.low X1.low (Nat.le_refl _))
  have c0 := X1.c0
  have c1 := X1.c1
  have XL := hid X1.low
  clear X1 hb1 HK X0 H
  by_cases hin : i ∈ zs
  · obtain ⟨hlt, hz⟩ := HI.out.1 hin
    have e9 := hid (HP.out.trans (if_pos hin))
    rcases H1.out with h0 | ⟨b, off, rfl, hb, hc⟩
    · have := HL.out; omega
    have hx := hc k (by rw [← HL.out]; exact hlt)
    rw [hz] at hx
    clear hc HI H1 HP hz
    have g1 : (k : Int) < (L : Int) := by omega
    go_wp2_with fail
    go_ret
    exact ⟨by rw [e9.out]; rfl, XL.out⟩
  · by_cases hpos : 0 < k
    · have e9 := hid ((HP.out.trans (if_neg hin)).trans (if_pos hpos))
      rcases H1.out with h0 | ⟨b, off, rfl, hb, hc⟩
      · have := HL.out; omega
      have hy := hc (k - 1) (by rw [← HL.out]; omega)
      have cst : ((k - 1 : Nat) : Int) = (k : Int) - 1 := by omega
      by_cases hlt : k < L
      · have hx := hc k (by rw [← HL.out]; exact hlt)
        have hne := hid (fun c => hin (HI.out.2 ⟨hlt, c⟩))
        clear hc HI H1 HP
        generalize zs.getD k 0 = z at hx hne
        have hz' : (z == i) = false := by simpa using hne.out
        clear hne
        generalize zs.getD (k - 1) 0 = y at hy e9
        have g1 : (k : Int) < (L : Int) := by omega
        have g2 : (0 : Int) < (k : Int) := by omega
        obtain ⟨k', rfl⟩ : ∃ k', k = k' + 1 := ⟨k - 1, by omega⟩
        rw [Nat.add_sub_cancel] at hy
        clear cst
        go_wp2_with fail
        go_ret
        exact ⟨by rw [e9.out]; rfl, XL.out⟩
      · clear hc HI H1 HP
        generalize zs.getD (k - 1) 0 = y at hy e9
        have g1 : ¬ (k : Int) < (L : Int) := by omega
        have g2 : (0 : Int) < (k : Int) := by omega
        obtain ⟨k', rfl⟩ : ∃ k', k = k' + 1 := ⟨k - 1, by omega⟩
        rw [Nat.add_sub_cancel] at hy
        clear cst
        go_wp2_with fail
        go_ret
        exact ⟨by rw [e9.out]; rfl, XL.out⟩
    · have e9 := hid ((HP.out.trans (if_neg hin)).trans (if_neg hpos))
      obtain rfl : k = 0 := by omega
      by_cases hlt : 0 < L
      · rcases H1.out with h0 | ⟨b, off, rfl, hb, hc⟩
        · have := HL.out; omega
        have hx := hc 0 (by rw [← HL.out]; exact hlt)
        rw [Nat.add_zero] at hx
        have hne := hid (fun c => hin (HI.out.2 ⟨hlt, c⟩))
        clear hc HI H1 HP
        generalize zs.getD 0 0 = z at hx hne
        have hz' : (z == i) = false := by simpa using hne.out
        clear hne
        have g1 : (0 : Int) < (L : Int) := by omega
        go_wp2_with fail
        go_ret
        exact ⟨by rw [e9.out]; rfl, XL.out⟩
      · have g1 : ¬ (0 : Int) < (L : Int) := by omega
        obtain rfl : L = 0 := by omega
        go_wp2_with fail
        go_ret
        exact ⟨by rw [e9.out]; rfl, XL.out⟩
set_option maxRecDepth 100000 in
set_option maxHeartbeats 2000000 in
theorem drank (n : Int) (a : Option Addr) (cap : Nat) (zs : List Int) (i : Int) (w : World) (h : Rd w a zs) (hu : Up zs) (hL : zs.length ≤ 65536) :
    Calls Tryd.prog 85 #[.agg #[.int .i64 n, .slice a zs.length cap], .int .i64 i] w fun e w' => e = .returned (.int .i64 ((bel zs i : Nat) : Int)) ∧ Below w.heap.size w w' := by
  have HK := hid (dbelow n a cap zs i _ (h.alloc (.cells #[.int .i64 n, .slice a zs.length cap] 30)) hu hL)
  have X0 := hid (Bx1.new w n a zs.length cap)
  clear h hu
  generalize zs.length = L at *
  generalize bel zs i = k at *
  go_enter Tryd.func85, Tryd.ntmps85
  go_wp2_with fail
  refine HK.out.mono ?_
  rintro e w1 ⟨rfl, hb1⟩
  have XL := hid (X0.out.on hb1).low
  clear hb1 HK X0
  go_wp2_with fail
  go_ret
  exact ⟨rfl, XL.out⟩
set_option maxRecDepth 100000 in
set_option maxHeartbeats 2000000 in
theorem dselect (n : Int) (a : Option Addr) (cap : Nat) (zs : List Int) (k : Int) (w : World) (h : Rd w a zs) (hL : zs.length ≤ 65536) :
    Calls Tryd.prog 86 #[.agg #[.int .i64 n, .slice a zs.length cap], .int .i64 k] w fun e w' => e = .returned (.int .i64 (if 0 ≤ k ∧ k < zs.length then zs.getD k.toNat 0 else -1)) ∧ Below w.heap.size w w' := by
  obtain ⟨r, hr⟩ : ∃ r, r = (if 0 ≤ k ∧ k < zs.length then zs.getD k.toNat 0 else -1) := ⟨_, rfl⟩
  rw [← hr]
  have HR := hid hr
  clear hr
  have X0 := Bx1.new w n a zs.length cap
  have H := hid h
  clear h
  obtain ⟨L, hLe⟩ : ∃ L, L = zs.length := ⟨_, rfl⟩
  have HL := hid hLe
  rw [← hLe] at hL X0 HR ⊢
  clear hLe
  have H1 := hid (H.out.low X0.low (Nat.le_refl _))
  have c0 := X0.c0
  have c1 := X0.c1
  have XL := hid X0.low
  clear X0 H
  go_enter Tryd.func86, Tryd.ntmps86
  by_cases hlt : 0 ≤ k ∧ k < L
  · rcases H1.out with h0 | ⟨b, off, rfl, hb, hc⟩
    · have := HL.out; omega
    have hx := hc k.toNat (by rw [← HL.out]; omega)
    have e9 := hid (show r = zs.getD k.toNat 0 from HR.out.trans (if_pos hlt))
    clear hc H1 HR
    generalize zs.getD k.toNat 0 = z at hx e9
    obtain ⟨h1, h2⟩ := hlt
    obtain ⟨m, rfl⟩ : ∃ m : Nat, k = m := ⟨k.toNat, by omega⟩
    rw [Int.toNat_natCast] at hx
    go_wp2_with fail
    go_ret
    exact ⟨by rw [e9.out]; rfl, XL.out⟩
  · have e9 := hid (show r = -1 from HR.out.trans (if_neg hlt))
    clear HR
    by_cases h1 : k < 0
    · clear hlt
      go_wp2_with fail
      go_ret
      exact ⟨by rw [e9.out]; rfl, XL.out⟩
    · have h2 : ¬ k < (L : Int) := by omega
      clear hlt
      go_wp2_with fail
      go_ret
      exact ⟨by rw [e9.out]; rfl, XL.out⟩
end Go.Proofs.YtkagdmhijjfnnaaDoor
