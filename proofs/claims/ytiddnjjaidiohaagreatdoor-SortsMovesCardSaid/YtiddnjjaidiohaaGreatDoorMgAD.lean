import Derived.Test.YtiddnjjaidiohaaGreatDoorMgAA
import Derived.Test.YtiddnjjaidiohaaGreatDoorH5
namespace Go.Proofs.YtiddnjjaidiohaaGreatDoor.L
open Go.RowKit
set_option linter.unusedVariables false
/-- A side that moves. -/
def movB (s : Int) : Bool := s == 2 || s == 3
def selB (k : Int) : Bool := (k == 8 || k == 9) || k == 20
def eqtB (c : Int) : Bool := c == 1 || c == 2
/-- The sort of the sets of a sort. -/
def setO (s : Int) : Int := if s = 2 then 4 else if s = 3 then 5 else 0
def scpO (k s : Int) : Int := if selB k then 3 else s
theorem setof_any (s : Int) (w : World) : Calls Tryz.prog 83 #[.int .i64 s] w fun e w' => e = .returned (.int .i64 (setO s)) ∧ w' = w := by
  unfold setO
  by_cases a : s = 2
  · subst a
    go_enter Tryz.func83, Tryz.ntmps83
    go_wp2_with fail
    go_ret
    exact ⟨rfl, rfl⟩
  · by_cases b : s = 3
    · subst b
      go_enter Tryz.func83, Tryz.ntmps83
      go_wp2_with fail
      go_ret
      exact ⟨rfl, rfl⟩
    · rw [if_neg a, if_neg b]
      have a' : (s == 2) = false := by simp [a]
      have b' : (s == 3) = false := by simp [b]
      go_enter Tryz.func83, Tryz.ntmps83
      go_wp2_with fail
      go_ret
      exact ⟨rfl, rfl⟩
theorem moves_any (s : Int) (w : World) : Calls Tryz.prog 96 #[.int .i64 s] w fun e w' => e = .returned (.bool (movB s)) ∧ w' = w := by
  unfold movB
  cases a : (s == 2)
  · cases b : (s == 3)
    · go_enter Tryz.func96, Tryz.ntmps96
      go_wp2_with fail
      go_ret
      exact ⟨rfl, rfl⟩
    · go_enter Tryz.func96, Tryz.ntmps96
      go_wp2_with fail
      go_ret
      exact ⟨rfl, rfl⟩
  · go_enter Tryz.func96, Tryz.ntmps96
    go_wp2_with fail
    go_ret
    exact ⟨rfl, rfl⟩
theorem equates_any (s : Int) (w : World) : Calls Tryz.prog 92 #[.int .i64 s] w fun e w' => e = .returned (.bool (eqtB s)) ∧ w' = w := by
  unfold eqtB
  cases a : (s == 1)
  · cases b : (s == 2)
    · go_enter Tryz.func92, Tryz.ntmps92
      go_wp2_with fail
      go_ret
      exact ⟨rfl, rfl⟩
    · go_enter Tryz.func92, Tryz.ntmps92
      go_wp2_with fail
      go_ret
      exact ⟨rfl, rfl⟩
  · go_enter Tryz.func92, Tryz.ntmps92
    go_wp2_with fail
    go_ret
    exact ⟨rfl, rfl⟩
theorem selects_any (s : Int) (w : World) : Calls Tryz.prog 77 #[.int .i64 s] w fun e w' => e = .returned (.bool (selB s)) ∧ w' = w := by
  unfold selB
  cases a : (s == 8)
  · cases b : (s == 9)
    · cases c : (s == 20)
      · go_enter Tryz.func77, Tryz.ntmps77
        go_wp2_with fail
        go_ret
        exact ⟨rfl, rfl⟩
      · go_enter Tryz.func77, Tryz.ntmps77
        go_wp2_with fail
        go_ret
        exact ⟨rfl, rfl⟩
    · go_enter Tryz.func77, Tryz.ntmps77
      go_wp2_with fail
      go_ret
      exact ⟨rfl, rfl⟩
  · go_enter Tryz.func77, Tryz.ntmps77
    go_wp2_with fail
    go_ret
    exact ⟨rfl, rfl⟩
theorem scopein_any (k s : Int) (w : World) : Calls Tryz.prog 59 #[.int .i64 k, .int .i64 s] w fun e w' => e = .returned (.int .i64 (scpO k s)) ∧ w' = w := by
  have HS := hid (fun W => selects_any k W)
  unfold scpO
  cases a : selB k
  · rw [a] at HS
    clear a
    go_enter Tryz.func59, Tryz.ntmps59
    go_wp2_with (go_at_call 77; refine (HS.out _).mono ?_; rintro e w1 ⟨rfl, hww⟩; have hw2 := hww.symm; clear hww; subst hw2)
    go_ret
    exact ⟨rfl, rfl⟩
  · rw [a] at HS
    clear a
    go_enter Tryz.func59, Tryz.ntmps59
    go_wp2_with (go_at_call 77; refine (HS.out _).mono ?_; rintro e w1 ⟨rfl, hww⟩; have hw2 := hww.symm; clear hww; subst hw2)
    go_ret
    exact ⟨rfl, rfl⟩
end Go.Proofs.YtiddnjjaidiohaaGreatDoor.L
namespace Go.Proofs.YtiddnjjaidiohaaGreatDoor.L
open Go.RowKit
set_option linter.unusedVariables false
theorem bchS {w a b : World} (h1 : Below w.heap.size w a) (h2 : Below a.heap.size a b) : Below w.heap.size w b := h1.trans (h2.mono h1.size)
/-- Types in memory: of these n places each has its sort and its side. -/
def TyR (w : World) (gt n : Nat) (so si : Nat → Int) : Prop := gt < w.heap.size ∧ ∀ j, j < n → w.cell? ⟨gt, j * 2, none⟩ = some (.int .i64 (so j)) ∧ w.cell? ⟨gt, j * 2 + 1, none⟩ = some (.int .i64 (si j))
theorem TyR.low {w w' : World} {gt n : Nat} {so si : Nat → Int} (h : TyR w gt n so si) (hb : Below w.heap.size w w') : TyR w' gt n so si :=
  ⟨Nat.lt_of_lt_of_le h.1 hb.size, fun j hj => ⟨(hb.cell (p := ⟨gt, j * 2, none⟩) h.1).trans (h.2 j hj).1, (hb.cell (p := ⟨gt, j * 2 + 1, none⟩) h.1).trans (h.2 j hj).2⟩⟩
/-- The joined side of kids. -/
def jnO (si : Nat → Int) : List Int → Int → Int
  | [], a => a
  | x :: r, a => if movB (si x.toNat) then si x.toNat else jnO si r (if si x.toNat = 1 then 1 else a)
theorem cellsW {W : World} {N : Nat} {a b : Value} {ty : TypeId} (h : W.heap[N]? = some (.cells #[a, b] ty (0, 0))) : W.cell? ⟨N, 0, none⟩ = some a ∧ W.cell? ⟨N, 1, none⟩ = some b := ⟨cell_of_row _ _ 0 _ _ _ h, cell_of_row _ _ 1 _ _ _ h⟩
set_option maxHeartbeats 8000000 in
set_option maxRecDepth 100000 in
theorem joined_any (pv : Value) (gt n : Nat) (so si : Nat → Int) (ka : Option Addr) (ks : List Int) (kc : Nat) (w : World) (hy : TyR w gt n so si) (hk : RdI w ka ks) (hin : ∀ x, x ∈ ks → 0 ≤ x ∧ x < n) (hl : ks.length ≤ 1000) (hn : n ≤ 1000) (hp : ∃ a b c, pv = .slice a b c) :
    Calls Tryz.prog 84 #[.agg #[pv, .slice (some ⟨gt, 0, none⟩) n n], .slice ka ks.length kc] w fun e w' => e = .returned (.int .i64 (jnO si ks 0)) ∧ Below w.heap.size w w' := by
  obtain ⟨pa, pn, pc, rfl⟩ := hp
  obtain ⟨m, hm⟩ : ∃ m, m = ks.length := ⟨_, rfl⟩
  have HY := hid hy
  have HK := hid hk
  have HIN := hid hin
  have HM := hid hm
  have HMV := hid moves_any
  rw [← hm] at hl ⊢
  have HB := hid (belowA w (.cells #[.slice pa pn pc, .slice (some ⟨gt, 0, none⟩) n n] 87))
  have HX := hid (heap_alloc_new w (.cells #[.slice pa pn pc, .slice (some ⟨gt, 0, none⟩) n n] 87))
  clear hy hk hin hm
  go_enter Tryz.func84, Tryz.ntmps84
  go_upto_region 1 with (fail)
  have HYX := hid (HY.out.low HB.out)
  have HKX := hid (HK.out.low HB.out (Nat.le_refl _))
  generalize w.alloc (.cells #[.slice pa pn pc, .slice (some ⟨gt, 0, none⟩) n n] 87) = X at *
  go_wp2_with fail
  go_loopw [5, 11] (fun s i wr => ∃ (k : Nat) (a : Int), k ≤ m ∧ s = .int .i64 a ∧ i = .int .i64 (k : Int) ∧ wr = X ∧ Hid (jnO si (ks.drop k) a = jnO si ks 0)) (fun _ i _ => m - (intOf i).toNat)
  case atStart => exact ⟨0, 0, Nat.zero_le _, rfl, rfl, rfl, hid rfl⟩
  case round =>
    obtain ⟨k, a, hk, rfl, rfl, rfl, HJ⟩ := hrel
    by_cases hlt : k < m
    · rcases HKX.out with h0 | ⟨b1, o1, rfl, hb1, hc1⟩
      · have := HM.out; omega
      have hkn : k < ks.length := by rw [← HM.out]; exact hlt
      have p0 := hc1 k hkn
      have hmem : ks.getD k 0 ∈ ks := by rw [List.getD_eq_getElem?_getD, List.getElem?_eq_getElem hkn]; exact List.getElem_mem hkn
      have hx := HIN.out _ hmem
      obtain ⟨x, hxe⟩ : ∃ x : Nat, ks.getD k 0 = x := ⟨(ks.getD k 0).toNat, by omega⟩
      rw [hxe] at p0 hx
      have y1 := (HYX.out.2 x (by omega)).2
      have HD := hid (show ks.drop k = (x : Int) :: ks.drop (k + 1) by
        rw [List.drop_eq_getElem_cons hkn]
        have hz2 := hxe
        rw [List.getD_eq_getElem?_getD, List.getElem?_eq_getElem hkn] at hz2
        rw [← hz2]
        rfl)
      have ⟨x0, x1⟩ := cellsW HX.out
      have g1 : (k : Int) < (m : Int) := by omega
      have g2 : (0 : Int) ≤ (k : Int) := by omega
      have g3 : (x : Int) < (n : Int) := by omega
      have g4 : (0 : Int) ≤ (x : Int) := by omega
      obtain ⟨s, hs⟩ : ∃ s, s = si x := ⟨_, rfl⟩
      rw [← hs] at y1
      have HSE := hid hs
      have HJS := hid (show jnO si (ks.drop k) a = if movB s then s else jnO si (ks.drop (k + 1)) (if s = 1 then 1 else a) by rw [HD.out, jnO, Int.toNat_natCast, hs])
      have HK1 := hid (show k + 1 ≤ m by omega)
      clear hc1 hmem hx hxe hkn hs
      cases hmv : movB s
      · have HMVE := hid hmv
        rw [hmv] at HJS
        clear hmv
        by_cases h1 : s = 1
        · subst h1
          go_wp2_with (go_at_call 96; refine (HMV.out _ _).mono ?_; rw [HMVE.out]; rintro e w1 ⟨rfl, hww⟩; have hw2 := hww.symm; clear hww; subst hw2)
          refine ⟨⟨k + 1, 1, HK1.out, rfl, by go_num, trivial, hid (by rw [← HJ.out, HJS.out]; rfl)⟩, ?_⟩
          have h3 := HK1.out
          simp [intOf]
          omega
        · have h1' : (s == 1) = false := by simp [h1]
          have HJ2 := hid (show jnO si (ks.drop k) a = jnO si (ks.drop (k + 1)) a by rw [HJS.out]; simp [h1])
          go_wp2_with (go_at_call 96; refine (HMV.out _ _).mono ?_; rw [HMVE.out]; rintro e w1 ⟨rfl, hww⟩; have hw2 := hww.symm; clear hww; subst hw2)
          refine ⟨⟨k + 1, a, HK1.out, rfl, by go_num, trivial, hid (by rw [← HJ.out, HJ2.out])⟩, ?_⟩
          have h3 := HK1.out
          simp [intOf]
          omega
      · have HMVE := hid hmv
        rw [hmv] at HJS
        clear hmv
        go_wp2_with (go_at_call 96; refine (HMV.out _ _).mono ?_; rw [HMVE.out]; rintro e w1 ⟨rfl, hww⟩; have hw2 := hww.symm; clear hww; subst hw2)
        go_ret
        refine ⟨?_, HB.out⟩
        rw [← HJ.out, HJS.out]
        rfl
    · obtain rfl : k = m := by omega
      have HJ3 := hid (show a = jnO si ks 0 by rw [← HJ.out, HM.out, List.drop_length]; rfl)
      go_wp2_with fail
      go_ret
      refine ⟨?_, HB.out⟩
      rw [← HJ3.out]
      rfl
end Go.Proofs.YtiddnjjaidiohaaGreatDoor.L
