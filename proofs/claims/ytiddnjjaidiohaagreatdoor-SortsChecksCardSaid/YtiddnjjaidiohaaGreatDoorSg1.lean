import Derived.Test.YtiddnjjaidiohaaGreatDoorMgAJ
import Derived.Test.YtiddnjjaidiohaaGreatDoorMgAO
namespace Go.Proofs.YtiddnjjaidiohaaGreatDoor.L
open Go.RowKit
set_option linter.unusedVariables false
set_option maxHeartbeats 4000000
set_option maxRecDepth 100000
theorem rsel_any (s : Int) (w : World) : Calls Tryz.prog 30 #[.int .i64 s] w fun e w' => e = .returned (.bool (selB s)) ∧ w' = w := by
  unfold selB
  cases a : (s == 8)
  · cases b : (s == 9)
    · cases c : (s == 20) <;>
      · go_enter Tryz.func30, Tryz.ntmps30
        go_wp2_with fail
        go_ret
        exact ⟨rfl, rfl⟩
    · go_enter Tryz.func30, Tryz.ntmps30
      go_wp2_with fail
      go_ret
      exact ⟨rfl, rfl⟩
  · go_enter Tryz.func30, Tryz.ntmps30
    go_wp2_with fail
    go_ret
    exact ⟨rfl, rfl⟩
theorem rmov_any (u s : Int) (w : World) : Calls Tryz.prog 53 #[.agg #[.int .i64 u, .int .i64 s]] w fun e w' => e = .returned (.bool (movB s)) ∧ Below w.heap.size w w' := by
  have HB := hid (belowA w (.cells #[.int .i64 u, .int .i64 s] 47))
  have HX := hid (heap_alloc_new w (.cells #[.int .i64 u, .int .i64 s] 47))
  unfold movB
  cases a : (s == 2)
  · cases b : (s == 3) <;>
    · go_enter Tryz.func53, Tryz.ntmps53
      go_upto_region 1 with (fail)
      generalize w.alloc (.cells #[.int .i64 u, .int .i64 s] 47) = X at *
      have ⟨x0, x1⟩ := cellsW HX.out
      go_wp2_with fail
      go_ret
      exact ⟨rfl, HB.out⟩
  · go_enter Tryz.func53, Tryz.ntmps53
    go_upto_region 1 with (fail)
    generalize w.alloc (.cells #[.int .i64 u, .int .i64 s] 47) = X at *
    have ⟨x0, x1⟩ := cellsW HX.out
    go_wp2_with fail
    go_ret
    exact ⟨rfl, HB.out⟩
/-- Is a side known, as the document asks it? -/
def rknB (s c : Int) : Bool := s == 1 || (s == c && !(s == 0))
theorem rkn_any (s c : Int) (w : World) : Calls Tryz.prog 57 #[.int .i64 s, .int .i64 c] w fun e w' => e = .returned (.bool (rknB s c)) ∧ w' = w := by
  unfold rknB
  cases a : (s == 1)
  · cases b : (s == c)
    · go_enter Tryz.func57, Tryz.ntmps57
      go_wp2_with fail
      go_ret
      exact ⟨rfl, rfl⟩
    · cases d : (s == 0)
      · have d2 : (s != 0) = true := by simpa using d
        go_enter Tryz.func57, Tryz.ntmps57
        go_wp2_with fail
        go_ret
        exact ⟨rfl, rfl⟩
      · have d2 : (s != 0) = false := by simpa using d
        go_enter Tryz.func57, Tryz.ntmps57
        go_wp2_with fail
        go_ret
        exact ⟨rfl, rfl⟩
  · go_enter Tryz.func57, Tryz.ntmps57
    go_wp2_with fail
    go_ret
    exact ⟨rfl, rfl⟩
theorem loadTy (W : World) (N : Nat) (a b : Value) (h : W.heap[N]? = some (.cells #[a, b] 47 (0, 0))) : (loadVar 47 ⟨N, 0, none⟩).run Tryz.prog W = .ok (.agg #[a, b]) W := by
  have h0 : W.cell? ⟨N, 0, none⟩ = some a := by unfold World.cell?; rw [h]; rfl
  have h1 : W.cell? ⟨N, 1, none⟩ = some b := by unfold World.cell?; rw [h]; rfl
  go_simp
theorem loadFa (W : World) (N : Nat) (a b c : Value) (h : W.heap[N]? = some (.cells #[a, b, c] 33 (0, 0))) : (loadVar 33 ⟨N, 0, none⟩).run Tryz.prog W = .ok (.agg #[a, b, c]) W := by
  have h0 : W.cell? ⟨N, 0, none⟩ = some a := by unfold World.cell?; rw [h]; rfl
  have h1 : W.cell? ⟨N, 1, none⟩ = some b := by unfold World.cell?; rw [h]; rfl
  have h2 : W.cell? ⟨N, 2, none⟩ = some c := by unfold World.cell?; rw [h]; rfl
  go_simp
theorem res_ty {fn : Func} {p : Tmp} (hr : fn.results = #[.cell p 47]) (tmps : Array Value) (W : World) (N : Nat) (a b : Value) (hp : tmps.getD p undef = .pointer (some ⟨N, 0, none⟩)) (h : W.heap[N]? = some (.cells #[a, b] 47 (0, 0))) :
    (results fn tmps).run Tryz.prog W = .ok (.agg #[a, b]) W := by
  rw [results_cell1 hr, hp]
  have := loadTy W N a b h
  simp [asAddr, this, Result.andThen]
theorem res_fa {fn : Func} {p : Tmp} (hr : fn.results = #[.cell p 33]) (tmps : Array Value) (W : World) (N : Nat) (a b c : Value) (hp : tmps.getD p undef = .pointer (some ⟨N, 0, none⟩)) (h : W.heap[N]? = some (.cells #[a, b, c] 33 (0, 0))) :
    (results fn tmps).run Tryz.prog W = .ok (.agg #[a, b, c]) W := by
  rw [results_cell1 hr, hp]
  have := loadFa W N a b c h
  simp [asAddr, this, Result.andThen]
theorem results_cellsG {fn : Func} {p u : Tmp} {t1 t2 : TypeId} (h : fn.results = #[.cell p t1, .cell u t2]) (tmps : Array Value) (P : Program) (w : World) :
    (results fn tmps).run P w = ((asAddr (tmps.getD p undef)).run P w).andThen fun a w₁ => ((loadVar t1 a).run P w₁).andThen fun v w₂ => ((asAddr (tmps.getD u undef)).run P w₂).andThen fun b w₃ => ((loadVar t2 b).run P w₃).andThen fun x w₄ => .ok (.tuple #[v, x]) w₄ := by
  simp only [results, h]
  simp [Sem.run_bind, Result.andThen]
theorem results_tmp_cell {fn : Func} {p u : Tmp} {ty : TypeId} (h : fn.results = #[.tmp u, .cell p ty]) (tmps : Array Value) (P : Program) (w : World) :
    (results fn tmps).run P w = ((asAddr (tmps.getD p undef)).run P w).andThen fun a w₁ => ((loadVar ty a).run P w₁).andThen fun v w₂ => .ok (.tuple #[tmps.getD u undef, v]) w₂ := by
  simp only [results, h]
  simp [Sem.run_bind, Result.andThen]
theorem res_tf {fn : Func} {p u : Tmp} (hr : fn.results = #[.cell p 47, .cell u 33]) (tmps : Array Value) (W : World) (N M : Nat) (a b c d e : Value) (hp : tmps.getD p undef = .pointer (some ⟨N, 0, none⟩)) (hu : tmps.getD u undef = .pointer (some ⟨M, 0, none⟩))
    (h : W.heap[N]? = some (.cells #[a, b] 47 (0, 0))) (h' : W.heap[M]? = some (.cells #[c, d, e] 33 (0, 0))) :
    (results fn tmps).run Tryz.prog W = .ok (.tuple #[.agg #[a, b], .agg #[c, d, e]]) W := by
  rw [results_cellsG hr, hp, hu]
  have h1 := loadTy W N a b h
  have h2 := loadFa W M c d e h'
  simp [asAddr, h1, h2, Result.andThen]
theorem res_xf {fn : Func} {p u : Tmp} (hr : fn.results = #[.tmp u, .cell p 33]) (tmps : Array Value) (W : World) (M : Nat) (v c d e : Value) (hp : tmps.getD p undef = .pointer (some ⟨M, 0, none⟩)) (hu : tmps.getD u undef = v)
    (h' : W.heap[M]? = some (.cells #[c, d, e] 33 (0, 0))) :
    (results fn tmps).run Tryz.prog W = .ok (.tuple #[v, .agg #[c, d, e]]) W := by
  rw [results_tmp_cell hr, hp, hu]
  have h2 := loadFa W M c d e h'
  simp [asAddr, h2, Result.andThen]
theorem rtyp_any (a b : Int) (w : World) : Calls Tryz.prog 31 #[.int .i64 a, .int .i64 b] w fun e w' => e = .returned (.agg #[.int .i64 a, .int .i64 b]) ∧ Below w.heap.size w w' := by
  go_enter Tryz.func31, Tryz.ntmps31
  go_wp2_with fail
  (try simp only [Exit.inBlock, Exit.then])
  refine bodyPost_ret (res_ty rfl _ _ w.heap.size _ _ rfl (heap_alloc_new w _)) rfl ⟨rfl, belowA w _⟩
theorem heap_set2 {W : World} {N : Nat} {a b : Value} {t : TypeId} (h : W.heap[N]? = some (.cells #[a, b] t (0, 0))) (x y : Value) : ((W.setCell ⟨N, 0, none⟩ x).setCell ⟨N, 1, none⟩ y).heap[N]? = some (.cells #[x, y] t (0, 0)) := by
  have h1 : (W.setCell ⟨N, 0, none⟩ x).heap[N]? = some (.cells #[x, b] t (0, 0)) := by
    rw [setCell_eq_setRow _ _ _ _ _ _ _ h, setRow_heap _ _ _ _ _ _ h]
    rfl
  rw [setCell_eq_setRow _ _ _ _ _ _ _ h1, setRow_heap _ _ _ _ _ _ h1]
  rfl
theorem heap_set3 {W : World} {N : Nat} {a b c : Value} {t : TypeId} (h : W.heap[N]? = some (.cells #[a, b, c] t (0, 0))) (x y z : Value) : (((W.setCell ⟨N, 0, none⟩ x).setCell ⟨N, 1, none⟩ y).setCell ⟨N, 2, none⟩ z).heap[N]? = some (.cells #[x, y, z] t (0, 0)) := by
  have h1 : (W.setCell ⟨N, 0, none⟩ x).heap[N]? = some (.cells #[x, b, c] t (0, 0)) := by
    rw [setCell_eq_setRow _ _ _ _ _ _ _ h, setRow_heap _ _ _ _ _ _ h]
    rfl
  have h2 : ((W.setCell ⟨N, 0, none⟩ x).setCell ⟨N, 1, none⟩ y).heap[N]? = some (.cells #[x, y, c] t (0, 0)) := by
    rw [setCell_eq_setRow _ _ _ _ _ _ _ h1, setRow_heap _ _ _ _ _ _ h1]
    rfl
  rw [setCell_eq_setRow _ _ _ _ _ _ _ h2, setRow_heap _ _ _ _ _ _ h2]
  rfl
/-- The joined side of kids, by their sides. -/
def jnL : List (Int × Int) → Int → Int
  | [], a => a
  | p :: r, a => if movB p.2 then p.2 else jnL r (if p.2 = 1 then 1 else a)
theorem jnL_is (ty : Nat → Int × Int) : ∀ (ks : List Int) (a : Int), jnO (fun j => (ty j).2) ks a = jnL (ks.map fun x => ty x.toNat) a
  | [], a => rfl
  | x :: r, a => by
    simp only [jnO, List.map_cons, jnL]
    rw [jnL_is ty r]
/-- A list of types to be read, by its elements. -/
def TyV (w : World) (v : Value) (l : List (Int × Int)) : Prop := TyL w v l.length (fun j => l.getD j (0, 0))
theorem TyV.low {w w' : World} {v : Value} {l : List (Int × Int)} (h : TyV w v l) (hb : Below w.heap.size w w') : TyV w' v l := TyL.low h hb
set_option maxHeartbeats 8000000 in
theorem rjoined_any (v : Value) (l : List (Int × Int)) (w : World) (h : TyV w v l) (hl : l.length ≤ 1000) :
    Calls Tryz.prog 32 #[v] w fun e w' => e = .returned (.int .i64 (jnL l 0)) ∧ Below w.heap.size w w' := by
  obtain ⟨a, cap, rfl, hc⟩ := h
  obtain ⟨n, hn⟩ : ∃ n, n = l.length := ⟨_, rfl⟩
  rw [← hn] at hl hc ⊢
  have HN := hid hn
  have HC := hid hc
  have HMV := hid rmov_any
  clear hn hc
  go_enter Tryz.func32, Tryz.ntmps32
  go_wp2_with fail
  go_loopw [3, 4] (fun s i wr => ∃ (k : Nat) (a : Int), k ≤ n ∧ s = .int .i64 a ∧ i = .int .i64 (k : Int) ∧ Hid (Below w.heap.size w wr) ∧ Hid (jnL (l.drop k) a = jnL l 0)) (fun _ i _ => n - (intOf i).toNat)
  case atStart => exact ⟨0, 0, Nat.zero_le _, rfl, rfl, hid (Below.refl _ _), hid rfl⟩
  case round =>
    obtain ⟨k, b, hk, rfl, rfl, HB, HJ⟩ := hrel
    by_cases hlt : k < n
    · rcases HC.out with h0 | ⟨g, o, rfl, hg, hcc⟩
      · omega
      have hkn : k < l.length := by rw [← HN.out]; exact hlt
      have HD := hid (show l.drop k = l.getD k (0, 0) :: l.drop (k + 1) by
        rw [List.drop_eq_getElem_cons hkn, List.getD_eq_getElem?_getD, List.getElem?_eq_getElem hkn]
        rfl)
      have HG := hid hg
      have ⟨p0, p1⟩ := hcc k hlt
      have q0 := (HB.out.cell (p := ⟨g, o + k * 2, none⟩) hg).trans p0
      have q1 := (HB.out.cell (p := ⟨g, o + k * 2 + 1, none⟩) hg).trans p1
      have HP1 := hid p1
      obtain ⟨pr, hpr⟩ : ∃ pr, pr = l.getD k (0, 0) := ⟨_, rfl⟩
      rw [← hpr] at q0 q1 HD HP1
      obtain ⟨u, s⟩ := pr
      simp only at q0 q1 HP1
      have HJS := hid (show jnL (l.drop k) b = if movB s then s else jnL (l.drop (k + 1)) (if s = 1 then 1 else b) by rw [HD.out]; rfl)
      have HK1 := hid (show k + 1 ≤ n by omega)
      have g1 : (k : Int) < (n : Int) := by omega
      have g2 : (0 : Int) ≤ (k : Int) := by omega
      have g3 : ((k : Int) * 2).toNat = k * 2 := by omega
      clear hcc hkn p0 p1 hpr
      cases hmv : movB s
      · have HMVE := hid hmv
        rw [hmv] at HJS
        clear hmv
        by_cases h1 : s = 1
        · subst h1
          go_wp2_with (go_at_call 53; refine (HMV.out _ _ _).mono ?_; rw [HMVE.out]; rintro e w1 ⟨rfl, l1⟩; have L1 := hid l1; clear l1; have r1 := (bchS HB.out L1.out |>.cell (p := ⟨g, o + k * 2 + 1, none⟩) HG.out).trans HP1.out)
          refine ⟨⟨k + 1, 1, HK1.out, rfl, by go_num, hid (bchS HB.out L1.out), hid (by rw [← HJ.out, HJS.out]; rfl)⟩, ?_⟩
          have h3 := HK1.out
          simp [intOf]
          omega
        · have h1' : (s == 1) = false := by simp [h1]
          have HJ2 := hid (show jnL (l.drop k) b = jnL (l.drop (k + 1)) b by rw [HJS.out]; simp [h1])
          clear h1
          go_wp2_with (go_at_call 53; refine (HMV.out _ _ _).mono ?_; rw [HMVE.out]; rintro e w1 ⟨rfl, l1⟩; have L1 := hid l1; clear l1; have r1 := (bchS HB.out L1.out |>.cell (p := ⟨g, o + k * 2 + 1, none⟩) HG.out).trans HP1.out)
          refine ⟨⟨k + 1, b, HK1.out, rfl, by go_num, hid (bchS HB.out L1.out), hid (by rw [← HJ.out, HJ2.out])⟩, ?_⟩
          have h3 := HK1.out
          simp [intOf]
          omega
      · have HMVE := hid hmv
        rw [hmv] at HJS
        clear hmv
        go_wp2_with (go_at_call 53; refine (HMV.out _ _ _).mono ?_; rw [HMVE.out]; rintro e w1 ⟨rfl, l1⟩; have L1 := hid l1; clear l1; have r1 := (bchS HB.out L1.out |>.cell (p := ⟨g, o + k * 2 + 1, none⟩) HG.out).trans HP1.out)
        go_ret
        refine ⟨?_, bchS HB.out L1.out⟩
        rw [← HJ.out, HJS.out]
        rfl
    · obtain rfl : k = n := by omega
      have HE := hid (show b = jnL l 0 by rw [← HJ.out, HN.out, List.drop_length]; rfl)
      go_wp2_with fail
      go_ret
      exact ⟨by rw [← HE.out]; rfl, HB.out⟩
end Go.Proofs.YtiddnjjaidiohaaGreatDoor.L
