import Derived.Test.YtkagdmhijjfnnabDoorFrom
import Derived.Deep.RegionHeld3
import Derived.Lib.MinMax
namespace Go.Proofs.YtkagdmhijjfnnabDoor
open Go.RowKit Bs
def vals (ws : List Nat) : List Value := ws.map fun x : Nat => Value.int .u64 (x : Int)
theorem row_vals (ws : List Nat) : row ws = (vals ws).toArray := rfl
theorem length_vals (ws : List Nat) : (vals ws).length = ws.length := by simp [vals]
theorem splice_wid (k : Nat) (ws : List Nat) : splice (vals (List.replicate k 0)) 0 (vals ws) = vals (widW k ws) := by
  simp [splice, vals, widW, List.map_append]
theorem one_vals (ws : List Nat) : ∀ v ∈ vals ws, v.oneCell' = true := by
  intro v hv
  simp only [vals, List.mem_map] at hv
  obtain ⟨x, _, rfl⟩ := hv
  rfl
theorem IsSet.src {w : World} {p q n : Nat} {ws : List Nat} (h : IsSet w p q n ws) : ∀ j v, (vals ws)[j]? = some v → w.cell? ((⟨q, 0, none⟩ : Addr).add j) = some v := by
  intro j v hv
  have hj : j < ws.length := by
    have := (List.getElem?_eq_some_iff.1 hv).1
    rwa [length_vals] at this
  have e : ((⟨q, 0, none⟩ : Addr).add j) = ⟨q, j, none⟩ := by simp [Addr.add]; omega
  rw [e, h.cw j hj, ← hv]
  simp [vals, List.getElem?_eq_getElem hj]
theorem Chg.cell {a : Nat} {w w' : World} (h : Chg a w w') {p : Addr} (hp : p.block ≠ a) (hl : p.block < w.heap.size) : w'.cell? p = w.cell? p := World.cell?_of_block (w := w) (h.block p.block hl hp)
/-- copy, as one step of a region that draws: the row g alone turns. -/
theorem step_copy_chg {P : Program} {ops : Array Oper} {o : Oper} {a : Act} {w : World} {K : Act → World → Prop} {Q : Exit → Act → World → Prop} {E : Prop} (hgd : o.guard = none) (d s : Operand) (dT sT : TypeId)
    (ho : o.op = .call { callee := .builtin .copy, args := #[d, s], argTypes := #[dT, sT] }) (elem : TypeId) (hu : P.underlying dT = some (.slice elem)) (hsz : (P.info? elem).map (·.size) = some 1)
    (dp sp : Option Addr) (dLen dCap sLen sCap : Nat) (hd : a.eval d = .slice dp dLen dCap) (hs : a.eval s = .slice sp sLen sCap)
    (g off : Nat) (cur : List Value) (t : TypeId) (hg : w.heap[g]? = some (.cells cur.toArray t (0, 0))) (cs : List Value) (hn : cs.length = Nat.min sLen dLen)
    (hpos : 0 < cs.length → dp = some ⟨g, off, none⟩ ∧ ∃ ad, sp = some ad ∧ ∀ j v, cs[j]? = some v → w.cell? (ad.add j) = some v)
    (hfit : off + cs.length ≤ cur.length) (h1 : ∀ v ∈ cs, v.oneCell' = true)
    (h : ∀ w', Hid (w'.heap[g]? = some (.cells (splice cur off cs).toArray t (0, 0))) → Hid (Chg g w w') → K (a.put o.dst (goInt cs.length)) w') :
    if Region.wanted o (yielded ops a.tmps) = true then Oper.wp P o a w K Q else E := by
  have hw : Region.wanted o (yielded ops a.tmps) = true := by simp [Region.wanted, hgd]
  rw [if_pos hw]
  by_cases h0 : cs.length = 0
  · obtain rfl : cs = [] := List.eq_nil_of_length_eq_zero h0
    have hrun := run_copy_none (P := P) w dT sT o.type elem dp sp dLen dCap sLen sCap hu hsz (by simpa using hn.symm)
    unfold Oper.wp
    simp [execOp, ho, resolve, invoke, builtin, hd, hs, hrun, Result.andThen]
    exact h w (show _ = _ by simpa [splice] using hg) (Chg.refl _ _)
  · obtain ⟨rfl, ad, rfl, hsrc⟩ := hpos (by omega)
    have hrun := run_copy_row (P := P) w dT sT o.type elem g off dLen dCap ad sLen sCap cur.toArray t cs hu hsz hg hn hsrc (by simpa using hfit) h1
    unfold Oper.wp
    simp [execOp, ho, resolve, invoke, builtin, hd, hs, hrun, Result.andThen]
    exact h _ (show _ = _ by simpa [splice] using setRow_heap w g _ _ t _ hg) (show Chg g w _ from ⟨rfl, rfl, rfl, by simp [World.setRow], fun k _ hk => setRow_other w g k _ hk⟩)
set_option maxHeartbeats 1000000 in
set_option maxRecDepth 100000 in
theorem widened_core (p q n m N : Nat) (ws : List Nat) (w : World) (h : IsSet w p q n ws) (hN : max (n : Int) m = (N : Int)) (hm : N ≤ 65536) (hw : nw n ≤ nw N) :
    Calls Tryd.prog 53 #[.pointer (some ⟨p, 0, none⟩), .int .i64 m] w fun e w' => e = .returned (.pointer (some ⟨w.heap.size + 1, 0, none⟩)) ∧
      IsSet w' (w.heap.size + 1) w.heap.size N (widW (nw N) ws) ∧ Below w.heap.size w w' := by
  have hc0 := h.c0
  have HI : Hid (IsSet w p q n ws) := h
  clear h
  go_enter Tryd.func53, Tryd.ntmps53
  go_wp2_with (first | (go_at_call 21; refine (size_cell p n _ hc0).mono ?_; rintro e w' ⟨rfl, rfl⟩) | (go_at_call 64; refine (blank_any N _ hm).mono ?_; rintro e w1 ⟨rfl, hs, hb⟩))
  have hs0 : IsSet w1 p q n ws := HI.out.low hb
  have hc1 := hs.c1
  have hd1 := hs0.c1
  have hlen : ws.length ≤ nw N := by rw [hs0.hl]; exact hw
  have hmin : (vals ws).length = Nat.min ws.length (nw N) := by rw [length_vals]; exact (Nat.min_eq_left hlen).symm
  have HS0 : Hid (IsSet w1 p q n ws) := hs0
  have HS : Hid (IsSet w1 (w'.heap.size + 1) w'.heap.size N (List.replicate (nw N) 0)) := hs
  have HMIN : Hid ((vals ws).length = Nat.min ws.length (nw N)) := hmin
  have HB : Hid (Below w'.heap.size w' w1) := hb
  rw [List.length_replicate] at hc1
  clear hs hs0 hmin HI hb
  go_region_held3 (fun W => W.cell? ⟨w'.heap.size + 1, 1, none⟩ = some (.slice (some ⟨w'.heap.size, 0, none⟩) (nw N) (nw N)))
    (first | exact hc1 | exact (hb4.out.cell (p := ⟨w'.heap.size + 1, 1, none⟩) (by simp) HS.out.plt).trans hc1)
    (first
      | (refine step_copy_chg rfl (.tmp 14) (.tmp 16) 36 36 rfl 56 Tryd.underlying36 (by kernel_rfl) (some ⟨w'.heap.size, 0, none⟩) (some ⟨q, 0, none⟩) (nw N) (nw N) ws.length ws.length rfl rfl w'.heap.size 0 (vals (List.replicate (nw N) 0)) 56 HS.out.hq (vals ws) HMIN.out (fun _ => ⟨rfl, _, rfl, HS0.out.src⟩) (by simp [length_vals]; omega) (one_vals ws) ?_; intro w4 hg4 hb4)
      | (go_at_call 51; refine (list_cell p _ ⟨q, 0, none⟩ ws.length ws.length (by exact hd1)).mono ?_; rintro e w5 ⟨rfl, rfl⟩))
  go_wp2
  go_ret
  have hk : Chg w'.heap.size w1 w4 := Chg.drew.trans hb4.out
  have e4 := hg4.out
  rw [splice_wid] at e4
  refine ⟨rfl, HS.out.put hk e4 ?_ (HS0.out.wd.widW _) ?_, Chg.below HB.out hk (Nat.le_refl _) HB.out.size⟩
  · rw [length_widW _ _ hlen, List.length_replicate]
  · intro i hi
    rw [mem_widW]
    exact HS0.out.cl i (by omega)
/-- widened. -/
theorem widened_any (p q n m : Nat) (ws : List Nat) (w : World) (h : IsSet w p q n ws) (hm : m ≤ 65536) :
    Calls Tryd.prog 53 #[.pointer (some ⟨p, 0, none⟩), .int .i64 m] w fun e w' => e = .returned (.pointer (some ⟨w.heap.size + 1, 0, none⟩)) ∧
      IsSet w' (w.heap.size + 1) w.heap.size (max n m) (widW (nw (max n m)) ws) ∧ Below w.heap.size w w' :=
  widened_core p q n m (max n m) ws w h (by omega) (by have := h.hn; omega) (by unfold nw; omega)
theorem widened_zero (p q n : Nat) (ws : List Nat) (w : World) (h : IsSet w p q n ws) :
    Calls Tryd.prog 53 #[.pointer (some ⟨p, 0, none⟩), .int .i64 0] w fun e w' => e = .returned (.pointer (some ⟨w.heap.size + 1, 0, none⟩)) ∧
      IsSet w' (w.heap.size + 1) w.heap.size n ws ∧ Below w.heap.size w w' := by
  have e2 : widW (nw n) ws = ws := by unfold widW; rw [h.hl]; simp
  have hw := widened_core p q n 0 n ws w h (by omega) h.hn (Nat.le_refl _)
  rw [e2] at hw
  exact hw
/-- Clone. -/
theorem clone_any (p q n : Nat) (ws : List Nat) (w : World) (h : IsSet w p q n ws) :
    Calls Tryd.prog 26 #[.pointer (some ⟨p, 0, none⟩)] w fun e w' => e = .returned (.pointer (some ⟨w.heap.size + 1, 0, none⟩)) ∧
      IsSet w' (w.heap.size + 1) w.heap.size n ws ∧ Below w.heap.size w w' := by
  have HI : Hid (IsSet w p q n ws) := h
  clear h
  go_enter Tryd.func26, Tryd.ntmps26
  go_wp2_with (go_at_call 53; refine (widened_zero p q n ws _ HI.out).mono ?_; rintro e w1 ⟨rfl, hs, hb⟩)
  go_ret
  exact ⟨rfl, hs, hb⟩
end Go.Proofs.YtkagdmhijjfnnabDoor
