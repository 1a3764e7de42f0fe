import Derived.Test.YtodamoblnlcodaaDoorSrt
import Derived.Deep.RegionHeld3
namespace Go.Proofs.YtodamoblnlcodaaDoor.L
open Go.RowKit
set_option linter.unusedVariables false
def mkF (l : List Lb) (k : Nat) : Int := if labE (ky l k) (vl l k) = 0 then (if (getN (l.take k) (ky l k)).2 = true then 33 else 0) else labE (ky l k) (vl l k)
def mkS (l : List Lb) : Nat → Nat → ByteArray × Int
  | 0, _ => (ByteArray.empty, 0)
  | n + 1, k => if mkF l k = 0 then mkS l n (k + 1) else (ky l k, mkF l k)
def makeN (l : List Lb) : ByteArray × Int := if 32 < l.length then (ByteArray.empty, 34) else mkS l l.length 0
theorem mkS_step (l : List Lb) (len k : Nat) (h : k < len) : mkS l (len - k) k = if mkF l k = 0 then mkS l (len - (k + 1)) (k + 1) else (ky l k, mkF l k) := by
  obtain ⟨n, hn⟩ : ∃ n, len - k = n + 1 := ⟨len - k - 1, by omega⟩
  rw [hn, show len - (k + 1) = n by omega]
  rfl
theorem items_take {W : World} {a : Option Addr} {cap k : Nat} {l : List Lb} (h : Items W (.slice a l.length cap) l) (hk : k < l.length) (cap' : Nat) : Items W (.slice a k cap') (l.take k) := by
  obtain ⟨a', c', e, h⟩ := h
  cases e
  have hl : (l.take k).length = k := by rw [List.length_take]; omega
  refine ⟨a, cap', by rw [hl], ?_⟩
  rcases h with h | ⟨b, off, rfl, h1, h2⟩
  · omega
  · refine Or.inr ⟨b, off, rfl, h1, fun j hj => ?_⟩
    rw [hl] at hj
    have e1 : ky (l.take k) j = ky l j := by
      unfold ky
      simp [hj]
    have e2 : vl (l.take k) j = vl l j := by
      unfold vl
      simp [hj]
    rw [e1, e2]
    exact h2 j (by omega)
end Go.Proofs.YtodamoblnlcodaaDoor.L
