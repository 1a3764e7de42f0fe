import Derived.Test.YtiddnjjaidiohaaGreatDoorSa2
import Derived.Test.YtiddnjjaidiohaaGreatDoorS6
import Derived.Test.YtiddnjjaidiohaaGreatDoorMgAC
namespace Go.Proofs.YtiddnjjaidiohaaGreatDoor.L
open Go.RowKit
set_option linter.unusedVariables false
theorem sortof_any (pa : Option Addr) (pn pc gt n : Nat) (so si : Nat → Int) (k : Int) (tx : ByteArray) (nu : Int) (ka : Option Addr) (ks : List Int) (kc : Nat) (w : World) (hl : ks.length ≤ 1000) (hn : n ≤ 1000) (hy : TyR w gt n so si) (hk : RdI w ka ks) (hin : ∀ x, x ∈ ks → 0 ≤ x ∧ x < n) :
    Calls Tryz.prog 61 #[.agg #[.slice pa pn pc, .slice (some ⟨gt, 0, none⟩) n n], .agg #[.int .i64 k, .string tx, .int .i64 nu, .slice ka ks.length kc]] w fun e w' => e = .returned (.int .i64 (srO k ks.length (so (ks.getD 0 0).toNat))) ∧ Below w.heap.size w w' := by
  by_cases h : k ≠ 11 ∧ k ≠ 14 ∧ k ≠ 15 ∧ k ≠ 12 ∧ k ≠ 18 ∧ k ≠ 19 ∧ k ≠ 20 ∧ k ≠ 16 ∧ k ≠ 17 ∧ k ≠ 13
  · have hr : srO k ks.length (so (ks.getD 0 0).toNat) = 1 := by
      unfold srO
      rw [if_neg (by omega), if_neg (by omega), if_neg (by omega), if_neg (by omega)]
    rw [hr]
    exact so_else pa pn pc gt n tx nu ka ks.length kc k h w
  · have hc : k = 11 ∨ k = 14 ∨ k = 15 ∨ k = 12 ∨ k = 18 ∨ k = 19 ∨ k = 20 ∨ k = 16 ∨ k = 17 ∨ k = 13 := by omega
    rcases hc with rfl | rfl | rfl | rfl | rfl | rfl | rfl | rfl | rfl | rfl
    · exact so_11 pa pn pc gt n tx nu ka ks.length kc w
    · exact so_14 pa pn pc gt n tx nu ka ks.length kc w
    · exact so_15 pa pn pc gt n tx nu ka ks.length kc w
    · exact so_12 pa pn pc gt n tx nu ka ks.length kc w
    · exact so_18 pa pn pc gt n tx nu ka ks.length kc w
    · exact so_19 pa pn pc gt n tx nu ka ks.length kc w
    · exact so_20 pa pn pc gt n tx nu ka ks.length kc w
    · exact so_16 pa pn pc gt n tx nu ka ks.length kc w
    · exact so_17 pa pn pc gt n tx nu ka ks.length kc w
    · by_cases hm : ks.length = 0
      · have hr : srO 13 ks.length (so (ks.getD 0 0).toNat) = 6 := by simp [srO, hm]
        rw [hr]
        exact so_13n pa pn pc gt n tx nu ka ks.length kc hm w
      · have hr : srO 13 ks.length (so (ks.getD 0 0).toNat) = setO (so (ks.getD 0 0).toNat) := by
          unfold srO
          rw [if_neg (by omega), if_neg (by omega), if_neg (by omega), if_pos rfl, if_neg hm]
        rw [hr]
        exact so_13 pa pn pc gt n so si tx nu ka ks kc w hm hl hn hy hk hin
end Go.Proofs.YtiddnjjaidiohaaGreatDoor.L
namespace Go.Proofs.YtiddnjjaidiohaaGreatDoor.L
open Go.RowKit
set_option linter.unusedVariables false
/-- A comparison and a membership have two kids, an int has one. -/
def ShS (p : Pt) : Prop := (p.kind = 6 ∨ p.kind = 7 → ∃ x y : Nat, p.kids = [(x : Int), (y : Int)]) ∧ (p.kind = 19 → ∃ x : Nat, p.kids = [(x : Int)])
theorem broken_any (a : Option Addr) (T : List Pt) (pc gt n : Nat) (so si : Nat → Int) (t : Nat) (sc : Int) (w : World) (hT : PL w a T) (hy : TyR w gt n so si) (ht : t < T.length) (hin : ∀ x, x ∈ (pt T t).kids → 0 ≤ x ∧ x < n) (hkl : (pt T t).kids.length ≤ 1000) (hL : T.length ≤ 1000) (hnl : n ≤ T.length) (hs : (pt T t).text.size ≤ maxLen) (hp : ShS (pt T t)) :
    Calls Tryz.prog 60 #[.agg #[.slice a T.length pc, .slice (some ⟨gt, 0, none⟩) n n], .int .i64 (t : Int), .int .i64 sc] w fun e w' => ∃ ev, e = .returned ev ∧ AnsR (brO T so si t sc) w.heap.size w' ev ∧ Below w.heap.size w w' := by
  by_cases h6 : (pt T t).kind = 6
  · obtain ⟨x, y, hk⟩ := hp.1 (.inl h6)
    exact br_6 a T pc gt n so si t sc w hT hy ht hin hkl hL hnl h6 x y hk
  by_cases h7 : (pt T t).kind = 7
  · obtain ⟨x, y, hk⟩ := hp.1 (.inr h7)
    exact br_7 a T pc gt n so si t sc w hT hy ht hin hkl hL hnl h7 x y hk
  by_cases h13 : (pt T t).kind = 13
  · exact br_13 a T pc gt n so si t sc w hT hy ht hin hkl hL hnl h13
  by_cases h19 : (pt T t).kind = 19
  · obtain ⟨x, hk⟩ := hp.2 h19
    exact br_19 a T pc gt n so si t sc w hT hy ht hin hkl hL hnl h19 x hk
  exact br_else a T pc gt n so si t sc w hT hy ht hin hkl hL hnl ⟨h6, h7, h13, h19⟩ hs
/-- All that over does to the part t: the types, and the first fault. -/
def ov (T : List Pt) : Nat → (Nat → Int × Int) → Nat → Int → (Nat → Int × Int) × Option (Nat × Int)
  | 0, ty, _, _ => (ty, none)
  | f + 1, ty, t, sc =>
    let r := (pt T t).kids.foldl (fun (acc : (Nat → Int × Int) × Option (Nat × Int)) x => match acc.2 with
      | some e => (acc.1, some e)
      | none => ov T f acc.1 x.toNat (scpO (pt T t).kind sc)) (ty, none)
    match r.2 with
    | some e => (r.1, some e)
    | none => match brO T (fun j => (r.1 j).1) (fun j => (r.1 j).2) t sc with
      | some e => (r.1, some e)
      | none => (fun j => if j = t then (srO (pt T t).kind (pt T t).kids.length (r.1 ((pt T t).kids.getD 0 0).toNat).1, siO (pt T t).kind (pt T t).num (jnO (fun j => (r.1 j).2) (pt T t).kids 0)) else r.1 j, none)
end Go.Proofs.YtiddnjjaidiohaaGreatDoor.L
