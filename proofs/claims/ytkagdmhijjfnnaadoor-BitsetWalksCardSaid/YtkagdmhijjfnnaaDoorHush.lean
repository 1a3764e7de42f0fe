import Derived.Test.YtkagdmhijjfnnaaDoorMsOf
namespace Go.Proofs.YtkagdmhijjfnnaaDoor
open Go.RowKit Bs
/-! A region that draws and only reads, op by op, what follows behind a name that nothing looks through. -/
theorem q_start {P : Program} {ops : Array Oper} {C : World → Prop} {Q : Act → Prop} {a : Act} {l : List Oper} (k : ∀ R : Act → Prop, PLift (R = wpQuiet P ops C Q l) → R a) : wpQuiet P ops C Q l a := k _ ⟨rfl⟩
theorem q_nil {P : Program} {ops : Array Oper} {C : World → Prop} {Q R : Act → Prop} {a : Act} (hR : PLift (R = wpQuiet P ops C Q [])) (h : Q a) : R a := by rw [hR.down]; exact h
theorem q_yes {P : Program} {ops : Array Oper} {C : World → Prop} {Q R : Act → Prop} {a : Act} {o : Oper} {rest : List Oper} (hR : PLift (R = wpQuiet P ops C Q (o :: rest))) (h : Region.wanted o (yielded ops a.tmps) = true)
    (k : ∀ K R' : Act → Prop, PLift (R' = wpQuiet P ops C Q rest) → (∀ a, R' a → K a) → o.quiet P a C K) : R a := by
  rw [hR.down, wpQuiet, if_pos h]
  exact k _ _ ⟨rfl⟩ (fun _ h => h)
theorem q_no {P : Program} {ops : Array Oper} {C : World → Prop} {Q R : Act → Prop} {a : Act} {o : Oper} {rest : List Oper} (hR : PLift (R = wpQuiet P ops C Q (o :: rest))) (h : Region.wanted o (yielded ops a.tmps) = false)
    (k : ∀ K R' : Act → Prop, PLift (R' = wpQuiet P ops C Q rest) → (∀ a, R' a → K a) → K (a.put o.dst undef)) : R a := by
  rw [hR.down, wpQuiet, if_neg (by rw [h]; decide)]
  exact k _ _ ⟨rfl⟩ (fun _ h => h)
end Go.Proofs.YtkagdmhijjfnnaaDoor
