import Derived.Test.YtnldagpbmphdhabDoorDgd
namespace Go.Proofs.YtnldagpbmphdhabDoor.L
open Go.RowKit
set_option linter.unusedVariables false
theorem nodup_up {l : List Lb} (h : Up l) : l.Nodup := h.imp fun hx e => by rw [e] at hx; exact lt_irrefl hx
theorem patched_perm {a b : List Lb} (ua : Up a) (ub : Up b) : (kept (df a b) a ++ newly (df a b)).Perm b := by
  have hS := df_says _ a b (Nat.le_refl _) ua ub
  refine (List.perm_ext_iff_of_nodup ?_ (nodup_up ub)).2 fun x => ?_
  · refine List.nodup_append.2 ⟨(nodup_up ua).filter _, ?_, ?_⟩
    · unfold newly
      refine List.pairwise_map.2 ((hS.rise.filter _).imp fun {d e} h e2 => ?_)
      have := (Prod.mk.inj e2).1
      rw [this, less_irrefl] at h
      cases h
    · intro x hx y hy e
      subst e
      unfold newly at hy
      obtain ⟨d, hd, rfl⟩ := List.mem_map.1 hy
      have h1 := (List.mem_filter.1 hx).2
      have h2 := hit_yes (L := df a b) (s := d.k) ⟨d, (List.mem_filter.1 hd).1, rfl⟩
      simp only [h2] at h1
      cases h1
  · rw [← patch_mem ua ub x, List.mem_append]
    constructor
    · rintro (h | h)
      · obtain ⟨h1, h2⟩ := List.mem_filter.1 h
        exact Or.inl ⟨h1, hit_none (by simpa using h2)⟩
      · obtain ⟨d, hd, rfl⟩ := List.mem_map.1 h
        obtain ⟨h1, h2⟩ := List.mem_filter.1 hd
        exact Or.inr ⟨d, h1, h2, rfl⟩
    · rintro (⟨h1, h2⟩ | ⟨d, h1, h2, rfl⟩)
      · exact Or.inl (List.mem_filter.2 ⟨h1, by rw [hit_no h2]; rfl⟩)
      · exact Or.inr (List.mem_map.2 ⟨d, List.mem_filter.2 ⟨h1, h2⟩, rfl⟩)
end Go.Proofs.YtnldagpbmphdhabDoor.L
