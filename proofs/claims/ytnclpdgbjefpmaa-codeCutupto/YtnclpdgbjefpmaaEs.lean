import Derived.Test.YtnclpdgbjefpmaaEr
namespace Go.Proofs.Ytnclpdgbjefpmaa.L
open Go.RowKit
set_option linter.unusedVariables false
set_option linter.unusedSimpArgs false
theorem textC_W (s : ByteArray) : textC.W s = cnt s.size ++ s.data.toList := rfl
theorem setC_W (l : List ByteArray) : setC.W l = cnt l.length ++ l.flatMap textC.W := lst_W _ _ _ _ _ l
theorem nsetC_W (l : List Int) : nsetC.W l = cnt l.length ++ l.flatMap sgnC.W := lst_W _ _ _ _ _ l
set_option maxHeartbeats 4000000 in
theorem textset_any (l0 : List ByteArray) (a : Option Addr) (cap : Nat) (B g : Nat) (l : List UInt8) (v : Value) (w : World) (hl0 : l0.length ≤ 140737488355328) (hR : ∃ w0 : World, Below w0.heap.size w0 w ∧ w0.heap.size ≤ g ∧ RdV w0 a (l0.map Value.string)) (h : Wv B g v l w) (hl : l.length + (setC.W l0).length ≤ 70368744177664) :
    Calls Try.prog 60 #[.pointer (some ⟨g, 0, none⟩), .slice a l0.length cap] w (Wrs B g l (setC.W l0) w) := by
  rw [setC_W] at hl ⊢
  have HC := hid (wtexts l0 a cap B g l v w hl0 hR h hl)
  clear hR h
  generalize cnt l0.length ++ l0.flatMap textC.W = out at *
  generalize l0.length = L at *
  go_enter Try.func60, Try.ntmps60
  go_wp2_with fail
  refine HC.out.mono ?_
  rintro e w1 ⟨rfl, h1, h2⟩
  go_wp2_with fail
  go_end0
  exact ⟨rfl, h1, h2⟩
set_option maxHeartbeats 4000000 in
theorem numset_any (l0 : List Int) (a : Option Addr) (cap : Nat) (B g : Nat) (l : List UInt8) (v : Value) (w : World) (hl0 : l0.length ≤ 140737488355328) (hR : ∃ w0 : World, Below w0.heap.size w0 w ∧ w0.heap.size ≤ g ∧ RdV w0 a (l0.map (Value.int .i64))) (h : Wv B g v l w) (hl : l.length + (nsetC.W l0).length ≤ 70368744177664) (hz : ∀ x, x ∈ l0 → inR x (-1000000000000000000) 1000000000000000000 = true) :
    Calls Try.prog 62 #[.pointer (some ⟨g, 0, none⟩), .slice a l0.length cap] w (Wrs B g l (nsetC.W l0) w) := by
  rw [nsetC_W] at hl ⊢
  have HC := hid (wnums l0 a cap B g l v w hl0 hR h hl hz)
  clear hR h
  generalize cnt l0.length ++ l0.flatMap sgnC.W = out at *
  generalize l0.length = L at *
  go_enter Try.func62, Try.ntmps62
  go_wp2_with fail
  refine HC.out.mono ?_
  rintro e w1 ⟨rfl, h1, h2⟩
  go_wp2_with fail
  go_end0
  exact ⟨rfl, h1, h2⟩
theorem wsets (ls : List (List ByteArray)) (a : Option Addr) (cap : Nat) (B g : Nat) (l : List UInt8) (v : Value) (w : World) (hl0 : ls.length ≤ 140737488355328) (hk : ∀ x, x ∈ ls → x.length ≤ 140737488355328) (hR : ∃ w0 : World, Below w0.heap.size w0 w ∧ w0.heap.size ≤ g ∧ RdL Value.string w0 a ls) (h : Wv B g v l w) (hl : l.length + (cnt ls.length ++ ls.flatMap setC.W).length ≤ 70368744177664) :
    Calls Try.prog 59 #[.pointer (some ⟨g, 0, none⟩), .slice a ls.length cap, .func (.func 60) #[.pointer (some ⟨g, 0, none⟩)] #[]] w (Wrs B g l (cnt ls.length ++ ls.flatMap setC.W) w) := by
  obtain ⟨w0, h0, hg, vs, h1, h2, h3⟩ := hR
  have hmem : ∀ j, j < ls.length → ls.getD j [] ∈ ls := fun j hj => by rw [List.getD_eq_getElem?_getD, List.getElem?_eq_getElem hj]; exact List.getElem_mem hj
  rw [← range_flat ls [] setC.W] at hl ⊢
  refine list_ss (fun j => vs.getD j undef) (fun j => setC.W (ls.getD j [])) ls.length a cap B g l v w0 w hl0 ?_ h0 hg h hl (fun j hj l' v' W' k1 k2 k3 => ?_)
  · rcases h2 with h | ⟨b, off, e, hb, h⟩
    · exact Or.inl (by omega)
    · exact Or.inr ⟨b, off, e, hb, fun j hj => h j (by omega)⟩
  · obtain ⟨ea, ec, e, r⟩ := h3 j hj
    show Calls Try.prog _ #[_, vs.getD j undef] W' _
    rw [e]
    exact textset_any (ls.getD j []) ea ec B g l' v' W' (hk _ (hmem j hj)) ⟨w0, k2, hg, r⟩ k1 k3
theorem wnsets (ls : List (List Int)) (a : Option Addr) (cap : Nat) (B g : Nat) (l : List UInt8) (v : Value) (w : World) (hl0 : ls.length ≤ 140737488355328) (hk : ∀ x, x ∈ ls → x.length ≤ 140737488355328) (hR : ∃ w0 : World, Below w0.heap.size w0 w ∧ w0.heap.size ≤ g ∧ RdL (Value.int .i64) w0 a ls) (h : Wv B g v l w) (hl : l.length + (cnt ls.length ++ ls.flatMap nsetC.W).length ≤ 70368744177664) (hz : ∀ x, x ∈ ls → ∀ y, y ∈ x → inR y (-1000000000000000000) 1000000000000000000 = true) :
    Calls Try.prog 61 #[.pointer (some ⟨g, 0, none⟩), .slice a ls.length cap, .func (.func 62) #[.pointer (some ⟨g, 0, none⟩)] #[]] w (Wrs B g l (cnt ls.length ++ ls.flatMap nsetC.W) w) := by
  obtain ⟨w0, h0, hg, vs, h1, h2, h3⟩ := hR
  have hmem : ∀ j, j < ls.length → ls.getD j [] ∈ ls := fun j hj => by rw [List.getD_eq_getElem?_getD, List.getElem?_eq_getElem hj]; exact List.getElem_mem hj
  rw [← range_flat ls [] nsetC.W] at hl ⊢
  refine list_is (fun j => vs.getD j undef) (fun j => nsetC.W (ls.getD j [])) ls.length a cap B g l v w0 w hl0 ?_ h0 hg h hl (fun j hj l' v' W' k1 k2 k3 => ?_)
  · rcases h2 with h | ⟨b, off, e, hb, h⟩
    · exact Or.inl (by omega)
    · exact Or.inr ⟨b, off, e, hb, fun j hj => h j (by omega)⟩
  · obtain ⟨ea, ec, e, r⟩ := h3 j hj
    show Calls Try.prog _ #[_, vs.getD j undef] W' _
    rw [e]
    exact numset_any (ls.getD j []) ea ec B g l' v' W' (hk _ (hmem j hj)) ⟨w0, k2, hg, r⟩ k1 k3 (hz _ (hmem j hj))
theorem wcode (ls : List Ins) (a : Option Addr) (cap : Nat) (B g : Nat) (l : List UInt8) (v : Value) (w : World) (hl0 : ls.length ≤ 140737488355328) (hR : ∃ w0 : World, Below w0.heap.size w0 w ∧ w0.heap.size ≤ g ∧ RdC w0 a ls) (h : Wv B g v l w) (hl : l.length + (cnt ls.length ++ ls.flatMap insC.W).length ≤ 70368744170000) (hi : ∀ i, i ∈ ls → insB i = true) :
    Calls Try.prog 63 #[.pointer (some ⟨g, 0, none⟩), .slice a ls.length cap, .func (.func 64) #[.pointer (some ⟨g, 0, none⟩)] #[]] w (Wrs B g l (cnt ls.length ++ ls.flatMap insC.W) w) := by
  obtain ⟨w0, h0, hg, hr⟩ := hR
  rw [← range_flat ls default insC.W] at hl ⊢
  exact list_c ls (fun j => insC.W (ls.getD j default)) ls.length a cap B g l v w0 w hl0 rfl hr h0 hg h hl (fun j hj l' v' W' k1 k2 k3 => instr_any B g _ l' v' W' (hi _ (by rw [List.getD_eq_getElem?_getD, List.getElem?_eq_getElem hj]; exact List.getElem_mem hj)) k1 (by omega))
end Go.Proofs.Ytnclpdgbjefpmaa.L
