import Derived.Test.YtnclpdgbjefpmaaEr
namespace Go.Proofs.Ytnclpdgbjefpmaa.L
open Go.RowKit
set_option linter.unusedVariables false
set_option linter.unusedSimpArgs false
theorem textC_W (s : ByteArray) : textC.W s = cnt s.size ++ s.data.toList := rfl
theorem setC_W (l : List ByteArray) : setC.W l = cnt l.length ++ l.flatMap textC.W := lst_W _ _ _ _ _ l
theorem nsetC_W (l : List Int) : nsetC.W l = cnt l.length ++ l.flatMap sgnC.W := lst_W _ _ _ _ _ l
set_option maxHeartbeats 4000000 in
theorem textset_any (l0 : List ByteArray) (a : Option Addr) (cap : Nat) (B g : Nat) (l : List UInt8) (v : Value) (w : World) (hl0 : l0.length ≤ 140737488355328) (hR : ∃ w0 : World, Below w0.heap.size w0 w ∧ w0.heap.size ≤ g ∧ RdV w0 a (l0.map Value.string)) (h : Wv B g v l w) (hl : l.length + (setC.W l0).length ≤ 70368744177664) :
    Calls Try.prog 60 #[.pointer (some ⟨g, 0, none⟩), .slice a l0.length cap] w (Wrs B g l (setC.W l0) w) := by
  rw [setC_W] at hl ⊢
  have HC := hid (wtexts l0 a cap B g l v w hl0 hR h hl)
  clear hR h
  generalize cnt l0.length ++ l0.flatMap textC.W = out at *
  generalize l0.length = L at *
  go_enter Try.func60, Try.ntmps60
  go_wp2_with fail
  refine HC.out.mono ?_
  rintro e w1 ⟨rfl, h1, h2⟩
  go_wp2_with fail
  go_end0
  exact ⟨rfl, h1, h2⟩
set_option maxHeartbeats 4000000 in
theorem numset_any (l0 : List Int) (a : Option Addr) (cap : Nat) (B g : Nat) (l : List UInt8) (v : Value) (w : World) (hl0 : l0.length ≤ 140737488355328) (hR : ∃ w0 : World, Below w0.heap.size w0 w ∧ w0.heap.size ≤ g ∧ RdV w0 a (l0.map (Value.int .i64))) (h : Wv B g v l w) (hl : l.length + (nsetC.W l0).length ≤ 70368744177664) (hz : ∀ x, x ∈ l0 → inR x (-1000000000000000000) 1000000000000000000 = true) :
    Calls Try.prog 62 #[.pointer (some ⟨g, 0, none⟩), .slice a l0.length cap] w (Wrs B g l (nsetC.W l0) w) := by
  rw [nsetC_W] at hl ⊢
  have HC := hid (wnums l0 a cap B g l v w hl0 hR h hl hz)
  clear hR h
  generalize cnt l0.length ++ l0.flatMap sgnC.W = out at *
  generalize l0.length = L at *
  go_enter Try.func62, Try.ntmps62
  go_wp2_with fail
  refine HC.out.mono ?_
  rintro e w1 ⟨rfl, h1, h2⟩
  go_wp2_with fail
  go_end0
  exact ⟨rfl, h1, h2⟩
theorem wsets (ls : List (List ByteArray)) (a : Option Addr) (cap : Nat) (B g : Nat) (l : List UInt8) (v : Value) (w : World) (hl0 : ls.length ≤ 140737488355328) (hk : ∀ x, x ∈ ls → x.length ≤ 140737488355328) (hR : ∃ w0 : World, Below w0.heap.size w0 w ∧ w0.heap.size ≤ g ∧ RdL Value.string w0 a ls) (h : Wv B g v l w) (hl : l.length + (cnt ls.length ++ ls.flatMap setC.W).length ≤ 70368744177664) :
    Calls Try.prog 59 #[.pointer (some ⟨g, 0, none⟩), .slice a ls.length cap, .func (.func 60) #[.pointer (some ⟨g, 0, none⟩)] #[]] w (Wrs B g l (cnt ls.length ++ ls.flatMap setC.W) w) := by
  obtain ⟨w0, h0, hg, vs, h1, h2, h3⟩ := hR
  have hmem : ∀ j, j < ls.length → ls.getD j [] ∈ ls := fun j hj => by rw [List.getD_eq_getElem?_getD, List.getElem?_eq_getElem hj]; exact List.getElem_mem hj
  rw [← range_flat ls [] setC.W] at hl ⊢
  refine list_ss (fun j => vs.getD j undef) (fun j => setC.W (ls.getD j [])) ls.length a cap B g l v w0 w hl0 ?_ h0 hg h hl (fun j hj l' v' W' k1 k2 k3 => ?_)
  · rcases h2 with h | ⟨b, off, e, hb, h⟩
    · exact Or.inl (by omega)
    · exact Or.inr ⟨b, off, e, hb, fun j hj => h j (by omega)⟩
  · obtain ⟨ea, ec, e, r⟩ := h3 j hj
    show Calls Try.prog _ #[_, vs.getD j undef] W' _
    rw [e]
    exact textset_any (ls.getD j []) ea ec B g l' v' W' (hk _ (hmem j hj)) ⟨w0, k2, hg, r⟩ k1 k3
theorem wnsets (ls : List (List Int)) (a : Option Addr) (cap : Nat) (B g : Nat) (l : List UInt8) (v : Value) (w : World) (hl0 : ls.length ≤ 140737488355328) (hk : ∀ x, x ∈ ls → x.length ≤ 140737488355328) (hR : ∃ w0 : World, Below w0.heap.size w0 w ∧ w0.heap.size ≤ g ∧ RdL (Value.int .i64) w0 a ls) (h : Wv B g v l w) (hl : l.length + (cnt ls.length ++ ls.flatMap nsetC.W).length ≤ 70368744177664) (hz : ∀ x, x ∈ ls → ∀ y, y ∈ x → inR y (-1000000000000000000) 1000000000000000000 = true) :
    Calls Try.prog 61 #[.pointer (some ⟨g, 0, none⟩), .slice a ls.length cap, .func (.func 62) #[.pointer (some ⟨g, 0, none⟩)] #[]] w (Wrs B g l (cnt ls.length ++ ls.flatMap nsetC.W) w) := by
  obtain ⟨w0, h0, hg, vs, h1, h2, h3⟩ := hR
  have hmem : ∀ j, j < ls.length → ls.getD j [] ∈ ls := fun j hj => by rw [List.getD_eq_getElem?_getD, List.getElem?_eq_getElem hj]; exact List.getElem_mem hj
  rw [← range_flat ls [] nsetC.W] at hl ⊢
  refine list_is (fun j => vs.getD j undef) (fun j => nsetC.W (ls.getD j [])) ls.length a cap B g l v w0 w hl0 ?_ h0 hg h hl (fun j hj l' v' W' k1 k2 k3 => ?_)
  · rcases h2 with h | ⟨b, off, e, hb, h⟩
    · exact Or.inl (by omega)
    · exact Or.inr ⟨b, off, e, hb, fun j hj => h j (by omega)⟩
  · obtain ⟨ea, ec, e, r⟩ := h3 j hj
    show Calls Try.prog _ #[_, vs.getD j undef] W' _
    rw [e]
    exact numset_any (ls.getD j []) ea ec B g l' v' W' (hk _ (hmem j hj)) ⟨w0, k2, hg, r⟩ k1 k3 (hz _ (hmem j hj))
theorem wcode (ls : List Ins) (a : Option Addr) (cap : Nat) (B g : Nat) (l : List UInt8) (v : Value) (w : World) (hl0 : ls.length ≤ 140737488355328) (hR : ∃ w0 : World, Below w0.heap.size w0 w ∧ w0.heap.size ≤ g ∧ RdC w0 a ls) (h : Wv B g v l w) (hl : l.length + (cnt ls.length ++ ls.flatMap insC.W).length ≤ 70368744170000) (hi : ∀ i, i ∈ ls → insB i = true) :
    Calls Try.prog 63 #[.pointer (some ⟨g, 0, none⟩), .slice a ls.length cap, .func (.func 64) #[.pointer (some ⟨g, 0, none⟩)] #[]] w (Wrs B g l (cnt ls.length ++ ls.flatMap insC.W) w) := by
  obtain ⟨w0, h0, hg, hr⟩ := hR
  rw [← range_flat ls default insC.W] at hl ⊢
  exact list_c ls (fun j => insC.W (ls.getD j default)) ls.length a cap B g l v w0 w hl0 rfl hr h0 hg h hl (fun j hj l' v' W' k1 k2 k3 => instr_any B g _ l' v' W' (hi _ (by rw [List.getD_eq_getElem?_getD, List.getElem?_eq_getElem hj]; exact List.getElem_mem hj)) k1 (by omega))
end Go.Proofs.Ytnclpdgbjefpmaa.L
namespace Go.Proofs.Ytnclpdgbjefpmaa.L
open Go.RowKit
set_option linter.unusedVariables false
set_option linter.unusedSimpArgs false
theorem cnt_short : ∀ (k n : Nat), n < 128 ^ (k + 1) → (cnt n).length ≤ k + 1
  | 0, n, h => by rw [cnt, if_neg (by omega)]; simp
  | k + 1, n, h => by
    rw [cnt]
    split
    · have := cnt_short k (n / 128) (by rw [Nat.div_lt_iff_lt_mul (by decide)]; rw [Nat.pow_succ] at h; exact h)
      simp only [List.length_cons]
      omega
    · simp
theorem cnt_ten {n : Nat} (h : n < 128 ^ 9) : (cnt n).length ≤ 9 := cnt_short 8 n h
theorem flat_len {α : Type} (l : List α) (f : α → List UInt8) (M : Nat) (h : ∀ x, x ∈ l → (f x).length ≤ M) : (l.flatMap f).length ≤ l.length * M := by
  induction l with
  | nil => simp
  | cons a r ih =>
    rw [List.flatMap_cons, List.length_append, List.length_cons, Nat.succ_mul]
    have := h a (by simp)
    have := ih (fun x hx => h x (by simp [hx]))
    omega
theorem cf_len {α : Type} {l : List α} {f : α → List UInt8} {M K : Nat} (hK : l.length ≤ K) (hK9 : K < 128 ^ 9) (h : ∀ x, x ∈ l → (f x).length ≤ M) : (cnt l.length ++ l.flatMap f).length ≤ 9 + K * M := by
  have h1 := flat_len l f M h
  have h2 := cnt_ten (Nat.lt_of_le_of_lt hK hK9)
  have h3 : l.length * M ≤ K * M := Nat.mul_le_mul_right M hK
  rw [List.length_append]
  omega
theorem text_len {s : ByteArray} (h : shS s = true) : (textC.W s).length ≤ 136 := by
  have hs : s.size ≤ 127 := by unfold shS at h; have := of_decide_eq_true h; omega
  rw [textC_W, List.length_append]
  have h1 := cnt_ten (n := s.size) (by omega)
  have h2 : s.data.toList.length = s.size := Array.length_toList
  omega
theorem sgnC_W (z : Int) : sgnC.W z = cnt (zz z) := rfl
theorem sgn_len {z : Int} (h : shI z = true) : (sgnC.W z).length ≤ 9 := by
  have hz : -1000000000000000000 ≤ z ∧ z ≤ 1000000000000000000 := by unfold shI inR at h; exact of_decide_eq_true h
  rw [sgnC_W]
  refine cnt_ten ?_
  unfold zz
  split <;> omega
theorem set_len {l : List ByteArray} (h : setB shS ltS l = true) : (setC.W l).length ≤ 136009 := by
  unfold setB inR at h
  rw [Bool.and_eq_true, Bool.and_eq_true] at h
  obtain ⟨h1, h2, _⟩ := h
  have h1 := of_decide_eq_true h1
  rw [List.all_eq_true] at h2
  rw [setC_W]
  have := cf_len (l := l) (f := textC.W) (K := 1000) (by omega) (by decide) (fun x hx => text_len (h2 x hx))
  omega
theorem nset_len {l : List Int} (h : setB shI ltI l = true) : (nsetC.W l).length ≤ 9009 := by
  unfold setB inR at h
  rw [Bool.and_eq_true, Bool.and_eq_true] at h
  obtain ⟨h1, h2, _⟩ := h
  have h1 := of_decide_eq_true h1
  rw [List.all_eq_true] at h2
  rw [nsetC_W]
  have := cf_len (l := l) (f := sgnC.W) (K := 1000) (by omega) (by decide) (fun x hx => sgn_len (h2 x hx))
  omega
theorem ins_len {i : Ins} (h : insB i = true) : (insC.W i).length ≤ 28 := by
  obtain ⟨o, x, y, z⟩ := i
  unfold insB opsB fitB inR at h
  simp only [Bool.and_eq_true] at h
  obtain ⟨h0, h1, h2, h3⟩ := h
  rw [insC_W o x y z (of_decide_eq_true h0), List.length_append]
  have := opk_len (q0 := (us o).1) (q1 := (us o).2.1) (q2 := (us o).2.2) (x := x) (y := y) (z := z) 3 (by omega)
    (fun e => by rw [if_pos e] at h1; exact of_decide_eq_true h1) (fun e => by rw [if_pos e] at h2; exact of_decide_eq_true h2) (fun e => by rw [if_pos e] at h3; exact of_decide_eq_true h3)
  simp only [List.length_cons, List.length_nil]
  omega
theorem headC_W : headC.W () = [0x42, 0x52, 0x54, 1] := rfl
theorem enc_eq (p : Pg) : enc p = [0x42, 0x52, 0x54, 1] ++ (cnt p.dep.toNat ++ (cnt p.loc.toNat ++ ((cnt p.tx.length ++ p.tx.flatMap textC.W) ++ ((cnt p.nu.length ++ p.nu.flatMap sgnC.W) ++ ((cnt p.st.length ++ p.st.flatMap setC.W) ++ ((cnt p.ns.length ++ p.ns.flatMap nsetC.W) ++ (cnt p.cd.length ++ p.cd.flatMap insC.W))))))) := by
  rw [← lst_W textC ltS 0 4096 (by decide) p.tx, ← lst_W sgnC ltI 0 (4096 - p.tx.length) (pool_lt _) p.nu, ← lst_W setC (ltL ltS) 0 (4096 - (p.tx.length + p.nu.length)) (pool_lt _) p.st, ← lst_W nsetC (ltL ltI) 0 (4096 - (p.tx.length + p.nu.length + p.st.length)) (pool_lt _) p.ns, ← lst_W insC (fun _ _ => true) 0 32768 (by decide) p.cd]
  rfl
/-- The parts of a form. -/
structure Fm (p : Pg) : Prop where
  dep : 0 ≤ p.dep ∧ p.dep ≤ 128
  loc : 0 ≤ p.loc ∧ p.loc ≤ 1024
  pool : p.tx.length + p.nu.length + p.st.length + p.ns.length ≤ 4096
  code : p.cd.length ≤ 32768
  tx : ∀ x, x ∈ p.tx → shS x = true
  txr : risB ltS .none p.tx = true
  nu : ∀ x, x ∈ p.nu → shI x = true
  nur : risB ltI .none p.nu = true
  st : ∀ x, x ∈ p.st → setB shS ltS x = true
  str : risB (ltL ltS) .none p.st = true
  ns : ∀ x, x ∈ p.ns → setB shI ltI x = true
  nsr : risB (ltL ltI) .none p.ns = true
  cd : ∀ x, x ∈ p.cd → insB x = true
theorem formB_iff (p : Pg) : formB p = true ↔ Fm p := by
  unfold formB inR
  simp only [Bool.and_eq_true, List.all_eq_true, decide_eq_true_eq]
  constructor
  · rintro ⟨a, b, c, d, ⟨e, f⟩, ⟨g, h⟩, ⟨i, j⟩, ⟨k, l⟩, m⟩
    exact ⟨a, b, by omega, by omega, e, f, g, h, i, j, k, l, m⟩
  · rintro ⟨a, b, c, d, e, f, g, h, i, j, k, l, m⟩
    exact ⟨a, b, by omega, by omega, ⟨e, f⟩, ⟨g, h⟩, ⟨i, j⟩, ⟨k, l⟩, m⟩
theorem enc_len {p : Pg} (h : Fm p) : (enc p).length ≤ 600000000 := by
  have hp := h.pool
  rw [enc_eq]
  have h1 := cnt_ten (n := p.dep.toNat) (by have := h.dep; omega)
  have h2 := cnt_ten (n := p.loc.toNat) (by have := h.loc; omega)
  have h3 := cf_len (l := p.tx) (f := textC.W) (K := p.tx.length) (Nat.le_refl _) (by omega) (fun x hx => text_len (h.tx x hx))
  have h4 := cf_len (l := p.nu) (f := sgnC.W) (K := p.nu.length) (Nat.le_refl _) (by omega) (fun x hx => sgn_len (h.nu x hx))
  have h5 := cf_len (l := p.st) (f := setC.W) (K := p.st.length) (Nat.le_refl _) (by omega) (fun x hx => set_len (h.st x hx))
  have h6 := cf_len (l := p.ns) (f := nsetC.W) (K := p.ns.length) (Nat.le_refl _) (by omega) (fun x hx => nset_len (h.ns x hx))
  have h7 := cf_len (l := p.cd) (f := insC.W) (K := 32768) h.code (by decide) (fun x hx => ins_len (h.cd x hx))
  generalize cnt p.tx.length ++ p.tx.flatMap textC.W = o1 at *
  generalize cnt p.nu.length ++ p.nu.flatMap sgnC.W = o2 at *
  generalize cnt p.st.length ++ p.st.flatMap setC.W = o3 at *
  generalize cnt p.ns.length ++ p.ns.flatMap nsetC.W = o4 at *
  generalize cnt p.cd.length ++ p.cd.flatMap insC.W = o5 at *
  simp only [List.length_append, List.length_cons, List.length_nil]
  omega
end Go.Proofs.Ytnclpdgbjefpmaa.L
