import Derived.WalkKit
namespace Go.Proofs.Ytfbagkajbnomoaa.Qu
set_option linter.unusedVariables false
set_option linter.unusedSimpArgs false
/-! The queue, as the document has it: pure. -/
structure Wt where
  name : ByteArray
  pr : Int
  seq : Int
  tries : Int
  til : Int
  asl : Bool
instance : Inhabited Wt := ⟨⟨⟨#[]⟩, 0, 0, 0, 0, false⟩⟩
def wtV (x : Wt) : Array Value := #[.string x.name, .int .i64 x.pr, .int .i64 x.seq, .int .i64 x.tries, .int .i64 x.til, .bool x.asl]
/-- The one stands ahead of the other. -/
def ahd (a b : Wt) : Prop := b.pr < a.pr ∨ (a.pr = b.pr ∧ a.seq < b.seq)
instance (a b : Wt) : Decidable (ahd a b) := by unfold ahd; exact inferInstance
theorem ahd_trans {a b c : Wt} (h : ahd a b) (k : ahd b c) : ahd a c := by
  unfold ahd at *
  omega
theorem ahd_irr (a : Wt) : ¬ ahd a a := by
  unfold ahd
  omega
theorem ahd_tot {a b : Wt} (h : a.seq ≠ b.seq) : ahd a b ∨ ahd b a := by
  unfold ahd
  omega
/-- The new one's place: behind all that stand ahead of it. -/
def ins (x : Wt) : List Wt → List Wt
  | [] => [x]
  | y :: r => if ahd y x then y :: ins x r else x :: y :: r
theorem mem_ins {x y : Wt} : ∀ {l : List Wt}, y ∈ ins x l ↔ y = x ∨ y ∈ l
  | [] => by simp [ins]
  | z :: r => by
    unfold ins
    split
    · rw [List.mem_cons, mem_ins, List.mem_cons]
      constructor
      · rintro (h | h | h)
        · exact Or.inr (Or.inl h)
        · exact Or.inl h
        · exact Or.inr (Or.inr h)
      · rintro (h | h | h)
        · exact Or.inr (Or.inl h)
        · exact Or.inl h
        · exact Or.inr (Or.inr h)
    · rw [List.mem_cons]
theorem ins_len (x : Wt) : ∀ l : List Wt, (ins x l).length = l.length + 1
  | [] => rfl
  | z :: r => by
    unfold ins
    split
    · rw [List.length_cons, ins_len x r, List.length_cons]
    · rfl
theorem ins_sort {x : Wt} : ∀ {l : List Wt}, l.Pairwise ahd → (∀ y, y ∈ l → y.seq ≠ x.seq) → (ins x l).Pairwise ahd
  | [], _, _ => List.pairwise_singleton _ _
  | z :: r, h, hx => by
    obtain ⟨h1, h2⟩ := List.pairwise_cons.1 h
    unfold ins
    split
    · rename_i hz
      refine List.pairwise_cons.2 ⟨fun y hy => ?_, ins_sort h2 (fun y hy => hx y (List.mem_cons_of_mem _ hy))⟩
      rcases mem_ins.1 hy with rfl | hy
      · exact hz
      · exact h1 y hy
    · rename_i hz
      have hxz : ahd x z := by
        rcases ahd_tot (hx z (by simp)) with e | e
        · exact absurd e hz
        · exact e
      refine List.pairwise_cons.2 ⟨fun y hy => ?_, h⟩
      rcases List.mem_cons.1 hy with rfl | hy
      · exact hxz
      · exact ahd_trans hxz (h1 y hy)
/-- The waiting time. -/
def wts (tries : Int) : Int := if tries ≤ 1 then 1 else if 7 ≤ tries then 64 else 2 ^ (tries - 1).toNat
/-- What is true of every queue. -/
structure Okq (l : List Wt) (nx : Int) : Prop where
  sort : l.Pairwise ahd
  names : l.Pairwise (fun a b => a.name ≠ b.name)
  seqs : l.Pairwise (fun a b => a.seq ≠ b.seq)
  lo : ∀ x, x ∈ l → 0 ≤ x.seq ∧ x.seq < nx
  tr : ∀ x, x ∈ l → 0 ≤ x.tries ∧ x.tries ≤ 1099511627776
  ti : ∀ x, x ∈ l → 0 ≤ x.til ∧ x.til ≤ 1099511627840
  few : l.length ≤ 2048
  nx0 : 0 ≤ nx
  nx1 : nx ≤ 1099511627776
theorem okq_nil : Okq [] 0 := ⟨List.Pairwise.nil, List.Pairwise.nil, List.Pairwise.nil, (fun x h => by cases h), (fun x h => by cases h), (fun x h => by cases h), by decide, by decide, by decide⟩
theorem ins_pair {R : Wt → Wt → Prop} (hs : ∀ a b, R a b → R b a) {x : Wt} : ∀ {l : List Wt}, l.Pairwise R → (∀ y, y ∈ l → R y x) → (ins x l).Pairwise R
  | [], _, _ => List.pairwise_singleton _ _
  | z :: r, h, hx => by
    obtain ⟨h1, h2⟩ := List.pairwise_cons.1 h
    unfold ins
    split
    · refine List.pairwise_cons.2 ⟨fun y hy => ?_, ins_pair hs h2 (fun y hy => hx y (List.mem_cons_of_mem _ hy))⟩
      rcases mem_ins.1 hy with rfl | hy
      · exact hx z (by simp)
      · exact h1 y hy
    · exact List.pairwise_cons.2 ⟨fun y hy => hs _ _ (hx y hy), h⟩
/-- One more. -/
theorem Okq.push {l : List Wt} {nx : Int} (h : Okq l nx) {s : ByteArray} {p : Int} (hn : ∀ x, x ∈ l → x.name ≠ s) (hf : l.length < 2048) (hx : nx < 1099511627776) : Okq (ins ⟨s, p, nx, 0, 0, false⟩ l) (nx + 1) := by
  have hq : ∀ y, y ∈ l → y.seq ≠ nx := fun y hy => by have := (h.lo y hy).2; omega
  refine ⟨ins_sort h.sort hq, ins_pair (fun a b h => Ne.symm h) h.names hn, ins_pair (fun a b h => Ne.symm h) h.seqs hq, fun x hx => ?_, fun x hx => ?_, fun x hx => ?_, by rw [ins_len]; omega, by have := h.nx0; omega, by omega⟩
  · rcases mem_ins.1 hx with rfl | hx
    · have := h.nx0; exact ⟨this, by show nx < nx + 1; omega⟩
    · have := h.lo x hx; omega
  · rcases mem_ins.1 hx with rfl | hx
    · exact ⟨by show (0 : Int) ≤ 0; omega, by show (0 : Int) ≤ _; omega⟩
    · exact h.tr x hx
  · rcases mem_ins.1 hx with rfl | hx
    · exact ⟨by show (0 : Int) ≤ 0; omega, by show (0 : Int) ≤ _; omega⟩
    · exact h.ti x hx
/-- One less. -/
theorem Okq.erase {l : List Wt} {nx : Int} (h : Okq l nx) (k : Nat) : Okq (l.eraseIdx k) nx := by
  have sub := List.eraseIdx_sublist l k
  refine ⟨h.sort.sublist sub, h.names.sublist sub, h.seqs.sublist sub, fun x hx => h.lo x (sub.mem hx), fun x hx => h.tr x (sub.mem hx), fun x hx => h.ti x (sub.mem hx), Nat.le_trans sub.length_le h.few, h.nx0, h.nx1⟩
/-- Changes that leave name, priority and number. -/
theorem Okq.map {l : List Wt} {nx : Int} (h : Okq l nx) (f : Wt → Wt) (hf : ∀ x, (f x).name = x.name ∧ (f x).pr = x.pr ∧ (f x).seq = x.seq) (ht : ∀ x, x ∈ l → 0 ≤ (f x).tries ∧ (f x).tries ≤ 1099511627776) (hu : ∀ x, x ∈ l → 0 ≤ (f x).til ∧ (f x).til ≤ 1099511627840) : Okq (l.map f) nx := by
  refine ⟨List.pairwise_map.2 (h.sort.imp fun {a b} hab => ?_), List.pairwise_map.2 (h.names.imp fun {a b} hab => ?_), List.pairwise_map.2 (h.seqs.imp fun {a b} hab => ?_), fun x hx => ?_, fun x hx => ?_, fun x hx => ?_, by rw [List.length_map]; exact h.few, h.nx0, h.nx1⟩
  · unfold ahd at *
    rw [(hf a).2.1, (hf a).2.2, (hf b).2.1, (hf b).2.2]
    exact hab
  · rw [(hf a).1, (hf b).1]; exact hab
  · rw [(hf a).2.2, (hf b).2.2]; exact hab
  · obtain ⟨y, hy, rfl⟩ := List.mem_map.1 hx
    rw [(hf y).2.2]
    exact h.lo y hy
  · obtain ⟨y, hy, rfl⟩ := List.mem_map.1 hx
    exact ht y hy
  · obtain ⟨y, hy, rfl⟩ := List.mem_map.1 hx
    exact hu y hy
end Go.Proofs.Ytfbagkajbnomoaa.Qu
