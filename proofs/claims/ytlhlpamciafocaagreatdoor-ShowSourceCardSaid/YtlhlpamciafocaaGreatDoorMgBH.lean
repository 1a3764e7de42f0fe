import Derived.Test.YtlhlpamciafocaaGreatDoorMgBG
import Derived.Test.YtlhlpamciafocaaGreatDoorSxB
import Derived.Test.YtlhlpamciafocaaGreatDoorMgBF
import Derived.Test.YtlhlpamciafocaaGreatDoorMgAR
namespace Go.Proofs.YtlhlpamciafocaaGreatDoor.L
open Go.RowKit Go.Shelf
set_option linter.unusedVariables false
set_option linter.unusedSimpArgs false
section
variable {T : List Tok}
theorem cw_mark {t : Tok} {m : List UInt8} (hk : t.kind = 4 ∨ t.kind = 3) (h : t.text.toList = m) : cw t = 3 * m.length := by
  unfold cw
  rw [if_neg (by omega), if_neg (by omega), ← h, ByteArray.toList_eq, Array.length_toList]
  rfl
theorem isM_w {s : PS} {m : List UInt8} (h : isM T s m = true) : Ws T (s.nx + 1) = Ws T s.nx + 3 * m.length := by
  unfold isM at h
  simp only [Bool.and_eq_true, decide_eq_true_eq] at h
  rw [ws_step, cw_mark (Or.inl h.1) h.2]
theorem mark_w {s s' : PS} {m : List UInt8} {u : Unit} (h : markP T s m = .ok (u, s')) : Ws T s'.nx = Ws T s.nx + 3 * m.length := by
  rw [mark_ok h]
  unfold markP at h
  split at h
  · rename_i hm
    exact isM_w hm
  · cases h
theorem open_w {s s' : PS} {m : List UInt8} {u : Unit} (h : openP T s m = .ok (u, s')) : Ws T s'.nx = Ws T s.nx + 3 * m.length := by
  rw [open_ok h]
  unfold openP at h
  split at h
  · rename_i hm
    exact isM_w hm
  · cases h
theorem text_w {s s' : PS} {t : ByteArray} (h : textP T s = .ok (t, s')) : Ws T s'.nx = Ws T s.nx + (quoteL t.data.toList).length := by
  rw [text_ok h]
  unfold textP at h
  split at h
  · rename_i hk
    injection h with h
    injection h with h _
    show Ws T (s.nx + 1) = _
    rw [ws_step, ← h]
    unfold cw
    rw [if_pos hk]
  · cases h
theorem named_w {s s' : PS} {t : ByteArray} (e : namedP T s = .ok (t, s')) : Ws T s'.nx = Ws T s.nx + 6 + (quoteL t.data.toList).length := by
  unfold namedP at e
  obtain ⟨u, s1, e1, e⟩ := bnd_inv e
  obtain ⟨t1, s2, e2, e⟩ := bnd_inv e
  obtain ⟨u3, s3, e3, e⟩ := bnd_inv e
  injection e with e
  injection e with et e
  subst e
  subst et
  have h1 := mark_w e1
  have h2 := text_w e2
  have h3 := mark_w e3
  simp only [List.length_cons, List.length_nil] at h1 h3
  omega
theorem field_w {s s' : PS} {k : Int} (e : fieldP T s = .ok (k, s')) : Ws T s.nx + 9 ≤ Ws T s'.nx := by
  unfold fieldP at e
  split at e
  · cases e
  · rename_i h
    injection e with e
    injection e with e1 e2
    subst e2
    show _ ≤ Ws T (s.nx + 1)
    rw [ws_step]
    unfold fieldO at h
    split at h
    · rename_i h3
      repeat' split at h
      all_goals first | exact absurd rfl h | (rename_i hm; rw [cw_mark (Or.inr h3) hm]; simp)
    · exact absurd rfl h
/-- A part that is put, and how long it is. -/
theorem put_l {g : Gr} {s s' : PS} {p : Pt} {x k : Int} {m : Nat} (e : putP s p x = .ok (k, s')) (ht : Tb s.ps) (hp : ∀ x, x ∈ p.kids → 0 ≤ x ∧ x < (s.ps.length : Int)) (hx : exG g p.kind = 0) (hl : ∀ L : List (List UInt8), L.map List.length = p.kids.map (klen s.ps p.kind) → m + (txK p.kind (quoteL p.text.data.toList) p.num L).length ≤ Ws T s.nx) : m + tl s'.ps k.toNat + 2 * exG g (pt s'.ps k.toNat).kind ≤ Ws T s'.nx := by
  unfold putP at e
  injection e with e
  injection e with e1 e2
  subst e2 e1
  have h1 := tl_put ht hp
  have h2 := hl _ h1.2
  have e9 := pt_end s.ps p []
  rw [List.append_nil] at e9
  show m + tl (s.ps ++ [p]) ((s.ps.length : Nat) : Int).toNat + 2 * exG g (pt (s.ps ++ [p]) ((s.ps.length : Nat) : Int).toNat).kind ≤ Ws T s.nx
  rw [Int.toNat_natCast, e9, hx, h1.1]
  omega
theorem leaf_l {g : Gr} {s s' : PS} {p : Pt} {x k : Int} {m : Nat} (e : putP s p x = .ok (k, s')) (ht : Tb s.ps) (hp : p.kids = []) (hx : exG g p.kind = 0) (hl : m + (txK p.kind (quoteL p.text.data.toList) p.num []).length ≤ Ws T s.nx) : m + tl s'.ps k.toNat + 2 * exG g (pt s'.ps k.toNat).kind ≤ Ws T s'.nx := by
  refine put_l e ht (fun x h => by rw [hp] at h; cases h) hx fun L hL => ?_
  rw [hp] at hL
  have : L = [] := by simpa using hL
  rw [this]
  exact hl
def Lg (T : List Tok) (g : Gr) (r : PS → PRes Int) : Prop := ∀ s k s', Tb s.ps → s.ns ≤ 32 → r s = .ok (k, s') → Ws T s.nx + tl s'.ps k.toNat + 2 * exG g (pt s'.ps k.toNat).kind ≤ Ws T s'.nx
theorem el_l {s s' : PS} {k : Int} (ht : Tb s.ps) (he : isEl (tk T s.nx) = true) (e : elP T s = .ok (k, s')) : Ws T s.nx + tl s'.ps k.toNat + 2 * exG .term (pt s'.ps k.toNat).kind ≤ Ws T s'.nx := by
  unfold elP at e
  by_cases h1 : (tk T s.nx).kind = 1
  · rw [if_pos h1] at e
    refine leaf_l e ht rfl rfl ?_
    show Ws T s.nx + (quoteL (tk T s.nx).text.data.toList).length ≤ Ws T (s.nx + 1)
    rw [ws_step]
    unfold cw
    rw [if_pos h1]
    omega
  · rw [if_neg h1] at e
    have h2 : (tk T s.nx).kind = 2 := by
      unfold isEl at he
      simp [h1] at he
      exact he
    refine leaf_l e ht rfl rfl ?_
    show Ws T s.nx + (Lib.itoa (tk T s.nx).num).length ≤ Ws T (s.nx + 1)
    rw [ws_step]
    unfold cw
    rw [if_neg h1, if_pos h2]
    omega
theorem mem_l {s s' : PS} {k : Int} {n : Nat} (ht : Tb s.ps) (e : memP T s n = .ok (k, s')) : Ws T s.nx + klen s'.ps 13 k ≤ Ws T s'.nx := by
  unfold memP at e
  split at e
  · rename_i he
    split at e
    · cases e
    · have := el_l ht he e
      unfold klen
      have h0 : brB 13 (pt s'.ps k.toNat).kind = false := by unfold brB; simp
      rw [h0]
      simp only [Bool.false_eq_true, if_false]
      omega
  · cases e
theorem Kd.lt {ps : List Pt} {ns : Nat} {k : Int} {ks : List Int} (H : Kd ps ns k ks) {x : Int} (hx : x ∈ ks) : 0 ≤ x ∧ x < (ps.length : Int) := by
  obtain ⟨y, h, rfl, h1, _⟩ := H.ok x hx
  omega
theorem Kd.lt2 {ps : List Pt} {ns : Nat} {k : Int} {ks : List Int} (H : Kd ps ns k ks) : ∀ x, x ∈ ks → x.toNat < ps.length := fun x hx => by
  have := H.lt hx
  omega
theorem mems_l (hT : Txt T) (hN : Nmt T) {ns : Nat} (hn : ns ≤ 32) : ∀ (n : Nat) {ks ks' : List Int} {s s' : PS}, Tb s.ps → s.ns = ns → Kd s.ps ns 13 ks → memsP T n ks s = .ok (ks', s') → Ws T s.nx + kls s'.ps 13 ks' + 2 * ks'.length ≤ Ws T s'.nx + kls s.ps 13 ks + 2 * ks.length
  | 0, ks, ks', s, s', ht, hns, hk, e => by
    injection e with e
    injection e with e1 e2
    subst e1 e2
    exact Nat.le_refl _
  | n + 1, ks, ks', s, s', ht, hns, hk, e => by
    unfold memsP at e
    split at e
    · rename_i hm
      obtain ⟨k, s1, e1, e2⟩ := bnd_inv e
      obtain ⟨⟨Q, hQ⟩, t1, k1, n1⟩ := mem_v hT hN (s := adv s) ht hns hn e1
      have hQ' : s1.ps = s.ps ++ Q := hQ
      have h1 := mem_l (s := adv s) ht e1
      have h2 := mems_l hT hN hn n t1 n1 (Kd.app (by rw [hQ']; exact hk.ext Q) k1) e2
      have h3 := isM_w hm
      have h4 : kls s1.ps 13 ks = kls s.ps 13 ks := by rw [hQ']; exact kls_ext ht Q hk.lt2
      rw [kls_app, kls_one, h4] at h2
      simp only [List.length_append, List.length_cons, List.length_nil] at h2 h3
      have h5 : (adv s).nx = s.nx + 1 := rfl
      rw [h5] at h1
      omega
    · injection e with e
      injection e with e1 e2
      subst e1 e2
      exact Nat.le_refl _
theorem set_l (hT : Txt T) (hN : Nmt T) : Lg T .term (setP T) := by
  intro s k s' ht hn e
  unfold setP at e
  obtain ⟨u, s1, e1, e⟩ := bnd_inv e
  obtain ⟨ks, s2, e2, e⟩ := bnd_inv e
  obtain ⟨ks', s3, e3, e⟩ := bnd_inv e
  obtain ⟨u4, s4, e4, e⟩ := bnd_inv e
  have m1 := mark_ok e1
  have m4 := mark_ok e4
  have w1 := mark_w e1
  have w4 := mark_w e4
  have h2 : (∃ Q, s2.ps = s.ps ++ Q) ∧ Tb s2.ps ∧ Kd s2.ps s.ns 13 ks ∧ s2.ns = s.ns ∧ ks.length ≤ 1 ∧ Ws T s1.nx + kls s2.ps 13 ks ≤ Ws T s2.nx := by
    split at e2
    · injection e2 with e2
      injection e2 with ea eb
      subst ea eb
      refine ⟨?_, ?_, ?_, ?_, by simp, by rw [kls_nil]; omega⟩
      · rw [m1]; exact ⟨[], by simp [adv]⟩
      · rw [m1]; exact ht
      · rw [m1]; exact kd_nil _ _ _
      · rw [m1]; rfl
    · obtain ⟨k0, sx, ex, ey⟩ := bnd_inv e2
      injection ey with ey
      injection ey with ea eb
      subst ea eb
      have hl := mem_l (by rw [m1]; exact ht) ex
      rw [m1] at ex
      obtain ⟨a, b, c, d⟩ := mem_v hT hN (s := adv s) ht rfl hn ex
      exact ⟨a, b, c, d, by simp, by rw [kls_one]; exact hl⟩
  obtain ⟨⟨Q, hQ⟩, t2, k2, n2, l2, w2⟩ := h2
  obtain ⟨⟨Q2, hQ2⟩, t3, k3, n3⟩ := mems_v hT hN hn 4097 t2 n2 k2 e3
  have w3 := mems_l hT hN hn 4097 t2 n2 k2 e3
  refine put_l (g := .term) e (by rw [m4]; exact t3) (fun x hx => by rw [m4]; exact k3.lt hx) rfl fun L hL => ?_
  have hL : L.map List.length = ks'.map (klen s4.ps 13) := hL
  have e4 : s4.ps = s3.ps := by rw [m4]; rfl
  rw [e4] at hL
  have hll : L.length = ks'.length := by have := congrArg List.length hL; simpa using this
  have hle : Lib.lens L = kls s3.ps 13 ks' := by rw [lens_map, hL]; rfl
  have hj := join_len L [44, 32]
  show Ws T s.nx + ([123] ++ (Lib.join L [44, 32] ++ [125])).length ≤ Ws T s4.nx
  simp only [List.length_append, List.length_cons, List.length_nil] at hj w1 w4 ⊢
  omega
theorem who_l {side : Int} : ∀ s k s', Tb s.ps → (whoL side).length ≤ cw (tk T s.nx) → whoP T s side = .ok (k, s') → Ws T s.nx + tl s'.ps k.toNat + 2 * exG .term (pt s'.ps k.toNat).kind ≤ Ws T s'.nx := by
  intro s k s' ht hw e
  have w0 := ws_step T s.nx
  unfold whoP at e
  split at e
  · rename_i hm
    obtain ⟨t, s1, e1, e⟩ := bnd_inv e
    obtain ⟨u, s2, e2, e⟩ := bnd_inv e
    have w1 := isM_w hm
    have w2 := text_w e1
    have w3 := mark_w e2
    refine leaf_l (g := .term) e (by rw [mark_ok e2, text_ok e1]; exact ht) rfl rfl ?_
    show Ws T s.nx + (whoL side ++ ([91] ++ (quoteL t.data.toList ++ [93]))).length ≤ Ws T s2.nx
    have h5 : (adv s).nx = s.nx + 1 := rfl
    have h6 : (adv (adv s)).nx = s.nx + 1 + 1 := rfl
    rw [h5] at w1
    rw [h6] at w2
    simp only [List.length_append, List.length_cons, List.length_nil] at w1 w3 ⊢
    omega
  · obtain ⟨u, s1, e1, e⟩ := bnd_inv e
    obtain ⟨f, s2, e2, e⟩ := bnd_inv e
    have hf := field_v e2
    have h12 : s2.ps = s.ps := by rw [hf.1, mark_ok e1]; rfl
    have w1 := mark_w e1
    have w2 := field_w e2
    have h5 : (adv s).nx = s.nx + 1 := rfl
    rw [h5] at w1
    split at e
    · obtain ⟨t, s3, e3, e⟩ := bnd_inv e
      have w3 := named_w e3
      refine leaf_l (g := .term) e (by rw [named_ps e3, h12]; exact ht) rfl rfl ?_
      show Ws T s.nx + ((whoL side ++ [46, 99, 97, 112]) ++ ([40] ++ (quoteL t.data.toList ++ [41]))).length ≤ Ws T s3.nx
      simp only [List.length_append, List.length_cons, List.length_nil] at w1 ⊢
      omega
    · rename_i h18
      have hf3 : f = 15 ∨ f = 16 ∨ f = 17 := by have := hf.2; omega
      refine leaf_l (g := .term) e (by rw [h12]; exact ht) rfl rfl ?_
      have h9 : (txK f (quoteL (ByteArray.mk #[]).data.toList) side []).length ≤ (whoL side).length + 7 := by
        rcases hf3 with rfl | rfl | rfl <;> simp [txK]
      show Ws T s.nx + (txK f (quoteL (ByteArray.mk #[]).data.toList) side []).length ≤ Ws T s2.nx
      simp only [List.length_append, List.length_cons, List.length_nil] at w1
      omega
theorem const_l {kk : Int} (hk : kk = 1 ∨ kk = 2) : ∀ s k s', Tb s.ps → 5 ≤ cw (tk T s.nx) → constP T s kk = .ok (k, s') → Ws T s.nx + tl s'.ps k.toNat + 2 * exG .unit (pt s'.ps k.toNat).kind ≤ Ws T s'.nx := by
  intro s k s' ht hw e
  have w0 := ws_step T s.nx
  refine leaf_l (g := .unit) (s := adv s) e ht rfl (by rcases hk with rfl | rfl <;> rfl) ?_
  show Ws T s.nx + (txK kk (quoteL (ByteArray.mk #[]).data.toList) 0 []).length ≤ Ws T (s.nx + 1)
  have : (txK kk (quoteL (ByteArray.mk #[]).data.toList) 0 []).length ≤ 5 := by rcases hk with rfl | rfl <;> simp [txK]
  omega
theorem tol_l : ∀ s k s', Tb s.ps → 9 ≤ cw (tk T s.nx) → tolP T s = .ok (k, s') → Ws T s.nx + tl s'.ps k.toNat + 2 * exG .unit (pt s'.ps k.toNat).kind ≤ Ws T s'.nx := by
  intro s k s' ht hw e
  have w0 := ws_step T s.nx
  unfold tolP at e
  obtain ⟨t, s1, e1, e⟩ := bnd_inv e
  have w1 := named_w e1
  refine leaf_l (g := .unit) e (by rw [named_ps e1]; exact ht) rfl rfl ?_
  have h5 : (adv s).nx = s.nx + 1 := rfl
  rw [h5] at w1
  show Ws T s.nx + ([116, 111, 108, 101, 114, 97, 116, 101, 100] ++ ([40] ++ (quoteL t.data.toList ++ [41]))).length ≤ Ws T s1.nx
  simp only [List.length_append, List.length_cons, List.length_nil]
  omega
theorem with_w {α : Type} {inn : PS → PRes α} {s s' : PS} {a : α} (e : withP T inn s = .ok (a, s')) : ∃ s1 s2, s1.ps = s.ps ∧ s1.ns = s.ns + 1 ∧ s.ns ≠ 32 ∧ inn s1 = .ok (a, s2) ∧ s'.ps = s2.ps ∧ Ws T s1.nx = Ws T s.nx + 3 ∧ Ws T s'.nx = Ws T s2.nx + 3 := by
  unfold withP at e
  obtain ⟨u, s1, e1, e⟩ := bnd_inv e
  obtain ⟨k, s2, e2, e⟩ := bnd_inv e
  obtain ⟨u3, s3, e3, e⟩ := bnd_inv e
  injection e with e
  injection e with ea eb
  subst ea
  subst eb
  exact ⟨s1, s2, by rw [open_ok e1]; rfl, by rw [open_ok e1], open_ns e1, e2, by rw [mark_ok e3]; rfl, open_w e1, mark_w e3⟩
theorem group_l {ex : PS → PRes Int} (l : Lg T .expr ex) : Lg T .unit (withP T ex) := by
  intro s k s' ht hn e
  obtain ⟨s1, s2, p1, n1, n32, e1, p2, w1, w2⟩ := with_w e
  have := l s1 k s2 (by rw [p1]; exact ht) (by omega) e1
  rw [p2]
  have h1 : exG .unit (pt s2.ps k.toNat).kind ≤ 1 := by show (if (pt s2.ps k.toNat).kind = 4 ∨ (pt s2.ps k.toNat).kind = 5 then 1 else 0) ≤ 1; split <;> omega
  omega
theorem br_none {k q : Int} (h : k ≠ 3 ∧ k ≠ 4 ∧ k ≠ 5) : brB k q = false := by
  unfold brB
  simp [h.1, h.2.1, h.2.2]
theorem klen_none {P : List Pt} {k x : Int} (h : k ≠ 3 ∧ k ≠ 4 ∧ k ≠ 5) : klen P k x = tl P x.toNat := by
  unfold klen
  rw [br_none h]
  simp
theorem sel_l {ex : PS → PRes Int} (hv : Vg .expr ex) (l : Lg T .expr ex) {kd : Int} {g : Gr} (hk : (kd = 8 ∧ g = .unit) ∨ (kd = 9 ∧ g = .unit) ∨ (kd = 20 ∧ g = .term)) : ∀ s k s', Tb s.ps → s.ns ≤ 32 → 5 ≤ cw (tk T s.nx) → selP T ex kd s = .ok (k, s') → Ws T s.nx + tl s'.ps k.toNat + 2 * exG g (pt s'.ps k.toNat).kind ≤ Ws T s'.nx := by
  intro s k s' ht hn hw e
  have w0 := ws_step T s.nx
  unfold selP at e
  obtain ⟨q, s5, e5, e⟩ := bnd_inv e
  obtain ⟨s1, s2, p1, n1, n32, e1, p2, w1, w2⟩ := with_w e5
  obtain ⟨t, s3, f1, e1⟩ := bnd_inv e1
  obtain ⟨u, s4, f2, e1⟩ := bnd_inv e1
  obtain ⟨r, s6, f3, e1⟩ := bnd_inv e1
  injection e1 with e1
  injection e1 with ea eb
  subst ea eb
  have p4 : s4.ps = s.ps := by rw [mark_ok f2, text_ok f1]; exact p1
  have n4 : s4.ns = s.ns + 1 := by rw [mark_ok f2, text_ok f1]; exact n1
  have n32' : s.ns ≠ 32 := n32
  have v1 := text_w f1
  have v2 := mark_w f2
  obtain ⟨y, v⟩ := hv s4 r s6 (by rw [p4]; exact ht) (by omega) f3
  have v3 := l s4 r s6 (by rw [p4]; exact ht) (by omega) f3
  have h5 : (adv s).nx = s.nx + 1 := rfl
  rw [h5] at w1
  refine put_l (g := g) e (by rw [p2]; exact v.tb) (fun x hx => ?_) ?_ fun L hL => ?_
  · have hx : x = r := by simpa using hx
    have h1 := v.eq
    have h2 := v.lt
    rw [hx, p2]
    omega
  · rcases hk with ⟨rfl, rfl⟩ | ⟨rfl, rfl⟩ | ⟨rfl, rfl⟩ <;> rfl
  · have hL : L.map List.length = [klen s5.ps kd r] := hL
    rw [klen_none (by rcases hk with ⟨rfl, _⟩ | ⟨rfl, _⟩ | ⟨rfl, _⟩ <;> omega), p2] at hL
    obtain ⟨z, rfl, hz⟩ := one_of hL
    show Ws T s.nx + (txK kd (quoteL t.data.toList) 0 [z]).length ≤ Ws T s5.nx
    have h9 : (txK kd (quoteL t.data.toList) 0 [z]).length ≤ 9 + (quoteL t.data.toList).length + z.length := by
      rcases hk with ⟨rfl, _⟩ | ⟨rfl, _⟩ | ⟨rfl, _⟩ <;> simp [txK] <;> omega
    simp only [List.length_append, List.length_cons, List.length_nil] at v2
    omega
theorem int_l {te : PS → PRes Int} (hv : Vg .term te) (l : Lg T .term te) : Lg T .term (fun s => bnd (withP T te (adv s)) fun k s1 => putP s1 ⟨19, ⟨#[]⟩, 0, [k]⟩ ((tk T s.nx).a : Int)) := by
  intro s k s' ht hn e
  have w0 := ws_step T s.nx
  obtain ⟨q, s5, e5, e⟩ := bnd_inv e
  obtain ⟨s1, s2, p1, n1, n32, e1, p2, w1, w2⟩ := with_w e5
  have p1' : s1.ps = s.ps := p1
  have n1' : s1.ns = s.ns + 1 := n1
  have n32' : s.ns ≠ 32 := n32
  obtain ⟨y, v⟩ := hv s1 q s2 (by rw [p1']; exact ht) (by omega) e1
  have v3 := l s1 q s2 (by rw [p1']; exact ht) (by omega) e1
  have h5 : (adv s).nx = s.nx + 1 := rfl
  rw [h5] at w1
  refine put_l (g := .term) e (by rw [p2]; exact v.tb) (fun x hx => ?_) rfl fun L hL => ?_
  · have hx : x = q := by simpa using hx
    have h1 := v.eq
    have h2 := v.lt
    rw [hx, p2]
    omega
  · have hL : L.map List.length = [klen s5.ps 19 q] := hL
    rw [klen_none (by omega), p2] at hL
    obtain ⟨z, rfl, hz⟩ := one_of hL
    show Ws T s.nx + ([105, 110, 116] ++ ([40] ++ (z ++ [41]))).length ≤ Ws T s5.nx
    simp only [List.length_append, List.length_cons, List.length_nil]
    omega
theorem neg_l {un : PS → PRes Int} (hv : Vg .unit un) (l : Lg T .unit un) : Lg T .unit (negP T un) := by
  intro s k s' ht hn e
  unfold negP at e
  obtain ⟨u, s1, e1, e⟩ := bnd_inv e
  obtain ⟨q, s2, e2, e⟩ := bnd_inv e
  have p1 : s1.ps = s.ps := by rw [open_ok e1]; rfl
  have n1 : s1.ns = s.ns + 1 := by rw [open_ok e1]
  have n32 := open_ns e1
  have w1 := open_w e1
  obtain ⟨y, v⟩ := hv s1 q s2 (by rw [p1]; exact ht) (by omega) e2
  have v3 := l s1 q s2 (by rw [p1]; exact ht) (by omega) e2
  refine put_l (g := .unit) e v.tb (fun x hx => ?_) rfl fun L hL => ?_
  · have hx : x = q := by simpa using hx
    have h1 := v.eq
    have h2 : y < s2.ps.length := v.lt
    rw [hx]
    show 0 ≤ q ∧ q < (s2.ps.length : Int)
    omega
  · have hL : L.map List.length = [klen s2.ps 3 q] := hL
    obtain ⟨z, rfl, hz⟩ := one_of hL
    have h8 : klen s2.ps 3 q = tl s2.ps q.toNat + 2 * exG .unit (pt s2.ps q.toNat).kind := by
      unfold klen brB exG
      by_cases h : (pt s2.ps q.toNat).kind = 4 ∨ (pt s2.ps q.toNat).kind = 5 <;> simp [h]
    show Ws T s.nx + ([33] ++ z).length ≤ Ws T s2.nx
    simp only [List.length_append, List.length_cons, List.length_nil] at w1 ⊢
    omega
theorem bet_w {t : Tok} {kd nu : Int} (h : betO t = some (kd, nu)) : (kd = 6 ∧ (sgnL nu).length + 2 ≤ cw t) ∨ (kd = 7 ∧ (memL nu).length + 2 ≤ cw t) := by
  unfold betO at h
  split at h
  · rename_i h4
    split at h
    · cases h
    · rename_i hc
      injection h with h
      injection h with h1 h2
      left
      refine ⟨h1.symm, ?_⟩
      rw [← h2, cw_mark (Or.inl h4) rfl]
      unfold cmpO at hc ⊢
      repeat' split
      all_goals first | (rename_i hm; rw [hm]; decide) | (exfalso; simp_all; done)
  · split at h
    · rename_i h3
      split at h
      · rename_i hm
        injection h with h
        injection h with h1 h2
        refine Or.inr ⟨h1.symm, ?_⟩
        rw [← h2, cw_mark (Or.inr h3) hm]
        decide
      · split at h
        · rename_i hm
          injection h with h
          injection h with h1 h2
          refine Or.inr ⟨h1.symm, ?_⟩
          rw [← h2, cw_mark (Or.inr h3) hm]
          decide
        · cases h
    · cases h
theorem comp_l {te : PS → PRes Int} (hv : Vg .term te) (hs : Sn te) (l : Lg T .term te) : Lg T .unit (compP T te) := by
  intro s k s' ht hn e
  unfold compP at e
  obtain ⟨a, s1, e1, e⟩ := bnd_inv e
  split at e
  · cases e
  · rename_i kd nu hb
    have hbw := bet_w hb
    obtain ⟨r, s2, e2, e⟩ := bnd_inv e
    have n1 := hs _ _ _ e1
    have w0 := ws_step T s1.nx
    obtain ⟨y1, v1⟩ := hv s a s1 ht hn e1
    have l1 := l s a s1 ht hn e1
    obtain ⟨y2, v2⟩ := hv (adv s1) r s2 v1.tb (by show s1.ns ≤ 32; omega) e2
    have l2 := l (adv s1) r s2 v1.tb (by show s1.ns ≤ 32; omega) e2
    obtain ⟨Q2, q2⟩ := v2.ext
    have q2 : s2.ps = s1.ps ++ Q2 := q2
    have h5 : (adv s1).nx = s1.nx + 1 := rfl
    rw [h5] at l2
    have he := v1.eq
    have hl := v1.lt
    have hlen : s1.ps.length ≤ s2.ps.length := by rw [q2]; simp
    refine put_l (g := .unit) e v2.tb (fun x hx => ?_) (by rcases hbw with ⟨rfl, _⟩ | ⟨rfl, _⟩ <;> rfl) fun L hL => ?_
    · have hx : x = a ∨ x = r := by simpa using hx
      have h1 := v2.eq
      have h2 := v2.lt
      rcases hx with rfl | rfl <;> omega
    · have hL : L.map List.length = [klen s2.ps kd a, klen s2.ps kd r] := hL
      have h0 : kd ≠ 3 ∧ kd ≠ 4 ∧ kd ≠ 5 := by rcases hbw with ⟨rfl, _⟩ | ⟨rfl, _⟩ <;> omega
      rw [klen_none h0, klen_none h0] at hL
      have h7 : tl s2.ps a.toNat = tl s1.ps a.toNat := by rw [q2]; exact tl_ext v1.tb Q2 (by omega)
      obtain ⟨z1, z2, rfl, hz1, hz2⟩ := two_of hL
      show Ws T s.nx + (txK kd (quoteL (ByteArray.mk #[]).data.toList) nu [z1, z2]).length ≤ Ws T s2.nx
      rcases hbw with ⟨rfl, hq⟩ | ⟨rfl, hq⟩
      · show Ws T s.nx + (z1 ++ ([32] ++ (sgnL nu ++ ([32] ++ z2)))).length ≤ Ws T s2.nx
        simp only [List.length_append, List.length_cons, List.length_nil]
        omega
      · show Ws T s.nx + (z1 ++ ([32] ++ (memL nu ++ ([32] ++ z2)))).length ≤ Ws T s2.nx
        simp only [List.length_append, List.length_cons, List.length_nil]
        omega
theorem kd_br {kd : Int} {g1 : Gr} (hk : (kd = 4 ∧ g1 = .unit) ∨ (kd = 5 ∧ g1 = .conj)) (P : List Pt) (x : Int) : klen P kd x = tl P x.toNat + 2 * exG g1 (pt P x.toNat).kind := by
  unfold klen brB exG
  rcases hk with ⟨rfl, rfl⟩ | ⟨rfl, rfl⟩
  · by_cases h : (pt P x.toNat).kind = 4 ∨ (pt P x.toNat).kind = 5 <;> simp [h]
  · by_cases h : (pt P x.toNat).kind = 5 <;> simp [h]
theorem rows_l {g1 : Gr} {one : PS → PRes Int} {m : List UInt8} {kd : Int} {ns : Nat} (h : Vg g1 one) (hs : Sn one) (l : Lg T g1 one) (hn : ns ≤ 32) (hm2 : m.length = 2) (hk1 : (kd = 4 ∧ g1 = .unit) ∨ (kd = 5 ∧ g1 = .conj)) (hcl : ∀ q, clG g1 q → clsB kd q = true ∧ (ns : Int) + btw kd q ≤ (ns : Int) + (exG g1 q : Int)) : ∀ (n : Nat) {ks ks' : List Int} {s s' : PS}, Tb s.ps → s.ns = ns → Kd s.ps ns kd ks → rowsP T one m n ks s = .ok (ks', s') → Ws T s.nx + kls s'.ps kd ks' + 4 * ks'.length ≤ Ws T s'.nx + kls s.ps kd ks + 4 * ks.length
  | 0, ks, ks', s, s', ht, hns, hk, e => by
    injection e with e
    injection e with e1 e2
    subst e1 e2
    exact Nat.le_refl _
  | n + 1, ks, ks', s, s', ht, hns, hk, e => by
    unfold rowsP at e
    split at e
    · rename_i hm
      obtain ⟨k, s1, e1, e2⟩ := bnd_inv e
      obtain ⟨y, v⟩ := h (adv s) k s1 ht (by show s.ns ≤ 32; omega) e1
      have l1 := l (adv s) k s1 ht (by show s.ns ≤ 32; omega) e1
      have n1 : s1.ns = (adv s).ns := hs _ _ _ e1
      have n1 : s1.ns = s.ns := n1
      obtain ⟨Q, hQ⟩ := v.ext
      have hQ' : s1.ps = s.ps ++ Q := hQ
      have k1 : Kd s1.ps ns kd [k] := kd_one v fun q hq => ⟨(hcl q hq).1, by have := (hcl q hq).2; show _ ≤ ((s.ns : Nat) : Int) + _; omega⟩
      have h2 := rows_l h hs l hn hm2 hk1 hcl n v.tb (by omega) (Kd.app (by rw [hQ']; exact hk.ext Q) k1) e2
      have h3 := isM_w hm
      have h4 : kls s1.ps kd ks = kls s.ps kd ks := by rw [hQ']; exact kls_ext ht Q hk.lt2
      have h6 := kd_br hk1 s1.ps k
      rw [kls_app, kls_one, h4, h6] at h2
      simp only [List.length_append, List.length_cons, List.length_nil] at h2
      have h5 : (adv s).nx = s.nx + 1 := rfl
      rw [h5] at l1
      omega
    · injection e with e
      injection e with e1 e2
      subst e1 e2
      exact Nat.le_refl _
theorem row_l {g g1 : Gr} {one : PS → PRes Int} {m : List UInt8} {kd : Int} (h : Vg g1 one) (hs : Sn one) (l : Lg T g1 one) (hm2 : m.length = 2) (hk : (kd = 4 ∧ g1 = .unit ∧ g = .conj) ∨ (kd = 5 ∧ g1 = .conj ∧ g = .expr)) : Lg T g (rowP T one kd m) := by
  intro s k s' ht hn e
  unfold rowP at e
  obtain ⟨k0, s1, e1, e⟩ := bnd_inv e
  obtain ⟨ks, s2, e2, e⟩ := bnd_inv e
  obtain ⟨y, v⟩ := h s k0 s1 ht hn e1
  have l1 := l s k0 s1 ht hn e1
  have n1 := hs _ _ _ e1
  have hk1 : (kd = 4 ∧ g1 = .unit) ∨ (kd = 5 ∧ g1 = .conj) := by
    rcases hk with ⟨a, b, _⟩ | ⟨a, b, _⟩
    · exact Or.inl ⟨a, b⟩
    · exact Or.inr ⟨a, b⟩
  have hcl : ∀ q, clG g1 q → clsB kd q = true ∧ (s.ns : Int) + btw kd q ≤ (s.ns : Int) + (exG g1 q : Int) := fun q hq => by
    rcases hk with ⟨rfl, rfl, _⟩ | ⟨rfl, rfl, _⟩
    · have hq : 1 ≤ q ∧ q ≤ 10 := hq
      exact ⟨by simp [clsB] <;> omega, by rw [br_unit.2.1]; exact Int.le_refl _⟩
    · have hq : 1 ≤ q ∧ q ≤ 10 := hq
      exact ⟨by simp [clsB] <;> omega, by rw [br_unit.2.2]; exact Int.le_refl _⟩
  obtain ⟨⟨Q2, hQ2⟩, t2, k2, hl⟩ := rows_v h hs hn hcl 4097 v.tb n1 (kd_one v hcl) e2
  have w2 := rows_l h hs l hn hm2 hk1 hcl 4097 v.tb n1 (kd_one v hcl) e2
  split at e
  · rename_i h1
    injection e with e
    injection e with ea eb
    subst ea
    subst eb
    rcases hl with ⟨_, rfl⟩ | hl
    · have : exG g (pt s2.ps k0.toNat).kind ≤ exG g1 (pt s2.ps k0.toNat).kind := by
        rcases hk with ⟨rfl, rfl, rfl⟩ | ⟨rfl, rfl, rfl⟩
        · show (if (pt s2.ps k0.toNat).kind = 5 then 1 else 0) ≤ (if (pt s2.ps k0.toNat).kind = 4 ∨ (pt s2.ps k0.toNat).kind = 5 then 1 else 0)
          split <;> split <;> omega
        · exact Nat.zero_le _
      omega
    · rw [h1] at hl
      simp at hl
  · rename_i h1
    refine put_l (g := g) e t2 (fun x hx => k2.lt hx) (by rcases hk with ⟨rfl, _, rfl⟩ | ⟨rfl, _, rfl⟩ <;> rfl) fun L hL => ?_
    have hL : L.map List.length = ks.map (klen s2.ps kd) := hL
    have hll : L.length = ks.length := by have := congrArg List.length hL; simpa using this
    have hle : Lib.lens L = kls s2.ps kd ks := by rw [lens_map, hL]; rfl
    rw [kls_one, kd_br hk1] at w2
    have hlen : 2 ≤ ks.length := by
      rcases hl with ⟨rfl, _⟩ | hl
      · exact absurd rfl h1
      · simp at hl; omega
    have h9 : (txK kd (quoteL (ByteArray.mk #[]).data.toList) 0 L).length ≤ Lib.lens L + 4 * (L.length - 1) := by
      rcases hk with ⟨rfl, _⟩ | ⟨rfl, _⟩
      · have hj := join_len L [32, 38, 38, 32]
        show (Lib.join L [32, 38, 38, 32]).length ≤ _
        simp only [List.length_cons, List.length_nil] at hj
        omega
      · have hj := join_len L [32, 124, 124, 32]
        show (Lib.join L [32, 124, 124, 32]).length ≤ _
        simp only [List.length_cons, List.length_nil] at hj
        omega
    show Ws T s.nx + (txK kd (quoteL (ByteArray.mk #[]).data.toList) 0 L).length ≤ Ws T s2.nx
    simp only [List.length_cons, List.length_nil] at w2
    omega
theorem atom_l (hT : Txt T) {ex te : PS → PRes Int} (h1 : Vg .expr ex) (h2 : Vg .term te) (hs : Sn te) (l1 : Lg T .expr ex) (l2 : Lg T .term te) : Lg T .unit (atomP T ex te) := by
  intro s k s' ht hn e
  unfold atomP at e
  split at e
  · rename_i h3
    split at e
    · rename_i hm
      exact const_l (Or.inl rfl) s k s' ht (by rw [cw_mark (Or.inr h3) hm]; decide) e
    · split at e
      · rename_i hm
        exact const_l (Or.inr rfl) s k s' ht (by rw [cw_mark (Or.inr h3) hm]; decide) e
      · split at e
        · rename_i hm
          exact sel_l h1 l1 (Or.inl ⟨rfl, rfl⟩) s k s' ht hn (by rw [cw_mark (Or.inr h3) hm]; decide) e
        · split at e
          · rename_i hm
            exact sel_l h1 l1 (Or.inr (Or.inl ⟨rfl, rfl⟩)) s k s' ht hn (by rw [cw_mark (Or.inr h3) hm]; decide) e
          · split at e
            · rename_i hm
              exact tol_l s k s' ht (by rw [cw_mark (Or.inr h3) hm]; decide) e
            · exact comp_l h2 hs l2 s k s' ht hn e
  · exact comp_l h2 hs l2 s k s' ht hn e
theorem word_l (hT : Txt T) {ex te : PS → PRes Int} (h1 : Vg .expr ex) (h2 : Vg .term te) (l1 : Lg T .expr ex) (l2 : Lg T .term te) : ∀ s k s', Tb s.ps → s.ns ≤ 32 → (tk T s.nx).kind = 3 → wordP T ex te s = .ok (k, s') → Ws T s.nx + tl s'.ps k.toNat + 2 * exG .term (pt s'.ps k.toNat).kind ≤ Ws T s'.nx := by
  intro s k s' ht hn h3 e
  unfold wordP at e
  split at e
  · rename_i hm
    exact who_l s k s' ht (by rw [cw_mark (Or.inr h3) hm]; decide) e
  · split at e
    · rename_i hm
      exact who_l s k s' ht (by rw [cw_mark (Or.inr h3) hm]; decide) e
    · split at e
      · rename_i hm
        exact who_l s k s' ht (by rw [cw_mark (Or.inr h3) hm]; decide) e
      · split at e
        · exact int_l h2 l2 s k s' ht hn e
        · split at e
          · rename_i hm
            exact sel_l h1 l1 (Or.inr (Or.inr ⟨rfl, rfl⟩)) s k s' ht hn (by rw [cw_mark (Or.inr h3) hm]; decide) e
          · cases e
theorem gr_l (hT : Txt T) (hN : Nmt T) : ∀ (n : Nat) (g : Gr), Lg T g (gr T n g)
  | 0, g => fun s k s' _ _ e => by cases g <;> cases e
  | n + 1, .expr => row_l (gr_v hT hN n .conj) (sn_gr n .conj) (gr_l hT hN n .conj) rfl (Or.inr ⟨rfl, rfl, rfl⟩)
  | n + 1, .conj => row_l (gr_v hT hN n .unit) (sn_gr n .unit) (gr_l hT hN n .unit) rfl (Or.inl ⟨rfl, rfl, rfl⟩)
  | n + 1, .unit => fun s k s' ht hn e => by
    have e : unitP T (gr T n .expr) (gr T n .unit) (gr T n .term) s = .ok (k, s') := e
    unfold unitP at e
    split at e
    · exact neg_l (gr_v hT hN n .unit) (gr_l hT hN n .unit) s k s' ht hn e
    · split at e
      · exact group_l (gr_l hT hN n .expr) s k s' ht hn e
      · exact atom_l hT (gr_v hT hN n .expr) (gr_v hT hN n .term) (sn_gr n .term) (gr_l hT hN n .expr) (gr_l hT hN n .term) s k s' ht hn e
  | n + 1, .term => fun s k s' ht hn e => by
    have e : termP T (gr T n .expr) (gr T n .term) s = .ok (k, s') := e
    unfold termP at e
    split at e
    · rename_i he
      exact el_l ht he e
    · split at e
      · exact set_l hT hN s k s' ht hn e
      · split at e
        · rename_i h3
          exact word_l hT (gr_v hT hN n .expr) (gr_v hT hN n .term) (gr_l hT hN n .expr) (gr_l hT hN n .term) s k s' ht hn h3 e
        · cases e
end
end Go.Proofs.YtlhlpamciafocaaGreatDoor.L
namespace Go.Proofs.YtlhlpamciafocaaGreatDoor.L
open Go.RowKit Go.Shelf
set_option linter.unusedVariables false
set_option linter.unusedSimpArgs false
theorem join_part {x : List UInt8} {l : List (List UInt8)} {sep : List UInt8} (h : x ∈ l) : x.length ≤ (Lib.join l sep).length := by
  have hs : ∀ (l : List (List UInt8)), x ∈ l → x.length ≤ Lib.lens l := by
    intro l
    induction l with
    | nil => intro h; cases h
    | cons y r ih =>
      intro h
      have e : Lib.lens (y :: r) = y.length + Lib.lens r := by simp [Lib.lens]
      rw [e]
      rcases List.mem_cons.1 h with rfl | h
      · omega
      · have := ih h; omega
  cases l with
  | nil => cases h
  | cons y r =>
    rw [Lib.join_length]
    have := hs _ h
    omega
/-- What stands in a part is no longer than the part. -/
theorem txK_part {k : Int} {q : List UInt8} {nu : Int} {ks : List (List UInt8)} {x : List UInt8} (hk : kidsB k ks.length = true) (h1 : 1 ≤ k) (h2 : k ≤ 20) (hx : x ∈ ks) : x.length ≤ (txK k q nu ks).length := by
  have hc : (k = 3 ∨ k = 8 ∨ k = 9 ∨ k = 19 ∨ k = 20) ∨ (k = 4 ∨ k = 5) ∨ (k = 6 ∨ k = 7) ∨ k = 13 ∨ (k = 1 ∨ k = 2 ∨ k = 10 ∨ k = 11 ∨ k = 12 ∨ k = 14 ∨ k = 15 ∨ k = 16 ∨ k = 17 ∨ k = 18) := by omega
  rcases hc with h | h | h | h | h
  · have hl : ks.length = 1 := by
      unfold kidsB at hk
      rw [if_pos h] at hk
      have := of_decide_eq_true hk
      omega
    obtain ⟨z, rfl⟩ : ∃ z, ks = [z] := List.length_eq_one_iff.1 hl
    have : x = z := by simpa using hx
    subst this
    rcases h with rfl | rfl | rfl | rfl | rfl <;> simp [txK] <;> omega
  · rcases h with rfl | rfl
    · exact join_part hx
    · exact join_part hx
  · have hl : ks.length = 2 := by
      unfold kidsB at hk
      rw [if_neg (by omega), if_neg (by omega), if_pos h] at hk
      have := of_decide_eq_true hk
      omega
    match ks, hl with
    | [a, b], _ =>
      have : x = a ∨ x = b := by simpa using hx
      rcases h with rfl | rfl <;> rcases this with rfl | rfl <;> simp [txK] <;> omega
  · subst h
    have := join_part (sep := [44, 32]) hx
    show x.length ≤ ([123] ++ (Lib.join ks [44, 32] ++ [125])).length
    simp only [List.length_append]
    omega
  · have hl : ks.length = 0 := by
      unfold kidsB at hk
      rw [if_neg (by omega), if_neg (by omega), if_neg (by omega), if_neg (by omega)] at hk
      have := of_decide_eq_true hk
      omega
    have : ks = [] := List.length_eq_zero_iff.1 hl
    rw [this] at hx
    cases hx
theorem kid_tl {P : List Pt} (hok : Ok0 P) {y x : Nat} (hy : y < P.length) (hx : (x : Int) ∈ (pt P y).kids) : tl P x ≤ tl P y := by
  have ho := hok y hy
  have hlt := ho.lt hx
  have hm : kidL P (txs P y) (pt P y).kind (x : Int) ∈ ksL P (txs P y) (pt P y) := List.mem_map.2 ⟨_, hx, rfl⟩
  have h1 := txK_part (q := quoteL (pt P y).text.data.toList) (nu := (pt P y).num) (k := (pt P y).kind) (ks := ksL P (txs P y) (pt P y)) (by
    have hl : (ksL P (txs P y) (pt P y)).length = (pt P y).kids.length := by unfold ksL; simp
    rw [hl]
    exact ho.tab.1) ho.tab.2.1 ho.tab.2.2.1 hm
  rw [kidL_len (by omega)] at h1
  unfold klen at h1
  rw [Int.toNat_natCast] at h1
  exact Nat.le_trans (Nat.le_add_right _ _) h1
/-- THE TEXT OF A TREE THAT IS READ IS AT MOST FOUR TIMES AS LONG AS ITS SOURCE. -/
theorem read_len {src : ByteArray} {s : PS} (h : parR src = .ok s) : ((txs s.ps s.ps.length).getD (s.ps.length - 1) []).length ≤ 4 * src.size ∧ (¬ Shrt s.ps s.ps.length → 4096 < 4 * src.size) := by
  have R := either_ok h
  have V := valid_of h
  unfold parR at h
  cases hs : (scanT src).2 with
  | some q => obtain ⟨c, a⟩ := q; rw [hs] at h; cases h
  | none =>
    rw [hs] at h
    simp only at h
    cases hw : wholeP (scanT src).1 16392 with
    | error q => rw [hw] at h; cases h
    | ok q =>
      obtain ⟨u, s1⟩ := q
      rw [hw] at h
      simp only [Except.ok.injEq] at h
      subst h
      unfold wholeP at hw
      obtain ⟨k, s2, e1, e2⟩ := bnd_inv hw
      have g := fo_gr (scan_txt hs) _ _ _ _ _ _ (gs_zero _) e1
      obtain ⟨y, v⟩ := gr_v (scan_txt hs) (scan_nmt hs) 16392 .expr ⟨0, 0, [], []⟩ k s2 (fun j hj => absurd hj (Nat.not_lt_zero _)) (by decide) e1
      have L := gr_l (scan_txt hs) (scan_nmt hs) 16392 .expr ⟨0, 0, [], []⟩ k s2 (fun j hj => absurd hj (Nat.not_lt_zero _)) (by decide) e1
      split at e2
      · split at e2
        · cases e2
        · injection e2 with e2; injection e2 with _ e2; subst e2
          have hf := fre_last _ g.fr
          have hy : y = s2.ps.length - 1 := by have := v.eq; have := hf.1; omega
          have hsz : src.size ≤ 4096 := by
            apply Classical.byContradiction
            intro hn
            unfold scanT at hs
            rw [if_neg hn] at hs
            cases hs
          have hW : Ws (scanT src).1 s2.nx ≤ 4 * src.size := by
            have := ws_scan src _ 0 rfl (Nat.zero_le _) (by unfold scanT at hs; rw [if_pos hsz] at hs; exact hs) s2.nx
            unfold scanT
            rw [if_pos hsz]
            omega
          have hk : k.toNat = s2.ps.length - 1 := by have := v.eq; omega
          have hT : tl s2.ps (s2.ps.length - 1) ≤ 4 * src.size := by
            have : Ws (scanT src).1 0 + tl s2.ps k.toNat + 2 * exG .expr (pt s2.ps k.toNat).kind ≤ Ws (scanT src).1 s2.nx := L
            rw [hk] at this
            omega
          have hl1 := hf.2
          refine ⟨?_, fun hn => ?_⟩
          · rw [getD_txs s2.ps (show s2.ps.length - 1 < s2.ps.length by omega)]
            exact hT
          · apply Classical.byContradiction
            intro hlt
            apply hn
            have hok : Ok0 s2.ps := by
              rcases V with ⟨_, h, _⟩ | ⟨_, h, _⟩ | ⟨_, _, ⟨_, h⟩ | ⟨_, _, h, _⟩ | ⟨h, _⟩⟩
              · omega
              · omega
              · omega
              · omega
              · exact h
            have hc := chn_fre hok s2.ps.length (Nat.le_refl _)
            rw [g.fr] at hc
            have hall := chn_all (D := fun y => y < s2.ps.length ∧ tl s2.ps y ≤ 4096) (fun y hD x hx => by
              have hlt := (hok y hD.1).lt hx
              exact ⟨by have := hD.1; omega, Nat.le_trans (kid_tl hok hD.1 hx) hD.2⟩) hc (fun x hx => by
              have hx : (x : Int) = k := by simpa using hx
              have e : x = s2.ps.length - 1 := by omega
              rw [e]
              exact ⟨by omega, by omega⟩)
            intro j hj
            rw [getD_txs s2.ps hj]
            exact (hall j (Nat.zero_le _) hj).2
      · cases e2
end Go.Proofs.YtlhlpamciafocaaGreatDoor.L
namespace Go.Proofs.YtlhlpamciafocaaGreatDoor.L
open Go.RowKit
set_option linter.unusedVariables false
set_option linter.unusedSimpArgs false
theorem par_ok {src : ByteArray} {W1 W2 : World} {e : Ending} {s : PS} (hp : parR src = .ok s) (h : PaR src W1 e W2) : ∃ va vc oa oc, e = .returned (.tuple #[.agg #[.slice va s.ps.length vc], .slice oa s.os.length oc, .nilIface]) ∧ PLs W2 va s.ps ∧ RdI W2 oa s.os := by
  unfold PaR at h
  rw [hp] at h
  obtain ⟨pb, B, Nb, tv, T, v, o, ks, hB, rfl, pm⟩ := h
  obtain ⟨a, c, e1, h1⟩ := pm.parts.pl
  obtain ⟨a2, c2, e2, h2⟩ := own_rdi pm.offs
  exact ⟨a, c, a2, c2, by rw [e1, e2], h1, h2⟩
theorem par_bad {src : ByteArray} {W1 W2 : World} {e : Ending} {c : Nat} {x : Int} (hp : parR src = .error (c, x)) (h : PaR src W1 e W2) : ∃ N, e = .returned (.tuple #[.agg #[.slice none 0 0], .slice none 0 0, fv N]) ∧ Fli W2 N c x := by
  unfold PaR at h
  rw [hp] at h
  exact h
theorem shrt0 : Shrt Sw.T0 Sw.T0.length := by
  intro j hj
  match j, hj with
  | 0, _ => decide +kernel
  | 1, _ => decide +kernel
def nt : ByteArray := ⟨#[33, 116, 114, 117, 101]⟩
theorem nt_text : S ((txs Sw.T0 Sw.T0.length).getD (Sw.T0.length - 1) []) = nt := by kernel_rfl
theorem nt_par : ∃ s, parR nt = .ok s ∧ s.ps = Sw.T0 ∧ s.os.length = 2 := by
  obtain ⟨s, h1, h2⟩ := reads_res Sw.res0 shrt0
  rw [nt_text] at h1
  refine ⟨s, h1, h2, ?_⟩
  have := (either_ok h1).len
  rw [this, h2]
  rfl
end Go.Proofs.YtlhlpamciafocaaGreatDoor.L
namespace Go.Proofs.YtlhlpamciafocaaGreatDoor.L
open Go.RowKit
set_option linter.unusedVariables false
set_option linter.unusedSimpArgs false
set_option maxHeartbeats 4000000 in
set_option maxRecDepth 100000 in
theorem reads_any (w : World) (hv : Vars w) (ht : Sw.TabW w) : Calls Tryz.prog 15 #[] w fun e w' => e = .returned (.bool true) ∧ Below w.heap.size w w' := by
  have HV := hid hv
  have HT := hid ht
  clear hv ht
  obtain ⟨s, hs, hps, hos⟩ := nt_par
  have HS := hid hs
  clear hs
  go_enter Tryz.func15, Tryz.ntmps15
  go_wp2_with fail
  refine (parse_any nt w HV.out).mono ?_
  rintro e W1 ⟨hp, l1⟩
  obtain ⟨va, vc, oa, oc, rfl, hpl, hro⟩ := par_ok HS.out hp
  rw [hps] at hpl ⊢
  rw [hos]
  clear hp hro hos hps
  have HP := hid hpl.pl
  have HL1 := hid l1
  clear hpl l1
  go_upto_region 2 with fail
  have HB2 := hid (belowA W1 (.cells #[.slice va 2 vc] 24))
  have HX2 := hid (heap_alloc_new W1 (.cells #[.slice va 2 vc] 24))
  have HP2 := hid (HP.out.low HB2.out)
  have HL2 := hid (bch HL1.out HB2.out)
  generalize W1.alloc (.cells #[.slice va 2 vc] 24) = W2 at *
  generalize W1.heap.size = t1 at *
  have ct : W2.cell? ⟨t1, 0, none⟩ = some (.slice va 2 vc) := cell_of_row _ _ 0 _ _ _ HX2.out
  rcases HP2.out with h0 | ⟨g, off, rfl, hg, hc⟩
  · cases h0
  obtain ⟨ka, kc, c0, -⟩ := hc 0 (by decide)
  obtain ⟨la, lc, c4, -⟩ := hc 1 (by decide)
  have c0 : W2.cell? ⟨g, off + 0 * 4, none⟩ = some (.int .i64 1) := c0
  have c4 : W2.cell? ⟨g, off + 1 * 4, none⟩ = some (.int .i64 3) := c4
  clear hc
  simp only [Nat.zero_mul, Nat.one_mul, Nat.add_zero] at c0 c4
  go_wp2_with fail
  refine (Sw.text_any (some ⟨g, off, none⟩) Sw.T0 vc W2 HP2.out Sw.gd0 (HT.out.low HL2.out)).mono ?_
  rintro e W3 ⟨s3, ev, rfl, l3, hx⟩
  have HL3 := hid (bch HL2.out l3)
  clear l3
  rcases hx with ⟨he, hne, -⟩ | ⟨-, -, rfl, rfl⟩ | ⟨-, hn, -⟩
  · exact absurd (Sw.err0 he) hne
  · rw [nt_text]
    unfold nt
    go_wp2_with fail
    go_ret
    exact ⟨rfl, HL3.out⟩
  · exact absurd shrt0 hn
end Go.Proofs.YtlhlpamciafocaaGreatDoor.L
