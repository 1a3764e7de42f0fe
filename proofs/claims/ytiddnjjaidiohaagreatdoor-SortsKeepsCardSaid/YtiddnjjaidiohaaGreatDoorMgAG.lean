import Derived.Test.YtiddnjjaidiohaaGreatDoorHA
import Derived.RangeFuncNested
import Derived.RangeFuncBound
import Derived.RangeFuncCalls
import Derived.RangeFuncLeaves
import Derived.Shelf.RegionOpen
import Derived.WalkKit
import Derived.WalkMore
import Derived.OwnWalkIn
import Derived.TacticsInMore
import Derived.LoopNIn
import Derived.LoopIn
import Derived.Deep.Cut
namespace Go.Proofs.YtiddnjjaidiohaaGreatDoor.L
open Go.RowKit
set_option linter.unusedVariables false
theorem inn_sm {T : List Pt} {L i : Nat} : ∀ (ks n : List Int), (∀ x, x ∈ ks → 0 ≤ x ∧ x < i) → i < n.length → Sm L n → Sm L (inn T i ks n)
  | [], n, _, _, h => h
  | x :: ks, n, hx, hi, h => by
    rw [inn_cons]
    have h0 := hx x (List.mem_cons_self ..)
    have hb := btw_le (pt T i).kind (pt T x.toNat).kind
    have hi0 := h i hi
    exact inn_sm ks _ (fun y hy => hx y (List.mem_cons_of_mem _ hy)) (by rw [List.length_set]; exact hi) (h.set hi (by omega) (by omega))
theorem nsts_sm {T : List Pt} {L : Nat} : ∀ (i : Nat) (n : List Int), i ≤ n.length → (∀ j, j < i → OkA T j) → Sm L n → Sm L (nsts T i n)
  | 0, n, _, _, h => h
  | i + 1, n, hi, hok, h => by
    rw [nsts]
    exact nsts_sm i _ (by rw [inn_len]; omega) (fun j hj => hok j (by omega)) (inn_sm _ _ (fun x hx => (hok i (by omega)).lt hx) (by omega) h)
theorem nests_sm {T : List Pt} (hok : Ok0 T) : Sm T.length (nests T) := by
  unfold nests
  refine nsts_sm _ _ (by simp) hok (fun j hj => ?_)
  have : (List.replicate T.length (0 : Int)).getD j 0 = 0 := by
    rw [List.getD_eq_getElem?_getD]
    by_cases h : j < T.length
    · simp [h]
    · simp [h]
  rw [this]
  rw [List.length_replicate] at hj
  omega
/-- The greatest nest. -/
def NestR (T : List Pt) (v : Int) : Prop := (∀ j, j < T.length → (nests T).getD j 0 ≤ v) ∧ ∃ j, j < T.length ∧ (nests T).getD j 0 = v
theorem NestR.one {T : List Pt} {u v : Int} (h : NestR T u) (k : NestR T v) : u = v := by
  obtain ⟨h1, i, hi, rfl⟩ := h
  obtain ⟨k1, j, hj, rfl⟩ := k
  have a := h1 j hj
  have b := k1 i hi
  omega
theorem FrmR.res {T : List Pt} {c i : Int} (h : FrmR T c i) (h0 : c ≠ 0) : ∃ a : Nat, c = 130 ∧ i = a ∧ Res T 130 a := by
  rcases h with ⟨h1, rfl, rfl⟩ | ⟨h1, rfl, rfl⟩ | ⟨h1, h2, ⟨j, rfl, hb, rfl⟩ | ⟨ho, hl, rfl, rfl⟩ | ⟨ho, hl, rfl, rfl⟩⟩
  · exact ⟨0, rfl, rfl, .inl ⟨h1, rfl, rfl⟩⟩
  · exact ⟨1000, rfl, rfl, .inr (.inl ⟨h1, rfl, rfl⟩)⟩
  · exact ⟨j, rfl, rfl, .inr (.inr ⟨h1, h2, .inl ⟨hb, rfl⟩⟩)⟩
  · exact ⟨T.length - 1, rfl, rfl, .inr (.inr ⟨h1, h2, .inr (.inl ⟨ho, hl, rfl, rfl⟩)⟩)⟩
  · exact absurd rfl h0
theorem FrmR.ok {T : List Pt} {i : Int} (h : FrmR T 0 i) : 1 ≤ T.length ∧ T.length ≤ 1000 ∧ Ok0 T ∧ ¬ Lst T := by
  rcases h with ⟨h1, e, _⟩ | ⟨h1, e, _⟩ | ⟨h1, h2, ⟨j, _, hb, e⟩ | ⟨ho, hl, e, _⟩ | ⟨ho, hl, _, _⟩⟩
  · cases e
  · cases e
  · cases e
  · cases e
  · exact ⟨h1, h2, ho, hl⟩
set_option maxHeartbeats 16000000 in
set_option maxRecDepth 100000 in
theorem rvalid_any (a : Option Addr) (T : List Pt) (cap : Nat) (w : World) (hT : PL w a T) (hG : GdT T) :
    Calls Tryz.prog 22 #[.agg #[.slice a T.length cap]] w fun e w' => ∃ c i : Nat, e = .returned (.tuple #[.int .i64 (c : Int), .int .i64 (i : Int)]) ∧ Res T c i ∧ Below w.heap.size w w' := by
  obtain ⟨L, hLe⟩ : ∃ L, L = T.length := ⟨_, rfl⟩
  have HT := hid hT
  have HL := hid hLe
  have HX0 := hid (Boxed.new w 26 (.slice a L cap))
  have HB0 := hid (belowA w (.cells #[.slice a L cap] 26))
  have HF := rform_any a T cap (w.alloc (.cells #[.slice a L cap] 26)) (hT.low HB0.out) hG
  have HNE := fun W hW h1 hL ok => rnests_any a T cap W (hT.low hW) h1 hL ok
  rw [← hLe] at HF HNE ⊢
  have HF2 := hid HF
  have HN2 := hid HNE
  clear hT hG hLe HF HNE
  go_enter Tryz.func22, Tryz.ntmps22
  go_upto_region 2 with (go_at_call 28; refine HF2.out.mono ?_; rintro e w1 ⟨c, i, rfl, hf, l1⟩; have L1 := hid l1; have HFR := hid hf; clear l1 hf)
  have B1 := hid (HB0.out.trans (L1.out.mono HB0.out.size))
  by_cases hc : c = 0
  · subst hc
    obtain ⟨h1, hL, ho, hl⟩ := HFR.out.ok
    have HOK := hid ho
    have HLS := hid hl
    have hL1 : L ≤ 1000 := by rw [HL.out]; exact hL
    have hL2 : 1 ≤ L := by rw [HL.out]; exact h1
    have xt := (show Boxed w1 w.heap.size 26 (.slice a L cap) from (L1.out.block _ HX0.out.lt).trans HX0.out).cell
    have HN3 := hid (HN2.out w1 B1.out hL2 hL1 ho)
    clear ho hl h1 hL HN2
    go_wp2_with (go_at_call 29; refine HN3.out.mono ?_; rintro e w2 ⟨v, rfl, o2, l2⟩; have L2 := hid l2; obtain ⟨va, vc, rfl⟩ := own_form o2; have O2 := hid o2; clear l2 o2)
    have HNL := hid (show (nests T).length = L by rw [nests_len, HL.out])
    rw [HNL.out] at O2 ⊢
    have B2 := hid (B1.out.trans (L2.out.mono B1.out.size))
    go_loopw [7] (fun i wr => ∃ k : Nat, k ≤ L ∧ i = .int .i64 k ∧ Hid (wr = w2) ∧ Hid (∀ j, j < k → (nests T).getD j 0 ≤ 32)) (fun i _ => L - (intOf i).toNat)
    case atStart => exact ⟨0, Nat.zero_le _, rfl, hid rfl, hid (fun j hj => by omega)⟩
    case round =>
      obtain ⟨k, hk, rfl, HW, HE⟩ := hrel
      obtain rfl := HW.out
      by_cases hlt : k < L
      · rcases (own_rdI O2.out).2.1 with h0 | ⟨b1, o1, rfl, hb1, hc1⟩
        · rw [HNL.out] at h0; omega
        have p0 := hc1 k (by rw [HNL.out]; exact hlt)
        obtain ⟨x, hx⟩ : ∃ x, x = (nests T).getD k 0 := ⟨_, rfl⟩
        rw [← hx] at p0
        have HX := hid hx
        clear hc1 hx
        have g1 : (k : Int) < (L : Int) := by omega
        have g2 : (0 : Int) ≤ (k : Int) := by omega
        by_cases hd : 32 < x
        · have d1 : decide (32 < x) = true := by simp; omega
          go_wp2_with fail
          (try simp only [Exit.inBlock, Exit.then])
          refine bodyPost_ret (results_tmp2 rfl _ _ _) rfl ⟨122, k, rfl, .inr (.inr ⟨by rw [← HL.out]; omega, by rw [← HL.out]; omega, .inr (.inr ⟨HOK.out, HLS.out, .inl ⟨⟨by rw [← HL.out]; exact hlt, by rw [← HX.out]; exact hd, HE.out⟩, rfl⟩⟩)⟩), B2.out⟩
        · have d1 : decide (32 < x) = false := by simp; omega
          go_wp2_with fail
          refine ⟨⟨k + 1, by omega, by go_num, hid (by first | trivial | rfl), hid (fun j hj => ?_)⟩, by simp [intOf]; omega⟩
          by_cases e : j = k
          · rw [e, ← HX.out]; omega
          · exact HE.out j (by omega)
      · obtain rfl : k = L := by omega
        go_wp2_with fail
        (try simp only [Exit.inBlock, Exit.then])
        refine bodyPost_ret (results_tmp2 rfl _ _ _) rfl ⟨0, 0, rfl, .inr (.inr ⟨by rw [← HL.out]; omega, by rw [← HL.out]; omega, .inr (.inr ⟨HOK.out, HLS.out, .inr ⟨fun j hj => HE.out j (by rw [HL.out]; exact hj), rfl, rfl⟩⟩)⟩), B2.out⟩
  · have e1 : (c != 0) = true := by simp [hc]
    obtain ⟨n, rfl, rfl, hr⟩ := HFR.out.res hc
    have HR := hid hr
    clear hr
    go_wp2_with fail
    (try simp only [Exit.inBlock, Exit.then])
    exact bodyPost_ret (results_tmp2 rfl _ _ _) rfl ⟨130, n, rfl, HR.out, B1.out⟩
theorem Res.ok {T : List Pt} {i : Nat} (h : Res T 0 i) : 1 ≤ T.length ∧ T.length ≤ 1000 ∧ Ok0 T ∧ i = 0 := by
  rcases h with ⟨_, e, _⟩ | ⟨_, e, _⟩ | ⟨h1, h2, ⟨_, e⟩ | ⟨_, _, e, _⟩ | ⟨ho, _, ⟨_, e⟩ | ⟨_, _, e⟩⟩⟩
  · cases e
  · cases e
  · cases e
  · cases e
  · cases e
  · exact ⟨h1, h2, ho, e⟩
end Go.Proofs.YtiddnjjaidiohaaGreatDoor.L
namespace Go.Proofs.YtiddnjjaidiohaaGreatDoor.L
open Go.RowKit Go.Shelf
set_option linter.unusedVariables false
attribute [local go_sem] Oper.semAt_some
/-- A block in which a loop keeps its books. -/
def isBk : Obj → Bool
  | .loop _ => true
  | .deferred _ => true
  | _ => false
/-- The books from base on lie as they lay. -/
structure Kb (base : Nat) (W W' : World) : Prop where
  size : W.heap.size ≤ W'.heap.size
  same : ∀ k o, base ≤ k → W.heap[k]? = some o → isBk o = true → W'.heap[k]? = some o
theorem Kb.trans {base : Nat} {A B C : World} (h : Kb base A B) (k : Kb base B C) : Kb base A C := ⟨Nat.le_trans h.size k.size, fun j o hj h1 h2 => k.same j o hj (h.same j o hj h1 h2) h2⟩
theorem Kb.refl (base : Nat) (A : World) : Kb base A A := ⟨Nat.le_refl _, fun _ _ _ h _ => h⟩
theorem Kb.low {base : Nat} {W W' : World} (h : Below W.heap.size W W') : Kb base W W' := ⟨h.size, fun k o _ h1 _ => (h.block k (lt_blk h1)).trans h1⟩
/-- All but the walk's own record lies as it lay. -/
structure Lk (l : Nat) (W W' : World) : Prop where
  os : W'.os = W.os
  tape : W'.tape = W.tape
  output : W'.output = W.output
  size : W.heap.size ≤ W'.heap.size
  block : ∀ k, k < W.heap.size → k ≠ l → W'.heap[k]? = W.heap[k]?
theorem boxed_put {W : World} {B : Nat} {t : TypeId} {v : Value} {l : Nat} {r : Loop} {o : Obj} (h : Boxed W B t v) (hl : W.heap[l]? = some (.loop r)) : Boxed (W.putObj l o) B t v := by
  unfold Boxed at h ⊢
  rw [World.putObj_heap_other (by intro e; rw [e, hl] at h; cases h)]
  exact h
theorem below_putL {W : World} {B l : Nat} {o : Obj} (hb : B ≤ l) : Below B W (W.putObj l o) :=
  ⟨rfl, rfl, rfl, by rw [World.putObj_size]; exact Nat.le_refl _, fun k hk => World.putObj_heap_other (by omega)⟩
theorem boxed_lk {W W' : World} {B : Nat} {t : TypeId} {v : Value} {l : Nat} (h : Boxed W B t v) (hk : Lk l W W') (hl : B ≠ l) : Boxed W' B t v := (hk.block B h.lt hl).trans h
theorem boxed_low {W W' : World} {B : Nat} {t : TypeId} {v : Value} (h : Boxed W B t v) (hk : Below W.heap.size W W') : Boxed W' B t v := (hk.block B h.lt).trans h
/-- A part as a value. -/
def ptv (p : Pt) (ka : Option Addr) (kc : Nat) : Value := .agg #[.int .i64 p.kind, .string p.text, .int .i64 p.num, .slice ka p.kids.length kc]
/-- Backward's func over the box X. -/
def backB (X : Nat) : Value := .func (.func 87) #[] #[.pointer (some ⟨X, 0, none⟩)]
set_option maxHeartbeats 2000000 in
theorem back_any (va : Option Addr) (vn vc : Nat) (w : World) : Calls Tryz.prog 69 #[.slice va vn vc] w fun e w' => e = .returned (backB w.heap.size) ∧ Boxed w' w.heap.size 24 (.slice va vn vc) ∧ Below w.heap.size w w' := by
  go_enter Tryz.func69, Tryz.ntmps69
  go_wp2_with fail
  go_ret
  exact ⟨rfl, Boxed.new w _ _, belowA w _⟩
set_option maxHeartbeats 4000000 in
set_option maxRecDepth 100000 in
theorem back_px (n : Nat) (hn : 1 ≤ n) (l X : Nat) (T : List Pt) (pa : Option Addr) (cap : Nat) (hL : T.length ≤ 1000) (h1 : 1 ≤ T.length) (J : Nat → World → Prop)
    (hJ : ∀ k W, J k W → PL W pa T ∧ W.cell? ⟨X, 0, none⟩ = some (.slice pa T.length cap))
    (hY : ∀ m i ka kc W, J (i + 1) W → i < T.length → RdI W ka (pt T i).kids → (∃ b off, pa = some ⟨b, off, none⟩ ∧ W.cell? ⟨b, off + i * 4 + 3, none⟩ = some (.slice ka (pt T i).kids.length kc)) → YieldAt Fence.wide m Tryz.prog l #[.int .i64 (i : Int), ptv (pt T i) ka kc] W fun e W' => e = .returned (.bool true) ∧ J i W')
    (W : World) (h0 : J T.length W) :
    CallsIn Fence.wide n Tryz.prog 87 #[.func (.yield l) #[] #[], .pointer (some ⟨X, 0, none⟩)] W fun e W' => (∃ v, e = .returned v) ∧ J 0 W' := by
  have HY := hid hY
  have HJ := hid hJ
  have H0 := hid h0
  obtain ⟨L, hLe⟩ : ∃ L, L = T.length := ⟨_, rfl⟩
  have HL := hid hLe
  have q0 := (hJ _ _ h0).2
  rw [← hLe] at hL h1 q0
  have HLI : ((L : Int) - 1) = ((L - 1 : Nat) : Int) := by omega
  clear hY hJ h0 hLe
  refine callsIn_wide.2 ?_
  go_enter Tryz.func87, Tryz.ntmps87
  go_wp2_with fail
  go_loopw [3] (fun i wr => ∃ k : Nat, k ≤ L ∧ i = .int .i64 ((k : Int) - 1) ∧ Hid (J k wr)) (fun i _ => (intOf i + 1).toNat)
  case atStart => exact ⟨L, Nat.le_refl _, by rw [HLI], by rw [HL.out]; exact H0⟩
  case round =>
    clear q0
    obtain ⟨k, hk, rfl, HK⟩ := hrel
    cases k with
    | zero =>
      rw [show (((0 : Nat) : Int) - 1) = -1 from rfl]
      go_wp2_with fail
      go_end0
      exact ⟨⟨_, rfl⟩, HK.out⟩
    | succ i =>
      have hki : (((i + 1 : Nat) : Int) - 1) = (i : Int) := by omega
      rw [hki]
      clear hki
      obtain ⟨r2, q0⟩ := HJ.out _ _ HK.out
      rw [← HL.out] at q0
      rcases r2 with h0 | ⟨b2, o2, rfl, hb2, hc2⟩
      · have := HL.out; omega
      obtain ⟨ka, kc, c0, c1, c2, c3, rk⟩ := hc2 i (by rw [← HL.out]; omega)
      obtain ⟨fn, tmps, assign, body, hy, hR⟩ := HY.out (n - 1) i ka kc wr HK.out (by rw [← HL.out]; omega) rk ⟨b2, o2, rfl, c3⟩
      have HR := hid hR
      unfold ptv at hy
      generalize (pt T i).kids.length = nk at *
      generalize (pt T i).kind = kd at *
      generalize (pt T i).text = tx at *
      generalize (pt T i).num = nu at *
      clear hc2 hR rk
      have g1 : (i : Int) < (L : Int) := by omega
      have g2 : (0 : Int) ≤ (i : Int) := by omega
      go_upto_region 3 with (fail)
      refine (wpIn_wide (n := n)).1 ?_
      gi_wp2
      refine HR.out.mono ?_
      rintro e W2 ⟨rfl, hJ2⟩
      have HJ2 := hid hJ2
      clear hJ2 HR hy c0 c1 c2 c3 q0
      gi_wp2
      go_wp2_with fail
      exact ⟨⟨i, by omega, by first | rfl | go_num, HJ2⟩, by simp only [intOf]; omega⟩
set_option maxHeartbeats 4000000 in
/-- A walk over Backward's func; its body runs to its end. -/
theorem backO {n : Nat} (hn : 2 ≤ n) {gf : Operand} {ps : Array Tmp} {assign body : Code} {Q : Exit → Act → World → Prop} {a : Act} {w : World} (X : Nat) (T : List Pt) (pa : Option Addr) (cap : Nat) (hL : T.length ≤ 1000) (h1 : 1 ≤ T.length)
    (hg : a.eval gf = backB X) (hps : ps.size = 2)
    (I : Nat → World → Prop) (hI : ∀ k W, I k W → PL W pa T ∧ W.cell? ⟨X, 0, none⟩ = some (.slice pa T.length cap)) (h0 : ∀ W', Below w.heap.size w W' → I T.length W')
    (hput : ∀ k W l r r', I k W → w.heap.size ≤ l → W.heap[l]? = some (.loop r) → I k (W.putObj l (.loop r')))
    (A : Nat → Value → Act → World → Prop) (hA : ∀ t v a' W l r r', A t v a' W → W.heap[l]? = some (.loop r) → A t v a' (W.putObj l (.loop r')))
    (hassign : ∀ m l i ka kc W K, w.heap.size ≤ W.heap.size → (∀ a' W', A i (ptv (pt T i) ka kc) a' W' → Below W.heap.size W W' → K a' W') → assign.wpIn (Fence.wide.inRound l) m Tryz.prog (Exit.then K (fun _ _ _ => False)) { tmps := (ps.zip #[.int .i64 (i : Int), ptv (pt T i) ka kc]).foldl (fun t (p, v) => t.setIfInBounds p v) a.tmps, defers := [] } W)
    (hbody : ∀ m l i ka kc a' W0 W, A i (ptv (pt T i) ka kc) a' W → w.heap.size ≤ l → (∃ r, W0.heap[l]? = some (.loop r)) → Lk l W0 W → I (i + 1) W0 → i < T.length → RdI W0 ka (pt T i).kids → (∃ b off, pa = some ⟨b, off, none⟩ ∧ W0.cell? ⟨b, off + i * 4 + 3, none⟩ = some (.slice ka (pt T i).kids.length kc)) → body.wpIn (Fence.wide.inRound l) m Tryz.prog (fun e _ W' => e = .normal ∧ Kb w.heap.size W W' ∧ I i W') a' W)
    (hdone : ∀ D W, w.heap.size ≤ D → I 0 W → W.heap[D]? = some (.deferred (some [])) → Q .normal { a with defers := { target := .collected D, args := #[] } :: a.defers } W) :
    (Code.rangeFunc gf ps assign body).wpIn Fence.wide n Tryz.prog Q a w := by
  refine wpIn_rangeFunc ?_
  intro fn hfn
  obtain ⟨rc, hrc⟩ : ∃ rc : LoopState → Option Code → Loop, rc = fun s p => { state := s, pending := p, fn, tmps := a.tmps, params := ps, assign, body, defers := w.heap.size } := ⟨_, rfl⟩
  obtain ⟨V, hV'⟩ : ∃ V, V = (w.alloc (.deferred (some []))).alloc (.loop (rc .ready none)) := ⟨_, rfl⟩
  have al : Below w.heap.size w V := by rw [hV']; exact ((Below.refl _ w).alloc (Nat.le_refl _) _).alloc (by simp) _
  have vd : V.heap[w.heap.size]? = some (.deferred (some [])) := by
    rw [hV']; exact (Below.heap_alloc _ _ _ (by simp)).trans (World.alloc_heap_new w _)
  have vl : V.heap[w.heap.size + 1]? = some (.loop (rc .ready none)) := by
    rw [hV']
    have := World.alloc_heap_new (w.alloc (.deferred (some []))) (.loop (rc .ready none))
    rwa [World.size_alloc] at this
  -- one round
  have ONE : ∀ m i ka kc (W : World) (RO : Ending → World → Prop), W.heap[w.heap.size + 1]? = some (.loop (rc .ready none)) → W.heap[w.heap.size]? = some (.deferred (some [])) →
      (∀ a' W2, A i (ptv (pt T i) ka kc) a' W2 → Lk (w.heap.size + 1) W W2 → body.wpIn (Fence.wide.inRound (w.heap.size + 1)) m Tryz.prog (fun e _ W' => Kb w.heap.size W2 W' ∧ e = .normal ∧ (W'.heap[w.heap.size + 1]? = some (.loop (rc .busy none)) → W'.heap[w.heap.size]? = some (.deferred (some [])) → RO (.returned (.bool true)) (W'.putObj (w.heap.size + 1) (.loop (rc .ready none))))) a' W2) →
      YieldAt Fence.wide m Tryz.prog (w.heap.size + 1) #[.int .i64 (i : Int), ptv (pt T i) ka kc] W RO := by
    intro m i ka kc W RO hL hD hbd
    have hy := run_yield (P := Tryz.prog) (args := #[.int .i64 (i : Int), ptv (pt T i) ka kc]) hL (by rw [hrc]; simp [hps])
    rw [hrc] at hy
    refine ⟨fn, _, assign, body, hy, roundIn_of_wpIn hfn (hassign m _ i ka kc W _ (by have := lt_blk hL; omega) ?_)⟩
    intro a' W1 ha' hW1
    have hltW := lt_blk hL
    have hDW := lt_blk hD
    replace hD := (hW1.block _ hDW).trans hD
    replace hL := (hW1.block _ hltW).trans hL
    have hlt := lt_blk hL
    refine ⟨_, run_beginRound hL (by rw [hrc]), ?_⟩
    have L2 : (W1.putObj (w.heap.size + 1) (.loop { rc .ready none with state := .busy })).heap[w.heap.size + 1]? = some (.loop { rc .ready none with state := .busy }) := World.putObj_heap_same hlt
    have D2 : (W1.putObj (w.heap.size + 1) (.loop { rc .ready none with state := .busy })).heap[w.heap.size]? = some (.deferred (some [])) := (World.putObj_heap_other (by omega)).trans hD
    have hlk : Lk (w.heap.size + 1) W (W1.putObj (w.heap.size + 1) (.loop { rc .ready none with state := .busy })) := by
      refine ⟨hW1.os, hW1.tape, hW1.output, by rw [World.putObj_size]; exact hW1.size, fun k hk hne => ?_⟩
      rw [World.putObj_heap_other hne, hW1.block k hk]
    refine wpIn_mono (hbd a' _ (hA _ _ _ _ _ _ _ ha' hL) hlk) ?_
    rintro e a3 W3 ⟨hk, rfl, hi3⟩
    have L3 := hk.same _ _ (by omega) L2 rfl
    have D3 := hk.same _ _ (Nat.le_refl _) D2 rfl
    have L3' : W3.heap[w.heap.size + 1]? = some (.loop (rc .busy none)) := by rw [L3, hrc]
    have hr := run_endRound (P := Tryz.prog) none L3'
    refine ⟨_, _, hr, ?_⟩
    have := hi3 L3' D3
    rw [hrc] at this ⊢
    exact this
  refine ⟨w.heap.size + 1, [{ target := .collected w.heap.size, args := #[] }], V, { target := .fn (.func 87) #[.pointer (some ⟨X, 0, none⟩)], args := #[.func (.yield (w.heap.size + 1)) #[] #[]] }, V, 87,
    #[.func (.yield (w.heap.size + 1)) #[] #[], .pointer (some ⟨X, 0, none⟩)], V, ?_, ?_, fun f' _ => trivial, ?_, fun _ => by omega, ?_⟩
  · rw [hV', hrc]
    exact run_enterLoop_outer _ _ _ _ _
  · simp only [resolve, hg, backB]
    simp [go_sem]
  · simp [invoke, go_sem]
  · refine (back_px (n - 1) (by omega) (w.heap.size + 1) X T pa cap hL h1
      (fun k W => I k W ∧ W.heap[w.heap.size + 1]? = some (.loop (rc .ready none)) ∧ W.heap[w.heap.size]? = some (.deferred (some [])))
      (fun k W h => hI k W h.1) ?_ V ⟨h0 _ al, vl, vd⟩).mono ?_
    · rintro m i ka kc W ⟨hi, hL, hD⟩ hil hrd hce
      refine ONE m i ka kc W _ hL hD ?_
      intro a' W2 hA2 hlk
      refine wpIn_mono (hbody m (w.heap.size + 1) i ka kc a' W W2 hA2 (by omega) ⟨_, hL⟩ hlk hi hil hrd hce) ?_
      rintro e a3 W' ⟨he, hk, hi'⟩
      exact ⟨hk, he, fun L3 D3 => ⟨rfl, hput _ _ _ _ _ hi' (by omega) L3, World.putObj_heap_same (lt_blk L3), (World.putObj_heap_other (by omega)).trans D3⟩⟩
    · rintro e W2 ⟨⟨v', rfl⟩, hi, hL, hD⟩
      have he := run_endLoop (P := Tryz.prog) hL (by rw [hrc]; simp)
      rw [hrc] at he
      exact ⟨none, _, he, hdone _ _ (Nat.le_refl _) (hput _ _ _ _ _ hi (by omega) hL) ((World.putObj_heap_other (by omega)).trans hD)⟩
end Go.Proofs.YtiddnjjaidiohaaGreatDoor.L
