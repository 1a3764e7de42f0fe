import Derived.Test.YtcldglilhhhdoaaGreatDoorMgAF
import Derived.Test.YtcldglilhhhdoaaGreatDoorMgAC
import Derived.WideShapes
namespace Go.Proofs.YtcldglilhhhdoaaGreatDoor.L
open Go.RowKit
set_option linter.unusedVariables false
theorem cells7 {W : World} {N : Nat} {a b c d e f g : Value} {ty : TypeId} (h : W.heap[N]? = some (.cells #[a, b, c, d, e, f, g] ty (0, 0))) : W.cell? ⟨N, 0, none⟩ = some a ∧ W.cell? ⟨N, 1, none⟩ = some b ∧ W.cell? ⟨N, 2, none⟩ = some c ∧ W.cell? ⟨N, 3, none⟩ = some d ∧ W.cell? ⟨N, 4, none⟩ = some e ∧ W.cell? ⟨N, 5, none⟩ = some f ∧ W.cell? ⟨N, 6, none⟩ = some g := by
  refine ⟨?_, ?_, ?_, ?_, ?_, ?_, ?_⟩ <;> (unfold World.cell?; rw [h]; rfl)
theorem cells4 {W : World} {N : Nat} {a b c d : Value} {ty : TypeId} (h : W.heap[N]? = some (.cells #[a, b, c, d] ty (0, 0))) : W.cell? ⟨N, 0, none⟩ = some a ∧ W.cell? ⟨N, 1, none⟩ = some b ∧ W.cell? ⟨N, 2, none⟩ = some c ∧ W.cell? ⟨N, 3, none⟩ = some d := by
  refine ⟨?_, ?_, ?_, ?_⟩ <;> (unfold World.cell?; rw [h]; rfl)
end Go.Proofs.YtcldglilhhhdoaaGreatDoor.L
namespace Go.Proofs.YtcldglilhhhdoaaGreatDoor.L
open Go.RowKit
set_option linter.unusedVariables false
theorem RdI.drew {w : World} {a : Option Addr} {zs : List Int} (h : RdI w a zs) (n : Nat) : RdI (w.drewN n) a zs := h
/-- What barred answers. -/
def BarR (T : List Pt) (i : Int) : Prop := (∃ j : Nat, i = j ∧ Bar T j) ∨ (i = ((T.length - 1 : Nat) : Int) ∧ Ok0 T ∧ Lst T) ∨ (i = -1 ∧ Ok0 T ∧ ¬ Lst T)
theorem ok_iff {T : List Pt} {k : Nat} (hk : k < 1000) : OkA T k ↔ (pt T k).kids.length ≤ (fre T k).length ∧ (pt T k).kids = (fre T k).drop ((fre T k).length - (pt T k).kids.length) ∧ tabP T (pt T k) := by
  constructor
  · intro h
    have h1 := h.many
    have h2 := fre_len T k
    exact ⟨h.many, h.kids, (tab_iff T _ (by omega)).2 h.tab⟩
  · rintro ⟨h1, h2, h3⟩
    have h4 := fre_len T k
    exact ⟨h1, h2, (tab_iff T _ (by omega)).1 h3⟩
set_option maxRecDepth 100000 in
theorem tail_nil (W : World) : (Instr.slice 26 (.slice none 0 0) (some (.int .i64 ((0 : Nat) : Int))) none none).run Tryz.prog W = .ok (.slice none 0 0) W := by kernel_rfl
set_option maxRecDepth 100000 in
/-- The end of an own row, from place h on. -/
theorem tail_run {w : World} {base : Nat} {va : Option Addr} {m vc h n : Nat} {zs : List Int} (o : OwnI w base (.slice va m vc) zs) (hz : m = zs.length) (hm : m = h + n) : ∃ x c', (∀ W, (Instr.slice 26 (.slice va m vc) (some (.int .i64 (h : Int))) none none).run Tryz.prog W = .ok (.slice x n c') W) ∧ ∀ W, Below w.heap.size w W → RdI W x (zs.drop h) := by
  rcases o.2 with ⟨e, n0⟩ | ⟨g, cap, cur, e, hb, hg, h3, h4, h5, h6⟩
  · injection e with e1 e2 e3
    subst e1 e3
    have h0 : h = 0 := by omega
    have nn : n = 0 := by omega
    have mm : m = 0 := by omega
    subst h0 nn mm
    exact ⟨none, 0, tail_nil, fun W _ => .inl (by rw [List.length_drop]; omega)⟩
  · injection e with e1 e2 e3
    subst e1 e3
    have k1 : (h : Int) ≤ (m : Int) := by omega
    refine ⟨if vc = h then some ⟨g, 0, none⟩ else some ⟨g, h, none⟩, vc - h, fun W => ?_, fun W hW => ?_⟩
    · have e1 : m - h = n := by omega
      have k2 : (0 : Int) ≤ (h : Int) := by omega
      have k3 : (m : Int) ≤ (vc : Int) := by omega
      clear hm hz e2
      go_simp
    · by_cases e : vc = h
      · exact .inl (by rw [List.length_drop]; omega)
      · rw [if_neg e]
        rw [hz] at o
        rcases (own_rd (own_low o hW) h (by omega)).2 with z | ⟨g', eg, _, _, _, _, r⟩
        · exact .inl (by rw [List.length_drop]; omega)
        · cases eg
          exact r
set_option maxRecDepth 100000 in
theorem head_nil (W : World) : (Instr.slice 26 (.slice none 0 0) none (some (.int .i64 ((0 : Nat) : Int))) none).run Tryz.prog W = .ok (.slice none 0 0) W := by kernel_rfl
set_option maxRecDepth 100000 in
theorem head_run {w : World} {base : Nat} {va : Option Addr} {m vc h : Nat} {zs : List Int} (o : OwnI w base (.slice va m vc) zs) (hz : m = zs.length) (hm : h ≤ m) : ∀ W, (Instr.slice 26 (.slice va m vc) none (some (.int .i64 (h : Int))) none).run Tryz.prog W = .ok (.slice va h vc) W := by
  rcases o.2 with ⟨e, n0⟩ | ⟨g, cap, cur, e, hb, hg, h3, h4, h5, h6⟩
  · injection e with e1 e2 e3
    subst e1 e3
    have h0 : h = 0 := by omega
    have mm : m = 0 := by omega
    subst h0 mm
    exact head_nil
  · injection e with e1 e2 e3
    subst e1 e3
    intro W
    have k1 : (h : Int) ≤ (vc : Int) := by omega
    have k2 : (0 : Int) ≤ (h : Int) := by omega
    clear hm hz e2
    go_simp
end Go.Proofs.YtcldglilhhhdoaaGreatDoor.L
namespace Go.Proofs.YtcldglilhhhdoaaGreatDoor.L
open Go.RowKit
set_option linter.unusedVariables false
theorem cell_nq {W W6 : World} {n : Nat} {a : Addr} {v : Option Value} (h : W.cell? a = v) (e : W6 = W.drewN n) : W6.cell? a = v := by rw [e]; exact h
/-- What the document asks of a part with these parts free ahead of it. -/
def PartD (T : List Pt) (p : Pt) (fr : List Int) : Prop := p.kids.length ≤ fr.length ∧ p.kids = fr.drop (fr.length - p.kids.length) ∧ tabD T p
theorem getD_mem {l : List Int} {k : Nat} (h : k < l.length) : l.getD k 0 ∈ l := by
  rw [List.getD_eq_getElem?_getD, List.getElem?_eq_getElem h]
  exact List.getElem_mem h
theorem drop_getD (l : List Int) (h k : Nat) : (l.drop h).getD k 0 = l.getD (h + k) 0 := by
  rw [List.getD_eq_getElem?_getD, List.getD_eq_getElem?_getD, List.getElem?_drop]
theorem eq_of_getD {A B : List Int} (hl : A.length = B.length) (h : ∀ j, j < A.length → A.getD j 0 = B.getD j 0) : A = B := by
  refine List.ext_getElem hl fun j h1 h2 => ?_
  have := h j h1
  rw [List.getD_eq_getElem?_getD, List.getD_eq_getElem?_getD, List.getElem?_eq_getElem h1, List.getElem?_eq_getElem h2] at this
  exact this
end Go.Proofs.YtcldglilhhhdoaaGreatDoor.L
namespace Go.Proofs.YtcldglilhhhdoaaGreatDoor.L
open Go.RowKit
set_option linter.unusedVariables false
theorem append_src {w : World} {ops : Array Oper} {rest : List Oper} {o : Oper} {a : Act} {Q : Exit → Act → World → Prop} (hgd : o.guard = none) (s x : Operand)
    (ho : o.op = .call { callee := .builtin .append, args := #[s, x], argTypes := #[26, 26] })
    (base : Nat) (v : Value) (zs : List Int) (hs : a.eval s = v) (hown : OwnI w base v zs) (xa : Option Addr) (n xc : Nat) (ys : List Int) (hn : n = ys.length) (hx : a.eval x = .slice xa n xc) (hno : xa = none → xc = 0) (hsrc : RdI w xa ys) (hbound : zs.length + ys.length ≤ 17592186044000) (hbase : base ≤ w.heap.size)
    (h : ∀ v'' w', OwnI w' base v'' (zs ++ ys) → w.grownBy w' v.ownBlock → wpList Tryz.prog ops Q rest (a.put o.dst v'') w') : wpList Tryz.prog ops Q (o :: rest) a w := by
  obtain ⟨i0, hi, hz0, hz1, hz2⟩ := info_parts info3
  subst hn
  cases xa with
  | none =>
    have hl : ys.length = 0 := by
      rcases hsrc with h | ⟨b, off, e, _⟩
      · exact h
      · cases e
    have he : ys = [] := List.length_eq_zero_iff.1 hl
    subst he
    rw [hno rfl] at hx
    refine wpList_append_own_none hgd s x 26 ho base 3 i0 1 Tryz.underlying26 hi v _ _ hs hown hx ?_
    exact h v w (by rw [List.append_nil]; exact hown) ⟨rfl, rfl, rfl, Nat.le_refl _, fun _ _ _ => rfl⟩
  | some ad =>
    refine wpList_append_own w hgd s x 26 ho base 3 i0 (.int .i64 0) 1 8 Tryz.underlying26 hi hz0 hz1 hz2 rfl (by decide) v _ _ hs hown ad ys.length xc (ys.map (Value.int .i64)) hx (by simp) ?_ (by intro u hu; simp at hu; obtain ⟨z, _, rfl⟩ := hu; rfl) (by unfold maxLen; omega) (by omega) hbase ?_
    · intro j u hu
      rw [List.getElem?_map] at hu
      by_cases hj : j < ys.length
      · rw [List.getElem?_eq_getElem hj] at hu
        cases hu
        rcases hsrc with h0 | ⟨b, off, e, hb, hc⟩
        · omega
        · cases e
          have := hc j hj
          rw [List.getD_eq_getElem?_getD, List.getElem?_eq_getElem hj] at this
          rw [Go.WideShapes.add_plain]
          exact this
      · rw [List.getElem?_eq_none (by omega)] at hu
        cases hu
    · intro v'' w' ho' hg _
      refine h v'' w' ?_ hg
      unfold OwnI
      rw [List.length_append, List.map_append]
      exact ho'
theorem own_rdI {w : World} {base : Nat} {a : Option Addr} {n cap : Nat} {zs : List Int} (h : OwnI w base (.slice a n cap) zs) : n = zs.length ∧ RdI w a zs ∧ (a = none → cap = 0) := by
  rcases h.2 with ⟨e, n0⟩ | ⟨g, cap', cur, e, hb, hg, h3, h4, h5, h6⟩
  · injection e with e1 e2 e3
    exact ⟨by omega, .inl n0, fun _ => e3⟩
  · obtain ⟨h1, h2⟩ := own_rd h 0 (Nat.zero_le _)
    injection e with e1 e2 e3
    subst e1
    refine ⟨h1, ?_, fun e => by cases e⟩
    rcases h2 with h2 | ⟨g', e', _, _, _, _, r⟩
    · exact .inl h2
    · cases e'
      exact r
theorem own_new0 (w : World) (base : Nat) (hb : base ≤ w.heap.size) : OwnI (w.alloc (.cells #[] 3)) base (.slice (some ⟨w.heap.size, 0, none⟩) 0 0) [] := World.ownsRow_made w #[] 0 hb (Nat.zero_le _) rfl
/-- What form answers. -/
def FrmR (T : List Pt) (c a : Int) : Prop :=
  (T.length = 0 ∧ c = 130 ∧ a = 0) ∨ (1000 < T.length ∧ c = 130 ∧ a = 1000) ∨
  (1 ≤ T.length ∧ T.length ≤ 1000 ∧ ((∃ i : Nat, a = i ∧ Bar T i ∧ c = 130) ∨ (Ok0 T ∧ Lst T ∧ c = 130 ∧ a = ((T.length - 1 : Nat) : Int)) ∨ (Ok0 T ∧ ¬ Lst T ∧ c = 0 ∧ a = 0)))
theorem okD_iff {T : List Pt} {k : Nat} : OkA T k ↔ PartD T (pt T k) (fre T k) := ⟨fun h => ⟨h.many, h.kids, h.tab⟩, fun h => ⟨h.1, h.2.1, h.2.2⟩⟩
end Go.Proofs.YtcldglilhhhdoaaGreatDoor.L
