import Derived.Test.YtfkijmmflpnncaaDoorSst
import Derived.WalkKit
import Derived.WalkSpells
import Derived.WalkLawsBesides
import Derived.Handy
import Derived.Deep.QuietTactic
import Derived.BigQuiet
import Derived.OwnWalk
import Derived.Laws.AppendOwnNone
import Derived.Laws.Rows
import Derived.Maps.OwnSet
import Derived.StringKeys
import Derived.Test.YtfkijmmflpnncaaDoorProg
namespace Go.Proofs.YtfkijmmflpnncaaDoor.L
open Go.RowKit Bs Go.Maps
set_option linter.unusedVariables false
theorem hid {p : Prop} (h : p) : Hid p := h
theorem bytes_toList (s : ByteArray) : s.toList = s.data.toList := ByteArray.toList_eq s
theorem bytes_ext {s t : ByteArray} (h : s.data.toList = t.data.toList) : s = t := by
  cases s; cases t
  simp at h
  rw [h]
theorem lt_of_block {w : World} {k : Nat} {o : Obj} (h : w.heap[k]? = some o) : k < w.heap.size := by
  apply Classical.byContradiction; intro c
  rw [Array.getElem?_eq_none (by omega)] at h; cases h
/-- Below B nothing has turned but in the blocks F. -/
structure Bx (F : List Nat) (B : Nat) (w w' : World) : Prop where
  os : w'.os = w.os
  tape : w'.tape = w.tape
  output : w'.output = w.output
  size : w.heap.size ≤ w'.heap.size
  block : ∀ k, k < B → k ∉ F → w'.heap[k]? = w.heap[k]?
theorem Bx.of {F : List Nat} {B : Nat} {w w' : World} (h : Below B w w') : Bx F B w w' := ⟨h.os, h.tape, h.output, h.size, fun k hk _ => h.block k hk⟩
theorem Bx.refl (F : List Nat) (B : Nat) (w : World) : Bx F B w w := ⟨rfl, rfl, rfl, Nat.le_refl _, fun _ _ _ => rfl⟩
theorem Bx.trans {F : List Nat} {B : Nat} {x y z : World} (h : Bx F B x y) (k : Bx F B y z) : Bx F B x z :=
  ⟨k.os.trans h.os, k.tape.trans h.tape, k.output.trans h.output, Nat.le_trans h.size k.size, fun i hi ha => (k.block i hi ha).trans (h.block i hi ha)⟩
theorem Bx.drewN {F : List Nat} {B : Nat} {x y : World} (h : Bx F B x y) (n : Nat) : Bx F B x (y.drewN n) := ⟨h.os, h.tape, h.output, h.size, h.block⟩
theorem Bx.drew {F : List Nat} {B : Nat} {x y : World} (h : Bx F B x y) : Bx F B x y.drew := ⟨h.os, h.tape, h.output, h.size, h.block⟩
theorem Bx.alloc {F : List Nat} {B : Nat} {x y : World} (h : Bx F B x y) (hB : B ≤ y.heap.size) (o : Obj) : Bx F B x (y.alloc o) :=
  h.trans (Bx.of ((Below.refl B y).alloc hB o))
theorem Bx.setCell {F : List Nat} {B : Nat} {x y : World} (h : Bx F B x y) {p : Addr} (hp : p.block ∈ F ∨ B ≤ p.block) (u : Value) : Bx F B x (y.setCell p u) :=
  h.trans ⟨rfl, rfl, rfl, by simp, fun k hk hn => Below.heap_setCell _ _ _ _ (fun e => by
    subst e
    rcases hp with hp | hp
    · exact hn hp
    · omega)⟩
theorem Bx.grown {F : List Nat} {B : Nat} {x y z : World} {row : Option Nat} (h : Bx F B x y) (hg : y.grownBy z row) (hB : B ≤ y.heap.size) (hr : ∀ k, row = some k → k ∈ F ∨ B ≤ k) : Bx F B x z :=
  h.trans ⟨hg.os, hg.tape, hg.output, hg.size, fun k hk hn => hg.block k (by omega) (fun e => by
    rcases hr k e.symm with c | c
    · exact hn c
    · omega)⟩
theorem Bx.mono {F F' : List Nat} {B B' : Nat} {w w' : World} (h : Bx F B w w') (hB : B' ≤ B) (hF : ∀ k ∈ F, k ∈ F' ∨ B' ≤ k) : Bx F' B' w w' :=
  ⟨h.os, h.tape, h.output, h.size, fun k hk hn => h.block k (by omega) (fun c => by
    rcases hF k c with d | d
    · exact hn d
    · omega)⟩
theorem Bx.below {F : List Nat} {B B' : Nat} {w w' : World} (h : Bx F B w w') (hB : B' ≤ B) (hF : ∀ k ∈ F, B' ≤ k) : Below B' w w' :=
  ⟨h.os, h.tape, h.output, h.size, fun k hk => h.block k (by omega) (fun c => by have := hF k c; omega)⟩
theorem Bx.cell {F : List Nat} {B : Nat} {w w' : World} (h : Bx F B w w') {p : Addr} (hp : p.block < B) (hn : p.block ∉ F) : w'.cell? p = w.cell? p := World.cell?_of_block (w := w) (h.block p.block hp hn)
theorem set_block {W : World} {g o : Nat} {cur : Array Value} {t : TypeId} (v : Value) (h : W.heap[g]? = some (.cells cur t (0, 0))) : (W.setCell ⟨g, o, none⟩ v).heap[g]? = some (.cells (cur.setIfInBounds o v) t (0, 0)) := heap_setCell_same W g o cur t v h
theorem set_other (W : World) {g o k : Nat} (v : Value) (h : k ≠ g) : (W.setCell ⟨g, o, none⟩ v).heap[k]? = W.heap[k]? := heap_setCell_other W ⟨g, o, none⟩ k v h
/-- A row of one's own stays while its block does. -/
theorem own_stays {w w' : World} {base : Nat} {e : TypeId} {size n : Nat} {v : Value} {xs : List Value} (h : w.ownsRow base e size v n xs) (hk : ∀ g, v.ownBlock = some g → w'.heap[g]? = w.heap[g]?) : w'.ownsRow base e size v n xs := by
  obtain ⟨h1, h2⟩ := h
  refine ⟨h1, ?_⟩
  rcases h2 with h2 | ⟨g, cap, cur, rfl, hb, hh, r⟩
  · exact Or.inl h2
  · exact Or.inr ⟨g, cap, cur, rfl, hb, (hk g rfl).trans hh, r⟩
theorem own_form {w : World} {base : Nat} {e : TypeId} {size n : Nat} {v : Value} {xs : List Value} (h : w.ownsRow base e size v n xs) : (v = .slice none 0 0 ∧ n = 0) ∨ ∃ g cap, v = .slice (some ⟨g, 0, none⟩) n cap ∧ n ≤ cap ∧ cap ≤ maxLen ∧ g < w.heap.size := by
  rcases h.2 with h2 | ⟨g, cap, cur, rfl, hb, hh, hle, hm, r⟩
  · exact Or.inl h2
  · exact Or.inr ⟨g, cap, rfl, hle, hm, lt_of_block hh⟩
theorem own_fz {w : World} {base : Nat} {e : TypeId} {size n g cap : Nat} {xs : List Value} (h : w.ownsRow base e size (.slice (some ⟨g, 0, none⟩) n cap) n xs) (j : Nat) : w.frozen? ⟨g, j, none⟩ = false := by
  rcases h.2 with ⟨e, _⟩ | ⟨g', cap', cur, e, hb, hh, r⟩
  · cases e
  · injection e with e1 _ e3
    injection e1 with e1
    injection e1 with e1 _ _
    subst e1 e3
    exact frozen_of_row w g j _ _ hh
/-- One cell of a row of one's own is written over. -/
theorem own_set {w : World} {base : Nat} {e : TypeId} {size n g cap : Nat} {xs : List Value} (h : w.ownsRow base e size (.slice (some ⟨g, 0, none⟩) n cap) n xs) (j : Nat) (u : Value) : (w.setCell ⟨g, j, none⟩ u).ownsRow base e size (.slice (some ⟨g, 0, none⟩) n cap) n (xs.set j u) := by
  obtain ⟨h1, h2⟩ := h
  refine ⟨by rw [List.length_set]; exact h1, ?_⟩
  rcases h2 with ⟨e, _⟩ | ⟨g', cap', cur, e, hb, hh, hle, hm, hs, ht⟩
  · cases e
  · injection e with e1 _ e3
    injection e1 with e1
    injection e1 with e1 _ _
    subst e1 e3
    refine Or.inr ⟨g, cap, _, rfl, hb, set_block u hh, hle, hm, by simpa using hs, ?_⟩
    rw [← ht, Array.toList_setIfInBounds, List.take_set]
/-- A row of one's own is cut. -/
theorem own_cut {w : World} {base : Nat} {e : TypeId} {size n g cap : Nat} {xs : List Value} (h : w.ownsRow base e size (.slice (some ⟨g, 0, none⟩) n cap) n xs) (n' : Nat) (hn : n' ≤ n) : w.ownsRow base e size (.slice (some ⟨g, 0, none⟩) n' cap) n' (xs.take (n' * size)) := by
  obtain ⟨h1, h2⟩ := h
  have hmul : n' * size ≤ n * size := Nat.mul_le_mul_right _ hn
  refine ⟨by rw [List.length_take]; omega, ?_⟩
  rcases h2 with ⟨e, _⟩ | ⟨g', cap', cur, e, hb, hh, hle, hm, hs, ht⟩
  · cases e
  · injection e with e1 _ e3
    injection e1 with e1
    injection e1 with e1 _ _
    subst e1 e3
    refine Or.inr ⟨g, cap, cur, rfl, hb, hh, by omega, hm, hs, ?_⟩
    rw [← ht, List.take_take, Nat.min_eq_left hmul]
/-- Words in memory. -/
def wrow (ws : List Nat) : List Value := ws.map fun x : Nat => Value.int .u64 (x : Int)
theorem wrow_len (ws : List Nat) : (wrow ws).length = ws.length := by simp [wrow]
theorem wrow_get (ws : List Nat) (i : Nat) (h : i < ws.length) : (wrow ws)[i]? = some (.int .u64 ((ws.getD i 0 : Nat) : Int)) := by
  simp [wrow, List.getD_eq_getElem?_getD, List.getElem?_eq_getElem h]
theorem wrow_set (ws : List Nat) (i x : Nat) : (wrow ws).set i (.int .u64 (x : Int)) = wrow (ws.set i x) := by
  unfold wrow; rw [List.map_set]
theorem wrow_app (ws : List Nat) (x : Nat) : wrow ws ++ [.int .u64 (x : Int)] = wrow (ws ++ [x]) := by simp [wrow]
/-- Rows in memory: a name and a number each. -/
abbrev Rw := ByteArray × Int
def cellsR (l : List Rw) : List Value := l.flatMap fun x => [.string x.1, .int .i64 x.2]
theorem cellsR_cons (x : Rw) (l : List Rw) : cellsR (x :: l) = .string x.1 :: .int .i64 x.2 :: cellsR l := rfl
theorem cellsR_len : ∀ l : List Rw, (cellsR l).length = l.length * 2
  | [] => rfl
  | x :: l => by rw [cellsR_cons]; simp [cellsR_len l]; omega
theorem cellsR_app (l c : List Rw) : cellsR (l ++ c) = cellsR l ++ cellsR c := by simp [cellsR]
theorem cellsR_at0 : ∀ (l : List Rw) (j : Nat) (h : j < l.length), (cellsR l)[j * 2]? = some (.string (l[j]).1)
  | x :: l, 0, h => rfl
  | x :: l, j + 1, h => by rw [cellsR_cons, show (j + 1) * 2 = j * 2 + 1 + 1 by omega]; simpa using cellsR_at0 l j (by simpa using h)
theorem cellsR_at1 : ∀ (l : List Rw) (j : Nat) (h : j < l.length), (cellsR l)[j * 2 + 1]? = some (.int .i64 (l[j]).2)
  | x :: l, 0, h => rfl
  | x :: l, j + 1, h => by rw [cellsR_cons, show (j + 1) * 2 + 1 = j * 2 + 1 + 1 + 1 by omega]; simpa using cellsR_at1 l j (by simpa using h)
theorem cellsR_set : ∀ (l : List Rw) (j : Nat) (x : Rw), j < l.length → ((cellsR l).set (j * 2) (.string x.1)).set (j * 2 + 1) (.int .i64 x.2) = cellsR (l.set j x)
  | y :: l, 0, x, h => rfl
  | y :: l, j + 1, x, h => by
    have := cellsR_set l j x (by simpa using h)
    rw [cellsR_cons, show (j + 1) * 2 = j * 2 + 1 + 1 by omega]
    simp only [List.set_cons_succ, cellsR_cons, this]
theorem cellsR_set1 : ∀ (l : List Rw) (j : Nat) (v : Int), j < l.length → (cellsR l).set (j * 2 + 1) (.int .i64 v) = cellsR (l.set j (nm l j, v))
  | y :: l, 0, v, h => rfl
  | y :: l, j + 1, v, h => by
    have := cellsR_set1 l j v (by simpa using h)
    rw [cellsR_cons, show (j + 1) * 2 + 1 = j * 2 + 1 + 1 + 1 by omega, nm_cons_succ]
    simp only [List.set_cons_succ, cellsR_cons, this]
theorem cellsR_take : ∀ (l : List Rw) (n : Nat), (cellsR l).take (n * 2) = cellsR (l.take n)
  | [], n => by simp [cellsR]
  | x :: l, 0 => by simp [cellsR]
  | x :: l, n + 1 => by
    rw [cellsR_cons, show (n + 1) * 2 = n * 2 + 1 + 1 by omega]
    simp only [List.take_succ_cons, cellsR_cons, cellsR_take l n]
/-! ### the map of names -/
def kS (s : ByteArray) : Lit := .string s.data.toList
theorem kS_ne {s t : ByteArray} (h : s ≠ t) : kS s ≠ kS t := fun e => h (bytes_ext (by unfold kS at e; injection e))
theorem kS_key (s : ByteArray) : WideAt.IsKeyLit (kS s) := by unfold kS; simp [WideAt.IsKeyLit]
abbrev z0 : DataW Unit := .lit (.int .i64 0)
/-- The map tells the slots of the names. -/
structure MapOf {α : Type} (D : DataW Unit) (l : List (ByteArray × α)) : Prop where
  sz : Maps.size D = cnt l
  has : ∀ s : ByteArray, Maps.has D (kS s) = true ↔ ∃ i, isT l i = true ∧ nm l i = s
  at_ : ∀ i : Nat, isT l i = true → D.atKey (kS (nm l i)) z0 = .lit (.int .i64 (i : Int))
theorem MapOf.nil {α : Type} : MapOf (α := α) (.map []) [] := ⟨rfl, fun s => ⟨fun h => by simp [Maps.has] at h, fun ⟨i, h, _⟩ => by simp [isT, nm] at h⟩, fun i h => by simp [isT, nm] at h⟩
theorem MapOf.look {α : Type} {D : DataW Unit} {l : List (ByteArray × α)} (h : MapOf D l) (s : ByteArray) (c : Int) (hc : D.atKey (kS s) z0 = .lit (.int .i64 c)) :
    (Maps.has D (kS s) = false ∧ c = 0 ∧ ∀ i, isT l i = true → nm l i ≠ s) ∨ (Maps.has D (kS s) = true ∧ ∃ i : Nat, c = i ∧ isT l i = true ∧ nm l i = s) := by
  cases e : Maps.has D (kS s)
  · left
    rw [Maps.atKey_of_not_has e] at hc
    refine ⟨rfl, ?_, fun i hi hn => ?_⟩
    · injection hc with hc; injection hc with _ hc; exact hc.symm
    · rw [(h.has s).2 ⟨i, hi, hn⟩] at e; cases e
  · right
    obtain ⟨i, hi, hn⟩ := (h.has s).1 e
    have := h.at_ i hi
    rw [hn, hc] at this
    injection this with this; injection this with _ this
    exact ⟨rfl, i, this, hi, hn⟩
theorem MapOf.put {α : Type} {D : DataW Unit} {l : List (ByteArray × α)} (h : MapOf D l) (hD : Tidy D) {i : Nat} {x : ByteArray × α} (hi : i ≤ l.length) (hf : isT l i = false) (hx : x.1.size ≠ 0) (hn : ∀ j, isT l j = true → nm l j ≠ x.1) :
    MapOf (D.put (kS x.1) (.lit (.int .i64 (i : Int)))) (wrt l i x) := by
  have e := nm_wrt l i x hi
  have eT : ∀ j, isT (wrt l i x) j = if j = i then true else isT l j := fun j => by
    unfold isT; rw [e]; split
    · simpa using hx
    · rfl
  have hno : Maps.has D (kS x.1) = false := by
    cases c : Maps.has D (kS x.1)
    · rfl
    · obtain ⟨j, hj, hj2⟩ := (h.has _).1 c
      exact absurd hj2 (hn j hj)
  refine ⟨?_, fun s => ?_, fun j hj => ?_⟩
  · rw [Maps.size_put hD, hno, cnt_wrt l i x hi hf hx, ← h.sz]; rfl
  · by_cases c : s = x.1
    · subst c
      rw [Maps.has_put_same hD.isMap (kS_key _)]
      exact ⟨fun _ => ⟨i, by rw [eT, if_pos rfl], by rw [e, if_pos rfl]⟩, fun _ => rfl⟩
    · rw [Maps.has_put_other (kS_ne c), h.has]
      constructor
      · rintro ⟨j, hj, hjs⟩
        have hne : j ≠ i := fun c => by subst c; rw [hf] at hj; cases hj
        exact ⟨j, by rw [eT, if_neg hne]; exact hj, by rw [e, if_neg hne]; exact hjs⟩
      · rintro ⟨j, hj, hjs⟩
        rw [e] at hjs
        rw [eT] at hj
        by_cases d : j = i
        · rw [if_pos d] at hjs; exact absurd hjs.symm c
        · rw [if_neg d] at hjs hj; exact ⟨j, hj, hjs⟩
  · rw [e]
    rw [eT] at hj
    by_cases d : j = i
    · rw [if_pos d, Maps.atKey_put_same hD.isMap (kS_key _), d]
    · rw [if_neg d] at hj ⊢
      rw [Maps.atKey_put_other (kS_ne (hn j hj))]
      exact h.at_ j hj
theorem MapOf.del {α : Type} {D : DataW Unit} {l : List (ByteArray × α)} (h : MapOf D l) (hD : Tidy D) {m i : Nat} {v : α} (ok : OkS m l) (hi : isT l i = true) :
    MapOf (D.del (kS (nm l i))) (trim (l.set i (ByteArray.empty, v))) := by
  have e := nm_drop (v := v) hi
  have eT : ∀ j, isT (trim (l.set i (ByteArray.empty, v))) j = if j = i then false else isT l j := fun j => by
    unfold isT; rw [e]; split
    · rfl
    · rfl
  have hh : Maps.has D (kS (nm l i)) = true := (h.has _).2 ⟨i, hi, rfl⟩
  refine ⟨?_, fun s => ?_, fun j hj => ?_⟩
  · have a := Maps.size_del (k := kS (nm l i)) hD
    rw [hh] at a
    have b := cnt_drop (v := v) hi
    have c := h.sz
    simp at a
    omega
  · by_cases c : s = nm l i
    · subst c
      rw [Maps.has_del_same]
      refine ⟨fun h => by (cases h), ?_⟩
      rintro ⟨j, hj, hjs⟩
      rw [eT] at hj
      by_cases d : j = i
      · rw [if_pos d] at hj; cases hj
      · rw [if_neg d] at hj
        rw [e, if_neg d] at hjs
        exact absurd (ok.ap j i hj hjs) d
    · rw [Maps.has_del_other (kS_ne c), h.has]
      constructor
      · rintro ⟨j, hj, hjs⟩
        have hne : j ≠ i := fun d => by subst d; exact c hjs.symm
        exact ⟨j, by rw [eT, if_neg hne]; exact hj, by rw [e, if_neg hne]; exact hjs⟩
      · rintro ⟨j, hj, hjs⟩
        rw [eT] at hj
        by_cases d : j = i
        · rw [if_pos d] at hj; cases hj
        · rw [if_neg d] at hj
          rw [e, if_neg d] at hjs
          exact ⟨j, hj, hjs⟩
  · rw [eT] at hj
    by_cases d : j = i
    · rw [if_pos d] at hj; cases hj
    · rw [if_neg d] at hj
      rw [e, if_neg d, Maps.atKey_del_other (kS_ne (fun c => d (ok.ap j i hj c)))]
      exact h.at_ j hj
theorem MapOf.same {α : Type} {D : DataW Unit} {l l' : List (ByteArray × α)} (h : MapOf D l) (hc : cnt l' = cnt l) (hn : ∀ j, nm l' j = nm l j) : MapOf D l' := by
  have eT : ∀ j, isT l' j = isT l j := fun j => by unfold isT; rw [hn]
  refine ⟨by rw [hc]; exact h.sz, fun s => ?_, fun j hj => ?_⟩
  · rw [h.has]
    constructor <;> rintro ⟨j, hj, hjs⟩ <;> refine ⟨j, ?_, ?_⟩
    · rw [eT]; exact hj
    · rw [hn]; exact hjs
    · rw [← eT]; exact hj
    · rw [← hn]; exact hjs
  · rw [hn]; exact h.at_ j (by rw [← eT]; exact hj)
theorem owns_tight {H : Type} {P : Program} {k : TypeId} {R : Value → Option (DataW H × List MemPlace)} {w : World} {b n : Nat} {D : DataW H} (h : w.ownsMap P k R b n D) : w.ownsMap P k R b (Maps.size D) D := by
  obtain ⟨es, clock, hb, F, hs, rfl⟩ := h
  exact ⟨es, clock, hb, F, by simp [Maps.size, length_sorted], rfl⟩
theorem owns_stays {H : Type} {P : Program} {k : TypeId} {R : Value → Option (DataW H × List MemPlace)} {w w' : World} {b n : Nat} {D : DataW H} (h : w.ownsMap P k R b n D) (e : w'.heap[b]? = w.heap[b]?) : w'.ownsMap P k R b n D := by
  obtain ⟨es, clock, hb, F, hs, rfl⟩ := h
  exact ⟨es, clock, e.trans hb, F, hs, rfl⟩
theorem owns_lt {H : Type} {P : Program} {k : TypeId} {R : Value → Option (DataW H × List MemPlace)} {w : World} {b n : Nat} {D : DataW H} (h : w.ownsMap P k R b n D) : b < w.heap.size := h.lt
abbrev Own1 (w : World) (mb n : Nat) (D : DataW Unit) : Prop := w.ownsMap Tryd.prog 9 (plainElem Tryd.prog 3) mb n D
abbrev OwnR (w : World) (v : Value) (l : List Rw) : Prop := w.ownsRow 0 94 2 v l.length (cellsR l)
abbrev OwnK (w : World) (v : Value) (ws : List Nat) : Prop := w.ownsRow 0 97 1 v ws.length (wrow ws)
theorem keyS : Keyed Tryd.prog 9 := string_keyed Tryd.underlying9
theorem keyS_of {s : ByteArray} (h : s.size ≤ maxLen) : keyOf Tryd.prog 9 (.string s) = some (kS s) := WideMaps.keyOf_string_mk Tryd.underlying9 h
theorem zeroI (w : World) : (zeroValue 3).run Tryd.prog w = .ok (.int .i64 0) w := by kernel_rfl
/-- A table in memory: the struct, the map, the rows, the words. -/
structure Tm (w : World) (p m mb : Nat) (rs ks : Value) (D : DataW Unit) (l : List Rw) (ws : List Nat) : Prop where
  hp : w.heap[p]? = some (.cells #[.int .i64 (m : Int), .map (some mb), rs, ks] 92 (0, 0))
  hm : Own1 w mb 65536 D
  hr : OwnR w rs l
  hk : OwnK w ks ws
/-- What its parts have to do with one another. -/
structure Cp (m : Nat) (D : DataW Unit) (l : List Rw) (ws : List Nat) : Prop where
  ok : OkS m l
  mo : MapOf D l
  wd : Wd ws
  bt : ∀ i, mem ws i = isT l i
  wl : ws.length ≤ 1024
/-- The blocks of a table. -/
def fp (p mb : Nat) (rs ks : Value) : List Nat := p :: mb :: (rs.ownBlock.toList ++ ks.ownBlock.toList)
/-- A TABLE: its most, its rows, its blocks. -/
def Tb (w : World) (p m : Nat) (l : List Rw) (F : List Nat) : Prop := ∃ mb rs ks D ws, Tm w p m mb rs ks D l ws ∧ Cp m D l ws ∧ F = fp p mb rs ks
theorem Tm.frame {w w' : World} {p m mb : Nat} {rs ks : Value} {D : DataW Unit} {l : List Rw} {ws : List Nat} (h : Tm w p m mb rs ks D l ws) (hk : ∀ k ∈ fp p mb rs ks, w'.heap[k]? = w.heap[k]?) : Tm w' p m mb rs ks D l ws :=
  ⟨(hk p (by simp [fp])).trans h.hp, owns_stays h.hm (hk mb (by simp [fp])), own_stays h.hr (fun g hg => hk g (by simp [fp, hg])), own_stays h.hk (fun g hg => hk g (by simp [fp, hg]))⟩
theorem Tb.frame {w w' : World} {p m : Nat} {l : List Rw} {F : List Nat} (h : Tb w p m l F) (hk : ∀ k ∈ F, w'.heap[k]? = w.heap[k]?) : Tb w' p m l F := by
  obtain ⟨mb, rs, ks, D, ws, h1, h2, rfl⟩ := h
  exact ⟨mb, rs, ks, D, ws, h1.frame hk, h2, rfl⟩
theorem Tm.lt {w : World} {p m mb : Nat} {rs ks : Value} {D : DataW Unit} {l : List Rw} {ws : List Nat} (h : Tm w p m mb rs ks D l ws) : ∀ k ∈ fp p mb rs ks, k < w.heap.size := by
  intro k hk
  unfold fp at hk
  simp at hk
  rcases hk with rfl | rfl | hk | hk
  · exact lt_of_block h.hp
  · exact owns_lt h.hm
  · exact (h.hr.lt k hk).2
  · exact (h.hk.lt k hk).2
theorem Tb.lt {w : World} {p m : Nat} {l : List Rw} {F : List Nat} (h : Tb w p m l F) : ∀ k ∈ F, k < w.heap.size := by
  obtain ⟨mb, rs, ks, D, ws, h1, h2, rfl⟩ := h
  exact h1.lt
theorem Tb.low {w w' : World} {p m : Nat} {l : List Rw} {F : List Nat} (h : Tb w p m l F) (hb : Below w.heap.size w w') : Tb w' p m l F := h.frame (fun k hk => hb.block k (h.lt k hk))
theorem Tb.ok {w : World} {p m : Nat} {l : List Rw} {F : List Nat} (h : Tb w p m l F) : OkS m l := by
  obtain ⟨mb, rs, ks, D, ws, h1, h2, rfl⟩ := h
  exact h2.ok
theorem Tb.mem {w : World} {p m : Nat} {l : List Rw} {F : List Nat} (h : Tb w p m l F) : p ∈ F := by
  obtain ⟨mb, rs, ks, D, ws, h1, h2, rfl⟩ := h
  simp [fp]
/-- Blocks of unlike kind are apart. -/
theorem Tm.ap {w : World} {p m mb : Nat} {rs ks : Value} {D : DataW Unit} {l : List Rw} {ws : List Nat} (h : Tm w p m mb rs ks D l ws) : p ≠ mb ∧ (∀ g, rs.ownBlock = some g → g ≠ p ∧ g ≠ mb ∧ ks.ownBlock ≠ some g) ∧ (∀ g, ks.ownBlock = some g → g ≠ p ∧ g ≠ mb ∧ rs.ownBlock ≠ some g) := by
  obtain ⟨es, clock, hb, _⟩ := h.hm
  have R : ∀ g, rs.ownBlock = some g → ∃ cur, w.heap[g]? = some (.cells cur 94 (0, 0)) := by
    intro g hg
    rcases h.hr.2 with ⟨e, _⟩ | ⟨g', cap, cur, e, _, hh, _⟩
    · rw [e] at hg; simp [Value.ownBlock] at hg
    · rw [e] at hg; simp [Value.ownBlock] at hg; subst hg; exact ⟨cur, hh⟩
  have K : ∀ g, ks.ownBlock = some g → ∃ cur, w.heap[g]? = some (.cells cur 97 (0, 0)) := by
    intro g hg
    rcases h.hk.2 with ⟨e, _⟩ | ⟨g', cap, cur, e, _, hh, _⟩
    · rw [e] at hg; simp [Value.ownBlock] at hg
    · rw [e] at hg; simp [Value.ownBlock] at hg; subst hg; exact ⟨cur, hh⟩
  refine ⟨fun e => ?_, fun g hg => ?_, fun g hg => ?_⟩
  · subst e; have := h.hp.symm.trans hb; simp at this
  · obtain ⟨cur, hc⟩ := R g hg
    refine ⟨fun e => ?_, fun e => ?_, fun e => ?_⟩
    · subst e; have := h.hp.symm.trans hc; simp at this
    · subst e; have := hb.symm.trans hc; simp at this
    · obtain ⟨cur', hc'⟩ := K g e
      have := hc'.symm.trans hc; simp at this
  · obtain ⟨cur, hc⟩ := K g hg
    refine ⟨fun e => ?_, fun e => ?_, fun e => ?_⟩
    · subst e; have := h.hp.symm.trans hc; simp at this
    · subst e; have := hb.symm.trans hc; simp at this
    · obtain ⟨cur', hc'⟩ := R g e
      have := hc'.symm.trans hc; simp at this
end Go.Proofs.YtfkijmmflpnncaaDoor.L
