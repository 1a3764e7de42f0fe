import Derived.Test.YtimmjikpcekffaaGreatDoorMgAA
namespace Go.Proofs.YtimmjikpcekffaaGreatDoor.L
open Go.RowKit
set_option linter.unusedVariables false
/-- A part of a tree. -/
structure Pt where
  kind : Int
  text : ByteArray
  num : Int
  kids : List Int
def pt (T : List Pt) (j : Nat) : Pt := T.getD j ⟨0, ⟨#[]⟩, 0, []⟩
/-- What stands ahead of place i and is nobody's kid yet. -/
def fre (T : List Pt) : Nat → List Int
  | 0 => []
  | i + 1 => (fre T i).take ((fre T i).length - (pt T i).kids.length) ++ [(i : Int)]
/-- The part holds what the table says, its kids' classes too. -/
def tabD (T : List Pt) (p : Pt) : Prop := kidsB p.kind p.kids.length = true ∧ 1 ≤ p.kind ∧ p.kind ≤ 20 ∧ holdsB p.kind p.text p.num = true ∧ ∀ x, x ∈ p.kids → clsB p.kind (pt T x.toNat).kind = true
def tabP (T : List Pt) (p : Pt) : Prop := fitsB (fmO p.kind) p.text p.num p.kids.length = true ∧ ∀ x, x ∈ p.kids → takesB (fmO p.kind) (fmO (pt T x.toNat).kind).cl = true
theorem cl_one (k : Int) : (fmO k).cl = 1 ↔ 1 ≤ k ∧ k ≤ 10 := by
  rcases kind_cases k with (rfl | rfl | rfl | rfl | rfl | rfl | rfl | rfl | rfl | rfl | rfl | rfl | rfl | rfl | rfl | rfl | rfl | rfl | rfl | rfl) | h
  case inr =>
    have ef : fmO k = ⟨0, 0, 0, 0, false, 0, 0⟩ := by unfold fmO; repeat rw [if_neg (by omega)]
    rw [ef]
    simp
    omega
  all_goals decide
theorem cl_two (k : Int) : ((fmO k).cl = 2 ∨ (fmO k).cl = 3) ↔ 11 ≤ k ∧ k ≤ 20 := by
  rcases kind_cases k with (rfl | rfl | rfl | rfl | rfl | rfl | rfl | rfl | rfl | rfl | rfl | rfl | rfl | rfl | rfl | rfl | rfl | rfl | rfl | rfl) | h
  case inr =>
    have ef : fmO k = ⟨0, 0, 0, 0, false, 0, 0⟩ := by unfold fmO; repeat rw [if_neg (by omega)]
    rw [ef]
    simp
    omega
  all_goals decide
theorem cl_three (k : Int) : (fmO k).cl = 3 ↔ k = 11 ∨ k = 12 := by
  rcases kind_cases k with (rfl | rfl | rfl | rfl | rfl | rfl | rfl | rfl | rfl | rfl | rfl | rfl | rfl | rfl | rfl | rfl | rfl | rfl | rfl | rfl) | h
  case inr =>
    have ef : fmO k = ⟨0, 0, 0, 0, false, 0, 0⟩ := by unfold fmO; repeat rw [if_neg (by omega)]
    rw [ef]
    simp
    omega
  all_goals decide
theorem size_nil {s : ByteArray} (h : s.toList = []) : s.size = 0 := by
  have : s.data.toList = [] := by rw [← ByteArray.toList_eq]; exact h
  have h2 : s.size = s.data.toList.length := by simp
  rw [h2, this]
  rfl
theorem takes_cls (k kk : Int) (h : k = 3 ∨ k = 4 ∨ k = 5 ∨ k = 6 ∨ k = 7 ∨ k = 8 ∨ k = 9 ∨ k = 13 ∨ k = 19 ∨ k = 20) : takesB (fmO k) (fmO kk).cl = clsB k kk := by
  have c1 := cl_one kk
  have c2 := cl_two kk
  have c3 := cl_three kk
  generalize (fmO kk).cl = c at *
  rw [Bool.eq_iff_iff]
  rcases h with rfl | rfl | rfl | rfl | rfl | rfl | rfl | rfl | rfl | rfl <;> simp [takesB, clsB, fmO] <;> omega
theorem fits_tab (k : Int) (tx : ByteArray) (nu : Int) (n : Nat) (hn : n ≤ 1000) : fitsB (fmO k) tx nu n = true ↔ kidsB k n = true ∧ 1 ≤ k ∧ k ≤ 20 ∧ holdsB k tx nu = true := by
  have z : tx.toList = [] → (tx.size : Int) = 0 := fun h => by rw [size_nil h]; rfl
  rcases kind_cases k with (rfl | rfl | rfl | rfl | rfl | rfl | rfl | rfl | rfl | rfl | rfl | rfl | rfl | rfl | rfl | rfl | rfl | rfl | rfl | rfl) | h
  case inr =>
    have ef : fmO k = ⟨0, 0, 0, 0, false, 0, 0⟩ := by unfold fmO; repeat rw [if_neg (by omega)]
    rw [ef]
    simp [fitsB]
    omega
  all_goals
    by_cases e : tx.toList = []
    · have := z e
      simp [fitsB, fmO, kidsB, holdsB, e, this]
      try omega
    · simp [fitsB, fmO, kidsB, holdsB, e]
      try omega
theorem tab_iff (T : List Pt) (p : Pt) (hn : p.kids.length ≤ 1000) : tabP T p ↔ tabD T p := by
  obtain ⟨k, tx, nu, ks⟩ := p
  unfold tabP tabD
  simp only at hn ⊢
  have hf := fits_tab k tx nu ks.length hn
  constructor
  · rintro ⟨h1, h2⟩
    obtain ⟨a, b, c, d⟩ := hf.1 h1
    refine ⟨a, b, c, d, fun x hx => ?_⟩
    have hk : k = 3 ∨ k = 4 ∨ k = 5 ∨ k = 6 ∨ k = 7 ∨ k = 8 ∨ k = 9 ∨ k = 13 ∨ k = 19 ∨ k = 20 := by
      apply Classical.byContradiction
      intro hc
      unfold kidsB at a
      rw [if_neg (by omega), if_neg (by omega), if_neg (by omega), if_neg (by omega)] at a
      simp at a
      rw [a] at hx
      cases hx
    rw [← takes_cls k _ hk]
    exact h2 x hx
  · rintro ⟨a, b, c, d, h2⟩
    refine ⟨hf.2 ⟨a, b, c, d⟩, fun x hx => ?_⟩
    have hk : k = 3 ∨ k = 4 ∨ k = 5 ∨ k = 6 ∨ k = 7 ∨ k = 8 ∨ k = 9 ∨ k = 13 ∨ k = 19 ∨ k = 20 := by
      apply Classical.byContradiction
      intro hc
      unfold kidsB at a
      rw [if_neg (by omega), if_neg (by omega), if_neg (by omega), if_neg (by omega)] at a
      simp at a
      rw [a] at hx
      cases hx
    rw [takes_cls k _ hk]
    exact h2 x hx
/-- The part at i is right where it stands. -/
structure OkA (T : List Pt) (i : Nat) : Prop where
  many : (pt T i).kids.length ≤ (fre T i).length
  kids : (pt T i).kids = (fre T i).drop ((fre T i).length - (pt T i).kids.length)
  tab : tabD T (pt T i)
theorem fre_len (T : List Pt) : ∀ i, (fre T i).length ≤ i
  | 0 => by simp [fre]
  | i + 1 => by
    have := fre_len T i
    simp [fre]
    omega
theorem fre_mem (T : List Pt) : ∀ i x, x ∈ fre T i → 0 ≤ x ∧ x < i
  | 0, x, h => by simp [fre] at h
  | i + 1, x, h => by
    unfold fre at h
    rcases List.mem_append.1 h with h | h
    · have := fre_mem T i x (List.mem_of_mem_take h)
      omega
    · simp at h
      omega
theorem OkA.lt {T : List Pt} {i : Nat} (h : OkA T i) {x : Int} (hx : x ∈ (pt T i).kids) : 0 ≤ x ∧ x < i := by
  rw [h.kids] at hx
  exact fre_mem T i x (List.mem_of_mem_drop hx)
/-- The first part that bars the tree; none does; the last one is no condition, or one is left. -/
def Bar (T : List Pt) (i : Nat) : Prop := i < T.length ∧ ¬ OkA T i ∧ ∀ j, j < i → OkA T j
def Ok0 (T : List Pt) : Prop := ∀ j, j < T.length → OkA T j
def Lst (T : List Pt) : Prop := ¬ (1 ≤ (pt T (T.length - 1)).kind ∧ (pt T (T.length - 1)).kind ≤ 10) ∨ 1 < (fre T T.length).length
/-- How much more stands round a kid. -/
def btw (k n : Int) : Int := (if opB k then 1 else 0) + (if brB k n then 1 else 0)
theorem btw_le (k n : Int) : 0 ≤ btw k n ∧ btw k n ≤ 2 := by unfold btw; split <;> split <;> omega
def inn (T : List Pt) (i : Nat) (ks n : List Int) : List Int := ks.foldl (fun n x => n.set x.toNat (n.getD i 0 + btw (pt T i).kind (pt T x.toNat).kind)) n
def nsts (T : List Pt) : Nat → List Int → List Int
  | 0, n => n
  | i + 1, n => nsts T i (inn T i (pt T i).kids n)
def nests (T : List Pt) : List Int := nsts T T.length (List.replicate T.length 0)
theorem inn_len (T : List Pt) (i : Nat) : ∀ (ks n : List Int), (inn T i ks n).length = n.length
  | [], n => rfl
  | x :: ks, n => by
    show (inn T i ks _).length = _
    rw [inn_len T i ks]
    simp
theorem nsts_len (T : List Pt) : ∀ (i : Nat) (n : List Int), (nsts T i n).length = n.length
  | 0, n => rfl
  | i + 1, n => by rw [nsts, nsts_len T i, inn_len]
theorem nests_len (T : List Pt) : (nests T).length = T.length := by unfold nests; rw [nsts_len]; simp
/-- No nest is greater than twice what lies behind its place. -/
def Sm (L : Nat) (n : List Int) : Prop := ∀ j, j < n.length → 0 ≤ n.getD j 0 ∧ n.getD j 0 ≤ 2 * ((L : Int) - 1 - j)
theorem Sm.set {L : Nat} {n : List Int} {i x : Nat} {v : Int} (h : Sm L n) (hi : i < n.length) (hx : x < i) (hv : 0 ≤ v ∧ v ≤ n.getD i 0 + 2) : Sm L (n.set x v) := by
  intro j hj
  rw [List.length_set] at hj
  have hi' := h i hi
  by_cases e : j = x
  · subst e
    have : (n.set j v).getD j 0 = v := by rw [List.getD_eq_getElem?_getD, List.getElem?_set_self hj]; rfl
    rw [this]
    omega
  · have : (n.set x v).getD j 0 = n.getD j 0 := by rw [List.getD_eq_getElem?_getD, List.getD_eq_getElem?_getD, List.getElem?_set_ne (by omega)]
    rw [this]
    exact h j hj
def Deep (T : List Pt) (i : Nat) : Prop := i < T.length ∧ 32 < (nests T).getD i 0 ∧ ∀ j, j < i → (nests T).getD j 0 ≤ 32
def NoDeep (T : List Pt) : Prop := ∀ j, j < T.length → (nests T).getD j 0 ≤ 32
/-- What Valid answers: a code (0: nothing bars) and a place. -/
def Res (T : List Pt) (c a : Nat) : Prop :=
  (T.length = 0 ∧ c = 130 ∧ a = 0) ∨ (1000 < T.length ∧ c = 130 ∧ a = 1000) ∨
  (1 ≤ T.length ∧ T.length ≤ 1000 ∧ ((Bar T a ∧ c = 130) ∨ (Ok0 T ∧ Lst T ∧ c = 130 ∧ a = T.length - 1) ∨
    (Ok0 T ∧ ¬ Lst T ∧ ((Deep T a ∧ c = 122) ∨ (NoDeep T ∧ c = 0 ∧ a = 0)))))
theorem Bar.one {T : List Pt} {i j : Nat} (h : Bar T i) (k : Bar T j) : i = j := by
  rcases Nat.lt_trichotomy i j with h1 | h1 | h1
  · exact absurd (k.2.2 i h1) h.2.1
  · exact h1
  · exact absurd (h.2.2 j h1) k.2.1
theorem Bar.no {T : List Pt} {i : Nat} (h : Bar T i) (k : Ok0 T) : False := h.2.1 (k i h.1)
theorem Deep.one {T : List Pt} {i j : Nat} (h : Deep T i) (k : Deep T j) : i = j := by
  rcases Nat.lt_trichotomy i j with h1 | h1 | h1
  · have := k.2.2 i h1; have := h.2.1; omega
  · exact h1
  · have := h.2.2 j h1; have := k.2.1; omega
theorem Deep.no {T : List Pt} {i : Nat} (h : Deep T i) (k : NoDeep T) : False := by have := h.2.1; have := k i h.1; omega
theorem res_one {T : List Pt} {c a c' a' : Nat} (h : Res T c a) (k : Res T c' a') : c = c' ∧ a = a' := by
  rcases h with ⟨h0, rfl, rfl⟩ | ⟨h0, rfl, rfl⟩ | ⟨h0, h1, h⟩
  · rcases k with ⟨_, rfl, rfl⟩ | ⟨k0, _⟩ | ⟨k0, _⟩
    · exact ⟨rfl, rfl⟩
    · omega
    · omega
  · rcases k with ⟨k0, _⟩ | ⟨_, rfl, rfl⟩ | ⟨_, k0, _⟩
    · omega
    · exact ⟨rfl, rfl⟩
    · omega
  · rcases k with ⟨k0, _⟩ | ⟨k0, _⟩ | ⟨_, _, k⟩
    · omega
    · omega
    · rcases h with ⟨hb, rfl⟩ | ⟨ho, hl, rfl, rfl⟩ | ⟨ho, hl, h⟩
      · rcases k with ⟨kb, rfl⟩ | ⟨ko, _⟩ | ⟨ko, _⟩
        · exact ⟨rfl, hb.one kb⟩
        · exact (hb.no ko).elim
        · exact (hb.no ko).elim
      · rcases k with ⟨kb, rfl⟩ | ⟨ko, kl, rfl, rfl⟩ | ⟨ko, kl, _⟩
        · exact (kb.no ho).elim
        · exact ⟨rfl, rfl⟩
        · exact absurd hl kl
      · rcases k with ⟨kb, rfl⟩ | ⟨ko, kl, rfl, rfl⟩ | ⟨ko, kl, k⟩
        · exact (kb.no ho).elim
        · exact absurd kl hl
        · rcases h with ⟨hd, rfl⟩ | ⟨hd, rfl, rfl⟩
          · rcases k with ⟨kd, rfl⟩ | ⟨kd, rfl, rfl⟩
            · exact ⟨rfl, hd.one kd⟩
            · exact (hd.no kd).elim
          · rcases k with ⟨kd, rfl⟩ | ⟨kd, rfl, rfl⟩
            · exact (kd.no hd).elim
            · exact ⟨rfl, rfl⟩
end Go.Proofs.YtimmjikpcekffaaGreatDoor.L
namespace Go.Proofs.YtimmjikpcekffaaGreatDoor.L
open Go.RowKit
set_option linter.unusedVariables false
/-- A list of numbers that can be read. -/
def RdI (w : World) (a : Option Addr) (zs : List Int) : Prop := zs.length = 0 ∨ ∃ b off, a = some ⟨b, off, none⟩ ∧ b < w.heap.size ∧ ∀ j, j < zs.length → w.cell? ⟨b, off + j, none⟩ = some (.int .i64 (zs.getD j 0))
theorem RdI.low {w w' : World} {a : Option Addr} {zs : List Int} (h : RdI w a zs) {B : Nat} (k : Below B w w') (hB : w.heap.size ≤ B) : RdI w' a zs := by
  rcases h with h | ⟨b, off, rfl, h2, h3⟩
  · exact Or.inl h
  · exact Or.inr ⟨b, off, rfl, Nat.lt_of_lt_of_le h2 k.size, fun j hj => (k.cell (p := ⟨b, off + j, none⟩) (Nat.lt_of_lt_of_le h2 hB)).trans (h3 j hj)⟩
/-- A list of parts that can be read, with its lists of kids. -/
def PL (w : World) (a : Option Addr) (T : List Pt) : Prop := T.length = 0 ∨ ∃ b off, a = some ⟨b, off, none⟩ ∧ b < w.heap.size ∧ ∀ j, j < T.length → ∃ ka kc,
  w.cell? ⟨b, off + j * 4, none⟩ = some (.int .i64 (pt T j).kind) ∧ w.cell? ⟨b, off + j * 4 + 1, none⟩ = some (.string (pt T j).text) ∧ w.cell? ⟨b, off + j * 4 + 2, none⟩ = some (.int .i64 (pt T j).num) ∧
  w.cell? ⟨b, off + j * 4 + 3, none⟩ = some (.slice ka (pt T j).kids.length kc) ∧ RdI w ka (pt T j).kids
theorem PL.low {w w' : World} {a : Option Addr} {T : List Pt} (h : PL w a T) (k : Below w.heap.size w w') : PL w' a T := by
  rcases h with h | ⟨b, off, rfl, h2, h3⟩
  · exact Or.inl h
  · refine Or.inr ⟨b, off, rfl, Nat.lt_of_lt_of_le h2 k.size, fun j hj => ?_⟩
    obtain ⟨ka, kc, c0, c1, c2, c3, r⟩ := h3 j hj
    exact ⟨ka, kc, (k.cell (p := ⟨b, off + j * 4, none⟩) h2).trans c0, (k.cell (p := ⟨b, off + j * 4 + 1, none⟩) h2).trans c1, (k.cell (p := ⟨b, off + j * 4 + 2, none⟩) h2).trans c2, (k.cell (p := ⟨b, off + j * 4 + 3, none⟩) h2).trans c3, r.low k (Nat.le_refl _)⟩
/-- The lists are not too long for a machine. -/
def GdT (T : List Pt) : Prop := T.length ≤ 140737488355328 ∧ ∀ j, j < T.length → (pt T j).kids.length ≤ 140737488355328
/-- A row of numbers of one's own. -/
abbrev OwnI (w : World) (base : Nat) (v : Value) (zs : List Int) : Prop := w.ownsRow base 3 1 v zs.length (zs.map (Value.int .i64))
theorem info3 : (Tryz.prog.info? 3).map (fun i => (i.zero, i.size, i.bytes)) = some (some (.int .i64 0), 1, 8) := by kernel_rfl
theorem own_form {w : World} {base : Nat} {v : Value} {zs : List Int} (h : OwnI w base v zs) : ∃ a cap, v = .slice a zs.length cap := by
  rcases h.2 with ⟨e, n0⟩ | ⟨g, cap, cur, e, _⟩
  · exact ⟨none, 0, by rw [e, n0]⟩
  · exact ⟨_, _, e⟩
theorem own_low {w w' : World} {base : Nat} {v : Value} {zs : List Int} (h : OwnI w base v zs) (hk : Below w.heap.size w w') : OwnI w' base v zs :=
  World.ownsRow.kept (row := none) h ⟨hk.os, hk.tape, hk.output, hk.size, fun k hkl _ => hk.block k hkl⟩ (by cases v.ownBlock <;> simp)
theorem own_block {w : World} {base : Nat} {v : Value} {zs : List Int} (h : OwnI w base v zs) : ∀ k, v.ownBlock = some k → base ≤ k ∧ k < w.heap.size := by
  intro k hk
  rcases h.2 with ⟨e, n0⟩ | ⟨g, cap, cur, e, hb, hg, _⟩
  · rw [e] at hk; cases hk
  · rw [e] at hk
    simp [Value.ownBlock] at hk
    subst hk
    exact ⟨hb, lt_blk hg⟩
/-- An own row, read from any place on. -/
theorem own_rd {w : World} {base : Nat} {a : Option Addr} {n cap : Nat} {zs : List Int} (h : OwnI w base (.slice a n cap) zs) (k : Nat) (hk : k ≤ zs.length) : n = zs.length ∧ (zs.length = 0 ∨ ∃ g, a = some ⟨g, 0, none⟩ ∧ base ≤ g ∧ g < w.heap.size ∧ zs.length ≤ cap ∧ (∀ j, j < zs.length → w.cell? ⟨g, j, none⟩ = some (.int .i64 (zs.getD j 0))) ∧ RdI w (some ⟨g, k, none⟩) (zs.drop k)) := by
  rcases h.2 with ⟨e, n0⟩ | ⟨g, cap', cur, e, hb, hg, h3, h4, h5, h6⟩
  · injection e with e1 e2 e3
    exact ⟨by omega, .inl n0⟩
  · injection e with e1 e2 e3
    subst e1 e2 e3
    refine ⟨rfl, .inr ⟨g, rfl, hb, lt_blk hg, h3, ?_⟩⟩
    have key : ∀ j, j < zs.length → w.cell? ⟨g, j, none⟩ = some (.int .i64 (zs.getD j 0)) := by
      intro j hj
      rw [cell_of_row w g j _ _ _ hg]
      have := congrArg (fun l => l[j]?) h6
      simp only [List.getElem?_take_of_lt (show j < zs.length * 1 by omega), List.getElem?_map] at this
      rw [Array.getElem?_toList] at this
      rw [this, List.getElem?_eq_getElem hj, List.getD_eq_getElem?_getD, List.getElem?_eq_getElem hj]
      rfl
    refine ⟨key, .inr ⟨g, k, rfl, lt_blk hg, fun j hj => ?_⟩⟩
    rw [List.length_drop] at hj
    rw [key (k + j) (by omega), List.getD_eq_getElem?_getD, List.getD_eq_getElem?_getD, List.getElem?_drop]
/-- The first k of an own row are an own row. -/
theorem own_take {w : World} {base : Nat} {a : Option Addr} {cap : Nat} {zs : List Int} (h : OwnI w base (.slice a zs.length cap) zs) (k : Nat) (hk : k ≤ zs.length) : OwnI w base (.slice a k cap) (zs.take k) := by
  have hl : (zs.take k).length = k := by simp; omega
  unfold OwnI
  rw [hl]
  refine ⟨by simp; omega, ?_⟩
  rcases h.2 with ⟨e, n0⟩ | ⟨g, cap', cur, e, hb, hg, h3, h4, h5, h6⟩
  · injection e with e1 e2 e3
    subst e1 e3
    have : k = 0 := by omega
    subst this
    exact .inl ⟨rfl, rfl⟩
  · injection e with e1 e2 e3
    subst e1 e3
    refine .inr ⟨g, cap, cur, rfl, hb, hg, by omega, h4, h5, ?_⟩
    rw [List.map_take, ← h6, List.take_take]
    congr 1
    omega
set_option maxHeartbeats 4000000 in
set_option maxRecDepth 100000 in
/-- slices.Equal of two lists of numbers. -/
theorem equal_any (a b : Option Addr) (A B : List Int) (ca cb : Nat) (w : World) (ha : RdI w a A) (hb : RdI w b B) (hA : A.length ≤ 140737488355328) :
    Calls Tryz.prog 32 #[.slice a A.length ca, .slice b B.length cb] w fun e w' => e = .returned (.bool (decide (A = B))) ∧ ∃ m, w' = w.drewN m := by
  by_cases hl : A.length = B.length
  · have HAB : A = B ↔ ∀ j, j < A.length → A.getD j 0 = B.getD j 0 := by
      constructor
      · intro h j _
        rw [h]
      · intro h
        refine List.ext_getElem hl fun j h1 h2 => ?_
        have := h j h1
        rw [List.getD_eq_getElem?_getD, List.getD_eq_getElem?_getD, List.getElem?_eq_getElem h1, List.getElem?_eq_getElem h2] at this
        exact this
    have hbl : B.length = A.length := hl.symm
    rw [hbl]
    obtain ⟨L, hL⟩ : ∃ L, L = A.length := ⟨_, rfl⟩
    rw [← hL] at hA HAB hbl ⊢
    have HEQ := hid HAB
    have RA := hid ha
    have RB := hid hb
    have HLA := hid hL
    have HLB := hid hbl
    clear HAB ha hb hL hbl hl
    go_enter Tryz.func32, Tryz.ntmps32
    go_wp2
    go_loopw [13] (fun i wr => ∃ k : Nat, k ≤ L ∧ i = .int .i64 k ∧ Hid (∃ m, wr = w.drewN m) ∧ Hid (∀ j, j < k → A.getD j 0 = B.getD j 0)) (fun i _ => L - (intOf i).toNat)
    case atStart => exact ⟨0, Nat.zero_le _, rfl, hid ⟨0, rfl⟩, hid (fun j hj => by omega)⟩
    case round =>
      obtain ⟨k, hk, rfl, HB, HE⟩ := hrel
      by_cases hlt : k < L
      · obtain ⟨m0, hm0⟩ := HB.out
        have r1 : RdI wr a A := by rw [hm0]; exact RA.out
        have r2 : RdI wr b B := by rw [hm0]; exact RB.out
        have HM := hid hm0
        clear hm0
        rcases r1 with h0 | ⟨b1, o1, rfl, hb1, hc1⟩
        · have := HLA.out; omega
        rcases r2 with h0 | ⟨b2, o2, rfl, hb2, hc2⟩
        · have := HLB.out; omega
        have p0 := hc1 k (by rw [← HLA.out]; exact hlt)
        have q0 := hc2 k (by rw [HLB.out]; exact hlt)
        obtain ⟨x, hx⟩ : ∃ x, x = A.getD k 0 := ⟨_, rfl⟩
        obtain ⟨y, hy⟩ : ∃ y, y = B.getD k 0 := ⟨_, rfl⟩
        rw [← hx] at p0
        rw [← hy] at q0
        have HX := hid hx
        have HY := hid hy
        clear hc1 hc2 hx hy
        have g1 : (k : Int) < (L : Int) := by omega
        have g2 : (0 : Int) ≤ (k : Int) := by omega
        by_cases exy : x = y
        · have HXY := hid exy
          have e1 : (x != y) = false := by simp [exy]
          clear exy
          go_wp2_with fail
          go_quiet (fail)
          go_wp2_with fail
          refine ⟨⟨k + 1, by omega, by go_num, hid ⟨m0 + nq, by rw [HM.out, World.drewN_drewN]⟩, hid (fun j hj => ?_)⟩, by simp [intOf]; omega⟩
          by_cases e : j = k
          · rw [e, ← HX.out, ← HY.out, HXY.out]
          · exact HE.out j (by omega)
        · have e1 : (x != y) = true := by simp [exy]
          go_wp2_with fail
          go_quiet (fail)
          go_wp2_with fail
          go_ret
          refine ⟨ret_bool ?_, m0 + nq, by rw [HM.out, World.drewN_drewN]⟩
          have hne : ¬ A = B := fun h => exy (by rw [HX.out, HY.out, h])
          simp [hne]
      · have hkl : k = L := by omega
        subst hkl
        go_wp2_with fail
        go_ret
        refine ⟨ret_bool ?_, HB.out⟩
        have he := HEQ.out.2 HE.out
        simp [he]
  · have hne : ¬ A = B := fun h => hl (by rw [h])
    have h1 : ((A.length : Int) != (B.length : Int)) = true := by simp; omega
    go_enter Tryz.func32, Tryz.ntmps32
    go_wp2
    go_ret
    exact ⟨ret_bool (by simp [hne]), 0, rfl⟩
end Go.Proofs.YtimmjikpcekffaaGreatDoor.L
