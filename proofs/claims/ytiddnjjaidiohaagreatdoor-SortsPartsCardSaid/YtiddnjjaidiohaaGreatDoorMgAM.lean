import Derived.Test.YtiddnjjaidiohaaGreatDoorSa2
import Derived.Test.YtiddnjjaidiohaaGreatDoorMgAH
import Derived.Test.YtiddnjjaidiohaaGreatDoorMgAK
namespace Go.Proofs.YtiddnjjaidiohaaGreatDoor.L
open Go.RowKit
set_option linter.unusedVariables false
theorem sortof_any (pa : Option Addr) (pn pc gt n : Nat) (so si : Nat → Int) (k : Int) (tx : ByteArray) (nu : Int) (ka : Option Addr) (ks : List Int) (kc : Nat) (w : World) (hl : ks.length ≤ 1000) (hn : n ≤ 1000) (hy : TyR w gt n so si) (hk : RdI w ka ks) (hin : ∀ x, x ∈ ks → 0 ≤ x ∧ x < n) :
    Calls Tryz.prog 61 #[.agg #[.slice pa pn pc, .slice (some ⟨gt, 0, none⟩) n n], .agg #[.int .i64 k, .string tx, .int .i64 nu, .slice ka ks.length kc]] w fun e w' => e = .returned (.int .i64 (srO k ks.length (so (ks.getD 0 0).toNat))) ∧ Below w.heap.size w w' := by
  by_cases h : k ≠ 11 ∧ k ≠ 14 ∧ k ≠ 15 ∧ k ≠ 12 ∧ k ≠ 18 ∧ k ≠ 19 ∧ k ≠ 20 ∧ k ≠ 16 ∧ k ≠ 17 ∧ k ≠ 13
  · have hr : srO k ks.length (so (ks.getD 0 0).toNat) = 1 := by
      unfold srO
      rw [if_neg (by omega), if_neg (by omega), if_neg (by omega), if_neg (by omega)]
    rw [hr]
    exact so_else pa pn pc gt n tx nu ka ks.length kc k h w
  · have hc : k = 11 ∨ k = 14 ∨ k = 15 ∨ k = 12 ∨ k = 18 ∨ k = 19 ∨ k = 20 ∨ k = 16 ∨ k = 17 ∨ k = 13 := by omega
    rcases hc with rfl | rfl | rfl | rfl | rfl | rfl | rfl | rfl | rfl | rfl
    · exact so_11 pa pn pc gt n tx nu ka ks.length kc w
    · exact so_14 pa pn pc gt n tx nu ka ks.length kc w
    · exact so_15 pa pn pc gt n tx nu ka ks.length kc w
    · exact so_12 pa pn pc gt n tx nu ka ks.length kc w
    · exact so_18 pa pn pc gt n tx nu ka ks.length kc w
    · exact so_19 pa pn pc gt n tx nu ka ks.length kc w
    · exact so_20 pa pn pc gt n tx nu ka ks.length kc w
    · exact so_16 pa pn pc gt n tx nu ka ks.length kc w
    · exact so_17 pa pn pc gt n tx nu ka ks.length kc w
    · by_cases hm : ks.length = 0
      · have hr : srO 13 ks.length (so (ks.getD 0 0).toNat) = 6 := by simp [srO, hm]
        rw [hr]
        exact so_13n pa pn pc gt n tx nu ka ks.length kc hm w
      · have hr : srO 13 ks.length (so (ks.getD 0 0).toNat) = setO (so (ks.getD 0 0).toNat) := by
          unfold srO
          rw [if_neg (by omega), if_neg (by omega), if_neg (by omega), if_pos rfl, if_neg hm]
        rw [hr]
        exact so_13 pa pn pc gt n so si tx nu ka ks kc w hm hl hn hy hk hin
end Go.Proofs.YtiddnjjaidiohaaGreatDoor.L
namespace Go.Proofs.YtiddnjjaidiohaaGreatDoor.L
open Go.RowKit
set_option linter.unusedVariables false
/-- A comparison and a membership have two kids, an int has one. -/
def ShS (p : Pt) : Prop := (p.kind = 6 ∨ p.kind = 7 → ∃ x y : Nat, p.kids = [(x : Int), (y : Int)]) ∧ (p.kind = 19 → ∃ x : Nat, p.kids = [(x : Int)])
theorem broken_any (a : Option Addr) (T : List Pt) (pc gt n : Nat) (so si : Nat → Int) (t : Nat) (sc : Int) (w : World) (hT : PL w a T) (hy : TyR w gt n so si) (ht : t < T.length) (hin : ∀ x, x ∈ (pt T t).kids → 0 ≤ x ∧ x < n) (hkl : (pt T t).kids.length ≤ 1000) (hL : T.length ≤ 1000) (hnl : n ≤ T.length) (hs : (pt T t).text.size ≤ maxLen) (hp : ShS (pt T t)) :
    Calls Tryz.prog 60 #[.agg #[.slice a T.length pc, .slice (some ⟨gt, 0, none⟩) n n], .int .i64 (t : Int), .int .i64 sc] w fun e w' => ∃ ev, e = .returned ev ∧ AnsR (brO T so si t sc) w.heap.size w' ev ∧ Below w.heap.size w w' := by
  by_cases h6 : (pt T t).kind = 6
  · obtain ⟨x, y, hk⟩ := hp.1 (.inl h6)
    exact br_6 a T pc gt n so si t sc w hT hy ht hin hkl hL hnl h6 x y hk
  by_cases h7 : (pt T t).kind = 7
  · obtain ⟨x, y, hk⟩ := hp.1 (.inr h7)
    exact br_7 a T pc gt n so si t sc w hT hy ht hin hkl hL hnl h7 x y hk
  by_cases h13 : (pt T t).kind = 13
  · exact br_13 a T pc gt n so si t sc w hT hy ht hin hkl hL hnl h13
  by_cases h19 : (pt T t).kind = 19
  · obtain ⟨x, hk⟩ := hp.2 h19
    exact br_19 a T pc gt n so si t sc w hT hy ht hin hkl hL hnl h19 x hk
  exact br_else a T pc gt n so si t sc w hT hy ht hin hkl hL hnl ⟨h6, h7, h13, h19⟩ hs
/-- All that over does to the part t: the types, and the first fault. -/
def ov (T : List Pt) : Nat → (Nat → Int × Int) → Nat → Int → (Nat → Int × Int) × Option (Nat × Int)
  | 0, ty, _, _ => (ty, none)
  | f + 1, ty, t, sc =>
    let r := (pt T t).kids.foldl (fun (acc : (Nat → Int × Int) × Option (Nat × Int)) x => match acc.2 with
      | some e => (acc.1, some e)
      | none => ov T f acc.1 x.toNat (scpO (pt T t).kind sc)) (ty, none)
    match r.2 with
    | some e => (r.1, some e)
    | none => match brO T (fun j => (r.1 j).1) (fun j => (r.1 j).2) t sc with
      | some e => (r.1, some e)
      | none => (fun j => if j = t then (srO (pt T t).kind (pt T t).kids.length (r.1 ((pt T t).kids.getD 0 0).toNat).1, siO (pt T t).kind (pt T t).num (jnO (fun j => (r.1 j).2) (pt T t).kids 0)) else r.1 j, none)
end Go.Proofs.YtiddnjjaidiohaaGreatDoor.L
namespace Go.Proofs.YtiddnjjaidiohaaGreatDoor.L
open Go.RowKit
set_option linter.unusedVariables false
/-- The types: a row of one's own. -/
def TyO (W : World) (base gt n : Nat) (ty : Nat → Int × Int) : Prop := ∃ xs, W.ownsRow base 47 2 (.slice (some ⟨gt, 0, none⟩) n n) n xs ∧ ∀ j, j < n → xs[j * 2]? = some (.int .i64 (ty j).1) ∧ xs[j * 2 + 1]? = some (.int .i64 (ty j).2)
theorem TyO.lt {W : World} {base gt n : Nat} {ty : Nat → Int × Int} (h : TyO W base gt n ty) : gt < W.heap.size ∧ base ≤ gt := by
  obtain ⟨xs, h, _⟩ := h
  rcases h.2 with ⟨h', _⟩ | ⟨g', cap', cur, h', hb, hg, _⟩
  · simp at h'
  · simp only [Value.slice.injEq, Option.some.injEq, Addr.mk.injEq, and_true, true_and] at h'
    obtain ⟨rfl, rfl⟩ := h'
    exact ⟨lt_blk hg, hb⟩
theorem TyO.ty {W : World} {base gt n : Nat} {ty : Nat → Int × Int} (h : TyO W base gt n ty) : TyR W gt n (fun j => (ty j).1) (fun j => (ty j).2) := by
  refine ⟨h.lt.1, fun j hj => ?_⟩
  obtain ⟨xs, h, hx⟩ := h
  exact ⟨(World.ownsRow.cellAt h (j * 2) (by omega)).trans (hx j hj).1, (World.ownsRow.cellAt h (j * 2 + 1) (by omega)).trans (hx j hj).2⟩
theorem TyO.fz {W : World} {base gt n : Nat} {ty : Nat → Int × Int} (h : TyO W base gt n ty) (j : Nat) : W.frozen? ⟨gt, j, none⟩ = false := by
  obtain ⟨xs, h, hx⟩ := h
  exact World.ownsRow.frozenAt h j
theorem TyO.low {W W' : World} {base gt n : Nat} {ty : Nat → Int × Int} (h : TyO W base gt n ty) (hk : Below W.heap.size W W') : TyO W' base gt n ty := by
  obtain ⟨xs, h, hx⟩ := h
  exact ⟨xs, World.ownsRow.kept (row := none) h ⟨hk.os, hk.tape, hk.output, hk.size, fun k hkl _ => hk.block k hkl⟩ (by simp [Value.ownBlock]), hx⟩
theorem TyO.set {W : World} {base gt n : Nat} {ty : Nat → Int × Int} (h : TyO W base gt n ty) (t : Nat) (ht : t < n) (u v : Int) :
    TyO ((W.setCell ⟨gt, t * 2, none⟩ (.int .i64 u)).setCell ⟨gt, t * 2 + 1, none⟩ (.int .i64 v)) base gt n (fun j => if j = t then (u, v) else ty j) ∧ But gt W ((W.setCell ⟨gt, t * 2, none⟩ (.int .i64 u)).setCell ⟨gt, t * 2 + 1, none⟩ (.int .i64 v)) := by
  obtain ⟨xs, h, hx⟩ := h
  have h1 := World.ownsRow.stored h (t * 2) (.int .i64 u)
  have h2 := World.ownsRow.stored h1.1 (t * 2 + 1) (.int .i64 v)
  refine ⟨⟨_, h2.1, fun j hj => ?_⟩, ?_⟩
  · have hl := h.1
    by_cases e : j = t
    · subst e
      constructor
      · rw [List.getElem?_set_ne (by omega), List.getElem?_set_self (by omega)]
        simp
      · rw [List.getElem?_set_self (by rw [List.length_set]; omega)]
        simp
    · constructor
      · rw [List.getElem?_set_ne (by omega), List.getElem?_set_ne (by omega)]
        simp only [if_neg e]
        exact (hx j hj).1
      · rw [List.getElem?_set_ne (by omega), List.getElem?_set_ne (by omega)]
        simp only [if_neg e]
        exact (hx j hj).2
  · exact (show But gt W (W.setCell ⟨gt, t * 2, none⟩ (.int .i64 u)) from ⟨rfl, rfl, rfl, by simp, fun b hb hg => Below.heap_setCell _ _ _ _ hg⟩).trans ⟨rfl, rfl, rfl, by simp, fun b hb hg => Below.heap_setCell _ _ _ _ hg⟩
/-- An error in memory: the fault, or the fault within parts. -/
inductive ErC (W : World) (g : Nat) (c : Nat) (a : Int) : Value → Prop
  | flt (N : Nat) : Flt W N c a → N ≠ g → ErC W g c a (fv N)
  | ins (t : Int) (ev : Value) : ErC W g c a ev → ErC W g c a (.iface 111 (.agg #[.int .i64 t, ev]))
theorem ErC.but {W W' : World} {g c : Nat} {a : Int} {ev : Value} (h : ErC W g c a ev) (hb : But g W W') : ErC W' g c a ev := by
  induction h with
  | flt N h hn => exact .flt N ((hb.block N (lt_blk h) hn).trans h) hn
  | ins t ev _ ih => exact .ins t ev ih
theorem ErC.ne {W : World} {g c : Nat} {a : Int} {ev : Value} (h : ErC W g c a ev) : ∃ u x, ev = .iface u x := by
  cases h with
  | flt N => exact ⟨_, _, rfl⟩
  | ins t ev => exact ⟨_, _, rfl⟩
/-- The answer of over. -/
def ErA (o : Option (Nat × Int)) (W : World) (g : Nat) (ev : Value) : Prop := (o = none ∧ ev = .nilIface) ∨ ∃ c a, o = some (c, a) ∧ ErC W g c a ev
theorem ErA.of {o : Option (Nat × Int)} {B g : Nat} {W : World} {ev : Value} (h : AnsR o B W ev) (hB : g < B) : ErA o W g ev := by
  rcases h with h | ⟨N, c, a, h1, rfl, h3, h4⟩
  · exact .inl h
  · exact .inr ⟨c, a, h1, .flt N h3 (by omega)⟩
end Go.Proofs.YtiddnjjaidiohaaGreatDoor.L
namespace Go.Proofs.YtiddnjjaidiohaaGreatDoor.L
open Go.RowKit
set_option linter.unusedVariables false
/-- One kid of over. -/
def stp (T : List Pt) (f : Nat) (kd sc : Int) (acc : (Nat → Int × Int) × Option (Nat × Int)) (x : Int) : (Nat → Int × Int) × Option (Nat × Int) := match acc.2 with
  | some e => (acc.1, some e)
  | none => ov T f acc.1 x.toNat (scpO kd sc)
/-- The part itself, when its kids are well. -/
def fin (T : List Pt) (t : Nat) (sc : Int) (ty : Nat → Int × Int) : (Nat → Int × Int) × Option (Nat × Int) := match brO T (fun j => (ty j).1) (fun j => (ty j).2) t sc with
  | some e => (ty, some e)
  | none => (fun j => if j = t then (srO (pt T t).kind (pt T t).kids.length (ty ((pt T t).kids.getD 0 0).toNat).1, siO (pt T t).kind (pt T t).num (jnO (fun j => (ty j).2) (pt T t).kids 0)) else ty j, none)
/-- The kids' answer, and then the part's. -/
def aft (T : List Pt) (t : Nat) (sc : Int) (r : (Nat → Int × Int) × Option (Nat × Int)) : (Nat → Int × Int) × Option (Nat × Int) := match r.2 with
  | some e => (r.1, some e)
  | none => fin T t sc r.1
theorem ov_succ (T : List Pt) (f : Nat) (ty : Nat → Int × Int) (t : Nat) (sc : Int) : ov T (f + 1) ty t sc = aft T t sc ((pt T t).kids.foldl (stp T f (pt T t).kind sc) (ty, none)) := rfl
theorem ov_kids {T : List Pt} {f : Nat} {ty ty' : Nat → Int × Int} {t : Nat} {sc : Int} (h : (pt T t).kids.foldl (stp T f (pt T t).kind sc) (ty, none) = (ty', none)) : ov T (f + 1) ty t sc = fin T t sc ty' := by
  rw [ov_succ, h]
  rfl
theorem ov_err {T : List Pt} {f : Nat} {ty ty' : Nat → Int × Int} {t : Nat} {sc : Int} {e : Nat × Int} (h : (pt T t).kids.foldl (stp T f (pt T t).kind sc) (ty, none) = (ty', some e)) : ov T (f + 1) ty t sc = (ty', some e) := by
  rw [ov_succ, h]
  rfl
theorem stp_some (T : List Pt) (f : Nat) (kd sc : Int) (ty : Nat → Int × Int) (e : Nat × Int) (l : List Int) : l.foldl (stp T f kd sc) (ty, some e) = (ty, some e) := by
  induction l with
  | nil => rfl
  | cons x r ih => exact ih
theorem fold_step {T : List Pt} {f : Nat} {kd sc : Int} {ty tk : Nat → Int × Int} {ks : List Int} {k : Nat} (h : (ks.take k).foldl (stp T f kd sc) (ty, none) = (tk, none)) (x : Nat) (hx : ks[k]? = some (x : Int)) : (ks.take (k + 1)).foldl (stp T f kd sc) (ty, none) = ov T f tk x (scpO kd sc) := by
  rw [List.take_add_one, hx, List.foldl_append, h]
  rfl
theorem fold_err {T : List Pt} {f : Nat} {kd sc : Int} {ty tk : Nat → Int × Int} {ks : List Int} {k : Nat} {e : Nat × Int} (h : (ks.take k).foldl (stp T f kd sc) (ty, none) = (tk, some e)) : ks.foldl (stp T f kd sc) (ty, none) = (tk, some e) := by
  rw [← List.take_append_drop k ks, List.foldl_append, h, stp_some]
/-- What a tree must be. -/
structure GdS (T : List Pt) : Prop where
  len : T.length ≤ 1000
  kid : ∀ t, t < T.length → ∀ x, x ∈ (pt T t).kids → 0 ≤ x ∧ x < t
  kl : ∀ t, t < T.length → (pt T t).kids.length ≤ 1000
  txt : ∀ t, t < T.length → (pt T t).text.size ≤ maxLen
  shp : ∀ t, t < T.length → ShS (pt T t)
theorem but_below {w0 w w' : World} {gt : Nat} (h : Below w0.heap.size w0 w) (hb : But gt w w') (hg : w0.heap.size ≤ gt) : Below w0.heap.size w0 w' := ⟨hb.os.trans h.os, hb.tape.trans h.tape, hb.output.trans h.output, Nat.le_trans h.size hb.size, fun k hk => (hb.block k (Nat.lt_of_lt_of_le hk h.size) (by omega)).trans (h.block k hk)⟩
end Go.Proofs.YtiddnjjaidiohaaGreatDoor.L
