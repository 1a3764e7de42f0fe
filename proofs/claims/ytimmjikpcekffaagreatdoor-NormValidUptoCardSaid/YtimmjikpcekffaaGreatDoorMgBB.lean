import Derived.Test.YtimmjikpcekffaaGreatDoorSa2
import Derived.Test.YtimmjikpcekffaaGreatDoorMgAX
import Derived.Test.YtimmjikpcekffaaGreatDoorMgAV
namespace Go.Proofs.YtimmjikpcekffaaGreatDoor.L
open Go.RowKit
set_option linter.unusedVariables false
theorem sortof_any (pa : Option Addr) (pn pc gt n : Nat) (so si : Nat → Int) (k : Int) (tx : ByteArray) (nu : Int) (ka : Option Addr) (ks : List Int) (kc : Nat) (w : World) (hl : ks.length ≤ 1000) (hn : n ≤ 1000) (hy : TyR w gt n so si) (hk : RdI w ka ks) (hin : ∀ x, x ∈ ks → 0 ≤ x ∧ x < n) :
    Calls Tryz.prog 101 #[.agg #[.slice pa pn pc, .slice (some ⟨gt, 0, none⟩) n n], .agg #[.int .i64 k, .string tx, .int .i64 nu, .slice ka ks.length kc]] w fun e w' => e = .returned (.int .i64 (srO k ks.length (so (ks.getD 0 0).toNat))) ∧ Below w.heap.size w w' := by
  by_cases h : k ≠ 11 ∧ k ≠ 14 ∧ k ≠ 15 ∧ k ≠ 12 ∧ k ≠ 18 ∧ k ≠ 19 ∧ k ≠ 20 ∧ k ≠ 16 ∧ k ≠ 17 ∧ k ≠ 13
  · have hr : srO k ks.length (so (ks.getD 0 0).toNat) = 1 := by
      unfold srO
      rw [if_neg (by omega), if_neg (by omega), if_neg (by omega), if_neg (by omega)]
    rw [hr]
    exact so_else pa pn pc gt n tx nu ka ks.length kc k h w
  · have hc : k = 11 ∨ k = 14 ∨ k = 15 ∨ k = 12 ∨ k = 18 ∨ k = 19 ∨ k = 20 ∨ k = 16 ∨ k = 17 ∨ k = 13 := by omega
    rcases hc with rfl | rfl | rfl | rfl | rfl | rfl | rfl | rfl | rfl | rfl
    · exact so_11 pa pn pc gt n tx nu ka ks.length kc w
    · exact so_14 pa pn pc gt n tx nu ka ks.length kc w
    · exact so_15 pa pn pc gt n tx nu ka ks.length kc w
    · exact so_12 pa pn pc gt n tx nu ka ks.length kc w
    · exact so_18 pa pn pc gt n tx nu ka ks.length kc w
    · exact so_19 pa pn pc gt n tx nu ka ks.length kc w
    · exact so_20 pa pn pc gt n tx nu ka ks.length kc w
    · exact so_16 pa pn pc gt n tx nu ka ks.length kc w
    · exact so_17 pa pn pc gt n tx nu ka ks.length kc w
    · by_cases hm : ks.length = 0
      · have hr : srO 13 ks.length (so (ks.getD 0 0).toNat) = 6 := by simp [srO, hm]
        rw [hr]
        exact so_13n pa pn pc gt n tx nu ka ks.length kc hm w
      · have hr : srO 13 ks.length (so (ks.getD 0 0).toNat) = setO (so (ks.getD 0 0).toNat) := by
          unfold srO
          rw [if_neg (by omega), if_neg (by omega), if_neg (by omega), if_pos rfl, if_neg hm]
        rw [hr]
        exact so_13 pa pn pc gt n so si tx nu ka ks kc w hm hl hn hy hk hin
end Go.Proofs.YtimmjikpcekffaaGreatDoor.L
namespace Go.Proofs.YtimmjikpcekffaaGreatDoor.L
open Go.RowKit
set_option linter.unusedVariables false
/-- A comparison and a membership have two kids, an int has one. -/
def ShS (p : Pt) : Prop := (p.kind = 6 ∨ p.kind = 7 → ∃ x y : Nat, p.kids = [(x : Int), (y : Int)]) ∧ (p.kind = 19 → ∃ x : Nat, p.kids = [(x : Int)])
theorem broken_any (a : Option Addr) (T : List Pt) (pc gt n : Nat) (so si : Nat → Int) (t : Nat) (sc : Int) (w : World) (hT : PL w a T) (hy : TyR w gt n so si) (ht : t < T.length) (hin : ∀ x, x ∈ (pt T t).kids → 0 ≤ x ∧ x < n) (hkl : (pt T t).kids.length ≤ 1000) (hL : T.length ≤ 1000) (hnl : n ≤ T.length) (hs : (pt T t).text.size ≤ maxLen) (hp : ShS (pt T t)) :
    Calls Tryz.prog 100 #[.agg #[.slice a T.length pc, .slice (some ⟨gt, 0, none⟩) n n], .int .i64 (t : Int), .int .i64 sc] w fun e w' => ∃ ev, e = .returned ev ∧ AnsR (brO T so si t sc) w.heap.size w' ev ∧ Below w.heap.size w w' := by
  by_cases h6 : (pt T t).kind = 6
  · obtain ⟨x, y, hk⟩ := hp.1 (.inl h6)
    exact br_6 a T pc gt n so si t sc w hT hy ht hin hkl hL hnl h6 x y hk
  by_cases h7 : (pt T t).kind = 7
  · obtain ⟨x, y, hk⟩ := hp.1 (.inr h7)
    exact br_7 a T pc gt n so si t sc w hT hy ht hin hkl hL hnl h7 x y hk
  by_cases h13 : (pt T t).kind = 13
  · exact br_13 a T pc gt n so si t sc w hT hy ht hin hkl hL hnl h13
  by_cases h19 : (pt T t).kind = 19
  · obtain ⟨x, hk⟩ := hp.2 h19
    exact br_19 a T pc gt n so si t sc w hT hy ht hin hkl hL hnl h19 x hk
  exact br_else a T pc gt n so si t sc w hT hy ht hin hkl hL hnl ⟨h6, h7, h13, h19⟩ hs
/-- All that over does to the part t: the types, and the first fault. -/
def ov (T : List Pt) : Nat → (Nat → Int × Int) → Nat → Int → (Nat → Int × Int) × Option (Nat × Int)
  | 0, ty, _, _ => (ty, none)
  | f + 1, ty, t, sc =>
    let r := (pt T t).kids.foldl (fun (acc : (Nat → Int × Int) × Option (Nat × Int)) x => match acc.2 with
      | some e => (acc.1, some e)
      | none => ov T f acc.1 x.toNat (scpO (pt T t).kind sc)) (ty, none)
    match r.2 with
    | some e => (r.1, some e)
    | none => match brO T (fun j => (r.1 j).1) (fun j => (r.1 j).2) t sc with
      | some e => (r.1, some e)
      | none => (fun j => if j = t then (srO (pt T t).kind (pt T t).kids.length (r.1 ((pt T t).kids.getD 0 0).toNat).1, siO (pt T t).kind (pt T t).num (jnO (fun j => (r.1 j).2) (pt T t).kids 0)) else r.1 j, none)
end Go.Proofs.YtimmjikpcekffaaGreatDoor.L
namespace Go.Proofs.YtimmjikpcekffaaGreatDoor.L
open Go.RowKit
set_option linter.unusedVariables false
/-- The types: a row of one's own. -/
def TyO (W : World) (base gt n : Nat) (ty : Nat → Int × Int) : Prop := ∃ xs, W.ownsRow base 175 2 (.slice (some ⟨gt, 0, none⟩) n n) n xs ∧ ∀ j, j < n → xs[j * 2]? = some (.int .i64 (ty j).1) ∧ xs[j * 2 + 1]? = some (.int .i64 (ty j).2)
theorem TyO.lt {W : World} {base gt n : Nat} {ty : Nat → Int × Int} (h : TyO W base gt n ty) : gt < W.heap.size ∧ base ≤ gt := by
  obtain ⟨xs, h, _⟩ := h
  rcases h.2 with ⟨h', _⟩ | ⟨g', cap', cur, h', hb, hg, _⟩
  · simp at h'
  · simp only [Value.slice.injEq, Option.some.injEq, Addr.mk.injEq, and_true, true_and] at h'
    obtain ⟨rfl, rfl⟩ := h'
    exact ⟨lt_blk hg, hb⟩
theorem TyO.ty {W : World} {base gt n : Nat} {ty : Nat → Int × Int} (h : TyO W base gt n ty) : TyR W gt n (fun j => (ty j).1) (fun j => (ty j).2) := by
  refine ⟨h.lt.1, fun j hj => ?_⟩
  obtain ⟨xs, h, hx⟩ := h
  exact ⟨(World.ownsRow.cellAt h (j * 2) (by omega)).trans (hx j hj).1, (World.ownsRow.cellAt h (j * 2 + 1) (by omega)).trans (hx j hj).2⟩
theorem TyO.fz {W : World} {base gt n : Nat} {ty : Nat → Int × Int} (h : TyO W base gt n ty) (j : Nat) : W.frozen? ⟨gt, j, none⟩ = false := by
  obtain ⟨xs, h, hx⟩ := h
  exact World.ownsRow.frozenAt h j
theorem TyO.low {W W' : World} {base gt n : Nat} {ty : Nat → Int × Int} (h : TyO W base gt n ty) (hk : Below W.heap.size W W') : TyO W' base gt n ty := by
  obtain ⟨xs, h, hx⟩ := h
  exact ⟨xs, World.ownsRow.kept (row := none) h ⟨hk.os, hk.tape, hk.output, hk.size, fun k hkl _ => hk.block k hkl⟩ (by simp [Value.ownBlock]), hx⟩
theorem TyO.set {W : World} {base gt n : Nat} {ty : Nat → Int × Int} (h : TyO W base gt n ty) (t : Nat) (ht : t < n) (u v : Int) :
    TyO ((W.setCell ⟨gt, t * 2, none⟩ (.int .i64 u)).setCell ⟨gt, t * 2 + 1, none⟩ (.int .i64 v)) base gt n (fun j => if j = t then (u, v) else ty j) ∧ But gt W ((W.setCell ⟨gt, t * 2, none⟩ (.int .i64 u)).setCell ⟨gt, t * 2 + 1, none⟩ (.int .i64 v)) := by
  obtain ⟨xs, h, hx⟩ := h
  have h1 := World.ownsRow.stored h (t * 2) (.int .i64 u)
  have h2 := World.ownsRow.stored h1.1 (t * 2 + 1) (.int .i64 v)
  refine ⟨⟨_, h2.1, fun j hj => ?_⟩, ?_⟩
  · have hl := h.1
    by_cases e : j = t
    · subst e
      constructor
      · rw [List.getElem?_set_ne (by omega), List.getElem?_set_self (by omega)]
        simp
      · rw [List.getElem?_set_self (by rw [List.length_set]; omega)]
        simp
    · constructor
      · rw [List.getElem?_set_ne (by omega), List.getElem?_set_ne (by omega)]
        simp only [if_neg e]
        exact (hx j hj).1
      · rw [List.getElem?_set_ne (by omega), List.getElem?_set_ne (by omega)]
        simp only [if_neg e]
        exact (hx j hj).2
  · exact (show But gt W (W.setCell ⟨gt, t * 2, none⟩ (.int .i64 u)) from ⟨rfl, rfl, rfl, by simp, fun b hb hg => Below.heap_setCell _ _ _ _ hg⟩).trans ⟨rfl, rfl, rfl, by simp, fun b hb hg => Below.heap_setCell _ _ _ _ hg⟩
/-- An error in memory: the fault, or the fault within parts. -/
inductive ErC (W : World) (g : Nat) (c : Nat) (a : Int) : Value → Prop
  | flt (N : Nat) : Flt W N c a → N ≠ g → ErC W g c a (fv N)
  | ins (t : Int) (ev : Value) : ErC W g c a ev → ErC W g c a (.iface 170 (.agg #[.int .i64 t, ev]))
theorem ErC.but {W W' : World} {g c : Nat} {a : Int} {ev : Value} (h : ErC W g c a ev) (hb : But g W W') : ErC W' g c a ev := by
  induction h with
  | flt N h hn => exact .flt N ((hb.block N (lt_blk h) hn).trans h) hn
  | ins t ev _ ih => exact .ins t ev ih
theorem ErC.ne {W : World} {g c : Nat} {a : Int} {ev : Value} (h : ErC W g c a ev) : ∃ u x, ev = .iface u x := by
  cases h with
  | flt N => exact ⟨_, _, rfl⟩
  | ins t ev => exact ⟨_, _, rfl⟩
/-- The answer of over. -/
def ErA (o : Option (Nat × Int)) (W : World) (g : Nat) (ev : Value) : Prop := (o = none ∧ ev = .nilIface) ∨ ∃ c a, o = some (c, a) ∧ ErC W g c a ev
theorem ErA.of {o : Option (Nat × Int)} {B g : Nat} {W : World} {ev : Value} (h : AnsR o B W ev) (hB : g < B) : ErA o W g ev := by
  rcases h with h | ⟨N, c, a, h1, rfl, h3, h4⟩
  · exact .inl h
  · exact .inr ⟨c, a, h1, .flt N h3 (by omega)⟩
end Go.Proofs.YtimmjikpcekffaaGreatDoor.L
namespace Go.Proofs.YtimmjikpcekffaaGreatDoor.L
open Go.RowKit
set_option linter.unusedVariables false
/-- One kid of over. -/
def stp (T : List Pt) (f : Nat) (kd sc : Int) (acc : (Nat → Int × Int) × Option (Nat × Int)) (x : Int) : (Nat → Int × Int) × Option (Nat × Int) := match acc.2 with
  | some e => (acc.1, some e)
  | none => ov T f acc.1 x.toNat (scpO kd sc)
/-- The part itself, when its kids are well. -/
def fin (T : List Pt) (t : Nat) (sc : Int) (ty : Nat → Int × Int) : (Nat → Int × Int) × Option (Nat × Int) := match brO T (fun j => (ty j).1) (fun j => (ty j).2) t sc with
  | some e => (ty, some e)
  | none => (fun j => if j = t then (srO (pt T t).kind (pt T t).kids.length (ty ((pt T t).kids.getD 0 0).toNat).1, siO (pt T t).kind (pt T t).num (jnO (fun j => (ty j).2) (pt T t).kids 0)) else ty j, none)
/-- The kids' answer, and then the part's. -/
def aft (T : List Pt) (t : Nat) (sc : Int) (r : (Nat → Int × Int) × Option (Nat × Int)) : (Nat → Int × Int) × Option (Nat × Int) := match r.2 with
  | some e => (r.1, some e)
  | none => fin T t sc r.1
theorem ov_succ (T : List Pt) (f : Nat) (ty : Nat → Int × Int) (t : Nat) (sc : Int) : ov T (f + 1) ty t sc = aft T t sc ((pt T t).kids.foldl (stp T f (pt T t).kind sc) (ty, none)) := rfl
theorem ov_kids {T : List Pt} {f : Nat} {ty ty' : Nat → Int × Int} {t : Nat} {sc : Int} (h : (pt T t).kids.foldl (stp T f (pt T t).kind sc) (ty, none) = (ty', none)) : ov T (f + 1) ty t sc = fin T t sc ty' := by
  rw [ov_succ, h]
  rfl
theorem ov_err {T : List Pt} {f : Nat} {ty ty' : Nat → Int × Int} {t : Nat} {sc : Int} {e : Nat × Int} (h : (pt T t).kids.foldl (stp T f (pt T t).kind sc) (ty, none) = (ty', some e)) : ov T (f + 1) ty t sc = (ty', some e) := by
  rw [ov_succ, h]
  rfl
theorem stp_some (T : List Pt) (f : Nat) (kd sc : Int) (ty : Nat → Int × Int) (e : Nat × Int) (l : List Int) : l.foldl (stp T f kd sc) (ty, some e) = (ty, some e) := by
  induction l with
  | nil => rfl
  | cons x r ih => exact ih
theorem fold_step {T : List Pt} {f : Nat} {kd sc : Int} {ty tk : Nat → Int × Int} {ks : List Int} {k : Nat} (h : (ks.take k).foldl (stp T f kd sc) (ty, none) = (tk, none)) (x : Nat) (hx : ks[k]? = some (x : Int)) : (ks.take (k + 1)).foldl (stp T f kd sc) (ty, none) = ov T f tk x (scpO kd sc) := by
  rw [List.take_add_one, hx, List.foldl_append, h]
  rfl
theorem fold_err {T : List Pt} {f : Nat} {kd sc : Int} {ty tk : Nat → Int × Int} {ks : List Int} {k : Nat} {e : Nat × Int} (h : (ks.take k).foldl (stp T f kd sc) (ty, none) = (tk, some e)) : ks.foldl (stp T f kd sc) (ty, none) = (tk, some e) := by
  rw [← List.take_append_drop k ks, List.foldl_append, h, stp_some]
/-- What a tree must be. -/
structure GdS (T : List Pt) : Prop where
  len : T.length ≤ 1000
  kid : ∀ t, t < T.length → ∀ x, x ∈ (pt T t).kids → 0 ≤ x ∧ x < t
  kl : ∀ t, t < T.length → (pt T t).kids.length ≤ 1000
  txt : ∀ t, t < T.length → (pt T t).text.size ≤ maxLen
  shp : ∀ t, t < T.length → ShS (pt T t)
theorem but_below {w0 w w' : World} {gt : Nat} (h : Below w0.heap.size w0 w) (hb : But gt w w') (hg : w0.heap.size ≤ gt) : Below w0.heap.size w0 w' := ⟨hb.os.trans h.os, hb.tape.trans h.tape, hb.output.trans h.output, Nat.le_trans h.size hb.size, fun k hk => (hb.block k (Nat.lt_of_lt_of_le hk h.size) (by omega)).trans (h.block k hk)⟩
end Go.Proofs.YtimmjikpcekffaaGreatDoor.L
namespace Go.Proofs.YtimmjikpcekffaaGreatDoor.L
open Go.RowKit
set_option linter.unusedVariables false
theorem cell_othS {W : World} {g o : Nat} {v : Value} {b j : Nat} (h : b ≠ g) : (W.setCell ⟨g, o, none⟩ v).cell? ⟨b, j, none⟩ = W.cell? ⟨b, j, none⟩ := World.cell?_of_block (w := W) (a := ⟨b, j, none⟩) (Below.heap_setCell W ⟨g, o, none⟩ v b h)
theorem unbut {g : Nat} {w w' : World} (h : But g w.drew w') : But g w w' := ⟨h.os, h.tape, h.output, h.size, h.block⟩
set_option maxHeartbeats 16000000 in
set_option maxRecDepth 100000 in
theorem over_any (a : Option Addr) (T : List Pt) (pc gt : Nat) (w0 : World) (hT : PL w0 a T) (hG : GdS T) : ∀ (f t : Nat) (sc : Int) (w : World) (ty : Nat → Int × Int), t < T.length → t < f → Below w0.heap.size w0 w → TyO w w0.heap.size gt T.length ty →
    Calls Tryz.prog 68 #[.agg #[.slice a T.length pc, .slice (some ⟨gt, 0, none⟩) T.length T.length], .int .i64 (t : Int), .int .i64 sc] w fun e w' => ∃ ev, e = .returned ev ∧ ErA (ov T f ty t sc).2 w' gt ev ∧ TyO w' w0.heap.size gt T.length (ov T f ty t sc).1 ∧ But gt w w' := by
  intro f
  induction f with
  | zero => intro t sc w ty ht hf; omega
  | succ f ih =>
    intro t sc w ty ht hf hb hy
    have IH := hid ih
    have HBRK := hid (fun so si W h1 h2 => broken_any a T pc gt T.length so si t sc W h1 h2 ht (fun x hx => by have := hG.kid t ht x hx; omega) (hG.kl t ht) hG.len (Nat.le_refl _) (hG.txt t ht) (hG.shp t ht))
    have hL := hG.len
    have hml := hG.kl t ht
    have HKID := hid (hG.kid t ht)
    have HGT := hid hy.lt
    have HT := hid hT
    have HTL := hid ht
    have HTF := hid hf
    have HY := hid hy
    have HB00 := hid hb
    obtain ⟨L, hLe⟩ : ∃ L, L = T.length := ⟨_, rfl⟩
    have HL := hid hLe
    rw [← hLe] at hL ht HBRK IH HY ⊢
    have HB0 := hid (belowA w (.cells #[.slice a L pc, .slice (some ⟨gt, 0, none⟩) L L] 125))
    have HX0 := hid (heap_alloc_new w (.cells #[.slice a L pc, .slice (some ⟨gt, 0, none⟩) L L] 125))
    clear hT hG hy hb hLe ih hf
    go_enter Tryz.func68, Tryz.ntmps68
    go_upto_region 1 with (fail)
    generalize w.alloc (.cells #[.slice a L pc, .slice (some ⟨gt, 0, none⟩) L L] 125) = X at *
    have HBX := hid (show Below w0.heap.size w0 X from HB00.out.trans (HB0.out.mono HB00.out.size))
    have ⟨x0, x1⟩ := cellsW HX0.out
    rcases HT.out with h0 | ⟨b2, o2, rfl, hb2, hc2⟩
    · have := HTL.out; omega
    obtain ⟨ka, kc, q0, q1, q2, q3, rk⟩ := hc2 t HTL.out
    obtain ⟨kd, hkd⟩ : ∃ kd, kd = (pt T t).kind := ⟨_, rfl⟩
    obtain ⟨tx, htx⟩ : ∃ tx, tx = (pt T t).text := ⟨_, rfl⟩
    obtain ⟨nu, hnu⟩ : ∃ nu, nu = (pt T t).num := ⟨_, rfl⟩
    obtain ⟨ks, hks⟩ : ∃ ks, ks = (pt T t).kids := ⟨_, rfl⟩
    rw [← hkd] at q0
    rw [← htx] at q1
    rw [← hnu] at q2
    rw [← hks] at q3 rk hml HKID
    obtain ⟨m, hm⟩ : ∃ m, m = ks.length := ⟨_, rfl⟩
    rw [← hm] at q3 hml
    have HKD := hid hkd
    have HTXT := hid htx
    have HNU := hid hnu
    have HKS := hid hks
    have HM := hid hm
    have RK := hid rk
    replace q0 := (HBX.out.cell hb2).trans q0
    replace q1 := (HBX.out.cell hb2).trans q1
    replace q2 := (HBX.out.cell hb2).trans q2
    replace q3 := (HBX.out.cell hb2).trans q3
    have g5 : (t : Int) < (L : Int) := by omega
    have g6 : (0 : Int) ≤ (t : Int) := by omega
    have ht4 : ((t : Int) * 4).toNat = t * 4 := by omega
    have HB1 := hid (belowA X (.cells #[.int .i64 kd, .string tx, .int .i64 nu, .slice ka m kc] 31))
    have HX1 := hid (heap_alloc_new X (.cells #[.int .i64 kd, .string tx, .int .i64 nu, .slice ka m kc] 31))
    clear hc2 rk htx hnu hks hm hkd
    go_upto_region 2 with (fail)
    have HXW := hid ((HB1.out.block _ (lt_blk HX0.out)).trans HX0.out)
    have HBV0 := hid (show Below w0.heap.size w0 _ from HBX.out.trans (HB1.out.mono HBX.out.size))
    have HBWV := hid (show Below w.heap.size w _ from bchS HB0.out HB1.out)
    have hpb : X.heap.size ≠ gt := by have h1 := HGT.out.1; have h2 := HB0.out.size; omega
    have hwb : w.heap.size ≠ gt := by have h1 := HGT.out.1; omega
    have HYV := hid (HY.out.low HBWV.out)
    clear q0 q1 q2 q3 x0 x1
    generalize X.alloc (.cells #[.int .i64 kd, .string tx, .int .i64 nu, .slice ka m kc] 31) = V at *
    generalize X.heap.size = pb at *
    have ⟨x0, x1, x2, x3⟩ := cells4 HX1.out
    go_wp2_with fail
    clear x0 x1 x2 x3
    go_loopw [20] (fun i wr => ∃ (k : Nat) (tk : Nat → Int × Int), k ≤ m ∧ i = .int .i64 (k : Int) ∧ Hid (But gt V wr) ∧ Hid (TyO wr w0.heap.size gt L tk) ∧ Hid ((ks.take k).foldl (stp T f kd sc) (ty, none) = (tk, none))) (fun i _ => m - (intOf i).toNat)
    case atStart => exact ⟨0, ty, Nat.zero_le _, rfl, hid (But.refl _ _), HYV, hid rfl⟩
    case round =>
      obtain ⟨k, tk, hk, rfl, HBV, HTY, HFO⟩ := hrel
      have HX1R := hid ((HBV.out.block _ (lt_blk HX1.out) hpb).trans HX1.out)
      have HXWR := hid ((HBV.out.block _ (lt_blk HXW.out) hwb).trans HXW.out)
      have HBW := hid (but_below HBV0.out HBV.out HGT.out.2)
      have ⟨x0, x1, x2, x3⟩ := cells4 HX1R.out
      have ⟨y0, y1⟩ := cellsW HXWR.out
      by_cases hlt : k < m
      · rcases RK.out.low HBW.out (Nat.le_refl _) with h0 | ⟨b1, o1, e0, hb1, hc1⟩
        · have := HM.out; omega
        subst e0
        have hkn : k < ks.length := by rw [← HM.out]; exact hlt
        have p0 := hc1 k hkn
        have hmem : ks.getD k 0 ∈ ks := by rw [List.getD_eq_getElem?_getD, List.getElem?_eq_getElem hkn]; exact List.getElem_mem hkn
        have hx := HKID.out _ hmem
        obtain ⟨x, hxe⟩ : ∃ x : Nat, ks.getD k 0 = x := ⟨(ks.getD k 0).toNat, by omega⟩
        have HXK := hid (show ks[k]? = some (x : Int) by
          rw [List.getD_eq_getElem?_getD] at hxe
          rw [List.getElem?_eq_getElem hkn] at hxe ⊢
          rw [← hxe]
          rfl)
        rw [hxe] at p0 hx
        have hx1 : x < L := by omega
        have hx2 : x < f := by have := HTF.out; omega
        have g1 : (k : Int) < (m : Int) := by omega
        have g2 : (0 : Int) ≤ (k : Int) := by omega
        have HK1 := hid (show k + 1 ≤ m by omega)
        have HHX := hid (And.intro hx1 hx2)
        clear hc1 hmem hx hxe hkn hb1 hx1 hx2
        go_upto_region 5 with (fail)
        clear p0
        go_region_held3 (fun Y => Y.cell? ⟨w.heap.size, 0, none⟩ = some (.slice (some ⟨b2, o2, none⟩) L pc) ∧ Y.cell? ⟨w.heap.size, 1, none⟩ = some (.slice (some ⟨gt, 0, none⟩) L L) ∧ Y.cell? ⟨pb, 0, none⟩ = some (.int .i64 kd)) (first | exact ⟨y0, y1, x0⟩ | (refine ⟨?_, ?_, ?_⟩ <;> assumption) | go_keep)
          (first
            | (go_at_call 99; refine (scopein_any kd sc _).mono ?_; rintro e w1 ⟨rfl, rfl⟩)
            | (go_at_call 68; refine (IH.out x _ _ tk HHX.out.1 HHX.out.2 (by first | exact HBW.out | exact HBW.out.drew) (by first | exact HTY.out | exact HTY.out.low (Below.refl _ _).drew)).mono ?_; rintro e w2 ⟨ev, rfl, he, hty, hbt⟩; have HE := hid he; have HTY2 := hid hty; have HBT := hid (show But gt wr w2 from by first | exact hbt | exact unbut hbt); clear he hty hbt; have ⟨c0, c1, c2, c3⟩ := cells4 ((HBT.out.block _ (lt_blk HX1R.out) hpb).trans HX1R.out); have ⟨d0, d1⟩ := cellsW ((HBT.out.block _ (lt_blk HXWR.out) hwb).trans HXWR.out)))
        have HF2 := hid (fold_step HFO.out x HXK.out)
        clear x0 x1 x2 x3 y0 y1
        rcases HE.out with ⟨ho, rfl⟩ | ⟨c, a1, ho, he⟩
        · have HOE := hid (show (ks.take (k + 1)).foldl (stp T f kd sc) (ty, none) = ((ov T f tk x (scpO kd sc)).1, none) from HF2.out.trans (Prod.ext rfl ho))
          clear ho
          go_wp2_with fail
          refine ⟨⟨k + 1, _, HK1.out, by go_num, hid (HBV.out.trans HBT.out), HTY2, HOE⟩, ?_⟩
          have h3 := HK1.out
          simp [intOf]
          omega
        · have HOE := hid (show ov T (f + 1) ty t sc = ((ov T f tk x (scpO kd sc)).1, some (c, a1)) from ov_err (by rw [← HKS.out, ← HKD.out]; exact fold_err (HF2.out.trans (Prod.ext rfl ho))))
          have HER := hid he
          obtain ⟨u, xv, rfl⟩ := he.ne
          clear ho he
          go_wp2_with fail
          go_ret
          refine ⟨_, rfl, ?_, ?_, (But.of HBWV.out).trans (HBV.out.trans HBT.out)⟩
          · rw [HOE.out]
            exact .inr ⟨c, a1, rfl, .ins _ _ HER.out⟩
          · rw [HOE.out]
            exact HTY2.out
      · obtain rfl : k = m := by omega
        have HFK := hid (show ov T (f + 1) ty t sc = fin T t sc tk from ov_kids (by rw [← HKS.out, ← HKD.out, ← HFO.out, HM.out, List.take_length]))
        go_upto_region 10 with (go_at_call 100; refine (HBRK.out _ _ _ (HT.out.low HBW.out) HTY.out.ty).mono ?_; rintro e w1 ⟨ev, rfl, ha, l1⟩; have HA := hid ha; have L1 := hid l1; clear ha l1)
        clear x0 x1 x2 x3 y0 y1
        rcases HA.out with ⟨ho, rfl⟩ | ⟨N, c, a1, ho, rfl, hf, hn⟩
        · have HRES := hid (show ov T (f + 1) ty t sc = (fun j => if j = t then (srO kd k (tk (ks.getD 0 0).toNat).1, siO kd nu (jnO (fun j => (tk j).2) ks 0)) else tk j, none) by rw [HFK.out, fin, ho, HKD.out, HNU.out, HM.out, HKS.out])
          clear ho
          have HTS := hid (HTY.out.low L1.out)
          have HB1S := hid (show Below w0.heap.size w0 w1 from HBW.out.trans (L1.out.mono HBW.out.size))
          have HX1S := hid ((L1.out.block _ (lt_blk HX1R.out)).trans HX1R.out)
          have HXWS := hid ((L1.out.block _ (lt_blk HXWR.out)).trans HXWR.out)
          have HKI := hid (show ∀ x, x ∈ ks → 0 ≤ x ∧ x < L from fun x hx => by have := HKID.out x hx; omega)
          have hL' := hL
          have HSO := hid (fun W (hb : Below w1.heap.size w1 W) => sortof_any (some ⟨b2, o2, none⟩) L pc gt L (fun j => (tk j).1) (fun j => (tk j).2) kd tx nu ka ks kc W (by rw [← HM.out]; exact hml) hL (HTS.out.low hb).ty (RK.out.low (HB1S.out.trans (hb.mono HB1S.out.size)) (Nat.le_refl _)) HKI.out)
          have HSI := hid (fun W (hb : Below w1.heap.size w1 W) => sideof_any (some ⟨b2, o2, none⟩) L pc gt L kd tx nu ka ks.length kc W (jnO (fun j => (tk j).2) ks 0) (fun W' hb' => joined_any (.slice (some ⟨b2, o2, none⟩) L pc) gt L (fun j => (tk j).1) (fun j => (tk j).2) ka ks kc W' (HTS.out.low (bchS hb hb')).ty (RK.out.low (HB1S.out.trans ((bchS hb hb').mono HB1S.out.size)) (Nat.le_refl _)) HKI.out (by rw [← HM.out]; exact hml) hL ⟨_, _, _, rfl⟩))
          rw [← HM.out] at HSO HSI
          generalize srO kd k (tk (ks.getD 0 0).toNat).1 = su at *
          generalize siO kd nu (jnO (fun j => (tk j).2) ks 0) = sv at *
          have HKP := hid (show ∀ Y, Below w1.heap.size w1 Y → (Y.cell? ⟨w.heap.size, 0, none⟩ = some (.slice (some ⟨b2, o2, none⟩) L pc) ∧ Y.cell? ⟨w.heap.size, 1, none⟩ = some (.slice (some ⟨gt, 0, none⟩) L L) ∧ Y.cell? ⟨pb, 0, none⟩ = some (.int .i64 kd) ∧ Y.cell? ⟨pb, 1, none⟩ = some (.string tx) ∧ Y.cell? ⟨pb, 2, none⟩ = some (.int .i64 nu) ∧ Y.cell? ⟨pb, 3, none⟩ = some (.slice ka k kc)) from fun Y hb => by
            have ⟨a0, a1, a2, a3⟩ := cells4 ((hb.block _ (lt_blk HX1S.out)).trans HX1S.out)
            have ⟨b0, b1⟩ := cellsW ((hb.block _ (lt_blk HXWS.out)).trans HXWS.out)
            exact ⟨b0, b1, a0, a1, a2, a3⟩)
          have T1 := HKP.out w1 (Below.refl _ _)
          have ⟨y0, y1, x0, x1, x2, x3⟩ := T1
          have ht2 : ((t : Int) * 2).toNat = t * 2 := by omega
          go_upto_region 12 with (fail)
          go_region_held3 (fun Y => Y.cell? ⟨w.heap.size, 0, none⟩ = some (.slice (some ⟨b2, o2, none⟩) L pc) ∧ Y.cell? ⟨w.heap.size, 1, none⟩ = some (.slice (some ⟨gt, 0, none⟩) L L) ∧ Y.cell? ⟨pb, 0, none⟩ = some (.int .i64 kd) ∧ Y.cell? ⟨pb, 1, none⟩ = some (.string tx) ∧ Y.cell? ⟨pb, 2, none⟩ = some (.int .i64 nu) ∧ Y.cell? ⟨pb, 3, none⟩ = some (.slice ka k kc)) (first | exact T1 | exact T2 | exact T3 | exact ⟨(cell_othS hwb).trans ((cell_othS hwb).trans T3.1), (cell_othS hwb).trans ((cell_othS hwb).trans T3.2.1), (cell_othS hpb).trans ((cell_othS hpb).trans T3.2.2.1), (cell_othS hpb).trans ((cell_othS hpb).trans T3.2.2.2.1), (cell_othS hpb).trans ((cell_othS hpb).trans T3.2.2.2.2.1), (cell_othS hpb).trans ((cell_othS hpb).trans T3.2.2.2.2.2)⟩ | go_keep)
            (first
              | (go_at_call 101; refine (HSO.out _ (by first | exact Below.refl _ _ | exact (Below.refl _ _).drew)).mono ?_; rintro e w2 ⟨rfl, l2⟩; have L2 := hid (show Below w1.heap.size w1 w2 from by first | exact l2 | exact undrewS l2); clear l2; have T2 := HKP.out w2 L2.out; have ⟨c0, c1, c2, c3, c4, c5⟩ := T2)
              | (go_at_call 102; refine (HSI.out _ (by first | exact L2.out | exact L2.out.drew)).mono ?_; rintro e w3 ⟨rfl, l3⟩; have L3 := hid (show Below w1.heap.size w1 w3 from by first | exact bchS L2.out l3 | exact bchS L2.out (undrewS l3)); clear l3; have T3 := HKP.out w3 L3.out; have ⟨d0, d1, d2, d3, d4, d5⟩ := T3; have HT3 := hid (HTS.out.low L3.out); have s1 := (HT3.out.ty.2 t ht).1; have s2 := (HT3.out.ty.2 t ht).2; have f1 := HT3.out.fz (t * 2); have f2 := HT3.out.fz (t * 2 + 1)))
          have HS1 := hid (HT3.out.set t ht su sv).1
          have HS2 := hid (HT3.out.set t ht su sv).2
          clear x0 x1 x2 x3 y0 y1 c0 c1 c2 c3 c4 c5 d0 d1 d2 d3 d4 d5 s1 s2 f1 f2 T1 T2 T3
          go_wp2_with fail
          go_ret
          refine ⟨_, rfl, ?_, ?_, (But.of HBWV.out).trans (HBV.out.trans ((But.of L3.out |> (But.of L1.out).trans).trans HS2.out))⟩
          · rw [HRES.out]
            exact .inl ⟨rfl, rfl⟩
          · rw [HRES.out]
            exact HS1.out
        · have HR := hid (show ov T (f + 1) ty t sc = (tk, some (c, a1)) by rw [HFK.out, fin, ho])
          have HER := hid (show ErC w1 gt c a1 (fv N) from .flt N hf (by have h1 := HGT.out.1; have h2 := HBWV.out.size; have h3 := HBV.out.size; omega))
          clear ho hf hn
          simp only [fv]
          go_wp2_with fail
          go_ret
          refine ⟨_, rfl, ?_, ?_, (But.of HBWV.out).trans (HBV.out.trans (But.of L1.out))⟩
          · rw [HR.out]
            exact .inr ⟨c, a1, rfl, HER.out⟩
          · rw [HR.out]
            exact HTY.out.low L1.out
end Go.Proofs.YtimmjikpcekffaaGreatDoor.L
namespace Go.Proofs.YtimmjikpcekffaaGreatDoor.L
open Go.RowKit
set_option linter.unusedVariables false
theorem infoTy : (Tryz.prog.info? 175).map (fun i => (i.zero, i.size, i.bytes)) = some (some (.agg #[.int .i64 0, .int .i64 0]), 2, 16) := by kernel_rfl
theorem make_types (n : Nat) (hn : n ≤ 1000) (w : World) : (Instr.makeSlice 69 (.int .i64 (n : Int)) (.int .i64 (n : Int))).run Tryz.prog w = .ok (.slice (some ⟨w.heap.size, 0, none⟩) n n) (w.alloc (.cells (madeCells #[.int .i64 0, .int .i64 0] (n * 2)) 175)) := by
  obtain ⟨i, hi, hz, hs, hb⟩ := info_parts infoTy
  have h := run_makeSlice (P := Tryz.prog) w 69 175 i (.agg #[.int .i64 0, .int .i64 0]) Tryz.underlying69 hi hz .i64 .i64 n n (by omega) (by omega) (by rw [hs]; omega) (by rw [hb]; omega) (by omega)
  rw [hs] at h
  simpa [Value.cells] using h
theorem tyo_made (w : World) (n base : Nat) (hn : n ≤ 1000) (hb : base ≤ w.heap.size) : TyO (w.alloc (.cells (madeCells #[.int .i64 0, .int .i64 0] (n * 2)) 175)) base w.heap.size n (fun _ => (0, 0)) := by
  have h := World.ownsRow_lit (base := base) (e := 175) (size := 2) w (madeCells #[.int .i64 0, .int .i64 0] (n * 2)) n hb (by unfold maxLen; omega) (by rw [size_madeCells])
  refine ⟨_, h, fun j hj => ?_⟩
  have h1 : j * 2 < n * 2 := by omega
  have h2 : j * 2 + 1 < n * 2 := by omega
  have h3 : (j * 2 + 1) % 2 = 1 := by omega
  constructor
  · simp [madeCells, hj]
  · simp [madeCells, h2, h3]
end Go.Proofs.YtimmjikpcekffaaGreatDoor.L
namespace Go.Proofs.YtimmjikpcekffaaGreatDoor.L
open Go.RowKit
set_option linter.unusedVariables false
theorem natS_of {x : Int} (h : 0 ≤ x) : ∃ n : Nat, x = n := ⟨x.toNat, by omega⟩
/-- A tree that layer 13 takes is what over wants. -/
theorem gds_of {T : List Pt} (h : Ok0 T) (hL : T.length ≤ 1000) : GdS T := by
  have hk : ∀ t, t < T.length → (pt T t).kids.length ≤ 1000 := fun t ht => by
    have h1 := (h t ht).many
    have h2 := fre_len T t
    omega
  have hf : ∀ t, t < T.length → fitsB (fmO (pt T t).kind) (pt T t).text (pt T t).num (pt T t).kids.length = true := fun t ht => ((tab_iff T (pt T t) (hk t ht)).2 (h t ht).tab).1
  refine ⟨hL, fun t ht x hx => (h t ht).lt hx, hk, fun t ht => ?_, fun t ht => ?_⟩
  · have h1 := hf t ht
    simp only [fitsB, decide_eq_true_eq] at h1
    unfold maxLen
    omega
  · have h1 := hf t ht
    simp only [fitsB, decide_eq_true_eq] at h1
    obtain ⟨_, _, _, _, _, hls, hms⟩ := h1
    have hlt : ∀ x, x ∈ (pt T t).kids → 0 ≤ x := fun x hx => ((h t ht).lt hx).1
    unfold ShS
    generalize (pt T t).kids = ks at *
    constructor
    · intro hkd
      have h2 : ks.length = 2 := by
        rcases hkd with e | e <;> · rw [e] at hls hms; simp [fmO] at hls hms; omega
      match ks, h2 with
      | [x, y], _ =>
        obtain ⟨a, rfl⟩ := natS_of (hlt x (by simp))
        obtain ⟨b, rfl⟩ := natS_of (hlt y (by simp))
        exact ⟨a, b, rfl⟩
    · intro e
      have h2 : ks.length = 1 := by
        rw [e] at hls hms; simp [fmO] at hls hms; omega
      match ks, h2 with
      | [x], _ =>
        obtain ⟨a, rfl⟩ := natS_of (hlt x (by simp))
        exact ⟨a, rfl⟩
end Go.Proofs.YtimmjikpcekffaaGreatDoor.L
