import Derived.Test.YtlhlpamciafocaaGreatDoorMgAA
import Derived.Test.YtlhlpamciafocaaGreatDoorX5
import Derived.Laws.IdiomStrings
import Derived.Laws.BytesArg
import Derived.WideShapes
namespace Go.Proofs.YtlhlpamciafocaaGreatDoor.L
open Go.RowKit
set_option linter.unusedVariables false
/-- What the parser has come to: the place of the next token, the nest, the parts, their offsets. -/
structure PS where
  nx : Nat
  ns : Nat
  ps : List Pt
  os : List Int
/-- The token at a place. -/
def tk (T : List Tok) (k : Nat) : Tok := T.getD k tok0
abbrev PRes (α : Type) : Type := Except (Nat × Int) (α × PS)
def adv (s : PS) : PS := { s with nx := s.nx + 1 }
/-- The fault at a token that cannot stand there. -/
def rfE (T : List Tok) (s : PS) : Nat × Int := (if (tk T s.nx).kind = 0 then 121 else 120, ((tk T s.nx).a : Int))
def isM (T : List Tok) (s : PS) (m : List UInt8) : Bool := decide ((tk T s.nx).kind = 4) && decide ((tk T s.nx).text.toList = m)
def markP (T : List Tok) (s : PS) (m : List UInt8) : PRes Unit := if isM T s m = true then .ok ((), adv s) else .error (rfE T s)
def textP (T : List Tok) (s : PS) : PRes ByteArray := if (tk T s.nx).kind = 1 then .ok ((tk T s.nx).text, adv s) else .error (rfE T s)
def openP (T : List Tok) (s : PS) (m : List UInt8) : PRes Unit :=
  if isM T s m = true then (if s.ns = 32 then .error (122, ((tk T s.nx).a : Int)) else .ok ((), { adv s with ns := s.ns + 1 })) else .error (rfE T s)
def shutP (s : PS) : PS := { s with ns := s.ns - 1 }
def putP (s : PS) (p : Pt) (off : Int) : PRes Int := .ok ((s.ps.length : Int), { s with ps := s.ps ++ [p], os := s.os ++ [off] })
def bnd {α β : Type} (r : PRes α) (f : α → PS → PRes β) : PRes β :=
  match r with
  | .ok (a, s) => f a s
  | .error e => .error e
theorem bnd_ok {α β : Type} {a : α} {s : PS} {f : α → PS → PRes β} : bnd (.ok (a, s)) f = f a s := rfl
theorem bnd_bad {α β : Type} {e : Nat × Int} {f : α → PS → PRes β} : bnd (.error e) f = .error e := rfl
/-- A text in parentheses that count as no nest. -/
def namedP (T : List Tok) (s : PS) : PRes ByteArray :=
  bnd (markP T s [40]) fun _ s1 => bnd (textP T s1) fun t s2 => bnd (markP T s2 [41]) fun _ s3 => .ok (t, s3)
def constP (T : List Tok) (s : PS) (k : Int) : PRes Int := putP (adv s) ⟨k, ⟨#[]⟩, 0, []⟩ ((tk T s.nx).a : Int)
def tolP (T : List Tok) (s : PS) : PRes Int := bnd (namedP T (adv s)) fun t s1 => putP s1 ⟨10, t, 0, []⟩ ((tk T s.nx).a : Int)
def isEl (t : Tok) : Bool := decide (t.kind = 1) || decide (t.kind = 2)
def elP (T : List Tok) (s : PS) : PRes Int :=
  if (tk T s.nx).kind = 1 then putP (adv s) ⟨11, (tk T s.nx).text, 0, []⟩ ((tk T s.nx).a : Int) else putP (adv s) ⟨12, ⟨#[]⟩, (tk T s.nx).num, []⟩ ((tk T s.nx).a : Int)
def memP (T : List Tok) (s : PS) (ahead : Nat) : PRes Int :=
  if isEl (tk T s.nx) = true then (if ahead = 64 then .error (124, ((tk T s.nx).a : Int)) else elP T s) else .error (rfE T s)
/-- Further elements of a set. -/
def memsP (T : List Tok) : Nat → List Int → PS → PRes (List Int)
  | 0, ks, s => .ok (ks, s)
  | n + 1, ks, s => if isM T s [44] = true then bnd (memP T (adv s) ks.length) fun k s1 => memsP T n (ks ++ [k]) s1 else .ok (ks, s)
def setP (T : List Tok) (s : PS) : PRes Int :=
  bnd (markP T s [123]) fun _ s1 =>
    bnd (if isM T s1 [125] = true then .ok ([], s1) else bnd (memP T s1 0) fun k s2 => .ok ([k], s2)) fun ks s2 =>
      bnd (memsP T 4097 ks s2) fun ks s3 => bnd (markP T s3 [125]) fun _ s4 => putP s4 ⟨13, ⟨#[]⟩, 0, ks⟩ ((tk T s.nx).a : Int)
/-- The field that a token names, 0: none. -/
def fieldO (t : Tok) : Int :=
  if t.kind = 3 then
    if t.text.toList = [110, 97, 109, 101] then 15 else if t.text.toList = [107, 101, 121, 115] then 16 else if t.text.toList = [116, 97, 105, 110, 116, 115] then 17 else if t.text.toList = [99, 97, 112] then 18 else 0
  else 0
def fieldP (T : List Tok) (s : PS) : PRes Int := if fieldO (tk T s.nx) = 0 then .error (rfE T s) else .ok (fieldO (tk T s.nx), adv s)
def whoP (T : List Tok) (s : PS) (side : Int) : PRes Int :=
  if isM T (adv s) [91] = true then
    bnd (textP T (adv (adv s))) fun t s1 => bnd (markP T s1 [93]) fun _ s2 => putP s2 ⟨14, t, side, []⟩ ((tk T s.nx).a : Int)
  else
    bnd (markP T (adv s) [46]) fun _ s1 => bnd (fieldP T s1) fun k s2 =>
      if k = 18 then bnd (namedP T s2) fun t s3 => putP s3 ⟨18, t, side, []⟩ ((tk T s.nx).a : Int) else putP s2 ⟨k, ⟨#[]⟩, side, []⟩ ((tk T s.nx).a : Int)
/-- The comparison that a mark stands for, 0: none. -/
def cmpO (m : List UInt8) : Int :=
  if m = [61, 61] then 1 else if m = [33, 61] then 2 else if m = [60] then 3 else if m = [60, 61] then 4 else if m = [62] then 5 else if m = [62, 61] then 6 else 0
/-- What stands between two terms. -/
def betO (t : Tok) : Option (Int × Int) :=
  if t.kind = 4 then (if cmpO t.text.toList = 0 then none else some (6, cmpO t.text.toList))
  else if t.kind = 3 then (if t.text.toList = [105, 110] then some (7, 0) else if t.text.toList = [110, 111, 116, 105, 110] then some (7, 1) else none)
  else none
/-- The productions that lean on one another. -/
inductive Gr where
  | expr
  | conj
  | unit
  | term
/-- Further parts of a row. -/
def rowsP (T : List Tok) (one : PS → PRes Int) (m : List UInt8) : Nat → List Int → PS → PRes (List Int)
  | 0, ks, s => .ok (ks, s)
  | n + 1, ks, s => if isM T s m = true then bnd (one (adv s)) fun k s1 => rowsP T one m n (ks ++ [k]) s1 else .ok (ks, s)
def rowP (T : List Tok) (one : PS → PRes Int) (kd : Int) (m : List UInt8) (s : PS) : PRes Int :=
  bnd (one s) fun k0 s1 => bnd (rowsP T one m 4097 [k0] s1) fun ks s2 =>
    if ks.length = 1 then .ok (k0, s2) else putP s2 ⟨kd, ⟨#[]⟩, 0, ks⟩ ((tk T s1.nx).a : Int)
/-- What stands in parentheses that count as a nest. -/
def withP {α : Type} (T : List Tok) (inner : PS → PRes α) (s : PS) : PRes α :=
  bnd (openP T s [40]) fun _ s1 => bnd (inner s1) fun k s2 => bnd (markP T s2 [41]) fun _ s3 => .ok (k, shutP s3)
def selP (T : List Tok) (ex : PS → PRes Int) (kd : Int) (s : PS) : PRes Int :=
  bnd (withP T (fun s1 => bnd (textP T s1) fun t s2 => bnd (markP T s2 [44]) fun _ s3 => bnd (ex s3) fun k s4 => .ok ((t, k), s4)) (adv s)) fun tk2 s5 =>
    putP s5 ⟨kd, tk2.1, 0, [tk2.2]⟩ ((tk T s.nx).a : Int)
def negP (T : List Tok) (un : PS → PRes Int) (s : PS) : PRes Int :=
  bnd (openP T s [33]) fun _ s1 => bnd (un s1) fun k s2 => putP (shutP s2) ⟨3, ⟨#[]⟩, 0, [k]⟩ ((tk T s.nx).a : Int)
def compP (T : List Tok) (te : PS → PRes Int) (s : PS) : PRes Int :=
  bnd (te s) fun l s1 =>
    match betO (tk T s1.nx) with
    | none => .error (rfE T s1)
    | some (kd, nu) => bnd (te (adv s1)) fun r s2 => putP s2 ⟨kd, ⟨#[]⟩, nu, [l, r]⟩ ((tk T s1.nx).a : Int)
def atomP (T : List Tok) (ex te : PS → PRes Int) (s : PS) : PRes Int :=
  if (tk T s.nx).kind = 3 then
    if (tk T s.nx).text.toList = [116, 114, 117, 101] then constP T s 1
    else if (tk T s.nx).text.toList = [102, 97, 108, 115, 101] then constP T s 2
    else if (tk T s.nx).text.toList = [110, 101, 97, 114] then selP T ex 8 s
    else if (tk T s.nx).text.toList = [97, 112, 97, 114, 116] then selP T ex 9 s
    else if (tk T s.nx).text.toList = [116, 111, 108, 101, 114, 97, 116, 101, 100] then tolP T s
    else compP T te s
  else compP T te s
def wordP (T : List Tok) (ex te : PS → PRes Int) (s : PS) : PRes Int :=
  if (tk T s.nx).text.toList = [110, 111, 100, 101] then whoP T s 2
  else if (tk T s.nx).text.toList = [112, 111, 100] then whoP T s 1
  else if (tk T s.nx).text.toList = [105, 116] then whoP T s 3
  else if (tk T s.nx).text.toList = [105, 110, 116] then bnd (withP T te (adv s)) fun k s1 => putP s1 ⟨19, ⟨#[]⟩, 0, [k]⟩ ((tk T s.nx).a : Int)
  else if (tk T s.nx).text.toList = [99, 111, 117, 110, 116] then selP T ex 20 s
  else .error (rfE T s)
def unitP (T : List Tok) (ex un te : PS → PRes Int) (s : PS) : PRes Int :=
  if isM T s [33] = true then negP T un s
  else if isM T s [40] = true then withP T ex s
  else atomP T ex te s
def termP (T : List Tok) (ex te : PS → PRes Int) (s : PS) : PRes Int :=
  if isEl (tk T s.nx) = true then elP T s
  else if isM T s [123] = true then setP T s
  else if (tk T s.nx).kind = 3 then wordP T ex te s
  else .error (rfE T s)
/-- What a production gives, with so much strength. -/
def gr (T : List Tok) : Nat → Gr → PS → PRes Int
  | 0, _, _ => .error (0, 0)
  | n + 1, .expr, s => rowP T (gr T n .conj) 5 [124, 124] s
  | n + 1, .conj, s => rowP T (gr T n .unit) 4 [38, 38] s
  | n + 1, .unit, s => unitP T (gr T n .expr) (gr T n .unit) (gr T n .term) s
  | n + 1, .term, s => termP T (gr T n .expr) (gr T n .term) s
/-- What the whole source gives. -/
def wholeP (T : List Tok) (n : Nat) : PRes Unit :=
  bnd (gr T n .expr ⟨0, 0, [], []⟩) fun _ s =>
    if (tk T s.nx).kind = 0 then (if 1000 < s.ps.length then .error (123, s.os.getD 1000 0) else .ok ((), s)) else .error (rfE T s)
end Go.Proofs.YtlhlpamciafocaaGreatDoor.L
namespace Go.Proofs.YtlhlpamciafocaaGreatDoor.L
open Go.RowKit Go.Shelf
set_option linter.unusedVariables false
def digB (x : Int) : Bool := decide (48 ≤ x ∧ x ≤ 57)
end Go.Proofs.YtlhlpamciafocaaGreatDoor.L
namespace Go.Proofs.YtlhlpamciafocaaGreatDoor.L
open Go.RowKit
set_option linter.unusedVariables false
set_option maxHeartbeats 4000000
set_option maxRecDepth 100000
theorem results_cell1 {fn : Func} {p : Tmp} {ty : TypeId} (h : fn.results = #[.cell p ty]) (tmps : Array Value) (P : Program) (w : World) :
    (results fn tmps).run P w = ((asAddr (tmps.getD p undef)).run P w).andThen fun a w₁ => (loadVar ty a).run P w₁ := by
  unfold results
  rw [h]
  simp [go_sem, Result.andThen]
end Go.Proofs.YtlhlpamciafocaaGreatDoor.L
namespace Go.Proofs.YtlhlpamciafocaaGreatDoor.L
open Go.RowKit
set_option linter.unusedVariables false
/-- A list of numbers that can be read. -/
def RdI (w : World) (a : Option Addr) (zs : List Int) : Prop := zs.length = 0 ∨ ∃ b off, a = some ⟨b, off, none⟩ ∧ b < w.heap.size ∧ ∀ j, j < zs.length → w.cell? ⟨b, off + j, none⟩ = some (.int .i64 (zs.getD j 0))
theorem RdI.low {w w' : World} {a : Option Addr} {zs : List Int} (h : RdI w a zs) {B : Nat} (k : Below B w w') (hB : w.heap.size ≤ B) : RdI w' a zs := by
  rcases h with h | ⟨b, off, rfl, h2, h3⟩
  · exact Or.inl h
  · exact Or.inr ⟨b, off, rfl, Nat.lt_of_lt_of_le h2 k.size, fun j hj => (k.cell (p := ⟨b, off + j, none⟩) (Nat.lt_of_lt_of_le h2 hB)).trans (h3 j hj)⟩
/-- A list of parts that can be read, with its lists of kids. -/
def PL (w : World) (a : Option Addr) (T : List Pt) : Prop := T.length = 0 ∨ ∃ b off, a = some ⟨b, off, none⟩ ∧ b < w.heap.size ∧ ∀ j, j < T.length → ∃ ka kc,
  w.cell? ⟨b, off + j * 4, none⟩ = some (.int .i64 (pt T j).kind) ∧ w.cell? ⟨b, off + j * 4 + 1, none⟩ = some (.string (pt T j).text) ∧ w.cell? ⟨b, off + j * 4 + 2, none⟩ = some (.int .i64 (pt T j).num) ∧
  w.cell? ⟨b, off + j * 4 + 3, none⟩ = some (.slice ka (pt T j).kids.length kc) ∧ RdI w ka (pt T j).kids
theorem PL.low {w w' : World} {a : Option Addr} {T : List Pt} (h : PL w a T) (k : Below w.heap.size w w') : PL w' a T := by
  rcases h with h | ⟨b, off, rfl, h2, h3⟩
  · exact Or.inl h
  · refine Or.inr ⟨b, off, rfl, Nat.lt_of_lt_of_le h2 k.size, fun j hj => ?_⟩
    obtain ⟨ka, kc, c0, c1, c2, c3, r⟩ := h3 j hj
    exact ⟨ka, kc, (k.cell (p := ⟨b, off + j * 4, none⟩) h2).trans c0, (k.cell (p := ⟨b, off + j * 4 + 1, none⟩) h2).trans c1, (k.cell (p := ⟨b, off + j * 4 + 2, none⟩) h2).trans c2, (k.cell (p := ⟨b, off + j * 4 + 3, none⟩) h2).trans c3, r.low k (Nat.le_refl _)⟩
/-- The lists are not too long for a machine. -/
def GdT (T : List Pt) : Prop := T.length ≤ 140737488355328 ∧ ∀ j, j < T.length → (pt T j).kids.length ≤ 140737488355328
/-- A row of numbers of one's own. -/
abbrev OwnI (w : World) (base : Nat) (v : Value) (zs : List Int) : Prop := w.ownsRow base 3 1 v zs.length (zs.map (Value.int .i64))
theorem info3 : (Tryz.prog.info? 3).map (fun i => (i.zero, i.size, i.bytes)) = some (some (.int .i64 0), 1, 8) := by kernel_rfl
theorem own_form {w : World} {base : Nat} {v : Value} {zs : List Int} (h : OwnI w base v zs) : ∃ a cap, v = .slice a zs.length cap := by
  rcases h.2 with ⟨e, n0⟩ | ⟨g, cap, cur, e, _⟩
  · exact ⟨none, 0, by rw [e, n0]⟩
  · exact ⟨_, _, e⟩
theorem own_low {w w' : World} {base : Nat} {v : Value} {zs : List Int} (h : OwnI w base v zs) (hk : Below w.heap.size w w') : OwnI w' base v zs :=
  World.ownsRow.kept (row := none) h ⟨hk.os, hk.tape, hk.output, hk.size, fun k hkl _ => hk.block k hkl⟩ (by cases v.ownBlock <;> simp)
theorem own_block {w : World} {base : Nat} {v : Value} {zs : List Int} (h : OwnI w base v zs) : ∀ k, v.ownBlock = some k → base ≤ k ∧ k < w.heap.size := by
  intro k hk
  rcases h.2 with ⟨e, n0⟩ | ⟨g, cap, cur, e, hb, hg, _⟩
  · rw [e] at hk; cases hk
  · rw [e] at hk
    simp [Value.ownBlock] at hk
    subst hk
    exact ⟨hb, lt_blk hg⟩
/-- An own row, read from any place on. -/
theorem own_rd {w : World} {base : Nat} {a : Option Addr} {n cap : Nat} {zs : List Int} (h : OwnI w base (.slice a n cap) zs) (k : Nat) (hk : k ≤ zs.length) : n = zs.length ∧ (zs.length = 0 ∨ ∃ g, a = some ⟨g, 0, none⟩ ∧ base ≤ g ∧ g < w.heap.size ∧ zs.length ≤ cap ∧ (∀ j, j < zs.length → w.cell? ⟨g, j, none⟩ = some (.int .i64 (zs.getD j 0))) ∧ RdI w (some ⟨g, k, none⟩) (zs.drop k)) := by
  rcases h.2 with ⟨e, n0⟩ | ⟨g, cap', cur, e, hb, hg, h3, h4, h5, h6⟩
  · injection e with e1 e2 e3
    exact ⟨by omega, .inl n0⟩
  · injection e with e1 e2 e3
    subst e1 e2 e3
    refine ⟨rfl, .inr ⟨g, rfl, hb, lt_blk hg, h3, ?_⟩⟩
    have key : ∀ j, j < zs.length → w.cell? ⟨g, j, none⟩ = some (.int .i64 (zs.getD j 0)) := by
      intro j hj
      rw [cell_of_row w g j _ _ _ hg]
      have := congrArg (fun l => l[j]?) h6
      simp only [List.getElem?_take_of_lt (show j < zs.length * 1 by omega), List.getElem?_map] at this
      rw [Array.getElem?_toList] at this
      rw [this, List.getElem?_eq_getElem hj, List.getD_eq_getElem?_getD, List.getElem?_eq_getElem hj]
      rfl
    refine ⟨key, .inr ⟨g, k, rfl, lt_blk hg, fun j hj => ?_⟩⟩
    rw [List.length_drop] at hj
    rw [key (k + j) (by omega), List.getD_eq_getElem?_getD, List.getD_eq_getElem?_getD, List.getElem?_drop]
/-- The first k of an own row are an own row. -/
theorem own_take {w : World} {base : Nat} {a : Option Addr} {cap : Nat} {zs : List Int} (h : OwnI w base (.slice a zs.length cap) zs) (k : Nat) (hk : k ≤ zs.length) : OwnI w base (.slice a k cap) (zs.take k) := by
  have hl : (zs.take k).length = k := by simp; omega
  unfold OwnI
  rw [hl]
  refine ⟨by simp; omega, ?_⟩
  rcases h.2 with ⟨e, n0⟩ | ⟨g, cap', cur, e, hb, hg, h3, h4, h5, h6⟩
  · injection e with e1 e2 e3
    subst e1 e3
    have : k = 0 := by omega
    subst this
    exact .inl ⟨rfl, rfl⟩
  · injection e with e1 e2 e3
    subst e1 e3
    refine .inr ⟨g, cap, cur, rfl, hb, hg, by omega, h4, h5, ?_⟩
    rw [List.map_take, ← h6, List.take_take]
    congr 1
    omega
end Go.Proofs.YtlhlpamciafocaaGreatDoor.L
namespace Go.Proofs.YtlhlpamciafocaaGreatDoor.L
open Go.RowKit
set_option linter.unusedVariables false
theorem cells7 {W : World} {N : Nat} {a b c d e f g : Value} {ty : TypeId} (h : W.heap[N]? = some (.cells #[a, b, c, d, e, f, g] ty (0, 0))) : W.cell? ⟨N, 0, none⟩ = some a ∧ W.cell? ⟨N, 1, none⟩ = some b ∧ W.cell? ⟨N, 2, none⟩ = some c ∧ W.cell? ⟨N, 3, none⟩ = some d ∧ W.cell? ⟨N, 4, none⟩ = some e ∧ W.cell? ⟨N, 5, none⟩ = some f ∧ W.cell? ⟨N, 6, none⟩ = some g := by
  refine ⟨?_, ?_, ?_, ?_, ?_, ?_, ?_⟩ <;> (unfold World.cell?; rw [h]; rfl)
theorem cells4 {W : World} {N : Nat} {a b c d : Value} {ty : TypeId} (h : W.heap[N]? = some (.cells #[a, b, c, d] ty (0, 0))) : W.cell? ⟨N, 0, none⟩ = some a ∧ W.cell? ⟨N, 1, none⟩ = some b ∧ W.cell? ⟨N, 2, none⟩ = some c ∧ W.cell? ⟨N, 3, none⟩ = some d := by
  refine ⟨?_, ?_, ?_, ?_⟩ <;> (unfold World.cell?; rw [h]; rfl)
end Go.Proofs.YtlhlpamciafocaaGreatDoor.L
namespace Go.Proofs.YtlhlpamciafocaaGreatDoor.L
open Go.RowKit
set_option linter.unusedVariables false
theorem RdI.drew {w : World} {a : Option Addr} {zs : List Int} (h : RdI w a zs) (n : Nat) : RdI (w.drewN n) a zs := h
/-- What barred answers. -/
def BarR (T : List Pt) (i : Int) : Prop := (∃ j : Nat, i = j ∧ Bar T j) ∨ (i = ((T.length - 1 : Nat) : Int) ∧ Ok0 T ∧ Lst T) ∨ (i = -1 ∧ Ok0 T ∧ ¬ Lst T)
theorem ok_iff {T : List Pt} {k : Nat} (hk : k < 1000) : OkA T k ↔ (pt T k).kids.length ≤ (fre T k).length ∧ (pt T k).kids = (fre T k).drop ((fre T k).length - (pt T k).kids.length) ∧ tabP T (pt T k) := by
  constructor
  · intro h
    have h1 := h.many
    have h2 := fre_len T k
    exact ⟨h.many, h.kids, (tab_iff T _ (by omega)).2 h.tab⟩
  · rintro ⟨h1, h2, h3⟩
    have h4 := fre_len T k
    exact ⟨h1, h2, (tab_iff T _ (by omega)).1 h3⟩
set_option maxRecDepth 100000 in
theorem tail_nil (W : World) : (Instr.slice 34 (.slice none 0 0) (some (.int .i64 ((0 : Nat) : Int))) none none).run Tryz.prog W = .ok (.slice none 0 0) W := by kernel_rfl
set_option maxRecDepth 100000 in
/-- The end of an own row, from place h on. -/
theorem tail_run {w : World} {base : Nat} {va : Option Addr} {m vc h n : Nat} {zs : List Int} (o : OwnI w base (.slice va m vc) zs) (hz : m = zs.length) (hm : m = h + n) : ∃ x c', (∀ W, (Instr.slice 34 (.slice va m vc) (some (.int .i64 (h : Int))) none none).run Tryz.prog W = .ok (.slice x n c') W) ∧ ∀ W, Below w.heap.size w W → RdI W x (zs.drop h) := by
  rcases o.2 with ⟨e, n0⟩ | ⟨g, cap, cur, e, hb, hg, h3, h4, h5, h6⟩
  · injection e with e1 e2 e3
    subst e1 e3
    have h0 : h = 0 := by omega
    have nn : n = 0 := by omega
    have mm : m = 0 := by omega
    subst h0 nn mm
    exact ⟨none, 0, tail_nil, fun W _ => .inl (by rw [List.length_drop]; omega)⟩
  · injection e with e1 e2 e3
    subst e1 e3
    have k1 : (h : Int) ≤ (m : Int) := by omega
    refine ⟨if vc = h then some ⟨g, 0, none⟩ else some ⟨g, h, none⟩, vc - h, fun W => ?_, fun W hW => ?_⟩
    · have e1 : m - h = n := by omega
      have k2 : (0 : Int) ≤ (h : Int) := by omega
      have k3 : (m : Int) ≤ (vc : Int) := by omega
      clear hm hz e2
      go_simp
    · by_cases e : vc = h
      · exact .inl (by rw [List.length_drop]; omega)
      · rw [if_neg e]
        rw [hz] at o
        rcases (own_rd (own_low o hW) h (by omega)).2 with z | ⟨g', eg, _, _, _, _, r⟩
        · exact .inl (by rw [List.length_drop]; omega)
        · cases eg
          exact r
set_option maxRecDepth 100000 in
theorem head_nil (W : World) : (Instr.slice 34 (.slice none 0 0) none (some (.int .i64 ((0 : Nat) : Int))) none).run Tryz.prog W = .ok (.slice none 0 0) W := by kernel_rfl
set_option maxRecDepth 100000 in
theorem head_run {w : World} {base : Nat} {va : Option Addr} {m vc h : Nat} {zs : List Int} (o : OwnI w base (.slice va m vc) zs) (hz : m = zs.length) (hm : h ≤ m) : ∀ W, (Instr.slice 34 (.slice va m vc) none (some (.int .i64 (h : Int))) none).run Tryz.prog W = .ok (.slice va h vc) W := by
  rcases o.2 with ⟨e, n0⟩ | ⟨g, cap, cur, e, hb, hg, h3, h4, h5, h6⟩
  · injection e with e1 e2 e3
    subst e1 e3
    have h0 : h = 0 := by omega
    have mm : m = 0 := by omega
    subst h0 mm
    exact head_nil
  · injection e with e1 e2 e3
    subst e1 e3
    intro W
    have k1 : (h : Int) ≤ (vc : Int) := by omega
    have k2 : (0 : Int) ≤ (h : Int) := by omega
    clear hm hz e2
    go_simp
end Go.Proofs.YtlhlpamciafocaaGreatDoor.L
namespace Go.Proofs.YtlhlpamciafocaaGreatDoor.L
open Go.RowKit
set_option linter.unusedVariables false
theorem getD_mem {l : List Int} {k : Nat} (h : k < l.length) : l.getD k 0 ∈ l := by
  rw [List.getD_eq_getElem?_getD, List.getElem?_eq_getElem h]
  exact List.getElem_mem h
end Go.Proofs.YtlhlpamciafocaaGreatDoor.L
namespace Go.Proofs.YtlhlpamciafocaaGreatDoor.L
open Go.RowKit
set_option linter.unusedVariables false
theorem own_rdI {w : World} {base : Nat} {a : Option Addr} {n cap : Nat} {zs : List Int} (h : OwnI w base (.slice a n cap) zs) : n = zs.length ∧ RdI w a zs ∧ (a = none → cap = 0) := by
  rcases h.2 with ⟨e, n0⟩ | ⟨g, cap', cur, e, hb, hg, h3, h4, h5, h6⟩
  · injection e with e1 e2 e3
    exact ⟨by omega, .inl n0, fun _ => e3⟩
  · obtain ⟨h1, h2⟩ := own_rd h 0 (Nat.zero_le _)
    injection e with e1 e2 e3
    subst e1
    refine ⟨h1, ?_, fun e => by cases e⟩
    rcases h2 with h2 | ⟨g', e', _, _, _, _, r⟩
    · exact .inl h2
    · cases e'
      exact r
end Go.Proofs.YtlhlpamciafocaaGreatDoor.L
namespace Go.Proofs.YtlhlpamciafocaaGreatDoor.L
open Go.RowKit Go.Shelf
set_option linter.unusedVariables false
/-- A list of parts that can be read, whose empty lists of kids have no room. -/
def PLs (w : World) (a : Option Addr) (T : List Pt) : Prop := T.length = 0 ∨ ∃ b off, a = some ⟨b, off, none⟩ ∧ b < w.heap.size ∧ ∀ j, j < T.length → ∃ ka kc,
  w.cell? ⟨b, off + j * 4, none⟩ = some (.int .i64 (pt T j).kind) ∧ w.cell? ⟨b, off + j * 4 + 1, none⟩ = some (.string (pt T j).text) ∧ w.cell? ⟨b, off + j * 4 + 2, none⟩ = some (.int .i64 (pt T j).num) ∧
  w.cell? ⟨b, off + j * 4 + 3, none⟩ = some (.slice ka (pt T j).kids.length kc) ∧ RdI w ka (pt T j).kids ∧ (ka = none → kc = 0)
theorem PLs.pl {w : World} {a : Option Addr} {T : List Pt} (h : PLs w a T) : PL w a T := by
  rcases h with h | ⟨b, off, rfl, h2, h3⟩
  · exact Or.inl h
  · refine Or.inr ⟨b, off, rfl, h2, fun j hj => ?_⟩
    obtain ⟨ka, kc, a0, a1, a2, a3, a4, _⟩ := h3 j hj
    exact ⟨ka, kc, a0, a1, a2, a3, a4⟩
/-- The cells of the first k parts, with the lists ks. -/
def CP (T : List Pt) (ks : Nat → Value) : Nat → List Value
  | 0 => []
  | k + 1 => CP T ks k ++ [.int .i64 (pt T k).kind, .string (pt T k).text, .int .i64 (pt T k).num, ks k]
theorem CP_len (T : List Pt) (ks : Nat → Value) : ∀ k, (CP T ks k).length = k * 4
  | 0 => rfl
  | k + 1 => by
    simp only [CP, List.length_append, CP_len T ks k, List.length_cons, List.length_nil]
    omega
theorem CP_congr (T : List Pt) {ks ks' : Nat → Value} : ∀ {k : Nat}, (∀ j, j < k → ks j = ks' j) → CP T ks k = CP T ks' k
  | 0, _ => rfl
  | k + 1, h => by
    simp only [CP]
    rw [CP_congr T (k := k) (fun j hj => h j (by omega)), h k (by omega)]
theorem CP_get (T : List Pt) (ks : Nat → Value) (j r : Nat) (hr : r < 4) : ∀ {k : Nat}, j < k → (CP T ks k)[j * 4 + r]? = [.int .i64 (pt T j).kind, .string (pt T j).text, .int .i64 (pt T j).num, ks j][r]?
  | k + 1, h => by
    simp only [CP]
    by_cases e : j < k
    · rw [List.getElem?_append_left (by rw [CP_len]; omega)]
      exact CP_get T ks j r hr e
    · have : j = k := by omega
      subst this
      rw [List.getElem?_append_right (by rw [CP_len]; omega), CP_len]
      congr 1
      omega
/-- A tree of one's own: a row of parts, each with a row of kids. -/
structure OwnP (W : World) (base : Nat) (v : Value) (T : List Pt) (ks : Nat → Value) (k : Nat) : Prop where
  row : W.ownsRow base 50 4 v k (CP T ks k)
  kids : ∀ j, j < k → OwnI W base (ks j) (pt T j).kids
theorem OwnP.pl {W : World} {base : Nat} {v : Value} {T : List Pt} {ks : Nat → Value} (h : OwnP W base v T ks T.length) : ∃ a cap, v = .slice a T.length cap ∧ PLs W a T := by
  rcases h.row.2 with ⟨rfl, n0⟩ | ⟨g, cap, cur, rfl, hb, hg, h3, h4, h5, h6⟩
  · exact ⟨none, 0, by rw [n0], Or.inl n0⟩
  · refine ⟨_, _, rfl, Or.inr ⟨g, 0, rfl, lt_blk hg, fun j hj => ?_⟩⟩
    have key : ∀ r, r < 4 → W.cell? ⟨g, j * 4 + r, none⟩ = [.int .i64 (pt T j).kind, .string (pt T j).text, .int .i64 (pt T j).num, ks j][r]? := by
      intro r hr
      rw [cell_of_row W g _ _ _ _ hg, ← CP_get T ks j r hr hj, ← h6, List.getElem?_take_of_lt (by omega), Array.getElem?_toList]
    have hk := h.kids j hj
    obtain ⟨ka, kc, e⟩ := own_form hk
    rw [e] at hk
    obtain ⟨_, r1, r2⟩ := own_rdI hk
    refine ⟨ka, kc, ?_, ?_, ?_, ?_, r1, r2⟩
    · rw [Nat.zero_add]; exact key 0 (by decide)
    · rw [Nat.zero_add]; exact key 1 (by decide)
    · rw [Nat.zero_add]; exact key 2 (by decide)
    · rw [Nat.zero_add, ← e]; exact key 3 (by decide)
theorem row_ne {W : World} {b b' s s' n n' : Nat} {e e' : TypeId} {v v' : Value} {xs ys : List Value} (h : W.ownsRow b e s v n xs) (h' : W.ownsRow b' e' s' v' n' ys) (hne : e ≠ e') : v.ownBlock = none ∨ v.ownBlock ≠ v'.ownBlock := by
  rcases h.2 with ⟨rfl, _⟩ | ⟨g, cap, cur, rfl, _, hg, _⟩
  · exact .inl rfl
  · right
    intro e1
    rcases h'.2 with ⟨rfl, _⟩ | ⟨g', cap', cur', rfl, _, hg', _⟩
    · cases e1
    · have : g = g' := by simpa [Value.ownBlock] using e1
      subst this
      rw [hg] at hg'
      have := Option.some.inj hg'
      simp at this
      exact hne this.2
/-- One part more, behind an append. -/
theorem OwnP.more {W W' : World} {base : Nat} {v v' : Value} {T : List Pt} {ks : Nat → Value} {k : Nat} {x : Value} (h : OwnP W base v T ks k) (hx : OwnI W base x (pt T k).kids)
    (hr : W'.ownsRow base 50 4 v' (k + 1) (CP T ks k ++ [.int .i64 (pt T k).kind, .string (pt T k).text, .int .i64 (pt T k).num, x])) (hg : W.grownBy W' v.ownBlock) : OwnP W' base v' T (fun j => if j = k then x else ks j) (k + 1) := by
  refine ⟨?_, fun j hj => ?_⟩
  · have e : CP T (fun j => if j = k then x else ks j) (k + 1) = CP T ks k ++ [.int .i64 (pt T k).kind, .string (pt T k).text, .int .i64 (pt T k).num, x] := by
      simp only [CP, if_true]
      rw [CP_congr T (ks' := ks) (fun j hj => by simp [Nat.ne_of_lt hj])]
    rw [e]
    exact hr
  · by_cases hjk : j = k
    · subst hjk
      simp only [if_true]
      exact World.ownsRow.kept hx hg (row_ne hx h.row (by decide))
    · simp only [hjk, if_false]
      exact World.ownsRow.kept (h.kids j (by omega)) hg (row_ne (h.kids j (by omega)) h.row (by decide))
theorem infoP : (Tryz.prog.info? 50).map (fun i => (i.zero, i.size, i.bytes)) = some (some (.agg #[.int .i64 0, .string ByteArray.empty, .int .i64 0, .slice none 0 0]), 4, 56) := by kernel_rfl
end Go.Proofs.YtlhlpamciafocaaGreatDoor.L
namespace Go.Proofs.YtlhlpamciafocaaGreatDoor.L
open Go.RowKit Go.Shelf
set_option linter.unusedVariables false
theorem iv_inj {a b : UInt8} (h : iv a = iv b) : a = b := by
  apply UInt8.toNat_inj.1
  unfold iv at h
  omega
theorem ne_iv {a : UInt8} {n : UInt8} (h : a ≠ n) : (iv a == iv n) = false := by
  simp
  intro e
  exact h (iv_inj e)
end Go.Proofs.YtlhlpamciafocaaGreatDoor.L
namespace Go.Proofs.YtlhlpamciafocaaGreatDoor.L
open Go.RowKit Go.Shelf
set_option linter.unusedVariables false
end Go.Proofs.YtlhlpamciafocaaGreatDoor.L
