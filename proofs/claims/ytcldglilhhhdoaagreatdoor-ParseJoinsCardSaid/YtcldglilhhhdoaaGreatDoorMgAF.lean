import Derived.Test.YtcldglilhhhdoaaGreatDoorRows
import Derived.Test.YtcldglilhhhdoaaGreatDoorTie
import Derived.Test.YtcldglilhhhdoaaGreatDoorCards
import Derived.Test.YtcldglilhhhdoaaGreatDoorMgAE
import Derived.ProofKit
import Derived.LaidMore
import Derived.LaidLaws
import Derived.LaidSub
import Derived.OpenShut
import Derived.SizedLaws
import Derived.Deep.DeepHandedRow
import Derived.Deep.Slices
import Derived.Lib.SmallJoins
import Derived.Lib.LaidTab
import Derived.SevenTiedAt
import Derived.Test.YtcldglilhhhdoaaGreatDoorMgAA
import Derived.WalkKit
import Derived.WalkSpells
import Derived.WalkLawsBesides
import Derived.Handy
import Derived.Test.YtcldglilhhhdoaaGreatDoorProg
import Derived.Deep.QuietTactic
import Derived.Deep.RegionHeld3
import Derived.BigQuiet
import Derived.OwnWalk
import Derived.Laws.AppendOwnNone
import Derived.RangeFuncBox
import Derived.Deep.Cut
import Derived.Test.YtcldglilhhhdoaaGreatDoorX5
namespace Go.Proofs.YtcldglilhhhdoaaGreatDoor.L
open Go.ChangeShapes Go.WideShapes Go.ChangeAt Go.RowKit Go.Joins
set_option linter.unusedVariables false
theorem own : ownKnob Tryz.prog.godebug = none := by kernel_rfl
theorem reach_num : reachBytes = 140737488351232 := by kernel_rfl
theorem iface_laid {W : World} {name nm : String} {d : DataW Unit} {rest : List (String × DataW Unit)} {g : Nat} {t : TypeId} {ms : Array (String × TypeId)} (hg : Tryz.prog.globalNamed name = some g) (hty : (Tryz.prog.globals[g]?).map (·.type) = some t) (ht : Tryz.prog.underlying t = some (.interface ms))
    (h : laidMet Tryz.prog ((name, .iface nm d) :: rest) W) : ∃ tp p, W.var? Tryz.prog name = some #[.iface tp p] := by
  obtain ⟨ps, ⟨g', t', cs, fuel, p, q, hg', ht', hvar, hd, _, _⟩, _⟩ := h
  obtain rfl := Option.some.inj (hg.symm.trans hg')
  obtain rfl := Option.some.inj (hty.symm.trans ht')
  obtain ⟨f', u, v, e, _, _⟩ := iface_of_trod ht hd
  refine ⟨u, v, ?_⟩
  rw [hvar, Array.eq_one_of_toList e]
theorem vars_laid {W : World} {laid : List (String × DataW Unit)} (h : laidMetH Tryz.prog laid W)
    (e1 : (laid.filter fun x => x.1 == "strconv.ErrSyntax") = [("strconv.ErrSyntax", Rows.laid_strconv_ErrSyntax)]) (e2 : (laid.filter fun x => x.1 == "strconv.ErrRange") = [("strconv.ErrRange", Rows.laid_strconv_ErrRange)]) : Vars W := by
  have k2 : laidMet Tryz.prog [("strconv.ErrSyntax", Rows.laid_strconv_ErrSyntax)] W := by have := h.filter (fun x => x.1 == "strconv.ErrSyntax"); rw [e1] at this; exact this
  have k3 : laidMet Tryz.prog [("strconv.ErrRange", Rows.laid_strconv_ErrRange)] W := by have := h.filter (fun x => x.1 == "strconv.ErrRange"); rw [e2] at this; exact this
  exact ⟨iface_laid (g := 1) (by kernel_rfl) (by kernel_rfl) Tryz.underlying28 k2, iface_laid (g := 2) (by kernel_rfl) (by kernel_rfl) Tryz.underlying28 k3⟩
end Go.Proofs.YtcldglilhhhdoaaGreatDoor.L
namespace Go.Proofs.YtcldglilhhhdoaaGreatDoor.L
open Go.RowKit
set_option linter.unusedVariables false
theorem lt_blk {W : World} {k : Nat} {o : Obj} (h : W.heap[k]? = some o) : k < W.heap.size := (Array.getElem?_eq_some_iff.1 h).1
end Go.Proofs.YtcldglilhhhdoaaGreatDoor.L
namespace Go.Proofs.YtcldglilhhhdoaaGreatDoor.L
open Go.RowKit
set_option linter.unusedVariables false
set_option maxHeartbeats 4000000
set_option maxRecDepth 100000
end Go.Proofs.YtcldglilhhhdoaaGreatDoor.L
namespace Go.Proofs.YtcldglilhhhdoaaGreatDoor.L
open Go.RowKit
set_option linter.unusedVariables false
set_option maxHeartbeats 4000000
set_option maxRecDepth 100000
end Go.Proofs.YtcldglilhhhdoaaGreatDoor.L
namespace Go.Proofs.YtcldglilhhhdoaaGreatDoor.L
open Go.RowKit
set_option linter.unusedVariables false
/-- A part of a tree. -/
structure Pt where
  kind : Int
  text : ByteArray
  num : Int
  kids : List Int
def pt (T : List Pt) (j : Nat) : Pt := T.getD j ⟨0, ⟨#[]⟩, 0, []⟩
/-- What stands ahead of place i and is nobody's kid yet. -/
def fre (T : List Pt) : Nat → List Int
  | 0 => []
  | i + 1 => (fre T i).take ((fre T i).length - (pt T i).kids.length) ++ [(i : Int)]
theorem fre_len (T : List Pt) : ∀ i, (fre T i).length ≤ i
  | 0 => by simp [fre]
  | i + 1 => by
    have := fre_len T i
    simp [fre]
    omega
theorem fre_mem (T : List Pt) : ∀ i x, x ∈ fre T i → 0 ≤ x ∧ x < i
  | 0, x, h => by simp [fre] at h
  | i + 1, x, h => by
    unfold fre at h
    rcases List.mem_append.1 h with h | h
    · have := fre_mem T i x (List.mem_of_mem_take h)
      omega
    · simp at h
      omega
end Go.Proofs.YtcldglilhhhdoaaGreatDoor.L
namespace Go.Proofs.YtcldglilhhhdoaaGreatDoor.L
open Go.RowKit
set_option linter.unusedVariables false
/-- What the parser has come to: the place of the next token, the nest, the parts, their offsets. -/
structure PS where
  nx : Nat
  ns : Nat
  ps : List Pt
  os : List Int
/-- The token at a place. -/
def tk (T : List Tok) (k : Nat) : Tok := T.getD k tok0
abbrev PRes (α : Type) : Type := Except (Nat × Int) (α × PS)
def adv (s : PS) : PS := { s with nx := s.nx + 1 }
/-- The fault at a token that cannot stand there. -/
def rfE (T : List Tok) (s : PS) : Nat × Int := (if (tk T s.nx).kind = 0 then 121 else 120, ((tk T s.nx).a : Int))
def isM (T : List Tok) (s : PS) (m : List UInt8) : Bool := decide ((tk T s.nx).kind = 4) && decide ((tk T s.nx).text.toList = m)
def markP (T : List Tok) (s : PS) (m : List UInt8) : PRes Unit := if isM T s m = true then .ok ((), adv s) else .error (rfE T s)
def textP (T : List Tok) (s : PS) : PRes ByteArray := if (tk T s.nx).kind = 1 then .ok ((tk T s.nx).text, adv s) else .error (rfE T s)
def openP (T : List Tok) (s : PS) (m : List UInt8) : PRes Unit :=
  if isM T s m = true then (if s.ns = 32 then .error (122, ((tk T s.nx).a : Int)) else .ok ((), { adv s with ns := s.ns + 1 })) else .error (rfE T s)
def shutP (s : PS) : PS := { s with ns := s.ns - 1 }
def putP (s : PS) (p : Pt) (off : Int) : PRes Int := .ok ((s.ps.length : Int), { s with ps := s.ps ++ [p], os := s.os ++ [off] })
def bnd {α β : Type} (r : PRes α) (f : α → PS → PRes β) : PRes β :=
  match r with
  | .ok (a, s) => f a s
  | .error e => .error e
theorem bnd_ok {α β : Type} {a : α} {s : PS} {f : α → PS → PRes β} : bnd (.ok (a, s)) f = f a s := rfl
theorem bnd_bad {α β : Type} {e : Nat × Int} {f : α → PS → PRes β} : bnd (.error e) f = .error e := rfl
/-- A text in parentheses that count as no nest. -/
def namedP (T : List Tok) (s : PS) : PRes ByteArray :=
  bnd (markP T s [40]) fun _ s1 => bnd (textP T s1) fun t s2 => bnd (markP T s2 [41]) fun _ s3 => .ok (t, s3)
def constP (T : List Tok) (s : PS) (k : Int) : PRes Int := putP (adv s) ⟨k, ⟨#[]⟩, 0, []⟩ ((tk T s.nx).a : Int)
def tolP (T : List Tok) (s : PS) : PRes Int := bnd (namedP T (adv s)) fun t s1 => putP s1 ⟨10, t, 0, []⟩ ((tk T s.nx).a : Int)
def isEl (t : Tok) : Bool := decide (t.kind = 1) || decide (t.kind = 2)
def elP (T : List Tok) (s : PS) : PRes Int :=
  if (tk T s.nx).kind = 1 then putP (adv s) ⟨11, (tk T s.nx).text, 0, []⟩ ((tk T s.nx).a : Int) else putP (adv s) ⟨12, ⟨#[]⟩, (tk T s.nx).num, []⟩ ((tk T s.nx).a : Int)
def memP (T : List Tok) (s : PS) (ahead : Nat) : PRes Int :=
  if isEl (tk T s.nx) = true then (if ahead = 64 then .error (124, ((tk T s.nx).a : Int)) else elP T s) else .error (rfE T s)
/-- Further elements of a set. -/
def memsP (T : List Tok) : Nat → List Int → PS → PRes (List Int)
  | 0, ks, s => .ok (ks, s)
  | n + 1, ks, s => if isM T s [44] = true then bnd (memP T (adv s) ks.length) fun k s1 => memsP T n (ks ++ [k]) s1 else .ok (ks, s)
def setP (T : List Tok) (s : PS) : PRes Int :=
  bnd (markP T s [123]) fun _ s1 =>
    bnd (if isM T s1 [125] = true then .ok ([], s1) else bnd (memP T s1 0) fun k s2 => .ok ([k], s2)) fun ks s2 =>
      bnd (memsP T 4097 ks s2) fun ks s3 => bnd (markP T s3 [125]) fun _ s4 => putP s4 ⟨13, ⟨#[]⟩, 0, ks⟩ ((tk T s.nx).a : Int)
/-- The field that a token names, 0: none. -/
def fieldO (t : Tok) : Int :=
  if t.kind = 3 then
    if t.text.toList = [110, 97, 109, 101] then 15 else if t.text.toList = [107, 101, 121, 115] then 16 else if t.text.toList = [116, 97, 105, 110, 116, 115] then 17 else if t.text.toList = [99, 97, 112] then 18 else 0
  else 0
def fieldP (T : List Tok) (s : PS) : PRes Int := if fieldO (tk T s.nx) = 0 then .error (rfE T s) else .ok (fieldO (tk T s.nx), adv s)
def whoP (T : List Tok) (s : PS) (side : Int) : PRes Int :=
  if isM T (adv s) [91] = true then
    bnd (textP T (adv (adv s))) fun t s1 => bnd (markP T s1 [93]) fun _ s2 => putP s2 ⟨14, t, side, []⟩ ((tk T s.nx).a : Int)
  else
    bnd (markP T (adv s) [46]) fun _ s1 => bnd (fieldP T s1) fun k s2 =>
      if k = 18 then bnd (namedP T s2) fun t s3 => putP s3 ⟨18, t, side, []⟩ ((tk T s.nx).a : Int) else putP s2 ⟨k, ⟨#[]⟩, side, []⟩ ((tk T s.nx).a : Int)
/-- The comparison that a mark stands for, 0: none. -/
def cmpO (m : List UInt8) : Int :=
  if m = [61, 61] then 1 else if m = [33, 61] then 2 else if m = [60] then 3 else if m = [60, 61] then 4 else if m = [62] then 5 else if m = [62, 61] then 6 else 0
/-- What stands between two terms. -/
def betO (t : Tok) : Option (Int × Int) :=
  if t.kind = 4 then (if cmpO t.text.toList = 0 then none else some (6, cmpO t.text.toList))
  else if t.kind = 3 then (if t.text.toList = [105, 110] then some (7, 0) else if t.text.toList = [110, 111, 116, 105, 110] then some (7, 1) else none)
  else none
/-- The productions that lean on one another. -/
inductive Gr where
  | expr
  | conj
  | unit
  | term
/-- Further parts of a row. -/
def rowsP (T : List Tok) (one : PS → PRes Int) (m : List UInt8) : Nat → List Int → PS → PRes (List Int)
  | 0, ks, s => .ok (ks, s)
  | n + 1, ks, s => if isM T s m = true then bnd (one (adv s)) fun k s1 => rowsP T one m n (ks ++ [k]) s1 else .ok (ks, s)
def rowP (T : List Tok) (one : PS → PRes Int) (kd : Int) (m : List UInt8) (s : PS) : PRes Int :=
  bnd (one s) fun k0 s1 => bnd (rowsP T one m 4097 [k0] s1) fun ks s2 =>
    if ks.length = 1 then .ok (k0, s2) else putP s2 ⟨kd, ⟨#[]⟩, 0, ks⟩ ((tk T s1.nx).a : Int)
/-- What stands in parentheses that count as a nest. -/
def withP {α : Type} (T : List Tok) (inner : PS → PRes α) (s : PS) : PRes α :=
  bnd (openP T s [40]) fun _ s1 => bnd (inner s1) fun k s2 => bnd (markP T s2 [41]) fun _ s3 => .ok (k, shutP s3)
def selP (T : List Tok) (ex : PS → PRes Int) (kd : Int) (s : PS) : PRes Int :=
  bnd (withP T (fun s1 => bnd (textP T s1) fun t s2 => bnd (markP T s2 [44]) fun _ s3 => bnd (ex s3) fun k s4 => .ok ((t, k), s4)) (adv s)) fun tk2 s5 =>
    putP s5 ⟨kd, tk2.1, 0, [tk2.2]⟩ ((tk T s.nx).a : Int)
def negP (T : List Tok) (un : PS → PRes Int) (s : PS) : PRes Int :=
  bnd (openP T s [33]) fun _ s1 => bnd (un s1) fun k s2 => putP (shutP s2) ⟨3, ⟨#[]⟩, 0, [k]⟩ ((tk T s.nx).a : Int)
def compP (T : List Tok) (te : PS → PRes Int) (s : PS) : PRes Int :=
  bnd (te s) fun l s1 =>
    match betO (tk T s1.nx) with
    | none => .error (rfE T s1)
    | some (kd, nu) => bnd (te (adv s1)) fun r s2 => putP s2 ⟨kd, ⟨#[]⟩, nu, [l, r]⟩ ((tk T s1.nx).a : Int)
def atomP (T : List Tok) (ex te : PS → PRes Int) (s : PS) : PRes Int :=
  if (tk T s.nx).kind = 3 then
    if (tk T s.nx).text.toList = [116, 114, 117, 101] then constP T s 1
    else if (tk T s.nx).text.toList = [102, 97, 108, 115, 101] then constP T s 2
    else if (tk T s.nx).text.toList = [110, 101, 97, 114] then selP T ex 8 s
    else if (tk T s.nx).text.toList = [97, 112, 97, 114, 116] then selP T ex 9 s
    else if (tk T s.nx).text.toList = [116, 111, 108, 101, 114, 97, 116, 101, 100] then tolP T s
    else compP T te s
  else compP T te s
def wordP (T : List Tok) (ex te : PS → PRes Int) (s : PS) : PRes Int :=
  if (tk T s.nx).text.toList = [110, 111, 100, 101] then whoP T s 2
  else if (tk T s.nx).text.toList = [112, 111, 100] then whoP T s 1
  else if (tk T s.nx).text.toList = [105, 116] then whoP T s 3
  else if (tk T s.nx).text.toList = [105, 110, 116] then bnd (withP T te (adv s)) fun k s1 => putP s1 ⟨19, ⟨#[]⟩, 0, [k]⟩ ((tk T s.nx).a : Int)
  else if (tk T s.nx).text.toList = [99, 111, 117, 110, 116] then selP T ex 20 s
  else .error (rfE T s)
def unitP (T : List Tok) (ex un te : PS → PRes Int) (s : PS) : PRes Int :=
  if isM T s [33] = true then negP T un s
  else if isM T s [40] = true then withP T ex s
  else atomP T ex te s
def termP (T : List Tok) (ex te : PS → PRes Int) (s : PS) : PRes Int :=
  if isEl (tk T s.nx) = true then elP T s
  else if isM T s [123] = true then setP T s
  else if (tk T s.nx).kind = 3 then wordP T ex te s
  else .error (rfE T s)
/-- What a production gives, with so much strength. -/
def gr (T : List Tok) : Nat → Gr → PS → PRes Int
  | 0, _, _ => .error (0, 0)
  | n + 1, .expr, s => rowP T (gr T n .conj) 5 [124, 124] s
  | n + 1, .conj, s => rowP T (gr T n .unit) 4 [38, 38] s
  | n + 1, .unit, s => unitP T (gr T n .expr) (gr T n .unit) (gr T n .term) s
  | n + 1, .term, s => termP T (gr T n .expr) (gr T n .term) s
/-- What the whole source gives. -/
def wholeP (T : List Tok) (n : Nat) : PRes Unit :=
  bnd (gr T n .expr ⟨0, 0, [], []⟩) fun _ s =>
    if (tk T s.nx).kind = 0 then (if 1000 < s.ps.length then .error (123, s.os.getD 1000 0) else .ok ((), s)) else .error (rfE T s)
end Go.Proofs.YtcldglilhhhdoaaGreatDoor.L
