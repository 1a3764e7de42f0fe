import Derived.Test.YtppblibcbjpfnaaDoorLst2
namespace Go.Proofs.YtppblibcbjpfnaaDoor.L
open Go.RowKit
set_option linter.unusedVariables false
def sNS : ByteArray := ⟨#[78, 111, 83, 99, 104, 101, 100, 117, 108, 101]⟩
def sPN : ByteArray := ⟨#[80, 114, 101, 102, 101, 114, 78, 111, 83, 99, 104, 101, 100, 117, 108, 101]⟩
def sNE : ByteArray := ⟨#[78, 111, 69, 120, 101, 99, 117, 116, 101]⟩
def sEq : ByteArray := ⟨#[69, 113, 117, 97, 108]⟩
def sEx : ByteArray := ⟨#[69, 120, 105, 115, 116, 115]⟩
theorem lNS : sNS.toList = [78, 111, 83, 99, 104, 101, 100, 117, 108, 101] := bytes_toList _
theorem lPN : sPN.toList = [80, 114, 101, 102, 101, 114, 78, 111, 83, 99, 104, 101, 100, 117, 108, 101] := bytes_toList _
theorem lNE : sNE.toList = [78, 111, 69, 120, 101, 99, 117, 116, 101] := bytes_toList _
theorem lEq : sEq.toList = [69, 113, 117, 97, 108] := bytes_toList _
theorem lEx : sEx.toList = [69, 120, 105, 115, 116, 115] := bytes_toList _
def effB (s : ByteArray) : Bool := eqS s sNS || eqS s sPN || eqS s sNE
def emB (s : ByteArray) : Bool := s.toList.isEmpty
theorem emB_iff {s : ByteArray} : emB s = true ↔ s = ByteArray.empty := by
  unfold emB
  rw [bytes_toList]
  constructor
  · intro h
    exact Go.WideShapes.bytes_inj (by simpa using h)
  · rintro rfl
    rfl
set_option maxHeartbeats 4000000 in
theorem effect_any (s : ByteArray) (w : World) : Calls Tryd.prog 36 #[.string s] w fun e w' => e = .returned (.bool (effB s)) ∧ w' = w := by
  unfold effB eqS
  rw [lNS, lPN, lNE]
  cases e1 : (s.toList == [78, 111, 83, 99, 104, 101, 100, 117, 108, 101])
  · cases e2 : (s.toList == [80, 114, 101, 102, 101, 114, 78, 111, 83, 99, 104, 101, 100, 117, 108, 101])
    · cases e3 : (s.toList == [78, 111, 69, 120, 101, 99, 117, 116, 101]) <;>
      · go_enter Tryd.func36, Tryd.ntmps36
        go_wp2
        go_ret
        exact ⟨rfl, rfl⟩
    · go_enter Tryd.func36, Tryd.ntmps36
      go_wp2
      go_ret
      exact ⟨rfl, rfl⟩
  · go_enter Tryd.func36, Tryd.ntmps36
    go_wp2
    go_ret
    exact ⟨rfl, rfl⟩
/-- The fault of a taint. -/
def tE (t : Tn) : Int := if keyB t.1 = false then 41 else if valB t.2.1 = false then 42 else if effB t.2.2 = false then 40 else 0
def tv (t : Tn) : Value := .agg #[.string t.1, .string t.2.1, .string t.2.2]
def ov (o : To) : Value := .agg #[.string o.1, .string o.2.1, .string o.2.2.1, .string o.2.2.2]
theorem three (w : World) (x y z : Value) (t : TypeId) : (w.alloc (.cells #[x, y, z] t)).cell? ⟨w.heap.size, 0, none⟩ = some x ∧ (w.alloc (.cells #[x, y, z] t)).cell? ⟨w.heap.size, 1, none⟩ = some y ∧ (w.alloc (.cells #[x, y, z] t)).cell? ⟨w.heap.size, 2, none⟩ = some z := by
  have h : (w.alloc (.cells #[x, y, z] t)).heap[w.heap.size]? = some (.cells #[x, y, z] t) := by
    show (w.heap.push _)[w.heap.size]? = _
    simp
  refine ⟨?_, ?_, ?_⟩ <;> (unfold World.cell?; rw [h]; rfl)
set_option maxHeartbeats 4000000 in
theorem ctaint_any (t : Tn) (w : World) (hk : t.1.size ≤ maxLen) (hv : t.2.1.size ≤ maxLen) : Calls Tryd.prog 10 #[tv t] w fun e w' => e = .returned (.int .i64 (tE t)) ∧ Below w.heap.size w w' := by
  obtain ⟨k, v, f⟩ := t
  simp only [tv, tE] at *
  have HK := hid (fun W => key_any k W hk)
  have HV := hid (fun W => value_any v W hv)
  have HE := hid (fun W => effect_any f W)
  cases e1 : keyB k
  · rw [e1] at HK
    rw [if_pos rfl]
    clear e1
    go_enter Tryd.func10, Tryd.ntmps10
    go_wp2_with fail
    refine (HK.out _).mono ?_
    rintro e w1 ⟨rfl, hb⟩
    have HB := hid ((belowA w _).trans (hb.mono (belowA w _).size))
    clear hb
    go_wp2_with fail
    go_ret
    exact ⟨rfl, HB.out⟩
  · rw [e1] at HK
    rw [if_neg (by decide)]
    cases e2 : valB v
    · rw [e2] at HV
      rw [if_pos rfl]
      clear e1 e2
      go_enter Tryd.func10, Tryd.ntmps10
      go_wp2_with fail
      refine (HK.out _).mono ?_
      rintro e w1 ⟨rfl, hb⟩
      have hx : w1.cell? ⟨w.heap.size, 1, none⟩ = some (.string v) := (hb.cell (p := ⟨w.heap.size, 1, none⟩) (by simp)).trans (three w _ _ _ _).2.1
      have HB := hid ((belowA w _).trans (hb.mono (belowA w _).size))
      clear hb
      go_wp2_with fail
      refine (HV.out _).mono ?_
      rintro e w2 ⟨rfl, hww⟩; subst hww
      go_wp2_with fail
      go_ret
      exact ⟨rfl, HB.out⟩
    · rw [e2] at HV
      rw [if_neg (by decide)]
      cases e3 : effB f <;>
      · rw [e3] at HE
        clear e1 e2 e3
        go_enter Tryd.func10, Tryd.ntmps10
        go_wp2_with fail
        refine (HK.out _).mono ?_
        rintro e w1 ⟨rfl, hb⟩
        have hx : w1.cell? ⟨w.heap.size, 1, none⟩ = some (.string v) := (hb.cell (p := ⟨w.heap.size, 1, none⟩) (by simp)).trans (three w _ _ _ _).2.1
        have hy : w1.cell? ⟨w.heap.size, 2, none⟩ = some (.string f) := (hb.cell (p := ⟨w.heap.size, 2, none⟩) (by simp)).trans (three w _ _ _ _).2.2
        have HB := hid ((belowA w _).trans (hb.mono (belowA w _).size))
        clear hb
        go_wp2_with fail
        refine (HV.out _).mono ?_
        rintro e w2 ⟨rfl, hww⟩; subst hww
        go_wp2_with fail
        refine (HE.out _).mono ?_
        rintro e w2 ⟨rfl, hww⟩; subst hww
        go_wp2_with fail
        go_ret
        exact ⟨rfl, HB.out⟩
theorem num_any (n : Int) (w : World) (h : 0 ≤ n ∧ n ≤ 1000) : Calls Tryd.prog 9 #[.int .i64 n] w fun e w' => e = .returned (.int .i64 n) ∧ w' = w := by
  go_enter Tryd.func9, Tryd.ntmps9
  go_wp2
  go_ret
  exact ⟨by first | rfl | go_num, rfl⟩
end Go.Proofs.YtppblibcbjpfnaaDoor.L
