import Derived.Test.YtbplmglddinkdaaDoorX5
import Derived.Laws.IdiomStrings
import Derived.Laws.BytesArg
import Derived.WideShapes
namespace Go.Proofs.YtbplmglddinkdaaDoor.L
open Go.RowKit Go.Shelf
set_option linter.unusedVariables false
/-- A row of bytes of one's own. -/
abbrev OwnB (w : World) (base : Nat) (v : Value) (l : List UInt8) : Prop := w.ownsRow base 5 1 v l.length (Lib.byteCells l)
theorem byteCells_eq (l : List UInt8) : Lib.byteCells l = l.map (fun b => Value.int .u8 (iv b)) := rfl
theorem ownb_form {w : World} {base : Nat} {v : Value} {l : List UInt8} (h : OwnB w base v l) : ∃ a cap, v = .slice a l.length cap := by
  rcases h.2 with ⟨e, n0⟩ | ⟨g, cap, cur, e, _⟩
  · exact ⟨none, 0, by rw [e, n0]⟩
  · exact ⟨_, _, e⟩
theorem ownb_block {w : World} {base : Nat} {v : Value} {l : List UInt8} (h : OwnB w base v l) : ∀ k, v.ownBlock = some k → base ≤ k := by
  intro k e
  rcases h.2 with ⟨e', _⟩ | ⟨g, cap, cur, e', hb, _⟩
  · rw [e'] at e; cases e
  · rw [e'] at e; cases e; exact hb
theorem conv_own {w : World} {base : Nat} {v : Value} {l : List UInt8} (h : OwnB w base v l) : (convert 59 9 v).run Tryd.prog w = .ok (.string ⟨l.toArray⟩) w := by
  rcases h.2 with ⟨rfl, n0⟩ | ⟨g, cap, cur, rfl, hb, hg, h1, h2, h3, h4⟩
  · have : l = [] := List.eq_nil_of_length_eq_zero n0
    subst this
    exact run_convert_bytes_nil (P := Tryd.prog) w 59 5 Tryd.underlying59 Tryd.underlying5 0 0 9 Tryd.underlying9
  · refine run_convert_bytes_back (P := Tryd.prog) w 59 9 5 ⟨g, 0, none⟩ cap l Tryd.underlying59 Tryd.underlying5 Tryd.underlying9 ?_
    intro j hj
    have hlen : (Lib.byteCells l)[j]? = some (.int .u8 (l[j].toNat : Int)) := by
      rw [byteCells_eq, List.getElem?_map, List.getElem?_eq_getElem hj]
      rfl
    rw [← h4, List.getElem?_take_of_lt (by omega)] at hlen
    rw [Go.WideShapes.add_plain, cell_of_row w g (0 + j) _ _ _ hg]
    simpa using hlen
theorem ownb_new (w : World) : OwnB (w.alloc (.cells #[] 5)) w.heap.size (.slice (some ⟨w.heap.size, 0, none⟩) 0 0) [] := World.ownsRow_made w #[] 0 (Nat.le_refl _) (Nat.zero_le _) rfl
theorem cell_one_new (w : World) (a : Value) (t : TypeId) : ∀ (j : Nat) (u : Value), [a][j]? = some u → (w.alloc (.cells #[a] t)).cell? ((⟨w.heap.size, 0, none⟩ : Addr).add j) = some u := by
  intro j u h
  rw [Go.WideShapes.add_plain]
  rw [cell_of_row (w.alloc (.cells #[a] t)) w.heap.size (0 + j) _ _ _ (heap_alloc_new w _)]
  simpa using h
theorem results_tmp4 {fn : Func} {t u v x : Tmp} (h : fn.results = #[.tmp t, .tmp u, .tmp v, .tmp x]) (tmps : Array Value) (P : Program) (w : World) :
    (results fn tmps).run P w = .ok (.tuple #[tmps.getD t undef, tmps.getD u undef, tmps.getD v undef, tmps.getD x undef]) w := by
  simp [results, h]
theorem infoB : (Tryd.prog.info? 5).map (fun i => (i.zero, i.size, i.bytes)) = some (some (.int .u8 0), 1, 1) := by kernel_rfl
def digB (x : Int) : Bool := decide (48 ≤ x ∧ x ≤ 57)
theorem rdig_any (x : Int) (w : World) : Calls Tryd.prog 32 #[.int .u8 x] w fun e w' => e = .returned (.bool (digB x)) ∧ w' = w := by
  unfold digB
  by_cases a : 48 ≤ x
  · by_cases b : x ≤ 57
    · go_enter Tryd.func32, Tryd.ntmps32
      go_wp2
      go_ret
      exact ⟨ret_bool (by simp [a, b]), rfl⟩
    · go_enter Tryd.func32, Tryd.ntmps32
      go_wp2
      go_ret
      exact ⟨ret_bool (by simp; omega), rfl⟩
  · go_enter Tryd.func32, Tryd.ntmps32
    go_wp2
    go_ret
    exact ⟨ret_bool (by simp; omega), rfl⟩
set_option maxHeartbeats 1000000 in
theorem rbyte_any (s : ByteArray) (k : Nat) (w : World) : Calls Tryd.prog 33 #[.string s, .int .i64 (k : Int)] w fun e w' => e = .returned (.int .u8 (iv (bt s k))) ∧ w' = w := by
  have h0 : ¬ ((k : Int) < 0) := by omega
  by_cases h : k < s.size
  · have hc := iv_get s k h
    have h1 : ¬ ((s.size : Int) ≤ k) := by omega
    generalize iv (bt s k) = x at *
    go_enter Tryd.func33, Tryd.ntmps33
    go_wp2
    go_ret
    exact ⟨rfl, rfl⟩
  · have h1 : ((s.size : Int) ≤ k) := by omega
    rw [bt_out s k (by omega)]
    go_enter Tryd.func33, Tryd.ntmps33
    go_wp2
    go_ret
    exact ⟨rfl, rfl⟩
set_option maxHeartbeats 1000000 in
theorem rhex_any (x : Int) (w : World) (hx : 0 ≤ x ∧ x < 256) : Calls Tryd.prog 60 #[.int .u8 x] w fun e w' => e = .returned (.int .i64 (hexv x)) ∧ w' = w := by
  have HD := hid (fun W => rdig_any x W)
  obtain ⟨r, hr⟩ : ∃ r, hexv x = r := ⟨_, rfl⟩
  rw [hr]
  unfold digB at HD
  unfold hexv at hr
  by_cases a : 48 ≤ x ∧ x ≤ 57
  · rw [if_pos a] at hr
    rw [decide_eq_true a] at HD
    obtain ⟨a1, a2⟩ := a
    subst hr
    go_enter Tryd.func60, Tryd.ntmps60
    go_wp2_with (go_at_call 32; refine (HD.out _).mono ?_; rintro e w1 ⟨rfl, hww⟩; subst hww)
    go_ret
    exact ⟨by go_num, rfl⟩
  · rw [if_neg a] at hr
    rw [decide_eq_false a] at HD
    by_cases b : 97 ≤ x
    · by_cases b2 : x ≤ 102
      · rw [if_pos ⟨b, b2⟩] at hr
        subst hr
        go_enter Tryd.func60, Tryd.ntmps60
        go_wp2_with (go_at_call 32; refine (HD.out _).mono ?_; rintro e w1 ⟨rfl, hww⟩; subst hww)
        go_ret
        exact ⟨by go_num, rfl⟩
      · have c : 65 ≤ x := by omega
        have c2 : ¬ x ≤ 70 := by omega
        rw [if_neg (by omega), if_neg (by omega)] at hr
        subst hr
        go_enter Tryd.func60, Tryd.ntmps60
        go_wp2_with (go_at_call 32; refine (HD.out _).mono ?_; rintro e w1 ⟨rfl, hww⟩; subst hww)
        go_ret
        exact ⟨rfl, rfl⟩
    · rw [if_neg (by omega)] at hr
      by_cases c : 65 ≤ x
      · by_cases c2 : x ≤ 70
        · rw [if_pos ⟨c, c2⟩] at hr
          subst hr
          go_enter Tryd.func60, Tryd.ntmps60
          go_wp2_with (go_at_call 32; refine (HD.out _).mono ?_; rintro e w1 ⟨rfl, hww⟩; subst hww)
          go_ret
          exact ⟨by go_num, rfl⟩
        · rw [if_neg (by omega)] at hr
          subst hr
          go_enter Tryd.func60, Tryd.ntmps60
          go_wp2_with (go_at_call 32; refine (HD.out _).mono ?_; rintro e w1 ⟨rfl, hww⟩; subst hww)
          go_ret
          exact ⟨rfl, rfl⟩
      · rw [if_neg (by omega)] at hr
        subst hr
        go_enter Tryd.func60, Tryd.ntmps60
        go_wp2_with (go_at_call 32; refine (HD.out _).mono ?_; rintro e w1 ⟨rfl, hww⟩; subst hww)
        go_ret
        exact ⟨rfl, rfl⟩
end Go.Proofs.YtbplmglddinkdaaDoor.L
