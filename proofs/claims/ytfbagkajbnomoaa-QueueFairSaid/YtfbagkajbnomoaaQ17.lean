import Derived.Laws.StructEq
import Derived.Test.YtfbagkajbnomoaaQ16
namespace Go.Proofs.Ytfbagkajbnomoaa.L
open Go.RowKit Rg Qu
set_option linter.unusedVariables false
set_option linter.unusedSimpArgs false
theorem strW : Try.prog.underlying 40 = some (.struct (Try.prog.fieldsOf 40)) := by kernel_rfl
theorem heldW : Try.prog.stoodInHeld 40 = false := by kernel_rfl
theorem guardW : Try.prog.eqGuardType Try.prog.depth 40 = false := by kernel_rfl
theorem fldW : (Try.prog.fieldsOf 40).toList = [{ name := "Name", type := 9, offset := 0, embedded := false, tag := "", pkgPath := "", byteOffset := 0 },
      { name := "Priority", type := 3, offset := 1, embedded := false, tag := "", pkgPath := "", byteOffset := 16 },
      { name := "Seq", type := 3, offset := 2, embedded := false, tag := "", pkgPath := "", byteOffset := 24 },
      { name := "Tries", type := 3, offset := 3, embedded := false, tag := "", pkgPath := "", byteOffset := 32 },
      { name := "Until", type := 3, offset := 4, embedded := false, tag := "", pkgPath := "", byteOffset := 40 },
      { name := "Asleep", type := 4, offset := 5, embedded := false, tag := "", pkgPath := "", byteOffset := 48 }] := by kernel_rfl
/-- Equality, field by field. -/
def wtE (i j : Wt) : Bool := i.name.toList == j.name.toList && (i.pr == j.pr && (i.seq == j.seq && (i.tries == j.tries && (i.til == j.til && i.asl == j.asl))))
theorem bytes_ext {a b : ByteArray} (h : a.toList = b.toList) : a = b := by
  rw [ByteArray.toList_eq, ByteArray.toList_eq] at h
  cases a
  cases b
  congr 1
  exact Array.ext' h
theorem wtE_iff (i j : Wt) : wtE i j = true ↔ i = j := by
  obtain ⟨a, b, c, d, e, f⟩ := i
  obtain ⟨a', b', c', d', e', f'⟩ := j
  unfold wtE
  simp only [Bool.and_eq_true, beq_iff_eq, Wt.mk.injEq]
  constructor
  · rintro ⟨h, r⟩; exact ⟨bytes_ext h, r⟩
  · rintro ⟨h, r⟩; exact ⟨by rw [h], r⟩
theorem wtE_refl (i : Wt) : wtE i i = true := (wtE_iff i i).2 rfl
section
variable (s : ByteArray) (b c d e : Int) (f : Bool) (w : World)
theorem ptW0 : (part 9 #[.string s, .int .i64 b, .int .i64 c, .int .i64 d, .int .i64 e, .bool f] 0).run Try.prog w = .ok (.string s) w := by kernel_rfl
theorem ptW1 : (part 3 #[.string s, .int .i64 b, .int .i64 c, .int .i64 d, .int .i64 e, .bool f] 1).run Try.prog w = .ok (.int .i64 b) w := by kernel_rfl
theorem ptW2 : (part 3 #[.string s, .int .i64 b, .int .i64 c, .int .i64 d, .int .i64 e, .bool f] 2).run Try.prog w = .ok (.int .i64 c) w := by kernel_rfl
theorem ptW3 : (part 3 #[.string s, .int .i64 b, .int .i64 c, .int .i64 d, .int .i64 e, .bool f] 3).run Try.prog w = .ok (.int .i64 d) w := by kernel_rfl
theorem ptW4 : (part 3 #[.string s, .int .i64 b, .int .i64 c, .int .i64 d, .int .i64 e, .bool f] 4).run Try.prog w = .ok (.int .i64 e) w := by kernel_rfl
theorem ptW5 : (part 4 #[.string s, .int .i64 b, .int .i64 c, .int .i64 d, .int .i64 e, .bool f] 5).run Try.prog w = .ok (.bool f) w := by kernel_rfl
end
set_option maxHeartbeats 2000000 in
theorem eq_wt (s : ByteArray) (b c d e : Int) (f : Bool) (s' : ByteArray) (b' c' d' e' : Int) (f' : Bool) (w : World) : (Op.equalIn 10000 40 (.agg #[.string s, .int .i64 b, .int .i64 c, .int .i64 d, .int .i64 e, .bool f]) (.agg #[.string s', .int .i64 b', .int .i64 c', .int .i64 d', .int .i64 e', .bool f'])).run Try.prog w = .ok (wtE ⟨s, b, c, d, e, f⟩ ⟨s', b', c', d', e', f'⟩) w := by
  have e0 := ptW0 s b c d e f
  have e1 := ptW1 s b c d e f
  have e2 := ptW2 s b c d e f
  have e3 := ptW3 s b c d e f
  have e4 := ptW4 s b c d e f
  have e5 := ptW5 s b c d e f
  have f0 := ptW0 s' b' c' d' e' f'
  have f1 := ptW1 s' b' c' d' e' f'
  have f2 := ptW2 s' b' c' d' e' f'
  have f3 := ptW3 s' b' c' d' e' f'
  have f4 := ptW4 s' b' c' d' e' f'
  have f5 := ptW5 s' b' c' d' e' f'
  rw [run_equalIn_struct w 9999 40 _ _ strW heldW, fldW]
  generalize (#[.string s, .int .i64 b, .int .i64 c, .int .i64 d, .int .i64 e, .bool f] : Array Value) = X at *
  generalize (#[.string s', .int .i64 b', .int .i64 c', .int .i64 d', .int .i64 e', .bool f'] : Array Value) = Y at *
  have i0 : ∀ (x y : ByteArray) (w : World), (Op.equalIn 9999 9 (.string x) (.string y)).run Try.prog w = .ok (x.toList == y.toList) w := fun x y w => by
    rw [run_equalIn_string w 9998 9 x y (by kernel_rfl)]
  have i1 : ∀ (x y : Int) (w : World), (Op.equalIn 9999 3 (.int .i64 x) (.int .i64 y)).run Try.prog w = .ok (x == y) w := fun x y w => by
    rw [run_equalIn_int w 9998 3 .i64 .i64 x y (by kernel_rfl)]
  have i2 : ∀ (x y : Bool) (w : World), (Op.equalIn 9999 4 (.bool x) (.bool y)).run Try.prog w = .ok (x == y) w := fun x y w => by
    rw [run_equalIn_bool' w 9998 4 x y (by kernel_rfl)]
  unfold wtE
  generalize h0 : (s.toList == s'.toList) = z0
  cases z0 <;> cases h1 : b == b' <;> cases h2 : c == c' <;> cases h3 : d == d' <;> cases h4 : e == e' <;> simp [Op.eqFields, Sem.run_bind, e0, e1, e2, e3, e4, e5, f0, f1, f2, f3, f4, f5, i0, i1, i2, h0, h1, h2, h3, h4] <;> (clear e5 f5; cases f <;> cases f' <;> rfl)
theorem run_neW (i j : Wt) (w : World) : (binOp .neq 40 (.agg #[.string i.name, .int .i64 i.pr, .int .i64 i.seq, .int .i64 i.tries, .int .i64 i.til, .bool i.asl]) (.agg #[.string j.name, .int .i64 j.pr, .int .i64 j.seq, .int .i64 j.tries, .int .i64 j.til, .bool j.asl])).run Try.prog w = .ok (.bool (!wtE i j)) w := by
  rw [run_neq_struct, eq_wt]
  rfl
theorem run_eqW (i j : Wt) (w : World) : (binOp .eql 40 (.agg #[.string i.name, .int .i64 i.pr, .int .i64 i.seq, .int .i64 i.tries, .int .i64 i.til, .bool i.asl]) (.agg #[.string j.name, .int .i64 j.pr, .int .i64 j.seq, .int .i64 j.tries, .int .i64 j.til, .bool j.asl])).run Try.prog w = .ok (.bool (wtE i j)) w := by
  rw [run_eql_struct, eq_wt]
  rfl
/-- Are two lists the same? -/
def smW : List Wt → List Wt → Bool
  | [], [] => true
  | x :: r, y :: t => wtE x y && smW r t
  | _, _ => false
theorem smW_iff : ∀ (a b : List Wt), smW a b = true ↔ a = b
  | [], [] => by simp [smW]
  | [], _ :: _ => by simp [smW]
  | _ :: _, [] => by simp [smW]
  | x :: r, y :: t => by
    unfold smW
    rw [Bool.and_eq_true, wtE_iff, smW_iff r t, List.cons.injEq]
theorem smW_no {a b : List Wt} (h : ¬ a = b) : smW a b = false := by
  cases e : smW a b
  · rfl
  · exact absurd ((smW_iff a b).1 e) h
set_option maxHeartbeats 4000000 in
set_option maxRecDepth 100000 in
/-- SameRows: two lists that can be read. -/
theorem same_any (a b : Option Addr) (A C : List Wt) (ca cb : Nat) (w : World) (hA : RdG wtV 6 w a A) (hC : RdG wtV 6 w b C) (lA : A.length ≤ 140737488355328) (lC : C.length ≤ 140737488355328) :
    Calls Try.prog 26 #[.slice a A.length ca, .slice b C.length cb] w fun e w' => e = .returned (.bool (smW A C)) ∧ Below w.heap.size w w' := by
  have HA := hid hA
  have HC := hid hC
  by_cases hne : A.length = C.length
  · obtain ⟨n, hn⟩ : ∃ n, n = A.length := ⟨_, rfl⟩
    have HN := hid hn
    have HM := hid (show n = C.length from by omega)
    rw [← hne, ← hn]
    rw [← hn] at lA
    have hmax : n ≤ 9223372036854775807 := by omega
    clear hn hne hA hC lC
    have guardW' := guardW
    go_enter Try.func26, Try.ntmps26
    go_wp2_with fail
    go_loopw [5] (fun s8 wr => ∃ k : Nat, k ≤ n ∧ s8 = .int .i64 (k : Int) ∧ Hid (Below w.heap.size w wr) ∧ Hid (∀ (j : Nat) (h : j < A.length) (h2 : j < C.length), j < k → A[j] = C[j])) (fun i _ => n - (intOf i).toNat)
    case atStart => exact ⟨0, Nat.zero_le _, rfl, hid (Below.refl _ _), hid (fun j h h2 hj => absurd hj (Nat.not_lt_zero j))⟩
    case round =>
      obtain ⟨k, hk, rfl, HB, HE⟩ := hrel
      by_cases hlt : k < n
      · have g1 : (k : Int) < (n : Int) := by omega
        have g2 : (0 : Int) ≤ (k : Int) := by omega
        have k1 : k < A.length := by rw [← HN.out]; exact hlt
        have k2 : k < C.length := by rw [← HM.out]; exact hlt
        have hdr : ∀ {p : Addr} {u : Value}, wr.cell? p = some u → wr.drew.cell? p = some u := fun h => h
        obtain ⟨b1, o1, hae, hb1, c0, c1, c2, c3, c4, c5⟩ := cell_w (HA.out.low HB.out) k1
        obtain ⟨b2, o2, hbe, hb2, d0, d1, d2, d3, d4, d5⟩ := cell_w (HC.out.low HB.out) k2
        subst hae hbe
        obtain ⟨x, hx⟩ : ∃ x, x = A[k]'k1 := ⟨_, rfl⟩
        obtain ⟨y, hy⟩ : ∃ y, y = C[k]'k2 := ⟨_, rfl⟩
        rw [← hx] at c0 c1 c2 c3 c4 c5
        rw [← hy] at d0 d1 d2 d3 d4 d5
        have c0 := hdr c0
        have c1 := hdr c1
        have c2 := hdr c2
        have c3 := hdr c3
        have c4 := hdr c4
        have c5 := hdr c5
        have d0 := hdr d0
        have d1 := hdr d1
        have d2 := hdr d2
        have d3 := hdr d3
        have d4 := hdr d4
        have d5 := hdr d5
        have HX := hid (And.intro hx hy)
        have hop := run_neW x y
        have HBD := hid (bch HB.out (belowD wr))
        cases hq : wtE x y with
        | true =>
          have HQ := hid ((wtE_iff x y).1 hq)
          rw [hq] at hop
          clear hdr hb1 hb2 hx hy hq
          go_upto_region 6 with fail
          go_region_held3 (fun Y => Y.cell? ⟨b1, o1 + k * 6, none⟩ = some (.string x.name) ∧ Y.cell? ⟨b1, o1 + k * 6 + 1, none⟩ = some (.int .i64 x.pr) ∧ Y.cell? ⟨b1, o1 + k * 6 + 2, none⟩ = some (.int .i64 x.seq) ∧ Y.cell? ⟨b1, o1 + k * 6 + 3, none⟩ = some (.int .i64 x.tries) ∧ Y.cell? ⟨b1, o1 + k * 6 + 4, none⟩ = some (.int .i64 x.til) ∧ Y.cell? ⟨b1, o1 + k * 6 + 5, none⟩ = some (.bool x.asl) ∧ Y.cell? ⟨b2, o2 + k * 6, none⟩ = some (.string y.name) ∧ Y.cell? ⟨b2, o2 + k * 6 + 1, none⟩ = some (.int .i64 y.pr) ∧ Y.cell? ⟨b2, o2 + k * 6 + 2, none⟩ = some (.int .i64 y.seq) ∧ Y.cell? ⟨b2, o2 + k * 6 + 3, none⟩ = some (.int .i64 y.tries) ∧ Y.cell? ⟨b2, o2 + k * 6 + 4, none⟩ = some (.int .i64 y.til) ∧ Y.cell? ⟨b2, o2 + k * 6 + 5, none⟩ = some (.bool y.asl))
            (exact ⟨c0, c1, c2, c3, c4, c5, d0, d1, d2, d3, d4, d5⟩)
            (fail)
          clear c0 c1 c2 c3 c4 c5 d0 d1 d2 d3 d4 d5
          go_wp2_with fail
          exact ⟨⟨k + 1, by omega, by go_num, HBD, hid (fun j h h2 hj => by
            by_cases e : j = k
            · subst e
              rw [← HX.out.1, ← HX.out.2]
              exact HQ.out
            · exact HE.out j h h2 (by omega))⟩, by simp [intOf]; omega⟩
        | false =>
          have HQ := hid (show ¬ A = C from fun e => by
            have e2 : x = y := by rw [hx, hy]; simp only [e]
            rw [(wtE_iff x y).2 e2] at hq
            cases hq)
          rw [hq] at hop
          clear hdr hb1 hb2 hx hy hq
          go_upto_region 6 with fail
          go_region_held3 (fun Y => Y.cell? ⟨b1, o1 + k * 6, none⟩ = some (.string x.name) ∧ Y.cell? ⟨b1, o1 + k * 6 + 1, none⟩ = some (.int .i64 x.pr) ∧ Y.cell? ⟨b1, o1 + k * 6 + 2, none⟩ = some (.int .i64 x.seq) ∧ Y.cell? ⟨b1, o1 + k * 6 + 3, none⟩ = some (.int .i64 x.tries) ∧ Y.cell? ⟨b1, o1 + k * 6 + 4, none⟩ = some (.int .i64 x.til) ∧ Y.cell? ⟨b1, o1 + k * 6 + 5, none⟩ = some (.bool x.asl) ∧ Y.cell? ⟨b2, o2 + k * 6, none⟩ = some (.string y.name) ∧ Y.cell? ⟨b2, o2 + k * 6 + 1, none⟩ = some (.int .i64 y.pr) ∧ Y.cell? ⟨b2, o2 + k * 6 + 2, none⟩ = some (.int .i64 y.seq) ∧ Y.cell? ⟨b2, o2 + k * 6 + 3, none⟩ = some (.int .i64 y.tries) ∧ Y.cell? ⟨b2, o2 + k * 6 + 4, none⟩ = some (.int .i64 y.til) ∧ Y.cell? ⟨b2, o2 + k * 6 + 5, none⟩ = some (.bool y.asl))
            (exact ⟨c0, c1, c2, c3, c4, c5, d0, d1, d2, d3, d4, d5⟩)
            (fail)
          clear c0 c1 c2 c3 c4 c5 d0 d1 d2 d3 d4 d5
          go_wp2_with fail
          go_ret
          exact ⟨by rw [smW_no HQ.out]; rfl, HBD.out⟩
      · have g1 : ¬ (k : Int) < (n : Int) := by omega
        have HQ := hid (show A = C from List.ext_getElem (by rw [← HN.out, ← HM.out]) (fun j h h2 => HE.out j h h2 (by have := HN.out; omega)))
        go_wp2_with fail
        go_ret
        exact ⟨by rw [(smW_iff A C).2 HQ.out]; rfl, HB.out⟩
  · have HQ := hid (show ¬ A = C from fun e => hne (by rw [e]))
    have hne' : ¬ (A.length : Int) = (C.length : Int) := by omega
    obtain ⟨n, hn⟩ : ∃ n, n = A.length := ⟨_, rfl⟩
    obtain ⟨m, hm⟩ : ∃ n, n = C.length := ⟨_, rfl⟩
    rw [← hn, ← hm] at hne' ⊢
    clear hn hm hne hA hC lA lC
    go_enter Try.func26, Try.ntmps26
    go_wp2_with fail
    go_ret
    exact ⟨by rw [smW_no HQ.out]; rfl, Below.refl _ _⟩
end Go.Proofs.Ytfbagkajbnomoaa.L
