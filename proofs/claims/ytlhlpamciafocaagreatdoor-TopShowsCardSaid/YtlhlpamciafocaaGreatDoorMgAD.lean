import Derived.Test.YtlhlpamciafocaaGreatDoorMgAC
import Derived.Shelf.Strconv.ErrVarAll
import Derived.Shelf.Strconv.Itoa3
import Derived.Shelf.Strconv.Clone
import Derived.Test.YtlhlpamciafocaaGreatDoorProg
namespace Go.Proofs.YtlhlpamciafocaaGreatDoor.L
open Go.RowKit Go.Shelf
set_option linter.unusedVariables false
/-- A list of parts that can be read, whose empty lists of kids have no room. -/
def PLs (w : World) (a : Option Addr) (T : List Pt) : Prop := T.length = 0 ∨ ∃ b off, a = some ⟨b, off, none⟩ ∧ b < w.heap.size ∧ ∀ j, j < T.length → ∃ ka kc,
  w.cell? ⟨b, off + j * 4, none⟩ = some (.int .i64 (pt T j).kind) ∧ w.cell? ⟨b, off + j * 4 + 1, none⟩ = some (.string (pt T j).text) ∧ w.cell? ⟨b, off + j * 4 + 2, none⟩ = some (.int .i64 (pt T j).num) ∧
  w.cell? ⟨b, off + j * 4 + 3, none⟩ = some (.slice ka (pt T j).kids.length kc) ∧ RdI w ka (pt T j).kids ∧ (ka = none → kc = 0)
theorem PLs.pl {w : World} {a : Option Addr} {T : List Pt} (h : PLs w a T) : PL w a T := by
  rcases h with h | ⟨b, off, rfl, h2, h3⟩
  · exact Or.inl h
  · refine Or.inr ⟨b, off, rfl, h2, fun j hj => ?_⟩
    obtain ⟨ka, kc, a0, a1, a2, a3, a4, _⟩ := h3 j hj
    exact ⟨ka, kc, a0, a1, a2, a3, a4⟩
theorem PLs.low {w w' : World} {a : Option Addr} {T : List Pt} (h : PLs w a T) (k : Below w.heap.size w w') : PLs w' a T := by
  rcases h with h | ⟨b, off, rfl, h2, h3⟩
  · exact Or.inl h
  · refine Or.inr ⟨b, off, rfl, Nat.lt_of_lt_of_le h2 k.size, fun j hj => ?_⟩
    obtain ⟨ka, kc, a0, a1, a2, a3, a4, a5⟩ := h3 j hj
    exact ⟨ka, kc, (k.cell (p := ⟨b, _, none⟩) h2).trans a0, (k.cell (p := ⟨b, _, none⟩) h2).trans a1, (k.cell (p := ⟨b, _, none⟩) h2).trans a2, (k.cell (p := ⟨b, _, none⟩) h2).trans a3, a4.low k (Nat.le_refl _), a5⟩
/-- The cells of the first k parts, with the lists ks. -/
def CP (T : List Pt) (ks : Nat → Value) : Nat → List Value
  | 0 => []
  | k + 1 => CP T ks k ++ [.int .i64 (pt T k).kind, .string (pt T k).text, .int .i64 (pt T k).num, ks k]
theorem CP_len (T : List Pt) (ks : Nat → Value) : ∀ k, (CP T ks k).length = k * 4
  | 0 => rfl
  | k + 1 => by
    simp only [CP, List.length_append, CP_len T ks k, List.length_cons, List.length_nil]
    omega
theorem CP_congr (T : List Pt) {ks ks' : Nat → Value} : ∀ {k : Nat}, (∀ j, j < k → ks j = ks' j) → CP T ks k = CP T ks' k
  | 0, _ => rfl
  | k + 1, h => by
    simp only [CP]
    rw [CP_congr T (k := k) (fun j hj => h j (by omega)), h k (by omega)]
theorem CP_get (T : List Pt) (ks : Nat → Value) (j r : Nat) (hr : r < 4) : ∀ {k : Nat}, j < k → (CP T ks k)[j * 4 + r]? = [.int .i64 (pt T j).kind, .string (pt T j).text, .int .i64 (pt T j).num, ks j][r]?
  | k + 1, h => by
    simp only [CP]
    by_cases e : j < k
    · rw [List.getElem?_append_left (by rw [CP_len]; omega)]
      exact CP_get T ks j r hr e
    · have : j = k := by omega
      subst this
      rw [List.getElem?_append_right (by rw [CP_len]; omega), CP_len]
      congr 1
      omega
/-- A tree of one's own: a row of parts, each with a row of kids. -/
structure OwnP (W : World) (base : Nat) (v : Value) (T : List Pt) (ks : Nat → Value) (k : Nat) : Prop where
  row : W.ownsRow base 50 4 v k (CP T ks k)
  kids : ∀ j, j < k → OwnI W base (ks j) (pt T j).kids
theorem OwnP.pl {W : World} {base : Nat} {v : Value} {T : List Pt} {ks : Nat → Value} (h : OwnP W base v T ks T.length) : ∃ a cap, v = .slice a T.length cap ∧ PLs W a T := by
  rcases h.row.2 with ⟨rfl, n0⟩ | ⟨g, cap, cur, rfl, hb, hg, h3, h4, h5, h6⟩
  · exact ⟨none, 0, by rw [n0], Or.inl n0⟩
  · refine ⟨_, _, rfl, Or.inr ⟨g, 0, rfl, lt_blk hg, fun j hj => ?_⟩⟩
    have key : ∀ r, r < 4 → W.cell? ⟨g, j * 4 + r, none⟩ = [.int .i64 (pt T j).kind, .string (pt T j).text, .int .i64 (pt T j).num, ks j][r]? := by
      intro r hr
      rw [cell_of_row W g _ _ _ _ hg, ← CP_get T ks j r hr hj, ← h6, List.getElem?_take_of_lt (by omega), Array.getElem?_toList]
    have hk := h.kids j hj
    obtain ⟨ka, kc, e⟩ := own_form hk
    rw [e] at hk
    obtain ⟨_, r1, r2⟩ := own_rdI hk
    refine ⟨ka, kc, ?_, ?_, ?_, ?_, r1, r2⟩
    · rw [Nat.zero_add]; exact key 0 (by decide)
    · rw [Nat.zero_add]; exact key 1 (by decide)
    · rw [Nat.zero_add]; exact key 2 (by decide)
    · rw [Nat.zero_add, ← e]; exact key 3 (by decide)
theorem OwnP.low {W W' : World} {base : Nat} {v : Value} {T : List Pt} {ks : Nat → Value} {k : Nat} (h : OwnP W base v T ks k) (hk : Below W.heap.size W W') : OwnP W' base v T ks k :=
  ⟨World.ownsRow.kept (row := none) h.row ⟨hk.os, hk.tape, hk.output, hk.size, fun k hkl _ => hk.block k hkl⟩ (by cases v.ownBlock <;> simp), fun j hj => own_low (h.kids j hj) hk⟩
theorem row_ne {W : World} {b b' s s' n n' : Nat} {e e' : TypeId} {v v' : Value} {xs ys : List Value} (h : W.ownsRow b e s v n xs) (h' : W.ownsRow b' e' s' v' n' ys) (hne : e ≠ e') : v.ownBlock = none ∨ v.ownBlock ≠ v'.ownBlock := by
  rcases h.2 with ⟨rfl, _⟩ | ⟨g, cap, cur, rfl, _, hg, _⟩
  · exact .inl rfl
  · right
    intro e1
    rcases h'.2 with ⟨rfl, _⟩ | ⟨g', cap', cur', rfl, _, hg', _⟩
    · cases e1
    · have : g = g' := by simpa [Value.ownBlock] using e1
      subst this
      rw [hg] at hg'
      have := Option.some.inj hg'
      simp at this
      exact hne this.2
/-- One part more, behind an append. -/
theorem OwnP.more {W W' : World} {base : Nat} {v v' : Value} {T : List Pt} {ks : Nat → Value} {k : Nat} {x : Value} (h : OwnP W base v T ks k) (hx : OwnI W base x (pt T k).kids)
    (hr : W'.ownsRow base 50 4 v' (k + 1) (CP T ks k ++ [.int .i64 (pt T k).kind, .string (pt T k).text, .int .i64 (pt T k).num, x])) (hg : W.grownBy W' v.ownBlock) : OwnP W' base v' T (fun j => if j = k then x else ks j) (k + 1) := by
  refine ⟨?_, fun j hj => ?_⟩
  · have e : CP T (fun j => if j = k then x else ks j) (k + 1) = CP T ks k ++ [.int .i64 (pt T k).kind, .string (pt T k).text, .int .i64 (pt T k).num, x] := by
      simp only [CP, if_true]
      rw [CP_congr T (ks' := ks) (fun j hj => by simp [Nat.ne_of_lt hj])]
    rw [e]
    exact hr
  · by_cases hjk : j = k
    · subst hjk
      simp only [if_true]
      exact World.ownsRow.kept hx hg (row_ne hx h.row (by decide))
    · simp only [hjk, if_false]
      exact World.ownsRow.kept (h.kids j (by omega)) hg (row_ne (h.kids j (by omega)) h.row (by decide))
theorem infoP : (Tryz.prog.info? 50).map (fun i => (i.zero, i.size, i.bytes)) = some (some (.agg #[.int .i64 0, .string ByteArray.empty, .int .i64 0, .slice none 0 0]), 4, 56) := by kernel_rfl
theorem cell_four_new (w : World) (a b c d : Value) (t : TypeId) : ∀ (j : Nat) (u : Value), [a, b, c, d][j]? = some u → (w.alloc (.cells #[a, b, c, d] t)).cell? ((⟨w.heap.size, 0, none⟩ : Addr).add j) = some u := by
  intro j u h
  rw [Go.WideShapes.add_plain]
  rw [cell_of_row (w.alloc (.cells #[a, b, c, d] t)) w.heap.size (0 + j) _ _ _ (heap_alloc_new w _)]
  simpa using h
end Go.Proofs.YtlhlpamciafocaaGreatDoor.L
namespace Go.Proofs.YtlhlpamciafocaaGreatDoor.L
open Go.RowKit Go.Shelf
set_option linter.unusedVariables false
theorem iv_inj {a b : UInt8} (h : iv a = iv b) : a = b := by
  apply UInt8.toNat_inj.1
  unfold iv at h
  omega
theorem ne_iv {a : UInt8} {n : UInt8} (h : a ≠ n) : (iv a == iv n) = false := by
  simp
  intro e
  exact h (iv_inj e)
end Go.Proofs.YtlhlpamciafocaaGreatDoor.L
namespace Go.Proofs.YtlhlpamciafocaaGreatDoor.L
open Go.RowKit Go.Shelf
set_option linter.unusedVariables false
end Go.Proofs.YtlhlpamciafocaaGreatDoor.L
namespace Go.Proofs.YtlhlpamciafocaaGreatDoor.L
open Go.RowKit Go.Shelf
set_option linter.unusedVariables false
/-- A letter, a digit or an underline. -/
def inwB (x : Int) : Bool := digB x || decide (97 ≤ x ∧ x ≤ 122) || decide (65 ≤ x ∧ x ≤ 90) || x == 95
def blkB (x : Int) : Bool := x == 32 || x == 9 || x == 10 || x == 13
theorem ldig_any (x : Int) (w : World) : Calls Tryz.prog 80 #[.int .u8 x] w fun e w' => e = .returned (.bool (digB x)) ∧ w' = w := by
  unfold digB
  by_cases a : 48 ≤ x
  · by_cases b : x ≤ 57
    · go_enter Tryz.func80, Tryz.ntmps80
      go_wp2
      go_ret
      exact ⟨ret_bool (by simp [a, b]), rfl⟩
    · go_enter Tryz.func80, Tryz.ntmps80
      go_wp2
      go_ret
      exact ⟨ret_bool (by simp; omega), rfl⟩
  · go_enter Tryz.func80, Tryz.ntmps80
    go_wp2
    go_ret
    exact ⟨ret_bool (by simp; omega), rfl⟩
set_option maxHeartbeats 1000000 in
theorem linw_any (x : Int) (w : World) : Calls Tryz.prog 82 #[.int .u8 x] w fun e w' => e = .returned (.bool (inwB x)) ∧ w' = w := by
  have HD := hid (fun W => ldig_any x W)
  obtain ⟨r, hr⟩ : ∃ r, inwB x = r := ⟨_, rfl⟩
  rw [hr]
  unfold inwB at hr
  by_cases d : digB x = true
  · rw [d] at HD hr
    have hr' : r = true := by rw [← hr]; rfl
    subst hr'
    go_enter Tryz.func82, Tryz.ntmps82
    go_wp2_with (go_at_call 80; refine (HD.out _).mono ?_; rintro e w1 ⟨rfl, hww⟩; subst hww)
    go_ret
    exact ⟨ret_bool (by first | rfl | (simp; omega)), rfl⟩
  · have d' : digB x = false := by simpa using d
    rw [d'] at HD hr
    clear d d'
    by_cases a : 97 ≤ x
    · by_cases b : x ≤ 122
      · have hr' : r = true := by rw [← hr]; simp [a, b]
        subst hr'
        go_enter Tryz.func82, Tryz.ntmps82
        go_wp2_with (go_at_call 80; refine (HD.out _).mono ?_; rintro e w1 ⟨rfl, hww⟩; subst hww)
        go_ret
        exact ⟨ret_bool (by first | rfl | (simp; omega)), rfl⟩
      · have h1 : 65 ≤ x := by omega
        have h2 : ¬ x ≤ 90 := by omega
        have h3 : (x == 95) = false := by simp; omega
        have hr' : r = false := by rw [← hr]; simp; omega
        subst hr'
        go_enter Tryz.func82, Tryz.ntmps82
        go_wp2_with (go_at_call 80; refine (HD.out _).mono ?_; rintro e w1 ⟨rfl, hww⟩; subst hww)
        go_ret
        exact ⟨ret_bool (by first | rfl | (simp; omega)), rfl⟩
    · by_cases h1 : 65 ≤ x
      · by_cases h2 : x ≤ 90
        · have hr' : r = true := by rw [← hr]; simp [h1, h2]
          subst hr'
          go_enter Tryz.func82, Tryz.ntmps82
          go_wp2_with (go_at_call 80; refine (HD.out _).mono ?_; rintro e w1 ⟨rfl, hww⟩; subst hww)
          go_ret
          exact ⟨ret_bool (by first | rfl | (simp; omega)), rfl⟩
        · by_cases h3 : x = 95
          · subst h3
            have hr' : r = true := by rw [← hr]; decide
            subst hr'
            go_enter Tryz.func82, Tryz.ntmps82
            go_wp2_with (go_at_call 80; refine (HD.out _).mono ?_; rintro e w1 ⟨rfl, hww⟩; subst hww)
            go_ret
            exact ⟨ret_bool (by first | rfl | (simp; omega)), rfl⟩
          · have h3' : (x == 95) = false := by simpa using h3
            have hr' : r = false := by rw [← hr]; simp; omega
            subst hr'
            go_enter Tryz.func82, Tryz.ntmps82
            go_wp2_with (go_at_call 80; refine (HD.out _).mono ?_; rintro e w1 ⟨rfl, hww⟩; subst hww)
            go_ret
            exact ⟨ret_bool (by first | rfl | (simp; omega)), rfl⟩
      · have h3' : (x == 95) = false := by simp; omega
        have hr' : r = false := by rw [← hr]; simp; omega
        subst hr'
        go_enter Tryz.func82, Tryz.ntmps82
        go_wp2_with (go_at_call 80; refine (HD.out _).mono ?_; rintro e w1 ⟨rfl, hww⟩; subst hww)
        go_ret
        exact ⟨ret_bool (by first | rfl | (simp; omega)), rfl⟩
set_option maxHeartbeats 1000000 in
theorem lblk_any (x : Int) (w : World) : Calls Tryz.prog 68 #[.int .u8 x] w fun e w' => e = .returned (.bool (blkB x)) ∧ w' = w := by
  unfold blkB
  by_cases c1 : x = 32
  · subst c1
    go_enter Tryz.func68, Tryz.ntmps68
    go_wp2
    go_ret
    exact ⟨ret_bool (by first | rfl | (simp; omega)), rfl⟩
  have d1 : (x == 32) = false := by simpa using c1
  by_cases c2 : x = 9
  · subst c2
    go_enter Tryz.func68, Tryz.ntmps68
    go_wp2
    go_ret
    exact ⟨ret_bool (by first | rfl | (simp; omega)), rfl⟩
  have d2 : (x == 9) = false := by simpa using c2
  by_cases c3 : x = 10
  · subst c3
    go_enter Tryz.func68, Tryz.ntmps68
    go_wp2
    go_ret
    exact ⟨ret_bool (by first | rfl | (simp; omega)), rfl⟩
  have d3 : (x == 10) = false := by simpa using c3
  by_cases c4 : x = 13
  · subst c4
    go_enter Tryz.func68, Tryz.ntmps68
    go_wp2
    go_ret
    exact ⟨ret_bool (by first | rfl | (simp; omega)), rfl⟩
  have d4 : (x == 13) = false := by simpa using c4
  clear c1 c2 c3 c4
  go_enter Tryz.func68, Tryz.ntmps68
  go_wp2
  go_ret
  exact ⟨ret_bool (by simp [d1, d2, d3, d4]), rfl⟩
/-- The first place from k on of which a word does not take in the byte. -/
def behW (s : ByteArray) (k : Nat) : Nat :=
  if h : k < s.size then (if inwB (iv (bt s k)) = true then behW s (k + 1) else k) else k
termination_by s.size - k
theorem behW_go (s : ByteArray) (k : Nat) (h : k < s.size) (c : inwB (iv (bt s k)) = true) : behW s k = behW s (k + 1) := by
  rw [behW, dif_pos h, if_pos c]
theorem behW_no (s : ByteArray) (k : Nat) (h : k < s.size) (c : inwB (iv (bt s k)) = false) : behW s k = k := by
  rw [behW, dif_pos h, if_neg (by rw [c]; decide)]
theorem behW_end (s : ByteArray) (k : Nat) (h : ¬ k < s.size) : behW s k = k := by
  rw [behW, dif_neg h]
theorem behW_in (s : ByteArray) : ∀ (n k : Nat), s.size - k = n → k ≤ behW s k ∧ (k ≤ s.size → behW s k ≤ s.size) := by
  intro n
  induction n with
  | zero =>
    intro k hn
    rw [behW_end s k (by omega)]
    exact ⟨Nat.le_refl _, fun h => h⟩
  | succ n ih =>
    intro k hn
    have hlt : k < s.size := by omega
    cases c : inwB (iv (bt s k))
    · rw [behW_no s k hlt c]
      exact ⟨Nat.le_refl _, fun h => h⟩
    · rw [behW_go s k hlt c]
      have := ih (k + 1) (by omega)
      exact ⟨by omega, fun _ => this.2 (by omega)⟩
set_option maxHeartbeats 1000000 in
theorem lbeh_any (s : ByteArray) (k0 : Nat) (w : World) (hs : s.size ≤ 4096) (hk0 : k0 ≤ s.size) : Calls Tryz.prog 84 #[.string s, .int .i64 (k0 : Int)] w fun e w' => e = .returned (.int .i64 (behW s k0)) ∧ w' = w := by
  have IW := hid (fun (x : Int) (W : World) => linw_any x W)
  go_enter Tryz.func84, Tryz.ntmps84
  go_wp2_with fail
  go_loop [1] (fun i => ∃ k : Nat, k ≤ s.size ∧ i = .int .i64 k ∧ Hid (behW s k0 = behW s k)) (fun i => s.size - (intOf i).toNat)
  case atStart => exact ⟨k0, hk0, rfl, hid rfl⟩
  case round =>
    obtain ⟨k, hk, rfl, HT⟩ := hrel
    by_cases hlt : k < s.size
    · have hc := iv_get s k hlt
      obtain ⟨x, hx⟩ : ∃ x, iv (bt s k) = x := ⟨_, rfl⟩
      rw [hx] at hc
      have HI := hid (fun W => IW.out x W)
      cases c : inwB x
      · have HT := hid (HT.out.trans (behW_no s k hlt (by rw [hx]; exact c)))
        rw [c] at HI
        clear hx c
        go_wp2_with (go_at_call 82; refine (HI.out _).mono ?_; rintro e w1 ⟨rfl, hww⟩; subst hww)
        go_ret
        exact ⟨by rw [HT.out]; rfl, rfl⟩
      · have HT := hid (HT.out.trans (behW_go s k hlt (by rw [hx]; exact c)))
        rw [c] at HI
        clear hx c
        go_wp2_with (go_at_call 82; refine (HI.out _).mono ?_; rintro e w1 ⟨rfl, hww⟩; subst hww)
        exact ⟨⟨k + 1, by omega, by go_num, HT⟩, by simp [intOf]; omega⟩
    · have HT := hid (HT.out.trans (behW_end s k hlt))
      go_wp2
      go_ret
      exact ⟨by rw [HT.out]; rfl, rfl⟩
end Go.Proofs.YtlhlpamciafocaaGreatDoor.L
namespace Go.Proofs.YtlhlpamciafocaaGreatDoor
open Go.Shelf
def laysM171_ren : Go.Shelf.Ren := ⟨fun | 171 => 64 | 243 => 78 | 246 => 92 | 283 => 105 | 284 => 106 | 285 => 107 | 286 => 108 | 129 => 120 | 317 => 119 | 318 => 121 | 319 => 122 | 320 => 123 | 337 => 133 | 338 => 134 | n => n, fun | 3 => 3 | 9 => 9 | 2 => 2 | 4 => 4 | 171 => 142 | 0 => 0 | 53 => 143 | 37 => 111 | 5 => 5 | 173 => 146 | 212 => 155 | 51 => 156 | 20 => 20 | 213 => 157 | 46 => 129 | 232 => 170 | 233 => 171 | n => n, fun | 17 => 1 | 18 => 2 | 19 => 3 | n => n⟩
theorem laysM171 : Go.Proofs.LaysM.n171 Tryz.prog laysM171_ren := {
  mixed := by kernel_rfl
  f129 := Tryz.func120.trans (congrArg some (by kernel_rfl))
  f171 := Tryz.func64.trans (congrArg some (by kernel_rfl))
  f243 := Tryz.func78.trans (congrArg some (by kernel_rfl))
  f246 := Tryz.func92.trans (congrArg some (by kernel_rfl))
  f283 := Tryz.func105.trans (congrArg some (by kernel_rfl))
  f284 := Tryz.func106.trans (congrArg some (by kernel_rfl))
  f285 := Tryz.func107.trans (congrArg some (by kernel_rfl))
  f286 := Tryz.func108.trans (congrArg some (by kernel_rfl))
  f317 := Tryz.func119.trans (congrArg some (by kernel_rfl))
  f318 := Tryz.func121.trans (congrArg some (by kernel_rfl))
  f319 := Tryz.func122.trans (congrArg some (by kernel_rfl))
  f320 := Tryz.func123.trans (congrArg some (by kernel_rfl))
  f337 := Tryz.func133.trans (congrArg some (by kernel_rfl))
  f338 := Tryz.func134.trans (congrArg some (by kernel_rfl))
  t0 := Tryz.underlying0
  a0 := Tryz.isAgg0
  z0 := Tryz.sizeOf0
  v0 := Tryz.zeroValue0
  t2 := Tryz.underlying2
  a2 := Tryz.isAgg2
  z2 := Tryz.sizeOf2
  v2 := Tryz.zeroValue2
  t3 := Tryz.underlying3
  a3 := Tryz.isAgg3
  z3 := Tryz.sizeOf3
  v3 := Tryz.zeroValue3
  t4 := Tryz.underlying4
  a4 := Tryz.isAgg4
  z4 := Tryz.sizeOf4
  v4 := Tryz.zeroValue4
  t5 := Tryz.underlying5
  a5 := Tryz.isAgg5
  z5 := Tryz.sizeOf5
  v5 := Tryz.zeroValue5
  t9 := Tryz.underlying9
  a9 := Tryz.isAgg9
  z9 := Tryz.sizeOf9
  v9 := Tryz.zeroValue9
  t20 := Tryz.underlying20
  a20 := Tryz.isAgg20
  z20 := Tryz.sizeOf20
  v20 := Tryz.zeroValue20
  t37 := Tryz.underlying111
  a37 := Tryz.isAgg111
  z37 := Tryz.sizeOf111
  v37 := Tryz.zeroValue111
  t46 := Tryz.underlying129
  a46 := Tryz.isAgg129
  z46 := Tryz.sizeOf129
  v46 := Tryz.zeroValue129
  t51 := Tryz.underlying156
  a51 := Tryz.isAgg156
  z51 := Tryz.sizeOf156
  v51 := Tryz.zeroValue156
  t53 := Tryz.underlying143
  a53 := Tryz.isAgg143
  z53 := Tryz.sizeOf143
  v53 := Tryz.zeroValue143
  t171 := Tryz.underlying142
  a171 := Tryz.isAgg142
  z171 := Tryz.sizeOf142
  v171 := Tryz.zeroValue142
  t173 := Tryz.underlying146
  a173 := Tryz.isAgg146
  z173 := Tryz.sizeOf146
  v173 := Tryz.zeroValue146
  t212 := Tryz.underlying155
  a212 := Tryz.isAgg155
  z212 := Tryz.sizeOf155
  v212 := Tryz.zeroValue155
  t213 := Tryz.underlying157
  a213 := Tryz.isAgg157
  z213 := Tryz.sizeOf157
  t232 := Tryz.underlying170
  a232 := Tryz.isAgg170
  z232 := Tryz.sizeOf170
  v232 := Tryz.zeroValue170
  t233 := Tryz.underlying171
  a233 := Tryz.isAgg171
  z233 := Tryz.sizeOf171
  v233 := Tryz.zeroValue171
  g17 := by kernel_rfl
  g18 := by kernel_rfl
  g19 := by kernel_rfl
  i0 := by kernel_rfl
  i2 := by kernel_rfl
  i3 := by kernel_rfl
  i4 := by kernel_rfl
  i5 := by kernel_rfl
  i9 := by kernel_rfl
  i20 := by kernel_rfl
  i37 := by kernel_rfl
  i46 := by kernel_rfl
  i51 := by kernel_rfl
  i53 := by kernel_rfl
  i171 := by kernel_rfl
  i173 := by kernel_rfl
  i212 := by kernel_rfl
  i232 := by kernel_rfl
  i233 := by kernel_rfl
  m17 := by kernel_rfl
  m18 := by kernel_rfl
  m19 := by kernel_rfl }
def laysC172_ren : Go.Shelf.Ren := ⟨fun | 172 => 112 | 244 => 126 | 245 => 127 | 247 => 135 | 279 => 136 | 280 => 137 | 281 => 138 | 282 => 139 | 287 => 142 | 316 => 113 | 171 => 64 | 205 => 143 | 321 => 145 | 322 => 146 | 243 => 78 | 246 => 92 | 283 => 105 | 284 => 106 | 285 => 107 | 286 => 108 | 129 => 120 | 317 => 119 | 318 => 121 | 319 => 122 | 320 => 123 | 337 => 133 | 338 => 134 | n => n, fun | 9 => 9 | 3 => 3 | 75 => 27 | 76 => 38 | 4 => 4 | 5 => 5 | 167 => 163 | 37 => 111 | 0 => 0 | 85 => 164 | 2 => 2 | 168 => 166 | 53 => 143 | 175 => 172 | 46 => 129 | 210 => 175 | 127 => 127 | 145 => 180 | 143 => 178 | 21 => 21 | 171 => 142 | 173 => 146 | 212 => 155 | 51 => 156 | 20 => 20 | 213 => 157 | 232 => 170 | 233 => 171 | 80 => 32 | n => n, fun | 15 => 4 | 16 => 5 | 17 => 1 | 18 => 2 | 19 => 3 | n => n⟩
theorem laysC172 : Go.Proofs.LaysC.n172 Tryz.prog laysC172_ren := {
  mixed := by kernel_rfl
  f129 := Tryz.func120.trans (congrArg some (by kernel_rfl))
  f171 := Tryz.func64.trans (congrArg some (by kernel_rfl))
  f172 := Tryz.func112.trans (congrArg some (by kernel_rfl))
  f205 := Tryz.func143.trans (congrArg some (by kernel_rfl))
  f243 := Tryz.func78.trans (congrArg some (by kernel_rfl))
  f244 := Tryz.func126.trans (congrArg some (by kernel_rfl))
  f245 := Tryz.func127.trans (congrArg some (by kernel_rfl))
  f246 := Tryz.func92.trans (congrArg some (by kernel_rfl))
  f247 := Tryz.func135.trans (congrArg some (by kernel_rfl))
  f279 := Tryz.func136.trans (congrArg some (by kernel_rfl))
  f280 := Tryz.func137.trans (congrArg some (by kernel_rfl))
  f281 := Tryz.func138.trans (congrArg some (by kernel_rfl))
  f282 := Tryz.func139.trans (congrArg some (by kernel_rfl))
  f283 := Tryz.func105.trans (congrArg some (by kernel_rfl))
  f284 := Tryz.func106.trans (congrArg some (by kernel_rfl))
  f285 := Tryz.func107.trans (congrArg some (by kernel_rfl))
  f286 := Tryz.func108.trans (congrArg some (by kernel_rfl))
  f287 := Tryz.func142.trans (congrArg some (by kernel_rfl))
  f316 := Tryz.func113.trans (congrArg some (by kernel_rfl))
  f317 := Tryz.func119.trans (congrArg some (by kernel_rfl))
  f318 := Tryz.func121.trans (congrArg some (by kernel_rfl))
  f319 := Tryz.func122.trans (congrArg some (by kernel_rfl))
  f320 := Tryz.func123.trans (congrArg some (by kernel_rfl))
  f321 := Tryz.func145.trans (congrArg some (by kernel_rfl))
  f322 := Tryz.func146.trans (congrArg some (by kernel_rfl))
  f337 := Tryz.func133.trans (congrArg some (by kernel_rfl))
  f338 := Tryz.func134.trans (congrArg some (by kernel_rfl))
  t0 := Tryz.underlying0
  a0 := Tryz.isAgg0
  z0 := Tryz.sizeOf0
  v0 := Tryz.zeroValue0
  t2 := Tryz.underlying2
  a2 := Tryz.isAgg2
  z2 := Tryz.sizeOf2
  v2 := Tryz.zeroValue2
  t3 := Tryz.underlying3
  a3 := Tryz.isAgg3
  z3 := Tryz.sizeOf3
  v3 := Tryz.zeroValue3
  t4 := Tryz.underlying4
  a4 := Tryz.isAgg4
  z4 := Tryz.sizeOf4
  v4 := Tryz.zeroValue4
  t5 := Tryz.underlying5
  a5 := Tryz.isAgg5
  z5 := Tryz.sizeOf5
  v5 := Tryz.zeroValue5
  t9 := Tryz.underlying9
  a9 := Tryz.isAgg9
  z9 := Tryz.sizeOf9
  v9 := Tryz.zeroValue9
  t20 := Tryz.underlying20
  a20 := Tryz.isAgg20
  z20 := Tryz.sizeOf20
  v20 := Tryz.zeroValue20
  t21 := Tryz.underlying21
  a21 := Tryz.isAgg21
  z21 := Tryz.sizeOf21
  v21 := Tryz.zeroValue21
  t37 := Tryz.underlying111
  a37 := Tryz.isAgg111
  z37 := Tryz.sizeOf111
  v37 := Tryz.zeroValue111
  t46 := Tryz.underlying129
  a46 := Tryz.isAgg129
  z46 := Tryz.sizeOf129
  v46 := Tryz.zeroValue129
  t51 := Tryz.underlying156
  a51 := Tryz.isAgg156
  z51 := Tryz.sizeOf156
  v51 := Tryz.zeroValue156
  t53 := Tryz.underlying143
  a53 := Tryz.isAgg143
  z53 := Tryz.sizeOf143
  v53 := Tryz.zeroValue143
  t75 := Tryz.underlying27
  a75 := Tryz.isAgg27
  z75 := Tryz.sizeOf27
  v75 := Tryz.zeroValue27
  t76 := Tryz.underlying38
  a76 := Tryz.isAgg38
  z76 := Tryz.sizeOf38
  v76 := Tryz.zeroValue38
  t85 := Tryz.underlying164
  a85 := Tryz.isAgg164
  z85 := Tryz.sizeOf164
  v85 := Tryz.zeroValue164
  t127 := Tryz.underlying127
  a127 := Tryz.isAgg127
  z127 := Tryz.sizeOf127
  v127 := Tryz.zeroValue127
  t143 := Tryz.underlying178
  a143 := Tryz.isAgg178
  z143 := Tryz.sizeOf178
  v143 := Tryz.zeroValue178
  t145 := Tryz.underlying180
  a145 := Tryz.isAgg180
  z145 := Tryz.sizeOf180
  v145 := Tryz.zeroValue180
  t167 := Tryz.underlying163
  a167 := Tryz.isAgg163
  z167 := Tryz.sizeOf163
  v167 := Tryz.zeroValue163
  t168 := Tryz.underlying166
  a168 := Tryz.isAgg166
  z168 := Tryz.sizeOf166
  v168 := Tryz.zeroValue166
  t171 := Tryz.underlying142
  a171 := Tryz.isAgg142
  z171 := Tryz.sizeOf142
  v171 := Tryz.zeroValue142
  t173 := Tryz.underlying146
  a173 := Tryz.isAgg146
  z173 := Tryz.sizeOf146
  v173 := Tryz.zeroValue146
  t175 := Tryz.underlying172
  a175 := Tryz.isAgg172
  z175 := Tryz.sizeOf172
  v175 := Tryz.zeroValue172
  t210 := Tryz.underlying175
  a210 := Tryz.isAgg175
  z210 := Tryz.sizeOf175
  v210 := Tryz.zeroValue175
  t212 := Tryz.underlying155
  a212 := Tryz.isAgg155
  z212 := Tryz.sizeOf155
  v212 := Tryz.zeroValue155
  t213 := Tryz.underlying157
  a213 := Tryz.isAgg157
  z213 := Tryz.sizeOf157
  t232 := Tryz.underlying170
  a232 := Tryz.isAgg170
  z232 := Tryz.sizeOf170
  v232 := Tryz.zeroValue170
  t233 := Tryz.underlying171
  a233 := Tryz.isAgg171
  z233 := Tryz.sizeOf171
  v233 := Tryz.zeroValue171
  g15 := by kernel_rfl
  g16 := by kernel_rfl
  g17 := by kernel_rfl
  g18 := by kernel_rfl
  g19 := by kernel_rfl
  t80 := Tryz.underlying32
  a80 := Tryz.isAgg32
  z80 := Tryz.sizeOf32
  v80 := Tryz.zeroValue32
  i0 := by kernel_rfl
  i2 := by kernel_rfl
  i3 := by kernel_rfl
  i4 := by kernel_rfl
  i5 := by kernel_rfl
  i9 := by kernel_rfl
  i20 := by kernel_rfl
  i21 := by kernel_rfl
  i37 := by kernel_rfl
  i46 := by kernel_rfl
  i51 := by kernel_rfl
  i53 := by kernel_rfl
  i75 := by kernel_rfl
  i76 := by kernel_rfl
  i80 := by kernel_rfl
  i85 := by kernel_rfl
  i127 := by kernel_rfl
  i143 := by kernel_rfl
  i145 := by kernel_rfl
  i167 := by kernel_rfl
  i168 := by kernel_rfl
  i171 := by kernel_rfl
  i173 := by kernel_rfl
  i175 := by kernel_rfl
  i210 := by kernel_rfl
  i212 := by kernel_rfl
  i232 := by kernel_rfl
  i233 := by kernel_rfl
  m15 := by kernel_rfl
  m16 := by kernel_rfl
  m17 := by kernel_rfl
  m18 := by kernel_rfl
  m19 := by kernel_rfl
  c0 := by kernel_rfl
  c2 := by kernel_rfl
  c3 := by kernel_rfl
  c4 := by kernel_rfl
  c5 := by kernel_rfl
  c9 := by kernel_rfl
  c20 := by kernel_rfl
  c21 := by kernel_rfl
  c37 := by kernel_rfl
  c46 := by kernel_rfl
  c51 := by kernel_rfl
  c53 := by kernel_rfl
  c75 := by kernel_rfl
  c76 := by kernel_rfl
  c80 := by kernel_rfl
  c85 := by kernel_rfl
  c127 := by kernel_rfl
  c143 := by kernel_rfl
  c145 := by kernel_rfl
  c167 := by kernel_rfl
  c168 := by kernel_rfl
  c171 := by kernel_rfl
  c173 := by kernel_rfl
  c175 := by kernel_rfl
  c210 := by kernel_rfl
  c212 := by kernel_rfl
  c213 := by kernel_rfl
  c232 := by kernel_rfl
  c233 := by kernel_rfl }
def laysM316_ren : Go.Shelf.Ren := ⟨fun | 316 => 113 | n => n, fun | 9 => 9 | 3 => 3 | 4 => 4 | 37 => 111 | 0 => 0 | 127 => 127 | 5 => 5 | n => n, fun | n => n⟩
theorem laysM316 : Go.Proofs.LaysM.n316 Tryz.prog laysM316_ren := {
  mixed := by kernel_rfl
  f316 := Tryz.func113.trans (congrArg some (by kernel_rfl))
  t0 := Tryz.underlying0
  a0 := Tryz.isAgg0
  z0 := Tryz.sizeOf0
  v0 := Tryz.zeroValue0
  t3 := Tryz.underlying3
  a3 := Tryz.isAgg3
  z3 := Tryz.sizeOf3
  v3 := Tryz.zeroValue3
  t4 := Tryz.underlying4
  a4 := Tryz.isAgg4
  z4 := Tryz.sizeOf4
  v4 := Tryz.zeroValue4
  t9 := Tryz.underlying9
  a9 := Tryz.isAgg9
  z9 := Tryz.sizeOf9
  v9 := Tryz.zeroValue9
  t37 := Tryz.underlying111
  a37 := Tryz.isAgg111
  z37 := Tryz.sizeOf111
  v37 := Tryz.zeroValue111
  t127 := Tryz.underlying127
  a127 := Tryz.isAgg127
  z127 := Tryz.sizeOf127
  v127 := Tryz.zeroValue127
  t5 := Tryz.underlying5
  a5 := Tryz.isAgg5
  z5 := Tryz.sizeOf5
  v5 := Tryz.zeroValue5
  i0 := by kernel_rfl
  i3 := by kernel_rfl
  i4 := by kernel_rfl
  i5 := by kernel_rfl
  i9 := by kernel_rfl
  i37 := by kernel_rfl
  i127 := by kernel_rfl }
end Go.Proofs.YtlhlpamciafocaaGreatDoor
