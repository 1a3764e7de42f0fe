import Derived.Shelf.Strconv.ErrVarAll
import Derived.Shelf.Strconv.Itoa3
import Derived.Shelf.Strconv.Clone
import Derived.Test.YtcldglilhhhdoaaGreatDoorProg
import Derived.Test.YtcldglilhhhdoaaGreatDoorMgAC
namespace Go.Proofs.YtcldglilhhhdoaaGreatDoor
open Go.Shelf
def laysC172_ren : Go.Shelf.Ren := ⟨fun | 172 => 111 | 244 => 120 | 245 => 121 | 247 => 127 | 279 => 128 | 280 => 129 | 281 => 130 | 282 => 131 | 287 => 134 | 316 => 112 | 171 => 136 | 205 => 135 | 321 => 138 | 322 => 139 | 243 => 140 | 246 => 142 | 283 => 143 | 284 => 144 | 285 => 145 | 286 => 146 | 129 => 148 | 317 => 147 | 318 => 149 | 319 => 150 | 320 => 151 | 337 => 152 | 338 => 153 | n => n, fun | 9 => 9 | 3 => 3 | 75 => 28 | 76 => 100 | 4 => 4 | 5 => 5 | 167 => 144 | 37 => 84 | 0 => 0 | 85 => 145 | 2 => 2 | 168 => 147 | 53 => 152 | 175 => 153 | 46 => 102 | 210 => 156 | 127 => 103 | 145 => 161 | 143 => 159 | 21 => 21 | 171 => 164 | 173 => 167 | 212 => 170 | 51 => 171 | 20 => 20 | 213 => 172 | 232 => 176 | 233 => 177 | 80 => 89 | n => n, fun | 15 => 1 | 16 => 2 | 17 => 3 | 18 => 4 | 19 => 5 | n => n⟩
theorem laysC172 : Go.Proofs.LaysC.n172 Tryz.prog laysC172_ren := {
  mixed := by kernel_rfl
  f129 := Tryz.func148.trans (congrArg some (by kernel_rfl))
  f171 := Tryz.func136.trans (congrArg some (by kernel_rfl))
  f172 := Tryz.func111.trans (congrArg some (by kernel_rfl))
  f205 := Tryz.func135.trans (congrArg some (by kernel_rfl))
  f243 := Tryz.func140.trans (congrArg some (by kernel_rfl))
  f244 := Tryz.func120.trans (congrArg some (by kernel_rfl))
  f245 := Tryz.func121.trans (congrArg some (by kernel_rfl))
  f246 := Tryz.func142.trans (congrArg some (by kernel_rfl))
  f247 := Tryz.func127.trans (congrArg some (by kernel_rfl))
  f279 := Tryz.func128.trans (congrArg some (by kernel_rfl))
  f280 := Tryz.func129.trans (congrArg some (by kernel_rfl))
  f281 := Tryz.func130.trans (congrArg some (by kernel_rfl))
  f282 := Tryz.func131.trans (congrArg some (by kernel_rfl))
  f283 := Tryz.func143.trans (congrArg some (by kernel_rfl))
  f284 := Tryz.func144.trans (congrArg some (by kernel_rfl))
  f285 := Tryz.func145.trans (congrArg some (by kernel_rfl))
  f286 := Tryz.func146.trans (congrArg some (by kernel_rfl))
  f287 := Tryz.func134.trans (congrArg some (by kernel_rfl))
  f316 := Tryz.func112.trans (congrArg some (by kernel_rfl))
  f317 := Tryz.func147.trans (congrArg some (by kernel_rfl))
  f318 := Tryz.func149.trans (congrArg some (by kernel_rfl))
  f319 := Tryz.func150.trans (congrArg some (by kernel_rfl))
  f320 := Tryz.func151.trans (congrArg some (by kernel_rfl))
  f321 := Tryz.func138.trans (congrArg some (by kernel_rfl))
  f322 := Tryz.func139.trans (congrArg some (by kernel_rfl))
  f337 := Tryz.func152.trans (congrArg some (by kernel_rfl))
  f338 := Tryz.func153.trans (congrArg some (by kernel_rfl))
  t0 := Tryz.underlying0
  a0 := Tryz.isAgg0
  z0 := Tryz.sizeOf0
  v0 := Tryz.zeroValue0
  t2 := Tryz.underlying2
  a2 := Tryz.isAgg2
  z2 := Tryz.sizeOf2
  v2 := Tryz.zeroValue2
  t3 := Tryz.underlying3
  a3 := Tryz.isAgg3
  z3 := Tryz.sizeOf3
  v3 := Tryz.zeroValue3
  t4 := Tryz.underlying4
  a4 := Tryz.isAgg4
  z4 := Tryz.sizeOf4
  v4 := Tryz.zeroValue4
  t5 := Tryz.underlying5
  a5 := Tryz.isAgg5
  z5 := Tryz.sizeOf5
  v5 := Tryz.zeroValue5
  t9 := Tryz.underlying9
  a9 := Tryz.isAgg9
  z9 := Tryz.sizeOf9
  v9 := Tryz.zeroValue9
  t20 := Tryz.underlying20
  a20 := Tryz.isAgg20
  z20 := Tryz.sizeOf20
  v20 := Tryz.zeroValue20
  t21 := Tryz.underlying21
  a21 := Tryz.isAgg21
  z21 := Tryz.sizeOf21
  v21 := Tryz.zeroValue21
  t37 := Tryz.underlying84
  a37 := Tryz.isAgg84
  z37 := Tryz.sizeOf84
  v37 := Tryz.zeroValue84
  t46 := Tryz.underlying102
  a46 := Tryz.isAgg102
  z46 := Tryz.sizeOf102
  v46 := Tryz.zeroValue102
  t51 := Tryz.underlying171
  a51 := Tryz.isAgg171
  z51 := Tryz.sizeOf171
  v51 := Tryz.zeroValue171
  t53 := Tryz.underlying152
  a53 := Tryz.isAgg152
  z53 := Tryz.sizeOf152
  v53 := Tryz.zeroValue152
  t75 := Tryz.underlying28
  a75 := Tryz.isAgg28
  z75 := Tryz.sizeOf28
  v75 := Tryz.zeroValue28
  t76 := Tryz.underlying100
  a76 := Tryz.isAgg100
  z76 := Tryz.sizeOf100
  v76 := Tryz.zeroValue100
  t85 := Tryz.underlying145
  a85 := Tryz.isAgg145
  z85 := Tryz.sizeOf145
  v85 := Tryz.zeroValue145
  t127 := Tryz.underlying103
  a127 := Tryz.isAgg103
  z127 := Tryz.sizeOf103
  v127 := Tryz.zeroValue103
  t143 := Tryz.underlying159
  a143 := Tryz.isAgg159
  z143 := Tryz.sizeOf159
  v143 := Tryz.zeroValue159
  t145 := Tryz.underlying161
  a145 := Tryz.isAgg161
  z145 := Tryz.sizeOf161
  v145 := Tryz.zeroValue161
  t167 := Tryz.underlying144
  a167 := Tryz.isAgg144
  z167 := Tryz.sizeOf144
  v167 := Tryz.zeroValue144
  t168 := Tryz.underlying147
  a168 := Tryz.isAgg147
  z168 := Tryz.sizeOf147
  v168 := Tryz.zeroValue147
  t171 := Tryz.underlying164
  a171 := Tryz.isAgg164
  z171 := Tryz.sizeOf164
  v171 := Tryz.zeroValue164
  t173 := Tryz.underlying167
  a173 := Tryz.isAgg167
  z173 := Tryz.sizeOf167
  v173 := Tryz.zeroValue167
  t175 := Tryz.underlying153
  a175 := Tryz.isAgg153
  z175 := Tryz.sizeOf153
  v175 := Tryz.zeroValue153
  t210 := Tryz.underlying156
  a210 := Tryz.isAgg156
  z210 := Tryz.sizeOf156
  v210 := Tryz.zeroValue156
  t212 := Tryz.underlying170
  a212 := Tryz.isAgg170
  z212 := Tryz.sizeOf170
  v212 := Tryz.zeroValue170
  t213 := Tryz.underlying172
  a213 := Tryz.isAgg172
  z213 := Tryz.sizeOf172
  t232 := Tryz.underlying176
  a232 := Tryz.isAgg176
  z232 := Tryz.sizeOf176
  v232 := Tryz.zeroValue176
  t233 := Tryz.underlying177
  a233 := Tryz.isAgg177
  z233 := Tryz.sizeOf177
  v233 := Tryz.zeroValue177
  g15 := by kernel_rfl
  g16 := by kernel_rfl
  g17 := by kernel_rfl
  g18 := by kernel_rfl
  g19 := by kernel_rfl
  t80 := Tryz.underlying89
  a80 := Tryz.isAgg89
  z80 := Tryz.sizeOf89
  v80 := Tryz.zeroValue89
  i0 := by kernel_rfl
  i2 := by kernel_rfl
  i3 := by kernel_rfl
  i4 := by kernel_rfl
  i5 := by kernel_rfl
  i9 := by kernel_rfl
  i20 := by kernel_rfl
  i21 := by kernel_rfl
  i37 := by kernel_rfl
  i46 := by kernel_rfl
  i51 := by kernel_rfl
  i53 := by kernel_rfl
  i75 := by kernel_rfl
  i76 := by kernel_rfl
  i80 := by kernel_rfl
  i85 := by kernel_rfl
  i127 := by kernel_rfl
  i143 := by kernel_rfl
  i145 := by kernel_rfl
  i167 := by kernel_rfl
  i168 := by kernel_rfl
  i171 := by kernel_rfl
  i173 := by kernel_rfl
  i175 := by kernel_rfl
  i210 := by kernel_rfl
  i212 := by kernel_rfl
  i232 := by kernel_rfl
  i233 := by kernel_rfl
  m15 := by kernel_rfl
  m16 := by kernel_rfl
  m17 := by kernel_rfl
  m18 := by kernel_rfl
  m19 := by kernel_rfl
  c0 := by kernel_rfl
  c2 := by kernel_rfl
  c3 := by kernel_rfl
  c4 := by kernel_rfl
  c5 := by kernel_rfl
  c9 := by kernel_rfl
  c20 := by kernel_rfl
  c21 := by kernel_rfl
  c37 := by kernel_rfl
  c46 := by kernel_rfl
  c51 := by kernel_rfl
  c53 := by kernel_rfl
  c75 := by kernel_rfl
  c76 := by kernel_rfl
  c80 := by kernel_rfl
  c85 := by kernel_rfl
  c127 := by kernel_rfl
  c143 := by kernel_rfl
  c145 := by kernel_rfl
  c167 := by kernel_rfl
  c168 := by kernel_rfl
  c171 := by kernel_rfl
  c173 := by kernel_rfl
  c175 := by kernel_rfl
  c210 := by kernel_rfl
  c212 := by kernel_rfl
  c213 := by kernel_rfl
  c232 := by kernel_rfl
  c233 := by kernel_rfl }
def laysM316_ren : Go.Shelf.Ren := ⟨fun | 316 => 112 | n => n, fun | 9 => 9 | 3 => 3 | 4 => 4 | 37 => 84 | 0 => 0 | 127 => 103 | 5 => 5 | n => n, fun | n => n⟩
theorem laysM316 : Go.Proofs.LaysM.n316 Tryz.prog laysM316_ren := {
  mixed := by kernel_rfl
  f316 := Tryz.func112.trans (congrArg some (by kernel_rfl))
  t0 := Tryz.underlying0
  a0 := Tryz.isAgg0
  z0 := Tryz.sizeOf0
  v0 := Tryz.zeroValue0
  t3 := Tryz.underlying3
  a3 := Tryz.isAgg3
  z3 := Tryz.sizeOf3
  v3 := Tryz.zeroValue3
  t4 := Tryz.underlying4
  a4 := Tryz.isAgg4
  z4 := Tryz.sizeOf4
  v4 := Tryz.zeroValue4
  t9 := Tryz.underlying9
  a9 := Tryz.isAgg9
  z9 := Tryz.sizeOf9
  v9 := Tryz.zeroValue9
  t37 := Tryz.underlying84
  a37 := Tryz.isAgg84
  z37 := Tryz.sizeOf84
  v37 := Tryz.zeroValue84
  t127 := Tryz.underlying103
  a127 := Tryz.isAgg103
  z127 := Tryz.sizeOf103
  v127 := Tryz.zeroValue103
  t5 := Tryz.underlying5
  a5 := Tryz.isAgg5
  z5 := Tryz.sizeOf5
  v5 := Tryz.zeroValue5
  i0 := by kernel_rfl
  i3 := by kernel_rfl
  i4 := by kernel_rfl
  i5 := by kernel_rfl
  i9 := by kernel_rfl
  i37 := by kernel_rfl
  i127 := by kernel_rfl }
end Go.Proofs.YtcldglilhhhdoaaGreatDoor
namespace Go.Proofs.YtcldglilhhhdoaaGreatDoor.L
open Go.RowKit Go.Shelf
set_option linter.unusedVariables false
/-- The line's end from k on, or the source's. -/
def nlAt (s : ByteArray) (k : Nat) : Nat :=
  if h : k < s.size then (if bt s k = 10 then k else nlAt s (k + 1)) else k
termination_by s.size - k
theorem nlAt_yes (s : ByteArray) (k : Nat) (h : k < s.size) (c : bt s k = 10) : nlAt s k = k := by
  rw [nlAt, dif_pos h, if_pos c]
theorem nlAt_go (s : ByteArray) (k : Nat) (h : k < s.size) (c : bt s k ≠ 10) : nlAt s k = nlAt s (k + 1) := by
  rw [nlAt, dif_pos h, if_neg c]
theorem nlAt_end (s : ByteArray) (k : Nat) (h : ¬ k < s.size) : nlAt s k = k := by
  rw [nlAt, dif_neg h]
theorem drop_bt (s : ByteArray) (k : Nat) (h : k < s.size) : s.data.toList.drop k = bt s k :: s.data.toList.drop (k + 1) := by
  have h' : k < s.data.toList.length := by simpa using h
  rw [List.drop_eq_getElem_cons h']
  unfold bt
  rw [List.getD_eq_getElem?_getD, List.getElem?_eq_getElem h']
  rfl
theorem nlAt_idx (s : ByteArray) : ∀ (n k : Nat), s.size - k = n → k ≤ s.size → (Lib.indexByte (s.data.toList.drop k) 10 = -1 ∧ nlAt s k = s.size) ∨ ∃ i : Nat, Lib.indexByte (s.data.toList.drop k) 10 = i ∧ nlAt s k = k + i ∧ k + i < s.size := by
  intro n
  induction n with
  | zero =>
    intro k hn hk
    left
    rw [nlAt_end s k (by omega), List.drop_of_length_le (by simp; omega)]
    exact ⟨rfl, by omega⟩
  | succ n ih =>
    intro k hn hk
    have hlt : k < s.size := by omega
    rw [drop_bt s k hlt]
    by_cases c : bt s k = 10
    · right
      refine ⟨0, ?_, by rw [nlAt_yes s k hlt c]; rfl, by omega⟩
      unfold Lib.indexByte
      rw [if_pos (by rw [c]; rfl)]
      rfl
    · rw [nlAt_go s k hlt c]
      have e : (bt s k == 10) = false := by simpa using c
      rcases ih (k + 1) (by omega) (by omega) with ⟨h1, h2⟩ | ⟨i, h1, h2, h3⟩
      · left
        refine ⟨?_, h2⟩
        unfold Lib.indexByte
        rw [if_neg (by rw [e]; decide), h1]
        rfl
      · right
        refine ⟨i + 1, ?_, by omega, by omega⟩
        unfold Lib.indexByte
        rw [if_neg (by rw [e]; decide), h1, if_neg (by simp)]
        rfl
theorem idx_from (s : ByteArray) (k : Nat) (c : UInt8) : idx (s.extract k s.size) c = Lib.indexByte (s.data.toList.drop k) c := by
  unfold idx
  rw [ByteArray.data_extract]
  congr 1
  simp
  rw [List.take_of_length_le (by simp)]
theorem nlAt_in (s : ByteArray) (k : Nat) (h : k ≤ s.size) : k ≤ nlAt s k ∧ nlAt s k ≤ s.size := by
  rcases nlAt_idx s _ k rfl h with ⟨_, h2⟩ | ⟨i, _, h2, h3⟩
  · omega
  · omega
theorem nlAt_gt (s : ByteArray) (k : Nat) (h : k < s.size) (c : bt s k ≠ 10) : k < nlAt s k := by
  rw [nlAt_go s k h c]
  have := nlAt_in s (k + 1) (by omega)
  omega
set_option maxHeartbeats 1000000 in
theorem remark_any (s : ByteArray) (k : Nat) (w : World) (hs : s.size ≤ 4096) (hk : k < s.size) : Calls Tryz.prog 68 #[.string s, .int .i64 (k : Int)] w fun e w' => e = .returned (.int .i64 (nlAt s k)) ∧ w' = w := by
  have HI := hid (fun W => sib_any (s.extract k s.size) 10 W)
  rw [idx_from, show iv 10 = 10 from rfl] at HI
  rcases nlAt_idx s _ k rfl (by omega) with ⟨h1, h2⟩ | ⟨i, h1, h2, h3⟩
  · rw [h1] at HI
    rw [h2]
    clear h1 h2
    go_enter Tryz.func68, Tryz.ntmps68
    go_wp2_with (go_at_call 50; refine (HI.out _).mono ?_; rintro e w1 ⟨rfl, hww⟩; subst hww)
    go_ret
    exact ⟨rfl, rfl⟩
  · rw [h1] at HI
    rw [h2]
    clear h1 h2
    go_enter Tryz.func68, Tryz.ntmps68
    go_wp2_with (go_at_call 50; refine (HI.out _).mono ?_; rintro e w1 ⟨rfl, hww⟩; subst hww)
    go_ret
    exact ⟨by go_num, rfl⟩
set_option maxHeartbeats 1000000 in
theorem clone_any (s : ByteArray) (w : World) (hs : s.size ≤ 4096) : Calls Tryz.prog 99 #[.string s] w fun e w' => e = .returned (.string s) ∧ Below w.heap.size w w' := by
  have HC := hid (show Calls Tryz.prog 112 #[.string s] w _ from Any.stringslite_Clone laysM316 s w (by omega))
  go_enter Tryz.func99, Tryz.ntmps99
  go_wp2_with (go_at_call 112; refine HC.out.mono ?_; rintro e w1 ⟨rfl, l1⟩; have L1 := hid l1; clear l1)
  go_ret
  exact ⟨rfl, L1.out⟩
theorem results_cell {fn : Func} {p : Tmp} {ty : TypeId} (h : fn.results = #[.cell p ty]) (tmps : Array Value) (P : Program) (w : World) :
    (results fn tmps).run P w = ((asAddr (tmps.getD p undef)).run P w).andThen fun a w₁ => (loadVar ty a).run P w₁ := by
  simp only [results, h]
  simp [Sem.run_bind, Result.andThen]
set_option maxHeartbeats 2000000 in
theorem piece_any (kd : Nat) (s : ByteArray) (a e : Nat) (w : World) (hs : s.size ≤ 4096) (ha : a ≤ e) (he : e ≤ s.size) : Calls Tryz.prog 88 #[.int .i64 (kd : Int), .string s, .int .i64 (a : Int), .int .i64 (e : Int)] w fun x w' => x = .returned (tv ⟨kd, s.extract a e, 0, a, e⟩) ∧ Below w.heap.size w w' := by
  have hsz : (s.extract a e).size ≤ 4096 := by simp; omega
  have HC := hid (fun W => clone_any (s.extract a e) W hsz)
  have ha' : (a : Int) ≤ e := by omega
  have he' : (e : Int) ≤ s.size := by omega
  go_enter Tryz.func88, Tryz.ntmps88
  go_wp2_with fail
  have RC0 := hid (show Rc w.heap.size (w.alloc (.cells zcells 53)) from heap_alloc_new w _)
  have BL0 := hid (belowA w (.cells zcells 53))
  have hZ0 : (w.alloc (.cells zcells 53)).heap.size = w.heap.size + 1 := by simp
  unfold zcells at RC0 BL0 hZ0
  generalize w.alloc (.cells #[.int .i64 0, .string ⟨#[]⟩, .int .i64 0, .int .i64 0, .int .i64 0] 53) = W at *
  refine (HC.out _).mono ?_
  rintro x w1 ⟨rfl, l1⟩
  have R1 := hid (Rc.low RC0.out l1 (by omega))
  have B1 := hid (BL0.out.trans (l1.mono (by omega)))
  have ⟨⟨q0, q1, q2, q3, q4⟩, f0, f1, f2, f3, f4⟩ := Rc.facts R1.out
  clear l1 RC0 BL0
  go_wp2_with fail
  (try simp only [Exit.inBlock, Exit.then])
  refine bodyPost_ret (v := tv ⟨kd, s.extract a e, 0, a, e⟩) ?_ rfl ⟨rfl, below_put5 B1.out _ _ _ _ _ _ (Nat.le_refl _)⟩
  rw [results_cell rfl]
  go_simp
  rfl
/-- The place behind blanks and remarks. -/
def gapS (s : ByteArray) (k : Nat) : Nat :=
  if h : k < s.size then
    if c : bt s k = 35 then gapS s (nlAt s k)
    else if blkB (iv (bt s k)) = true then gapS s (k + 1) else k
  else k
termination_by s.size - k
decreasing_by
  · have := nlAt_gt s k h (by rw [c]; decide)
    omega
  · omega
theorem gapS_rem (s : ByteArray) (k : Nat) (h : k < s.size) (c : bt s k = 35) : gapS s k = gapS s (nlAt s k) := by
  rw [gapS, dif_pos h, dif_pos c]
theorem gapS_blk (s : ByteArray) (k : Nat) (h : k < s.size) (c : blkB (iv (bt s k)) = true) : gapS s k = gapS s (k + 1) := by
  rw [gapS, dif_pos h, dif_neg, if_pos c]
  intro e
  rw [e] at c
  exact absurd c (by decide)
theorem gapS_no (s : ByteArray) (k : Nat) (h : k < s.size) (c : bt s k ≠ 35) (d : blkB (iv (bt s k)) = false) : gapS s k = k := by
  rw [gapS, dif_pos h, dif_neg c, if_neg (by rw [d]; decide)]
theorem gapS_end (s : ByteArray) (k : Nat) (h : ¬ k < s.size) : gapS s k = k := by
  rw [gapS, dif_neg h]
theorem gapS_in (s : ByteArray) : ∀ (n k : Nat), s.size - k = n → k ≤ s.size → k ≤ gapS s k ∧ gapS s k ≤ s.size := by
  intro n
  induction n using Nat.strongRecOn with
  | ind n ih =>
    intro k hn hk
    by_cases hlt : k < s.size
    · by_cases c : bt s k = 35
      · rw [gapS_rem s k hlt c]
        have h1 := nlAt_gt s k hlt (by rw [c]; decide)
        have h2 := nlAt_in s k hk
        have := ih (s.size - nlAt s k) (by omega) _ rfl h2.2
        omega
      · cases d : blkB (iv (bt s k))
        · rw [gapS_no s k hlt c d]; omega
        · rw [gapS_blk s k hlt d]
          have := ih (s.size - (k + 1)) (by omega) _ rfl (by omega)
          omega
    · rw [gapS_end s k hlt]; omega
/-- Is it a mark of two bytes? Of one? -/
def mk2 (a b : UInt8) : Bool := (a == 38 && b == 38) || (a == 124 && b == 124) || (a == 61 && b == 61) || (a == 33 && b == 61) || (a == 60 && b == 61) || (a == 62 && b == 61)
def marks1 : ByteArray := ⟨#[33, 60, 62, 40, 41, 91, 93, 123, 125, 44, 46]⟩
def mk1 (a : UInt8) : Bool := decide (0 ≤ idx marks1 a)
/-- The mark that stands at k. -/
def markS (s : ByteArray) (k : Nat) : RR :=
  if mk2 (bt s k) (bt s (k + 1)) = true then .ok ⟨4, s.extract k (k + 2), 0, k, k + 2⟩
  else if mk1 (bt s k) = true then .ok ⟨4, s.extract k (k + 1), 0, k, k + 1⟩ else .bad 111 k
end Go.Proofs.YtcldglilhhhdoaaGreatDoor.L
