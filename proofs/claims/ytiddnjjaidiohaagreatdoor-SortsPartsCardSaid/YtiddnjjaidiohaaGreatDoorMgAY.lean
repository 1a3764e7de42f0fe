import Derived.Test.YtiddnjjaidiohaaGreatDoorMgAX
import Derived.Test.YtiddnjjaidiohaaGreatDoorMgAS
namespace Go.Proofs.YtiddnjjaidiohaaGreatDoor.L
open Go.RowKit
set_option linter.unusedVariables false
/-- Both trees as the kids of a part of this kind. -/
def jnT (k : Int) (A B : List Pt) : List Pt := A ++ B.map (shf A.length) ++ [⟨k, ⟨#[]⟩, 0, [((A.length : Nat) : Int) - 1, ((A.length + B.length : Nat) : Int) - 1]⟩]
/-- The tree as the kid of a part of this kind. -/
def unT (k : Int) (tx : ByteArray) (A : List Pt) : List Pt := A ++ [⟨k, tx, 0, [((A.length : Nat) : Int) - 1]⟩]
theorem jn_len (k : Int) (A B : List Pt) : (jnT k A B).length = A.length + B.length + 1 := by simp [jnT]; omega
theorem un_len (k : Int) (tx : ByteArray) (A : List Pt) : (unT k tx A).length = A.length + 1 := by simp [unT]
theorem shf_zero (p : Pt) : shf 0 p = p := by
  unfold shf
  have : p.kids.map (· + ((0 : Nat) : Int)) = p.kids := by simp
  rw [this]
theorem pt_app {A B : List Pt} {j : Nat} (h : j < A.length) : pt (A ++ B) j = pt A j := by
  unfold pt
  rw [List.getD_eq_getElem?_getD, List.getD_eq_getElem?_getD, List.getElem?_append_left h]
theorem pt_app2 {A B : List Pt} (j : Nat) : pt (A ++ B) (A.length + j) = pt B j := by
  unfold pt
  rw [List.getD_eq_getElem?_getD, List.getD_eq_getElem?_getD, List.getElem?_append_right (by omega)]
  congr 2
  omega
theorem un_emb (k : Int) (tx : ByteArray) (A : List Pt) : Emb A (unT k tx A) 0 := ⟨by rw [un_len]; omega, fun j hj => by rw [shf_zero, Nat.zero_add]; exact pt_app hj⟩
theorem un_top (k : Int) (tx : ByteArray) (A : List Pt) : pt (unT k tx A) A.length = ⟨k, tx, 0, [((A.length : Nat) : Int) - 1]⟩ := by
  have := pt_app2 (A := A) (B := [⟨k, tx, 0, [((A.length : Nat) : Int) - 1]⟩]) 0
  rw [Nat.add_zero] at this
  exact this
theorem jn_emb (k : Int) (A B : List Pt) : Emb A (jnT k A B) 0 := ⟨by rw [jn_len]; omega, fun j hj => by
  rw [shf_zero, Nat.zero_add]
  unfold jnT
  rw [pt_app (by rw [List.length_append]; omega)]
  exact pt_app hj⟩
theorem jn_emb2 (k : Int) (A B : List Pt) : Emb B (jnT k A B) A.length := ⟨by rw [jn_len]; omega, fun j hj => by
  unfold jnT
  rw [pt_app (by rw [List.length_append, List.length_map]; omega), pt_app2]
  unfold pt
  rw [List.getD_eq_getElem?_getD, List.getElem?_map, List.getElem?_eq_getElem hj, List.getD_eq_getElem?_getD, List.getElem?_eq_getElem hj]
  rfl⟩
theorem jn_top (k : Int) (A B : List Pt) : pt (jnT k A B) (A.length + B.length) = ⟨k, ⟨#[]⟩, 0, [((A.length : Nat) : Int) - 1, ((A.length + B.length : Nat) : Int) - 1]⟩ := by
  have := pt_app2 (A := A ++ B.map (shf A.length)) (B := [⟨k, ⟨#[]⟩, 0, [((A.length : Nat) : Int) - 1, ((A.length + B.length : Nat) : Int) - 1]⟩]) 0
  rw [Nat.add_zero, List.length_append, List.length_map] at this
  exact this
theorem map_z (e : Option (Nat × Int)) : e.map (shE 0) = e := by
  cases e with
  | none => rfl
  | some e => simp [shE]
theorem top_as {T : List Pt} {s : Int} {t : Nat} {k nu : Int} {tx : ByteArray} {ks : List Int} (h : pt T t = ⟨k, tx, nu, ks⟩) (hk : k ≠ 6 ∧ k ≠ 7 ∧ k ≠ 13 ∧ k ≠ 19) : brF T s t = asO k nu s tx t := by
  rw [brF_as (by rw [h]; exact hk), h]
/-- What A's faults and types are in a greater tree, whose root gives A this scope. -/
theorem in_none {A U : List Pt} {sc : Int} {sp : Nat → Int} {o : Nat} (he : Emb A U o) (hA : Res A 0 0) (hU : Res U 0 0) (hs : Scp U sc sp) (hn : (ovS A (sp (o + (A.length - 1)))).2 = none) :
    (∀ j, j < A.length → brF U (sp (o + j)) (o + j) = none) ∧ ∀ j, j < A.length → tyF U (o + j) = (ovS A (sp (o + (A.length - 1)))).1 j := by
  obtain ⟨h1, h2, h3, _⟩ := res_ok hA
  obtain ⟨k1, k2, k3, _⟩ := res_ok hU
  have gA := gds_of h3 h2
  have gU := gds_of k3 k2
  obtain ⟨m1, m2⟩ := ck_ok hA (emb_scp he h1 hs gA) hn
  exact ⟨fun j hj => by rw [emb_br he gA gU hj]; exact map_none.2 (m1 j hj), fun j hj => by rw [m2 j hj]; exact emb_ty he gA gU j hj⟩
theorem in_some {A U : List Pt} {sc : Int} {sp : Nat → Int} {e : Nat × Int} (he : Emb A U 0) (hA : Res A 0 0) (hU : Res U 0 0) (hs : Scp U sc sp) (hn : (ovS A (sp (A.length - 1))).2 = some e) : (ovS U sc).2 = some e := by
  obtain ⟨h1, h2, h3, _⟩ := res_ok hA
  obtain ⟨k1, k2, k3, _⟩ := res_ok hU
  have gA := gds_of h3 h2
  have gU := gds_of k3 k2
  have hs2 := emb_scp he h1 hs gA
  rw [Nat.zero_add] at hs2
  obtain ⟨j, m1, m2, m3⟩ := ck_err hA hs2 hn
  have hl := he.len
  simp only [Nat.zero_add] at m2 m3
  have hb : ∀ i, i < A.length → brF U (sp i) i = brF A (sp i) i := fun i hi => by
    have := emb_br he gA gU hi (sp i)
    rw [Nat.zero_add, map_z] at this
    exact this
  exact ck_no hU hs (j := j) (by omega) (by rw [hb j m1]; exact m2) (fun i hi => by rw [hb i (by omega)]; exact m3 i hi)
theorem un_root {k : Int} {tx : ByteArray} {A : List Pt} {sc : Int} {sp : Nat → Int} (h1 : 1 ≤ A.length) (hs : Scp (unT k tx A) sc sp) : sp A.length = sc ∧ sp (A.length - 1) = scpO k sc := by
  have hr := hs.root
  rw [un_len, Nat.add_sub_cancel] at hr
  have := hs.kid A.length (by rw [un_len]; omega) (A.length - 1) (by rw [un_top]; simp; omega)
  rw [un_top, hr] at this
  exact ⟨hr, this⟩
theorem jn_root {k : Int} {A B : List Pt} {sc : Int} {sp : Nat → Int} (h1 : 1 ≤ A.length) (h2 : 1 ≤ B.length) (hs : Scp (jnT k A B) sc sp) : sp (A.length + B.length) = sc ∧ sp (A.length - 1) = scpO k sc ∧ sp (A.length + (B.length - 1)) = scpO k sc := by
  have hr := hs.root
  rw [jn_len, Nat.add_sub_cancel] at hr
  have a1 := hs.kid (A.length + B.length) (by rw [jn_len]; omega) (A.length - 1) (by rw [jn_top]; simp; omega)
  have a2 := hs.kid (A.length + B.length) (by rw [jn_len]; omega) (A.length + (B.length - 1)) (by rw [jn_top]; simp; omega)
  rw [jn_top, hr] at a1 a2
  exact ⟨hr, a1, a2⟩
/-- A part over A: whether it is taken hangs on itself alone. -/
theorem un_ok {k : Int} {tx : ByteArray} {A : List Pt} {sc : Int} (hA : Res A 0 0) (hU : Res (unT k tx A) 0 0) (hk : k ≠ 6 ∧ k ≠ 7 ∧ k ≠ 13 ∧ k ≠ 19) (hn : (ovS A (scpO k sc)).2 = none) :
    (asO k 0 sc tx A.length = none → (ovS (unT k tx A) sc).2 = none ∧ ∀ j, j < A.length → (ovS (unT k tx A) sc).1 j = (ovS A (scpO k sc)).1 j) ∧
    (∀ e, asO k 0 sc tx A.length = some e → (ovS (unT k tx A) sc).2 = some e) := by
  obtain ⟨h1, _⟩ := res_ok hA
  obtain ⟨k1, k2, k3, _⟩ := res_ok hU
  have hs := spF_ok k3 k1 sc
  generalize spF (unT k tx A) sc = sp at hs
  obtain ⟨r1, r2⟩ := un_root h1 hs
  have hin := in_none (un_emb k tx A) hA hU hs (by rw [Nat.zero_add, r2]; exact hn)
  simp only [Nat.zero_add] at hin
  rw [r2] at hin
  have ht := top_as (s := sc) (un_top k tx A) hk
  constructor
  · intro ha
    obtain ⟨y1, y2⟩ := ck_yes hU hs (fun j hj => by
      rw [un_len] at hj
      by_cases e : j = A.length
      · rw [e, r1, ht]; exact ha
      · exact hin.1 j (by omega))
    exact ⟨y1, fun j hj => by rw [y2 j (by rw [un_len]; omega)]; exact hin.2 j hj⟩
  · intro e ha
    exact ck_no hU hs (j := A.length) (by rw [un_len]; omega) (by rw [r1, ht]; exact ha) (fun i hi => hin.1 i hi)
theorem jn_ok {k : Int} {A B : List Pt} {sc : Int} (hA : Res A 0 0) (hB : Res B 0 0) (hU : Res (jnT k A B) 0 0) (hk : k = 4 ∨ k = 5) (hn : (ovS A sc).2 = none) (hm : (ovS B sc).2 = none) :
    (ovS (jnT k A B) sc).2 = none ∧ (∀ j, j < A.length → (ovS (jnT k A B) sc).1 j = (ovS A sc).1 j) ∧ (∀ j, j < B.length → (ovS (jnT k A B) sc).1 (A.length + j) = (ovS B sc).1 j) := by
  obtain ⟨h1, _⟩ := res_ok hA
  obtain ⟨h2, _⟩ := res_ok hB
  obtain ⟨k1, k2, k3, _⟩ := res_ok hU
  have hs := spF_ok k3 k1 sc
  generalize spF (jnT k A B) sc = sp at hs
  obtain ⟨r1, r2, r3⟩ := jn_root h1 h2 hs
  have e0 : scpO k sc = sc := by rcases hk with rfl | rfl <;> rfl
  rw [e0] at r2 r3
  have hin := in_none (jn_emb k A B) hA hU hs (by rw [Nat.zero_add, r2]; exact hn)
  have hjn := in_none (jn_emb2 k A B) hB hU hs (by rw [r3]; exact hm)
  simp only [Nat.zero_add] at hin
  rw [r2] at hin
  rw [r3] at hjn
  have ht := top_as (s := sc) (jn_top k A B) (by omega)
  have ha : asO k 0 sc ⟨#[]⟩ ((A.length + B.length : Nat) : Int) = none := by rcases hk with rfl | rfl <;> simp [asO, knB, nmB]
  obtain ⟨y1, y2⟩ := ck_yes hU hs (fun j hj => by
    rw [jn_len] at hj
    by_cases e : j = A.length + B.length
    · rw [e, r1, ht]; exact ha
    · by_cases e2 : j < A.length
      · exact hin.1 j e2
      · have e3 : j = A.length + (j - A.length) := by omega
        rw [e3]
        exact hjn.1 (j - A.length) (by omega))
  exact ⟨y1, fun j hj => by rw [y2 j (by rw [jn_len]; omega)]; exact hin.2 j hj, fun j hj => by rw [y2 _ (by rw [jn_len]; omega)]; exact hjn.2 j hj⟩
theorem jn_err {k : Int} {A B : List Pt} {sc : Int} {e : Nat × Int} (hA : Res A 0 0) (h2 : 1 ≤ B.length) (hU : Res (jnT k A B) 0 0) (hk : k = 4 ∨ k = 5) (hn : (ovS A sc).2 = some e) : (ovS (jnT k A B) sc).2 = some e := by
  obtain ⟨h1, _⟩ := res_ok hA
  obtain ⟨k1, k2, k3, _⟩ := res_ok hU
  have hs := spF_ok k3 k1 sc
  generalize spF (jnT k A B) sc = sp at hs
  obtain ⟨r1, r2, r3⟩ := jn_root h1 h2 hs
  have e0 : scpO k sc = sc := by rcases hk with rfl | rfl <;> rfl
  rw [e0] at r2
  exact in_some (jn_emb k A B) hA hU hs (by rw [r2]; exact hn)
/-- node[key] == "x". -/
abbrev wT (key : ByteArray) : List Pt := [⟨14, key, 2, []⟩, ⟨11, ⟨#[120]⟩, 0, []⟩, ⟨6, ⟨#[]⟩, 1, [0, 1]⟩]
theorem w_ok {key : ByteArray} : ((ovS (wT key) 2).2 = none ↔ keyB key = true) := by
  have e2 : nmB 14 key = keyB key := by simp [nmB]
  rw [← e2]
  have e0 : brO (wT key) (fun _ => 0) (fun _ => 0) 0 2 = if nmB 14 key = true then none else some (147, 0) := by
    rw [br_as (show (pt (wT key) 0).kind ≠ 6 ∧ (pt (wT key) 0).kind ≠ 7 ∧ (pt (wT key) 0).kind ≠ 13 ∧ (pt (wT key) 0).kind ≠ 19 from (by decide : (14 : Int) ≠ 6 ∧ (14 : Int) ≠ 7 ∧ (14 : Int) ≠ 13 ∧ (14 : Int) ≠ 19))]
    rfl
  have e : ovS (wT key) 2 = ov (wT key) 3 (fun _ => (0, 0)) 2 2 := rfl
  have e1 : ov (wT key) 1 (fun _ => (0, 0)) 0 2 = fin (wT key) 0 2 (fun _ => (0, 0)) := rfl
  rw [e, ov_succ]
  show (aft (wT key) 2 2 ([(0 : Int), 1].foldl (stp (wT key) 2 6 2) (fun _ => (0, 0), none))).2 = none ↔ _
  rw [List.foldl_cons]
  have e3 : stp (wT key) 2 6 2 (fun _ => (0, 0), none) 0 = fin (wT key) 0 2 (fun _ => (0, 0)) := rfl
  rw [e3]
  cases h : nmB 14 key
  · rw [h] at e0
    rw [fin_some (e := (147, 0)) e0]
    simp only [List.foldl_cons, List.foldl_nil]
    constructor
    · intro h; cases h
    · intro h; cases h
  · rw [h] at e0
    rw [fin_none (show brO (wT key) (fun j => ((fun _ => (0, 0) : Nat → Int × Int) j).1) (fun j => ((fun _ => (0, 0) : Nat → Int × Int) j).2) 0 2 = none from e0)]
    constructor
    · intro _; rfl
    · intro _; rfl
end Go.Proofs.YtiddnjjaidiohaaGreatDoor.L
namespace Go.Proofs.YtiddnjjaidiohaaGreatDoor.L
open Go.RowKit Go.Shelf
set_option linter.unusedVariables false
/-- Rows in blocks that differ. -/
def Dst (ks : Nat → Value) (k : Nat) : Prop := ∀ i j, i < j → j < k → (ks i).ownBlock = none ∨ (ks i).ownBlock ≠ (ks j).ownBlock
theorem dst_more {ks : Nat → Value} {k B : Nat} {x : Value} {W : World} {zs : List Int} (h : Dst ks k) (hl : ∀ i, i < k → ∀ g, (ks i).ownBlock = some g → g < B) (hx : OwnI W B x zs) : Dst (fun j => if j = k then x else ks j) (k + 1) := by
  intro i j h1 h2
  simp only
  by_cases e : j = k
  · rw [if_pos e, if_neg (by omega)]
    cases hb : (ks i).ownBlock with
    | none => exact .inl rfl
    | some g =>
      right
      intro he
      have a := hl i (by omega) g hb
      have b := (own_block hx g he.symm).1
      omega
  · rw [if_neg e, if_neg (by omega)]
    exact h i j h1 (by omega)
set_option maxHeartbeats 4000000 in
set_option maxRecDepth 100000 in
theorem copied_d (a : Option Addr) (T : List Pt) (cap : Nat) (w : World) (hT : PLs w a T) (hG : GdT T) (hsm : sumK T T.length ≤ 100000) :
    Calls Tryz.prog 10 #[.agg #[.slice a T.length cap]] w fun e w' => ∃ a' cap' ks, e = .returned (.agg #[.slice a' T.length cap']) ∧ OwnP w' w.heap.size (.slice a' T.length cap') T ks T.length ∧ Dst ks T.length ∧ Below w.heap.size w w' := by
  obtain ⟨L, hLe⟩ : ∃ L, L = T.length := ⟨_, rfl⟩
  have HT := hid hT
  have HL := hid hLe
  have HG := hid hG
  have hL : L ≤ 140737488355328 := by rw [hLe]; exact hG.1
  have HSM := hid hsm
  rw [← hLe] at HSM ⊢
  have hb0 := belowA w (.cells #[.slice a L cap] 26)
  have hb1 := hb0.alloc (by simp) (.cells #[.slice none 0 0] 26)
  have HB1 := hid hb1
  have HX0 := hid (show Boxed ((w.alloc (.cells #[.slice a L cap] 26)).alloc (.cells #[.slice none 0 0] 26)) w.heap.size 26 (.slice a L cap) from (Boxed.new w _ _).alloc _)
  have HX1 := hid (show Boxed ((w.alloc (.cells #[.slice a L cap] 26)).alloc (.cells #[.slice none 0 0] 26)) (w.heap.size + 1) 26 (.slice none 0 0) by
    have := Boxed.new (w.alloc (.cells #[.slice a L cap] 26)) 26 (.slice none 0 0)
    rwa [World.size_alloc] at this)
  have HXS := hid (show ((w.alloc (.cells #[.slice a L cap] 26)).alloc (.cells #[.slice none 0 0] 26)).heap.size = w.heap.size + 1 + 1 by simp)
  clear hT hLe hG hb0 hb1 hsm
  go_enter Tryz.func10, Tryz.ntmps10
  go_upto_region 1 with (fail)
  have HTX := hid (HT.out.low HB1.out)
  generalize (w.alloc (.cells #[.slice a L cap] 26)).alloc (.cells #[.slice none 0 0] 26) = X at *
  have xt := HX0.out.cell
  have hL5 : L ≤ 100000 := by
    have h0 := sumK_mono T (Nat.zero_le L)
    have h1 : sumK T 0 = L := HL.out.symm
    have h2 := HSM.out
    omega
  have HS := hid (show sumK T L ≤ 100000 from HSM.out)
  have HW1 := HB1
  have HY0 := HX0
  have HY1 := HX1
  have HWS := hid (show w.heap.size + 1 < X.heap.size from HY1.out.lt)
  have HLT := hid (Nat.lt_of_succ_lt HWS.out)
  go_wp2_with fail
  go_loopw [3, 9] (fun v i wr => ∃ (k : Nat) (ks : Nat → Value), k ≤ L ∧ i = .int .i64 (k : Int) ∧ Hid (Below X.heap.size X wr) ∧ Hid (OwnP wr X.heap.size v T ks k) ∧ Hid (Dst ks k)) (fun _ i _ => L - (intOf i).toNat)
  case atStart => exact ⟨0, fun _ => undef, Nat.zero_le _, rfl, hid (Below.refl _ _), hid ⟨⟨rfl, .inl ⟨rfl, rfl⟩⟩, fun j hj => absurd hj (Nat.not_lt_zero j)⟩, hid (fun i j h1 h2 => absurd h2 (Nat.not_lt_zero j))⟩
  case round =>
    obtain ⟨k, ks, hk, rfl, HB, HO, HD⟩ := hrel
    have xt := (show Boxed wr w.heap.size 26 (.slice a L cap) from boxed_low HY0.out HB.out).cell
    by_cases hkl : k < L
    · have hki : (k : Int) < (L : Int) := by omega
      have hk0 : (0 : Int) ≤ (k : Int) := by omega
      have hts := HT.out.low (HW1.out.trans (HB.out.mono (Nat.le_of_lt HLT.out)))
      have hgk := sumK_kid T hkl
      rcases hts with h0 | ⟨b2, o2, rfl, hb2, hc2⟩
      · have := HL.out; omega
      obtain ⟨ka, kc, q0, q1, q2, q3, rk, hno⟩ := hc2 k (by rw [← HL.out]; exact hkl)
      have hgl := Nat.le_trans hgk HS.out
      obtain ⟨p, hp⟩ : ∃ p, p = pt T k := ⟨_, rfl⟩
      rw [← hp] at q0 q1 q2 q3 rk hgl
      have HPT := hid hp
      obtain ⟨kd, tx, nu, zs⟩ := p
      simp only at q0 q1 q2 q3 rk hgl
      obtain ⟨n, hn⟩ : ∃ n, n = zs.length := ⟨_, rfl⟩
      rw [← hn] at q3 hgl
      have HN := hid hn
      have RK := hid rk
      have HNO := hid hno
      have hk4 : ((k : Int) * 4).toNat = k * 4 := by omega
      have hvb := belowA wr (.cells #[.int .i64 kd, .string tx, .int .i64 nu, .slice ka n kc] 60)
      have HVB := hid hvb
      have HVP := hid (heap_alloc_new wr (.cells #[.int .i64 kd, .string tx, .int .i64 nu, .slice ka n kc] 60))
      have HVS := hid (show (wr.alloc (.cells #[.int .i64 kd, .string tx, .int .i64 nu, .slice ka n kc] 60)).heap.size = wr.heap.size + 1 by simp)
      clear hc2 rk hno hp hn hvb hgk
      go_upto_region 5 with (fail)
      have RV := hid (RK.out.low HVB.out (Nat.le_refl _))
      have HP9 := hid (show Below wr.heap.size wr (wr.alloc (.cells #[.int .i64 kd, .string tx, .int .i64 nu, .slice ka n kc] 60)) from HVB.out)
      clear q0 q1 q2 q3 hb2 xt
      generalize wr.alloc (.cells #[.int .i64 kd, .string tx, .int .i64 nu, .slice ka n kc] 60) = V at *
      have HWB := hid (show X.heap.size ≤ wr.heap.size from HB.out.size)
      generalize hPe : wr.heap.size = P at *
      have HPE := hid hPe
      clear hPe
      have x3 := (cells4 HVP.out).2.2.2
      have N0 := hid (show OwnI V V.heap.size (.slice none 0 0) [] from ⟨rfl, .inl ⟨rfl, rfl⟩⟩)
      have HPV := hid (show P < V.heap.size by rw [HVS.out]; exact Nat.lt_succ_self _)
      have HBD := hid (show ([] : List Int).length + zs.length ≤ 17592186044000 by rw [List.length_nil, ← HN.out]; omega)
      have hPne : P ≠ V.heap.size := Nat.ne_of_lt HPV.out
      go_wp2_with (at_builtin; refine append_src rfl _ _ rfl V.heap.size _ [] rfl N0.out ka n kc zs HN.out rfl HNO.out RV.out HBD.out (Nat.le_refl _) ?_)
      intro v1 w3 o1 g1
      obtain ⟨ka1, kc1, rfl⟩ := own_form o1
      have hk3 : w3.heap[P]? = V.heap[P]? := g1.block P HPV.out (by simp [Value.ownBlock])
      have e3 : w3.heap[P]? = some (.cells #[.int .i64 kd, .string tx, .int .i64 nu, .slice ka n kc] 60 (0, 0)) := hk3.trans HVP.out
      have f3 : w3.frozen? ⟨P, 3, none⟩ = false := by simp [World.frozen?, e3]
      obtain ⟨d0, d1, d2, d3⟩ := cells4 e3
      have HE3 := hid e3
      have O1 := hid o1
      have HDN := hid (dst_more HD.out (fun i hi g hg => Nat.lt_trans (by have h := (own_block (HO.out.kids i hi) g hg).2; rw [HPE.out] at h; exact h) HPV.out) o1)
      have G1 := hid g1
      clear o1 g1 hk3 e3 x3
      go_upto_region 6 with (fail)
      have e4 : (w3.setCell ⟨P, 3, none⟩ (.slice ka1 zs.length kc1)).heap[P]? = some (.cells #[.int .i64 kd, .string tx, .int .i64 nu, .slice ka1 zs.length kc1] 60 (0, 0)) := by
        rw [setCell_eq_setRow _ _ _ _ _ _ _ HE3.out, setRow_heap _ _ _ _ _ _ HE3.out]
        rfl
      have b3 : Below V.heap.size V w3 := (Below.refl _ _).grown G1.out (Nat.le_refl _) (fun k hk => by simp [Value.ownBlock] at hk)
      have b4 : Below P wr (w3.setCell ⟨P, 3, none⟩ (.slice ka1 zs.length kc1)) := (HP9.out.trans (b3.mono (Nat.le_of_lt HPV.out))).setCell (p := ⟨P, 3, none⟩) (Nat.le_refl _) _
      have HB4 := hid b4
      have HO4 := hid (HO.out.low (show Below wr.heap.size wr _ by rw [HPE.out]; exact b4))
      have OK4 := hid (show OwnI (w3.setCell ⟨P, 3, none⟩ (.slice ka1 zs.length kc1)) X.heap.size (.slice ka1 zs.length kc1) zs from own_mono (ownsRow_setCell_below O1.out (a := ⟨P, 3, none⟩) HPV.out _) (by have := HWB.out; have := HPV.out; omega))
      have ⟨x0, x1, x2, x3⟩ := cells4 e4
      have HW4 := hid (show X.heap.size ≤ (w3.setCell ⟨P, 3, none⟩ (.slice ka1 zs.length kc1)).heap.size by have h1 := b4.size; have h2 := HWB.out; rw [HPE.out] at h1; omega)
      clear e4 b3 b4 d0 d1 d2 d3 f3
      generalize w3.setCell ⟨P, 3, none⟩ (.slice ka1 zs.length kc1) = W4 at *
      obtain ⟨i0, hi, hz0, hz1, hz2⟩ := info_parts infoP
      have HRW := hid (HO4.out.row.alloc (.cells #[.int .i64 kd, .string tx, .int .i64 nu, .slice ka1 zs.length kc1] 60))
      have HFN := hid (cell_four_new W4 (.int .i64 kd) (.string tx) (.int .i64 nu) (.slice ka1 zs.length kc1) 60)
      have HA4 := hid (belowA W4 (.cells #[.int .i64 kd, .string tx, .int .i64 nu, .slice ka1 zs.length kc1] 60))
      have HO5 := hid (HO4.out.low HA4.out)
      have OK5 := hid (own_low OK4.out HA4.out)
      go_wp2_with (at_builtin; refine wpList_append_own _ rfl _ _ 24 rfl X.heap.size 60 i0 (.agg #[.int .i64 0, .string ByteArray.empty, .int .i64 0, .slice none 0 0]) 4 56 Tryz.underlying24 hi hz0 hz1 hz2 rfl (by decide) _ _ _ rfl HRW.out ⟨W4.heap.size, 0, none⟩ 1 1 [.int .i64 kd, .string tx, .int .i64 nu, .slice ka1 zs.length kc1] rfl rfl HFN.out (fun x hx => by simp at hx; rcases hx with rfl | rfl | rfl | rfl <;> rfl) (by unfold maxLen; omega) (by omega) (Nat.le_trans HW4.out HA4.out.size) ?_)
      intro v5 w5 hr5 hg5 hn5
      have HM := hid (OwnP.more HO5.out (show OwnI _ X.heap.size (.slice ka1 zs.length kc1) (pt T k).kids by rw [← HPT.out]; exact OK5.out) (by rw [← HPT.out]; exact hr5) hg5)
      have HB5 := hid (show Below X.heap.size X w5 by
        have h1 : Below X.heap.size X W4 := HB.out.trans (HB4.out.mono HWB.out)
        refine (h1.trans (HA4.out.mono HW4.out)).grown hg5 (Nat.le_trans HW4.out HA4.out.size) (fun k hk => ?_)
        exact (HO5.out.row.lt k hk).1)
      clear hr5 hg5 hn5 hi hz0 hz1 hz2 x0 x1 x2 x3
      go_wp2_with fail
      refine ⟨⟨k + 1, _, by omega, by simp, HB5, HM, HDN⟩, ?_⟩
      show L - ((k : Int) + 1).toNat < L - ((k : Int)).toNat
      omega
    · have hki : ¬ ((k : Int) < (L : Int)) := by omega
      have ekL : k = L := by omega
      subst ekL
      have hy1 := boxed_low HY1.out HB.out
      have xc := hy1.cell
      have xf := hy1.frozen
      have HXC := hid hy1
      clear hy1
      have HO2 := hid (HO.out.set_low (p := ⟨w.heap.size + 1, 0, none⟩) HWS.out u3)
      rw [HL.out] at HO2
      obtain ⟨a', cap', hv, hp⟩ := HO2.out.pl
      rw [← HL.out] at hv HO2
      clear hp
      subst hv
      have HP := hid (HO2.out.mono (base' := w.heap.size) (Nat.le_of_lt HLT.out))
      have HW3 := hid ((HW1.out.trans (HB.out.mono (Nat.le_of_lt HLT.out))).setCell (p := ⟨w.heap.size + 1, 0, none⟩) (Nat.le_succ _) (.slice a' k cap'))
      go_wp2_with fail
      exact ⟨rfl, .agg #[.slice a' k cap'], results_cell_row Tryz.results10 _ _ (w.heap.size + 1) 26 #[.slice a' k cap'] (0, 0) _ rfl (HXC.out.set _) Tryz.underlying26 rfl (by kernel_rfl), a', cap', rfl, ⟨ks, HP.out, HD.out, HW3.out⟩⟩
end Go.Proofs.YtiddnjjaidiohaaGreatDoor.L
