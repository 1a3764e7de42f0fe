import Derived.Test.YtdnoagebcolgbaaDoorIg
namespace Go.Proofs.YtdnoagebcolgbaaDoor.L
open Go.RowKit Go.Shelf
set_option linter.unusedVariables false
set_option maxHeartbeats 4000000 in
set_option maxRecDepth 100000 in
theorem rt_6 (a : Option Addr) (L cap : Nat) (tx : ByteArray) (nu : Int) (ka : Option Addr) (m kc gt n : Nat) (w : World) (ht : tx.size ≤ 127) (hnu : 1 ≤ nu ∧ nu ≤ 6) (KS : List (List UInt8)) (hJ : ∀ W sep, Below w.heap.size w W → sep.length ≤ 10 → Calls Tryd.prog 37 #[.agg #[.slice a L cap], .agg #[.int .i64 6, .string tx, .int .i64 nu, .slice ka m kc], .slice (some ⟨gt, 0, none⟩) n n, .string (S sep)] W fun e w' => e = .returned (.string (S (Lib.join KS sep))) ∧ Below W.heap.size W w') (hJL : ∀ sep, sep.length ≤ 10 → (Lib.join KS sep).length ≤ 5000000) :
    Calls Tryd.prog 26 #[.agg #[.slice a L cap], .agg #[.int .i64 6, .string tx, .int .i64 nu, .slice ka m kc], .slice (some ⟨gt, 0, none⟩) n n] w fun e w' => e = .returned (.string (S (Lib.join KS ([32] ++ (sgnL nu ++ [32]))))) ∧ Below w.heap.size w w' := by
  have HQ := hid (fun W => rquote_any tx W (by omega))
  have hql := quote_len (tx_len ht)
  generalize quoteL tx.data.toList = q at *
  obtain ⟨Q, hQ⟩ : ∃ Q, Q = S q := ⟨_, rfl⟩
  have HQE := hid hQ
  have hQz : Q.size ≤ 600 := by rw [hQ, S_size]; exact hql
  have HQ2 := hid (show ∀ W, Calls Tryd.prog 36 #[.string tx] W fun e w' => e = .returned (.string Q) ∧ Below W.heap.size W w' by rw [hQ]; exact HQ.out)
  clear hQ hql HQ
  have hgl : (sgnL nu).length ≤ 2 := by
    unfold sgnL
    repeat' split
    all_goals simp
  have HSG := hid (fun W => rsgn_any nu W hnu)
  generalize sgnL nu = sg at *
  have HJ := hid (fun W hb => hJ W ([32] ++ (sg ++ [32])) hb (by simp; omega))
  have hjl := hJL ([32] ++ (sg ++ [32])) (by simp; omega)
  clear hJ hJL hnu
  obtain ⟨G, hG⟩ : ∃ G, G = S sg := ⟨_, rfl⟩
  have hGz : G.size ≤ 2 := by rw [hG, S_size]; exact hgl
  have hs1 : ¬ (9223372036854775807 < 1 + G.size) := by omega
  have hs2 : ¬ (9223372036854775807 < 1 + G.size + 1) := by omega
  have hsep : S ([32] ++ (sg ++ [32])) = (⟨#[32]⟩ ++ G) ++ ⟨#[32]⟩ := by
    rw [hG, show (⟨#[32]⟩ : ByteArray) = S [32] from rfl, S_app, S_app]
    simp
  rw [hsep] at HJ
  rw [← hG] at HSG
  generalize hjle : Lib.join KS ([32] ++ (sg ++ [32])) = jl at *
  have HJLE := hid hjle
  obtain ⟨J, hJe⟩ : ∃ J, J = S jl := ⟨_, rfl⟩
  have HJE := hid hJe
  rw [← hJe] at HJ
  clear hjle hJe hsep hG hjl hgl
  have HB0 := hid (belowA w (.cells #[.slice a L cap] 24))
  have HX0 := hid (Boxed.new w 24 (.slice a L cap))
  have HS0 := hid (show (w.alloc (.cells #[.slice a L cap] 24)).heap.size = w.heap.size + 1 by simp)
  go_enter Tryd.func26, Tryd.ntmps26
  go_upto_region 1 with (fail)
  generalize hY0 : w.alloc (.cells #[.slice a L cap] 24) = Y at *
  clear hY0
  have HB1 := hid (belowA Y (.cells #[.int .i64 6, .string tx, .int .i64 nu, .slice ka m kc] 45))
  have HX1 := hid (heap_alloc_new Y (.cells #[.int .i64 6, .string tx, .int .i64 nu, .slice ka m kc] 45))
  have HXV := hid (boxed_low HX0.out HB1.out)
  generalize hV0 : Y.alloc (.cells #[.int .i64 6, .string tx, .int .i64 nu, .slice ka m kc] 45) = V at *
  clear hV0
  rw [HS0.out] at HX1
  have HBV := hid (show Below w.heap.size w V from bch HB0.out HB1.out)
  generalize hpb : w.heap.size + 1 = pb at *
  have HPB := hid hpb
  clear hpb HB1 HX0
  have ⟨x0, x1, x2, x3⟩ := cells4 HX1.out
  go_upto_region 2 with (go_at_call 36; refine (HQ2.out _).mono ?_; rintro e w1 ⟨rfl, l1⟩; have L1 := hid l1; clear l1; have yt := (boxed_low HXV.out L1.out).cell; have ⟨y0, y1, y2, y3⟩ := cells4 ((L1.out.block _ (lt_blk HX1.out)).trans HX1.out))
  clear x0 x1 x2 x3
  have HB3 := hid (show Below w.heap.size w w1 from bch HBV.out L1.out)
  have HXW := hid (boxed_low HXV.out L1.out)
  have HXP := hid ((L1.out.block _ (lt_blk HX1.out)).trans HX1.out)
  go_upto_region 10 with (fail)
  go_region_held3 (fun Z => Z.cell? ⟨w.heap.size, 0, none⟩ = some (.slice a L cap) ∧ Z.cell? ⟨pb, 0, none⟩ = some (.int .i64 6) ∧ Z.cell? ⟨pb, 1, none⟩ = some (.string tx) ∧ Z.cell? ⟨pb, 2, none⟩ = some (.int .i64 nu) ∧ Z.cell? ⟨pb, 3, none⟩ = some (.slice ka m kc)) (first | exact ⟨yt, y0, y1, y2, y3⟩ | (refine ⟨?_, ?_, ?_, ?_, ?_⟩ <;> assumption) | go_keep)
    (first
      | (go_at_call 38; refine (HSG.out _).mono ?_; rintro e w2 ⟨rfl, hww⟩; have hw2 := hww.symm; clear hww; subst hw2)
      | (go_at_call 37; refine (HJ.out _ (by first | exact HB3.out.drew | exact HB3.out)).mono ?_; rintro e w3 ⟨rfl, l3⟩; have M3 := hid (show Below w1.heap.size w1 w3 from by first | exact undrew l3 | exact l3); clear l3; have z5 := (boxed_low HXW.out M3.out).cell; have ⟨z0, z1, z2, z3⟩ := cells4 ((M3.out.block _ (lt_blk HXP.out)).trans HXP.out)))
  go_wp2_with fail
  go_ret
  refine ⟨?_, bch HB3.out M3.out⟩
  show Ending.returned (.string (J)) = Ending.returned (.string (S jl))
  rw [HJE.out]
set_option maxHeartbeats 4000000 in
set_option maxRecDepth 100000 in
theorem rt_8 (a : Option Addr) (L cap : Nat) (tx : ByteArray) (nu : Int) (kc gt n : Nat) (w : World) (ht : tx.size ≤ 127) (b1 o1 x : Nat) (u : List UInt8) (hu : u.length ≤ 4096) (hkid : w.cell? ⟨b1, o1, none⟩ = some (.int .i64 (x : Int))) (hb1 : b1 < w.heap.size) (htx : w.cell? ⟨gt, x, none⟩ = some (.string (S u))) (hgt : gt < w.heap.size) (hx : x < n) (hn : n ≤ 1000) :
    Calls Tryd.prog 26 #[.agg #[.slice a L cap], .agg #[.int .i64 8, .string tx, .int .i64 nu, .slice (some ⟨b1, o1, none⟩) 1 kc], .slice (some ⟨gt, 0, none⟩) n n] w fun e w' => e = .returned (.string (S ([110, 101, 97, 114] ++ ([40] ++ ((quoteL tx.data.toList ++ ([44, 32] ++ u)) ++ [41]))))) ∧ Below w.heap.size w w' := by
  have HQ := hid (fun W => rquote_any tx W (by omega))
  have hql := quote_len (tx_len ht)
  generalize quoteL tx.data.toList = q at *
  obtain ⟨Q, hQ⟩ : ∃ Q, Q = S q := ⟨_, rfl⟩
  have HQE := hid hQ
  have hQz : Q.size ≤ 600 := by rw [hQ, S_size]; exact hql
  have HQ2 := hid (show ∀ W, Calls Tryd.prog 36 #[.string tx] W fun e w' => e = .returned (.string Q) ∧ Below W.heap.size W w' by rw [hQ]; exact HQ.out)
  clear hQ hql HQ
  obtain ⟨U, hU⟩ : ∃ U, U = S u := ⟨_, rfl⟩
  have HUE := hid hU
  have hUz : U.size ≤ 4096 := by rw [hU, S_size]; exact hu
  rw [← hU] at htx
  have HKID := hid hkid
  have HTXT := hid htx
  have HB1L := hid hb1
  have HGTL := hid hgt
  clear hU hu hkid htx hb1 hgt
  have HB0 := hid (belowA w (.cells #[.slice a L cap] 24))
  have HX0 := hid (Boxed.new w 24 (.slice a L cap))
  have HS0 := hid (show (w.alloc (.cells #[.slice a L cap] 24)).heap.size = w.heap.size + 1 by simp)
  go_enter Tryd.func26, Tryd.ntmps26
  go_upto_region 1 with (fail)
  generalize hY0 : w.alloc (.cells #[.slice a L cap] 24) = Y at *
  clear hY0
  have HB1 := hid (belowA Y (.cells #[.int .i64 8, .string tx, .int .i64 nu, .slice (some ⟨b1, o1, none⟩) 1 kc] 45))
  have HX1 := hid (heap_alloc_new Y (.cells #[.int .i64 8, .string tx, .int .i64 nu, .slice (some ⟨b1, o1, none⟩) 1 kc] 45))
  have HXV := hid (boxed_low HX0.out HB1.out)
  generalize hV0 : Y.alloc (.cells #[.int .i64 8, .string tx, .int .i64 nu, .slice (some ⟨b1, o1, none⟩) 1 kc] 45) = V at *
  clear hV0
  rw [HS0.out] at HX1
  have HBV := hid (show Below w.heap.size w V from bch HB0.out HB1.out)
  generalize hpb : w.heap.size + 1 = pb at *
  have HPB := hid hpb
  clear hpb HB1 HX0
  have ⟨x0, x1, x2, x3⟩ := cells4 HX1.out
  go_upto_region 2 with (go_at_call 36; refine (HQ2.out _).mono ?_; rintro e w1 ⟨rfl, l1⟩; have L1 := hid l1; clear l1; have yt := (boxed_low HXV.out L1.out).cell; have ⟨y0, y1, y2, y3⟩ := cells4 ((L1.out.block _ (lt_blk HX1.out)).trans HX1.out))
  clear x0 x1 x2 x3
  have HB3 := hid (show Below w.heap.size w w1 from bch HBV.out L1.out)
  have p0 := (HB3.out.cell (p := ⟨b1, o1, none⟩) HB1L.out).trans HKID.out
  have q1 := (HB3.out.cell (p := ⟨gt, x, none⟩) HGTL.out).trans HTXT.out
  have g3 : (x : Int) < (n : Int) := by omega
  have g4 : (0 : Int) ≤ (x : Int) := by omega
  go_wp2_with (fail)
  go_ret
  refine ⟨?_, HB3.out⟩
  show Ending.returned (.string (S [110, 101, 97, 114, 40] ++ Q ++ S [44, 32] ++ U ++ S [41])) = Ending.returned (.string (S ([110, 101, 97, 114] ++ ([40] ++ ((q ++ ([44, 32] ++ u)) ++ [41])))))
  rw [HUE.out]
  try rw [HQE.out]
  simp only [S_app]
  simp
set_option maxHeartbeats 4000000 in
set_option maxRecDepth 100000 in
theorem rt_9 (a : Option Addr) (L cap : Nat) (tx : ByteArray) (nu : Int) (kc gt n : Nat) (w : World) (ht : tx.size ≤ 127) (b1 o1 x : Nat) (u : List UInt8) (hu : u.length ≤ 4096) (hkid : w.cell? ⟨b1, o1, none⟩ = some (.int .i64 (x : Int))) (hb1 : b1 < w.heap.size) (htx : w.cell? ⟨gt, x, none⟩ = some (.string (S u))) (hgt : gt < w.heap.size) (hx : x < n) (hn : n ≤ 1000) :
    Calls Tryd.prog 26 #[.agg #[.slice a L cap], .agg #[.int .i64 9, .string tx, .int .i64 nu, .slice (some ⟨b1, o1, none⟩) 1 kc], .slice (some ⟨gt, 0, none⟩) n n] w fun e w' => e = .returned (.string (S ([97, 112, 97, 114, 116] ++ ([40] ++ ((quoteL tx.data.toList ++ ([44, 32] ++ u)) ++ [41]))))) ∧ Below w.heap.size w w' := by
  have HQ := hid (fun W => rquote_any tx W (by omega))
  have hql := quote_len (tx_len ht)
  generalize quoteL tx.data.toList = q at *
  obtain ⟨Q, hQ⟩ : ∃ Q, Q = S q := ⟨_, rfl⟩
  have HQE := hid hQ
  have hQz : Q.size ≤ 600 := by rw [hQ, S_size]; exact hql
  have HQ2 := hid (show ∀ W, Calls Tryd.prog 36 #[.string tx] W fun e w' => e = .returned (.string Q) ∧ Below W.heap.size W w' by rw [hQ]; exact HQ.out)
  clear hQ hql HQ
  obtain ⟨U, hU⟩ : ∃ U, U = S u := ⟨_, rfl⟩
  have HUE := hid hU
  have hUz : U.size ≤ 4096 := by rw [hU, S_size]; exact hu
  rw [← hU] at htx
  have HKID := hid hkid
  have HTXT := hid htx
  have HB1L := hid hb1
  have HGTL := hid hgt
  clear hU hu hkid htx hb1 hgt
  have HB0 := hid (belowA w (.cells #[.slice a L cap] 24))
  have HX0 := hid (Boxed.new w 24 (.slice a L cap))
  have HS0 := hid (show (w.alloc (.cells #[.slice a L cap] 24)).heap.size = w.heap.size + 1 by simp)
  go_enter Tryd.func26, Tryd.ntmps26
  go_upto_region 1 with (fail)
  generalize hY0 : w.alloc (.cells #[.slice a L cap] 24) = Y at *
  clear hY0
  have HB1 := hid (belowA Y (.cells #[.int .i64 9, .string tx, .int .i64 nu, .slice (some ⟨b1, o1, none⟩) 1 kc] 45))
  have HX1 := hid (heap_alloc_new Y (.cells #[.int .i64 9, .string tx, .int .i64 nu, .slice (some ⟨b1, o1, none⟩) 1 kc] 45))
  have HXV := hid (boxed_low HX0.out HB1.out)
  generalize hV0 : Y.alloc (.cells #[.int .i64 9, .string tx, .int .i64 nu, .slice (some ⟨b1, o1, none⟩) 1 kc] 45) = V at *
  clear hV0
  rw [HS0.out] at HX1
  have HBV := hid (show Below w.heap.size w V from bch HB0.out HB1.out)
  generalize hpb : w.heap.size + 1 = pb at *
  have HPB := hid hpb
  clear hpb HB1 HX0
  have ⟨x0, x1, x2, x3⟩ := cells4 HX1.out
  go_upto_region 2 with (go_at_call 36; refine (HQ2.out _).mono ?_; rintro e w1 ⟨rfl, l1⟩; have L1 := hid l1; clear l1; have yt := (boxed_low HXV.out L1.out).cell; have ⟨y0, y1, y2, y3⟩ := cells4 ((L1.out.block _ (lt_blk HX1.out)).trans HX1.out))
  clear x0 x1 x2 x3
  have HB3 := hid (show Below w.heap.size w w1 from bch HBV.out L1.out)
  have p0 := (HB3.out.cell (p := ⟨b1, o1, none⟩) HB1L.out).trans HKID.out
  have q1 := (HB3.out.cell (p := ⟨gt, x, none⟩) HGTL.out).trans HTXT.out
  have g3 : (x : Int) < (n : Int) := by omega
  have g4 : (0 : Int) ≤ (x : Int) := by omega
  go_wp2_with (fail)
  go_ret
  refine ⟨?_, HB3.out⟩
  show Ending.returned (.string (S [97, 112, 97, 114, 116, 40] ++ Q ++ S [44, 32] ++ U ++ S [41])) = Ending.returned (.string (S ([97, 112, 97, 114, 116] ++ ([40] ++ ((q ++ ([44, 32] ++ u)) ++ [41])))))
  rw [HUE.out]
  try rw [HQE.out]
  simp only [S_app]
  simp
set_option maxHeartbeats 4000000 in
set_option maxRecDepth 100000 in
theorem rt_20 (a : Option Addr) (L cap : Nat) (tx : ByteArray) (nu : Int) (kc gt n : Nat) (w : World) (ht : tx.size ≤ 127) (b1 o1 x : Nat) (u : List UInt8) (hu : u.length ≤ 4096) (hkid : w.cell? ⟨b1, o1, none⟩ = some (.int .i64 (x : Int))) (hb1 : b1 < w.heap.size) (htx : w.cell? ⟨gt, x, none⟩ = some (.string (S u))) (hgt : gt < w.heap.size) (hx : x < n) (hn : n ≤ 1000) :
    Calls Tryd.prog 26 #[.agg #[.slice a L cap], .agg #[.int .i64 20, .string tx, .int .i64 nu, .slice (some ⟨b1, o1, none⟩) 1 kc], .slice (some ⟨gt, 0, none⟩) n n] w fun e w' => e = .returned (.string (S ([99, 111, 117, 110, 116] ++ ([40] ++ ((quoteL tx.data.toList ++ ([44, 32] ++ u)) ++ [41]))))) ∧ Below w.heap.size w w' := by
  have HQ := hid (fun W => rquote_any tx W (by omega))
  have hql := quote_len (tx_len ht)
  generalize quoteL tx.data.toList = q at *
  obtain ⟨Q, hQ⟩ : ∃ Q, Q = S q := ⟨_, rfl⟩
  have HQE := hid hQ
  have hQz : Q.size ≤ 600 := by rw [hQ, S_size]; exact hql
  have HQ2 := hid (show ∀ W, Calls Tryd.prog 36 #[.string tx] W fun e w' => e = .returned (.string Q) ∧ Below W.heap.size W w' by rw [hQ]; exact HQ.out)
  clear hQ hql HQ
  obtain ⟨U, hU⟩ : ∃ U, U = S u := ⟨_, rfl⟩
  have HUE := hid hU
  have hUz : U.size ≤ 4096 := by rw [hU, S_size]; exact hu
  rw [← hU] at htx
  have HKID := hid hkid
  have HTXT := hid htx
  have HB1L := hid hb1
  have HGTL := hid hgt
  clear hU hu hkid htx hb1 hgt
  have HB0 := hid (belowA w (.cells #[.slice a L cap] 24))
  have HX0 := hid (Boxed.new w 24 (.slice a L cap))
  have HS0 := hid (show (w.alloc (.cells #[.slice a L cap] 24)).heap.size = w.heap.size + 1 by simp)
  go_enter Tryd.func26, Tryd.ntmps26
  go_upto_region 1 with (fail)
  generalize hY0 : w.alloc (.cells #[.slice a L cap] 24) = Y at *
  clear hY0
  have HB1 := hid (belowA Y (.cells #[.int .i64 20, .string tx, .int .i64 nu, .slice (some ⟨b1, o1, none⟩) 1 kc] 45))
  have HX1 := hid (heap_alloc_new Y (.cells #[.int .i64 20, .string tx, .int .i64 nu, .slice (some ⟨b1, o1, none⟩) 1 kc] 45))
  have HXV := hid (boxed_low HX0.out HB1.out)
  generalize hV0 : Y.alloc (.cells #[.int .i64 20, .string tx, .int .i64 nu, .slice (some ⟨b1, o1, none⟩) 1 kc] 45) = V at *
  clear hV0
  rw [HS0.out] at HX1
  have HBV := hid (show Below w.heap.size w V from bch HB0.out HB1.out)
  generalize hpb : w.heap.size + 1 = pb at *
  have HPB := hid hpb
  clear hpb HB1 HX0
  have ⟨x0, x1, x2, x3⟩ := cells4 HX1.out
  go_upto_region 2 with (go_at_call 36; refine (HQ2.out _).mono ?_; rintro e w1 ⟨rfl, l1⟩; have L1 := hid l1; clear l1; have yt := (boxed_low HXV.out L1.out).cell; have ⟨y0, y1, y2, y3⟩ := cells4 ((L1.out.block _ (lt_blk HX1.out)).trans HX1.out))
  clear x0 x1 x2 x3
  have HB3 := hid (show Below w.heap.size w w1 from bch HBV.out L1.out)
  have p0 := (HB3.out.cell (p := ⟨b1, o1, none⟩) HB1L.out).trans HKID.out
  have q1 := (HB3.out.cell (p := ⟨gt, x, none⟩) HGTL.out).trans HTXT.out
  have g3 : (x : Int) < (n : Int) := by omega
  have g4 : (0 : Int) ≤ (x : Int) := by omega
  go_wp2_with (fail)
  go_ret
  refine ⟨?_, HB3.out⟩
  show Ending.returned (.string (S [99, 111, 117, 110, 116, 40] ++ Q ++ S [44, 32] ++ U ++ S [41])) = Ending.returned (.string (S ([99, 111, 117, 110, 116] ++ ([40] ++ ((q ++ ([44, 32] ++ u)) ++ [41])))))
  rw [HUE.out]
  try rw [HQE.out]
  simp only [S_app]
  simp
set_option maxHeartbeats 4000000 in
set_option maxRecDepth 100000 in
theorem rt_19 (a : Option Addr) (L cap : Nat) (tx : ByteArray) (nu : Int) (kc gt n : Nat) (w : World) (ht : tx.size ≤ 127) (b1 o1 x : Nat) (u : List UInt8) (hu : u.length ≤ 4096) (hkid : w.cell? ⟨b1, o1, none⟩ = some (.int .i64 (x : Int))) (hb1 : b1 < w.heap.size) (htx : w.cell? ⟨gt, x, none⟩ = some (.string (S u))) (hgt : gt < w.heap.size) (hx : x < n) (hn : n ≤ 1000) :
    Calls Tryd.prog 26 #[.agg #[.slice a L cap], .agg #[.int .i64 19, .string tx, .int .i64 nu, .slice (some ⟨b1, o1, none⟩) 1 kc], .slice (some ⟨gt, 0, none⟩) n n] w fun e w' => e = .returned (.string (S ([105, 110, 116] ++ ([40] ++ (u ++ [41]))))) ∧ Below w.heap.size w w' := by
  have HQ := hid (fun W => rquote_any tx W (by omega))
  have hql := quote_len (tx_len ht)
  generalize quoteL tx.data.toList = q at *
  obtain ⟨Q, hQ⟩ : ∃ Q, Q = S q := ⟨_, rfl⟩
  have HQE := hid hQ
  have hQz : Q.size ≤ 600 := by rw [hQ, S_size]; exact hql
  have HQ2 := hid (show ∀ W, Calls Tryd.prog 36 #[.string tx] W fun e w' => e = .returned (.string Q) ∧ Below W.heap.size W w' by rw [hQ]; exact HQ.out)
  clear hQ hql HQ
  obtain ⟨U, hU⟩ : ∃ U, U = S u := ⟨_, rfl⟩
  have HUE := hid hU
  have hUz : U.size ≤ 4096 := by rw [hU, S_size]; exact hu
  rw [← hU] at htx
  have HKID := hid hkid
  have HTXT := hid htx
  have HB1L := hid hb1
  have HGTL := hid hgt
  clear hU hu hkid htx hb1 hgt
  have HB0 := hid (belowA w (.cells #[.slice a L cap] 24))
  have HX0 := hid (Boxed.new w 24 (.slice a L cap))
  have HS0 := hid (show (w.alloc (.cells #[.slice a L cap] 24)).heap.size = w.heap.size + 1 by simp)
  go_enter Tryd.func26, Tryd.ntmps26
  go_upto_region 1 with (fail)
  generalize hY0 : w.alloc (.cells #[.slice a L cap] 24) = Y at *
  clear hY0
  have HB1 := hid (belowA Y (.cells #[.int .i64 19, .string tx, .int .i64 nu, .slice (some ⟨b1, o1, none⟩) 1 kc] 45))
  have HX1 := hid (heap_alloc_new Y (.cells #[.int .i64 19, .string tx, .int .i64 nu, .slice (some ⟨b1, o1, none⟩) 1 kc] 45))
  have HXV := hid (boxed_low HX0.out HB1.out)
  generalize hV0 : Y.alloc (.cells #[.int .i64 19, .string tx, .int .i64 nu, .slice (some ⟨b1, o1, none⟩) 1 kc] 45) = V at *
  clear hV0
  rw [HS0.out] at HX1
  have HBV := hid (show Below w.heap.size w V from bch HB0.out HB1.out)
  generalize hpb : w.heap.size + 1 = pb at *
  have HPB := hid hpb
  clear hpb HB1 HX0
  have ⟨x0, x1, x2, x3⟩ := cells4 HX1.out
  go_upto_region 2 with (go_at_call 36; refine (HQ2.out _).mono ?_; rintro e w1 ⟨rfl, l1⟩; have L1 := hid l1; clear l1; have yt := (boxed_low HXV.out L1.out).cell; have ⟨y0, y1, y2, y3⟩ := cells4 ((L1.out.block _ (lt_blk HX1.out)).trans HX1.out))
  clear x0 x1 x2 x3
  have HB3 := hid (show Below w.heap.size w w1 from bch HBV.out L1.out)
  have p0 := (HB3.out.cell (p := ⟨b1, o1, none⟩) HB1L.out).trans HKID.out
  have q1 := (HB3.out.cell (p := ⟨gt, x, none⟩) HGTL.out).trans HTXT.out
  have g3 : (x : Int) < (n : Int) := by omega
  have g4 : (0 : Int) ≤ (x : Int) := by omega
  go_wp2_with (fail)
  go_ret
  refine ⟨?_, HB3.out⟩
  show Ending.returned (.string (S [105, 110, 116, 40] ++ U ++ S [41])) = Ending.returned (.string (S ([105, 110, 116] ++ ([40] ++ (u ++ [41])))))
  rw [HUE.out]
  try rw [HQE.out]
  simp only [S_app]
  simp
set_option maxHeartbeats 4000000 in
set_option maxRecDepth 100000 in
theorem rl_1 (a : Option Addr) (L cap : Nat) (tx : ByteArray) (nu : Int) (ka : Option Addr) (m kc gt n : Nat) (w : World) (ht : tx.size ≤ 127) (r : ByteArray) (hLf : ∀ W, Calls Tryd.prog 39 #[.agg #[.int .i64 1, .string tx, .int .i64 nu, .slice ka m kc]] W fun e w' => e = .returned (.string r) ∧ Below W.heap.size W w') :
    Calls Tryd.prog 26 #[.agg #[.slice a L cap], .agg #[.int .i64 1, .string tx, .int .i64 nu, .slice ka m kc], .slice (some ⟨gt, 0, none⟩) n n] w fun e w' => e = .returned (.string r) ∧ Below w.heap.size w w' := by
  have HQ := hid (fun W => rquote_any tx W (by omega))
  have hql := quote_len (tx_len ht)
  generalize quoteL tx.data.toList = q at *
  obtain ⟨Q, hQ⟩ : ∃ Q, Q = S q := ⟨_, rfl⟩
  have HQE := hid hQ
  have hQz : Q.size ≤ 600 := by rw [hQ, S_size]; exact hql
  have HQ2 := hid (show ∀ W, Calls Tryd.prog 36 #[.string tx] W fun e w' => e = .returned (.string Q) ∧ Below W.heap.size W w' by rw [hQ]; exact HQ.out)
  clear hQ hql HQ
  have HLF := hid hLf
  clear hLf
  have HB0 := hid (belowA w (.cells #[.slice a L cap] 24))
  have HX0 := hid (Boxed.new w 24 (.slice a L cap))
  have HS0 := hid (show (w.alloc (.cells #[.slice a L cap] 24)).heap.size = w.heap.size + 1 by simp)
  go_enter Tryd.func26, Tryd.ntmps26
  go_upto_region 1 with (fail)
  generalize hY0 : w.alloc (.cells #[.slice a L cap] 24) = Y at *
  clear hY0
  have HB1 := hid (belowA Y (.cells #[.int .i64 1, .string tx, .int .i64 nu, .slice ka m kc] 45))
  have HX1 := hid (heap_alloc_new Y (.cells #[.int .i64 1, .string tx, .int .i64 nu, .slice ka m kc] 45))
  have HXV := hid (boxed_low HX0.out HB1.out)
  generalize hV0 : Y.alloc (.cells #[.int .i64 1, .string tx, .int .i64 nu, .slice ka m kc] 45) = V at *
  clear hV0
  rw [HS0.out] at HX1
  have HBV := hid (show Below w.heap.size w V from bch HB0.out HB1.out)
  generalize hpb : w.heap.size + 1 = pb at *
  have HPB := hid hpb
  clear hpb HB1 HX0
  have ⟨x0, x1, x2, x3⟩ := cells4 HX1.out
  go_upto_region 2 with (go_at_call 36; refine (HQ2.out _).mono ?_; rintro e w1 ⟨rfl, l1⟩; have L1 := hid l1; clear l1; have yt := (boxed_low HXV.out L1.out).cell; have ⟨y0, y1, y2, y3⟩ := cells4 ((L1.out.block _ (lt_blk HX1.out)).trans HX1.out))
  clear x0 x1 x2 x3
  have HB3 := hid (show Below w.heap.size w w1 from bch HBV.out L1.out)
  go_wp2_with (go_at_call 39; refine (HLF.out _).mono ?_; rintro e w2 ⟨rfl, l2⟩; have L2 := hid l2; clear l2)
  go_ret
  refine ⟨?_, bch (bch HBV.out L1.out) L2.out⟩
  show Ending.returned (.string (r)) = Ending.returned (.string r)
  rfl
set_option maxHeartbeats 4000000 in
set_option maxRecDepth 100000 in
theorem rl_2 (a : Option Addr) (L cap : Nat) (tx : ByteArray) (nu : Int) (ka : Option Addr) (m kc gt n : Nat) (w : World) (ht : tx.size ≤ 127) (r : ByteArray) (hLf : ∀ W, Calls Tryd.prog 39 #[.agg #[.int .i64 2, .string tx, .int .i64 nu, .slice ka m kc]] W fun e w' => e = .returned (.string r) ∧ Below W.heap.size W w') :
    Calls Tryd.prog 26 #[.agg #[.slice a L cap], .agg #[.int .i64 2, .string tx, .int .i64 nu, .slice ka m kc], .slice (some ⟨gt, 0, none⟩) n n] w fun e w' => e = .returned (.string r) ∧ Below w.heap.size w w' := by
  have HQ := hid (fun W => rquote_any tx W (by omega))
  have hql := quote_len (tx_len ht)
  generalize quoteL tx.data.toList = q at *
  obtain ⟨Q, hQ⟩ : ∃ Q, Q = S q := ⟨_, rfl⟩
  have HQE := hid hQ
  have hQz : Q.size ≤ 600 := by rw [hQ, S_size]; exact hql
  have HQ2 := hid (show ∀ W, Calls Tryd.prog 36 #[.string tx] W fun e w' => e = .returned (.string Q) ∧ Below W.heap.size W w' by rw [hQ]; exact HQ.out)
  clear hQ hql HQ
  have HLF := hid hLf
  clear hLf
  have HB0 := hid (belowA w (.cells #[.slice a L cap] 24))
  have HX0 := hid (Boxed.new w 24 (.slice a L cap))
  have HS0 := hid (show (w.alloc (.cells #[.slice a L cap] 24)).heap.size = w.heap.size + 1 by simp)
  go_enter Tryd.func26, Tryd.ntmps26
  go_upto_region 1 with (fail)
  generalize hY0 : w.alloc (.cells #[.slice a L cap] 24) = Y at *
  clear hY0
  have HB1 := hid (belowA Y (.cells #[.int .i64 2, .string tx, .int .i64 nu, .slice ka m kc] 45))
  have HX1 := hid (heap_alloc_new Y (.cells #[.int .i64 2, .string tx, .int .i64 nu, .slice ka m kc] 45))
  have HXV := hid (boxed_low HX0.out HB1.out)
  generalize hV0 : Y.alloc (.cells #[.int .i64 2, .string tx, .int .i64 nu, .slice ka m kc] 45) = V at *
  clear hV0
  rw [HS0.out] at HX1
  have HBV := hid (show Below w.heap.size w V from bch HB0.out HB1.out)
  generalize hpb : w.heap.size + 1 = pb at *
  have HPB := hid hpb
  clear hpb HB1 HX0
  have ⟨x0, x1, x2, x3⟩ := cells4 HX1.out
  go_upto_region 2 with (go_at_call 36; refine (HQ2.out _).mono ?_; rintro e w1 ⟨rfl, l1⟩; have L1 := hid l1; clear l1; have yt := (boxed_low HXV.out L1.out).cell; have ⟨y0, y1, y2, y3⟩ := cells4 ((L1.out.block _ (lt_blk HX1.out)).trans HX1.out))
  clear x0 x1 x2 x3
  have HB3 := hid (show Below w.heap.size w w1 from bch HBV.out L1.out)
  go_wp2_with (go_at_call 39; refine (HLF.out _).mono ?_; rintro e w2 ⟨rfl, l2⟩; have L2 := hid l2; clear l2)
  go_ret
  refine ⟨?_, bch (bch HBV.out L1.out) L2.out⟩
  show Ending.returned (.string (r)) = Ending.returned (.string r)
  rfl
set_option maxHeartbeats 4000000 in
set_option maxRecDepth 100000 in
theorem rl_10 (a : Option Addr) (L cap : Nat) (tx : ByteArray) (nu : Int) (ka : Option Addr) (m kc gt n : Nat) (w : World) (ht : tx.size ≤ 127) (r : ByteArray) (hLf : ∀ W, Calls Tryd.prog 39 #[.agg #[.int .i64 10, .string tx, .int .i64 nu, .slice ka m kc]] W fun e w' => e = .returned (.string r) ∧ Below W.heap.size W w') :
    Calls Tryd.prog 26 #[.agg #[.slice a L cap], .agg #[.int .i64 10, .string tx, .int .i64 nu, .slice ka m kc], .slice (some ⟨gt, 0, none⟩) n n] w fun e w' => e = .returned (.string r) ∧ Below w.heap.size w w' := by
  have HQ := hid (fun W => rquote_any tx W (by omega))
  have hql := quote_len (tx_len ht)
  generalize quoteL tx.data.toList = q at *
  obtain ⟨Q, hQ⟩ : ∃ Q, Q = S q := ⟨_, rfl⟩
  have HQE := hid hQ
  have hQz : Q.size ≤ 600 := by rw [hQ, S_size]; exact hql
  have HQ2 := hid (show ∀ W, Calls Tryd.prog 36 #[.string tx] W fun e w' => e = .returned (.string Q) ∧ Below W.heap.size W w' by rw [hQ]; exact HQ.out)
  clear hQ hql HQ
  have HLF := hid hLf
  clear hLf
  have HB0 := hid (belowA w (.cells #[.slice a L cap] 24))
  have HX0 := hid (Boxed.new w 24 (.slice a L cap))
  have HS0 := hid (show (w.alloc (.cells #[.slice a L cap] 24)).heap.size = w.heap.size + 1 by simp)
  go_enter Tryd.func26, Tryd.ntmps26
  go_upto_region 1 with (fail)
  generalize hY0 : w.alloc (.cells #[.slice a L cap] 24) = Y at *
  clear hY0
  have HB1 := hid (belowA Y (.cells #[.int .i64 10, .string tx, .int .i64 nu, .slice ka m kc] 45))
  have HX1 := hid (heap_alloc_new Y (.cells #[.int .i64 10, .string tx, .int .i64 nu, .slice ka m kc] 45))
  have HXV := hid (boxed_low HX0.out HB1.out)
  generalize hV0 : Y.alloc (.cells #[.int .i64 10, .string tx, .int .i64 nu, .slice ka m kc] 45) = V at *
  clear hV0
  rw [HS0.out] at HX1
  have HBV := hid (show Below w.heap.size w V from bch HB0.out HB1.out)
  generalize hpb : w.heap.size + 1 = pb at *
  have HPB := hid hpb
  clear hpb HB1 HX0
  have ⟨x0, x1, x2, x3⟩ := cells4 HX1.out
  go_upto_region 2 with (go_at_call 36; refine (HQ2.out _).mono ?_; rintro e w1 ⟨rfl, l1⟩; have L1 := hid l1; clear l1; have yt := (boxed_low HXV.out L1.out).cell; have ⟨y0, y1, y2, y3⟩ := cells4 ((L1.out.block _ (lt_blk HX1.out)).trans HX1.out))
  clear x0 x1 x2 x3
  have HB3 := hid (show Below w.heap.size w w1 from bch HBV.out L1.out)
  go_wp2_with (go_at_call 39; refine (HLF.out _).mono ?_; rintro e w2 ⟨rfl, l2⟩; have L2 := hid l2; clear l2)
  go_ret
  refine ⟨?_, bch (bch HBV.out L1.out) L2.out⟩
  show Ending.returned (.string (r)) = Ending.returned (.string r)
  rfl
set_option maxHeartbeats 4000000 in
set_option maxRecDepth 100000 in
theorem rl_11 (a : Option Addr) (L cap : Nat) (tx : ByteArray) (nu : Int) (ka : Option Addr) (m kc gt n : Nat) (w : World) (ht : tx.size ≤ 127) (r : ByteArray) (hLf : ∀ W, Calls Tryd.prog 39 #[.agg #[.int .i64 11, .string tx, .int .i64 nu, .slice ka m kc]] W fun e w' => e = .returned (.string r) ∧ Below W.heap.size W w') :
    Calls Tryd.prog 26 #[.agg #[.slice a L cap], .agg #[.int .i64 11, .string tx, .int .i64 nu, .slice ka m kc], .slice (some ⟨gt, 0, none⟩) n n] w fun e w' => e = .returned (.string r) ∧ Below w.heap.size w w' := by
  have HQ := hid (fun W => rquote_any tx W (by omega))
  have hql := quote_len (tx_len ht)
  generalize quoteL tx.data.toList = q at *
  obtain ⟨Q, hQ⟩ : ∃ Q, Q = S q := ⟨_, rfl⟩
  have HQE := hid hQ
  have hQz : Q.size ≤ 600 := by rw [hQ, S_size]; exact hql
  have HQ2 := hid (show ∀ W, Calls Tryd.prog 36 #[.string tx] W fun e w' => e = .returned (.string Q) ∧ Below W.heap.size W w' by rw [hQ]; exact HQ.out)
  clear hQ hql HQ
  have HLF := hid hLf
  clear hLf
  have HB0 := hid (belowA w (.cells #[.slice a L cap] 24))
  have HX0 := hid (Boxed.new w 24 (.slice a L cap))
  have HS0 := hid (show (w.alloc (.cells #[.slice a L cap] 24)).heap.size = w.heap.size + 1 by simp)
  go_enter Tryd.func26, Tryd.ntmps26
  go_upto_region 1 with (fail)
  generalize hY0 : w.alloc (.cells #[.slice a L cap] 24) = Y at *
  clear hY0
  have HB1 := hid (belowA Y (.cells #[.int .i64 11, .string tx, .int .i64 nu, .slice ka m kc] 45))
  have HX1 := hid (heap_alloc_new Y (.cells #[.int .i64 11, .string tx, .int .i64 nu, .slice ka m kc] 45))
  have HXV := hid (boxed_low HX0.out HB1.out)
  generalize hV0 : Y.alloc (.cells #[.int .i64 11, .string tx, .int .i64 nu, .slice ka m kc] 45) = V at *
  clear hV0
  rw [HS0.out] at HX1
  have HBV := hid (show Below w.heap.size w V from bch HB0.out HB1.out)
  generalize hpb : w.heap.size + 1 = pb at *
  have HPB := hid hpb
  clear hpb HB1 HX0
  have ⟨x0, x1, x2, x3⟩ := cells4 HX1.out
  go_upto_region 2 with (go_at_call 36; refine (HQ2.out _).mono ?_; rintro e w1 ⟨rfl, l1⟩; have L1 := hid l1; clear l1; have yt := (boxed_low HXV.out L1.out).cell; have ⟨y0, y1, y2, y3⟩ := cells4 ((L1.out.block _ (lt_blk HX1.out)).trans HX1.out))
  clear x0 x1 x2 x3
  have HB3 := hid (show Below w.heap.size w w1 from bch HBV.out L1.out)
  go_wp2_with (go_at_call 39; refine (HLF.out _).mono ?_; rintro e w2 ⟨rfl, l2⟩; have L2 := hid l2; clear l2)
  go_ret
  refine ⟨?_, bch (bch HBV.out L1.out) L2.out⟩
  show Ending.returned (.string (r)) = Ending.returned (.string r)
  rfl
set_option maxHeartbeats 4000000 in
set_option maxRecDepth 100000 in
theorem rl_12 (a : Option Addr) (L cap : Nat) (tx : ByteArray) (nu : Int) (ka : Option Addr) (m kc gt n : Nat) (w : World) (ht : tx.size ≤ 127) (r : ByteArray) (hLf : ∀ W, Calls Tryd.prog 39 #[.agg #[.int .i64 12, .string tx, .int .i64 nu, .slice ka m kc]] W fun e w' => e = .returned (.string r) ∧ Below W.heap.size W w') :
    Calls Tryd.prog 26 #[.agg #[.slice a L cap], .agg #[.int .i64 12, .string tx, .int .i64 nu, .slice ka m kc], .slice (some ⟨gt, 0, none⟩) n n] w fun e w' => e = .returned (.string r) ∧ Below w.heap.size w w' := by
  have HQ := hid (fun W => rquote_any tx W (by omega))
  have hql := quote_len (tx_len ht)
  generalize quoteL tx.data.toList = q at *
  obtain ⟨Q, hQ⟩ : ∃ Q, Q = S q := ⟨_, rfl⟩
  have HQE := hid hQ
  have hQz : Q.size ≤ 600 := by rw [hQ, S_size]; exact hql
  have HQ2 := hid (show ∀ W, Calls Tryd.prog 36 #[.string tx] W fun e w' => e = .returned (.string Q) ∧ Below W.heap.size W w' by rw [hQ]; exact HQ.out)
  clear hQ hql HQ
  have HLF := hid hLf
  clear hLf
  have HB0 := hid (belowA w (.cells #[.slice a L cap] 24))
  have HX0 := hid (Boxed.new w 24 (.slice a L cap))
  have HS0 := hid (show (w.alloc (.cells #[.slice a L cap] 24)).heap.size = w.heap.size + 1 by simp)
  go_enter Tryd.func26, Tryd.ntmps26
  go_upto_region 1 with (fail)
  generalize hY0 : w.alloc (.cells #[.slice a L cap] 24) = Y at *
  clear hY0
  have HB1 := hid (belowA Y (.cells #[.int .i64 12, .string tx, .int .i64 nu, .slice ka m kc] 45))
  have HX1 := hid (heap_alloc_new Y (.cells #[.int .i64 12, .string tx, .int .i64 nu, .slice ka m kc] 45))
  have HXV := hid (boxed_low HX0.out HB1.out)
  generalize hV0 : Y.alloc (.cells #[.int .i64 12, .string tx, .int .i64 nu, .slice ka m kc] 45) = V at *
  clear hV0
  rw [HS0.out] at HX1
  have HBV := hid (show Below w.heap.size w V from bch HB0.out HB1.out)
  generalize hpb : w.heap.size + 1 = pb at *
  have HPB := hid hpb
  clear hpb HB1 HX0
  have ⟨x0, x1, x2, x3⟩ := cells4 HX1.out
  go_upto_region 2 with (go_at_call 36; refine (HQ2.out _).mono ?_; rintro e w1 ⟨rfl, l1⟩; have L1 := hid l1; clear l1; have yt := (boxed_low HXV.out L1.out).cell; have ⟨y0, y1, y2, y3⟩ := cells4 ((L1.out.block _ (lt_blk HX1.out)).trans HX1.out))
  clear x0 x1 x2 x3
  have HB3 := hid (show Below w.heap.size w w1 from bch HBV.out L1.out)
  go_wp2_with (go_at_call 39; refine (HLF.out _).mono ?_; rintro e w2 ⟨rfl, l2⟩; have L2 := hid l2; clear l2)
  go_ret
  refine ⟨?_, bch (bch HBV.out L1.out) L2.out⟩
  show Ending.returned (.string (r)) = Ending.returned (.string r)
  rfl
set_option maxHeartbeats 4000000 in
set_option maxRecDepth 100000 in
theorem rl_14 (a : Option Addr) (L cap : Nat) (tx : ByteArray) (nu : Int) (ka : Option Addr) (m kc gt n : Nat) (w : World) (ht : tx.size ≤ 127) (r : ByteArray) (hLf : ∀ W, Calls Tryd.prog 39 #[.agg #[.int .i64 14, .string tx, .int .i64 nu, .slice ka m kc]] W fun e w' => e = .returned (.string r) ∧ Below W.heap.size W w') :
    Calls Tryd.prog 26 #[.agg #[.slice a L cap], .agg #[.int .i64 14, .string tx, .int .i64 nu, .slice ka m kc], .slice (some ⟨gt, 0, none⟩) n n] w fun e w' => e = .returned (.string r) ∧ Below w.heap.size w w' := by
  have HQ := hid (fun W => rquote_any tx W (by omega))
  have hql := quote_len (tx_len ht)
  generalize quoteL tx.data.toList = q at *
  obtain ⟨Q, hQ⟩ : ∃ Q, Q = S q := ⟨_, rfl⟩
  have HQE := hid hQ
  have hQz : Q.size ≤ 600 := by rw [hQ, S_size]; exact hql
  have HQ2 := hid (show ∀ W, Calls Tryd.prog 36 #[.string tx] W fun e w' => e = .returned (.string Q) ∧ Below W.heap.size W w' by rw [hQ]; exact HQ.out)
  clear hQ hql HQ
  have HLF := hid hLf
  clear hLf
  have HB0 := hid (belowA w (.cells #[.slice a L cap] 24))
  have HX0 := hid (Boxed.new w 24 (.slice a L cap))
  have HS0 := hid (show (w.alloc (.cells #[.slice a L cap] 24)).heap.size = w.heap.size + 1 by simp)
  go_enter Tryd.func26, Tryd.ntmps26
  go_upto_region 1 with (fail)
  generalize hY0 : w.alloc (.cells #[.slice a L cap] 24) = Y at *
  clear hY0
  have HB1 := hid (belowA Y (.cells #[.int .i64 14, .string tx, .int .i64 nu, .slice ka m kc] 45))
  have HX1 := hid (heap_alloc_new Y (.cells #[.int .i64 14, .string tx, .int .i64 nu, .slice ka m kc] 45))
  have HXV := hid (boxed_low HX0.out HB1.out)
  generalize hV0 : Y.alloc (.cells #[.int .i64 14, .string tx, .int .i64 nu, .slice ka m kc] 45) = V at *
  clear hV0
  rw [HS0.out] at HX1
  have HBV := hid (show Below w.heap.size w V from bch HB0.out HB1.out)
  generalize hpb : w.heap.size + 1 = pb at *
  have HPB := hid hpb
  clear hpb HB1 HX0
  have ⟨x0, x1, x2, x3⟩ := cells4 HX1.out
  go_upto_region 2 with (go_at_call 36; refine (HQ2.out _).mono ?_; rintro e w1 ⟨rfl, l1⟩; have L1 := hid l1; clear l1; have yt := (boxed_low HXV.out L1.out).cell; have ⟨y0, y1, y2, y3⟩ := cells4 ((L1.out.block _ (lt_blk HX1.out)).trans HX1.out))
  clear x0 x1 x2 x3
  have HB3 := hid (show Below w.heap.size w w1 from bch HBV.out L1.out)
  go_wp2_with (go_at_call 39; refine (HLF.out _).mono ?_; rintro e w2 ⟨rfl, l2⟩; have L2 := hid l2; clear l2)
  go_ret
  refine ⟨?_, bch (bch HBV.out L1.out) L2.out⟩
  show Ending.returned (.string (r)) = Ending.returned (.string r)
  rfl
set_option maxHeartbeats 4000000 in
set_option maxRecDepth 100000 in
theorem rl_15 (a : Option Addr) (L cap : Nat) (tx : ByteArray) (nu : Int) (ka : Option Addr) (m kc gt n : Nat) (w : World) (ht : tx.size ≤ 127) (r : ByteArray) (hLf : ∀ W, Calls Tryd.prog 39 #[.agg #[.int .i64 15, .string tx, .int .i64 nu, .slice ka m kc]] W fun e w' => e = .returned (.string r) ∧ Below W.heap.size W w') :
    Calls Tryd.prog 26 #[.agg #[.slice a L cap], .agg #[.int .i64 15, .string tx, .int .i64 nu, .slice ka m kc], .slice (some ⟨gt, 0, none⟩) n n] w fun e w' => e = .returned (.string r) ∧ Below w.heap.size w w' := by
  have HQ := hid (fun W => rquote_any tx W (by omega))
  have hql := quote_len (tx_len ht)
  generalize quoteL tx.data.toList = q at *
  obtain ⟨Q, hQ⟩ : ∃ Q, Q = S q := ⟨_, rfl⟩
  have HQE := hid hQ
  have hQz : Q.size ≤ 600 := by rw [hQ, S_size]; exact hql
  have HQ2 := hid (show ∀ W, Calls Tryd.prog 36 #[.string tx] W fun e w' => e = .returned (.string Q) ∧ Below W.heap.size W w' by rw [hQ]; exact HQ.out)
  clear hQ hql HQ
  have HLF := hid hLf
  clear hLf
  have HB0 := hid (belowA w (.cells #[.slice a L cap] 24))
  have HX0 := hid (Boxed.new w 24 (.slice a L cap))
  have HS0 := hid (show (w.alloc (.cells #[.slice a L cap] 24)).heap.size = w.heap.size + 1 by simp)
  go_enter Tryd.func26, Tryd.ntmps26
  go_upto_region 1 with (fail)
  generalize hY0 : w.alloc (.cells #[.slice a L cap] 24) = Y at *
  clear hY0
  have HB1 := hid (belowA Y (.cells #[.int .i64 15, .string tx, .int .i64 nu, .slice ka m kc] 45))
  have HX1 := hid (heap_alloc_new Y (.cells #[.int .i64 15, .string tx, .int .i64 nu, .slice ka m kc] 45))
  have HXV := hid (boxed_low HX0.out HB1.out)
  generalize hV0 : Y.alloc (.cells #[.int .i64 15, .string tx, .int .i64 nu, .slice ka m kc] 45) = V at *
  clear hV0
  rw [HS0.out] at HX1
  have HBV := hid (show Below w.heap.size w V from bch HB0.out HB1.out)
  generalize hpb : w.heap.size + 1 = pb at *
  have HPB := hid hpb
  clear hpb HB1 HX0
  have ⟨x0, x1, x2, x3⟩ := cells4 HX1.out
  go_upto_region 2 with (go_at_call 36; refine (HQ2.out _).mono ?_; rintro e w1 ⟨rfl, l1⟩; have L1 := hid l1; clear l1; have yt := (boxed_low HXV.out L1.out).cell; have ⟨y0, y1, y2, y3⟩ := cells4 ((L1.out.block _ (lt_blk HX1.out)).trans HX1.out))
  clear x0 x1 x2 x3
  have HB3 := hid (show Below w.heap.size w w1 from bch HBV.out L1.out)
  go_wp2_with (go_at_call 39; refine (HLF.out _).mono ?_; rintro e w2 ⟨rfl, l2⟩; have L2 := hid l2; clear l2)
  go_ret
  refine ⟨?_, bch (bch HBV.out L1.out) L2.out⟩
  show Ending.returned (.string (r)) = Ending.returned (.string r)
  rfl
set_option maxHeartbeats 4000000 in
set_option maxRecDepth 100000 in
theorem rl_16 (a : Option Addr) (L cap : Nat) (tx : ByteArray) (nu : Int) (ka : Option Addr) (m kc gt n : Nat) (w : World) (ht : tx.size ≤ 127) (r : ByteArray) (hLf : ∀ W, Calls Tryd.prog 39 #[.agg #[.int .i64 16, .string tx, .int .i64 nu, .slice ka m kc]] W fun e w' => e = .returned (.string r) ∧ Below W.heap.size W w') :
    Calls Tryd.prog 26 #[.agg #[.slice a L cap], .agg #[.int .i64 16, .string tx, .int .i64 nu, .slice ka m kc], .slice (some ⟨gt, 0, none⟩) n n] w fun e w' => e = .returned (.string r) ∧ Below w.heap.size w w' := by
  have HQ := hid (fun W => rquote_any tx W (by omega))
  have hql := quote_len (tx_len ht)
  generalize quoteL tx.data.toList = q at *
  obtain ⟨Q, hQ⟩ : ∃ Q, Q = S q := ⟨_, rfl⟩
  have HQE := hid hQ
  have hQz : Q.size ≤ 600 := by rw [hQ, S_size]; exact hql
  have HQ2 := hid (show ∀ W, Calls Tryd.prog 36 #[.string tx] W fun e w' => e = .returned (.string Q) ∧ Below W.heap.size W w' by rw [hQ]; exact HQ.out)
  clear hQ hql HQ
  have HLF := hid hLf
  clear hLf
  have HB0 := hid (belowA w (.cells #[.slice a L cap] 24))
  have HX0 := hid (Boxed.new w 24 (.slice a L cap))
  have HS0 := hid (show (w.alloc (.cells #[.slice a L cap] 24)).heap.size = w.heap.size + 1 by simp)
  go_enter Tryd.func26, Tryd.ntmps26
  go_upto_region 1 with (fail)
  generalize hY0 : w.alloc (.cells #[.slice a L cap] 24) = Y at *
  clear hY0
  have HB1 := hid (belowA Y (.cells #[.int .i64 16, .string tx, .int .i64 nu, .slice ka m kc] 45))
  have HX1 := hid (heap_alloc_new Y (.cells #[.int .i64 16, .string tx, .int .i64 nu, .slice ka m kc] 45))
  have HXV := hid (boxed_low HX0.out HB1.out)
  generalize hV0 : Y.alloc (.cells #[.int .i64 16, .string tx, .int .i64 nu, .slice ka m kc] 45) = V at *
  clear hV0
  rw [HS0.out] at HX1
  have HBV := hid (show Below w.heap.size w V from bch HB0.out HB1.out)
  generalize hpb : w.heap.size + 1 = pb at *
  have HPB := hid hpb
  clear hpb HB1 HX0
  have ⟨x0, x1, x2, x3⟩ := cells4 HX1.out
  go_upto_region 2 with (go_at_call 36; refine (HQ2.out _).mono ?_; rintro e w1 ⟨rfl, l1⟩; have L1 := hid l1; clear l1; have yt := (boxed_low HXV.out L1.out).cell; have ⟨y0, y1, y2, y3⟩ := cells4 ((L1.out.block _ (lt_blk HX1.out)).trans HX1.out))
  clear x0 x1 x2 x3
  have HB3 := hid (show Below w.heap.size w w1 from bch HBV.out L1.out)
  go_wp2_with (go_at_call 39; refine (HLF.out _).mono ?_; rintro e w2 ⟨rfl, l2⟩; have L2 := hid l2; clear l2)
  go_ret
  refine ⟨?_, bch (bch HBV.out L1.out) L2.out⟩
  show Ending.returned (.string (r)) = Ending.returned (.string r)
  rfl
set_option maxHeartbeats 4000000 in
set_option maxRecDepth 100000 in
theorem rl_17 (a : Option Addr) (L cap : Nat) (tx : ByteArray) (nu : Int) (ka : Option Addr) (m kc gt n : Nat) (w : World) (ht : tx.size ≤ 127) (r : ByteArray) (hLf : ∀ W, Calls Tryd.prog 39 #[.agg #[.int .i64 17, .string tx, .int .i64 nu, .slice ka m kc]] W fun e w' => e = .returned (.string r) ∧ Below W.heap.size W w') :
    Calls Tryd.prog 26 #[.agg #[.slice a L cap], .agg #[.int .i64 17, .string tx, .int .i64 nu, .slice ka m kc], .slice (some ⟨gt, 0, none⟩) n n] w fun e w' => e = .returned (.string r) ∧ Below w.heap.size w w' := by
  have HQ := hid (fun W => rquote_any tx W (by omega))
  have hql := quote_len (tx_len ht)
  generalize quoteL tx.data.toList = q at *
  obtain ⟨Q, hQ⟩ : ∃ Q, Q = S q := ⟨_, rfl⟩
  have HQE := hid hQ
  have hQz : Q.size ≤ 600 := by rw [hQ, S_size]; exact hql
  have HQ2 := hid (show ∀ W, Calls Tryd.prog 36 #[.string tx] W fun e w' => e = .returned (.string Q) ∧ Below W.heap.size W w' by rw [hQ]; exact HQ.out)
  clear hQ hql HQ
  have HLF := hid hLf
  clear hLf
  have HB0 := hid (belowA w (.cells #[.slice a L cap] 24))
  have HX0 := hid (Boxed.new w 24 (.slice a L cap))
  have HS0 := hid (show (w.alloc (.cells #[.slice a L cap] 24)).heap.size = w.heap.size + 1 by simp)
  go_enter Tryd.func26, Tryd.ntmps26
  go_upto_region 1 with (fail)
  generalize hY0 : w.alloc (.cells #[.slice a L cap] 24) = Y at *
  clear hY0
  have HB1 := hid (belowA Y (.cells #[.int .i64 17, .string tx, .int .i64 nu, .slice ka m kc] 45))
  have HX1 := hid (heap_alloc_new Y (.cells #[.int .i64 17, .string tx, .int .i64 nu, .slice ka m kc] 45))
  have HXV := hid (boxed_low HX0.out HB1.out)
  generalize hV0 : Y.alloc (.cells #[.int .i64 17, .string tx, .int .i64 nu, .slice ka m kc] 45) = V at *
  clear hV0
  rw [HS0.out] at HX1
  have HBV := hid (show Below w.heap.size w V from bch HB0.out HB1.out)
  generalize hpb : w.heap.size + 1 = pb at *
  have HPB := hid hpb
  clear hpb HB1 HX0
  have ⟨x0, x1, x2, x3⟩ := cells4 HX1.out
  go_upto_region 2 with (go_at_call 36; refine (HQ2.out _).mono ?_; rintro e w1 ⟨rfl, l1⟩; have L1 := hid l1; clear l1; have yt := (boxed_low HXV.out L1.out).cell; have ⟨y0, y1, y2, y3⟩ := cells4 ((L1.out.block _ (lt_blk HX1.out)).trans HX1.out))
  clear x0 x1 x2 x3
  have HB3 := hid (show Below w.heap.size w w1 from bch HBV.out L1.out)
  go_wp2_with (go_at_call 39; refine (HLF.out _).mono ?_; rintro e w2 ⟨rfl, l2⟩; have L2 := hid l2; clear l2)
  go_ret
  refine ⟨?_, bch (bch HBV.out L1.out) L2.out⟩
  show Ending.returned (.string (r)) = Ending.returned (.string r)
  rfl
set_option maxHeartbeats 4000000 in
set_option maxRecDepth 100000 in
theorem rl_18 (a : Option Addr) (L cap : Nat) (tx : ByteArray) (nu : Int) (ka : Option Addr) (m kc gt n : Nat) (w : World) (ht : tx.size ≤ 127) (r : ByteArray) (hLf : ∀ W, Calls Tryd.prog 39 #[.agg #[.int .i64 18, .string tx, .int .i64 nu, .slice ka m kc]] W fun e w' => e = .returned (.string r) ∧ Below W.heap.size W w') :
    Calls Tryd.prog 26 #[.agg #[.slice a L cap], .agg #[.int .i64 18, .string tx, .int .i64 nu, .slice ka m kc], .slice (some ⟨gt, 0, none⟩) n n] w fun e w' => e = .returned (.string r) ∧ Below w.heap.size w w' := by
  have HQ := hid (fun W => rquote_any tx W (by omega))
  have hql := quote_len (tx_len ht)
  generalize quoteL tx.data.toList = q at *
  obtain ⟨Q, hQ⟩ : ∃ Q, Q = S q := ⟨_, rfl⟩
  have HQE := hid hQ
  have hQz : Q.size ≤ 600 := by rw [hQ, S_size]; exact hql
  have HQ2 := hid (show ∀ W, Calls Tryd.prog 36 #[.string tx] W fun e w' => e = .returned (.string Q) ∧ Below W.heap.size W w' by rw [hQ]; exact HQ.out)
  clear hQ hql HQ
  have HLF := hid hLf
  clear hLf
  have HB0 := hid (belowA w (.cells #[.slice a L cap] 24))
  have HX0 := hid (Boxed.new w 24 (.slice a L cap))
  have HS0 := hid (show (w.alloc (.cells #[.slice a L cap] 24)).heap.size = w.heap.size + 1 by simp)
  go_enter Tryd.func26, Tryd.ntmps26
  go_upto_region 1 with (fail)
  generalize hY0 : w.alloc (.cells #[.slice a L cap] 24) = Y at *
  clear hY0
  have HB1 := hid (belowA Y (.cells #[.int .i64 18, .string tx, .int .i64 nu, .slice ka m kc] 45))
  have HX1 := hid (heap_alloc_new Y (.cells #[.int .i64 18, .string tx, .int .i64 nu, .slice ka m kc] 45))
  have HXV := hid (boxed_low HX0.out HB1.out)
  generalize hV0 : Y.alloc (.cells #[.int .i64 18, .string tx, .int .i64 nu, .slice ka m kc] 45) = V at *
  clear hV0
  rw [HS0.out] at HX1
  have HBV := hid (show Below w.heap.size w V from bch HB0.out HB1.out)
  generalize hpb : w.heap.size + 1 = pb at *
  have HPB := hid hpb
  clear hpb HB1 HX0
  have ⟨x0, x1, x2, x3⟩ := cells4 HX1.out
  go_upto_region 2 with (go_at_call 36; refine (HQ2.out _).mono ?_; rintro e w1 ⟨rfl, l1⟩; have L1 := hid l1; clear l1; have yt := (boxed_low HXV.out L1.out).cell; have ⟨y0, y1, y2, y3⟩ := cells4 ((L1.out.block _ (lt_blk HX1.out)).trans HX1.out))
  clear x0 x1 x2 x3
  have HB3 := hid (show Below w.heap.size w w1 from bch HBV.out L1.out)
  go_wp2_with (go_at_call 39; refine (HLF.out _).mono ?_; rintro e w2 ⟨rfl, l2⟩; have L2 := hid l2; clear l2)
  go_ret
  refine ⟨?_, bch (bch HBV.out L1.out) L2.out⟩
  show Ending.returned (.string (r)) = Ending.returned (.string r)
  rfl
end Go.Proofs.YtdnoagebcolgbaaDoor.L
