import Derived.Test.YtnldagpbmphdhaaGreatDoorMgE
import Derived.Test.YtnldagpbmphdhaaGreatDoorMgD
import Derived.Test.YtnldagpbmphdhaaGreatDoorLayB
namespace Go.Proofs.YtnldagpbmphdhaaGreatDoor.L
open Go.RowKit Go.Shelf
set_option linter.unusedVariables false
theorem bx166 : Builder.Extra Tryz.prog lays166_ren := { sizeBuilder := by kernel_rfl, liesBuilder := by kernel_rfl, t5 := Tryz.underlying5, a5 := Tryz.isAgg5, z5 := Tryz.sizeOf5, v5 := Tryz.zeroValue5, infoByte := by kernel_rfl, cellsByte := by kernel_rfl, sizeByte := by kernel_rfl, neB5 := by decide }
theorem bx167 : Builder.Extra Tryz.prog lays167_ren := { sizeBuilder := by kernel_rfl, liesBuilder := by kernel_rfl, t5 := Tryz.underlying5, a5 := Tryz.isAgg5, z5 := Tryz.sizeOf5, v5 := Tryz.zeroValue5, infoByte := by kernel_rfl, cellsByte := by kernel_rfl, sizeByte := by kernel_rfl, neB5 := by decide }
theorem bx169 : Builder.Extra Tryz.prog lays169_ren := { sizeBuilder := by kernel_rfl, liesBuilder := by kernel_rfl, t5 := Tryz.underlying5, a5 := Tryz.isAgg5, z5 := Tryz.sizeOf5, v5 := Tryz.zeroValue5, infoByte := by kernel_rfl, cellsByte := by kernel_rfl, sizeByte := by kernel_rfl, neB5 := by decide }
/-- A builder that holds these bytes. -/
def Bld (B b : Nat) (l : List UInt8) (w : World) : Prop := Lib.IsBuilderF 105 5 B b (Lib.byteCells l) w
theorem byteCells_app (a b : List UInt8) : Lib.byteCells (a ++ b) = Lib.byteCells a ++ Lib.byteCells b := by
  unfold Lib.byteCells
  simp
theorem byteCells_len (a : List UInt8) : (Lib.byteCells a).length = a.length := by
  unfold Lib.byteCells
  simp
theorem strCells_eq (s : ByteArray) : Lib.strCells s = Lib.byteCells s.data.toList := by
  rfl
theorem wbyte_any (B b : Nat) (l : List UInt8) (c : UInt8) (w : World) (h : Bld B b l w) (hl : l.length ≤ 1000000) (hB : B ≤ w.heap.size) :
    Calls Tryz.prog 85 #[.pointer (some ⟨b, 0, none⟩), .int .u8 (c.toNat : Int)] w fun e w' => e = .returned .nilIface ∧ Bld B b (l ++ [c]) w' ∧ Below B w w' ∧ Lib.OthersKept 5 (some b) w w' := by
  refine (show Calls Tryz.prog 85 _ _ _ from Any.Builder_WriteByte_k lays167 bx167 B b (Lib.byteCells l) (c.toNat : Int) w h (by rw [byteCells_len]; omega) hB).mono ?_
  rintro e w' ⟨rfl, hb, h1, h2⟩
  refine ⟨rfl, ?_, h1, h2⟩
  unfold Bld
  rw [byteCells_app]
  exact Or.inr hb
theorem wstr_any (B b : Nat) (l : List UInt8) (s : ByteArray) (w : World) (h : Bld B b l w) (hl : l.length ≤ 1000000) (hs : s.size ≤ 1000000) (hB : B ≤ w.heap.size) :
    Calls Tryz.prog 86 #[.pointer (some ⟨b, 0, none⟩), .string s] w fun e w' => e = .returned (.tuple #[.int .i64 s.size, .nilIface]) ∧ Bld B b (l ++ s.data.toList) w' ∧ Below B w w' ∧ Lib.OthersKept 5 (some b) w w' := by
  refine (show Calls Tryz.prog 86 _ _ _ from Any.Builder_WriteString_k lays166 bx166 B b (Lib.byteCells l) s w h (by rw [byteCells_len]; omega) hB).mono ?_
  rintro e w' ⟨rfl, hb, h1, h2⟩
  refine ⟨rfl, ?_, h1, h2⟩
  unfold Bld
  rw [byteCells_app, ← strCells_eq]
  exact Or.inr hb
theorem bstr_any (B b : Nat) (l : List UInt8) (w : World) (h : Bld B b l w) (hB : B ≤ w.heap.size) :
    Calls Tryz.prog 87 #[.pointer (some ⟨b, 0, none⟩)] w fun e w' => e = .returned (.string ⟨l.toArray⟩) ∧ Below B w w' := by
  refine (show Calls Tryz.prog 87 _ _ _ from Any.Builder_String_any_k lays169 bx169 B b l w h hB).mono ?_
  rintro e w' ⟨rfl, _, h1, _⟩
  exact ⟨rfl, h1⟩
/-- The text of a list. -/
def item (x : Lb) : List UInt8 := x.1.data.toList ++ 61 :: x.2.data.toList
def txt (l : List Lb) : List UInt8 := joinL 44 (l.map item)
theorem join_snoc (c : UInt8) (r : List (List UInt8)) (x : List UInt8) (h : r ≠ []) : joinL c (r ++ [x]) = joinL c r ++ c :: x := by
  induction r with
  | nil => exact absurd rfl h
  | cons y r ih =>
    cases r with
    | nil => rfl
    | cons z r =>
      rw [List.cons_append, join_cons c y ((z :: r) ++ [x]) (by simp), ih (by simp), join_cons c y (z :: r) (by simp)]
      simp
theorem txt_snoc (l : List Lb) (x : Lb) : txt (l ++ [x]) = (if l = [] then [] else txt l ++ [44]) ++ x.1.data.toList ++ [61] ++ x.2.data.toList := by
  unfold txt
  rw [List.map_append]
  by_cases h : l = []
  · subst h
    rw [if_pos rfl]
    simp [joinL, item]
  · rw [if_neg h, List.map_singleton, join_snoc 44 _ _ (by simpa using h)]
    simp [item]
theorem key_size {s : ByteArray} (h : keyB s = true) : s.size ≤ 127 := by
  unfold keyB at h
  rcases idx_cases s 47 with e | ⟨i, e, hi⟩
  · rw [if_pos e] at h
    unfold shortB at h
    simp at h
    omega
  · rw [e, if_neg (by omega)] at h
    unfold nameB shortB at h
    simp [ByteArray.size_extract] at h
    omega
theorem val_size {s : ByteArray} (h : valB s = true) : s.size ≤ 63 := by
  unfold valB at h
  simp at h
  rcases h with h | h
  · rw [h]; decide
  · exact h.1.1.1
theorem txt_len (l : List Lb) (h : ∀ x ∈ l, x.1.size ≤ 127 ∧ x.2.size ≤ 63) : (txt l).length ≤ l.length * 192 := by
  have key : ∀ r : List Lb, (∀ x ∈ r, x.1.size ≤ 127 ∧ x.2.size ≤ 63) → (joinL 44 (r.map item)).length ≤ r.length * 192 := by
    intro r
    induction r with
    | nil => intro _; exact Nat.le_refl _
    | cons x r ih =>
      intro hx
      have := ih fun y hy => hx y (by simp [hy])
      have e1 : x.1.data.toList.length = x.1.size := by simp
      have e2 : x.2.data.toList.length = x.2.size := by simp
      have hb := hx x (by simp)
      have hi : (item x).length ≤ 191 := by
        unfold item
        rw [List.length_append, List.length_cons]
        omega
      cases r with
      | nil =>
        show (item x).length ≤ _
        simp
        omega
      | cons y r =>
        rw [List.map_cons, join_cons 44 _ _ (by simp), List.length_append, List.length_cons]
        simp at this ⊢
        omega
  exact key l h
theorem box_new (w : World) (x y : Value) (t : TypeId) : (w.alloc (.cells #[x, y] t)).heap[w.heap.size]? = some (.cells #[x, y] t) := by
  show (w.heap.push _)[w.heap.size]? = _
  simp
theorem box_kept {W W' : World} {b n : Nat} {x y : Value} {t : TypeId} (hk : Lib.OthersKept 5 (some b) W W') (h : W.heap[n]? = some (.cells #[x, y] t)) (ht : t ≠ 5) (hn : n ≠ b) : W'.heap[n]? = some (.cells #[x, y] t) :=
  hk n _ h (fun e => hn (Option.some.inj e)) (fun c fz e => by cases e; exact ht rfl)
theorem box_cells {W : World} {n : Nat} {x y : Value} {t : TypeId} (h : W.heap[n]? = some (.cells #[x, y] t)) : W.cell? ⟨n, 0, none⟩ = some x ∧ W.cell? ⟨n, 1, none⟩ = some y := by
  constructor <;> (unfold World.cell?; rw [h]; rfl)
theorem bld_alloc {B b : Nat} {l : List UInt8} {w : World} (h : Bld B b l w) (o : Obj) : Bld B b l (w.alloc o) := Lib.IsBuilderF.alloc h o
set_option maxHeartbeats 8000000 in
set_option maxRecDepth 100000 in
theorem text_ok (v : Value) (l : List Lb) (w : World) (hi : Items w v l) (hg : Good l) (ho : OkL l) :
    Calls Tryz.prog 53 #[v] w fun e w' => e = .returned (.tuple #[.string ⟨(txt l).toArray⟩, .int .i64 0]) ∧ Below w.heap.size w w' := by
  have HC := hid (check_any v l w hi hg)
  rw [check_ok ho] at HC
  have HS := hid (show ∀ x ∈ l, x.1.size ≤ 127 ∧ x.2.size ≤ 63 from fun x hx => ⟨key_size (lab_ok (ho.lab x hx)).1, val_size (lab_ok (ho.lab x hx)).2⟩)
  obtain ⟨a, cap, rfl, hi⟩ := hi
  have hl := ho.len
  obtain ⟨len, hlen⟩ : ∃ n, n = l.length := ⟨_, rfl⟩
  have HLEN := hid hlen
  rw [← hlen] at hi hl HC ⊢
  clear hlen hg ho
  have WB := hid (fun B b l c W h1 h2 h3 => wbyte_any B b l c W h1 h2 h3)
  have WS := hid (fun B b l s W h1 h2 h3 h4 => wstr_any B b l s W h1 h2 h3 h4)
  have BS := hid (fun B b l W h1 h2 => bstr_any B b l W h1 h2)
  go_enter Tryz.func53, Tryz.ntmps53
  go_wp2_with fail
  refine HC.out.mono ?_
  rintro e w1 ⟨rfl, hb⟩
  have B1 := hid hb
  clear hb
  go_wp2_with fail
  have BD0 := hid (show Bld w1.heap.size w1.heap.size [] (w1.alloc (.cells #[.pointer none, .slice none 0 0] 105)) from Lib.IsBuilderF.of (Lib.fresh_isBuilder 105 5 w1))
  have BL0 := hid (belowA w1 (.cells #[.pointer none, .slice none 0 0] 105))
  have hZ0 : w1.heap.size < (w1.alloc (.cells #[.pointer none, .slice none 0 0] 105)).heap.size := by simp
  generalize w1.alloc (.cells #[.pointer none, .slice none 0 0] 105) = W0 at *
  go_loopw [19] (fun i wr => ∃ k : Nat, k ≤ len ∧ i = .int .i64 k ∧ Hid (Below w1.heap.size w1 wr) ∧ w1.heap.size < wr.heap.size ∧ Hid (Bld w1.heap.size w1.heap.size (txt (l.take k)) wr)) (fun i _ => len - (intOf i).toNat)
  case atStart => exact ⟨0, Nat.zero_le _, rfl, BL0, hZ0, BD0⟩
  case round =>
    obtain ⟨k, hk, rfl, HB, hZ, BD⟩ := hrel
    by_cases hlt : k < len
    · rcases hi with h0 | ⟨b, off, rfl, hbl, hc⟩
      · omega
      obtain ⟨c0, c1⟩ := hc k hlt
      have hbl1 : b < w1.heap.size := Nat.lt_of_lt_of_le hbl B1.out.size
      rw [← B1.out.cell (p := ⟨b, off + k * 2, none⟩) hbl, ← HB.out.cell (p := ⟨b, off + k * 2, none⟩) hbl1] at c0
      rw [← B1.out.cell (p := ⟨b, off + k * 2 + 1, none⟩) hbl, ← HB.out.cell (p := ⟨b, off + k * 2 + 1, none⟩) hbl1] at c1
      have hsz : b < wr.heap.size := Nat.lt_of_lt_of_le hbl1 HB.out.size
      have hkl : k < l.length := by rw [← HLEN.out]; exact hlt
      have hks := HS.out _ (kv_mem l k hkl)
      have hks1 : (ky l k).size ≤ 127 := hks.1
      have hks2 : (vl l k).size ≤ 63 := hks.2
      have hts : (txt (l.take k)).length ≤ 32 * 192 := Nat.le_trans (txt_len _ fun x hx => HS.out x (List.mem_of_mem_take hx)) (by rw [List.length_take]; omega)
      have ht := take_kv l k hkl
      have hsn := txt_snoc (l.take k) (ky l k, vl l k)
      rw [← ht] at hsn
      have hnb : wr.heap.size ≠ w1.heap.size := by omega
      have bx := box_new wr (.string (ky l k)) (.string (vl l k)) 35
      have BDa := hid (bld_alloc BD.out (.cells #[.string (ky l k), .string (vl l k)] 35))
      have BLa := hid (HB.out.alloc HB.out.size (.cells #[.string (ky l k), .string (vl l k)] 35))
      by_cases hk0 : k = 0
      · have hnil : l.take k = [] := by rw [hk0]; rfl
        rw [if_pos hnil] at hsn
        rw [hnil, show txt [] = [] from rfl] at BDa
        have hk0' : ¬ (0 : Int) < (k : Int) := by omega
        have HT := hid hsn
        generalize ky l k = key at *
        generalize vl l k = val at *
        clear hc hsn ht hts hnil BD hk0 hks
        go_wp2_with fail
        refine (WS.out _ _ [] key _ BDa.out (by first | omega | (simp; done) | (simp; omega)) (by omega) BLa.out.size).mono ?_
        rintro e w3 ⟨rfl, hbd, hbl2, hok⟩
        replace bx := box_kept hok bx (by decide) hnb
        have BD3 := hid hbd
        have BL3 := hid (show Below w1.heap.size w1 w3 from BLa.out.trans hbl2)
        clear hbd hbl2 hok
        go_wp2_with fail
        refine (WB.out _ _ _ 61 _ BD3.out (by first | omega | (simp; done) | (simp; omega)) BL3.out.size).mono ?_
        rintro e w4 ⟨rfl, hbd, hbl2, hok⟩
        replace bx := box_kept hok bx (by decide) hnb
        have BD4 := hid hbd
        have BL4 := hid (show Below w1.heap.size w1 w4 from BL3.out.trans hbl2)
        have hx1 := (box_cells bx).2
        clear hbd hbl2 hok
        go_wp2_with fail
        refine (WS.out _ _ _ val _ BD4.out (by first | omega | (simp; done) | (simp; omega)) (by omega) BL4.out.size).mono ?_
        rintro e w5 ⟨rfl, hbd, hbl2, hok⟩
        have BD5 := hid hbd
        have BL5 := hid (show Below w1.heap.size w1 w5 from BL4.out.trans hbl2)
        have bz := box_kept hok bx (by decide) hnb
        have hZ5 : w1.heap.size < w5.heap.size := by
          have : wr.heap.size < w5.heap.size := by
            apply Classical.byContradiction
            intro n
            rw [Array.getElem?_eq_none (by omega)] at bz
            cases bz
          omega
        clear hbd hbl2 hok bx bz
        go_wp2_with fail
        exact ⟨⟨k + 1, by omega, by go_num, BL5, hZ5, hid (by rw [HT.out]; exact BD5.out)⟩, by simp [intOf]; omega⟩
      · have hnil : l.take k ≠ [] := by
          intro e
          have := congrArg List.length e
          rw [List.length_take, List.length_nil] at this
          omega
        rw [if_neg hnil] at hsn
        have hk0' : (0 : Int) < (k : Int) := by omega
        have HT := hid hsn
        generalize ky l k = key at *
        generalize vl l k = val at *
        generalize txt (l.take k) = T at *
        clear hc hsn ht hnil BD hk0 hks
        go_wp2_with fail
        refine (WB.out _ _ T 44 _ BDa.out (by omega) BLa.out.size).mono ?_
        rintro e w2 ⟨rfl, hbd, hbl2, hok⟩
        replace bx := box_kept hok bx (by decide) hnb
        have BD2 := hid hbd
        have BL2 := hid (show Below w1.heap.size w1 w2 from BLa.out.trans hbl2)
        have hx0 := (box_cells bx).1
        clear hbd hbl2 hok
        go_wp2_with fail
        refine (WS.out _ _ (T ++ [44]) key _ BD2.out (by first | omega | (simp; done) | (simp; omega)) (by omega) BL2.out.size).mono ?_
        rintro e w3 ⟨rfl, hbd, hbl2, hok⟩
        replace bx := box_kept hok bx (by decide) hnb
        have BD3 := hid hbd
        have BL3 := hid (show Below w1.heap.size w1 w3 from BL2.out.trans hbl2)
        clear hbd hbl2 hok
        go_wp2_with fail
        refine (WB.out _ _ _ 61 _ BD3.out (by first | omega | (simp; done) | (simp; omega)) BL3.out.size).mono ?_
        rintro e w4 ⟨rfl, hbd, hbl2, hok⟩
        replace bx := box_kept hok bx (by decide) hnb
        have BD4 := hid hbd
        have BL4 := hid (show Below w1.heap.size w1 w4 from BL3.out.trans hbl2)
        have hx1 := (box_cells bx).2
        clear hbd hbl2 hok
        go_wp2_with fail
        refine (WS.out _ _ _ val _ BD4.out (by first | omega | (simp; done) | (simp; omega)) (by omega) BL4.out.size).mono ?_
        rintro e w5 ⟨rfl, hbd, hbl2, hok⟩
        have BD5 := hid hbd
        have BL5 := hid (show Below w1.heap.size w1 w5 from BL4.out.trans hbl2)
        have bz := box_kept hok bx (by decide) hnb
        have hZ5 : w1.heap.size < w5.heap.size := by
          have : wr.heap.size < w5.heap.size := by
            apply Classical.byContradiction
            intro n
            rw [Array.getElem?_eq_none (by omega)] at bz
            cases bz
          omega
        clear hbd hbl2 hok bx bz
        go_wp2_with fail
        exact ⟨⟨k + 1, by omega, by go_num, BL5, hZ5, hid (by rw [HT.out]; exact BD5.out)⟩, by simp [intOf]; omega⟩
    · obtain rfl : k = len := by omega
      have bd := BD.out
      rw [show l.take k = l by rw [HLEN.out, List.take_length]] at bd
      have HBS := hid (BS.out _ _ _ wr bd HB.out.size)
      clear bd
      go_wp2_with fail
      refine HBS.out.mono ?_
      rintro e w5 ⟨rfl, hb5⟩
      go_wp2_with fail
      go_ret2
      exact ⟨rfl, B1.out.trans ((HB.out.trans hb5).mono B1.out.size)⟩
end Go.Proofs.YtnldagpbmphdhaaGreatDoor.L
