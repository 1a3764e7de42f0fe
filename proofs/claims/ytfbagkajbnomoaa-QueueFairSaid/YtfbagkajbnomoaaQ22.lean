import Derived.Test.YtfbagkajbnomoaaQ21
namespace Go.Proofs.Ytfbagkajbnomoaa.L
open Go.RowKit Rg Qu Go.Maps
set_option linter.unusedVariables false
set_option linter.unusedSimpArgs false
/-! Names and arrivals, as the program tells them apart: two maps. -/
def kS (s : ByteArray) : Lit := .string s.data.toList
theorem kS_inj {s t : ByteArray} (h : kS s = kS t) : s = t := by
  unfold kS at h
  injection h with h
  exact bytes_ext (by rw [ByteArray.toList_eq, ByteArray.toList_eq]; exact h)
theorem kS_key (s : ByteArray) : WideAt.IsKeyLit (kS s) := by unfold kS; simp [WideAt.IsKeyLit]
def kI (n : Int) : Lit := .int .i64 n
theorem kI_inj {a b : Int} (h : kI a = kI b) : a = b := by unfold kI at h; injection h
theorem kI_key (n : Int) : WideAt.IsKeyLit (kI n) := by unfold kI; simp [WideAt.IsKeyLit]
/-- A map whose keys are these. -/
structure StM (D : DataW Unit) (ks : List Lit) : Prop where
  has : ∀ k, has D k = true ↔ k ∈ ks
  le : size D ≤ ks.length
  eq : size D = ks.length ↔ ks.Pairwise (· ≠ ·)
theorem stm_nil : StM (.map []) [] := ⟨fun k => by simp [Go.Maps.has], by simp [size], by simp [size]⟩
theorem StM.put {D : DataW Unit} {ks : List Lit} (h : StM D ks) (hD : Tidy D) {k : Lit} (hk : WideAt.IsKeyLit k) (d : DataW Unit) : StM (D.put k d) (ks ++ [k]) := by
  refine ⟨fun k' => ?_, ?_, ?_⟩
  · by_cases e : k' = k
    · subst e
      rw [has_put_same hD.isMap hk]
      simp
    · rw [has_put_other e, h.has]
      simp [e]
  · rw [size_put hD, List.length_append]
    have := h.le
    split <;> simp <;> omega
  · rw [size_put hD, List.length_append, List.pairwise_append]
    have hl := h.le
    by_cases e : k ∈ ks
    · rw [if_pos ((h.has k).2 e)]
      constructor
      · intro hh; simp at hh; omega
      · rintro ⟨_, _, h3⟩
        exact absurd rfl (h3 k e k (by simp))
    · rw [if_neg (fun c => e ((h.has k).1 c))]
      constructor
      · intro hh
        refine ⟨h.eq.1 (by simp at hh; omega), List.pairwise_singleton _ _, fun a ha b hb => ?_⟩
        rw [List.mem_singleton] at hb
        subst hb
        exact fun c => e (c ▸ ha)
      · rintro ⟨h1, _, _⟩
        have := h.eq.2 h1
        simp
        omega
/-- How an element without cells reads. -/
def RU (v : Value) : Option (DataW Unit × List MemPlace) := match v with
  | .agg _ => some (.agg [], [])
  | _ => none
abbrev OwnN (w : World) (b n : Nat) (D : DataW Unit) : Prop := w.ownsMap Try.prog 9 RU b n D
abbrev OwnI (w : World) (b n : Nat) (D : DataW Unit) : Prop := w.ownsMap Try.prog 3 RU b n D
theorem keyS : Keyed Try.prog 9 := string_keyed Try.underlying9
theorem keyI : Keyed Try.prog 3 := int_keyed Try.underlying3
theorem owns_stays {H : Type} {P : Program} {k : TypeId} {R : Value → Option (DataW H × List MemPlace)} {w w' : World} {b n : Nat} {D : DataW H} (h : w.ownsMap P k R b n D) (e : w'.heap[b]? = w.heap[b]?) : w'.ownsMap P k R b n D := by
  obtain ⟨es, clock, hb, F, hs, rfl⟩ := h
  exact ⟨es, clock, e.trans hb, F, hs, rfl⟩
def nmK (l : List Wt) : List Lit := l.map fun x => kS x.name
def sqK (l : List Wt) : List Lit := l.map fun x => kI x.seq
theorem nmK_pw (l : List Wt) : (nmK l).Pairwise (· ≠ ·) ↔ l.Pairwise (fun a b => a.name ≠ b.name) := by
  unfold nmK
  rw [List.pairwise_map]
  constructor
  · exact fun h => h.imp fun {a b} hab e => hab (by rw [e])
  · exact fun h => h.imp fun {a b} hab e => hab (kS_inj e)
theorem sqK_pw (l : List Wt) : (sqK l).Pairwise (· ≠ ·) ↔ l.Pairwise (fun a b => a.seq ≠ b.seq) := by
  unfold sqK
  rw [List.pairwise_map]
  constructor
  · exact fun h => h.imp fun {a b} hab e => hab (by rw [e])
  · exact fun h => h.imp fun {a b} hab e => hab (kI_inj e)
theorem nmK_snoc {l : List Wt} {k : Nat} (hk : k < l.length) : nmK (l.take (k + 1)) = nmK (l.take k) ++ [kS l[k].name] := by
  unfold nmK
  rw [List.take_succ_eq_append_getElem hk, List.map_append]
  rfl
theorem sqK_snoc {l : List Wt} {k : Nat} (hk : k < l.length) : sqK (l.take (k + 1)) = sqK (l.take k) ++ [kI l[k].seq] := by
  unfold sqK
  rw [List.take_succ_eq_append_getElem hk, List.map_append]
  rfl
/-- What stands between two rounds. -/
structure DsI (w W : World) (b1 b2 k : Nat) (l : List Wt) : Prop where
  lo : Below w.heap.size w W
  ms : ∃ D1 D2, OwnN W b1 k D1 ∧ OwnI W b2 k D2 ∧ StM D1 (nmK (l.take k)) ∧ StM D2 (sqK (l.take k))
set_option maxHeartbeats 4000000 in
set_option maxRecDepth 100000 in
theorem distinct_any (l : List Wt) (a : Option Addr) (c : Nat) (w : World) (h : RdG wtV 6 w a l) (hl : l.length ≤ 2048) (hnm : ∀ x, x ∈ l → x.name.size ≤ maxLen) (hsq : ∀ x, x ∈ l → -9223372036854775808 ≤ x.seq ∧ x.seq ≤ 9223372036854775807) :
    Calls Try.prog 39 #[.slice a l.length c] w fun e w' => AnsP e (l.Pairwise (fun a b => a.name ≠ b.name) ∧ l.Pairwise (fun a b => a.seq ≠ b.seq)) ∧ Below w.heap.size w w' := by
  have HR := hid h
  have HNM := hid hnm
  have HSQ := hid hsq
  obtain ⟨n, hn⟩ : ∃ n, n = l.length := ⟨_, rfl⟩
  have HN := hid hn
  rw [← hn] at hl ⊢
  have hmax : n ≤ 9223372036854775807 := by omega
  have hmm := @run_makeMap Try.prog
  have B1 := belowA w (.map #[] 0)
  have B2 := belowA (w.alloc (.map #[] 0)) (.map #[] 0)
  have M1 : OwnN ((w.alloc (.map #[] 0)).alloc (.map #[] 0)) w.heap.size 0 (.map []) := (World.ownsMap_made w _ _ _).alloc _
  have M2 : OwnI ((w.alloc (.map #[] 0)).alloc (.map #[] 0)) (w.heap.size + 1) 0 (.map []) := by
    have := World.ownsMap_made (w.alloc (.map #[] 0)) Try.prog 3 RU
    simp only [World.size_alloc] at this
    exact this
  have HI := hid (show DsI w ((w.alloc (.map #[] 0)).alloc (.map #[] 0)) w.heap.size (w.heap.size + 1) 0 l from ⟨bch B1 B2, _, _, M1, M2, stm_nil, stm_nil⟩)
  have HLO := hid (show w.heap.size < w.heap.size + 1 from by omega)
  clear h hn hnm hsq B1 B2 M1 M2
  go_enter Try.func39, Try.ntmps39
  go_wp2_with fail
  clear hmm
  obtain ⟨b1, hb1⟩ : ∃ b, b = w.heap.size := ⟨_, rfl⟩
  obtain ⟨b2, hb2⟩ : ∃ b, b = w.heap.size + 1 := ⟨_, rfl⟩
  rw [← hb2, ← hb1] at HI
  rw [← hb2, ← hb1]
  have HBB := hid (show b1 ≠ b2 ∧ w.heap.size ≤ b1 ∧ w.heap.size ≤ b2 from by omega)
  generalize (w.alloc (.map #[] 0)).alloc (.map #[] 0) = W0 at HI ⊢
  clear hb1 hb2
  go_loopw [6, 11] (fun _ s8 wr => ∃ k : Nat, k ≤ n ∧ s8 = .int .i64 (k : Int) ∧ Hid (DsI w wr b1 b2 k l)) (fun _ i _ => n - (intOf i).toNat)
  case atStart => exact ⟨0, Nat.zero_le _, rfl, HI⟩
  case round =>
    obtain ⟨k, hk, rfl, HS⟩ := hrel
    clear HI
    by_cases hlt : k < n
    · have g1 : (k : Int) < (n : Int) := by omega
      have g2 : (0 : Int) ≤ (k : Int) := by omega
      have hlt' : k < l.length := by rw [← HN.out]; exact hlt
      obtain ⟨b, off, hae, hbb, c0, c1, c2, c3, c4, c5⟩ := cell_w (HR.out.low HS.out.lo) hlt'
      subst hae
      obtain ⟨y, hy⟩ : ∃ y, y = l[k]'hlt' := ⟨_, rfl⟩
      rw [← hy] at c0 c1 c2 c3 c4 c5
      have HY := hid (show nmK (l.take (k + 1)) = nmK (l.take k) ++ [kS y.name] ∧ sqK (l.take (k + 1)) = sqK (l.take k) ++ [kI y.seq] from by rw [hy]; exact ⟨nmK_snoc hlt', sqK_snoc hlt'⟩)
      have HK1 := hid (show keyOf Try.prog 9 (.string y.name) = some (kS y.name) from WideMaps.keyOf_string_mk Try.underlying9 (HNM.out y (by rw [hy]; exact List.getElem_mem hlt')))
      have HK2 := hid (show keyOf Try.prog 3 (.int .i64 y.seq) = some (kI y.seq) from keyOf_int_mk Try.underlying3 (WalkArith.wf_i64 (HSQ.out y (by rw [hy]; exact List.getElem_mem hlt'))))
      have HBX := hid (belowA wr (.cells #[.string y.name, .int .i64 y.pr, .int .i64 y.seq, .int .i64 y.tries, .int .i64 y.til, .bool y.asl] 63))
      have HXX := hid (heap_alloc_new wr (.cells #[.string y.name, .int .i64 y.pr, .int .i64 y.seq, .int .i64 y.tries, .int .i64 y.til, .bool y.asl] 63))
      clear hbb hy
      go_upto_region 5 with fail
      generalize wr.alloc (.cells #[.string y.name, .int .i64 y.pr, .int .i64 y.seq, .int .i64 y.tries, .int .i64 y.til, .bool y.asl] 63) = V at *
      obtain ⟨pb, hpb⟩ : ∃ b, b = wr.heap.size := ⟨_, rfl⟩
      rw [← hpb] at HXX ⊢
      obtain ⟨D1, D2, m1, m2, s1, s2⟩ := HS.out.ms
      have o1 : OwnN V b1 k D1 := owns_stays m1 (HBX.out.block b1 m1.lt)
      have o2 : OwnI V b2 k D2 := owns_stays m2 (HBX.out.block b2 m2.lt)
      have HLV := hid (bch HS.out.lo HBX.out)
      have HPB := hid (show b1 < pb ∧ b2 < pb from ⟨by rw [hpb]; exact m1.lt, by rw [hpb]; exact m2.lt⟩)
      have T1 := hid (m1.tidy keyS)
      have T2 := hid (m2.tidy keyI)
      have S1 := hid s1
      have S2 := hid s2
      have O1 := hid o1
      have O2 := hid o2
      clear hpb c0 c1 c2 c3 c4 c5 m1 m2 s1 s2 o1 o2 HS
      have x0 : V.cell? ⟨pb, 0, none⟩ = some (.string y.name) := cell_of_row V _ 0 _ _ _ HXX.out
      go_wp2_with (first
        | (at_mapUpdate; refine wpList_mapUpdate_own _ rfl _ _ _ 82 rfl 9 84 keyS Try.underlying82 _ b1 k _ rfl O1.out (by unfold maxLen; omega) _ _ _ rfl rfl HK1.out (.agg []) [] rfl ?_
           intro w5 hown5 hg5
           have x2 : w5.cell? ⟨pb, 2, none⟩ = some (.int .i64 y.seq) := cell_of_row w5 _ 2 _ _ _ ((hg5.block pb (lt_blk HXX.out) (fun e => by injection e with e; have := HPB.out; omega)).trans HXX.out)
           have O5 := hid (show OwnI w5 b2 k D2 from owns_stays O2.out (hg5.block b2 O2.out.lt (fun e => by injection e with e; exact HBB.out.1 e.symm)))
           have N5 := hid hown5
           have G5 := hid hg5
           clear hown5 hg5)
        | (at_mapUpdate; refine wpList_mapUpdate_own _ rfl _ _ _ 83 rfl 3 84 keyI Try.underlying83 _ b2 k _ rfl O5.out (by unfold maxLen; omega) _ _ _ rfl rfl HK2.out (.agg []) [] rfl ?_
           intro w6 hown6 hg6
           have N6 := hid hown6
           have G6 := hid hg6
           clear hown6 hg6))
      have HFN := hid (show DsI w w6 b1 b2 (k + 1) l from by
        refine ⟨?_, _, _, owns_stays N5.out (G6.out.block b1 N5.out.lt (fun e => by injection e with e; exact HBB.out.1 e)), N6.out, ?_, ?_⟩
        · have b := HLV.out
          have g5 := G5.out
          have g6 := G6.out
          have hb := HBB.out
          exact ⟨(g6.os.trans g5.os).trans b.os, (g6.tape.trans g5.tape).trans b.tape, (g6.output.trans g5.output).trans b.output, Nat.le_trans b.size (Nat.le_trans g5.size g6.size), fun j hj => ((g6.block j (Nat.lt_of_lt_of_le hj (Nat.le_trans b.size g5.size)) (fun e => by injection e with e; omega)).trans (g5.block j (Nat.lt_of_lt_of_le hj b.size) (fun e => by injection e with e; omega))).trans (b.block j hj)⟩
        · rw [HY.out.1]; exact S1.out.put T1.out (kS_key _) _
        · rw [HY.out.2]; exact S2.out.put T2.out (kI_key _) _)
      clear x0 x2 N5 N6 G5 G6 O5 O1 O2 S1 S2 T1 T2 HLV
      go_wp2_with fail
      exact ⟨⟨k + 1, by omega, by go_num, HFN⟩, by simp [intOf]; omega⟩
    · have g1 : ¬ (k : Int) < (n : Int) := by omega
      obtain rfl : k = n := by omega
      obtain ⟨D1, D2, m1, m2, s1, s2⟩ := HS.out.ms
      have O1 := hid m1
      have O2 := hid m2
      have HBL := hid HS.out.lo
      have HTK : l.take k = l := List.take_of_length_le (by rw [← HN.out]; omega)
      rw [HTK] at s1 s2
      have e1 : size D1 = k ↔ l.Pairwise (fun a b => a.name ≠ b.name) := by
        rw [← nmK_pw, ← s1.eq]
        unfold nmK
        rw [List.length_map, ← HN.out]
      have e2 : size D2 = k ↔ l.Pairwise (fun a b => a.seq ≠ b.seq) := by
        rw [← sqK_pw, ← s2.eq]
        unfold sqK
        rw [List.length_map, ← HN.out]
      have hlen2 := fun ty => m2.len Try.underlying83 ty
      have E1 := hid e1
      have E2 := hid e2
      clear m1 m2 s1 s2 e1 e2 HTK HS
      by_cases q1 : size D1 = k
      · have q1' : ((size D1 : Nat) : Int) = (k : Int) := by omega
        by_cases q2 : size D2 = k
        · have q2' : ((size D2 : Nat) : Int) = (k : Int) := by omega
          have HF := hid (And.intro (E1.out.1 q1) (E2.out.1 q2))
          clear q1 q2
          go_wp2_with (first
            | (at_len; refine wpList_len_own _ rfl _ 82 rfl 9 84 Try.underlying82 _ b1 k D1 rfl O1.out ?_))
          go_ret
          exact ⟨⟨true, by first | rfl | simp, ⟨fun _ => HF.out, fun _ => rfl⟩⟩, HBL.out⟩
        · have q2' : ¬ ((size D2 : Nat) : Int) = (k : Int) := by omega
          have HF := hid (show ¬ (l.Pairwise (fun a b => a.name ≠ b.name) ∧ l.Pairwise (fun a b => a.seq ≠ b.seq)) from fun e => q2 (E2.out.2 e.2))
          clear q1 q2
          go_wp2_with (first
            | (at_len; refine wpList_len_own _ rfl _ 82 rfl 9 84 Try.underlying82 _ b1 k D1 rfl O1.out ?_))
          go_ret
          exact ⟨⟨false, by first | rfl | simp [q2'], ⟨fun e => (by cases e), fun e => absurd e HF.out⟩⟩, HBL.out⟩
      · have q1' : ¬ ((size D1 : Nat) : Int) = (k : Int) := by omega
        have HF := hid (show ¬ (l.Pairwise (fun a b => a.name ≠ b.name) ∧ l.Pairwise (fun a b => a.seq ≠ b.seq)) from fun e => q1 (E1.out.2 e.1))
        clear q1
        go_wp2_with (first
          | (at_len; refine wpList_len_own _ rfl _ 82 rfl 9 84 Try.underlying82 _ b1 k D1 rfl O1.out ?_))
        go_ret
        exact ⟨⟨false, by first | rfl | simp, ⟨fun e => (by cases e), fun e => absurd e HF.out⟩⟩, HBL.out⟩
end Go.Proofs.Ytfbagkajbnomoaa.L
