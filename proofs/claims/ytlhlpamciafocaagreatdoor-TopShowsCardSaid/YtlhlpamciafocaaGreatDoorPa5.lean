import Derived.Test.YtlhlpamciafocaaGreatDoorMgAI
import Derived.Laws.OwnMore
namespace Go.Proofs.YtlhlpamciafocaaGreatDoor.L
open Go.RowKit
set_option linter.unusedVariables false
set_option linter.unusedSimpArgs false
theorem pt_app (T : List Pt) (p : Pt) {j : Nat} (h : j < T.length) : pt (T ++ [p]) j = pt T j := by
  unfold pt
  rw [List.getD_eq_getElem?_getD, List.getD_eq_getElem?_getD, List.getElem?_append_left h]
theorem pt_last (T : List Pt) (p : Pt) : pt (T ++ [p]) T.length = p := by
  unfold pt
  rw [List.getD_eq_getElem?_getD, List.getElem?_append_right (Nat.le_refl _)]
  simp
theorem CP_app (T : List Pt) (p : Pt) (ks : Nat → Value) : ∀ k, k ≤ T.length → CP (T ++ [p]) ks k = CP T ks k
  | 0, _ => rfl
  | k + 1, h => by
    simp only [CP]
    rw [CP_app T p ks k (by omega), pt_app T p (by omega)]
theorem type_ne {W : World} {b1 b2 : Nat} {e1 e2 : TypeId} {s1 s2 n1 n2 : Nat} {u1 u2 : Value} {x1 x2 : List Value} (h1 : W.ownsRow b1 e1 s1 u1 n1 x1) (h2 : W.ownsRow b2 e2 s2 u2 n2 x2) (he : e1 ≠ e2) {k : Nat} (k1 : u1.ownBlock = some k) : u2.ownBlock ≠ some k := by
  intro k2
  obtain ⟨_, _, c1, g1⟩ := row_at h1 k1
  obtain ⟨_, _, c2, g2⟩ := row_at h2 k2
  rw [g1] at g2
  injection g2 with g2
  injection g2 with _ g3
  exact he g3
theorem type_box {W : World} {b1 : Nat} {e1 e2 : TypeId} {s1 n1 : Nat} {u1 : Value} {x1 : List Value} {pb : Nat} {cs : Array Value} (h1 : W.ownsRow b1 e1 s1 u1 n1 x1) (h2 : W.heap[pb]? = some (.cells cs e2 (0, 0))) (he : e1 ≠ e2) {k : Nat} (k1 : u1.ownBlock = some k) : k ≠ pb := by
  intro e
  obtain ⟨_, _, c1, g1⟩ := row_at h1 k1
  rw [e, h2] at g1
  injection g1 with g2
  injection g2 with _ g3
  exact he g3.symm
/-- A part more. -/
theorem PM.morep {pb B : Nat} {Nb : Nat → Prop} {tv : Value} {T : List Tok} {W : World} {s : PS} {v o : Value} {ks : Nat → Value} {W' : World} {p : Pt} {v' : Value} {ks' : Nat → Value} (h : PM pb B Nb tv T W s v o ks) (hb : W'.heap[pb]? = some (.cells #[tv, .int .i64 (s.nx : Int), .int .i64 (s.ns : Int), v', o] 63 (0, 0))) (hk : ∀ k, k < W.heap.size → k ≠ pb → v.ownBlock ≠ some k → W'.heap[k]? = W.heap[k]?) (hp : OwnP W' B v' (s.ps ++ [p]) ks' (s.ps.length + 1)) (ha : ∀ j, j < s.ps.length + 1 → ∀ k, (ks' j).ownBlock = some k → o.ownBlock ≠ some k) (hz : W.heap.size ≤ W'.heap.size) (hx : ∀ j, j < s.ps.length + 1 → ∀ k, (ks' j).ownBlock = some k → ¬ Nb k) (h2 : ∀ i j, i < s.ps.length + 1 → j < s.ps.length + 1 → i ≠ j → ∀ k, (ks' i).ownBlock = some k → (ks' j).ownBlock ≠ some k) : PM pb B Nb tv T W' { s with ps := s.ps ++ [p] } v' o ks' := by
  refine ⟨hb, row_kept h.tok (fun k hkk => hk k (row_at h.tok hkk).2.1 (type_box h.tok h.box (by decide) hkk) (type_ne h.tok h.parts.row (by decide) hkk)), h.tlt, ?_, row_kept h.offs (fun k hkk => hk k (row_at h.offs hkk).2.1 (type_box h.offs h.box (by decide) hkk) (type_ne h.offs h.parts.row (by decide) hkk)), h.pbB, h.nx, h.ns, h.tl, h.fin, ?_, ⟨fun j hj => hx j (by simpa using hj), h.apx.ox, fun k hk => Nat.lt_of_lt_of_le (h.apx.xl k hk) hz, fun i j hi hj => h2 i j (by simpa using hi) (by simpa using hj)⟩⟩
  · show OwnP W' B v' (s.ps ++ [p]) ks' (s.ps ++ [p]).length
    rw [List.length_append]
    exact hp
  · intro j hj
    exact ha j (by simpa using hj)
/-- An offset more. -/
theorem PM.moreo {pb B : Nat} {Nb : Nat → Prop} {tv : Value} {T : List Tok} {W : World} {s : PS} {v o : Value} {ks : Nat → Value} {W' : World} {x : Int} {o' : Value} (h : PM pb B Nb tv T W s v o ks) (hb : W'.heap[pb]? = some (.cells #[tv, .int .i64 (s.nx : Int), .int .i64 (s.ns : Int), v, o'] 63 (0, 0))) (hk : ∀ k, k < W.heap.size → k ≠ pb → o.ownBlock ≠ some k → W'.heap[k]? = W.heap[k]?) (hp : OwnI W' B o' (s.os ++ [x])) (hn : ∀ k, o'.ownBlock = some k → o.ownBlock = some k ∨ W.heap.size ≤ k) (hz : W.heap.size ≤ W'.heap.size) : PM pb B Nb tv T W' { s with os := s.os ++ [x] } v o' ks := by
  refine ⟨hb, row_kept h.tok (fun k hkk => hk k (row_at h.tok hkk).2.1 (type_box h.tok h.box (by decide) hkk) (type_ne h.tok h.offs (by decide) hkk)), h.tlt, ⟨row_kept h.parts.row (fun k hkk => hk k (row_at h.parts.row hkk).2.1 (type_box h.parts.row h.box (by decide) hkk) (type_ne h.parts.row h.offs (by decide) hkk)), fun j hj => row_kept (h.parts.kids j hj) (fun k hkk => hk k (row_at (h.parts.kids j hj) hkk).2.1 (type_box (h.parts.kids j hj) h.box (by decide) hkk) (h.apart j hj k hkk))⟩, hp, h.pbB, h.nx, h.ns, h.tl, h.fin, ?_, ⟨h.apx.kx, fun k hk => ?_, fun k hk => Nat.lt_of_lt_of_le (h.apx.xl k hk) hz, h.apx.two⟩⟩
  rotate_left
  · rcases hn k hk with e2 | e2
    · exact h.apx.ox k e2
    · intro e3
      have := h.apx.xl k e3
      omega
  intro j hj k hkk e
  rcases hn k e with e2 | e2
  · exact h.apart j hj k hkk e2
  · have := (row_at (h.parts.kids j hj) hkk).2.1
    omega
theorem wp_append_stays {w : World} {o : Oper} {a : Act} {K : Act → World → Prop} {Q : Exit → Act → World → Prop} (s x : Operand) (t : TypeId)
    (ho : o.op = .call { callee := .builtin .append, args := #[s, x], argTypes := #[t, t] })
    (base : Nat) (e : TypeId) (i : TypeInfo) (z : Value) (size bytes : Nat) (ht : Tryz.prog.underlying t = some (.slice e)) (hi : Tryz.prog.info? e = some i) (hz : i.zero = some z)
    (hsize : i.size = size) (hby : i.bytes = bytes) (hzs : z.cells.size = size) (hsz : 0 < size)
    (v : Value) (n : Nat) (xs : List Value) (hs : a.eval s = v) (hown : w.ownsRow base e size v n xs)
    (ad : Addr) (m c : Nat) (news : List Value) (hx : a.eval x = .slice (some ad) m c) (hl : news.length = m * size) (hnews : ∀ j u, news[j]? = some u → w.cell? (ad.add j) = some u) (h1 : ∀ u ∈ news, u.oneCell' = true)
    (h63 : n + m ≤ maxLen) (hbytes : (n + m) * bytes ≤ 140737488355328) (hbase : base ≤ w.heap.size) (hm : 0 < m)
    (h : ∀ v' w', w'.ownsRow base e size v' (n + m) (xs ++ news) → w.grownBy w' v.ownBlock → (v'.ownBlock = v.ownBlock ∨ v'.ownBlock = some w.heap.size) → K (a.put o.dst v') w') : o.wp Tryz.prog a w K Q := by
  obtain ⟨v', w', hr, h2, h3, _⟩ := run_append_own (P := Tryz.prog) w base t o.type e i z size bytes ht hi hz hsize hby hzs hsz v n xs hown ad m c news hl hnews h1 h63 hbytes hbase
  have h4 := Ap.append_stays (P := Tryz.prog) w base t o.type e i z size bytes ht hi hz hsize hby v n xs hown ad m c news hl hnews h1 h63 hbytes hm hr
  unfold Oper.wp execOp
  simp only [ho, resolve, invoke, builtin, Sem.run_bind, Sem.run_pure, Result.andThen_ok, List.map_toArray, List.map_cons, List.map_nil, hs, hx, hr]
  exact h v' w' h2 h3 h4.2
/-- The parts, grown by one. -/
theorem own_grow {pb B n : Nat} {Z w' U : World} {v v' kv : Value} {ps : List Pt} {p : Pt} {ks : Nat → Value} {cs : Array Value} (hn : n = ps.length) (h : OwnP Z B v ps ks ps.length) (hx : OwnI Z B kv p.kids) (hr : w'.ownsRow B 50 4 v' (n + 1) (CP ps ks n ++ [.int .i64 p.kind, .string p.text, .int .i64 p.num, kv])) (hg : Z.grownBy w' v.ownBlock) (hpb : w'.heap[pb]? = some (.cells cs 63 (0, 0))) (hu : ∀ k, k ≠ pb → U.heap[k]? = w'.heap[k]?) : OwnP U B v' (ps ++ [p]) (fun j => if j = n then kv else ks j) (n + 1) := by
  subst hn
  have hr0 := h.row
  rw [← CP_app ps p ks ps.length (Nat.le_refl _)] at hr0
  have h0 : OwnP Z B v (ps ++ [p]) ks ps.length := ⟨hr0, fun j hj => (by rw [pt_app ps p hj]; exact h.kids j hj)⟩
  have h1 : OwnP w' B v' (ps ++ [p]) (fun j => if j = ps.length then kv else ks j) (ps.length + 1) := h0.more (by rw [pt_last]; exact hx) (by rw [pt_last, CP_app ps p ks ps.length (Nat.le_refl _)]; exact hr) hg
  exact ⟨row_kept h1.row (fun k hk => hu k (type_box h1.row hpb (by decide) hk)), fun j hj => row_kept (h1.kids j hj) (fun k hk => hu k (type_box (h1.kids j hj) hpb (by decide) hk))⟩
/-- Of the blocks that stood, only one and a row's may have changed. -/
def But1 (g : Nat) (v : Value) (w w' : World) : Prop := ∀ k, k < w.heap.size → k ≠ g → v.ownBlock ≠ some k → w'.heap[k]? = w.heap[k]?
theorem infoP4 : (Tryz.prog.info? 50).map (·.size) = some 4 := by kernel_rfl
theorem four_one {pk pn : Int} {px : ByteArray} {ka : Option Addr} {kl kc : Nat} {u : Value} (h : u ∈ ([.int .i64 pk, .string px, .int .i64 pn, .slice ka kl kc] : List Value)) : u.oneCell' = true := by
  simp only [List.mem_cons, List.not_mem_nil, or_false] at h
  rcases h with rfl | rfl | rfl | rfl <;> rfl
set_option maxHeartbeats 16000000 in
set_option maxRecDepth 100000 in
theorem put_any {pb B : Nat} {Nb : Nat → Prop} {tv : Value} {T : List Tok} {W : World} {s : PS} {v o : Value} {ks : Nat → Value} (h : PM pb B Nb tv T W s v o ks) (p : Pt) (kv : Value) (hkv : OwnI W B kv p.kids) (hko : ∀ k, kv.ownBlock = some k → o.ownBlock ≠ some k) (hkx : ∀ k, kv.ownBlock = some k → ¬ Nb k) (hkt : ∀ j, j < s.ps.length → ∀ k, kv.ownBlock = some k → (ks j).ownBlock ≠ some k) (off : Int) (hl : s.ps.length ≤ 100000) (hlo : s.os.length ≤ 100000) :
    Calls Tryz.prog 73 #[.pointer (some ⟨pb, 0, none⟩), .agg #[.int .i64 p.kind, .string p.text, .int .i64 p.num, kv], .int .i64 off] W fun e W' => Po pb B Nb tv T (fun k => .int .i64 k) (putP s p off) W v o e W' := by
  obtain ⟨ka, kc, hkf⟩ := own_form hkv
  obtain ⟨i4, hi, hz0, hz1, hz2⟩ := info_parts infoP
  obtain ⟨i3, hi3, hz03, hz13, hz23⟩ := info_parts info3
  obtain ⟨kl, hkl⟩ : ∃ kl, kl = p.kids.length := ⟨_, rfl⟩
  obtain ⟨n, hn⟩ : ∃ n, n = s.ps.length := ⟨_, rfl⟩
  obtain ⟨pk, hpk⟩ : ∃ x, x = p.kind := ⟨_, rfl⟩
  obtain ⟨px, hpx⟩ : ∃ x, x = p.text := ⟨_, rfl⟩
  obtain ⟨pn, hpn⟩ : ∃ x, x = p.num := ⟨_, rfl⟩
  rw [← hkl] at hkf
  rw [hkf, ← hpk, ← hpx, ← hpn]
  have HB0 := hid (belowA W (.cells #[.int .i64 pk, .string px, .int .i64 pn, .slice ka kl kc] 50))
  have HX0 := hid (heap_alloc_new W (.cells #[.int .i64 pk, .string px, .int .i64 pn, .slice ka kl kc] 50))
  have HP := hid (h.low HB0.out)
  have HPW := hid h
  have HKV := hid (row_kept hkv (fun k hk => HB0.out.block k (row_at hkv hk).2.1) : OwnI (W.alloc (.cells #[.int .i64 pk, .string px, .int .i64 pn, .slice ka kl kc] 50)) B kv p.kids)
  rw [hkf] at HKV hko hkx hkt
  have HKO := hid hko
  have HKX := hid hkx
  have HKT := hid hkt
  have HEQ := hid (And.intro hkl (And.intro hn (And.intro hpk (And.intro hpx hpn))))
  have HLO := hid hlo
  rw [← hn] at hl
  unfold putP
  rw [← hn]
  clear h hkv hko hkx hkt hkf hkl hn hpk hpx hpn hlo
  go_enter Tryz.func73, Tryz.ntmps73
  go_upto_region 1 with (fail)
  generalize W.alloc (.cells #[.int .i64 pk, .string px, .int .i64 pn, .slice ka kl kc] 50) = X at *
  have HBP := hid (show W.heap.size ≠ pb from fun e => (by have h1 := HPW.out.box; rw [← e] at h1; have := lt_blk h1; omega))
  have HBV := hid (show v.ownBlock ≠ some W.heap.size from fun e => (by have := (row_at HPW.out.parts.row e).2.1; omega))
  have HF0 := hid (Fp.of (pb := pb) v o HB0.out)
  generalize hbp : W.heap.size = bp at *
  have MB := hid (show ∀ Z, But1 pb v X Z → (fun Z => Z.cell? ⟨bp, 0, none⟩ = some (.int .i64 pk) ∧ Z.cell? ⟨bp, 1, none⟩ = some (.string px) ∧ Z.cell? ⟨bp, 2, none⟩ = some (.int .i64 pn) ∧ Z.cell? ⟨bp, 3, none⟩ = some (.slice ka kl kc)) Z from fun Z hb => ⟨(World.cell?_of_block (a := ⟨bp, 0, none⟩) (hb bp (lt_blk HX0.out) HBP.out HBV.out)).trans (cell_of_row _ _ 0 _ _ _ HX0.out), (World.cell?_of_block (a := ⟨bp, 1, none⟩) (hb bp (lt_blk HX0.out) HBP.out HBV.out)).trans (cell_of_row _ _ 1 _ _ _ HX0.out), (World.cell?_of_block (a := ⟨bp, 2, none⟩) (hb bp (lt_blk HX0.out) HBP.out HBV.out)).trans (cell_of_row _ _ 2 _ _ _ HX0.out), (World.cell?_of_block (a := ⟨bp, 3, none⟩) (hb bp (lt_blk HX0.out) HBP.out HBV.out)).trans (cell_of_row _ _ 3 _ _ _ HX0.out)⟩)
  have HV0 := hid (show Below X.heap.size X X.drew from (Below.refl _ _).drew)
  have MBB := hid (show ∀ Z, Below X.heap.size X Z → (fun Z => Z.cell? ⟨bp, 0, none⟩ = some (.int .i64 pk) ∧ Z.cell? ⟨bp, 1, none⟩ = some (.string px) ∧ Z.cell? ⟨bp, 2, none⟩ = some (.int .i64 pn) ∧ Z.cell? ⟨bp, 3, none⟩ = some (.slice ka kl kc)) Z from fun Z hb => MB.out Z (fun k hk _ _ => hb.block k hk))
  refine wp_region_held_drew (S := (fun Z => Z.cell? ⟨bp, 0, none⟩ = some (.int .i64 pk) ∧ Z.cell? ⟨bp, 1, none⟩ = some (.string px) ∧ Z.cell? ⟨bp, 2, none⟩ = some (.int .i64 pn) ∧ Z.cell? ⟨bp, 3, none⟩ = some (.slice ka kl kc))) (by kernel_rfl) ?_ (fun hHeld => ?_)
  · exact MBB.out _ HV0.out
  generalize X.drew = Z0 at *
  refine wpAnyH_take (i := 0) (oi := { dst := some 7, op := Op.move (Operand.tmp 0), type := 61, pos := "parse.go:106", after := #[], guard := none }) (v := ?_) rfl (by kernel_rfl) (by kernel_rfl) (by kernel_rfl) (fun _ _ _ h => h) (Or.inl ⟨by rfl, ?_⟩) (by assumption) ?_
  rotate_left
  · (intro w hSw; (try dsimp only at hSw); go_simp; try with_reducible rfl)
  try simp only [Act.put, List.setIfInBounds_toArray, List.set_cons_zero, List.set_cons_succ]
  refine wpAnyH_take (i := 1) (oi := { dst := some 8, op := Op.move (Operand.tmp 0), type := 61, pos := "parse.go:106", after := #[], guard := none }) (v := ?_) rfl (by kernel_rfl) (by kernel_rfl) (by kernel_rfl) (fun _ _ _ h => h) (Or.inl ⟨by rfl, ?_⟩) (by assumption) ?_
  rotate_left
  · (intro w hSw; (try dsimp only at hSw); go_simp; try with_reducible rfl)
  try simp only [Act.put, List.setIfInBounds_toArray, List.set_cons_zero, List.set_cons_succ]
  refine wpAnyH_take (i := 2) (oi := { dst := some 9, op := Op.nilCheck (Operand.tmp 8), type := 0, pos := "parse.go:106", after := #[{ on := 1, ground := Ground.data }], guard := none }) (v := ?_) rfl (by kernel_rfl) (by kernel_rfl) (by kernel_rfl) (fun _ _ _ h => h) (Or.inl ⟨by rfl, ?_⟩) (by assumption) ?_
  rotate_left
  · (intro w hSw; (try dsimp only at hSw); go_simp; try with_reducible rfl)
  try simp only [Act.put, List.setIfInBounds_toArray, List.set_cons_zero, List.set_cons_succ]
  refine wpAnyH_take (i := 3) (oi := { dst := some 10, op := Op.fieldAddr 63 (Operand.tmp 9) 3, type := 0, pos := "parse.go:106", after := #[{ on := 2, ground := Ground.data }], guard := none }) (v := ?_) rfl (by kernel_rfl) (by kernel_rfl) (by kernel_rfl) (fun _ _ _ h => h) (Or.inl ⟨by rfl, ?_⟩) (by assumption) ?_
  rotate_left
  · (intro w hSw; (try dsimp only at hSw); go_simp; try with_reducible rfl)
  try simp only [Act.put, List.setIfInBounds_toArray, List.set_cons_zero, List.set_cons_succ]
  refine wpAnyH_take (i := 5) (oi := { dst := some 12, op := Op.load 50 (Operand.tmp 4), type := 50, pos := "parse.go:106", after := #[], guard := none }) (v := ?_) rfl (by kernel_rfl) (by kernel_rfl) (by kernel_rfl) (fun _ _ _ h => h) (Or.inl ⟨by rfl, ?_⟩) (by assumption) ?_
  rotate_left
  · (intro w hSw; (try dsimp only at hSw); go_simp; try with_reducible rfl)
  try simp only [Act.put, List.setIfInBounds_toArray, List.set_cons_zero, List.set_cons_succ]
  refine wpAnyH_ready (rs := [4, 6]) (by kernel_rfl) (by simp) ?_
  refine AllReadyH.cons (o := { dst := some 11, op := Op.load 22 (Operand.tmp 10), type := 22, pos := "parse.go:106", after := #[{ on := 3, ground := Ground.data }], guard := none }) rfl (fun K hK => ?_) ?_
  · have wc : Z0.cell? ⟨pb, 3, none⟩ = some v := cell_of_row _ _ 3 _ _ _ (HP.out.low HV0.out).box
    go_simp
    clear wc
    refine hK.out _ _ ?_ (fun hHeld => ?_)
    · exact MBB.out _ HV0.out
    clear hK K hHeld
    try simp only [Act.put, List.setIfInBounds_toArray, List.set_cons_zero, List.set_cons_succ]
    have hHeld := MBB.out Z0 HV0.out
    refine wpAnyH_ready (rs := [6]) (by kernel_rfl) (by simp) ?_
    refine AllReadyH.cons (o := { dst := some 13, op := Op.buildSlice 22 1 #[(0, Operand.tmp 12)], type := 22, pos := "parse.go:106", after := #[{ on := 5, ground := Ground.data }], guard := none }) rfl (fun K hK => ?_) AllReadyH.nil
    go_simp
    refine hK.out _ _ ?_ (fun hHeld => ?_)
    · exact MBB.out _ (HV0.out.alloc HV0.out.size _)
    clear hK K hHeld
    try simp only [Act.put, List.setIfInBounds_toArray, List.set_cons_zero, List.set_cons_succ]
    have HR := hid (heap_alloc_new Z0 (.cells #[.int .i64 pk, .string px, .int .i64 pn, .slice ka kl kc] 50))
    have HB9 := hid (HV0.out.alloc HV0.out.size (.cells #[.int .i64 pk, .string px, .int .i64 pn, .slice ka kl kc] 50))
    generalize Z0.alloc (.cells #[.int .i64 pk, .string px, .int .i64 pn, .slice ka kl kc] 50) = Z1 at *
    generalize Z0.heap.size = rb at *
    have hHeld := MBB.out Z1 HB9.out
    refine wpAnyH_ready (rs := [7]) (by kernel_rfl) (by simp) ?_
    refine AllReadyH.cons (o := { dst := some 14, op := Op.call { callee := Callee.builtin Builtin.append, args := #[Operand.tmp 11, Operand.tmp 13], argTypes := #[22, 22] }, type := 22, pos := "parse.go:106", after := #[{ on := 4, ground := Ground.data }, { on := 6, ground := Ground.data }], guard := none }) rfl (fun K hK => ?_) AllReadyH.nil
    rw [if_pos (by rfl)]
    have HP1 := hid (HP.out.low HB9.out)
    refine wp_append_stays _ _ 22 rfl B 50 i4 (.agg #[.int .i64 0, .string ByteArray.empty, .int .i64 0, .slice none 0 0]) 4 56 Tryz.underlying22 hi hz0 hz1 hz2 rfl (by decide) v n (CP s.ps ks n) rfl (by rw [HEQ.out.2.1]; exact HP1.out.parts.row) ⟨rb, 0, none⟩ 1 1 [.int .i64 pk, .string px, .int .i64 pn, .slice ka kl kc] rfl rfl ?_ ?_ (by unfold maxLen; omega) (by omega) ?_ (by decide) ?_
    · intro j u hu
      rw [Go.WideShapes.add_plain]
      show Z1.cell? ⟨rb, 0 + j, none⟩ = _
      rw [Nat.zero_add, cell_of_row _ _ j _ _ _ HR.out, List.getElem?_toArray]
      exact hu
    · intro u hu
      exact four_one hu
    · have h1 := HP1.out.pbB
      have h2 := lt_blk HP1.out.box
      omega
    intro v' w' ho hg hvb
    obtain ⟨va, vc, rfl⟩ : ∃ va vc, v' = .slice va (n + 1) vc := (by rcases ho.2 with ⟨_, h0⟩ | ⟨r, cap, cur, e, _⟩; (exact absurd h0 (by omega)); (exact ⟨_, _, e⟩))
    have HOW := hid ho
    have HG := hid hg
    have HVB := hid hvb
    have HBU := hid (show But1 pb v X w' from fun k hk _ hv => (hg.block k (Nat.lt_of_lt_of_le hk HB9.out.size) (fun e => hv e.symm)).trans (HB9.out.block k hk))
    have HWW := hid ((hg.block pb (lt_blk HP1.out.box) (fun e => type_box HP1.out.parts.row HP1.out.box (by decide) e.symm rfl)).trans HP1.out.box)
    clear ho hg hvb
    refine hK.out _ _ ?_ (fun hHeld => ?_)
    · exact MB.out _ HBU.out
    clear hK K hHeld
    try simp only [Act.put, List.setIfInBounds_toArray, List.set_cons_zero, List.set_cons_succ]
    have hHeld := MB.out w' HBU.out
    refine wpAnyH_take (i := 8) (oi := { dst := some 15, op := Op.nilCheck (Operand.tmp 7), type := 0, pos := "parse.go:106", after := #[{ on := 0, ground := Ground.data }, { on := 0, ground := Ground.phase }, { on := 1, ground := Ground.phase }, { on := 2, ground := Ground.phase }, { on := 3, ground := Ground.phase }, { on := 4, ground := Ground.phase }, { on := 5, ground := Ground.phase }, { on := 6, ground := Ground.phase }, { on := 7, ground := Ground.phase }], guard := none }) (v := ?_) rfl (by kernel_rfl) (by kernel_rfl) (by kernel_rfl) (fun _ _ _ h => h) (Or.inl ⟨by rfl, ?_⟩) (by assumption) ?_
    rotate_left
    · (intro w hSw; (try dsimp only at hSw); go_simp; try with_reducible rfl)
    try simp only [Act.put, List.setIfInBounds_toArray, List.set_cons_zero, List.set_cons_succ]
    refine wpAnyH_take (i := 9) (oi := { dst := some 16, op := Op.fieldAddr 63 (Operand.tmp 15) 3, type := 0, pos := "parse.go:106", after := #[{ on := 8, ground := Ground.data }, { on := 0, ground := Ground.phase }, { on := 1, ground := Ground.phase }, { on := 2, ground := Ground.phase }, { on := 3, ground := Ground.phase }, { on := 4, ground := Ground.phase }, { on := 5, ground := Ground.phase }, { on := 6, ground := Ground.phase }, { on := 7, ground := Ground.phase }], guard := none }) (v := ?_) rfl (by kernel_rfl) (by kernel_rfl) (by kernel_rfl) (fun _ _ _ h => h) (Or.inl ⟨by rfl, ?_⟩) (by assumption) ?_
    rotate_left
    · (intro w hSw; (try dsimp only at hSw); go_simp; try with_reducible rfl)
    try simp only [Act.put, List.setIfInBounds_toArray, List.set_cons_zero, List.set_cons_succ]
    refine wpAnyH_ready (rs := [10]) (by kernel_rfl) (by simp) ?_
    refine AllReadyH.cons (o := { dst := none, op := Op.store 22 (Operand.tmp 16) (Operand.tmp 14), type := 0, pos := "parse.go:106", after := #[{ on := 9, ground := Ground.data }, { on := 7, ground := Ground.data }, { on := 7, ground := Ground.chain }, { on := 0, ground := Ground.phase }, { on := 1, ground := Ground.phase }, { on := 2, ground := Ground.phase }, { on := 3, ground := Ground.phase }, { on := 4, ground := Ground.phase }, { on := 5, ground := Ground.phase }, { on := 6, ground := Ground.phase }, { on := 7, ground := Ground.phase }], guard := none }) rfl (fun K hK => ?_) AllReadyH.nil
    have wc : w'.cell? ⟨pb, 3, none⟩ = some v := cell_of_row _ _ 3 _ _ _ HWW.out
    have wf : w'.frozen? ⟨pb, 3, none⟩ = false := frz_row HWW.out 3
    go_simp
    have HBT := hid (show But1 pb v X (w'.setCell ⟨pb, 3, none⟩ (.slice va (n + 1) vc)) from fun k hk hne hv => (set_oth HWW.out 3 (.slice va (n + 1) vc) hne).trans (HBU.out k hk hne hv))
    refine hK.out _ _ ?_ (fun hHeld => ?_)
    · exact MB.out _ HBT.out
    clear hK K hHeld wc wf
    try simp only [Act.put, List.setIfInBounds_toArray, List.set_cons_zero, List.set_cons_succ]
    refine wpAnyH_done (by kernel_rfl) ?_ _
    clear hHeld
    have HFW := hid (show (w'.setCell ⟨pb, 3, none⟩ (.slice va (n + 1) vc)).heap[pb]? = some (.cells #[tv, .int .i64 (s.nx : Int), .int .i64 (s.ns : Int), .slice va (n + 1) vc, o] 63 (0, 0)) by rw [setCell_eq_setRow _ _ _ _ _ _ _ HWW.out, setRow_heap _ _ _ _ _ _ HWW.out]; rfl)
    have HGR := hid (own_grow (p := p) (kv := .slice ka kl kc) HEQ.out.2.1 HP1.out.parts (row_kept HKV.out (fun k hk => HB9.out.block k (row_at HKV.out hk).2.1)) (by rw [← HEQ.out.2.2.1, ← HEQ.out.2.2.2.1, ← HEQ.out.2.2.2.2]; exact HOW.out) HG.out HWW.out (fun k hk => set_oth HWW.out 3 (.slice va (n + 1) vc) hk))
    have HPU := hid (HP.out.morep (p := p) HFW.out (fun k h1 h2 h3 => HBT.out k h1 h2 h3) (by rw [← HEQ.out.2.1]; exact HGR.out) (by rw [← HEQ.out.2.1]; intro j hj k hk; (try dsimp only at hk); by_cases hjn : j = n; (rw [if_pos hjn] at hk; exact HKO.out k hk); rw [if_neg hjn] at hk; exact HP.out.apart j (by have := HEQ.out.2.1; omega) k hk) (by simpa using Nat.le_trans HB9.out.size HG.out.size) (fun j hj k hk => (by (try dsimp only at hk); by_cases hjn : j = n; (rw [if_pos hjn] at hk; exact HKX.out k hk); rw [if_neg hjn] at hk; exact HP.out.apx.kx j (by have := HEQ.out.2.1; omega) k hk)) (fun i j hi hj hne k hk he => (by (try dsimp only at hk he); have hnn := HEQ.out.2.1; by_cases h1 : i = n; (rw [if_pos h1] at hk; rw [if_neg (by omega)] at he; exact HKT.out j (by omega) k hk he); rw [if_neg h1] at hk; by_cases h2 : j = n; (rw [if_pos h2] at he; exact HKT.out i (by omega) k he hk); rw [if_neg h2] at he; exact HP.out.apx.two i j (by omega) (by omega) hne k hk he)))
    have HFU := hid (show Fp pb W v o (w'.setCell ⟨pb, 3, none⟩ (.slice va (n + 1) vc)) (.slice va (n + 1) vc) o from HF0.out.trans ⟨HG.out.os.trans HB9.out.os, HG.out.tape.trans HB9.out.tape, HG.out.output.trans HB9.out.output, by simpa using Nat.le_trans HB9.out.size HG.out.size, fun k h1 h2 h3 _ => HBT.out k h1 h2 h3, fun k hk => (by rcases HVB.out with e | e; (exact Or.inl (e ▸ hk)); right; rw [e] at hk; injection hk with hk; have := HB9.out.size; omega), fun k hk => Or.inl hk⟩)
    generalize w'.setCell ⟨pb, 3, none⟩ (.slice va (n + 1) vc) = U at *
    clear HR HB9 HP1 HOW HG HVB HBU HWW HBT HFW HGR
    have u4 : U.cell? ⟨pb, 4, none⟩ = some o := cell_of_row _ _ 4 _ _ _ HPU.out.box
    have HA := hid (show ∀ j u, ([.int .i64 off] : List Value)[j]? = some u → (U.alloc (.cells #[.int .i64 off] 3)).cell? ((⟨U.heap.size, 0, none⟩ : Addr).add j) = some u from fun j u hu => (by rw [Go.WideShapes.add_plain]; show (U.alloc (.cells #[.int .i64 off] 3)).cell? ⟨U.heap.size, 0 + j, none⟩ = _; rw [Nat.zero_add, cell_of_row _ _ j _ _ _ (heap_alloc_new U (.cells #[.int .i64 off] 3)), List.getElem?_toArray]; exact hu))
    have HO1 := hid (show ∀ u ∈ ([.int .i64 off] : List Value), u.oneCell' = true from fun u hu => (by simp only [List.mem_cons, List.not_mem_nil, or_false] at hu; subst hu; rfl))
    have HBB := hid (show B ≤ (U.alloc (.cells #[.int .i64 off] 3)).heap.size from (by have h1 := HPU.out.pbB; have h2 := lt_blk HPU.out.box; have h3 := (belowA U (.cells #[.int .i64 off] 3)).size; omega))
    go_upto_region 3 with (at_builtin; refine Ap.wpList_append_stays _ rfl _ _ 34 rfl B 3 i3 (.int .i64 0) 1 8 Tryz.underlying34 hi3 hz03 hz13 hz23 rfl (by decide) o s.os.length (s.os.map (Value.int .i64)) rfl (HPU.out.low (belowA U (.cells #[.int .i64 off] 3))).offs ⟨U.heap.size, 0, none⟩ 1 1 [.int .i64 off] rfl rfl HA.out HO1.out (by have := HLO.out; unfold maxLen; omega) (by have := HLO.out; omega) HBB.out (by decide) ?_)
    intro o' w2 ho hg _ hob
    obtain ⟨oa, oc, rfl⟩ : ∃ oa oc, o' = .slice oa (s.os.length + 1) oc := (by rcases ho.2 with ⟨_, h0⟩ | ⟨r, cap, cur, e, _⟩; (exact absurd h0 (by omega)); (exact ⟨_, _, e⟩))
    have HP2 := hid (HPU.out.low (belowA U (.cells #[.int .i64 off] 3)))
    have HBA := hid (belowA U (.cells #[.int .i64 off] 3))
    have HB2 := hid ((hg.block pb (lt_blk HP2.out.box) (fun e => type_box HP2.out.offs HP2.out.box (by decide) e.symm rfl)).trans HP2.out.box)
    have HO2 := hid ho
    have HG2 := hid hg
    have HOB := hid (show ∀ k, (Value.slice oa (s.os.length + 1) oc).ownBlock = some k → o.ownBlock = some k ∨ U.heap.size ≤ k from fun k hk => (by rcases hob with e | e; (exact Or.inl (e ▸ hk)); right; rw [e] at hk; injection hk with hk; have := HBA.out.size; omega))
    clear ho hg hob u4 HA HO1 HBB
    have wc : w2.cell? ⟨pb, 4, none⟩ = some o := cell_of_row _ _ 4 _ _ _ HB2.out
    have wf : w2.frozen? ⟨pb, 4, none⟩ = false := frz_row HB2.out 4
    go_upto_region 3 with (fail)
    have HFW := hid (show (w2.setCell ⟨pb, 4, none⟩ (Value.slice oa (s.os.length + 1) oc)).heap[pb]? = some (.cells #[tv, .int .i64 (s.nx : Int), .int .i64 (s.ns : Int), .slice va (n + 1) vc, (Value.slice oa (s.os.length + 1) oc)] 63 (0, 0)) by rw [setCell_eq_setRow _ _ _ _ _ _ _ HB2.out, setRow_heap _ _ _ _ _ _ HB2.out]; rfl)
    have HKK := hid (show ∀ k, k < U.heap.size → k ≠ pb → o.ownBlock ≠ some k → (w2.setCell ⟨pb, 4, none⟩ (Value.slice oa (s.os.length + 1) oc)).heap[k]? = U.heap[k]? from fun k h1 h2 h3 => (set_oth HB2.out 4 (Value.slice oa (s.os.length + 1) oc) h2).trans ((HG2.out.block k (Nat.lt_of_lt_of_le h1 HBA.out.size) (fun e => h3 e.symm)).trans (HBA.out.block k h1)))
    have HPE := hid (HPU.out.moreo (x := off) HFW.out HKK.out (row_kept (show OwnI w2 B (Value.slice oa (s.os.length + 1) oc) (s.os ++ [off]) from (by unfold OwnI; rw [List.length_append, List.map_append]; exact HO2.out)) (fun k hk => set_oth HB2.out 4 (Value.slice oa (s.os.length + 1) oc) (type_box HO2.out HB2.out (by decide) hk))) HOB.out (by simpa using Nat.le_trans HBA.out.size HG2.out.size))
    have HFE := hid (show Fp pb W v o (w2.setCell ⟨pb, 4, none⟩ (Value.slice oa (s.os.length + 1) oc)) (.slice va (n + 1) vc) (Value.slice oa (s.os.length + 1) oc) from HFU.out.trans ⟨HG2.out.os.trans HBA.out.os, HG2.out.tape.trans HBA.out.tape, HG2.out.output.trans HBA.out.output, by simpa using Nat.le_trans HBA.out.size HG2.out.size, fun k h1 h2 _ h4 => HKK.out k h1 h2 h4, fun k hk => Or.inl hk, HOB.out⟩)
    generalize w2.setCell ⟨pb, 4, none⟩ (Value.slice oa (s.os.length + 1) oc) = V at *
    have e3 : V.cell? ⟨pb, 3, none⟩ = some (.slice va (n + 1) vc) := cell_of_row _ _ 3 _ _ _ HFW.out
    clear wc wf
    go_wp2_with fail
    go_ret
    exact ⟨rfl, _, _, _, HPE.out, HFE.out⟩
  refine AllReadyH.cons (o := { dst := some 13, op := Op.buildSlice 22 1 #[(0, Operand.tmp 12)], type := 22, pos := "parse.go:106", after := #[{ on := 5, ground := Ground.data }], guard := none }) rfl (fun K hK => ?_) AllReadyH.nil
  go_simp
  refine hK.out _ _ ?_ (fun hHeld => ?_)
  · exact MBB.out _ (HV0.out.alloc HV0.out.size _)
  clear hK K hHeld
  try simp only [Act.put, List.setIfInBounds_toArray, List.set_cons_zero, List.set_cons_succ]
  have HR := hid (heap_alloc_new Z0 (.cells #[.int .i64 pk, .string px, .int .i64 pn, .slice ka kl kc] 50))
  have HB9 := hid (HV0.out.alloc HV0.out.size (.cells #[.int .i64 pk, .string px, .int .i64 pn, .slice ka kl kc] 50))
  generalize Z0.alloc (.cells #[.int .i64 pk, .string px, .int .i64 pn, .slice ka kl kc] 50) = Z1 at *
  generalize Z0.heap.size = rb at *
  have hHeld := MBB.out Z1 HB9.out
  refine wpAnyH_ready (rs := [4]) (by kernel_rfl) (by simp) ?_
  refine AllReadyH.cons (o := { dst := some 11, op := Op.load 22 (Operand.tmp 10), type := 22, pos := "parse.go:106", after := #[{ on := 3, ground := Ground.data }], guard := none }) rfl (fun K hK => ?_) AllReadyH.nil
  have wc : Z1.cell? ⟨pb, 3, none⟩ = some v := cell_of_row _ _ 3 _ _ _ (HP.out.low HB9.out).box
  go_simp
  clear wc
  refine hK.out _ _ ?_ (fun hHeld => ?_)
  · exact MBB.out _ HB9.out
  clear hK K hHeld
  try simp only [Act.put, List.setIfInBounds_toArray, List.set_cons_zero, List.set_cons_succ]
  have hHeld := MBB.out Z1 HB9.out
  refine wpAnyH_ready (rs := [7]) (by kernel_rfl) (by simp) ?_
  refine AllReadyH.cons (o := { dst := some 14, op := Op.call { callee := Callee.builtin Builtin.append, args := #[Operand.tmp 11, Operand.tmp 13], argTypes := #[22, 22] }, type := 22, pos := "parse.go:106", after := #[{ on := 4, ground := Ground.data }, { on := 6, ground := Ground.data }], guard := none }) rfl (fun K hK => ?_) AllReadyH.nil
  rw [if_pos (by rfl)]
  have HP1 := hid (HP.out.low HB9.out)
  refine wp_append_stays _ _ 22 rfl B 50 i4 (.agg #[.int .i64 0, .string ByteArray.empty, .int .i64 0, .slice none 0 0]) 4 56 Tryz.underlying22 hi hz0 hz1 hz2 rfl (by decide) v n (CP s.ps ks n) rfl (by rw [HEQ.out.2.1]; exact HP1.out.parts.row) ⟨rb, 0, none⟩ 1 1 [.int .i64 pk, .string px, .int .i64 pn, .slice ka kl kc] rfl rfl ?_ ?_ (by unfold maxLen; omega) (by omega) ?_ (by decide) ?_
  · intro j u hu
    rw [Go.WideShapes.add_plain]
    show Z1.cell? ⟨rb, 0 + j, none⟩ = _
    rw [Nat.zero_add, cell_of_row _ _ j _ _ _ HR.out, List.getElem?_toArray]
    exact hu
  · intro u hu
    exact four_one hu
  · have h1 := HP1.out.pbB
    have h2 := lt_blk HP1.out.box
    omega
  intro v' w' ho hg hvb
  obtain ⟨va, vc, rfl⟩ : ∃ va vc, v' = .slice va (n + 1) vc := (by rcases ho.2 with ⟨_, h0⟩ | ⟨r, cap, cur, e, _⟩; (exact absurd h0 (by omega)); (exact ⟨_, _, e⟩))
  have HOW := hid ho
  have HG := hid hg
  have HVB := hid hvb
  have HBU := hid (show But1 pb v X w' from fun k hk _ hv => (hg.block k (Nat.lt_of_lt_of_le hk HB9.out.size) (fun e => hv e.symm)).trans (HB9.out.block k hk))
  have HWW := hid ((hg.block pb (lt_blk HP1.out.box) (fun e => type_box HP1.out.parts.row HP1.out.box (by decide) e.symm rfl)).trans HP1.out.box)
  clear ho hg hvb
  refine hK.out _ _ ?_ (fun hHeld => ?_)
  · exact MB.out _ HBU.out
  clear hK K hHeld
  try simp only [Act.put, List.setIfInBounds_toArray, List.set_cons_zero, List.set_cons_succ]
  have hHeld := MB.out w' HBU.out
  refine wpAnyH_take (i := 8) (oi := { dst := some 15, op := Op.nilCheck (Operand.tmp 7), type := 0, pos := "parse.go:106", after := #[{ on := 0, ground := Ground.data }, { on := 0, ground := Ground.phase }, { on := 1, ground := Ground.phase }, { on := 2, ground := Ground.phase }, { on := 3, ground := Ground.phase }, { on := 4, ground := Ground.phase }, { on := 5, ground := Ground.phase }, { on := 6, ground := Ground.phase }, { on := 7, ground := Ground.phase }], guard := none }) (v := ?_) rfl (by kernel_rfl) (by kernel_rfl) (by kernel_rfl) (fun _ _ _ h => h) (Or.inl ⟨by rfl, ?_⟩) (by assumption) ?_
  rotate_left
  · (intro w hSw; (try dsimp only at hSw); go_simp; try with_reducible rfl)
  try simp only [Act.put, List.setIfInBounds_toArray, List.set_cons_zero, List.set_cons_succ]
  refine wpAnyH_take (i := 9) (oi := { dst := some 16, op := Op.fieldAddr 63 (Operand.tmp 15) 3, type := 0, pos := "parse.go:106", after := #[{ on := 8, ground := Ground.data }, { on := 0, ground := Ground.phase }, { on := 1, ground := Ground.phase }, { on := 2, ground := Ground.phase }, { on := 3, ground := Ground.phase }, { on := 4, ground := Ground.phase }, { on := 5, ground := Ground.phase }, { on := 6, ground := Ground.phase }, { on := 7, ground := Ground.phase }], guard := none }) (v := ?_) rfl (by kernel_rfl) (by kernel_rfl) (by kernel_rfl) (fun _ _ _ h => h) (Or.inl ⟨by rfl, ?_⟩) (by assumption) ?_
  rotate_left
  · (intro w hSw; (try dsimp only at hSw); go_simp; try with_reducible rfl)
  try simp only [Act.put, List.setIfInBounds_toArray, List.set_cons_zero, List.set_cons_succ]
  refine wpAnyH_ready (rs := [10]) (by kernel_rfl) (by simp) ?_
  refine AllReadyH.cons (o := { dst := none, op := Op.store 22 (Operand.tmp 16) (Operand.tmp 14), type := 0, pos := "parse.go:106", after := #[{ on := 9, ground := Ground.data }, { on := 7, ground := Ground.data }, { on := 7, ground := Ground.chain }, { on := 0, ground := Ground.phase }, { on := 1, ground := Ground.phase }, { on := 2, ground := Ground.phase }, { on := 3, ground := Ground.phase }, { on := 4, ground := Ground.phase }, { on := 5, ground := Ground.phase }, { on := 6, ground := Ground.phase }, { on := 7, ground := Ground.phase }], guard := none }) rfl (fun K hK => ?_) AllReadyH.nil
  have wc : w'.cell? ⟨pb, 3, none⟩ = some v := cell_of_row _ _ 3 _ _ _ HWW.out
  have wf : w'.frozen? ⟨pb, 3, none⟩ = false := frz_row HWW.out 3
  go_simp
  have HBT := hid (show But1 pb v X (w'.setCell ⟨pb, 3, none⟩ (.slice va (n + 1) vc)) from fun k hk hne hv => (set_oth HWW.out 3 (.slice va (n + 1) vc) hne).trans (HBU.out k hk hne hv))
  refine hK.out _ _ ?_ (fun hHeld => ?_)
  · exact MB.out _ HBT.out
  clear hK K hHeld wc wf
  try simp only [Act.put, List.setIfInBounds_toArray, List.set_cons_zero, List.set_cons_succ]
  refine wpAnyH_done (by kernel_rfl) ?_ _
  clear hHeld
  have HFW := hid (show (w'.setCell ⟨pb, 3, none⟩ (.slice va (n + 1) vc)).heap[pb]? = some (.cells #[tv, .int .i64 (s.nx : Int), .int .i64 (s.ns : Int), .slice va (n + 1) vc, o] 63 (0, 0)) by rw [setCell_eq_setRow _ _ _ _ _ _ _ HWW.out, setRow_heap _ _ _ _ _ _ HWW.out]; rfl)
  have HGR := hid (own_grow (p := p) (kv := .slice ka kl kc) HEQ.out.2.1 HP1.out.parts (row_kept HKV.out (fun k hk => HB9.out.block k (row_at HKV.out hk).2.1)) (by rw [← HEQ.out.2.2.1, ← HEQ.out.2.2.2.1, ← HEQ.out.2.2.2.2]; exact HOW.out) HG.out HWW.out (fun k hk => set_oth HWW.out 3 (.slice va (n + 1) vc) hk))
  have HPU := hid (HP.out.morep (p := p) HFW.out (fun k h1 h2 h3 => HBT.out k h1 h2 h3) (by rw [← HEQ.out.2.1]; exact HGR.out) (by rw [← HEQ.out.2.1]; intro j hj k hk; (try dsimp only at hk); by_cases hjn : j = n; (rw [if_pos hjn] at hk; exact HKO.out k hk); rw [if_neg hjn] at hk; exact HP.out.apart j (by have := HEQ.out.2.1; omega) k hk) (by simpa using Nat.le_trans HB9.out.size HG.out.size) (fun j hj k hk => (by (try dsimp only at hk); by_cases hjn : j = n; (rw [if_pos hjn] at hk; exact HKX.out k hk); rw [if_neg hjn] at hk; exact HP.out.apx.kx j (by have := HEQ.out.2.1; omega) k hk)) (fun i j hi hj hne k hk he => (by (try dsimp only at hk he); have hnn := HEQ.out.2.1; by_cases h1 : i = n; (rw [if_pos h1] at hk; rw [if_neg (by omega)] at he; exact HKT.out j (by omega) k hk he); rw [if_neg h1] at hk; by_cases h2 : j = n; (rw [if_pos h2] at he; exact HKT.out i (by omega) k he hk); rw [if_neg h2] at he; exact HP.out.apx.two i j (by omega) (by omega) hne k hk he)))
  have HFU := hid (show Fp pb W v o (w'.setCell ⟨pb, 3, none⟩ (.slice va (n + 1) vc)) (.slice va (n + 1) vc) o from HF0.out.trans ⟨HG.out.os.trans HB9.out.os, HG.out.tape.trans HB9.out.tape, HG.out.output.trans HB9.out.output, by simpa using Nat.le_trans HB9.out.size HG.out.size, fun k h1 h2 h3 _ => HBT.out k h1 h2 h3, fun k hk => (by rcases HVB.out with e | e; (exact Or.inl (e ▸ hk)); right; rw [e] at hk; injection hk with hk; have := HB9.out.size; omega), fun k hk => Or.inl hk⟩)
  generalize w'.setCell ⟨pb, 3, none⟩ (.slice va (n + 1) vc) = U at *
  clear HR HB9 HP1 HOW HG HVB HBU HWW HBT HFW HGR
  have u4 : U.cell? ⟨pb, 4, none⟩ = some o := cell_of_row _ _ 4 _ _ _ HPU.out.box
  have HA := hid (show ∀ j u, ([.int .i64 off] : List Value)[j]? = some u → (U.alloc (.cells #[.int .i64 off] 3)).cell? ((⟨U.heap.size, 0, none⟩ : Addr).add j) = some u from fun j u hu => (by rw [Go.WideShapes.add_plain]; show (U.alloc (.cells #[.int .i64 off] 3)).cell? ⟨U.heap.size, 0 + j, none⟩ = _; rw [Nat.zero_add, cell_of_row _ _ j _ _ _ (heap_alloc_new U (.cells #[.int .i64 off] 3)), List.getElem?_toArray]; exact hu))
  have HO1 := hid (show ∀ u ∈ ([.int .i64 off] : List Value), u.oneCell' = true from fun u hu => (by simp only [List.mem_cons, List.not_mem_nil, or_false] at hu; subst hu; rfl))
  have HBB := hid (show B ≤ (U.alloc (.cells #[.int .i64 off] 3)).heap.size from (by have h1 := HPU.out.pbB; have h2 := lt_blk HPU.out.box; have h3 := (belowA U (.cells #[.int .i64 off] 3)).size; omega))
  go_upto_region 3 with (at_builtin; refine Ap.wpList_append_stays _ rfl _ _ 34 rfl B 3 i3 (.int .i64 0) 1 8 Tryz.underlying34 hi3 hz03 hz13 hz23 rfl (by decide) o s.os.length (s.os.map (Value.int .i64)) rfl (HPU.out.low (belowA U (.cells #[.int .i64 off] 3))).offs ⟨U.heap.size, 0, none⟩ 1 1 [.int .i64 off] rfl rfl HA.out HO1.out (by have := HLO.out; unfold maxLen; omega) (by have := HLO.out; omega) HBB.out (by decide) ?_)
  intro o' w2 ho hg _ hob
  obtain ⟨oa, oc, rfl⟩ : ∃ oa oc, o' = .slice oa (s.os.length + 1) oc := (by rcases ho.2 with ⟨_, h0⟩ | ⟨r, cap, cur, e, _⟩; (exact absurd h0 (by omega)); (exact ⟨_, _, e⟩))
  have HP2 := hid (HPU.out.low (belowA U (.cells #[.int .i64 off] 3)))
  have HBA := hid (belowA U (.cells #[.int .i64 off] 3))
  have HB2 := hid ((hg.block pb (lt_blk HP2.out.box) (fun e => type_box HP2.out.offs HP2.out.box (by decide) e.symm rfl)).trans HP2.out.box)
  have HO2 := hid ho
  have HG2 := hid hg
  have HOB := hid (show ∀ k, (Value.slice oa (s.os.length + 1) oc).ownBlock = some k → o.ownBlock = some k ∨ U.heap.size ≤ k from fun k hk => (by rcases hob with e | e; (exact Or.inl (e ▸ hk)); right; rw [e] at hk; injection hk with hk; have := HBA.out.size; omega))
  clear ho hg hob u4 HA HO1 HBB
  have wc : w2.cell? ⟨pb, 4, none⟩ = some o := cell_of_row _ _ 4 _ _ _ HB2.out
  have wf : w2.frozen? ⟨pb, 4, none⟩ = false := frz_row HB2.out 4
  go_upto_region 3 with (fail)
  have HFW := hid (show (w2.setCell ⟨pb, 4, none⟩ (Value.slice oa (s.os.length + 1) oc)).heap[pb]? = some (.cells #[tv, .int .i64 (s.nx : Int), .int .i64 (s.ns : Int), .slice va (n + 1) vc, (Value.slice oa (s.os.length + 1) oc)] 63 (0, 0)) by rw [setCell_eq_setRow _ _ _ _ _ _ _ HB2.out, setRow_heap _ _ _ _ _ _ HB2.out]; rfl)
  have HKK := hid (show ∀ k, k < U.heap.size → k ≠ pb → o.ownBlock ≠ some k → (w2.setCell ⟨pb, 4, none⟩ (Value.slice oa (s.os.length + 1) oc)).heap[k]? = U.heap[k]? from fun k h1 h2 h3 => (set_oth HB2.out 4 (Value.slice oa (s.os.length + 1) oc) h2).trans ((HG2.out.block k (Nat.lt_of_lt_of_le h1 HBA.out.size) (fun e => h3 e.symm)).trans (HBA.out.block k h1)))
  have HPE := hid (HPU.out.moreo (x := off) HFW.out HKK.out (row_kept (show OwnI w2 B (Value.slice oa (s.os.length + 1) oc) (s.os ++ [off]) from (by unfold OwnI; rw [List.length_append, List.map_append]; exact HO2.out)) (fun k hk => set_oth HB2.out 4 (Value.slice oa (s.os.length + 1) oc) (type_box HO2.out HB2.out (by decide) hk))) HOB.out (by simpa using Nat.le_trans HBA.out.size HG2.out.size))
  have HFE := hid (show Fp pb W v o (w2.setCell ⟨pb, 4, none⟩ (Value.slice oa (s.os.length + 1) oc)) (.slice va (n + 1) vc) (Value.slice oa (s.os.length + 1) oc) from HFU.out.trans ⟨HG2.out.os.trans HBA.out.os, HG2.out.tape.trans HBA.out.tape, HG2.out.output.trans HBA.out.output, by simpa using Nat.le_trans HBA.out.size HG2.out.size, fun k h1 h2 _ h4 => HKK.out k h1 h2 h4, fun k hk => Or.inl hk, HOB.out⟩)
  generalize w2.setCell ⟨pb, 4, none⟩ (Value.slice oa (s.os.length + 1) oc) = V at *
  have e3 : V.cell? ⟨pb, 3, none⟩ = some (.slice va (n + 1) vc) := cell_of_row _ _ 3 _ _ _ HFW.out
  clear wc wf
  go_wp2_with fail
  go_ret
  exact ⟨rfl, _, _, _, HPE.out, HFE.out⟩
end Go.Proofs.YtlhlpamciafocaaGreatDoor.L
