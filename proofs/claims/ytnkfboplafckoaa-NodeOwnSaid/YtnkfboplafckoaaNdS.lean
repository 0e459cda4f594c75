/- What package node's own formed, versionOf and kidOf answer. -/
import Derived.Test.YtnkfboplafckoaaNdR
import Derived.Deep.RegionHeld3


namespace Go.Proofs.Ytnkfboplafckoaa.nodes
set_option linter.unusedVariables false
set_option linter.unusedSimpArgs false
open Go.RowKit Go.Proofs.Ytnkfboplafckoaa.base Go.Proofs.Ytnkfboplafckoaa.quotas Go.Proofs.Ytnkfboplafckoaa.vers Go.Proofs.Ytnkfboplafckoaa.tm Go.Proofs.Ytnkfboplafckoaa.lies Go.Proofs.Ytnkfboplafckoaa.copies Go.Proofs.Ytnkfboplafckoaa.makes

theorem below_drewN {B : Nat} {w wr : World} (h : Below B w wr) (n : Nat) : Below B w (wr.drewN n) := h.trans ⟨rfl, rfl, rfl, Nat.le_refl _, fun _ _ => rfl⟩
def oneOk (x : T) (k : Int) : Bool := decide (x.k = k) && (if x.k = 1 then decide (x.n ≤ 2147483647) else true)
def allB : List T → List Int → Bool
  | x :: l, k :: ks => oneOk x k && allB l ks
  | _, _ => true
def formedB (t : T) (ks : List Int) : Bool := decide (t.k = 5) && (decide (t.l.length = ks.length) && allB t.l ks)
theorem allB_at {l : List T} {ks : List Int} {j : Nat} (hl : j < l.length) (hk : j < ks.length) : allB (l.drop j) (ks.drop j) = (oneOk l[j] ks[j] && allB (l.drop (j + 1)) (ks.drop (j + 1))) := by
  rw [List.drop_eq_getElem_cons hl, List.drop_eq_getElem_cons hk]; rfl
theorem allB_end {l : List T} {ks : List Int} {j : Nat} (hl : l.length ≤ j) : allB (l.drop j) (ks.drop j) = true := by
  rw [List.drop_eq_nil_of_le hl]; rfl
theorem numB_one (x : T) : oneOk x 1 = numB x := by
  unfold oneOk numB
  by_cases h : x.k = 1
  · rw [if_pos h]
  · rw [decide_eq_false h]; rfl
theorem kind_one (x : T) {k : Int} (h : k ≠ 1) : oneOk x k = decide (x.k = k) := by
  unfold oneOk
  by_cases h1 : x.k = k
  · rw [if_neg (by omega), Bool.and_true]
  · rw [decide_eq_false h1]; rfl
theorem formed_ver (t : T) : formedB t [1, 2, 2] = verB t := by
  unfold formedB verB
  congr 1
  split
  · rename_i a b c e
    rw [e]
    simp [allB, numB_one, kind_one, Bool.and_assoc]
  · rename_i e
    have : ¬ t.l.length = 3 := fun h3 => by
      match hl : t.l, h3 with
      | [a, b, c], _ => exact e a b c hl
    simp [this]
theorem formed_kid (t : T) : formedB t [2, 3, 1, 1, 1] = kidB t := by
  unfold formedB kidB
  congr 1
  split
  · rename_i a b c d f e
    rw [e]
    simp [allB, numB_one, kind_one, Bool.and_assoc]
  · rename_i e
    have : ¬ t.l.length = 5 := fun h3 => by
      match hl : t.l, h3 with
      | [a, b, c, d, f], _ => exact e a b c d f hl
    simp [this]

set_option maxRecDepth 100000 in
set_option maxHeartbeats 1000000 in
theorem formed_no1 (t : T) (u v : Value) (w : World) (hk : ¬ t.k = 5) :
    Calls Try.prog 112 #[.agg #[.int .i64 t.k, .int .u64 t.n, .string t.s, u], v] w fun e w' => e = .returned (.bool false) ∧ Below w.heap.size w w' := by
  have d1 : (t.k != 5) = true := by simpa using hk
  clear hk
  go_enter Try.func112, Try.ntmps112
  go_wp2_with fail
  go_ret
  exact ⟨rfl, (Below.refl _ _).alloc (Nat.le_refl _) _⟩

set_option maxRecDepth 100000 in
set_option maxHeartbeats 1000000 in
theorem formed_no2 (k n : Int) (s : ByteArray) (A Ak : Option Addr) (nl nk c ck : Nat) (w : World) (hk : k = 5) (hn : ¬ nl = nk) (hm : nl ≤ 140737488355328) (hm2 : nk ≤ 140737488355328) :
    Calls Try.prog 112 #[.agg #[.int .i64 k, .int .u64 n, .string s, .slice A nl c], .slice Ak nk ck] w fun e w' => e = .returned (.bool false) ∧ Below w.heap.size w w' := by
  have d1 : (k != 5) = false := by simp [hk]
  have d2 : ((nl : Int) != (nk : Int)) = true := by simp; omega
  clear hk hn
  go_enter Try.func112, Try.ntmps112
  go_wp2_with fail
  go_ret
  exact ⟨rfl, (Below.refl _ _).alloc (Nat.le_refl _) _⟩

set_option maxRecDepth 100000 in
set_option maxHeartbeats 1000000 in
theorem formed_loop (n : Int) (s : ByteArray) (l : List T) (ks : List Int) (A Ak : Option Addr) (c ck : Nat) (w : World) (h : LiesS w w.heap.size l A c) (hr : Rd w w.heap.size Ak (ks.map (Value.int .i64))) (hl : l.length = ks.length) :
    Calls Try.prog 112 #[.agg #[.int .i64 5, .int .u64 n, .string s, .slice A l.length c], .slice Ak l.length ck] w fun e w' => e = .returned (.bool (allB l ks)) ∧ Below w.heap.size w w' := by
  have hlen : l.length ≤ 140737488355328 := by obtain ⟨_, _, h2, _⟩ := h; omega
  have HL := vers.lay hl
  clear hl
  go_enter Try.func112, Try.ntmps112
  go_wp2_with fail
  have b0 : Below w.heap.size w (w.alloc (.cells #[.int .i64 5, .int .u64 n, .string s, .slice A l.length c] 31)) := (Below.refl _ _).alloc (Nat.le_refl _) _
  go_loopw [21] (fun x wr => ∃ j : Nat, j ≤ l.length ∧ x = .int .i64 j ∧ Hid (allB l ks = allB (l.drop j) (ks.drop j)) ∧ Below w.heap.size w wr) (fun x _ => l.length - (intOf x).toNat)
  case atStart => exact ⟨0, Nat.zero_le _, rfl, vers.lay rfl, b0⟩
  case round =>
    clear b0
    obtain ⟨j, hj, rfl, hV, bw⟩ := hrel
    by_cases hlt : j < l.length
    · have hlt2 : j < ks.length := by have := HL.out; omega
      obtain ⟨b, off, A1, c1, rfl, hb, _, p0, p1, p2, p3⟩ := S_at (S_keep h bw) hlt
      obtain ⟨b2, off2, rfl, hb2, r0⟩ := (hr.below bw).at_ (k := j) (by simpa using hlt2)
      simp only [List.getElem_map] at r0
      have hat := vers.lay (allB_at (l := l) (ks := ks) hlt hlt2)
      have hone := vers.lay (show oneOk l[j] ks[j] = _ from rfl)
      unfold oneOk at hone
      generalize l[j].l.length = nl at p3
      have D1 : Below wr.heap.size wr (wr.alloc (.cells #[.int .i64 l[j].k, .int .u64 l[j].n, .string l[j].s, .slice A1 nl c1] 31)) := (Below.refl _ _).alloc (Nat.le_refl _) _
      have b3 := bw.trans (D1.mono bw.size)
      have hb3 : b2 < wr.heap.size := Nat.lt_of_lt_of_le hb2 bw.size
      have j0 : (0 : Int) ≤ (j : Int) := by omega
      have j1 : (j : Int) < (l.length : Int) := by omega
      by_cases g1 : l[j].k = ks[j]
      · have d1 : (l[j].k != ks[j]) = false := by simp [g1]
        by_cases g2 : l[j].k = 1
        · have d2 : (l[j].k == 1) = true := by simp [g2]
          by_cases g3 : (2147483647 : Int) < l[j].n
          · have d3 : decide ((2147483647 : Int) < l[j].n) = true := decide_eq_true g3
            have hres : Hid (allB l ks = false) := vers.lay (by rw [hV.out, hat.out]; unfold oneOk; rw [if_pos g2, decide_eq_false (show ¬ l[j].n ≤ 2147483647 by omega)]; simp)
            clear g1 g2 g3 hone hat hV
            go_wp2_with fail
            go_quiet (fail)
            go_wp2_with fail
            go_ret
            exact ⟨vers.ret_bool hres.out.symm, below_drewN b3 _⟩
          · have d3 : decide ((2147483647 : Int) < l[j].n) = false := decide_eq_false g3
            have hV2 : Hid (allB l ks = allB (l.drop (j + 1)) (ks.drop (j + 1))) := vers.lay (by rw [hV.out, hat.out]; unfold oneOk; rw [if_pos g2, decide_eq_true (show l[j].n ≤ 2147483647 by omega), decide_eq_true g1]; simp)
            clear g1 g2 g3 hone hat hV
            go_wp2_with fail
            go_quiet (fail)
            go_wp2_with fail
            exact ⟨⟨j + 1, hlt, by go_num, hV2, below_drewN b3 _⟩, by simp [intOf]; omega⟩
        · have d2 : (l[j].k == 1) = false := by simpa using g2
          have hV2 : Hid (allB l ks = allB (l.drop (j + 1)) (ks.drop (j + 1))) := vers.lay (by rw [hV.out, hat.out]; unfold oneOk; rw [if_neg g2, decide_eq_true g1]; simp)
          clear g1 g2 hone hat hV
          go_wp2_with fail
          go_quiet (fail)
          go_wp2_with fail
          exact ⟨⟨j + 1, hlt, by go_num, hV2, below_drewN b3 _⟩, by simp [intOf]; omega⟩
      · have d1 : (l[j].k != ks[j]) = true := by simpa using g1
        have hres : Hid (allB l ks = false) := vers.lay (by rw [hV.out, hat.out]; unfold oneOk; rw [decide_eq_false g1]; simp)
        clear g1 hone hat hV
        go_wp2_with fail
        go_quiet (fail)
        go_wp2_with fail
        go_ret
        exact ⟨vers.ret_bool hres.out.symm, below_drewN b3 _⟩
    · have hres : Hid (allB l ks = true) := vers.lay (by rw [hV.out]; exact allB_end (by omega))
      go_wp2_with fail
      go_ret
      exact ⟨vers.ret_bool hres.out.symm, bw⟩

theorem formed_all (t : T) (ks : List Int) (A Ak : Option Addr) (c ck nk : Nat) (w : World) (h : LiesS w w.heap.size t.l A c) (hr : Rd w w.heap.size Ak (ks.map (Value.int .i64))) (hnk : ks.length = nk) (hk8 : nk ≤ 8) :
    Calls Try.prog 112 #[.agg #[.int .i64 t.k, .int .u64 t.n, .string t.s, .slice A t.l.length c], .slice Ak nk ck] w fun e w' => e = .returned (.bool (formedB t ks)) ∧ Below w.heap.size w w' := by
  subst hnk
  by_cases h5 : t.k = 5
  · by_cases hl : t.l.length = ks.length
    · rw [show formedB t ks = allB t.l ks by unfold formedB; rw [decide_eq_true h5, decide_eq_true hl]; rfl]
      obtain ⟨k, n, s, l⟩ := t
      cases (show k = 5 from h5)
      have e : ks.length = l.length := hl.symm
      rw [e]
      exact formed_loop n s l ks A Ak c ck w h hr hl
    · rw [show formedB t ks = false by unfold formedB; rw [decide_eq_false hl]; simp]
      exact formed_no2 t.k t.n t.s A Ak t.l.length ks.length c ck w h5 hl (by obtain ⟨_, _, h2, _⟩ := h; omega) (by omega)
  · rw [show formedB t ks = false by unfold formedB; rw [decide_eq_false h5]; rfl]
    exact formed_no1 t _ _ w h5

/-- behind the reference's making -/
def Kb5 (w : World) (b o g : Nat) (s : ByteArray) (n1 n2 n3 n4 : Int) (wr : World) : Prop := (wr.cell? ⟨b, o, none⟩ = some (.string s) ∧ wr.cell? ⟨g, 0, none⟩ = some (.int .u64 n1) ∧ wr.cell? ⟨g, 1, none⟩ = some (.int .i64 n2) ∧ wr.cell? ⟨g, 2, none⟩ = some (.int .i64 n3) ∧ wr.cell? ⟨g, 3, none⟩ = some (.int .i64 n4)) ∧ g < wr.heap.size ∧ b < wr.heap.size ∧ Blk wr (w.heap.size + 1) 43 #[.string ⟨#[]⟩, .int .u64 0, .int .i64 0, .int .i64 0, .int .i64 0] ∧ Below w.heap.size w wr
theorem Kb5.next {w wr w' : World} {b o g : Nat} {s : ByteArray} {n1 n2 n3 n4 : Int} (h : Kb5 w b o g s n1 n2 n3 n4 wr) (hb : Below wr.heap.size wr w') : Kb5 w b o g s n1 n2 n3 n4 w' := by
  obtain ⟨⟨h0, h1, h2, h3, h4⟩, hg, hbb, hk, hw⟩ := h
  have hs := hb.size
  refine ⟨⟨?_, ?_, ?_, ?_, ?_⟩, by omega, by omega, hk.below hb hk.lt, hw.trans (hb.mono hw.size)⟩
  · rw [hb.cell (by simpa using hbb)]; exact h0
  all_goals (rw [hb.cell (by simpa using hg)]; assumption)

/-- what is read of a term, or nothing -/
def verR (t : T) : V := if verB t = true then toV t else ⟨0, ⟨#[]⟩, ⟨#[]⟩⟩

set_option maxRecDepth 100000 in
set_option maxHeartbeats 1000000 in
theorem versionOf_no (t : T) (A : Option Addr) (c : Nat) (w : World) (h : LiesS w w.heap.size t.l A c) (hb : verB t = false) :
    Calls Try.prog 111 #[.agg #[.int .i64 t.k, .int .u64 t.n, .string t.s, .slice A t.l.length c]] w fun e w' => e = .returned (.tuple #[.agg #[.int .i64 0, .string ⟨#[]⟩, .string ⟨#[]⟩], .bool false]) ∧ Below w.heap.size w w' := by
  have k1 := (Blk.new (w.alloc (.cells #[.int .i64 t.k, .int .u64 t.n, .string t.s, .slice A t.l.length c] 31)) 55 #[.int .i64 0, .string ⟨#[]⟩, .string ⟨#[]⟩]).alloc (.cells #[.int .i64 1, .int .i64 2, .int .i64 2] 3)
  have k2 := Blk.new ((w.alloc (.cells #[.int .i64 t.k, .int .u64 t.n, .string t.s, .slice A t.l.length c] 31)).alloc (.cells #[.int .i64 0, .string ⟨#[]⟩, .string ⟨#[]⟩] 55)) 3 #[.int .i64 1, .int .i64 2, .int .i64 2]
  have b0 : Below w.heap.size w (((w.alloc (.cells #[.int .i64 t.k, .int .u64 t.n, .string t.s, .slice A t.l.length c] 31)).alloc (.cells #[.int .i64 0, .string ⟨#[]⟩, .string ⟨#[]⟩] 55)).alloc (.cells #[.int .i64 1, .int .i64 2, .int .i64 2] 3)) := (((Below.refl _ _).alloc (Nat.le_refl _) _).alloc (by simp) _).alloc (by simp; omega) _
  have hc := formed_all t [1, 2, 2] A (some ⟨w.heap.size + 2, 0, none⟩) c 3 3 _ (S_world h b0) (Blk.rd (xs := ([1, 2, 2] : List Int).map (Value.int .i64)) (by simpa using k2) (by simp)) rfl (by decide)
  simp only [World.size_alloc] at k1 k2
  rw [formed_ver, hb] at hc
  have hlen : t.l.length ≤ 140737488355328 := by obtain ⟨_, _, h2, _⟩ := h; omega
  clear h hb k2
  generalize t.l.length = nl at k1 b0 hc ⊢
  go_enter Try.func111, Try.ntmps111
  go_wp2_with fail
  refine hc.mono ?_
  rintro e w1 ⟨rfl, hb1⟩
  have k3 := k1.below hb1 (by simp)
  have b1 := b0.trans (hb1.mono b0.size)
  have z0 := k3.cell 0
  have z1 := k3.cell 1
  have z2 := k3.cell 2
  simp at z0 z1 z2
  have f0 := k3.frozen 0
  have f1 := k3.frozen 1
  have f2 := k3.frozen 2
  go_wp2_with fail
  refine bodyPost_ret (v := .tuple #[.agg #[.int .i64 0, .string ⟨#[]⟩, .string ⟨#[]⟩], .bool false]) (by simp [results, Try.results111, go_sem, z0, z1, z2]) rfl ⟨rfl, ?_⟩
  exact (((b1.setCell (Nat.le_succ _) _).setCell (Nat.le_succ _) _).setCell (Nat.le_succ _) _)

/-- behind formed: the list's cells, the answer's box -/
def Vb3 (w : World) (b off : Nat) (x0 x1 x2 : T) (u0 u1 u2 : Value) (wr : World) : Prop := L3 wr b off x0 x1 x2 u0 u1 u2 ∧ Blk wr (w.heap.size + 1) 55 #[.int .i64 0, .string ⟨#[]⟩, .string ⟨#[]⟩] ∧ Below w.heap.size w wr ∧ b < wr.heap.size
theorem Vb3.next {w wr w' : World} {b off : Nat} {x0 x1 x2 : T} {u0 u1 u2 : Value} (h : Vb3 w b off x0 x1 x2 u0 u1 u2 wr) (hb : Below wr.heap.size wr w') : Vb3 w b off x0 x1 x2 u0 u1 u2 w' := by
  obtain ⟨h1, h2, h3, h4⟩ := h
  have hs := hb.size
  exact ⟨h1.next hb h4, h2.below hb h2.lt, h3.trans (hb.mono h3.size), by omega⟩

set_option maxRecDepth 100000 in
set_option maxHeartbeats 1000000 in
theorem versionOf_yes (m : Int) (s : ByteArray) (x0 x1 x2 : T) (b off c : Nat) (u0 u1 u2 : Value) (w : World) (hb : b < w.heap.size) (hl : L3 w b off x0 x1 x2 u0 u1 u2) (h : LiesS w w.heap.size [x0, x1, x2] (some ⟨b, off, none⟩) c) (hv : verB (T.mk 5 m s [x0, x1, x2]) = true) (h0 : 0 ≤ x0.n ∧ x0.n ≤ 2147483647) :
    Calls Try.prog 111 #[.agg #[.int .i64 5, .int .u64 m, .string s, .slice (some ⟨b, off, none⟩) 3 c]] w fun e w' => e = .returned (.tuple #[.agg #[.int .i64 x0.n, .string x1.s, .string x2.s], .bool true]) ∧ Below w.heap.size w w' := by
  have k1 := (Blk.new (w.alloc (.cells #[.int .i64 5, .int .u64 m, .string s, .slice (some ⟨b, off, none⟩) 3 c] 31)) 55 #[.int .i64 0, .string ⟨#[]⟩, .string ⟨#[]⟩]).alloc (.cells #[.int .i64 1, .int .i64 2, .int .i64 2] 3)
  have t1 := ((Blk.new w 31 #[.int .i64 5, .int .u64 m, .string s, .slice (some ⟨b, off, none⟩) 3 c]).alloc (.cells #[.int .i64 0, .string ⟨#[]⟩, .string ⟨#[]⟩] 55)).alloc (.cells #[.int .i64 1, .int .i64 2, .int .i64 2] 3)
  have k2 := Blk.new ((w.alloc (.cells #[.int .i64 5, .int .u64 m, .string s, .slice (some ⟨b, off, none⟩) 3 c] 31)).alloc (.cells #[.int .i64 0, .string ⟨#[]⟩, .string ⟨#[]⟩] 55)) 3 #[.int .i64 1, .int .i64 2, .int .i64 2]
  have b0 : Below w.heap.size w (((w.alloc (.cells #[.int .i64 5, .int .u64 m, .string s, .slice (some ⟨b, off, none⟩) 3 c] 31)).alloc (.cells #[.int .i64 0, .string ⟨#[]⟩, .string ⟨#[]⟩] 55)).alloc (.cells #[.int .i64 1, .int .i64 2, .int .i64 2] 3)) := (((Below.refl _ _).alloc (Nat.le_refl _) _).alloc (by simp) _).alloc (by simp; omega) _
  have hc := formed_all (T.mk 5 m s [x0, x1, x2]) [1, 2, 2] (some ⟨b, off, none⟩) (some ⟨w.heap.size + 2, 0, none⟩) c 3 3 _ (S_world h b0) (Blk.rd (xs := ([1, 2, 2] : List Int).map (Value.int .i64)) (by simpa using k2) (by simp)) rfl (by decide)
  simp only [World.size_alloc] at k1 k2
  rw [formed_ver, hv] at hc
  simp only [T.k, T.n, T.s, T.l] at hc
  have V0 : Vb3 w b off x0 x1 x2 u0 u1 u2 _ := ⟨hl.next b0 hb, k1, b0, by simp; omega⟩
  have e0 : IntKind.i64.wrap x0.n = x0.n := IntWalk.i64_in _ (by omega)
  clear h hv k2 k1 hl
  go_enter Try.func111, Try.ntmps111
  go_wp2_with fail
  refine hc.mono ?_
  rintro e w1 ⟨rfl, hb1⟩
  have V1 := V0.next hb1
  have t2 := t1.below hb1 (by simp; omega)
  have y3 := t2.cell 3
  simp at y3
  clear V0 hc hb1 t1 b0
  have lt2 := t2.lt
  obtain ⟨⟨⟨a00, a01, a02, a03⟩, ⟨a10, a11, a12, a13⟩, ⟨a20, a21, a22, a23⟩⟩, k3, b1, lb⟩ := id V1
  go_wp2_with fail
  obtain ⟨N, hN, hM⟩ := norms _ _ V1
  have hne : Nonempty World := ⟨w⟩
  have q0 := fun n => (hN n).1.1.2.1
  have q1 := fun n => (hN n).1.2.1.2.2.1
  have q2 := fun n => (hN n).1.2.2.2.2.1
  have q3 := fun n => (hN n).2.2.2
  refine mix.region_tail 13 N (by kernel_rfl) (by kernel_rfl) (hM _ (V1.next ((Below.refl _ _).drew))) ?_
  simp only [List.take_succ_cons, List.take_zero, List.drop_succ_cons, List.drop_zero]
  clear a00 a01 a02 a03 a10 a11 a12 a13 a20 a21 a22 a23 k3 b1 lb V1 y3 t2 lt2
  repeat (go_big_quiet_step (fail))
  refine wpQuiet_nil ?_
  rintro _ ⟨n, rfl⟩
  have V9 := hN n
  generalize N n = w9 at V9 ⊢
  clear hM hN N n hne q0 q1 q2 q3
  obtain ⟨_, k9, b9, _⟩ := V9
  have lt1 := k9.lt
  have z0 := k9.cell 0
  have z1 := k9.cell 1
  have z2 := k9.cell 2
  simp at z0 z1 z2
  have f0 := k9.frozen 0
  have f1 := k9.frozen 1
  have f2 := k9.frozen 2
  go_wp2_with fail
  refine bodyPost_ret (v := .tuple #[.agg #[.int .i64 x0.n, .string x1.s, .string x2.s], .bool true]) (by simp [results, Try.results111, go_sem, z0, z1, z2, e0]) rfl ⟨rfl, ?_⟩
  exact b9 |> fun q => ((q.setCell (Nat.le_succ _) _).setCell (Nat.le_succ _) _).setCell (Nat.le_succ _) _

/-- what is read of a term, or nothing -/
def kidR (t : T) : K := if kidB t = true then toK t else ⟨⟨#[]⟩, 0, 0, 0, 0⟩

set_option maxRecDepth 100000 in
set_option maxHeartbeats 1000000 in
theorem kidOf_no (t : T) (A : Option Addr) (c : Nat) (w : World) (h : LiesS w w.heap.size t.l A c) (hb : kidB t = false) :
    Calls Try.prog 91 #[.agg #[.int .i64 t.k, .int .u64 t.n, .string t.s, .slice A t.l.length c]] w fun e w' => e = .returned (.tuple #[.agg #[.string ⟨#[]⟩, .int .u64 0, .int .i64 0, .int .i64 0, .int .i64 0], .bool false]) ∧ Below w.heap.size w w' := by
  have k1 := (Blk.new (w.alloc (.cells #[.int .i64 t.k, .int .u64 t.n, .string t.s, .slice A t.l.length c] 31)) 43 #[.string ⟨#[]⟩, .int .u64 0, .int .i64 0, .int .i64 0, .int .i64 0]).alloc (.cells #[.int .i64 2, .int .i64 3, .int .i64 1, .int .i64 1, .int .i64 1] 3)
  have k2 := Blk.new ((w.alloc (.cells #[.int .i64 t.k, .int .u64 t.n, .string t.s, .slice A t.l.length c] 31)).alloc (.cells #[.string ⟨#[]⟩, .int .u64 0, .int .i64 0, .int .i64 0, .int .i64 0] 43)) 3 #[.int .i64 2, .int .i64 3, .int .i64 1, .int .i64 1, .int .i64 1]
  have b0 : Below w.heap.size w (((w.alloc (.cells #[.int .i64 t.k, .int .u64 t.n, .string t.s, .slice A t.l.length c] 31)).alloc (.cells #[.string ⟨#[]⟩, .int .u64 0, .int .i64 0, .int .i64 0, .int .i64 0] 43)).alloc (.cells #[.int .i64 2, .int .i64 3, .int .i64 1, .int .i64 1, .int .i64 1] 3)) := (((Below.refl _ _).alloc (Nat.le_refl _) _).alloc (by simp) _).alloc (by simp; omega) _
  have hc := formed_all t [2, 3, 1, 1, 1] A (some ⟨w.heap.size + 2, 0, none⟩) c 5 5 _ (S_world h b0) (Blk.rd (xs := ([2, 3, 1, 1, 1] : List Int).map (Value.int .i64)) (by simpa using k2) (by simp)) rfl (by decide)
  simp only [World.size_alloc] at k1 k2
  rw [formed_kid, hb] at hc
  have hlen : t.l.length ≤ 140737488355328 := by obtain ⟨_, _, h2, _⟩ := h; omega
  clear h hb k2
  generalize t.l.length = nl at k1 b0 hc ⊢
  go_enter Try.func91, Try.ntmps91
  go_wp2_with fail
  refine hc.mono ?_
  rintro e w1 ⟨rfl, hb1⟩
  have k3 := k1.below hb1 (by simp)
  have b1 := b0.trans (hb1.mono b0.size)
  have z0 := k3.cell 0
  have z1 := k3.cell 1
  have z2 := k3.cell 2
  have z3 := k3.cell 3
  have z4 := k3.cell 4
  simp at z0 z1 z2 z3 z4
  have f0 := k3.frozen 0
  have f1 := k3.frozen 1
  have f2 := k3.frozen 2
  have f3 := k3.frozen 3
  have f4 := k3.frozen 4
  go_wp2_with fail
  refine bodyPost_ret (v := .tuple #[.agg #[.string ⟨#[]⟩, .int .u64 0, .int .i64 0, .int .i64 0, .int .i64 0], .bool false]) (by simp [results, Try.results91, go_sem, z0, z1, z2, z3, z4]) rfl ⟨rfl, ?_⟩
  exact (((((b1.setCell (Nat.le_succ _) _).setCell (Nat.le_succ _) _).setCell (Nat.le_succ _) _).setCell (Nat.le_succ _) _).setCell (Nat.le_succ _) _)

/-- behind formed: the list's cells, the answer's box -/
def Vb5 (w : World) (b off : Nat) (x0 x1 x2 x3 x4 : T) (u0 u1 u2 u3 u4 : Value) (wr : World) : Prop := L5 wr b off x0 x1 x2 x3 x4 u0 u1 u2 u3 u4 ∧ Blk wr (w.heap.size + 1) 43 #[.string ⟨#[]⟩, .int .u64 0, .int .i64 0, .int .i64 0, .int .i64 0] ∧ Below w.heap.size w wr ∧ b < wr.heap.size
theorem Vb5.next {w wr w' : World} {b off : Nat} {x0 x1 x2 x3 x4 : T} {u0 u1 u2 u3 u4 : Value} (h : Vb5 w b off x0 x1 x2 x3 x4 u0 u1 u2 u3 u4 wr) (hb : Below wr.heap.size wr w') : Vb5 w b off x0 x1 x2 x3 x4 u0 u1 u2 u3 u4 w' := by
  obtain ⟨h1, h2, h3, h4⟩ := h
  have hs := hb.size
  exact ⟨h1.next hb h4, h2.below hb h2.lt, h3.trans (hb.mono h3.size), by omega⟩

set_option maxRecDepth 100000 in
set_option maxHeartbeats 1000000 in
theorem kidOf_yes (m : Int) (s : ByteArray) (x0 x1 x2 x3 x4 : T) (b off c : Nat) (u0 u1 u2 u3 u4 : Value) (w : World) (hb : b < w.heap.size) (hl : L5 w b off x0 x1 x2 x3 x4 u0 u1 u2 u3 u4) (h : LiesS w w.heap.size [x0, x1, x2, x3, x4] (some ⟨b, off, none⟩) c) (hv : kidB (T.mk 5 m s [x0, x1, x2, x3, x4]) = true) (h2 : 0 ≤ x2.n ∧ x2.n ≤ 2147483647) (h3 : 0 ≤ x3.n ∧ x3.n ≤ 2147483647) (h4 : 0 ≤ x4.n ∧ x4.n ≤ 2147483647) :
    Calls Try.prog 91 #[.agg #[.int .i64 5, .int .u64 m, .string s, .slice (some ⟨b, off, none⟩) 5 c]] w fun e w' => e = .returned (.tuple #[.agg #[.string x0.s, .int .u64 x1.n, .int .i64 x2.n, .int .i64 x3.n, .int .i64 x4.n], .bool true]) ∧ Below w.heap.size w w' := by
  have k1 := (Blk.new (w.alloc (.cells #[.int .i64 5, .int .u64 m, .string s, .slice (some ⟨b, off, none⟩) 5 c] 31)) 43 #[.string ⟨#[]⟩, .int .u64 0, .int .i64 0, .int .i64 0, .int .i64 0]).alloc (.cells #[.int .i64 2, .int .i64 3, .int .i64 1, .int .i64 1, .int .i64 1] 3)
  have t1 := ((Blk.new w 31 #[.int .i64 5, .int .u64 m, .string s, .slice (some ⟨b, off, none⟩) 5 c]).alloc (.cells #[.string ⟨#[]⟩, .int .u64 0, .int .i64 0, .int .i64 0, .int .i64 0] 43)).alloc (.cells #[.int .i64 2, .int .i64 3, .int .i64 1, .int .i64 1, .int .i64 1] 3)
  have k2 := Blk.new ((w.alloc (.cells #[.int .i64 5, .int .u64 m, .string s, .slice (some ⟨b, off, none⟩) 5 c] 31)).alloc (.cells #[.string ⟨#[]⟩, .int .u64 0, .int .i64 0, .int .i64 0, .int .i64 0] 43)) 3 #[.int .i64 2, .int .i64 3, .int .i64 1, .int .i64 1, .int .i64 1]
  have b0 : Below w.heap.size w (((w.alloc (.cells #[.int .i64 5, .int .u64 m, .string s, .slice (some ⟨b, off, none⟩) 5 c] 31)).alloc (.cells #[.string ⟨#[]⟩, .int .u64 0, .int .i64 0, .int .i64 0, .int .i64 0] 43)).alloc (.cells #[.int .i64 2, .int .i64 3, .int .i64 1, .int .i64 1, .int .i64 1] 3)) := (((Below.refl _ _).alloc (Nat.le_refl _) _).alloc (by simp) _).alloc (by simp; omega) _
  have hc := formed_all (T.mk 5 m s [x0, x1, x2, x3, x4]) [2, 3, 1, 1, 1] (some ⟨b, off, none⟩) (some ⟨w.heap.size + 2, 0, none⟩) c 5 5 _ (S_world h b0) (Blk.rd (xs := ([2, 3, 1, 1, 1] : List Int).map (Value.int .i64)) (by simpa using k2) (by simp)) rfl (by decide)
  simp only [World.size_alloc] at k1 k2
  rw [formed_kid, hv] at hc
  simp only [T.k, T.n, T.s, T.l] at hc
  have V0 : Vb5 w b off x0 x1 x2 x3 x4 u0 u1 u2 u3 u4 _ := ⟨hl.next b0 hb, k1, b0, by simp; omega⟩
  have e2 : IntKind.i64.wrap x2.n = x2.n := IntWalk.i64_in _ (by omega)
  have e3 : IntKind.i64.wrap x3.n = x3.n := IntWalk.i64_in _ (by omega)
  have e4 : IntKind.i64.wrap x4.n = x4.n := IntWalk.i64_in _ (by omega)
  clear h hv k2 k1 hl
  go_enter Try.func91, Try.ntmps91
  go_wp2_with fail
  refine hc.mono ?_
  rintro e w1 ⟨rfl, hb1⟩
  have V1 := V0.next hb1
  have t2 := t1.below hb1 (by simp; omega)
  have y3 := t2.cell 3
  simp at y3
  clear V0 hc hb1 t1 b0
  have lt2 := t2.lt
  obtain ⟨⟨⟨a00, a01, a02, a03⟩, ⟨a10, a11, a12, a13⟩, ⟨a20, a21, a22, a23⟩, ⟨a30, a31, a32, a33⟩, ⟨a40, a41, a42, a43⟩⟩, k3, b1, lb⟩ := id V1
  go_wp2_with fail
  clear V1
  go_region_held3 (fun w' => w'.cell? ⟨b, off + 4 + 1, none⟩ = some (.int .u64 x1.n) ∧ w'.cell? ⟨b, off + 8 + 1, none⟩ = some (.int .u64 x2.n) ∧ w'.cell? ⟨b, off + 12 + 1, none⟩ = some (.int .u64 x3.n) ∧ w'.cell? ⟨b, off + 16 + 1, none⟩ = some (.int .u64 x4.n)) (go_keep) (fail)
  have R5 : Kb5 w b (off + 2) w1.heap.size x0.s x1.n x2.n x3.n x4.n ((w1.alloc (.cells #[.int .u64 x1.n, .int .i64 x2.n, .int .i64 x3.n, .int .i64 x4.n] 41)).drew) := by
    have kr := Blk.new w1 41 #[.int .u64 x1.n, .int .i64 x2.n, .int .i64 x3.n, .int .i64 x4.n]
    have D : Below w1.heap.size w1 (w1.alloc (.cells #[.int .u64 x1.n, .int .i64 x2.n, .int .i64 x3.n, .int .i64 x4.n] 41)).drew := ((Below.refl _ _).alloc (Nat.le_refl _) _).drew
    exact ⟨⟨(D.cell (by simpa using lb)).trans a02, kr.cell 0, kr.cell 1, kr.cell 2, kr.cell 3⟩, by simp, Nat.lt_of_lt_of_le lb D.size, k3.below D k3.lt, b1.trans (D.mono b1.size)⟩
  clear a00 a01 a02 a03 a10 a11 a12 a13 a20 a21 a22 a23 a30 a31 a32 a33 a40 a41 a42 a43 k3 b1 lb y3 t2 lt2
  go_wp2_with fail
  generalize w1.heap.size = g at R5 ⊢
  obtain ⟨N, hN, hM⟩ := norms _ _ R5
  have hne : Nonempty World := ⟨w⟩
  have q0 := fun n => (hN n).1.1
  have q1 := fun n => (hN n).1.2.1
  have q2 := fun n => (hN n).1.2.2.1
  have q3 := fun n => (hN n).1.2.2.2.1
  have q4 := fun n => (hN n).1.2.2.2.2
  have q5 := fun n => (hN n).2.1
  have q6 := fun n => (hN n).2.2.1
  refine mix.region_tail 5 N (by kernel_rfl) (by kernel_rfl) (hM _ (R5.next ((Below.refl _ _).drew))) ?_
  simp only [List.take_succ_cons, List.take_zero, List.drop_succ_cons, List.drop_zero]
  clear R5
  repeat (go_big_quiet_step (fail))
  refine wpQuiet_nil ?_
  rintro _ ⟨n, rfl⟩
  have V9 := hN n
  generalize N n = w9 at V9 ⊢
  clear hM hN N n hne q0 q1 q2 q3 q4 q5 q6
  obtain ⟨_, _, _, k9, b9⟩ := V9
  have lt1 := k9.lt
  have z0 := k9.cell 0
  have z1 := k9.cell 1
  have z2 := k9.cell 2
  have z3 := k9.cell 3
  have z4 := k9.cell 4
  simp at z0 z1 z2 z3 z4
  have f0 := k9.frozen 0
  have f1 := k9.frozen 1
  have f2 := k9.frozen 2
  have f3 := k9.frozen 3
  have f4 := k9.frozen 4
  go_wp2_with fail
  refine bodyPost_ret (v := .tuple #[.agg #[.string x0.s, .int .u64 x1.n, .int .i64 x2.n, .int .i64 x3.n, .int .i64 x4.n], .bool true]) (by simp [results, Try.results91, go_sem, z0, z1, z2, z3, z4, e2, e3, e4]) rfl ⟨rfl, ?_⟩
  exact b9 |> fun q => ((((q.setCell (Nat.le_succ _) _).setCell (Nat.le_succ _) _).setCell (Nat.le_succ _) _).setCell (Nat.le_succ _) _).setCell (Nat.le_succ _) _

theorem S_fits {w : World} {B : Nat} {l : List T} {A : Option Addr} {c : Nat} (h : LiesS w B l A c) {x : T} (hx : x ∈ l) : (0 ≤ x.n ∧ x.n < 18446744073709551616) ∧ x.s.size ≤ maxLen := by
  obtain ⟨j, hj, rfl⟩ := List.getElem_of_mem hx
  obtain ⟨_, _, _, _, _, _, hl, _⟩ := S_at h hj
  obtain ⟨_, _, _, _, _, h2, h3, _⟩ := hl.open_
  exact ⟨h2, h3⟩
theorem numB_le {x : T} (h : numB x = true) : x.n ≤ 2147483647 := by
  unfold numB at h
  rw [Bool.and_eq_true] at h
  exact of_decide_eq_true h.2
theorem verB_shape {t : T} (h : verB t = true) : ∃ m s x0 x1 x2, t = T.mk 5 m s [x0, x1, x2] ∧ numB x0 = true := by
  obtain ⟨k, m, s, l⟩ := t
  unfold verB at h
  rw [Bool.and_eq_true] at h
  obtain ⟨h1, h2⟩ := h
  cases (show k = 5 from of_decide_eq_true h1)
  match l, h2 with
  | [x0, x1, x2], h2 =>
    refine ⟨m, s, x0, x1, x2, rfl, ?_⟩
    simp only [T.l, Bool.and_eq_true] at h2
    exact h2.1.1
theorem kidB_shape {t : T} (h : kidB t = true) : ∃ m s x0 x1 x2 x3 x4, t = T.mk 5 m s [x0, x1, x2, x3, x4] ∧ numB x2 = true ∧ numB x3 = true ∧ numB x4 = true := by
  obtain ⟨k, m, s, l⟩ := t
  unfold kidB at h
  rw [Bool.and_eq_true] at h
  obtain ⟨h1, h2⟩ := h
  cases (show k = 5 from of_decide_eq_true h1)
  match l, h2 with
  | [x0, x1, x2, x3, x4], h2 =>
    refine ⟨m, s, x0, x1, x2, x3, x4, rfl, ?_⟩
    simp only [T.l, Bool.and_eq_true] at h2
    exact ⟨h2.1.1.2, h2.1.2, h2.2⟩
theorem toV_fits {w : World} {B : Nat} {t : T} {A : Option Addr} {c : Nat} (h : LiesS w B t.l A c) (hv : verB t = true) : (toV t).fits := by
  obtain ⟨m, s, x0, x1, x2, rfl, hn⟩ := verB_shape hv
  have f0 := S_fits h (x := x0) (by simp [T.l])
  have f1 := S_fits h (x := x1) (by simp [T.l])
  have f2 := S_fits h (x := x2) (by simp [T.l])
  have := numB_le hn
  exact ⟨⟨by show -9223372036854775808 ≤ x0.n; omega, by show x0.n ≤ 9223372036854775807; omega⟩, f1.2, f2.2⟩
theorem toK_fits {w : World} {B : Nat} {t : T} {A : Option Addr} {c : Nat} (h : LiesS w B t.l A c) (hv : kidB t = true) : (toK t).fits := by
  obtain ⟨m, s, x0, x1, x2, x3, x4, rfl, n2, n3, n4⟩ := kidB_shape hv
  have f0 := S_fits h (x := x0) (by simp [T.l])
  have f1 := S_fits h (x := x1) (by simp [T.l])
  have f2 := S_fits h (x := x2) (by simp [T.l])
  have f3 := S_fits h (x := x3) (by simp [T.l])
  have f4 := S_fits h (x := x4) (by simp [T.l])
  have := numB_le n2
  have := numB_le n3
  have := numB_le n4
  refine ⟨f0.2, by show x1.n.toNat < 18446744073709551616; omega, ?_, ?_, ?_⟩
  · exact ⟨by show -9223372036854775808 ≤ x2.n; omega, by show x2.n ≤ 9223372036854775807; omega⟩
  · exact ⟨by show -9223372036854775808 ≤ x3.n; omega, by show x3.n ≤ 9223372036854775807; omega⟩
  · exact ⟨by show -9223372036854775808 ≤ x4.n; omega, by show x4.n ≤ 9223372036854775807; omega⟩
theorem versionOf_any (t : T) (A : Option Addr) (c : Nat) (w : World) (h : LiesS w w.heap.size t.l A c) :
    Calls Try.prog 111 #[.agg #[.int .i64 t.k, .int .u64 t.n, .string t.s, .slice A t.l.length c]] w fun e w' => e = .returned (.tuple #[.agg #[.int .i64 (verR t).n, .string (verR t).v, .string (verR t).t], .bool (verB t)]) ∧ Below w.heap.size w w' := by
  cases hv : verB t with
  | false =>
    have := versionOf_no t A c w h hv
    unfold verR
    rw [hv]
    exact this
  | true =>
    have hR : verR t = toV t := by unfold verR; rw [if_pos hv]
    rw [hR]
    obtain ⟨m, s, x0, x1, x2, rfl, hn⟩ := verB_shape hv
    obtain ⟨b, off, u0, u1, u2, rfl, hb, hl⟩ := S_3 (show LiesS w w.heap.size [x0, x1, x2] A c from h)
    have f0 := S_fits h (x := x0) (by simp [T.l])
    exact versionOf_yes m s x0 x1 x2 b off c u0 u1 u2 w hb hl h hv ⟨f0.1.1, numB_le hn⟩
theorem kidOf_any (t : T) (A : Option Addr) (c : Nat) (w : World) (h : LiesS w w.heap.size t.l A c) :
    Calls Try.prog 91 #[.agg #[.int .i64 t.k, .int .u64 t.n, .string t.s, .slice A t.l.length c]] w fun e w' => e = .returned (.tuple #[.agg #[.string (kidR t).s, .int .u64 ((kidR t).k : Int), .int .i64 (kidR t).g, .int .i64 (kidR t).o, .int .i64 (kidR t).n], .bool (kidB t)]) ∧ Below w.heap.size w w' := by
  cases hv : kidB t with
  | false =>
    have := kidOf_no t A c w h hv
    unfold kidR
    rw [hv]
    exact this
  | true =>
    have hR : kidR t = toK t := by unfold kidR; rw [if_pos hv]
    rw [hR]
    obtain ⟨m, s, x0, x1, x2, x3, x4, rfl, n2, n3, n4⟩ := kidB_shape hv
    obtain ⟨b, off, u0, u1, u2, u3, u4, rfl, hb, hl⟩ := S_5 (show LiesS w w.heap.size [x0, x1, x2, x3, x4] A c from h)
    have f1 := S_fits h (x := x1) (by simp [T.l])
    have f2 := S_fits h (x := x2) (by simp [T.l])
    have f3 := S_fits h (x := x3) (by simp [T.l])
    have f4 := S_fits h (x := x4) (by simp [T.l])
    have hk : ((toK (T.mk 5 m s [x0, x1, x2, x3, x4])).k : Int) = x1.n := Int.toNat_of_nonneg f1.1.1
    rw [hk]
    exact kidOf_yes m s x0 x1 x2 x3 x4 b off c u0 u1 u2 u3 u4 w hb hl h hv ⟨f2.1.1, numB_le n2⟩ ⟨f3.1.1, numB_le n3⟩ ⟨f4.1.1, numB_le n4⟩

end Go.Proofs.Ytnkfboplafckoaa.nodes
