/- What package entry's own calls answer: tooBig, judge, rightOrNew, Right, Last, At. -/
import Derived.Test.YtjlglfjikfpboaaVerFK
import Derived.Laws.CopyOwn
import Derived.Deep.DeepCutAuto
import Derived.Deep.RegionHeld3


namespace Go.Proofs.Ytjlglfjikfpboaa.vers
set_option linter.unusedVariables false
set_option linter.unusedSimpArgs false
open Go.RowKit Go.Proofs.Ytjlglfjikfpboaa.base Go.Proofs.Ytjlglfjikfpboaa.quotas

def tb (c d : Int) (v t : ByteArray) : Bool := decide (c < v.size) || decide (d < t.size)
theorem tb_yes1 {c d : Int} {v t : ByteArray} (h : c < (v.size : Int)) : tb c d v t = true := by unfold tb; rw [decide_eq_true h]; rfl
theorem tb_yes2 {c d : Int} {v t : ByteArray} (h : d < (t.size : Int)) : tb c d v t = true := by unfold tb; rw [decide_eq_true h, Bool.or_true]
theorem tb_no {c d : Int} {v t : ByteArray} (h : ¬ c < (v.size : Int)) (k : ¬ d < (t.size : Int)) : tb c d v t = false := by unfold tb; rw [decide_eq_false h, decide_eq_false k]; rfl
theorem tb_iff {c d : Int} {v t : ByteArray} : tb c d v t = true ↔ (c < (v.size : Int) ∨ d < (t.size : Int)) := by unfold tb; simp
theorem tb_not {c d : Int} {v t : ByteArray} : tb c d v t = false ↔ ¬ (c < (v.size : Int) ∨ d < (t.size : Int)) := by rw [← tb_iff]; simp

set_option maxRecDepth 100000 in
set_option maxHeartbeats 400000 in
theorem tooBig_any (a b c d e f h : Int) (v t : ByteArray) (w : World) :
    Calls Try.prog 182 #[.agg #[.int .i64 a, .int .i64 b, .int .i64 c, .int .i64 d, .int .i64 e, .int .i64 f, .int .i64 h], .string v, .string t] w fun x w' => x = .returned (.bool (tb c d v t)) ∧ Below w.heap.size w w' := by
  by_cases g1 : c < (v.size : Int)
  · have d1 : decide (c < (v.size : Int)) = true := decide_eq_true g1
    rw [tb_yes1 g1]
    clear g1
    go_enter Try.func182, Try.ntmps182
    go_wp2_with fail
    go_ret
    exact ⟨rfl, (Below.refl _ _).alloc (Nat.le_refl _) _⟩
  · have d1 : decide (c < (v.size : Int)) = false := decide_eq_false g1
    by_cases g2 : d < (t.size : Int)
    · have d2 : decide (d < (t.size : Int)) = true := decide_eq_true g2
      rw [tb_yes2 g2]
      clear g1 g2
      go_enter Try.func182, Try.ntmps182
      go_wp2_with fail
      go_ret
      exact ⟨rfl, (Below.refl _ _).alloc (Nat.le_refl _) _⟩
    · have d2 : decide (d < (t.size : Int)) = false := decide_eq_false g2
      rw [tb_no g1 g2]
      clear g1 g2
      go_enter Try.func182, Try.ntmps182
      go_wp2_with fail
      go_ret
      exact ⟨rfl, (Below.refl _ _).alloc (Nat.le_refl _) _⟩

/-- judge, at a round's head: so far nothing is wrong -/
def JHead (w : World) (a b c d e f h : Int) (l : List V) (x y : Value) (wr : World) : Prop :=
  ∃ j : Nat, j ≤ l.length ∧ x = .int .i64 (before l j) ∧ y = .int .i64 j ∧ Hid (vbad c d 0 l = vbad c d (before l j) (l.drop j)) ∧ In7 w w.heap.size a b c d e f h wr

set_option maxRecDepth 100000 in
set_option maxHeartbeats 1000000 in
theorem judge_any (a b c d e f h : Int) (l : List V) (A : Option Addr) (cap : Nat) (w : World) (hv : Vs w w.heap.size l A cap) :
    Calls Try.prog 185 #[.agg #[.int .i64 a, .int .i64 b, .int .i64 c, .int .i64 d, .int .i64 e, .int .i64 f, .int .i64 h], .slice A l.length cap] w fun x w' => x = .returned (.int .i64 (vbad c d 0 l)) ∧ Below w.heap.size w w' := by
  have hlen := len_in hv
  have I0 := In7.new w a b c d e f h
  go_enter Try.func185, Try.ntmps185
  go_wp2_with fail
  go_loopw [5, 10] (fun x y wr => JHead w a b c d e f h l x y wr) (fun _ y _ => l.length - (intOf y).toNat)
  case atStart => exact ⟨0, Nat.zero_le _, by rw [before_zero], rfl, lay (by rw [before_zero]; rfl), I0⟩
  case round =>
    obtain ⟨j, hj, rfl, rfl, hV, I2⟩ := hrel
    clear I0
    obtain ⟨⟨c0, c1, c2, c3, c4, c5, c6⟩, l1, l2, b1⟩ := id I2
    by_cases hlt : j < l.length
    · obtain ⟨bk, off, rfl, hbk, v0, v1, v2⟩ := (hv.below b1).at_ hlt
      have hs2 := before_succ l hlt
      have hva := lay (vbad_at c d (before l j) l hlt)
      generalize hbp : before l j = p at hV hva ⊢
      clear hbp
      have HS2 := lay hs2
      clear hs2
      by_cases g1 : l[j].n ≤ p
      · have d1 : decide (l[j].n ≤ p) = true := decide_eq_true g1
        have hr := lay (hV.out.trans (hva.out.trans (if_pos (Or.inl g1))))
        clear g1
        go_wp2_with fail
        go_ret
        exact ⟨ret_int hr.out.symm, (I2.alloc _).2.2.2⟩
      · have d1 : decide (l[j].n ≤ p) = false := decide_eq_false g1
        by_cases g2 : (1073741824 : Int) < l[j].n
        · have d2 : decide ((1073741824 : Int) < l[j].n) = true := decide_eq_true g2
          have hr := lay (hV.out.trans (hva.out.trans (if_pos (Or.inr g2))))
          clear g1 g2
          go_wp2_with fail
          go_ret
          exact ⟨ret_int hr.out.symm, (I2.alloc _).2.2.2⟩
        · have d2 : decide ((1073741824 : Int) < l[j].n) = false := decide_eq_false g2
          have hn : Hid (¬ (l[j].n ≤ p ∨ (1073741824 : Int) < l[j].n)) := lay (by omega)
          clear g1 g2
          go_wp2_with fail
          refine (tooBig_any _ _ _ _ _ _ _ _ _ _).mono ?_
          rintro x w1 ⟨rfl, hb1⟩
          have I3 := (I2.alloc _).next hb1
          have hz := hb1.size
          simp only [World.size_alloc] at hz hb1
          have hq : w1.cell? ⟨wr.heap.size, 0, none⟩ = some (.int .i64 l[j].n) := by
            rw [hb1.cell (by simp)]
            exact (Blk.new wr 147 #[.int .i64 l[j].n, .string l[j].v, .string l[j].t]).cell 0
          cases g3 : tb c d l[j].v l[j].t
          · have hV2 : Hid (vbad c d 0 l = vbad c d (before l (j + 1)) (l.drop (j + 1))) := lay (by
              rw [hV.out, hva.out, if_neg hn.out, if_neg (tb_not.1 g3), HS2.out])
            clear g3 hb1
            go_wp2_with fail
            exact ⟨⟨j + 1, hlt, by rw [HS2.out], by go_num, hV2, I3⟩, by simp [intOf]; omega⟩
          · have hr := lay (hV.out.trans (hva.out.trans ((if_neg hn.out).trans (if_pos (tb_iff.1 g3)))))
            clear g3 hb1
            go_wp2_with fail
            go_ret
            exact ⟨ret_int hr.out.symm, I3.2.2.2⟩
    · have hr := lay (hV.out.trans (vbad_end c d _ l (by omega)))
      go_wp2_with fail
      go_ret
      exact ⟨ret_int hr.out.symm, b1⟩

set_option maxRecDepth 100000 in
set_option maxHeartbeats 1000000 in
theorem rightOrNew_any (a b c d e f h : Int) (s : ByteArray) (l : List V) (A : Option Addr) (cap : Nat) (w : World) (hv : Vs w w.heap.size l A cap) :
    Calls Try.prog 181 #[.agg #[.int .i64 a, .int .i64 b, .int .i64 c, .int .i64 d, .int .i64 e, .int .i64 f, .int .i64 h], .agg #[.string s, .slice A l.length cap]] w fun x w' => x = .returned (.int .i64 (nbad a b c d e f h s l)) ∧ Below w.heap.size w w' := by
  have hlen := len_in hv
  by_cases hk : ok a b c d e f h
  · rw [nbad_yes hk]
    by_cases h1 : s.size = 0
    · rw [if_pos h1]
      have hs0 := empty_yes h1
      clear h1
      go_enter Try.func181, Try.ntmps181
      go_wp2_with (go_at_call 69; refine (right_ok _ _ _ _ _ _ _ _ hk).mono ?_; rintro x w1 ⟨rfl, hb1⟩; have I1 := (Bx.new w a b c d e f h s (.slice A l.length cap)).next hb1; clear hb1; obtain ⟨⟨⟨c0, c1, c2, c3, c4, c5, c6⟩, l1, l2, b1⟩, ⟨e0, e1⟩, l3⟩ := id I1)
      go_ret
      exact ⟨rfl, b1⟩
    · rw [if_neg h1]
      have hs0 := empty_no h1
      clear h1
      by_cases h2 : b < (s.size : Int)
      · rw [if_pos h2]
        have d2 : decide (b < (s.size : Int)) = true := decide_eq_true h2
        clear h2
        go_enter Try.func181, Try.ntmps181
        go_wp2_with (go_at_call 69; refine (right_ok _ _ _ _ _ _ _ _ hk).mono ?_; rintro x w1 ⟨rfl, hb1⟩; have I1 := (Bx.new w a b c d e f h s (.slice A l.length cap)).next hb1; clear hb1; obtain ⟨⟨⟨c0, c1, c2, c3, c4, c5, c6⟩, l1, l2, b1⟩, ⟨e0, e1⟩, l3⟩ := id I1)
        go_ret
        exact ⟨rfl, b1⟩
      · rw [if_neg h2]
        have d2 : decide (b < (s.size : Int)) = false := decide_eq_false h2
        clear h2
        by_cases h3 : e < (l.length : Int)
        · rw [if_pos h3]
          have d3 : decide (e < (l.length : Int)) = true := decide_eq_true h3
          clear h3
          go_enter Try.func181, Try.ntmps181
          go_wp2_with (go_at_call 69; refine (right_ok _ _ _ _ _ _ _ _ hk).mono ?_; rintro x w1 ⟨rfl, hb1⟩; have I1 := (Bx.new w a b c d e f h s (.slice A l.length cap)).next hb1; clear hb1; obtain ⟨⟨⟨c0, c1, c2, c3, c4, c5, c6⟩, l1, l2, b1⟩, ⟨e0, e1⟩, l3⟩ := id I1)
          go_ret
          exact ⟨rfl, b1⟩
        · rw [if_neg h3]
          have d3 : decide (e < (l.length : Int)) = false := decide_eq_false h3
          clear h3
          go_enter Try.func181, Try.ntmps181
          go_wp2_with (go_at_call 69; refine (right_ok _ _ _ _ _ _ _ _ hk).mono ?_; rintro x w1 ⟨rfl, hb1⟩; have I1 := (Bx.new w a b c d e f h s (.slice A l.length cap)).next hb1; clear hb1; obtain ⟨⟨⟨c0, c1, c2, c3, c4, c5, c6⟩, l1, l2, b1⟩, ⟨e0, e1⟩, l3⟩ := id I1)
          refine (judge_any _ _ _ _ _ _ _ _ _ _ _ (hv.at_world b1)).mono ?_
          rintro x w2 ⟨rfl, hb2⟩
          have I2 := I1.next hb2
          clear hb2
          go_wp2_with fail
          go_ret
          exact ⟨rfl, I2.below⟩
  · rw [nbad_no hk]
    go_enter Try.func181, Try.ntmps181
    go_wp2_with (go_at_call 69; refine (right_no _ _ _ _ _ _ _ _ hk).mono ?_; rintro x w1 ⟨rfl, hb1⟩; have I1 := (Bx.new w a b c d e f h s (.slice A l.length cap)).next hb1; clear hb1; obtain ⟨⟨⟨c0, c1, c2, c3, c4, c5, c6⟩, l1, l2, b1⟩, ⟨e0, e1⟩, l3⟩ := id I1)
    go_ret
    exact ⟨rfl, I1.below⟩

set_option maxRecDepth 100000 in
set_option maxHeartbeats 400000 in
theorem last_any (s : ByteArray) (l : List V) (A : Option Addr) (cap : Nat) (w : World) (hv : Vs w w.heap.size l A cap) :
    Calls Try.prog 183 #[.agg #[.string s, .slice A l.length cap]] w fun x w' => x = .returned (.tuple #[(lastV l).1.val, .bool (lastV l).2]) ∧ Below w.heap.size w w' := by
  have hlen := len_in hv
  by_cases hl : l.length = 0
  · have d2 : ((l.length : Int) == 0) = true := by simp [hl]
    have hr : lastV l = (zV, false) := by rw [List.eq_nil_of_length_eq_zero hl]; rfl
    rw [hr]
    clear hr hl
    go_enter Try.func183, Try.ntmps183
    go_wp2_with fail
    refine bodyPost_ret (v := .tuple #[zV.val, .bool false]) (by simp [results, Try.results183, go_sem, zV, V.val]) rfl ⟨rfl, ?_⟩
    exact ((Below.refl _ _).alloc (Nat.le_refl _) _).alloc (by simp) _
  · obtain ⟨k, hk⟩ : ∃ k, l.length = k + 1 := ⟨l.length - 1, by omega⟩
    have d2 : ((l.length : Int) == 0) = false := beq_eq_false_iff_ne.2 (by omega)
    have hr : lastV l = (l[k], true) := by
      unfold lastV
      rw [List.getLast?_eq_getElem?, show l.length - 1 = k by omega, List.getElem?_eq_getElem (by omega)]
    obtain ⟨bk, off, rfl, hbk, v0, v1, v2⟩ := hv.at_ (j := k) (by omega)
    rw [hr]
    clear hr hl
    go_enter Try.func183, Try.ntmps183
    go_wp2_with fail
    refine bodyPost_ret (v := .tuple #[l[k].val, .bool true]) (by simp [results, Try.results183, go_sem, V.val]) rfl ⟨rfl, ?_⟩
    exact ((Below.refl _ _).alloc (Nat.le_refl _) _).alloc (by simp) _

theorem lastIs : LastIs := fun s l A cap w hv => last_any s l A cap w hv
end Go.Proofs.Ytjlglfjikfpboaa.vers

/- What package entry's copied answers: a list of the call's own. -/

namespace Go.Proofs.Ytjlglfjikfpboaa.vers
set_option linter.unusedVariables false
set_option linter.unusedSimpArgs false
open Go.RowKit Go.Proofs.Ytjlglfjikfpboaa.base Go.Proofs.Ytjlglfjikfpboaa.quotas

/-- copy between rows whose elements have k cells each -/
theorem run_copy_many {P : Program} (w : World) (dT sT ty elem : TypeId) (g o dLen dCap : Nat) (a : Addr) (sLen sCap k : Nat) (cur : Array Value) (t : TypeId) (cs : List Value)
    (hu : P.underlying dT = some (.slice elem)) (hs : (P.info? elem).map (·.size) = some k)
    (hg : w.heap[g]? = some (.cells cur t (0, 0))) (hn : cs.length = Nat.min sLen dLen * k)
    (hsrc : ∀ j v, cs[j]? = some v → w.cell? (a.add j) = some v) (hfit : o + cs.length ≤ cur.size) (h1 : ∀ v ∈ cs, v.oneCell' = true) :
    (Builtin.copy_ #[dT, sT] ty #[.slice (some ⟨g, o, none⟩) dLen dCap, .slice (some a) sLen sCap]).run P w =
      .ok (goInt (Nat.min sLen dLen)) (w.setRow g (cur.toList.take o ++ cs ++ cur.toList.drop (o + cs.length)).toArray) := by
  have hl := run_loadCells_list (P := P) w a cs hsrc
  have hst := run_storeCells_at P g o t cs 0 cur w hg (by simpa using hfit) h1
  cases hq : P.info? elem with
  | none => simp [hq] at hs
  | some i =>
    have hi : i.size = k := by simpa [hq] using hs
    simp [Builtin.copy_, run_underlying hu, Builtin.lenOf, Builtin.firstCells, sizeOf, typeInfo, hq, hi, ← hn, hl, hst]

theorem sizeV : (Try.prog.info? 147).map (·.size) = some 3 := by kernel_rfl

set_option maxRecDepth 100000 in
/-- copy of versions that lie anywhere into a row of the call's own that has just their size -/
theorem wpList_copy_vs {ops : Array Oper} {rest : List Oper} {o : Oper} {a : Act} {Q : Exit → Act → World → Prop} {w : World} (hgd : o.guard = none) (d s : Operand)
    (ho : o.op = .call { callee := .builtin .copy, args := #[d, s], argTypes := #[77, 77] })
    {B g n : Nat} {l : List V} {cur : Array Value} (hd : a.eval d = .slice (some ⟨g, 0, none⟩) n n) (hg : Blk w g 147 cur) (hcs : cur.size = n * 3) {A : Option Addr} {c : Nat} (hx : a.eval s = .slice A n c) (hn : n = l.length) (hv : Vs w B l A c)
    (h : ∀ w', Blk w' g 147 (cellsV l).toArray → Below g w w' → wpList Try.prog ops Q rest (a.put o.dst (goInt n)) w') : wpList Try.prog ops Q (o :: rest) a w := by
  subst hn
  refine wpList_plain hgd fun K hK => ?_
  cases A with
  | none =>
    obtain rfl := hv.2.2.1 rfl
    obtain rfl := List.eq_nil_of_length_eq_zero (Nat.le_zero.1 hv.1)
    have hrun := run_copy_nil (P := Try.prog) w 77 77 o.type 147 ⟨g, 0, none⟩ 0 0 Try.underlying77 (by rw [sizeV]; rfl)
    have hd' : a.eval d = .slice (some ⟨g, 0, none⟩) 0 0 := hd
    have hx' : a.eval s = .slice none 0 0 := hx
    unfold Oper.wp
    simp [execOp, ho, resolve, invoke, builtin, hd', hx', hrun, Result.andThen]
    refine hK _ _ (h w ?_ ⟨rfl, rfl, rfl, Nat.le_refl _, fun _ _ => rfl⟩)
    have e : cur = #[] := by
      apply Array.eq_empty_of_size_eq_zero
      simpa using hcs
    rwa [e] at hg
  | some ad =>
    have hlen : (cellsV l).length = l.length * 3 := by rw [cellsV_len]; omega
    have hrun := run_copy_many (P := Try.prog) w 77 77 o.type 147 g 0 l.length l.length ad l.length c 3 cur 147 (cellsV l) Try.underlying77 sizeV hg (by rw [hlen, show Nat.min l.length l.length = l.length from Nat.min_self _])
      (fun j u hj => by
        obtain ⟨b, off, e, hb, hc⟩ := hv.2.2.2.1 j u hj
        cases e
        rw [add_plain]
        exact hc) (by rw [hlen, hcs]; omega) (cellsV_one l)
    unfold Oper.wp execOp
    simp only [ho, resolve, invoke, builtin, Sem.run_bind, Sem.run_pure, Result.andThen_ok, List.map_toArray, List.map_cons, List.map_nil, hd, hx, hrun, show Nat.min l.length l.length = l.length from Nat.min_self _]
    refine hK _ _ (h _ ?_ (below_setRow ⟨rfl, rfl, rfl, Nat.le_refl _, fun _ _ => rfl⟩ (Nat.le_refl _) _))
    have e : (cur.toList.take 0 ++ cellsV l ++ cur.toList.drop (0 + (cellsV l).length)) = cellsV l := by
      rw [List.take_zero, List.nil_append, List.drop_of_length_le (by rw [Array.length_toList, hcs, hlen]; omega), List.append_nil]
    rw [e]
    exact setRow_heap w g cur _ _ _ hg

set_option maxRecDepth 100000 in
set_option maxHeartbeats 400000 in
theorem copied_any (l : List V) (A : Option Addr) (c : Nat) (B : Nat) (w : World) (hv : Vs w B l A c) (hB : B ≤ w.heap.size) :
    Calls Try.prog 184 #[.slice A l.length c] w fun x w' => x = .returned (.slice (some ⟨w.heap.size, 0, none⟩) l.length l.length) ∧ OwnV w.heap.size w' l (.slice (some ⟨w.heap.size, 0, none⟩) l.length l.length) ∧ Below w.heap.size w w' := by
  have hlen : l.length ≤ 140737488355328 := by have h2 := hv.2.1; omega
  have hby := hv.2.1
  obtain ⟨i0, hi, hz0, hz1, hz2⟩ := info_parts infoV
  have hmk : ∀ u : World, (Instr.makeSlice 77 (.int .i64 (l.length : Int)) (.int .i64 (l.length : Int))).run Try.prog u =
      .ok (.slice (some ⟨u.heap.size, 0, none⟩) l.length l.length) (u.alloc (.cells (madeCells (Value.agg #[.int .i64 0, .string ⟨#[]⟩, .string ⟨#[]⟩]).cells (l.length * 3)) 147)) := fun u => by
    have h := run_make (P := Try.prog) u 77 147 i0 _ Try.underlying77 hi hz0 .i64 .i64 (l.length : Int) (l.length : Int) (by omega) (Int.le_refl _) (by rw [hz2]; omega) (by omega)
    simpa [hz1] using h
  have hb0 : Below w.heap.size w (w.alloc (.cells (madeCells (Value.agg #[.int .i64 0, .string ⟨#[]⟩, .string ⟨#[]⟩]).cells (l.length * 3)) 147)) := (Below.refl _ _).alloc (Nat.le_refl _) _
  have hv1 := hv.below (hb0.mono hB)
  have hnew := Blk.new w 147 (madeCells (Value.agg #[.int .i64 0, .string ⟨#[]⟩, .string ⟨#[]⟩]).cells (l.length * 3))
  have hsz : (madeCells (Value.agg #[.int .i64 0, .string ⟨#[]⟩, .string ⟨#[]⟩]).cells (l.length * 3)).size = l.length * 3 := size_madeCells _ _
  generalize madeCells (Value.agg #[.int .i64 0, .string ⟨#[]⟩, .string ⟨#[]⟩]).cells (l.length * 3) = cur at hmk hb0 hv1 hnew hsz
  go_enter Try.func184, Try.ntmps184
  go_wp2_with (first
    | (refine wpList_copy_vs rfl (.tmp 7) (.tmp 8) rfl rfl hnew hsz rfl rfl hv1 ?_))
  intro w2 HG hB2
  have HG' := lay HG
  clear HG
  go_wp2_with fail
  go_ret
  have hlt := Blk.lt HG'.out
  refine ⟨rfl, ⟨⟨by rw [cellsV_len]; omega, .inr ⟨w.heap.size, l.length, (cellsV l).toArray, rfl, Nat.le_refl _, HG'.out, Nat.le_refl _, by unfold maxLen; omega, by simp [cellsV_len]; omega, ?_⟩⟩, hby, hv.2.2.2.2⟩, hb0.trans hB2⟩
  rw [List.toList_toArray, List.take_of_length_le (by rw [cellsV_len]; omega)]
end Go.Proofs.Ytjlglfjikfpboaa.vers

/- What package entry's next answers. -/

namespace Go.Proofs.Ytjlglfjikfpboaa.vers
set_option linter.unusedVariables false
set_option linter.unusedSimpArgs false
open Go.RowKit Go.Proofs.Ytjlglfjikfpboaa.base Go.Proofs.Ytjlglfjikfpboaa.quotas

theorem noOf_last (l : List V) : noOf l = (lastV l).1.n + 1 := by
  unfold noOf lastV
  cases l.getLast? <;> rfl
theorem lastV_in {a b c d e f h : Int} {s : ByteArray} {l : List V} (hz : nbad a b c d e f h s l = 0) : 0 ≤ (lastV l).1.n ∧ (lastV l).1.n ≤ 1073741824 := by
  by_cases h0 : l.length = 0
  · rw [List.eq_nil_of_length_eq_zero h0]
    exact ⟨Int.le_refl _, by decide⟩
  · obtain ⟨k, hk⟩ : ∃ k, l.length = k + 1 := ⟨l.length - 1, by omega⟩
    have hr : lastV l = (l[k], true) := by
      unfold lastV
      rw [List.getLast?_eq_getElem?, show l.length - 1 = k by omega, List.getElem?_eq_getElem (by omega)]
    rw [hr]
    exact nbad_last hz hk

/-- the version that comes next, if it may -/
def nextP (a b c d e f h : Int) (s : ByteArray) (l : List V) (v t : ByteArray) : V × Int :=
  if nbad a b c d e f h s l ≠ 0 then (zV, nbad a b c d e f h s l)
  else if tb c d v t = true then (zV, 5)
  else if 1073741824 < noOf l then (zV, 2)
  else (⟨noOf l, v, t⟩, 0)

/-- behind the call's beginning: its own boxes -/
def Nx (w : World) (a b c d e f h : Int) (s : ByteArray) (u : Value) (wr : World) : Prop :=
  Bx w a b c d e f h s u wr ∧ Blk wr (w.heap.size + 2) 147 #[.int .i64 0, .string ⟨#[]⟩, .string ⟨#[]⟩]
theorem Nx.new (w : World) (a b c d e f h : Int) (s : ByteArray) (u : Value) : Nx w a b c d e f h s u (((w.alloc (.cells #[.int .i64 a, .int .i64 b, .int .i64 c, .int .i64 d, .int .i64 e, .int .i64 f, .int .i64 h] 59)).alloc (.cells #[.string s, u] 79)).alloc (.cells #[.int .i64 0, .string ⟨#[]⟩, .string ⟨#[]⟩] 147)) := by
  have k := Blk.new ((w.alloc (.cells #[.int .i64 a, .int .i64 b, .int .i64 c, .int .i64 d, .int .i64 e, .int .i64 f, .int .i64 h] 59)).alloc (.cells #[.string s, u] 79)) 147 #[.int .i64 0, .string ⟨#[]⟩, .string ⟨#[]⟩]
  simp only [World.size_alloc] at k
  exact ⟨(Bx.new w a b c d e f h s u).alloc _, k⟩
theorem Nx.next {w wr w' : World} {a b c d e f h : Int} {s : ByteArray} {u : Value} (h1 : Nx w a b c d e f h s u wr) (hb : Below wr.heap.size wr w') : Nx w a b c d e f h s u w' :=
  ⟨h1.1.next hb, h1.2.below hb h1.2.lt⟩
theorem Nx.size {w wr : World} {a b c d e f h : Int} {s : ByteArray} {u : Value} (h1 : Nx w a b c d e f h s u wr) : w.heap.size + 2 < wr.heap.size := h1.2.lt
theorem Nx.alloc {w wr : World} {a b c d e f h : Int} {s : ByteArray} {u : Value} (h1 : Nx w a b c d e f h s u wr) (ob : Obj) : Nx w a b c d e f h s u (wr.alloc ob) := h1.next ((Below.refl _ _).alloc (Nat.le_refl _) _)

set_option maxRecDepth 100000 in
set_option maxHeartbeats 400000 in
theorem next_bad (a b c d e f h : Int) (s : ByteArray) (l : List V) (A : Option Addr) (cap : Nat) (v t : ByteArray) (w : World) (hv : Vs w w.heap.size l A cap) (hz : nbad a b c d e f h s l ≠ 0) :
    Calls Try.prog 177 #[.agg #[.int .i64 a, .int .i64 b, .int .i64 c, .int .i64 d, .int .i64 e, .int .i64 f, .int .i64 h], .agg #[.string s, .slice A l.length cap], .string v, .string t] w fun x w' => x = .returned (.tuple #[zV.val, .int .i64 (nbad a b c d e f h s l)]) ∧ Below w.heap.size w w' := by
  have hC := Nx.new w a b c d e f h s (.slice A l.length cap)
  have hsz0 := hC.size
  have hc := rightOrNew_any a b c d e f h s l A cap _ (hv.at_world hC.1.below)
  generalize nbad a b c d e f h s l = n at hc hz ⊢
  have d1 : (n != 0) = true := by simpa using hz
  clear hz
  go_enter Try.func177, Try.ntmps177
  go_wp2_with fail
  refine hc.mono ?_
  rintro x w1 ⟨rfl, hb1⟩
  have I1 := hC.next hb1
  clear hb1 hC
  have hs1 := I1.size
  obtain ⟨⟨⟨⟨c0, c1, c2, c3, c4, c5, c6⟩, l1, l2, b1⟩, ⟨e0, e1⟩, l3⟩, hR⟩ := id I1
  have z0 := hR.cell 0
  have z1 := hR.cell 1
  have z2 := hR.cell 2
  simp at z0 z1 z2
  have f0 := hR.frozen 0
  have f1 := hR.frozen 1
  have f2 := hR.frozen 2
  go_wp2_with fail
  refine bodyPost_ret (v := .tuple #[zV.val, .int .i64 n]) (by simp [results, Try.results177, go_sem, z0, z1, z2, zV, V.val]) rfl ⟨rfl, three_below b1 (by omega) _ _ _⟩

set_option maxRecDepth 100000 in
set_option maxHeartbeats 400000 in
theorem next_big (a b c d e f h : Int) (s : ByteArray) (l : List V) (A : Option Addr) (cap : Nat) (v t : ByteArray) (w : World) (hv : Vs w w.heap.size l A cap) (hz : nbad a b c d e f h s l = 0) (htb : tb c d v t = true) :
    Calls Try.prog 177 #[.agg #[.int .i64 a, .int .i64 b, .int .i64 c, .int .i64 d, .int .i64 e, .int .i64 f, .int .i64 h], .agg #[.string s, .slice A l.length cap], .string v, .string t] w fun x w' => x = .returned (.tuple #[zV.val, .int .i64 5]) ∧ Below w.heap.size w w' := by
  have hC := Nx.new w a b c d e f h s (.slice A l.length cap)
  have hsz0 := hC.size
  have hc := rightOrNew_any a b c d e f h s l A cap _ (hv.at_world hC.1.below)
  rw [hz] at hc
  have hl := lastV_in hz
  clear hz
  clear hl
  go_enter Try.func177, Try.ntmps177
  go_wp2_with fail
  refine hc.mono ?_
  rintro x w1 ⟨rfl, hb1⟩
  have I1 := hC.next hb1
  clear hb1 hC
  have hs1 := I1.size
  obtain ⟨⟨⟨⟨c0, c1, c2, c3, c4, c5, c6⟩, l1, l2, b1⟩, ⟨e0, e1⟩, l3⟩, hR⟩ := id I1
  have z0 := hR.cell 0
  have z1 := hR.cell 1
  have z2 := hR.cell 2
  simp at z0 z1 z2
  have f0 := hR.frozen 0
  have f1 := hR.frozen 1
  have f2 := hR.frozen 2
  go_wp2_with fail
  have ht2 := tooBig_any a b c d e f h v t w1
  rw [htb] at ht2
  refine ht2.mono ?_
  rintro x w2 ⟨rfl, hb2⟩
  have I2 := I1.next hb2
  clear c0 c1 c2 c3 c4 c5 c6 l1 l2 b1 e0 e1 l3 hR z0 z1 z2 f0 f1 f2
  clear hb2 I1 ht2
  have hs2 := I2.size
  obtain ⟨⟨⟨⟨c0, c1, c2, c3, c4, c5, c6⟩, l1, l2, b1⟩, ⟨e0, e1⟩, l3⟩, hR⟩ := id I2
  have z0 := hR.cell 0
  have z1 := hR.cell 1
  have z2 := hR.cell 2
  simp at z0 z1 z2
  have f0 := hR.frozen 0
  have f1 := hR.frozen 1
  have f2 := hR.frozen 2
  go_wp2_with fail
  refine bodyPost_ret (v := .tuple #[zV.val, .int .i64 5]) (by simp [results, Try.results177, go_sem, z0, z1, z2, zV, V.val]) rfl ⟨rfl, three_below b1 (by omega) _ _ _⟩

set_option maxRecDepth 100000 in
set_option maxHeartbeats 400000 in
theorem next_long (a b c d e f h : Int) (s : ByteArray) (l : List V) (A : Option Addr) (cap : Nat) (v t : ByteArray) (w : World) (hv : Vs w w.heap.size l A cap) (hz : nbad a b c d e f h s l = 0) (htb : tb c d v t = false) (hno : 1073741824 < noOf l) :
    Calls Try.prog 177 #[.agg #[.int .i64 a, .int .i64 b, .int .i64 c, .int .i64 d, .int .i64 e, .int .i64 f, .int .i64 h], .agg #[.string s, .slice A l.length cap], .string v, .string t] w fun x w' => x = .returned (.tuple #[zV.val, .int .i64 2]) ∧ Below w.heap.size w w' := by
  have hC := Nx.new w a b c d e f h s (.slice A l.length cap)
  have hsz0 := hC.size
  have hc := rightOrNew_any a b c d e f h s l A cap _ (hv.at_world hC.1.below)
  rw [hz] at hc
  have hl := lastV_in hz
  clear hz
  rw [noOf_last] at hno
  go_enter Try.func177, Try.ntmps177
  go_wp2_with fail
  refine hc.mono ?_
  rintro x w1 ⟨rfl, hb1⟩
  have I1 := hC.next hb1
  clear hb1 hC
  have hs1 := I1.size
  obtain ⟨⟨⟨⟨c0, c1, c2, c3, c4, c5, c6⟩, l1, l2, b1⟩, ⟨e0, e1⟩, l3⟩, hR⟩ := id I1
  have z0 := hR.cell 0
  have z1 := hR.cell 1
  have z2 := hR.cell 2
  simp at z0 z1 z2
  have f0 := hR.frozen 0
  have f1 := hR.frozen 1
  have f2 := hR.frozen 2
  go_wp2_with fail
  have ht2 := tooBig_any a b c d e f h v t w1
  rw [htb] at ht2
  refine ht2.mono ?_
  rintro x w2 ⟨rfl, hb2⟩
  have I2 := I1.next hb2
  clear c0 c1 c2 c3 c4 c5 c6 l1 l2 b1 e0 e1 l3 hR z0 z1 z2 f0 f1 f2
  clear hb2 I1 ht2
  have hs2 := I2.size
  obtain ⟨⟨⟨⟨c0, c1, c2, c3, c4, c5, c6⟩, l1, l2, b1⟩, ⟨e0, e1⟩, l3⟩, hR⟩ := id I2
  have z0 := hR.cell 0
  have z1 := hR.cell 1
  have z2 := hR.cell 2
  simp at z0 z1 z2
  have f0 := hR.frozen 0
  have f1 := hR.frozen 1
  have f2 := hR.frozen 2
  go_wp2_with fail
  have hl3 := last_any s l A cap w2 (hv.at_world b1)
  generalize hp : lastV l = p at hl3 hl hno
  obtain ⟨⟨pn, pv, pt⟩, is⟩ := p
  have HP := lay hp
  clear hp
  simp only [V.val] at hl3 hl hno
  refine hl3.mono ?_
  rintro x w3 ⟨rfl, hb3⟩
  have I3 := (I2.next hb3).alloc (.cells #[.int .i64 pn, .string pv, .string pt] 147)
  clear c0 c1 c2 c3 c4 c5 c6 l1 l2 b1 e0 e1 l3 hR z0 z1 z2 f0 f1 f2
  have hs3 := I3.size
  obtain ⟨⟨⟨⟨c0, c1, c2, c3, c4, c5, c6⟩, l1, l2, b1⟩, ⟨e0, e1⟩, l3⟩, hR⟩ := id I3
  have z0 := hR.cell 0
  have z1 := hR.cell 1
  have z2 := hR.cell 2
  simp at z0 z1 z2
  have f0 := hR.frozen 0
  have f1 := hR.frozen 1
  have f2 := hR.frozen 2
  have hq := (Blk.new w3 147 #[.int .i64 pn, .string pv, .string pt]).cell 0
  simp at hq
  have d4 : (pn == 1073741824) = true := by simp; omega
  go_wp2_with fail
  refine bodyPost_ret (v := .tuple #[zV.val, .int .i64 2]) (by simp [results, Try.results177, go_sem, z0, z1, z2, zV, V.val]) rfl ⟨rfl, three_below b1 (by omega) _ _ _⟩

set_option maxRecDepth 100000 in
set_option maxHeartbeats 400000 in
theorem next_ok (a b c d e f h : Int) (s : ByteArray) (l : List V) (A : Option Addr) (cap : Nat) (v t : ByteArray) (w : World) (hv : Vs w w.heap.size l A cap) (hz : nbad a b c d e f h s l = 0) (htb : tb c d v t = false) (hno : ¬ 1073741824 < noOf l) :
    Calls Try.prog 177 #[.agg #[.int .i64 a, .int .i64 b, .int .i64 c, .int .i64 d, .int .i64 e, .int .i64 f, .int .i64 h], .agg #[.string s, .slice A l.length cap], .string v, .string t] w fun x w' => x = .returned (.tuple #[(⟨noOf l, v, t⟩ : V).val, .int .i64 0]) ∧ Below w.heap.size w w' := by
  have hC := Nx.new w a b c d e f h s (.slice A l.length cap)
  have hsz0 := hC.size
  have hc := rightOrNew_any a b c d e f h s l A cap _ (hv.at_world hC.1.below)
  rw [hz] at hc
  have hl := lastV_in hz
  clear hz
  rw [noOf_last] at hno ⊢
  go_enter Try.func177, Try.ntmps177
  go_wp2_with fail
  refine hc.mono ?_
  rintro x w1 ⟨rfl, hb1⟩
  have I1 := hC.next hb1
  clear hb1 hC
  have hs1 := I1.size
  obtain ⟨⟨⟨⟨c0, c1, c2, c3, c4, c5, c6⟩, l1, l2, b1⟩, ⟨e0, e1⟩, l3⟩, hR⟩ := id I1
  have z0 := hR.cell 0
  have z1 := hR.cell 1
  have z2 := hR.cell 2
  simp at z0 z1 z2
  have f0 := hR.frozen 0
  have f1 := hR.frozen 1
  have f2 := hR.frozen 2
  go_wp2_with fail
  have ht2 := tooBig_any a b c d e f h v t w1
  rw [htb] at ht2
  refine ht2.mono ?_
  rintro x w2 ⟨rfl, hb2⟩
  have I2 := I1.next hb2
  clear c0 c1 c2 c3 c4 c5 c6 l1 l2 b1 e0 e1 l3 hR z0 z1 z2 f0 f1 f2
  clear hb2 I1 ht2
  have hs2 := I2.size
  obtain ⟨⟨⟨⟨c0, c1, c2, c3, c4, c5, c6⟩, l1, l2, b1⟩, ⟨e0, e1⟩, l3⟩, hR⟩ := id I2
  have z0 := hR.cell 0
  have z1 := hR.cell 1
  have z2 := hR.cell 2
  simp at z0 z1 z2
  have f0 := hR.frozen 0
  have f1 := hR.frozen 1
  have f2 := hR.frozen 2
  go_wp2_with fail
  have hl3 := last_any s l A cap w2 (hv.at_world b1)
  generalize hp : lastV l = p at hl3 hl hno
  obtain ⟨⟨pn, pv, pt⟩, is⟩ := p
  have HP := lay hp
  clear hp
  simp only [V.val] at hl3 hl hno
  refine hl3.mono ?_
  rintro x w3 ⟨rfl, hb3⟩
  have I3 := (I2.next hb3).alloc (.cells #[.int .i64 pn, .string pv, .string pt] 147)
  clear c0 c1 c2 c3 c4 c5 c6 l1 l2 b1 e0 e1 l3 hR z0 z1 z2 f0 f1 f2
  have hs3 := I3.size
  obtain ⟨⟨⟨⟨c0, c1, c2, c3, c4, c5, c6⟩, l1, l2, b1⟩, ⟨e0, e1⟩, l3⟩, hR⟩ := id I3
  have z0 := hR.cell 0
  have z1 := hR.cell 1
  have z2 := hR.cell 2
  simp at z0 z1 z2
  have f0 := hR.frozen 0
  have f1 := hR.frozen 1
  have f2 := hR.frozen 2
  have hq := (Blk.new w3 147 #[.int .i64 pn, .string pv, .string pt]).cell 0
  simp at hq
  have d4 : (pn == 1073741824) = false := beq_eq_false_iff_ne.2 (by omega)
  go_wp2_with fail
  refine bodyPost_ret (v := .tuple #[.agg #[.int .i64 (pn + 1), .string v, .string t], .int .i64 0]) (by simp [results, Try.results177, go_sem, z0, z1, z2, zV, V.val]) rfl ⟨by rw [HP.out]; rfl, three_below b1 (by omega) _ _ _⟩

theorem next_any (a b c d e f h : Int) (s : ByteArray) (l : List V) (A : Option Addr) (cap : Nat) (v t : ByteArray) (w : World) (hv : Vs w w.heap.size l A cap) :
    Calls Try.prog 177 #[.agg #[.int .i64 a, .int .i64 b, .int .i64 c, .int .i64 d, .int .i64 e, .int .i64 f, .int .i64 h], .agg #[.string s, .slice A l.length cap], .string v, .string t] w fun x w' => x = .returned (.tuple #[(nextP a b c d e f h s l v t).1.val, .int .i64 (nextP a b c d e f h s l v t).2]) ∧ Below w.heap.size w w' := by
  unfold nextP
  by_cases hz : nbad a b c d e f h s l = 0
  · rw [if_neg (by simpa using hz)]
    cases htb : tb c d v t
    · rw [if_neg (by simp)]
      by_cases hno : 1073741824 < noOf l
      · rw [if_pos hno]; exact next_long a b c d e f h s l A cap v t w hv hz htb hno
      · rw [if_neg hno]; exact next_ok a b c d e f h s l A cap v t w hv hz htb hno
    · rw [if_pos rfl]; exact next_big a b c d e f h s l A cap v t w hv hz htb
  · rw [if_pos hz]; exact next_bad a b c d e f h s l A cap v t w hv hz
end Go.Proofs.Ytjlglfjikfpboaa.vers

/- What package entry's renewed answers: two lists of the call's own, in blocks apart. -/

namespace Go.Proofs.Ytjlglfjikfpboaa.vers
set_option linter.unusedVariables false
set_option linter.unusedSimpArgs false
open Go.RowKit Go.Proofs.Ytjlglfjikfpboaa.base Go.Proofs.Ytjlglfjikfpboaa.quotas

theorem cellsV_from : ∀ (l : List V) (k : Nat), cellsV (l.drop k) = (cellsV l).drop (3 * k)
  | l, 0 => rfl
  | [], k + 1 => by simp [cellsV]
  | x :: l, k + 1 => by
    rw [List.drop_succ_cons, cellsV_from l k, cellsV, show 3 * (k + 1) = x.cells.length + 3 * k by simp [V.cells]; omega, List.drop_append, List.drop_eq_nil_of_le (Nat.le_add_right _ _), List.nil_append, Nat.add_sub_cancel_left]
theorem Vs.from_ {w : World} {B : Nat} {l : List V} {b o c : Nat} (h : Vs w B l (some ⟨b, o, none⟩) c) (k : Nat) : Vs w B (l.drop k) (some ⟨b, o + k * 3, none⟩) (c - k) := by
  obtain ⟨h1, h2, h3, h4, h5⟩ := h
  refine ⟨by rw [List.length_drop]; omega, by rw [List.length_drop]; omega, (fun e => by cases e), fun j u hj => ?_, fun x hx => h5 x (List.mem_of_mem_drop hx)⟩
  rw [cellsV_from, List.getElem?_drop] at hj
  obtain ⟨b', o', e, hb, hc⟩ := h4 _ _ hj
  cases e
  exact ⟨b, o + k * 3, rfl, hb, by rw [show o + k * 3 + j = o + (3 * k + j) by omega]; exact hc⟩
theorem elemV : Try.prog.elem 77 = 147 := by kernel_rfl
theorem Vs.any_nil (w : World) (B : Nat) (A : Option Addr) (c : Nat) (h : A = none → c = 0) : Vs w B [] A c := ⟨Nat.zero_le _, by simp, h, Rd.nil _ _ _, fun x hx => by cases hx⟩
/-- what s[k:] of versions is -/
theorem run_from {w : World} {B : Nat} {l : List V} {A : Option Addr} {cap : Nat} (hv : Vs w B l A cap) (k : Nat) (hk : k ≤ l.length) :
    ∃ A' c', (∀ u : World, (Instr.slice 77 (.slice A l.length cap) (some (.int .i64 (k : Int))) none none).run Try.prog u = .ok (.slice A' (l.drop k).length c') u) ∧ Vs w B (l.drop k) A' c' := by
  obtain ⟨i0, hi, hz0, hz1, hz2⟩ := info_parts infoV
  have hrun : ∀ u : World, (Instr.slice 77 (.slice A l.length cap) (some (.int .i64 (k : Int))) none none).run Try.prog u = .ok (sliced A k l.length cap 3) u := fun u => by
    rw [run_slice_l u 77 A l.length cap (by rw [elemV]; exact Try.underlying77) .i64 k (by omega) (by omega)]
    simp [elemV, sizeOf, typeInfo, hi, hz1, Result.andThen]
  have hlen : (l.drop k).length = l.length - k := List.length_drop
  unfold sliced at hrun
  by_cases hck : cap = k
  · have hl : l.length = k := by have := hv.1; omega
    have h0 : l.drop k = [] := List.drop_eq_nil_of_le (by omega)
    refine ⟨A, 0, fun u => ?_, by rw [h0]; exact Vs.any_nil _ _ _ _ (fun _ => rfl)⟩
    rw [hrun u, h0, hck, hl]
    simp
  · by_cases h0 : l = []
    · subst h0
      simp only [List.length_nil, Nat.le_zero] at hk
      subst hk
      refine ⟨_, cap - 0, fun u => hrun u, Vs.any_nil _ _ _ _ ?_⟩
      intro e
      cases A with
      | none => exact hv.2.2.1 rfl
      | some ad => simp [hck] at e
    · obtain ⟨b, off, e, hb, _⟩ := hv.at_ (j := 0) (by cases l with | nil => exact absurd rfl h0 | cons _ _ => simp)
      subst e
      refine ⟨some ⟨b, off + k * 3, none⟩, cap - k, fun u => ?_, hv.from_ k⟩
      rw [hrun u, hlen]
      simp [hck, add_plain]
/-- what s[:k] of versions is -/
theorem run_upto {w : World} {B : Nat} {l : List V} {A : Option Addr} {cap : Nat} (hv : Vs w B l A cap) (k : Nat) (hk : k ≤ l.length) :
    ∃ A' c', (∀ u : World, (Instr.slice 77 (.slice A l.length cap) none (some (.int .i64 (k : Int))) none).run Try.prog u = .ok (.slice A' (l.take k).length c') u) ∧ Vs w B (l.take k) A' c' := by
  obtain ⟨i0, hi, hz0, hz1, hz2⟩ := info_parts infoV
  have h1 := hv.1
  have hrun : ∀ u : World, (Instr.slice 77 (.slice A l.length cap) none (some (.int .i64 (k : Int))) none).run Try.prog u = .ok (sliced A 0 k cap 3) u := fun u => by
    rw [run_slice_h u 77 A l.length cap (by rw [elemV]; exact Try.underlying77) .i64 k (by omega) (by omega)]
    simp [elemV, sizeOf, typeInfo, hi, hz1, Result.andThen]
  have hlen : (l.take k).length = k := by rw [List.length_take]; omega
  unfold sliced at hrun
  refine ⟨A, cap, fun u => ?_, ?_⟩
  · rw [hrun u, hlen]
    cases A with
    | none => simp
    | some ad => simp [Addr.add]
  · obtain ⟨h1, h2, h3, h4, h5⟩ := hv
    refine ⟨by omega, by omega, h3, fun j u hj => h4 j u ?_, fun x hx => h5 x (List.mem_of_mem_take hx)⟩
    have e : cellsV l = cellsV (l.take k) ++ cellsV (l.drop k) := by rw [← cellsV_app, List.take_append_drop]
    rw [e]
    rw [List.getElem?_append_left (by rcases Nat.lt_or_ge j (cellsV (l.take k)).length with h | h; exact h; rw [List.getElem?_eq_none h] at hj; cases hj)]
    exact hj
end Go.Proofs.Ytjlglfjikfpboaa.vers

/- Numbers that rise; the walk of EntryFinds, out of what is asked of the program's own calls. -/

namespace Go.Proofs.Ytjlglfjikfpboaa.vers
set_option linter.unusedVariables false
set_option linter.unusedSimpArgs false
open Go.RowKit Go.Proofs.Ytjlglfjikfpboaa.base Go.Proofs.Ytjlglfjikfpboaa.quotas

/-- numbers rise, from more than p on -/
def rises : Int → List V → Prop
  | _, [] => True
  | p, x :: l => p < x.n ∧ rises x.n l
theorem rises_vbad {c d : Int} : ∀ {l : List V} {p : Int}, vbad c d p l = 0 → rises p l ∧ ∀ x ∈ l, x.n ≤ 1073741824 ∧ (x.v.size : Int) ≤ c ∧ (x.t.size : Int) ≤ d
  | [], _, _ => ⟨trivial, fun x h => by cases h⟩
  | y :: l, p, h => by
    unfold vbad at h
    split at h
    · omega
    · rename_i h1
      split at h
      · omega
      · rename_i h2
        obtain ⟨k1, k2⟩ := rises_vbad h
        refine ⟨⟨by omega, k1⟩, fun x hx => ?_⟩
        rcases List.mem_cons.1 hx with rfl | hx
        · omega
        · exact k2 x hx
theorem vbad_rises {c d : Int} : ∀ {l : List V} {p : Int}, rises p l → (∀ x ∈ l, x.n ≤ 1073741824 ∧ (x.v.size : Int) ≤ c ∧ (x.t.size : Int) ≤ d) → vbad c d p l = 0
  | [], _, _, _ => rfl
  | y :: l, p, h, k => by
    have hy := k y (List.mem_cons_self)
    unfold vbad
    rw [if_neg (by have := h.1; omega), if_neg (by omega)]
    exact vbad_rises h.2 fun x hx => k x (List.mem_cons_of_mem _ hx)
theorem rises_more : ∀ {l : List V} {p q : Int}, rises p l → q ≤ p → rises q l
  | [], _, _, _, _ => trivial
  | y :: l, p, q, h, hq => ⟨by have := h.1; omega, h.2⟩
theorem rises_mem : ∀ {l : List V} {p : Int}, rises p l → ∀ x ∈ l, p < x.n
  | [], _, _, x, hx => by cases hx
  | y :: l, p, h, x, hx => by
    rcases List.mem_cons.1 hx with rfl | hx
    · exact h.1
    · have := rises_mem h.2 x hx; have := h.1; omega
theorem rises_app : ∀ {l m : List V} {p : Int}, rises p (l ++ m) → (∀ x ∈ l, ∀ y ∈ m, x.n < y.n) ∧ rises p m ∧ rises p l
  | [], m, p, h => ⟨(fun x hx => by cases hx), h, trivial⟩
  | y :: l, m, p, h => by
    have h2 : rises y.n (l ++ m) := h.2
    obtain ⟨k1, k2, k3⟩ := rises_app h2
    refine ⟨fun x hx z hz => ?_, rises_more k2 (by have := h.1; omega), h.1, k3⟩
    rcases List.mem_cons.1 hx with rfl | hx
    · exact rises_mem h2 z (List.mem_append_right _ hz)
    · exact k1 x hx z hz
theorem rises_snoc : ∀ {l : List V} {p : Int} (x : V), rises p l → (∀ y, l.getLast? = some y → y.n < x.n) → (l = [] → p < x.n) → rises p (l ++ [x])
  | [], p, x, _, _, h0 => ⟨h0 rfl, trivial⟩
  | [y], p, x, h, h1, _ => ⟨h.1, h1 y rfl, trivial⟩
  | y :: z :: l, p, x, h, h1, _ => ⟨h.1, rises_snoc (l := z :: l) x h.2 (fun w hw => h1 w (by rw [List.getLast?_cons_cons]; exact hw)) (fun e => by cases e)⟩
theorem noOf_more {l : List V} {p : Int} {v t : ByteArray} (hr : rises p l) (hp : p = 0) : rises p (l ++ [⟨noOf l, v, t⟩]) := by
  refine rises_snoc _ hr (fun y hy => ?_) (fun e => ?_)
  · show y.n < noOf l
    unfold noOf
    rw [hy]
    show y.n < y.n + 1
    omega
  · subst e
    subst hp
    show (0 : Int) < noOf []
    unfold noOf
    simp
theorem atV_rises : ∀ {l : List V} {p : Int}, rises p l → ∀ {j : Nat} (hj : j < l.length), atV l l[j].n = (l[j], true)
  | y :: l, p, h, 0, _ => by unfold atV; simp
  | y :: l, p, h, j + 1, hj => by
    have hj2 : j < l.length := by simpa using hj
    have h1 := rises_mem h.2 l[j] (List.getElem_mem hj2)
    have h2 := atV_rises h.2 hj2
    unfold atV at h2 ⊢
    rw [List.getElem_cons_succ, List.find?_cons, show (y.n == l[j].n) = false from beq_eq_false_iff_ne.2 (by omega)]
    exact h2
theorem atV_none {l : List V} {n : Int} (h : ∀ x ∈ l, x.n ≠ n) : atV l n = (zV, false) := by
  unfold atV
  rw [List.find?_eq_none.2 (fun x hx => by simpa using h x hx)]

/-- what add answers where nothing is wrong -/
theorem addP_ok {a b c d e f h kp : Int} {s : ByteArray} {l : List V} {v t : ByteArray} (hz : (addP a b c d e f h s l v t kp).bad = 0) :
    (addP a b c d e f h s l v t kp).s = s ∧ (addP a b c d e f h s l v t kp).d ++ (addP a b c d e f h s l v t kp).k = l ++ [⟨noOf l, v, t⟩] ∧ rises 0 (l ++ [⟨noOf l, v, t⟩]) ∧ nbad a b c d e f h s l = 0 ∧ noOf l ≤ 1073741824 ∧ (v.size : Int) ≤ c ∧ (t.size : Int) ≤ d ∧
    (addP a b c d e f h s l v t kp).k = l.drop ((l.length : Int) + 1 - kp).toNat ++ [⟨noOf l, v, t⟩] ∧ (addP a b c d e f h s l v t kp).d = l.take ((l.length : Int) + 1 - kp).toNat := by
  by_cases h1 : nbad a b c d e f h s l = 0
  · unfold addP at hz ⊢
    rw [if_neg (by simpa using h1)] at hz ⊢
    by_cases h2 : c < v.size ∨ d < t.size
    · rw [if_pos h2] at hz; exact absurd hz (by decide)
    · rw [if_neg h2] at hz ⊢
      by_cases h3 : 1073741824 < noOf l
      · rw [if_pos h3] at hz; exact absurd hz (by decide)
      · rw [if_neg h3]
        have hok := (nbad_zero h1).1
        have hv : vbad c d 0 l = 0 := by
          have h4 := h1
          rw [nbad_yes hok] at h4
          split at h4
          · omega
          · split at h4
            · omega
            · split at h4
              · omega
              · exact h4
        refine ⟨rfl, ?_, noOf_more (rises_vbad hv).1 rfl, h1, by omega, by omega, by omega, rfl, rfl⟩
        show l.take _ ++ (l.drop _ ++ [_]) = _
        rw [← List.append_assoc, List.take_append_drop]
  · unfold addP at hz
    rw [if_pos h1] at hz
    exact absurd hz h1

/-- a round's head of EntryFinds, either loop -/
def FHead (w : World) (g g2 : Nat) (s : ByteArray) (k d : List V) (u u' : Value) (n : Nat) (x : Value) (wr : World) : Prop :=
  ∃ j : Nat, j ≤ n ∧ x = .int .i64 j ∧ EBox wr g s u ∧ HV g2 wr k u ∧ HV g2 wr d u' ∧ Below w.heap.size w wr

end Go.Proofs.Ytjlglfjikfpboaa.vers

/- What EntryKeeps asks, in pure words. -/

namespace Go.Proofs.Ytjlglfjikfpboaa.vers
set_option linter.unusedVariables false
set_option linter.unusedSimpArgs false
open Go.RowKit Go.Proofs.Ytjlglfjikfpboaa.base Go.Proofs.Ytjlglfjikfpboaa.quotas

/-- whether something is wrong does not hang on how many are kept -/
theorem addP_bad {a b c d e f h : Int} {s : ByteArray} {l : List V} {v t : ByteArray} (kp kp' : Int) : (addP a b c d e f h s l v t kp).bad = (addP a b c d e f h s l v t kp').bad := by
  unfold addP
  split
  · rfl
  · split
    · rfl
    · split <;> rfl
/-- a tail of right versions and the new one may be -/
theorem keeps_right {a b c d e f h : Int} {s : ByteArray} {l : List V} {v t : ByteArray} {kp : Int} (hz : (addP a b c d e f h s l v t kp).bad = 0) (hlen : ((addP a b c d e f h s l v t kp).k.length : Int) ≤ e) :
    rb (nbad a b c d e f h s (addP a b c d e f h s l v t kp).k) (addP a b c d e f h s l v t kp).k = 0 := by
  obtain ⟨_, k1, k2, k3, k4, k5, k6, k7, _⟩ := addP_ok hz
  have hok := (nbad_zero k3).1
  have h3 := k3
  rw [nbad_yes hok] at h3
  by_cases h1 : s.size = 0
  · rw [if_pos h1] at h3; omega
  · rw [if_neg h1] at h3
    by_cases h2 : b < (s.size : Int)
    · rw [if_pos h2] at h3; omega
    · rw [if_neg h2] at h3
      by_cases h4 : e < (l.length : Int)
      · rw [if_pos h4] at h3; omega
      · rw [if_neg h4] at h3
        have hr := (rises_vbad h3).2
        rw [← k1] at k2
        have hk := (rises_app k2).2.1
        have hall : ∀ x ∈ (addP a b c d e f h s l v t kp).k, x.n ≤ 1073741824 ∧ (x.v.size : Int) ≤ c ∧ (x.t.size : Int) ≤ d := fun x hx => by
          have hx2 : x ∈ l ++ [⟨noOf l, v, t⟩] := by rw [← k1]; exact List.mem_append_right _ hx
          rcases List.mem_append.1 hx2 with e1 | e1
          · exact hr x e1
          · rw [List.mem_singleton.1 e1]; exact ⟨k4, k5, k6⟩
        have hn : nbad a b c d e f h s (addP a b c d e f h s l v t kp).k = 0 := by
          rw [nbad_yes hok, if_neg h1, if_neg h2, if_neg (by omega)]
          exact vbad_rises hk hall
        unfold rb
        rw [hn, if_neg]
        rintro ⟨_, h0⟩
        rw [k7] at h0
        simp at h0
theorem keeps_last {a b c d e f h : Int} {s : ByteArray} {l : List V} {v t : ByteArray} {kp : Int} (hz : (addP a b c d e f h s l v t kp).bad = 0) : lastV (addP a b c d e f h s l v t kp).k = (⟨noOf l, v, t⟩, true) := by
  obtain ⟨_, _, _, _, _, _, _, k7, _⟩ := addP_ok hz
  unfold lastV
  rw [k7, List.getLast?_concat]
/-- how many are left, how many dropped -/
theorem keeps_put {a b c d e f h : Int} {s : ByteArray} {l : List V} {v t : ByteArray} (hz : (addP a b c d e f h s l v t e).bad = 0) :
    ((addP a b c d e f h s l v t e).k.length : Int) ≤ e ∧ ((addP a b c d e f h s l v t e).d.length = 0 ∨ ((addP a b c d e f h s l v t e).k.length : Int) = e) ∧ (addP a b c d e f h s l v t e).d.length ≤ 1 ∧ (addP a b c d e f h s l v t e).k.length ≤ 5 := by
  obtain ⟨_, _, _, k3, _, _, _, k7, k8⟩ := addP_ok hz
  have hl := nbad_zero k3
  have he := hl.1.2.2.2.2.1
  rw [k7, k8]
  simp only [List.length_append, List.length_drop, List.length_take, List.length_singleton]
  omega
theorem keeps_over {a b c d e f h : Int} {s : ByteArray} {l : List V} {v t : ByteArray} (hz : (addP a b c d e f h s l v t 1).bad = 0) :
    (addP a b c d e f h s l v t 1).k = [⟨noOf l, v, t⟩] ∧ (addP a b c d e f h s l v t 1).d = l ∧ l.length ≤ 4 ∧ 1 ≤ e := by
  obtain ⟨_, _, _, k3, _, _, _, k7, k8⟩ := addP_ok hz
  have hl := nbad_zero k3
  refine ⟨?_, ?_, by omega, hl.1.2.2.2.2.1.1⟩
  · rw [k7, List.drop_eq_nil_of_le (by omega)]; rfl
  · rw [k8, List.take_of_length_le (by omega)]
end Go.Proofs.Ytjlglfjikfpboaa.vers

/- What package entry's renewed answers: two lists of the call's own, in blocks apart. -/

namespace Go.Proofs.Ytjlglfjikfpboaa.vers
set_option linter.unusedVariables false
set_option linter.unusedSimpArgs false
open Go.RowKit Go.Proofs.Ytjlglfjikfpboaa.base Go.Proofs.Ytjlglfjikfpboaa.quotas

theorem copied_at (l : List V) (A : Option Addr) (c : Nat) (B : Nat) (w : World) (hv : Vs w B l A c) (hB : B ≤ w.heap.size) (g : Nat) (hg : w.heap.size = g) :
    Calls Try.prog 184 #[.slice A l.length c] w fun x w' => x = .returned (.slice (some ⟨g, 0, none⟩) l.length l.length) ∧ OwnV g w' l (.slice (some ⟨g, 0, none⟩) l.length l.length) ∧ Below g w w' := by
  subst hg
  exact copied_any l A c B w hv hB

/-- behind the call's beginning: its own boxes -/
def Ry (w : World) (s : ByteArray) (u : Value) (x : V) (wr : World) : Prop :=
  EBox wr w.heap.size s u ∧ VBox wr (w.heap.size + 1) x ∧ Blk wr (w.heap.size + 2) 79 #[.string ⟨#[]⟩, .slice none 0 0] ∧ Below w.heap.size w wr
theorem Ry.new (w : World) (s : ByteArray) (u : Value) (x : V) : Ry w s u x (((w.alloc (.cells #[.string s, u] 79)).alloc (.cells #[.int .i64 x.n, .string x.v, .string x.t] 147)).alloc (.cells #[.string ⟨#[]⟩, .slice none 0 0] 79)) := by
  have k1 := EBox.new w s u
  have k2 := VBox.new (w.alloc (.cells #[.string s, u] 79)) x
  have k3 := Blk.new ((w.alloc (.cells #[.string s, u] 79)).alloc (.cells #[.int .i64 x.n, .string x.v, .string x.t] 147)) 79 #[.string ⟨#[]⟩, .slice none 0 0]
  simp only [World.size_alloc] at k2 k3
  exact ⟨(k1.alloc _).alloc _, k2.alloc _, k3, (((Below.refl _ _).alloc (Nat.le_refl _) _).alloc (by simp) _).alloc (by simp; omega) _⟩
theorem Ry.next {w wr w' : World} {s : ByteArray} {u : Value} {x : V} (h : Ry w s u x wr) (hb : Below wr.heap.size wr w') : Ry w s u x w' :=
  ⟨h.1.next hb, h.2.1.next hb, h.2.2.1.below hb h.2.2.1.lt, seq h.2.2.2 hb⟩

set_option maxRecDepth 100000 in
set_option maxHeartbeats 2000000 in
theorem renewed_any (s : ByteArray) (l : List V) (A : Option Addr) (cap : Nat) (k : Nat) (x : V) (w : World) (hv : Vs w w.heap.size l A cap) (hk : k ≤ l.length) (hx : x.fits) (hlen : (l.length + 1) * 40 ≤ 140737488355328) :
    Calls Try.prog 178 #[.agg #[.string s, .slice A l.length cap], .int .i64 (k : Int), .agg #[.int .i64 x.n, .string x.v, .string x.t]] w fun r w' => ∃ u u', r = .returned (.tuple #[.agg #[.string s, u], u']) ∧ OwnV w.heap.size w' (l.drop k ++ [x]) u ∧ OwnV w.heap.size w' (l.take k) u' ∧ (∀ g, u.ownBlock = some g → u'.ownBlock ≠ some g) ∧ Below w.heap.size w w' := by
  obtain ⟨A1, c1, hs1, hv1⟩ := run_from hv k hk
  obtain ⟨A2, c2, hs2, hv2⟩ := run_upto hv k hk
  have hlen1 : ((l.drop k).length + [x].length) * 40 ≤ 140737488355328 := by simp only [List.length_drop, List.length_singleton]; omega
  have I0 := Ry.new w s (.slice A l.length cap) x
  clear hk hlen
  generalize l.drop k = K1 at hs1 hv1 hlen1 ⊢
  generalize l.take k = K2 at hs2 hv2 ⊢
  go_enter Try.func178, Try.ntmps178
  go_wp2_with fail
  generalize ((w.alloc (.cells #[.string s, .slice A l.length cap] 79)).alloc (.cells #[.int .i64 x.n, .string x.v, .string x.t] 147)).alloc (.cells #[.string ⟨#[]⟩, .slice none 0 0] 79) = W at I0 ⊢
  have hW := I0.2.2.1.lt
  have bW := I0.2.2.2
  obtain ⟨⟨⟨e0, e1⟩, e2⟩, ⟨⟨v0, v1, v2⟩, v3⟩, hR, _⟩ := id I0
  go_cut [8] (fun s8 wx => OwnV W.heap.size wx (K1 ++ [x]) s8 ∧ Below W.heap.size W wx)
  case first =>
    have B1 : Below W.heap.size W W.drew := (Below.refl _ _).drew
    have B2 : Below W.heap.size W (W.alloc (.cells #[.int .i64 x.n, .string x.v, .string x.t] 147)).drew := ((Below.refl _ _).alloc (Nat.le_refl _) _).drew
    have V1 := hv1.below (bW.trans (B1.mono bW.size))
    have V2 := hv1.below (bW.trans (B2.mono bW.size))
    have S1 : w.heap.size ≤ W.drew.heap.size := bW.size
    have S2 : w.heap.size ≤ (W.alloc (.cells #[.int .i64 x.n, .string x.v, .string x.t] 147)).drew.heap.size := by have := bW.size; simp; omega
    have O2 := Vs.one W x hx
    go_region_held3 (fun w' => w'.cell? ⟨w.heap.size, 1, none⟩ = some (.slice A l.length cap) ∧ w'.cell? ⟨w.heap.size + 1, 0, none⟩ = some (.int .i64 x.n) ∧ w'.cell? ⟨w.heap.size + 1, 1, none⟩ = some (.string x.v) ∧ w'.cell? ⟨w.heap.size + 1, 2, none⟩ = some (.string x.t))
      (first | go_keep | (go_split_ands; refine ⟨?_, ?_, ?_, ?_⟩ <;> (rw [hP9.cell (by simp; omega)]; assumption)) | (go_split_ands; refine ⟨?_, ?_, ?_, ?_⟩ <;> (rw [hP8.cell (by simp; omega)]; assumption)))
      ((first
        | (go_at_call 184; refine (copied_any K1 A1 c1 w.heap.size _ ?_ ?_).mono ?_; (first | with_reducible exact V1 | with_reducible exact V2); (first | with_reducible exact S1 | with_reducible exact S2); rintro r w1 ⟨rfl, hown, hb1⟩; simp only [World.size_drew, World.size_alloc] at hown hb1;
            (first | (have hP8 := B1.trans hb1; have hlo : W.heap.size ≤ W.heap.size := Nat.le_refl _) | (have hP8 := B2.trans (hb1.mono (Nat.le_succ _)); have hlo : W.heap.size ≤ W.heap.size + 1 := Nat.le_succ _; have hone' := (O2.drew).below hb1)); have hs8 := hP8.size)
        | (apply step_append_vs (s := .tmp 13) (x := .tmp 15) (lo := W.heap.size) (l := K1) (m := [x]) (n := 1) (c := 1) (v := .slice (some ⟨W.heap.size, 0, none⟩) K1.length K1.length); (case hgd => rfl); (case ho => rfl); (case hs => rfl); (case hx => rfl); (case hn => rfl); (case hB => exact (hown.more hlo).below ((Below.refl _ _).alloc (Nat.le_refl _) _)); (case hlo => exact Nat.le_trans hP8.size (by simp)); (case hv => exact Vs.one _ _ hx); (case hlen => exact hlen1); intro v'' w9 hown2 hg2 hat2;
            have hP9 := (hP8.alloc hP8.size (.cells #[.int .i64 x.n, .string x.v, .string x.t] 147)).grown hg2 (Nat.le_trans hP8.size (by simp)) (fun k hk => ((hown.more hlo).own k hk).1);
            obtain ⟨A9, n9, c9, rfl, hn9⟩ := hown2.shape)
        | (apply step_append_vs (s := .tmp 13) (x := .tmp 15) (lo := W.heap.size) (l := K1) (m := [x]) (n := 1) (c := 1) (v := .slice (some ⟨W.heap.size + 1, 0, none⟩) K1.length K1.length); (case hgd => rfl); (case ho => rfl); (case hs => rfl); (case hx => rfl); (case hn => rfl); (case hB => exact hown.more hlo); (case hlo => exact hP8.size); (case hv => exact hone'); (case hlen => exact hlen1); intro v'' w9 hown2 hg2 hat2;
            have hP9 := hP8.grown hg2 hP8.size (fun k hk => ((hown.more hlo).own k hk).1);
            obtain ⟨A9, n9, c9, rfl, hn9⟩ := hown2.shape)))
    all_goals (go_wp2_with fail; go_meet; exact ⟨hown2, hP9⟩)
  case rest =>
    obtain ⟨hA, hBc⟩ := hcut
    have I2 := I0.next hBc
    clear I0 hR e0 e1 e2 v0 v1 v2 v3
    have hs2' := hBc.size
    have bw2 := I2.2.2.2
    have V3 := hv2.below (bw2.drew)
    have S3 : w.heap.size ≤ wc.drew.heap.size := bw2.size
    obtain ⟨⟨⟨e0, e1⟩, e2⟩, ⟨⟨v0, v1, v2⟩, v3⟩, hR, _⟩ := id I2
    obtain ⟨A8, n8, c8, rfl, hn8⟩ := hA.shape
    have hR' := lay hR
    clear hR
    go_wp2_with fail
    go_region_held3 (fun w' => w'.cell? ⟨w.heap.size, 0, none⟩ = some (.string s) ∧ w'.cell? ⟨w.heap.size, 1, none⟩ = some (.slice A l.length cap))
      (first | go_keep | (go_split_ands; refine ⟨?_, ?_⟩ <;> (rw [hb3.cell (by simp; omega)]; assumption)) | (go_split_ands; refine ⟨?_, ?_⟩ <;> (rw [World.cell?_setCell_other _ _ _ _ (by simp), World.cell?_setCell_other _ _ _ _ (by simp)]; assumption)))
      ((go_at_call 184; refine (copied_any K2 A2 c2 w.heap.size _ ?_ ?_).mono ?_; (with_reducible exact V3); (with_reducible exact S3); rintro r w3 ⟨rfl, hown3, hb3⟩; simp only [World.size_drew] at hown3 hb3;
          have hb3' := ((Below.refl wc.heap.size wc).drew).trans hb3;
          have hR3 := hR'.out.below hb3' hR'.out.lt;
          have y0 := hR3.cell 0;
          have y1 := hR3.cell 1;
          simp at y0 y1;
          have g0 := hR3.frozen 0;
          have g1 := hR3.frozen 1;
          have q0 := (hb3'.cell (p := ⟨w.heap.size, 0, none⟩) (by simp; omega)).trans e0;
          have q1 := (hb3'.cell (p := ⟨w.heap.size, 1, none⟩) (by simp; omega)).trans e1;
          have hs3 := hb3'.size))
    go_wp2_with fail
    have hA3 := hA.below hb3'
    have hW3 : w.heap.size + 1 + 1 < W.heap.size := hW
    refine bodyPost_ret (v := .tuple #[.agg #[.string s, .slice A8 n8 c8], .slice (some ⟨wc.heap.size, 0, none⟩) K2.length K2.length]) (by simp [results, Try.results178, go_sem, y0, y1]) rfl ⟨_, _, rfl, ((hA3.setCell hW3 _).setCell hW3 _).more bW.size, ((hown3.setCell (Nat.lt_of_lt_of_le hW3 hBc.size) _).setCell (Nat.lt_of_lt_of_le hW3 hBc.size) _).more bw2.size, ?_, ((seq bw2 hb3').setCell (by simp; omega) _).setCell (by simp; omega) _⟩
    intro g hg e
    simp [Value.ownBlock] at e
    have := (hA.own g hg).2
    omega
end Go.Proofs.Ytjlglfjikfpboaa.vers

/- What package entry's Put and Over answer. -/

namespace Go.Proofs.Ytjlglfjikfpboaa.vers
set_option linter.unusedVariables false
set_option linter.unusedSimpArgs false
open Go.RowKit Go.Proofs.Ytjlglfjikfpboaa.base Go.Proofs.Ytjlglfjikfpboaa.quotas

theorem renewed_int (s : ByteArray) (l : List V) (A : Option Addr) (cap : Nat) (k' : Int) (k : Nat) (x : V) (w : World) (hk' : k' = (k : Int)) (hv : Vs w w.heap.size l A cap) (hk : k ≤ l.length) (hx : x.fits) (hlen : (l.length + 1) * 40 ≤ 140737488355328) :
    Calls Try.prog 178 #[.agg #[.string s, .slice A l.length cap], .int .i64 k', .agg #[.int .i64 x.n, .string x.v, .string x.t]] w fun r w' => ∃ u u', r = .returned (.tuple #[.agg #[.string s, u], u']) ∧ OwnV w.heap.size w' (l.drop k ++ [x]) u ∧ OwnV w.heap.size w' (l.take k) u' ∧ (∀ g, u.ownBlock = some g → u'.ownBlock ≠ some g) ∧ Below w.heap.size w w' := by
  subst hk'
  exact renewed_any s l A cap k x w hv hk hx hlen

theorem nextP_zero {a b c d e f h : Int} {s : ByteArray} {l : List V} {v t : ByteArray} (h0 : (nextP a b c d e f h s l v t).2 = 0) : nbad a b c d e f h s l = 0 ∧ (nextP a b c d e f h s l v t).1 = ⟨noOf l, v, t⟩ ∧ noOf l ≤ 1073741824 := by
  unfold nextP at h0 ⊢
  by_cases hz : nbad a b c d e f h s l = 0
  · rw [if_neg (by simpa using hz)] at h0 ⊢
    by_cases ht : tb c d v t = true
    · rw [if_pos ht] at h0; simp at h0
    · rw [if_neg ht] at h0 ⊢
      by_cases hn : 1073741824 < noOf l
      · rw [if_pos hn] at h0; simp at h0
      · rw [if_neg hn]
        exact ⟨hz, rfl, by omega⟩
  · rw [if_pos hz] at h0
    exact absurd h0 hz
theorem addP_next (a b c d e f h : Int) (s : ByteArray) (l : List V) (v t : ByteArray) (kp : Int) :
    addP a b c d e f h s l v t kp = if (nextP a b c d e f h s l v t).2 ≠ 0 then badA (nextP a b c d e f h s l v t).2 else ⟨0, s, l.drop ((l.length : Int) + 1 - kp).toNat ++ [(nextP a b c d e f h s l v t).1], l.take ((l.length : Int) + 1 - kp).toNat⟩ := by
  unfold addP nextP
  by_cases hz : nbad a b c d e f h s l = 0
  · rw [if_neg (by simpa using hz), if_neg (show ¬ nbad a b c d e f h s l ≠ 0 by simpa using hz)]
    by_cases ht : tb c d v t = true
    · rw [if_pos (tb_iff.1 ht), if_pos ht]; rfl
    · rw [if_neg (fun h => ht (tb_iff.2 h)), if_neg ht]
      by_cases hn : 1073741824 < noOf l
      · rw [if_pos hn, if_pos hn]; rfl
      · rw [if_neg hn, if_neg hn]; rfl
  · rw [if_pos hz, if_pos (show nbad a b c d e f h s l ≠ 0 from hz), if_pos hz]

/-- how Put and Over answer: both lists are the call's own, and apart -/
def PutOwn (w : World) (r : Ad) (x : Ending) (w' : World) : Prop :=
  ∃ u u', x = .returned (.tuple #[.agg #[.string r.s, u], u', .int .i64 r.bad]) ∧ Below w.heap.size w w' ∧ OwnV w.heap.size w' r.k u ∧ OwnV w.heap.size w' r.d u' ∧ (∀ g, u.ownBlock = some g → u'.ownBlock ≠ some g)

/-- behind the call's beginning: its own boxes -/
def Px (w : World) (a b c d e f h : Int) (s : ByteArray) (u : Value) (wr : World) : Prop :=
  Bx w a b c d e f h s u wr ∧ Blk wr (w.heap.size + 2) 79 #[.string ⟨#[]⟩, .slice none 0 0]
theorem Px.new (w : World) (a b c d e f h : Int) (s : ByteArray) (u : Value) : Px w a b c d e f h s u (((w.alloc (.cells #[.int .i64 a, .int .i64 b, .int .i64 c, .int .i64 d, .int .i64 e, .int .i64 f, .int .i64 h] 59)).alloc (.cells #[.string s, u] 79)).alloc (.cells #[.string ⟨#[]⟩, .slice none 0 0] 79)) := by
  have k := Blk.new ((w.alloc (.cells #[.int .i64 a, .int .i64 b, .int .i64 c, .int .i64 d, .int .i64 e, .int .i64 f, .int .i64 h] 59)).alloc (.cells #[.string s, u] 79)) 79 #[.string ⟨#[]⟩, .slice none 0 0]
  simp only [World.size_alloc] at k
  exact ⟨(Bx.new w a b c d e f h s u).alloc _, k⟩
theorem Px.next {w wr w' : World} {a b c d e f h : Int} {s : ByteArray} {u : Value} (h1 : Px w a b c d e f h s u wr) (hb : Below wr.heap.size wr w') : Px w a b c d e f h s u w' :=
  ⟨h1.1.next hb, h1.2.below hb h1.2.lt⟩
theorem Px.size {w wr : World} {a b c d e f h : Int} {s : ByteArray} {u : Value} (h1 : Px w a b c d e f h s u wr) : w.heap.size + 2 < wr.heap.size := h1.2.lt
theorem Px.alloc {w wr : World} {a b c d e f h : Int} {s : ByteArray} {u : Value} (h1 : Px w a b c d e f h s u wr) (ob : Obj) : Px w a b c d e f h s u (wr.alloc ob) := h1.next ((Below.refl _ _).alloc (Nat.le_refl _) _)
theorem two_below {B g : Nat} {a w : World} (h : Below B a w) (hg : B ≤ g) (u v : Value) : Below B a ((w.setCell ⟨g, 0, none⟩ u).setCell ⟨g, 1, none⟩ v) := (h.setCell hg u).setCell hg v
theorem OwnV.two {lo : Nat} {w : World} {l : List V} {v : Value} (h : OwnV lo w l v) {g : Nat} (hg : g < lo) (x y : Value) : OwnV lo ((w.setCell ⟨g, 0, none⟩ x).setCell ⟨g, 1, none⟩ y) l v := (h.setCell hg x).setCell hg y
theorem OwnV.alloc {lo : Nat} {w : World} {l : List V} {v : Value} (h : OwnV lo w l v) (ob : Obj) : OwnV lo (w.alloc ob) l v := h.below ((Below.refl _ _).alloc (Nat.le_refl _) _)

set_option maxRecDepth 100000 in
set_option maxHeartbeats 400000 in
theorem put_own (a b c d e f h : Int) (s : ByteArray) (l : List V) (A : Option Addr) (cap : Nat) (v t : ByteArray) (w : World) (hv : Vs w w.heap.size l A cap) (hfit : v.size ≤ maxLen ∧ t.size ≤ maxLen) :
    Calls Try.prog 166 #[.agg #[.int .i64 a, .int .i64 b, .int .i64 c, .int .i64 d, .int .i64 e, .int .i64 f, .int .i64 h], .agg #[.string s, .slice A l.length cap], .string v, .string t] w (PutOwn w (addP a b c d e f h s l v t e)) := by
  have hC := Px.new w a b c d e f h s (.slice A l.length cap)
  have hsz0 := hC.size
  have hc := next_any a b c d e f h s l A cap v t _ (hv.at_world hC.1.below)
  have hok := fun h0 => nextP_zero (a := a) (b := b) (c := c) (d := d) (e := e) (f := f) (h := h) (s := s) (l := l) (v := v) (t := t) h0
  rw [addP_next]
  generalize nextP a b c d e f h s l v t = p at hc hok ⊢
  obtain ⟨⟨pn, pv, pt⟩, pe⟩ := p
  simp only [V.val] at hc hok ⊢
  by_cases h0 : pe = 0
  · subst h0
    obtain ⟨hz, hpx, hno⟩ := hok rfl
    cases hpx
    obtain ⟨hk, hl4, hle⟩ := nbad_zero hz
    have he : 1 ≤ e ∧ e ≤ 4 := hk.2.2.2.2.1
    have hx : (⟨noOf l, v, t⟩ : V).fits := by
      refine ⟨?_, hfit⟩
      have := lastV_in hz
      have := noOf_last l
      constructor <;> simp only <;> omega
    clear hok hno hk hz hfit
    rw [if_neg (by simp)]
    generalize noOf l = pn at hc hx ⊢
    obtain ⟨K, hK⟩ : ∃ K, K = ((l.length : Int) + 1 - e).toNat := ⟨_, rfl⟩
    rw [show ((l.length : Int) + 1 - e).toNat = K by omega]
    have hKl : K ≤ l.length := by omega
    have hKi := lay hK
    clear hK
    go_enter Try.func166, Try.ntmps166
    go_wp2_with fail
    refine hc.mono ?_
    rintro x w1 ⟨rfl, hb1⟩
    have I1 := (hC.next hb1)
    have I2 := I1.alloc (.cells #[.int .i64 pn, .string v, .string t] 147)
    clear hb1 hC hc
    have hs1 := I1.size
    obtain ⟨⟨⟨⟨c0, c1, c2, c3, c4, c5, c6⟩, l1, l2, b1⟩, ⟨e0, e1⟩, l3⟩, hR⟩ := id I1
    have z0 := hR.cell 0
    have z1 := hR.cell 1
    simp at z0 z1
    have f0 := hR.frozen 0
    have f1 := hR.frozen 1
    have V0 := Blk.new w1 147 #[.int .i64 pn, .string v, .string t]
    have v0 := V0.cell 0
    have v1 := V0.cell 1
    have v2 := V0.cell 2
    simp at v0 v1 v2
    go_wp2_with fail
    all_goals
      refine (renewed_int s l A cap _ K ⟨pn, v, t⟩ _ (by have := hKi.out; omega) (hv.at_world I2.1.below) hKl hx (by omega)).mono ?_
      rintro x w2 ⟨u, u', rfl, hu, hu', hap, hb2⟩
      clear c0 c1 c2 c3 c4 c5 c6 l1 l2 b1 e0 e1 l3 hR z0 z1 f0 f1
      clear V0 v0 v1 v2
      have I3 := I2.next hb2
      simp only [World.size_alloc] at hu hu' hb2
      obtain ⟨AX, nX, cX, rfl, hn1⟩ := hu.shape
      obtain ⟨AY, nY, cY, rfl, hn2⟩ := hu'.shape
      have I4 := I3.alloc (.cells #[.string s, .slice AX nX cX] 79)
      have hs2 := I3.size
      obtain ⟨⟨⟨⟨c0, c1, c2, c3, c4, c5, c6⟩, l1, l2, b1⟩, ⟨e0, e1⟩, l3⟩, hR⟩ := id I3
      have z0 := hR.cell 0
      have z1 := hR.cell 1
      simp at z0 z1
      have f0 := hR.frozen 0
      have f1 := hR.frozen 1
      have k5 := EBox.new w2 s (.slice AX nX cX)
      obtain ⟨⟨k0, k1⟩, k2⟩ := k5
      go_wp2_with fail
      have hw3 : w.heap.size + 2 < w1.heap.size + 1 := by omega
      refine bodyPost_ret (v := .tuple #[.agg #[.string s, .slice AX nX cX], .slice AY nY cY, .int .i64 0]) (by simp [results, Try.results166, go_sem, z0, z1, hs2]) rfl ⟨_, _, rfl, (two_below I3.1.below (by omega) _ _).alloc (by simp; omega) _, ((hu.two hw3 _ _).alloc _).more (by omega), ((hu'.two hw3 _ _).alloc _).more (by omega), hap⟩
  · rw [if_pos h0]
    have d1 : (pe != 0) = true := by simpa using h0
    clear hok hfit h0
    go_enter Try.func166, Try.ntmps166
    go_wp2_with fail
    refine hc.mono ?_
    rintro x w1 ⟨rfl, hb1⟩
    have I1 := (hC.next hb1)
    have I2 := I1.alloc (.cells #[.int .i64 pn, .string pv, .string pt] 147)
    clear hb1 hC hc
    have hs1 := I1.size
    obtain ⟨⟨⟨⟨c0, c1, c2, c3, c4, c5, c6⟩, l1, l2, b1⟩, ⟨e0, e1⟩, l3⟩, hR⟩ := id I1
    have z0 := hR.cell 0
    have z1 := hR.cell 1
    simp at z0 z1
    have f0 := hR.frozen 0
    have f1 := hR.frozen 1
    go_wp2_with fail
    refine bodyPost_ret (v := .tuple #[.agg #[.string ⟨#[]⟩, .slice none 0 0], .slice none 0 0, .int .i64 pe]) (by simp [results, Try.results166, go_sem, z0, z1, hs1]) rfl ⟨_, _, rfl, (two_below I1.1.below (by omega) _ _).alloc (by simp; omega) _, OwnV.nil _ _, OwnV.nil _ _, (fun g hg => by simp [Value.ownBlock] at hg)⟩

set_option maxRecDepth 100000 in
set_option maxHeartbeats 400000 in
theorem over_own (a b c d e f h : Int) (s : ByteArray) (l : List V) (A : Option Addr) (cap : Nat) (v t : ByteArray) (w : World) (hv : Vs w w.heap.size l A cap) (hfit : v.size ≤ maxLen ∧ t.size ≤ maxLen) :
    Calls Try.prog 167 #[.agg #[.int .i64 a, .int .i64 b, .int .i64 c, .int .i64 d, .int .i64 e, .int .i64 f, .int .i64 h], .agg #[.string s, .slice A l.length cap], .string v, .string t] w (PutOwn w (addP a b c d e f h s l v t 1)) := by
  have hC := Px.new w a b c d e f h s (.slice A l.length cap)
  have hsz0 := hC.size
  have hc := next_any a b c d e f h s l A cap v t _ (hv.at_world hC.1.below)
  have hok := fun h0 => nextP_zero (a := a) (b := b) (c := c) (d := d) (e := e) (f := f) (h := h) (s := s) (l := l) (v := v) (t := t) h0
  rw [addP_next]
  generalize nextP a b c d e f h s l v t = p at hc hok ⊢
  obtain ⟨⟨pn, pv, pt⟩, pe⟩ := p
  simp only [V.val] at hc hok ⊢
  by_cases h0 : pe = 0
  · subst h0
    obtain ⟨hz, hpx, hno⟩ := hok rfl
    cases hpx
    obtain ⟨hk, hl4, hle⟩ := nbad_zero hz
    have he : 1 ≤ e ∧ e ≤ 4 := hk.2.2.2.2.1
    have hx : (⟨noOf l, v, t⟩ : V).fits := by
      refine ⟨?_, hfit⟩
      have := lastV_in hz
      have := noOf_last l
      constructor <;> simp only <;> omega
    clear hok hno hk hz hfit
    rw [if_neg (by simp)]
    generalize noOf l = pn at hc hx ⊢
    obtain ⟨K, hK⟩ : ∃ K, K = l.length := ⟨_, rfl⟩
    rw [show ((l.length : Int) + 1 - 1).toNat = K by omega]
    have hKl : K ≤ l.length := by omega
    have hKi := lay hK
    clear hK
    go_enter Try.func167, Try.ntmps167
    go_wp2_with fail
    refine hc.mono ?_
    rintro x w1 ⟨rfl, hb1⟩
    have I1 := (hC.next hb1)
    have I2 := I1.alloc (.cells #[.int .i64 pn, .string v, .string t] 147)
    clear hb1 hC hc
    have hs1 := I1.size
    obtain ⟨⟨⟨⟨c0, c1, c2, c3, c4, c5, c6⟩, l1, l2, b1⟩, ⟨e0, e1⟩, l3⟩, hR⟩ := id I1
    have z0 := hR.cell 0
    have z1 := hR.cell 1
    simp at z0 z1
    have f0 := hR.frozen 0
    have f1 := hR.frozen 1
    have V0 := Blk.new w1 147 #[.int .i64 pn, .string v, .string t]
    have v0 := V0.cell 0
    have v1 := V0.cell 1
    have v2 := V0.cell 2
    simp at v0 v1 v2
    go_wp2_with fail
    all_goals
      refine (renewed_int s l A cap _ K ⟨pn, v, t⟩ _ (by have := hKi.out; omega) (hv.at_world I2.1.below) hKl hx (by omega)).mono ?_
      rintro x w2 ⟨u, u', rfl, hu, hu', hap, hb2⟩
      clear c0 c1 c2 c3 c4 c5 c6 l1 l2 b1 e0 e1 l3 hR z0 z1 f0 f1
      clear V0 v0 v1 v2
      have I3 := I2.next hb2
      simp only [World.size_alloc] at hu hu' hb2
      obtain ⟨AX, nX, cX, rfl, hn1⟩ := hu.shape
      obtain ⟨AY, nY, cY, rfl, hn2⟩ := hu'.shape
      have I4 := I3.alloc (.cells #[.string s, .slice AX nX cX] 79)
      have hs2 := I3.size
      obtain ⟨⟨⟨⟨c0, c1, c2, c3, c4, c5, c6⟩, l1, l2, b1⟩, ⟨e0, e1⟩, l3⟩, hR⟩ := id I3
      have z0 := hR.cell 0
      have z1 := hR.cell 1
      simp at z0 z1
      have f0 := hR.frozen 0
      have f1 := hR.frozen 1
      have k5 := EBox.new w2 s (.slice AX nX cX)
      obtain ⟨⟨k0, k1⟩, k2⟩ := k5
      go_wp2_with fail
      have hw3 : w.heap.size + 2 < w1.heap.size + 1 := by omega
      refine bodyPost_ret (v := .tuple #[.agg #[.string s, .slice AX nX cX], .slice AY nY cY, .int .i64 0]) (by simp [results, Try.results167, go_sem, z0, z1, hs2]) rfl ⟨_, _, rfl, (two_below I3.1.below (by omega) _ _).alloc (by simp; omega) _, ((hu.two hw3 _ _).alloc _).more (by omega), ((hu'.two hw3 _ _).alloc _).more (by omega), hap⟩
  · rw [if_pos h0]
    have d1 : (pe != 0) = true := by simpa using h0
    clear hok hfit h0
    go_enter Try.func167, Try.ntmps167
    go_wp2_with fail
    refine hc.mono ?_
    rintro x w1 ⟨rfl, hb1⟩
    have I1 := (hC.next hb1)
    have I2 := I1.alloc (.cells #[.int .i64 pn, .string pv, .string pt] 147)
    clear hb1 hC hc
    have hs1 := I1.size
    obtain ⟨⟨⟨⟨c0, c1, c2, c3, c4, c5, c6⟩, l1, l2, b1⟩, ⟨e0, e1⟩, l3⟩, hR⟩ := id I1
    have z0 := hR.cell 0
    have z1 := hR.cell 1
    simp at z0 z1
    have f0 := hR.frozen 0
    have f1 := hR.frozen 1
    go_wp2_with fail
    refine bodyPost_ret (v := .tuple #[.agg #[.string ⟨#[]⟩, .slice none 0 0], .slice none 0 0, .int .i64 pe]) (by simp [results, Try.results167, go_sem, z0, z1, hs1]) rfl ⟨_, _, rfl, (two_below I1.1.below (by omega) _ _).alloc (by simp; omega) _, OwnV.nil _ _, OwnV.nil _ _, (fun g hg => by simp [Value.ownBlock] at hg)⟩

theorem PutOwn.ans {w : World} {r : Ad} {x : Ending} {w' : World} (h : PutOwn w r x w') : PutAns w r x w' := by
  obtain ⟨u, u', e, hb, h1, h2, _⟩ := h
  exact ⟨u, u', e, hb, h1.hv, h2.hv⟩
theorem putIs : PutIs := fun a b c d e f h s l A cap v t w hv hfit => (put_own a b c d e f h s l A cap v t w hv hfit).mono fun _ _ h => h.ans
theorem overIs : OverIs := fun a b c d e f h s l A cap v t w hv hfit => (over_own a b c d e f h s l A cap v t w hv hfit).mono fun _ _ h => h.ans
end Go.Proofs.Ytjlglfjikfpboaa.vers
