/- What package node's own Right answers: a loop over parts, each judged by a function that is handed on. -/
import Derived.Test.YtoenkkbcpafanaaA27


namespace Go.Proofs.Ytoenkkbcpafanaa.nodes
set_option linter.unusedVariables false
set_option linter.unusedSimpArgs false
open Go.RowKit Go.Proofs.Ytoenkkbcpafanaa.base Go.Proofs.Ytoenkkbcpafanaa.quotas Go.Proofs.Ytoenkkbcpafanaa.vers

/-- the text that stands ahead: the empty one ahead of all -/
def bef : Option ByteArray → ByteArray
  | none => ⟨#[]⟩
  | some s => s
theorem behind_bef {s : ByteArray} (h : s.size ≠ 0) (p : Option ByteArray) : behind s p = sle s (bef p) := by
  cases p with
  | some y => rfl
  | none =>
    have h1 := empty_no h
    have he : (⟨#[]⟩ : ByteArray).toList = [] := List.isEmpty_iff.1 (empty_yes (s := ⟨#[]⟩) rfl)
    show false = sle s ⟨#[]⟩
    cases hs : s.toList with
    | nil => rw [hs] at h1; cases h1
    | cons x l => unfold sle; rw [hs, he]; rfl
theorem kbad_one (b : Int) (p : Option ByteArray) (l : List K) {j : Nat} (hj : j < l.length) : kbad b p (l.drop j) = if kone b l[j] ≠ 0 then kone b l[j] else if sle l[j].s (bef p) = true then 60 else kbad b (some l[j].s) (l.drop (j + 1)) := by
  rw [kbad_at b p l hj]
  unfold kone
  by_cases h1 : l[j].s.size = 0
  · rw [if_pos h1, if_pos h1]; simp
  · rw [if_neg h1, if_neg h1]
    by_cases h2 : b < (l[j].s.size : Int)
    · rw [if_pos h2, if_pos h2]; simp
    · rw [if_neg h2, if_neg h2]
      by_cases h3 : ¬ refOk l[j].g l[j].o l[j].n
      · rw [if_pos h3, if_pos h3]; simp
      · rw [if_neg h3, if_neg h3, behind_bef h1]; simp
theorem nbad_name {a b c d e f h : Int} {s : ByteArray} {l : List V} (hz : rb (nbad a b c d e f h s l) l = 0) : s.size ≠ 0 := by
  intro h0
  unfold rb nbad at hz
  by_cases hk : ok a b c d e f h
  · rw [if_pos hk, if_pos h0] at hz
    simp at hz
  · rw [if_neg hk] at hz
    simp at hz
theorem ebad_one (a b c d e f h : Int) (p : Option ByteArray) (l : List E) {j : Nat} (hj : j < l.length) : ebad a b c d e f h p (l.drop j) = if rb (nbad a b c d e f h l[j].s l[j].l) l[j].l ≠ 0 then rb (nbad a b c d e f h l[j].s l[j].l) l[j].l else if sle l[j].s (bef p) = true then 60 else ebad a b c d e f h (some l[j].s) (l.drop (j + 1)) := by
  rw [ebad_at a b c d e f h p l hj]
  by_cases hz : rb (nbad a b c d e f h l[j].s l[j].l) l[j].l = 0
  · rw [behind_bef (nbad_name hz)]
  · rw [if_pos hz, if_pos hz]

/-- a round's head: so far nothing is wrong -/
def RHeadK (w : World) (g : Nat) (a b c d e f h : Int) (ks : List K) (x y : Value) (wr : World) : Prop :=
  ∃ j : Nat, j ≤ ks.length ∧ x = .string (bef (aheadK ks j)) ∧ y = .int .i64 j ∧ Hid (kbad b none ks = kbad b (aheadK ks j) (ks.drop j)) ∧ Q7 wr g a b c d e f h ∧ Below w.heap.size w wr

set_option maxRecDepth 100000 in
set_option maxHeartbeats 1000000 in
theorem risingK_any (a b c d e f h : Int) (ks : List K) (A : Option Addr) (cap : Nat) (g : Nat) (w : World) (hq : Q7 w g a b c d e f h) (hk : Ks w w.heap.size ks A cap) :
    Calls Try.prog 212 #[.slice A ks.length cap, .func (.func 213) #[] #[.pointer (some ⟨g, 0, none⟩)]] w fun x w' => x = .returned (.int .i64 (kbad b none ks)) ∧ Below w.heap.size w w' := by
  have hlen : ks.length ≤ 140737488355328 := by have := hk.2.1; omega
  go_enter Try.func212, Try.ntmps212
  go_wp2_with fail
  go_loopw [5, 12] (fun x y wr => RHeadK w g a b c d e f h ks x y wr) (fun _ y _ => ks.length - (intOf y).toNat)
  case atStart => exact ⟨0, Nat.zero_le _, by rw [aheadK_zero]; rfl, rfl, lay (by rw [aheadK_zero]; rfl), hq, Below.refl _ _⟩
  case round =>
    obtain ⟨j, hj, rfl, rfl, hV, I2, b1⟩ := hrel
    clear hq
    by_cases hlt : j < ks.length
    · obtain ⟨bk, off, rfl, hbk, e0, e1, e2, e3, e4⟩ := (hk.below b1).at_ hlt
      have hat := lay (kbad_one b (aheadK ks j) ks hlt)
      have hsu := lay (aheadK_succ ks hlt)
      generalize hbp : bef (aheadK ks j) = p at hat ⊢
      clear hbp
      have D3 : Below wr.heap.size wr (wr.alloc (.cells #[.string ks[j].s, .int .u64 (ks[j].k : Int), .int .i64 ks[j].g, .int .i64 ks[j].o, .int .i64 ks[j].n] 162)) := (Below.refl _ _).alloc (Nat.le_refl _) _
      have I3 := I2.next D3
      have b3 := b1.trans (D3.mono b1.size)
      have hc := judgeK_any a b c d e f h ks[j] g _ I3
      generalize hn : kone b ks[j] = n at hc hat
      clear hn D3 I2
      by_cases hn0 : n = 0
      · have z1 : (n != 0) = false := by simp [hn0]
        have hat2 := lay (hat.out.trans (if_neg (by simpa using hn0)))
        clear hn0 hat
        cases hs1 : Op.bytesLess ks[j].s.toList p.toList
        · cases hs2 : (ks[j].s.toList == p.toList)
          · have hb0 := sle_no hs1 hs2
            have hV2 : Hid (kbad b none ks = kbad b (aheadK ks (j + 1)) (ks.drop (j + 1))) := lay (hV.out.trans (hat2.out.trans ((if_neg (by rw [hb0]; simp)).trans (by rw [hsu.out]))))
            have hx : Hid (bef (aheadK ks (j + 1)) = ks[j].s) := lay (by rw [hsu.out]; rfl)
            clear hat2 hb0
            go_wp2_with fail
            refine hc.mono ?_
            rintro x w1 ⟨rfl, hb1⟩
            have I4 := I3.next hb1
            have b4 := b3.trans (hb1.mono b3.size)
            clear e0 e1 e2 e3 e4 I3 hc hb1 b3
            go_wp2_with fail
            exact ⟨⟨j + 1, hlt, by rw [hx.out], by go_num, hV2, I4, b4⟩, by simp [intOf]; omega⟩
          · have hb0 := sle_same hs2
            have hr := lay (hV.out.trans (hat2.out.trans (if_pos hb0)))
            clear hat2 hb0
            go_wp2_with fail
            refine hc.mono ?_
            rintro x w1 ⟨rfl, hb1⟩
            have b4 := b3.trans (hb1.mono b3.size)
            clear e0 e1 e2 e3 e4 I3 hc hb1 b3
            go_wp2_with fail
            go_ret
            exact ⟨ret_int hr.out.symm, b4⟩
        · have hb0 := sle_less hs1
          have hr := lay (hV.out.trans (hat2.out.trans (if_pos hb0)))
          clear hat2 hb0
          go_wp2_with fail
          refine hc.mono ?_
          rintro x w1 ⟨rfl, hb1⟩
          have b4 := b3.trans (hb1.mono b3.size)
          clear e0 e1 e2 e3 e4 I3 hc hb1 b3
          go_wp2_with fail
          go_ret
          exact ⟨ret_int hr.out.symm, b4⟩
      · have z1 : (n != 0) = true := by simpa using hn0
        have hr := lay (hV.out.trans (hat.out.trans (if_pos (by simpa using hn0))))
        clear hn0 hat
        go_wp2_with fail
        refine hc.mono ?_
        rintro x w1 ⟨rfl, hb1⟩
        have b4 := b3.trans (hb1.mono b3.size)
        clear e0 e1 e2 e3 e4 I3 hc hb1 b3
        go_wp2_with fail
        go_ret
        exact ⟨ret_int hr.out.symm, b4⟩
    · have hr := lay (hV.out.trans (kbad_end b _ ks (by omega)))
      go_wp2_with fail
      go_ret
      exact ⟨ret_int hr.out.symm, b1⟩

/-- a round's head: so far nothing is wrong -/
def RHeadE (w : World) (g : Nat) (a b c d e f h : Int) (es : List E) (x y : Value) (wr : World) : Prop :=
  ∃ j : Nat, j ≤ es.length ∧ x = .string (bef (aheadE es j)) ∧ y = .int .i64 j ∧ Hid (ebad a b c d e f h none es = ebad a b c d e f h (aheadE es j) (es.drop j)) ∧ Q7 wr g a b c d e f h ∧ Below w.heap.size w wr

set_option maxRecDepth 100000 in
set_option maxHeartbeats 1000000 in
theorem risingE_any (a b c d e f h : Int) (es : List E) (A : Option Addr) (cap : Nat) (g : Nat) (w : World) (hq : Q7 w g a b c d e f h) (hk : Es w w.heap.size es A cap) :
    Calls Try.prog 209 #[.slice A es.length cap, .func (.func 210) #[] #[.pointer (some ⟨g, 0, none⟩)]] w fun x w' => x = .returned (.int .i64 (ebad a b c d e f h none es)) ∧ Below w.heap.size w w' := by
  have hlen : es.length ≤ 140737488355328 := by have := hk.2.1; omega
  go_enter Try.func209, Try.ntmps209
  go_wp2_with fail
  go_loopw [5, 12] (fun x y wr => RHeadE w g a b c d e f h es x y wr) (fun _ y _ => es.length - (intOf y).toNat)
  case atStart => exact ⟨0, Nat.zero_le _, by rw [aheadE_zero]; rfl, rfl, lay (by rw [aheadE_zero]; rfl), hq, Below.refl _ _⟩
  case round =>
    obtain ⟨j, hj, rfl, rfl, hV, I2, b1⟩ := hrel
    clear hq
    by_cases hlt : j < es.length
    · obtain ⟨bk, off, rfl, hbk, e0, e1, hVs⟩ := (hk.below b1).at_ hlt
      have hat := lay (ebad_one a b c d e f h (aheadE es j) es hlt)
      have hsu := lay (aheadE_succ es hlt)
      generalize hbp : bef (aheadE es j) = p at hat ⊢
      clear hbp
      have hvl : es[j].l.length ≤ 140737488355328 := by have h2 := hVs.2.1; omega
      have D3 : Below wr.heap.size wr (wr.alloc (.cells #[.string es[j].s, .slice es[j].A es[j].l.length es[j].c] 47)) := (Below.refl _ _).alloc (Nat.le_refl _) _
      have I3 := I2.next D3
      have b3 := b1.trans (D3.mono b1.size)
      have hc := judgeE_any a b c d e f h es[j].s es[j].l es[j].A es[j].c g _ I3 (hVs.now ((Below.refl w.heap.size wr).alloc b1.size (.cells #[.string es[j].s, .slice es[j].A es[j].l.length es[j].c] 47)) (by have := b1.size; simp; omega))
      clear hVs
      generalize hn : rb (nbad a b c d e f h es[j].s es[j].l) es[j].l = n at hc hat
      clear hn D3 I2
      by_cases hn0 : n = 0
      · have z1 : (n != 0) = false := by simp [hn0]
        have hat2 := lay (hat.out.trans (if_neg (by simpa using hn0)))
        clear hn0 hat
        cases hs1 : Op.bytesLess es[j].s.toList p.toList
        · cases hs2 : (es[j].s.toList == p.toList)
          · have hb0 := sle_no hs1 hs2
            have hV2 : Hid (ebad a b c d e f h none es = ebad a b c d e f h (aheadE es (j + 1)) (es.drop (j + 1))) := lay (hV.out.trans (hat2.out.trans ((if_neg (by rw [hb0]; simp)).trans (by rw [hsu.out]))))
            have hx : Hid (bef (aheadE es (j + 1)) = es[j].s) := lay (by rw [hsu.out]; rfl)
            clear hat2 hb0
            go_wp2_with fail
            refine hc.mono ?_
            rintro x w1 ⟨rfl, hb1⟩
            have I4 := I3.next hb1
            have b4 := b3.trans (hb1.mono b3.size)
            clear e0 e1 I3 hc hb1 b3
            go_wp2_with fail
            exact ⟨⟨j + 1, hlt, by rw [hx.out], by go_num, hV2, I4, b4⟩, by simp [intOf]; omega⟩
          · have hb0 := sle_same hs2
            have hr := lay (hV.out.trans (hat2.out.trans (if_pos hb0)))
            clear hat2 hb0
            go_wp2_with fail
            refine hc.mono ?_
            rintro x w1 ⟨rfl, hb1⟩
            have b4 := b3.trans (hb1.mono b3.size)
            clear e0 e1 I3 hc hb1 b3
            go_wp2_with fail
            go_ret
            exact ⟨ret_int hr.out.symm, b4⟩
        · have hb0 := sle_less hs1
          have hr := lay (hV.out.trans (hat2.out.trans (if_pos hb0)))
          clear hat2 hb0
          go_wp2_with fail
          refine hc.mono ?_
          rintro x w1 ⟨rfl, hb1⟩
          have b4 := b3.trans (hb1.mono b3.size)
          clear e0 e1 I3 hc hb1 b3
          go_wp2_with fail
          go_ret
          exact ⟨ret_int hr.out.symm, b4⟩
      · have z1 : (n != 0) = true := by simpa using hn0
        have hr := lay (hV.out.trans (hat.out.trans (if_pos (by simpa using hn0))))
        clear hn0 hat
        go_wp2_with fail
        refine hc.mono ?_
        rintro x w1 ⟨rfl, hb1⟩
        have b4 := b3.trans (hb1.mono b3.size)
        clear e0 e1 I3 hc hb1 b3
        go_wp2_with fail
        go_ret
        exact ⟨ret_int hr.out.symm, b4⟩
    · have hr := lay (hV.out.trans (ebad_end a b c d e f h _ es (by omega)))
      go_wp2_with fail
      go_ret
      exact ⟨ret_int hr.out.symm, b1⟩

set_option maxRecDepth 100000 in
set_option maxHeartbeats 1000000 in
theorem ownLeaf_bad1 (a b c d e f h : Int) (lf : Bool) (ne nk : Nat) (A : Option Addr) (cap : Nat) (A' : Option Addr) (cap' : Nat) (w : World) (hp : 0 < nk) (hm : nk ≤ 140737488355328) :
    Calls Try.prog 175 #[.agg #[.int .i64 a, .int .i64 b, .int .i64 c, .int .i64 d, .int .i64 e, .int .i64 f, .int .i64 h], .agg #[.bool lf, .slice A ne cap, .slice A' nk cap']] w fun x w' => x = .returned (.int .i64 60) ∧ Below w.heap.size w w' := by
  have I0 := Bn.new w a b c d e f h lf (.slice A ne cap) (.slice A' nk cap')
  have hp1 : (0 : Int) < (nk : Int) := by omega
  go_enter Try.func175, Try.ntmps175
  go_wp2_with fail
  go_ret
  exact ⟨rfl, I0.below⟩

set_option maxRecDepth 100000 in
set_option maxHeartbeats 1000000 in
theorem ownLeaf_bad2 (a b c d e f h : Int) (lf : Bool) (ne : Nat) (A : Option Addr) (cap : Nat) (A' : Option Addr) (cap' : Nat) (w : World) (hp : (4 : Int) < (ne : Int)) (hm : ne ≤ 140737488355328) :
    Calls Try.prog 175 #[.agg #[.int .i64 a, .int .i64 b, .int .i64 c, .int .i64 d, .int .i64 e, .int .i64 f, .int .i64 h], .agg #[.bool lf, .slice A ne cap, .slice A' 0 cap']] w fun x w' => x = .returned (.int .i64 60) ∧ Below w.heap.size w w' := by
  have I0 := Bn.new w a b c d e f h lf (.slice A ne cap) (.slice A' 0 cap')
  go_enter Try.func175, Try.ntmps175
  go_wp2_with fail
  go_ret
  exact ⟨rfl, I0.below⟩

set_option maxRecDepth 100000 in
set_option maxHeartbeats 1000000 in
theorem ownInner_bad1 (a b c d e f h : Int) (lf : Bool) (ne nk : Nat) (A : Option Addr) (cap : Nat) (A' : Option Addr) (cap' : Nat) (w : World) (hp : 0 < ne) (hm : ne ≤ 140737488355328) :
    Calls Try.prog 176 #[.agg #[.int .i64 a, .int .i64 b, .int .i64 c, .int .i64 d, .int .i64 e, .int .i64 f, .int .i64 h], .agg #[.bool lf, .slice A ne cap, .slice A' nk cap']] w fun x w' => x = .returned (.int .i64 60) ∧ Below w.heap.size w w' := by
  have I0 := Bn.new w a b c d e f h lf (.slice A ne cap) (.slice A' nk cap')
  have hp1 : (0 : Int) < (ne : Int) := by omega
  go_enter Try.func176, Try.ntmps176
  go_wp2_with fail
  go_ret
  exact ⟨rfl, I0.below⟩

set_option maxRecDepth 100000 in
set_option maxHeartbeats 1000000 in
theorem ownInner_bad2 (a b c d e f h : Int) (lf : Bool) (nk : Nat) (A : Option Addr) (cap : Nat) (A' : Option Addr) (cap' : Nat) (w : World) (hp : (nk : Int) < 2) :
    Calls Try.prog 176 #[.agg #[.int .i64 a, .int .i64 b, .int .i64 c, .int .i64 d, .int .i64 e, .int .i64 f, .int .i64 h], .agg #[.bool lf, .slice A 0 cap, .slice A' nk cap']] w fun x w' => x = .returned (.int .i64 60) ∧ Below w.heap.size w w' := by
  have I0 := Bn.new w a b c d e f h lf (.slice A 0 cap) (.slice A' nk cap')
  go_enter Try.func176, Try.ntmps176
  go_wp2_with fail
  go_ret
  exact ⟨rfl, I0.below⟩

set_option maxRecDepth 100000 in
set_option maxHeartbeats 1000000 in
theorem ownInner_bad3 (a b c d e f h : Int) (lf : Bool) (nk : Nat) (A : Option Addr) (cap : Nat) (A' : Option Addr) (cap' : Nat) (w : World) (hp : ¬ (nk : Int) < 2) (hq : (4 : Int) < (nk : Int)) (hm : nk ≤ 140737488355328) :
    Calls Try.prog 176 #[.agg #[.int .i64 a, .int .i64 b, .int .i64 c, .int .i64 d, .int .i64 e, .int .i64 f, .int .i64 h], .agg #[.bool lf, .slice A 0 cap, .slice A' nk cap']] w fun x w' => x = .returned (.int .i64 60) ∧ Below w.heap.size w w' := by
  have I0 := Bn.new w a b c d e f h lf (.slice A 0 cap) (.slice A' nk cap')
  go_enter Try.func176, Try.ntmps176
  go_wp2_with fail
  go_ret
  exact ⟨rfl, I0.below⟩

set_option maxRecDepth 100000 in
set_option maxHeartbeats 1000000 in
theorem ownLeaf_loop (a b c d e f h : Int) (lf : Bool) (es : List E) (A : Option Addr) (cap : Nat) (A' : Option Addr) (cap' : Nat) (w : World) (hk : Es w w.heap.size es A cap) (h4 : ¬ (4 : Int) < (es.length : Int)) :
    Calls Try.prog 175 #[.agg #[.int .i64 a, .int .i64 b, .int .i64 c, .int .i64 d, .int .i64 e, .int .i64 f, .int .i64 h], .agg #[.bool lf, .slice A es.length cap, .slice A' 0 cap']] w fun x w' => x = .returned (.int .i64 (ebad a b c d e f h none es)) ∧ Below w.heap.size w w' := by
  have hlen : es.length ≤ 140737488355328 := by have := hk.2.1; omega
  have I0 := Bn.new w a b c d e f h lf (.slice A es.length cap) (.slice A' 0 cap')
  have hc := risingE_any a b c d e f h es A cap w.heap.size _ (Q7.of I0.1) (hk.at_world I0.below)
  generalize ebad a b c d e f h none es = r at hc ⊢
  generalize es.length = n at hc hlen I0 ⊢ h4
  go_enter Try.func175, Try.ntmps175
  go_wp2_with fail
  refine hc.mono ?_
  rintro x w1 ⟨rfl, hb1⟩
  have I1 := I0.next hb1
  clear hc I0 hb1
  go_wp2_with fail
  go_ret
  exact ⟨rfl, I1.below⟩

set_option maxRecDepth 100000 in
set_option maxHeartbeats 1000000 in
theorem ownInner_loop (a b c d e f h : Int) (lf : Bool) (ks : List K) (A : Option Addr) (cap : Nat) (A' : Option Addr) (cap' : Nat) (w : World) (hk : Ks w w.heap.size ks A' cap') (h2 : ¬ (ks.length : Int) < 2) (h4 : ¬ (4 : Int) < (ks.length : Int)) :
    Calls Try.prog 176 #[.agg #[.int .i64 a, .int .i64 b, .int .i64 c, .int .i64 d, .int .i64 e, .int .i64 f, .int .i64 h], .agg #[.bool lf, .slice A 0 cap, .slice A' ks.length cap']] w fun x w' => x = .returned (.int .i64 (kbad b none ks)) ∧ Below w.heap.size w w' := by
  have hlen : ks.length ≤ 140737488355328 := by have := hk.2.1; omega
  have I0 := Bn.new w a b c d e f h lf (.slice A 0 cap) (.slice A' ks.length cap')
  have hc := risingK_any a b c d e f h ks A' cap' w.heap.size _ (Q7.of I0.1) (hk.at_world I0.below)
  generalize kbad b none ks = r at hc ⊢
  generalize ks.length = n at hc hlen I0 ⊢ h2 h4
  go_enter Try.func176, Try.ntmps176
  go_wp2_with fail
  refine hc.mono ?_
  rintro x w1 ⟨rfl, hb1⟩
  have I1 := I0.next hb1
  clear hc I0 hb1
  go_wp2_with fail
  go_ret
  exact ⟨rfl, I1.below⟩

theorem ownLeaf_any (a b c d e f h : Int) (lf : Bool) (es : List E) (ks : List K) (A : Option Addr) (cap : Nat) (A' : Option Addr) (cap' : Nat) (w : World) (hv : Es w w.heap.size es A cap) (hk : Ks w w.heap.size ks A' cap') :
    Calls Try.prog 175 #[.agg #[.int .i64 a, .int .i64 b, .int .i64 c, .int .i64 d, .int .i64 e, .int .i64 f, .int .i64 h], .agg #[.bool lf, .slice A es.length cap, .slice A' ks.length cap']] w fun x w' => x = .returned (.int .i64 (if 0 < ks.length ∨ 4 < es.length then 60 else ebad a b c d e f h none es)) ∧ Below w.heap.size w w' := by
  by_cases g1 : 0 < ks.length
  · rw [if_pos (Or.inl g1)]
    exact ownLeaf_bad1 a b c d e f h lf _ _ A cap A' cap' w g1 (by have := hk.2.1; omega)
  · rw [show ks.length = 0 by omega]
    by_cases g2 : 4 < es.length
    · rw [if_pos (Or.inr g2)]
      exact ownLeaf_bad2 a b c d e f h lf _ A cap A' cap' w (by omega) (by have := hv.2.1; omega)
    · rw [if_neg (by omega)]
      exact ownLeaf_loop a b c d e f h lf es A cap A' cap' w hv (by omega)

theorem ownInner_any (a b c d e f h : Int) (lf : Bool) (es : List E) (ks : List K) (A : Option Addr) (cap : Nat) (A' : Option Addr) (cap' : Nat) (w : World) (hv : Es w w.heap.size es A cap) (hk : Ks w w.heap.size ks A' cap') :
    Calls Try.prog 176 #[.agg #[.int .i64 a, .int .i64 b, .int .i64 c, .int .i64 d, .int .i64 e, .int .i64 f, .int .i64 h], .agg #[.bool lf, .slice A es.length cap, .slice A' ks.length cap']] w fun x w' => x = .returned (.int .i64 (if 0 < es.length ∨ ks.length < 2 ∨ 4 < ks.length then 60 else kbad b none ks)) ∧ Below w.heap.size w w' := by
  by_cases g1 : 0 < es.length
  · rw [if_pos (Or.inl g1)]
    exact ownInner_bad1 a b c d e f h lf _ _ A cap A' cap' w g1 (by have := hv.2.1; omega)
  · rw [show es.length = 0 by omega]
    by_cases g2 : ks.length < 2
    · rw [if_pos (Or.inr (Or.inl g2))]
      exact ownInner_bad2 a b c d e f h lf _ A cap A' cap' w (by omega)
    · by_cases g3 : 4 < ks.length
      · rw [if_pos (Or.inr (Or.inr g3))]
        exact ownInner_bad3 a b c d e f h lf _ A cap A' cap' w (by omega) (by omega) (by have := hk.2.1; omega)
      · rw [if_neg (by omega)]
        exact ownInner_loop a b c d e f h lf ks A cap A' cap' w hk (by omega) (by omega)

set_option maxRecDepth 100000 in
set_option maxHeartbeats 1000000 in
theorem ownNode_any (a b c d e f h : Int) (lf : Bool) (es : List E) (ks : List K) (A : Option Addr) (cap : Nat) (A' : Option Addr) (cap' : Nat) (w : World) (hv : Es w w.heap.size es A cap) (hk : Ks w w.heap.size ks A' cap') :
    Calls Try.prog 125 #[.agg #[.int .i64 a, .int .i64 b, .int .i64 c, .int .i64 d, .int .i64 e, .int .i64 f, .int .i64 h], .agg #[.bool lf, .slice A es.length cap, .slice A' ks.length cap']] w fun x w' => x = .returned (.int .i64 (ndbad a b c d e f h lf es ks)) ∧ Below w.heap.size w w' := by
  have I0 := Bn.new w a b c d e f h lf (.slice A es.length cap) (.slice A' ks.length cap')
  by_cases g : ok a b c d e f h
  · cases lf with
    | true =>
      rw [show ndbad a b c d e f h true es ks = if 0 < ks.length ∨ 4 < es.length then 60 else ebad a b c d e f h none es by unfold ndbad; rw [if_pos g, if_pos rfl]]
      have hc := fun wr (hb : Below w.heap.size w wr) => ownLeaf_any a b c d e f h true es ks A cap A' cap' wr (hv.at_world hb) (hk.at_world hb)
      generalize (if 0 < ks.length ∨ 4 < es.length then 60 else ebad a b c d e f h none es) = n at hc ⊢
      generalize es.length = ne at I0 hc ⊢
      generalize ks.length = nk at I0 hc ⊢
      go_enter Try.func125, Try.ntmps125
      go_wp2_with fail
      refine (quotas.right_ok _ _ _ _ _ _ _ _ g).mono ?_
      rintro x w1 ⟨rfl, hb1⟩
      have I1 := I0.next hb1
      clear hb1 I0
      obtain ⟨⟨⟨c0, c1, c2, c3, c4, c5, c6⟩, l1, l2, b1⟩, ⟨n0, n1, n2⟩, l3⟩ := id I1
      go_wp2_with fail
      refine (hc _ b1).mono ?_
      rintro x w2 ⟨rfl, hb2⟩
      have I2 := I1.next hb2
      go_wp2_with fail
      go_ret
      exact ⟨rfl, I2.below⟩
    | false =>
      rw [show ndbad a b c d e f h false es ks = if 0 < es.length ∨ ks.length < 2 ∨ 4 < ks.length then 60 else kbad b none ks by unfold ndbad; rw [if_pos g, if_neg (by simp)]]
      have hc := fun wr (hb : Below w.heap.size w wr) => ownInner_any a b c d e f h false es ks A cap A' cap' wr (hv.at_world hb) (hk.at_world hb)
      generalize (if 0 < es.length ∨ ks.length < 2 ∨ 4 < ks.length then 60 else kbad b none ks) = n at hc ⊢
      generalize es.length = ne at I0 hc ⊢
      generalize ks.length = nk at I0 hc ⊢
      go_enter Try.func125, Try.ntmps125
      go_wp2_with fail
      refine (quotas.right_ok _ _ _ _ _ _ _ _ g).mono ?_
      rintro x w1 ⟨rfl, hb1⟩
      have I1 := I0.next hb1
      clear hb1 I0
      obtain ⟨⟨⟨c0, c1, c2, c3, c4, c5, c6⟩, l1, l2, b1⟩, ⟨n0, n1, n2⟩, l3⟩ := id I1
      go_wp2_with fail
      refine (hc _ b1).mono ?_
      rintro x w2 ⟨rfl, hb2⟩
      have I2 := I1.next hb2
      go_wp2_with fail
      go_ret
      exact ⟨rfl, I2.below⟩
  · rw [show ndbad a b c d e f h lf es ks = 40 by unfold ndbad; rw [if_neg g]]
    go_enter Try.func125, Try.ntmps125
    go_wp2_with fail
    refine (quotas.right_no _ _ _ _ _ _ _ _ g).mono ?_
    rintro x w1 ⟨rfl, hb1⟩
    have I1 := I0.next hb1
    clear hb1 I0
    go_wp2_with fail
    go_ret
    exact ⟨rfl, I1.below⟩

theorem rightIs : RightIs := fun a b c d e f h lf es ks A cap A' cap' w hv hk => ownNode_any a b c d e f h lf es ks A cap A' cap' w hv hk
end Go.Proofs.Ytoenkkbcpafanaa.nodes
