/- MediumCuts. -/
import Derived.Test.YtmbhfibldklecaaMdE


namespace Go.Proofs.Ytmbhfibldklecaa.mediums
set_option linter.unusedVariables false
set_option linter.unusedSimpArgs false
open Go.RowKit Go.Proofs.Ytmbhfibldklecaa.base Go.Proofs.Ytmbhfibldklecaa.trees Go.Proofs.Ytmbhfibldklecaa.powers Go.Lib

def lW (m : MS) (L sg o : Int) (b : ByteArray) : Int := if refE m sg o b = 0 then spL L else L
def wW (m : MS) (L W sg o : Int) (b : ByteArray) : Int := if refE m sg o b = 0 then wSp L W else W
def mW (m : MS) (L sg o : Int) (b : ByteArray) : MS := if refE m sg o b = 0 ∧ L ≠ 0 then putM m sg.toNat o.toNat b else m
/-- two media, apart, each with a power of its own -/
structure Two (B : Nat) (w0 w : World) (Sa Sb : Nat → Prop) (pa ga pb gb : Nat) (ma mb : MS) (La Wa Lb Wb : Int) : Prop where
  a : Md w Sa pa ga ma
  b : Md w Sb pb gb mb
  ka : Blk w pa 139 (PC La Wa)
  kb : Blk w pb 139 (PC Lb Wb)
  dis : ∀ k, Sa k → ¬ Sb k
  apb : ¬ Sa pb
  bpa : ¬ Sb pa
  ne : pa ≠ pb
  lo : ∀ k, Sa k ∨ Sb k ∨ k = pa ∨ k = pb → B ≤ k
  hb : Below B w0 w
  le : B ≤ w0.heap.size
section
variable {B : Nat} {w0 w w' : World} {Sa Sb : Nat → Prop} {pa ga pb gb : Nat} {ma mb : MS} {La Wa Lb Wb : Int}
theorem Two.symm (h : Two B w0 w Sa Sb pa ga pb gb ma mb La Wa Lb Wb) : Two B w0 w Sb Sa pb gb pa ga mb ma Lb Wb La Wa :=
  ⟨h.b, h.a, h.kb, h.ka, fun k h1 h2 => h.dis k h2 h1, h.bpa, h.apb, fun e => h.ne e.symm, fun k hk => h.lo k (by rcases hk with h | h | h | h; exact .inr (.inl h); exact .inl h; exact .inr (.inr (.inr h)); exact .inr (.inr (.inl h))), h.hb, h.le⟩
theorem Two.below (h : Two B w0 w Sa Sb pa ga pb gb ma mb La Wa Lb Wb) (hb : Below w.heap.size w w') : Two B w0 w' Sa Sb pa ga pb gb ma mb La Wa Lb Wb :=
  ⟨h.a.below hb, h.b.below hb, h.ka.below hb h.ka.lt, h.kb.below hb h.kb.lt, h.dis, h.apb, h.bpa, h.ne, h.lo, h.hb.trans (hb.mono (Nat.le_trans h.le h.hb.size)), h.le⟩
theorem Two.write (h : Two B w0 w Sa Sb pa ga pb gb ma mb La Wa Lb Wb) {sg o : Int} {b : ByteArray} {e : Ending} (hw : WrPost Sa pa ga ma La Wa sg o b w e w') :
    e = .returned (.int .i64 (wrE ma La sg o b)) ∧ ∃ Sa', Two B w0 w' Sa' Sb pa ga pb gb (mW ma La sg o b) mb (lW ma La sg o b) (wW ma La Wa sg o b) Lb Wb := by
  obtain ⟨he, S', hs, hm, hp, hk⟩ := hw
  have lp := h.kb.lt
  have hbs := h.hb.size
  have hle := h.le
  refine ⟨he, S', ⟨hm, h.b.keep hk (fun k hb hx => ?_), ?_, hk.blk h.kb (fun hx => ?_), fun k h1 h2 => ?_, fun h1 => ?_, h.bpa, h.ne, fun k hx => ?_, h.hb.trans (hk.below (fun k hx => ?_) (by omega)), h.le⟩⟩
  · rcases hx with hx | hx
    · exact h.dis k hx hb
    · exact h.bpa (hx ▸ hb)
  · unfold lW wW
    by_cases hr : refE ma sg o b = 0
    · rw [if_pos hr] at hp; rw [if_pos hr, if_pos hr]; exact hp
    · rw [if_neg hr] at hp; rw [if_neg hr, if_neg hr]; exact hp
  · rcases hx with hx | hx
    · exact h.apb hx
    · exact h.ne hx.symm
  · rcases hs k h1 with h3 | h3
    · exact h.dis k h3 h2
    · have := h.b.lt k h2; omega
  · rcases hs pb h1 with h3 | h3
    · exact h.apb h3
    · omega
  · rcases hx with hx | hx | hx | hx
    · rcases hs k hx with h3 | h3
      · exact h.lo k (.inl h3)
      · omega
    · exact h.lo k (.inr (.inl hx))
    · exact h.lo k (.inr (.inr (.inl hx)))
    · exact h.lo k (.inr (.inr (.inr hx)))
  · rcases hx with hx | hx
    · exact h.lo k (.inl hx)
    · exact h.lo k (.inr (.inr (.inl hx)))
theorem Two.keepS (h : Two B w0 w Sa Sb pa ga pb gb ma mb La Wa Lb Wb) {e : Ending} {sg o : Int} {b : ByteArray} (hw : WrPost Sa pa ga ma La Wa sg o b w e w') {g : Nat} {t : TypeId} {cs : Array Value} (hk : Blk w g t cs) (hg : ¬ Sa g) (hgp : g ≠ pa) : Blk w' g t cs := by
  obtain ⟨he, S', hs, hm, hp, hkk⟩ := hw
  exact hkk.blk hk (fun hx => hx.elim hg hgp)
end
theorem putM_len (m : MS) (g o : Nat) (b : ByteArray) : (putM m g o b).segs.length = m.segs.length := by simp [putM]
theorem putM_past (m : MS) (g o : Nat) (b : ByteArray) : (putM m g o b).past.length = m.past.length + 1 := by simp [putM]
theorem wr_on (m : MS) (L sg o : Int) (b : ByteArray) (hL : L ≠ 0) : wrE m L sg o b = refE m sg o b := by
  unfold wrE eSp
  by_cases h : refE m sg o b = 0 <;> simp [h, hL]
theorem wr_off (m : MS) (sg o : Int) (b : ByteArray) : wrE m 0 sg o b ≠ 0 := by
  unfold wrE eSp
  split
  · decide
  · assumption
theorem mW_on (m : MS) (L sg o : Int) (b : ByteArray) (hL : L ≠ 0) : mW m L sg o b = if refE m sg o b = 0 then putM m sg.toNat o.toNat b else m := by
  unfold mW
  by_cases h : refE m sg o b = 0 <;> simp [h, hL]
theorem mW_off (m : MS) (sg o : Int) (b : ByteArray) : mW m 0 sg o b = m := by unfold mW; simp
theorem lW_off (m : MS) (sg o : Int) (b : ByteArray) : lW m 0 sg o b = 0 := by unfold lW spL; split <;> simp
theorem lW_neg (m : MS) (sg o : Int) (b : ByteArray) : lW m (-1) sg o b = -1 := by unfold lW spL; split <;> simp
theorem cut_yes (n : Nat) (hn : n ≤ 3000) : cutL (-1) (n : Int) = (n : Int) := by unfold cutL; rw [if_neg (by omega)]; omega
/-- what holds between two calls: the same in both; of n so many are left as were not done -/
def Rel (n sgN : Nat) (m : MS) (Lb : Int) : Prop := m.past.length ≤ n ∧ m.segs.length = sgN ∧ Lb = (n : Int) - (m.past.length : Int)
theorem Rel.on {n sgN : Nat} {m : MS} {Lb : Int} (h : Rel n sgN m Lb) (hL : Lb ≠ 0) (sg o : Int) (b : ByteArray) : Rel n sgN (mW m Lb sg o b) (lW m Lb sg o b) := by
  obtain ⟨h1, h2, h3⟩ := h
  rw [mW_on _ _ _ _ _ hL]
  unfold lW
  split
  · refine ⟨by rw [putM_past]; omega, by rw [putM_len]; exact h2, ?_⟩
    rw [putM_past]
    unfold spL
    rw [if_neg (by omega)]
    omega
  · exact ⟨h1, h2, h3⟩

set_option maxRecDepth 100000 in
set_option maxHeartbeats 8000000 in
theorem law_cuts (a0 b0 n0 : Int) (l : List MO) (A : Option Addr) (c : Nat) (w : World) (hX : Os w w.heap.size l A c) :
    Calls Try.prog 9 #[.agg #[.int .i64 a0, .int .i64 b0, .slice A l.length c, .int .i64 n0]] w fun e w' => e = .returned (.bool true) ∧ Below w.heap.size w w' := by
  have hlen : l.length ≤ 140737488355328 := by have := hX.2.1; omega
  have hs1 := pkM_lt a0 8 (by omega)
  have hs2 := pkM_lt b0 64 (by omega)
  have hs3 := pkM_lt n0 60 (by omega)
  have hp1 := fun wx => pickM_ok a0 8 (by omega) (by omega) wx
  have hp2 := fun wx => pickM_ok b0 64 (by omega) (by omega) wx
  have hp3 := fun wx => pickM_ok n0 60 (by omega) (by omega) wx
  generalize pkM a0 8 = sgm at hs1 hp1
  generalize pkM b0 64 = szm at hs2 hp2
  generalize pkM n0 60 = n at hs3 hp3
  rw [show ((8 : Nat) : Int) = 8 from rfl] at hp1
  rw [show ((64 : Nat) : Int) = 64 from rfl] at hp2
  rw [show ((60 : Nat) : Int) = 60 from rfl] at hp3
  have bZ : Below w.heap.size w (w.alloc (.cells #[.int .i64 a0, .int .i64 b0, .slice A l.length c, .int .i64 n0] 94)) := (Below.refl _ _).alloc (Nat.le_refl _) _
  have kZ := Blk.new w 94 #[.int .i64 a0, .int .i64 b0, .slice A l.length c, .int .i64 n0]
  have lZ : w.heap.size < (w.alloc (.cells #[.int .i64 a0, .int .i64 b0, .slice A l.length c, .int .i64 n0] 94)).heap.size := by simp
  go_enter Try.func9, Try.ntmps9
  generalize hWZ : w.alloc (.cells #[.int .i64 a0, .int .i64 b0, .slice A l.length c, .int .i64 n0] 94) = WZ at *
  have h0 := awakeM_ok WZ
  go_wp2_with fail
  refine h0.mono ?_
  rintro e w1 ⟨rfl, b1⟩
  have k1 := kZ.below b1 lZ
  have hb1 := bZ.trans (b1.mono bZ.size)
  have l1 := k1.lt
  have e1 : IntKind.i64.wrap (1 + (sgm : Int)) = 1 + (sgm : Int) := IntWalk.i64_in _ (by omega)
  have e2 : IntKind.i64.wrap (1 + (szm : Int)) = 1 + (szm : Int) := IntWalk.i64_in _ (by omega)
  clear h0 kZ b1 bZ
  have y0 := k1.cell 0
  have y1 := k1.cell 1
  have y2 := k1.cell 2
  simp only [List.getElem?_toArray, List.getElem?_cons_zero, List.getElem?_cons_succ] at y0 y1 y2
  have c1 := powers.new_ok w1
  go_wp2_with fail
  refine (hp1 _).mono ?_
  rintro e wa ⟨rfl, rfl⟩
  go_wp2_with fail
  refine (hp2 _).mono ?_
  rintro e wb ⟨rfl, rfl⟩
  clear hp1 hp2
  go_wp2_with fail
  refine c1.mono ?_
  rintro e w2 ⟨rfl, ka2, b2, z2⟩
  have cN1 := mnew_ok wb.heap.size (1 + sgm) (1 + szm) (by omega) (by omega) w2 (by omega)
  rw [show ((1 + sgm : Nat) : Int) = 1 + (sgm : Int) by omega, show ((1 + szm : Nat) : Int) = 1 + (szm : Int) by omega] at cN1
  clear c1
  go_wp2_with fail
  refine cN1.mono ?_
  rintro e w3 ⟨ga, rfl, ma3, b3⟩
  have c2 := powers.new_ok w3
  clear cN1
  go_wp2_with fail
  refine c2.mono ?_
  rintro e w4 ⟨rfl, kb4, b4, z4⟩
  have cN2 := mnew_ok w3.heap.size (1 + sgm) (1 + szm) (by omega) (by omega) w4 (by omega)
  rw [show ((1 + sgm : Nat) : Int) = 1 + (sgm : Int) by omega, show ((1 + szm : Nat) : Int) = 1 + (szm : Int) by omega] at cN2
  clear c2
  go_wp2_with fail
  refine cN2.mono ?_
  rintro e w5 ⟨gb, rfl, mb5, b5⟩
  have s2 := b2.size
  have s3 := b3.size
  have s4 := b4.size
  have s5 := b5.size
  have hbs := hb1.size
  have b35 := b4.trans (b5.mono b4.size)
  have b25 := b3.trans (b35.mono b3.size)
  have T5 : Two wb.heap.size wb w5 (fun k => w2.heap.size ≤ k ∧ k < w3.heap.size) (fun k => w4.heap.size ≤ k ∧ k < w5.heap.size) wb.heap.size ga w3.heap.size gb (newM (1 + sgm) (1 + szm)) (newM (1 + sgm) (1 + szm)) (-1) 0 (-1) 0 :=
    ⟨ma3.below b35, mb5, ka2.below b25 ka2.lt, kb4.below b5 kb4.lt, fun k h1 h2 => by omega, fun h => by omega, fun h => by omega, by omega, fun k hk => by rcases hk with h | h | h | h <;> omega, b2.trans (b25.mono b2.size), Nat.le_refl _⟩
  obtain ⟨Sa, hSa⟩ : ∃ Sa : Nat → Prop, (fun k => w2.heap.size ≤ k ∧ k < w3.heap.size) = Sa := ⟨_, rfl⟩
  obtain ⟨Sb, hSb⟩ : ∃ Sb : Nat → Prop, (fun k => w4.heap.size ≤ k ∧ k < w5.heap.size) = Sb := ⟨_, rfl⟩
  rw [hSa, hSb] at T5
  clear hSa hSb ma3 mb5
  generalize w3.heap.size = pb at *
  obtain ⟨pa, hpa⟩ : ∃ pa, wb.heap.size = pa := ⟨_, rfl⟩
  have k5 := k1.below T5.hb k1.lt
  have hbT : Below w.heap.size w w5 := hb1.trans (T5.hb.mono hbs)
  have y3 := k5.cell 3
  simp only [List.getElem?_toArray, List.getElem?_cons_zero, List.getElem?_cons_succ] at y3
  have x0 := T5.b.ptr
  have HS2 := powers.lay s2
  rw [hpa] at T5
  have hpaB : w.heap.size ≤ pa := by omega
  clear cN2 ka2 kb4 b2 b3 b4 b5 z2 z4 s2 s3 s4 s5 b35 b25 k1 k5 y0 y1 y2 HS2 e1 e2
  go_wp2_with fail
  refine (hp3 _).mono ?_
  rintro e wx ⟨rfl, rfl⟩
  clear hp3
  have c3 := cut_ok (n : Int) T5.kb (by unfold In; omega)
  rw [cut_yes n (by omega)] at c3
  go_wp2_with fail
  refine c3.mono ?_
  rintro e w6 ⟨rfl, k6, s6⟩
  have T6 : Two pa wb w6 Sa Sb pa ga pb gb (newM (1 + sgm) (1 + szm)) (newM (1 + sgm) (1 + szm)) (-1) 0 (n : Int) 0 :=
    ⟨T5.a.keep s6.keep (fun k h1 h2 => T5.apb (h2 ▸ h1)), T5.b.keep s6.keep (fun k h1 h2 => T5.b.notp (h2 ▸ h1)), s6.blk T5.ka T5.ne, k6, T5.dis, T5.apb, T5.bpa, T5.ne, fun k hk => T5.lo k hk,
      T5.hb.trans (s6.below (fun k hk => T5.lo k (.inr (.inr (.inr hk)))) (Nat.le_trans T5.le T5.hb.size)), T5.le⟩
  have hRel : Rel n (1 + sgm) (newM (1 + sgm) (1 + szm)) (n : Int) := ⟨by simp [newM], by simp [newM], by simp [newM]⟩
  have HW := powers.lay hb1
  clear c3 T5 k6 s6 hb1 hbT y3 x0
  go_wp2_with fail
  go_loopw [12] (fun i wr => ∃ (j : Nat) (Sa Sb : Nat → Prop) (m : MS) (Wa Lb Wb : Int), j ≤ l.length ∧ i = .int .i64 (j : Int) ∧ Hid (Two pa wb wr Sa Sb pa ga pb gb m m (-1) Wa Lb Wb) ∧ Hid (Rel n (1 + sgm) m Lb)) (fun i _ => l.length - (RowKit.intOf i).toNat)
  case atStart => exact ⟨0, Sa, Sb, _, _, _, _, Nat.zero_le _, rfl, powers.lay T6, powers.lay hRel⟩
  case round =>
    clear T6 hRel
    obtain ⟨j, Sa, Sb, m, Wa, Lb, Wb, hj, rfl, HT, HR⟩ := hrel
    by_cases hlt : j < l.length
    · obtain ⟨bk, off, rfl, hbk, x0, x1, x2, x3, x4, x5⟩ := (hX.below (HW.out.trans (HT.out.hb.mono hpaB))).at_ hlt
      have hH := powers.lay hX
      have hwr := HT.out.hb.size
      have hlo := HT.out.lo
      have e1 : IntKind.i64.wrap ((j : Int) + 1) = (j : Int) + 1 := IntWalk.i64_in _ (by omega)
      clear hX
      generalize l[j] = x at x0 x1 x2 x3 x4 x5
      obtain ⟨xk, xon, xg, xo, xn, xb⟩ := x
      simp only [] at x0 x1 x2 x3 x4 x5
      have bZ : Below wr.heap.size wr (wr.alloc (.cells #[.int .i64 xk, .bool xon, .int .i64 xg, .int .i64 xo, .int .i64 xn, .string xb] 79)) := (Below.refl _ _).alloc (Nat.le_refl _) _
      have kZ := Blk.new wr 79 #[.int .i64 xk, .bool xon, .int .i64 xg, .int .i64 xo, .int .i64 xn, .string xb]
      have lZ2 : wr.heap.size < (wr.alloc (.cells #[.int .i64 xk, .bool xon, .int .i64 xg, .int .i64 xo, .int .i64 xn, .string xb] 79)).heap.size := by simp
      have TZ := HT.out.below bZ
      have naZ : ¬ Sa wr.heap.size := fun h => absurd (HT.out.a.lt _ h) (by omega)
      have nbZ : ¬ Sb wr.heap.size := fun h => absurd (HT.out.b.lt _ h) (by omega)
      have npa : wr.heap.size ≠ pa := fun h => absurd HT.out.ka.lt (by omega)
      have npb : wr.heap.size ≠ pb := fun h => absurd HT.out.kb.lt (by omega)
      have HR' := HR
      have hrest : ∀ (w9 : World) (Sa' Sb' : Nat → Prop) (m' : MS) (Wa' Lb' Wb' : Int), Two pa wb w9 Sa' Sb' pa ga pb gb m' m' (-1) Wa' Lb' Wb' → Rel n (1 + sgm) m' Lb' → ∃ (j1 : Nat) (Sa Sb : Nat → Prop) (m : MS) (Wa Lb Wb : Int), j1 ≤ l.length ∧ Value.int .i64 ((j : Int) + 1) = .int .i64 (j1 : Int) ∧ Hid (Two pa wb w9 Sa Sb pa ga pb gb m m (-1) Wa Lb Wb) ∧ Hid (Rel n (1 + sgm) m Lb) := fun w9 Sa' Sb' m' Wa' Lb' Wb' h1 h2 => ⟨j + 1, Sa', Sb', m', Wa', Lb', Wb', hlt, by go_num, powers.lay h1, powers.lay h2⟩
      generalize hWZ2 : wr.alloc (.cells #[.int .i64 xk, .bool xon, .int .i64 xg, .int .i64 xo, .int .i64 xn, .string xb] 79) = WY at *
      have y0 := kZ.cell 0
      have y2 := kZ.cell 2
      have y3 := kZ.cell 3
      have y5 := kZ.cell 5
      simp only [List.getElem?_toArray, List.getElem?_cons_zero, List.getElem?_cons_succ] at y0 y2 y3 y5
      clear bZ
      have cO := on_ok TZ.kb
      have cU := used_any TZ.b xg
      have z0 := TZ.b.ptr
      by_cases hk : xk = 2
      · have d1 : (xk == 2) = true := by rw [hk]; rfl
        have d2 : decide (xk = 2) = true := decide_eq_true hk
        clear hk
        obtain ⟨at_, hat⟩ : ∃ at_, usedI m xg = at_ := ⟨_, rfl⟩
        have HAT := powers.lay hat
        rw [hat] at cU
        clear hat
        by_cases hL : Lb = 0
        · obtain rfl := hL
          rw [show bL 0 = false from rfl] at cO
          have R := HR.out
          have hpast : (m.past.length + 1) * 32 ≤ 140737488355328 := by have := R.1; omega
          go_wp2_with fail
          refine cU.mono ?_
          rintro e wa ⟨rfl, rfl⟩
          go_wp2_with fail
          refine cO.mono ?_
          rintro e wa ⟨rfl, rfl⟩
          go_wp2_with fail
          refine cU.mono ?_
          rintro e wa ⟨rfl, rfl⟩
          clear cO cU
          have cW1 := write_any TZ.b TZ.kb (by unfold In; omega) xg at_ xb hpast
          go_wp2_with fail
          refine cW1.mono ?_
          rintro e w7 hw7
          have kZ7 := TZ.symm.keepS hw7 kZ nbZ npb
          obtain ⟨rfl, Sb', T7⟩ := TZ.symm.write hw7
          rw [mW_off, lW_off] at T7
          have T9 := T7.symm
          have hne := wr_off m xg at_ xb
          generalize wrE m 0 xg at_ xb = rr at *
          have dr : decide (rr = 0) = false := decide_eq_false hne
          have dr2 : (rr == 0) = false := by simp [hne]
          have cU := used_any T9.b xg
          rw [HAT.out] at cU
          clear hne cW1 hw7 TZ kZ y0 y2 y3 y5 z0 T7
          have y2 := kZ7.cell 2
          simp only [List.getElem?_toArray, List.getElem?_cons_zero, List.getElem?_cons_succ] at y2
          go_wp2_with fail
          refine cU.mono ?_
          rintro e wa ⟨rfl, rfl⟩
          clear cU y2 kZ7
          go_wp2_with fail
          exact ⟨hrest _ _ _ _ _ _ _ T9 R, by first | (simp [RowKit.intOf]; done) | (simp [RowKit.intOf]; omega) | omega⟩
        · have hbl : bL Lb = true := by unfold bL; exact decide_eq_true hL
          rw [hbl] at cO
          have R := HR.out
          have hpast : (m.past.length + 1) * 32 ≤ 140737488355328 := by have := R.1; omega
          have hIn : In Lb := by have := R.1; have := R.2.2; unfold In; omega
          go_wp2_with fail
          refine cU.mono ?_
          rintro e wa ⟨rfl, rfl⟩
          go_wp2_with fail
          refine cO.mono ?_
          rintro e wa ⟨rfl, rfl⟩
          go_wp2_with fail
          have cW1 := write_any TZ.a TZ.ka (by unfold In; omega) xg at_ xb hpast
          clear cO cU
          refine cW1.mono ?_
          rintro e w7 hw7
          have kZ7 := TZ.keepS hw7 kZ naZ npa
          obtain ⟨rfl, Sa', T7⟩ := TZ.write hw7
          rw [wr_on m (-1) xg at_ xb (by decide)]
          have cW2 := write_any T7.b T7.kb hIn xg at_ xb hpast
          clear cW1 hw7 TZ kZ y0 y2 y3 y5 z0
          have y2 := kZ7.cell 2
          have y5 := kZ7.cell 5
          simp only [List.getElem?_toArray, List.getElem?_cons_zero, List.getElem?_cons_succ] at y2 y5
          go_wp2_with fail
          refine cW2.mono ?_
          rintro e w8 hw8
          obtain ⟨rfl, Sb', T8⟩ := T7.symm.write hw8
          have T9 := T8.symm
          rw [wr_on m Lb xg at_ xb hL]
          rw [mW_on m (-1) _ _ _ (by decide), ← mW_on m Lb _ _ _ hL, lW_neg] at T9
          have hR9 := R.on hL xg at_ xb
          generalize refE m xg at_ xb = rr at *
          clear cW2 hw8 T8 T7 kZ7 y2 y5 R hbl hL
          go_wp2_with fail
          exact ⟨hrest _ _ _ _ _ _ _ T9 hR9, by first | (simp [RowKit.intOf]; done) | (simp [RowKit.intOf]; omega) | omega⟩
      · have d1 : (xk == 2) = false := by simp [hk]
        have d2 : decide (xk = 2) = false := decide_eq_false hk
        clear hk
        by_cases hL : Lb = 0
        · obtain rfl := hL
          rw [show bL 0 = false from rfl] at cO
          have R := HR.out
          have hpast : (m.past.length + 1) * 32 ≤ 140737488355328 := by have := R.1; omega
          go_wp2_with fail
          refine cO.mono ?_
          rintro e wa ⟨rfl, rfl⟩
          go_wp2_with fail
          refine cU.mono ?_
          rintro e wa ⟨rfl, rfl⟩
          clear cO cU
          have cW1 := write_any TZ.b TZ.kb (by unfold In; omega) xg xo xb hpast
          go_wp2_with fail
          refine cW1.mono ?_
          rintro e w7 hw7
          have kZ7 := TZ.symm.keepS hw7 kZ nbZ npb
          obtain ⟨rfl, Sb', T7⟩ := TZ.symm.write hw7
          rw [mW_off, lW_off] at T7
          have T9 := T7.symm
          have hne := wr_off m xg xo xb
          generalize wrE m 0 xg xo xb = rr at *
          have dr : decide (rr = 0) = false := decide_eq_false hne
          have dr2 : (rr == 0) = false := by simp [hne]
          have cU := used_any T9.b xg
          skip
          clear hne cW1 hw7 TZ kZ y0 y2 y3 y5 z0 T7
          have y2 := kZ7.cell 2
          simp only [List.getElem?_toArray, List.getElem?_cons_zero, List.getElem?_cons_succ] at y2
          go_wp2_with fail
          refine cU.mono ?_
          rintro e wa ⟨rfl, rfl⟩
          clear cU y2 kZ7
          go_wp2_with fail
          exact ⟨hrest _ _ _ _ _ _ _ T9 R, by first | (simp [RowKit.intOf]; done) | (simp [RowKit.intOf]; omega) | omega⟩
        · have hbl : bL Lb = true := by unfold bL; exact decide_eq_true hL
          rw [hbl] at cO
          have R := HR.out
          have hpast : (m.past.length + 1) * 32 ≤ 140737488355328 := by have := R.1; omega
          have hIn : In Lb := by have := R.1; have := R.2.2; unfold In; omega
          go_wp2_with fail
          refine cO.mono ?_
          rintro e wa ⟨rfl, rfl⟩
          go_wp2_with fail
          have cW1 := write_any TZ.a TZ.ka (by unfold In; omega) xg xo xb hpast
          clear cO cU
          refine cW1.mono ?_
          rintro e w7 hw7
          have kZ7 := TZ.keepS hw7 kZ naZ npa
          obtain ⟨rfl, Sa', T7⟩ := TZ.write hw7
          rw [wr_on m (-1) xg xo xb (by decide)]
          have cW2 := write_any T7.b T7.kb hIn xg xo xb hpast
          clear cW1 hw7 TZ kZ y0 y2 y3 y5 z0
          have y2 := kZ7.cell 2
          have y5 := kZ7.cell 5
          simp only [List.getElem?_toArray, List.getElem?_cons_zero, List.getElem?_cons_succ] at y2 y5
          go_wp2_with fail
          refine cW2.mono ?_
          rintro e w8 hw8
          obtain ⟨rfl, Sb', T8⟩ := T7.symm.write hw8
          have T9 := T8.symm
          rw [wr_on m Lb xg xo xb hL]
          rw [mW_on m (-1) _ _ _ (by decide), ← mW_on m Lb _ _ _ hL, lW_neg] at T9
          have hR9 := R.on hL xg xo xb
          generalize refE m xg xo xb = rr at *
          clear cW2 hw8 T8 T7 kZ7 y2 y5 R hbl hL
          go_wp2_with fail
          exact ⟨hrest _ _ _ _ _ _ _ T9 hR9, by first | (simp [RowKit.intOf]; done) | (simp [RowKit.intOf]; omega) | omega⟩
    · obtain rfl : j = l.length := by omega
      clear hX
      have T := HT.out
      have R := HR.out
      obtain ⟨r1, r2, r3⟩ := R
      have cA := count_any T.a
      have cB := count_any T.b
      have cO := on_ok T.kb
      rw [show bL Lb = decide ((m.past.length : Int) < (n : Int)) by unfold bL; rw [decide_eq_decide]; omega] at cO
      have x0 := T.b.ptr
      have d1 : decide ((n : Int) < (m.past.length : Int)) = false := decide_eq_false (by omega)
      have HR1 := powers.lay r1
      clear r1 r2 r3 hj hlt
      generalize m.past.length = pl at *
      obtain ⟨bq, hq⟩ : ∃ bq, decide (pl < n) = bq := ⟨_, rfl⟩
      have hq1 : decide ((pl : Int) < (n : Int)) = bq := by rw [← hq, decide_eq_decide]; omega
      rw [hq1] at cO
      have d2 : decide (n < pl) = false := decide_eq_false (by have := HR1.out; omega)
      go_wp2_with fail
      refine cB.mono ?_
      rintro e wa ⟨rfl, rfl⟩
      go_wp2_with fail
      refine cB.mono ?_
      rintro e wa ⟨rfl, rfl⟩
      go_wp2_with fail
      refine cA.mono ?_
      rintro e wa ⟨rfl, rfl⟩
      go_wp2_with fail
      refine cO.mono ?_
      rintro e wa ⟨rfl, rfl⟩
      go_wp2_with fail
      refine cB.mono ?_
      rintro e wa ⟨rfl, rfl⟩
      clear cA cB cO x0 d1
      go_wp2_with fail
      go_loopw [19] (fun i wx => ∃ (j : Nat), j ≤ 1 + sgm ∧ i = .int .i64 (j : Int) ∧ wx = wa) (fun i _ => 1 + sgm - (RowKit.intOf i).toNat)
      case atStart => exact ⟨0, Nat.zero_le _, rfl, rfl⟩
      case round =>
        obtain ⟨j, hj, rfl, rfl⟩ := hrel
        by_cases hlt : j < 1 + sgm
        · have hjs : j < m.segs.length := by have := HR.out.2.1; omega
          have cUa := used_nat T.a j hjs
          have cRa := read_all T.a j hjs
          have cUb := used_nat T.b j hjs
          have cRb := read_all T.b j hjs
          have e1 : IntKind.i64.wrap ((j : Int) + 1) = (j : Int) + 1 := IntWalk.i64_in _ (by omega)
          generalize m.at_ j = s at *
          clear T
          go_wp2_with fail
          refine cUa.mono ?_
          rintro e wa ⟨rfl, rfl⟩
          go_wp2_with fail
          refine cRa.mono ?_
          rintro e wa ⟨rfl, rfl⟩
          go_wp2_with fail
          refine cUb.mono ?_
          rintro e wa ⟨rfl, rfl⟩
          go_wp2_with fail
          refine cRb.mono ?_
          rintro e wa ⟨rfl, rfl⟩
          go_wp2_with fail
          go_roundw
          case rel => exact ⟨j + 1, hlt, by go_num, by first | trivial | rfl⟩
          case measure => first | (simp [RowKit.intOf]; done) | (simp [RowKit.intOf]; omega) | omega
        · obtain rfl : j = 1 + sgm := by omega
          have hfin := HW.out.trans (T.hb.mono hpaB)
          clear T HT HR
          go_wp2_with fail
          go_ret
          exact ⟨rfl, hfin⟩
end Go.Proofs.Ytmbhfibldklecaa.mediums
