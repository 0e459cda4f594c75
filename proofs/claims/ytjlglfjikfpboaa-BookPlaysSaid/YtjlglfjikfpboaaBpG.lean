/- The document's Begins, Named, Names, Gone. -/
import Derived.Test.YtjlglfjikfpboaaBpC
import Derived.Test.YtjlglfjikfpboaaBkGa


namespace Go.Proofs.Ytjlglfjikfpboaa.books
set_option linter.unusedVariables false
set_option linter.unusedSimpArgs false
open Go.RowKit Go.Shelf Go.Proofs.Ytjlglfjikfpboaa.base Go.Proofs.Ytjlglfjikfpboaa.quotas Go.Proofs.Ytjlglfjikfpboaa.vers Go.Proofs.Ytjlglfjikfpboaa.nodes Go.Proofs.Ytjlglfjikfpboaa.trees Go.Proofs.Ytjlglfjikfpboaa.texts

theorem hasP_eq2 (s t : ByteArray) : hasP s t = (decide ((t.size : Int) ≤ (s.size : Int)) && ((s.extract 0 t.size).toList == t.toList)) := by
  unfold hasP Lib.hasPrefix
  simp only [bn]
  rw [Lib.toList_data, Lib.toList_data]
  have h1 : (s.extract 0 t.size).data.toList = s.data.toList.take t.size := by
    rw [ByteArray.data_extract]; simp
  have h2 : t.data.toList.length = t.size := by simp
  have h3 : s.data.toList.length = s.size := by simp
  rw [h1]
  generalize hs : s.size = n at *
  generalize ht : t.size = m at *
  generalize s.data.toList = a at *
  generalize t.data.toList = b at *
  by_cases h : (m : Int) ≤ (n : Int)
  · rw [decide_eq_true h, Bool.true_and, Bool.eq_iff_iff, List.isPrefixOf_iff_prefix, beq_iff_eq, List.prefix_iff_eq_take, h2]
    exact eq_comm
  · rw [decide_eq_false h, Bool.false_and, Bool.eq_false_iff]
    intro h4
    have := (List.isPrefixOf_iff_prefix.1 h4).length_le
    omega
set_option maxRecDepth 100000 in
set_option maxHeartbeats 4000000 in
theorem refBegins_any (s t : ByteArray) (w : World) :
    Calls Try.prog 146 #[.string s, .string t] w fun e w' => e = .returned (.bool (hasP s t)) ∧ w' = w := by
  have he := hasP_eq2 s t
  have HE := vers.lay he
  clear he
  by_cases h : t.size ≤ s.size
  · have d1 : decide ((t.size : Int) ≤ (s.size : Int)) = true := decide_eq_true (by omega)
    have d2 : decide (t.size ≤ s.size) = true := decide_eq_true h
    have HH := vers.lay h
    go_enter Try.func146, Try.ntmps146
    go_wp2_with fail
    all_goals first | (exfalso; omega) | skip
    go_ret
    exact ⟨by rw [HE.out, d1]; simp, rfl⟩
  · have d1 : decide ((t.size : Int) ≤ (s.size : Int)) = false := decide_eq_false (by omega)
    have d2 : decide (t.size ≤ s.size) = false := decide_eq_false h
    go_enter Try.func146, Try.ntmps146
    go_wp2_with fail
    all_goals first | (exfalso; omega) | skip
    go_ret
    exact ⟨by rw [HE.out, d1]; simp, rfl⟩

set_option maxRecDepth 100000 in
set_option maxHeartbeats 4000000 in
theorem named_ok (s : ByteArray) (l : List ByteArray) (A : Option Addr) (c : Nat) (w : World) (hT : Ts w w.heap.size l A c) :
    Calls Try.prog 116 #[.string s, .slice A l.length c] w fun e w' => e = .returned (.bool (fitP l s)) ∧ w' = w := by
  have hlen : l.length ≤ 140737488355328 := by have := hT.2.1; omega
  have hb := fun t => refBegins_any s t w
  go_enter Try.func116, Try.ntmps116
  go_wp2_with fail
  go_loopw [9] (fun i wr => ∃ j : Nat, j ≤ l.length ∧ i = .int .i64 (j : Int) ∧ wr = w ∧ Hid (l.any (hasP s) = (l.drop j).any (hasP s))) (fun i _ => l.length - (intOf i).toNat)
  case atStart => exact ⟨0, Nat.zero_le _, rfl, rfl, vers.lay rfl⟩
  case round =>
    obtain ⟨j, hj, rfl, rfl, hH⟩ := hrel
    by_cases hlt : j < l.length
    · obtain ⟨b, off, rfl, hbk, e0⟩ := hT.at_ hlt
      have hH2 := vers.lay (hH.out.trans (by rw [List.drop_eq_getElem_cons hlt, List.any_cons]))
      clear hH
      have hcj := hb l[j]
      generalize l[j] = t at e0 hcj hH2
      cases hp : hasP s t with
      | true =>
        rw [hp] at hcj
        have hH3 := vers.lay (hH2.out.trans (by rw [hp, Bool.true_or]))
        clear hH2 hp hb
        go_wp2_with fail
        refine hcj.mono ?_
        rintro e1 w1 ⟨rfl, rfl⟩
        go_wp2_with fail
        go_ret
        exact ⟨by unfold fitP; rw [hH3.out]; simp, rfl⟩
      | false =>
        rw [hp] at hcj
        have hH3 := vers.lay (hH2.out.trans (by rw [hp, Bool.false_or]))
        clear hH2 hp hb
        go_wp2_with fail
        refine hcj.mono ?_
        rintro e1 w1 ⟨rfl, rfl⟩
        go_wp2_with fail
        exact ⟨⟨j + 1, hlt, by go_num, by trivial, hH3⟩, by first | (simp [intOf]; done) | (simp [intOf]; omega) | omega⟩
    · obtain rfl : j = l.length := by omega
      have hH3 := vers.lay (hH.out.trans (by rw [List.drop_length, List.any_nil]))
      clear hH hb
      have HL := vers.lay (show fitP l s = ((l.length : Int) == 0) by
        unfold fitP
        rw [hH3.out, Bool.or_false]
        cases l with
        | nil => rfl
        | cons a b =>
          have h1 : ((a :: b).length == 0) = false := rfl
          rw [h1]
          symm
          rw [beq_eq_false_iff_ne]
          simp only [List.length_cons]
          omega)
      generalize l.length = n at *
      go_wp2_with fail
      go_ret
      exact ⟨by rw [HL.out]; first | rfl | (congr 2; by_cases h : n = 0 <;> simp [h]) | (by_cases h : n = 0 <;> simp [h]), rfl⟩

theorem filt_yes {f : E → Bool} {es : List E} {j : Nat} (hj : j < es.length) (h : f es[j] = true) : (es.take (j + 1)).filter f = (es.take j).filter f ++ [es[j]] := by
  rw [List.take_succ_eq_append_getElem hj, List.filter_append]
  simp [h]
theorem filt_no {f : E → Bool} {es : List E} {j : Nat} (hj : j < es.length) (h : f es[j] = false) : (es.take (j + 1)).filter f = (es.take j).filter f := by
  rw [List.take_succ_eq_append_getElem hj, List.filter_append]
  simp [h]
theorem filt_le {f : E → Bool} (es : List E) (j : Nat) : ((es.take j).filter f).length ≤ j := Nat.le_trans (List.length_filter_le _ _) (by rw [List.length_take]; omega)
theorem namesP_es (es : List E) (ps : List ByteArray) : namesP (es.map pe) ps = brs ((es.filter fun x => fitP ps x.s).map (·.s)) := by
  unfold namesP nmB brs
  rw [List.map_map, List.filter_map, List.map_map, List.map_map]
  rfl
theorem sts_snoc (l : List ByteArray) (s : ByteArray) : sts (l ++ [s]) = sts l ++ sts [s] := by simp [sts]

set_option maxRecDepth 100000 in
set_option maxHeartbeats 4000000 in
theorem refNames_any (es : List E) (A : Option Addr) (c : Nat) (ps : List ByteArray) (A2 : Option Addr) (c2 : Nat) (w : World) (hE : Es w w.heap.size es A c) (hT : Ts w w.heap.size ps A2 c2) (hlen : es.length ≤ 1000) :
    Calls Try.prog 75 #[.slice A es.length c, .slice A2 ps.length c2] w fun e w' => ∃ v, e = .returned v ∧ Below w.heap.size w w' ∧ Txt w' w.heap.size v (namesP (es.map pe) ps) := by
  have hl : es.length ≤ 140737488355328 := by omega
  have HN := vers.lay (namesP_es es ps)
  obtain ⟨f, hf⟩ : ∃ f : E → Bool, f = fun x => fitP ps x.s := ⟨_, rfl⟩
  have hnm := fun (x : E) wx (hb : Below w.heap.size w wx) => (show Calls Try.prog 116 #[.string x.s, .slice A2 ps.length c2] wx fun e w' => e = .returned (.bool (f x)) ∧ w' = wx by rw [hf]; exact named_ok x.s ps A2 c2 wx (hT.at_world hb))
  have HF := vers.lay hf
  clear hf
  have b0 : Below w.heap.size w (w.alloc (.cells #[] 9)) := (Below.refl _ _).alloc (Nat.le_refl _) _
  have r0 : (w.alloc (.cells #[] 9)).ownsRow 0 9 1 (.slice (some ⟨w.heap.size, 0, none⟩) 0 0) 0 (sts []) := ⟨rfl, .inr ⟨w.heap.size, 0, #[], rfl, Nat.zero_le _, heap_alloc_new w _, Nat.le_refl _, Nat.zero_le _, rfl, rfl⟩⟩
  go_enter Try.func75, Try.ntmps75
  go_wp2_with fail
  generalize w.alloc (.cells #[] 9) = W at *
  go_loopw [11, 5] (fun i u wr => ∃ j : Nat, j ≤ es.length ∧ i = .int .i64 (j : Int) ∧ Below w.heap.size w wr ∧ wr.ownsRow 0 9 1 u (((es.take j).filter f).map (·.s)).length (sts (((es.take j).filter f).map (·.s))) ∧ Hid (∀ g, u.ownBlock = some g → w.heap.size ≤ g)) (fun i _ _ => es.length - (intOf i).toNat)
  case atStart => exact ⟨0, Nat.zero_le _, rfl, b0, r0, vers.lay (fun g hg => by cases hg; exact Nat.le_refl _)⟩
  case round =>
    clear r0 b0
    obtain ⟨j, hj, rfl, hb, hr, hu⟩ := hrel
    by_cases hlt : j < es.length
    · obtain ⟨bk, off, rfl, hbk, x0, x1, hV⟩ := (hE.below hb).at_ hlt
      have hdy := vers.lay (filt_yes (f := f) hlt)
      have hdn := vers.lay (filt_no (f := f) hlt)
      have hle := filt_le (f := f) es j
      have hnx := fun wx hb => hnm es[j] wx hb
      generalize es[j] = x at x0 x1 hV hdy hdn hnx
      cases hfx : f x with
      | true =>
        rw [hfx] at hnx
        have HD := vers.lay (hdy.out hfx)
        clear hdy hdn hfx hnm
        obtain ⟨xs, xl, xA, xc⟩ := x
        simp only [] at x0 x1 hV hnx
        have bZ : Below wr.heap.size wr (wr.alloc (.cells #[.string xs, .slice xA xl.length xc] 79)) := (Below.refl _ _).alloc (Nat.le_refl _) _
        have kZ := Blk.new wr 79 #[.string xs, .slice xA xl.length xc]
        have hrZ := row_below hr bZ
        have hbZ := hb.trans (bZ.mono hb.size)
        have hbs := hb.size
        generalize hWZ : wr.alloc (.cells #[.string xs, .slice xA xl.length xc] 79) = WZ at *
        have lZ := kZ.lt
        have y0 := kZ.cell 0
        simp only [List.getElem?_toArray, List.getElem?_cons_zero, List.getElem?_cons_succ] at y0
        have hcl := hnx WZ hbZ
        clear hnx hr
        obtain ⟨fj, hfj⟩ : ∃ l, ((es.take j).filter f).map (·.s) = l := ⟨_, rfl⟩
        rw [hfj] at hrZ
        have hfl : fj.length ≤ 1000 := by rw [← hfj, List.length_map]; omega
        have HD2 := vers.lay (show ((es.take (j + 1)).filter f).map (·.s) = fj ++ [xs] by rw [HD.out, List.map_append, hfj]; rfl)
        clear HD hfj hle
        go_wp2_with fail
        refine hcl.mono ?_
        rintro e1 w1 ⟨rfl, rfl⟩
        go_wp2_with (at_builtin; refine wp_text (b := xs) rfl _ _ rfl hrZ rfl rfl rfl (by omega) ?_; intro v9 w9 ho9 hk9 hv9 hz9)
        refine ⟨⟨j + 1, hlt, by go_num, hbZ.trans (hk9.below (fun g hg => hu.out g hg) hbZ.size), by rw [HD2.out]; exact ho9, vers.lay (fun g hg => ?_)⟩, by simp [intOf]; omega⟩
        rcases hv9 g hg with h | h
        · exact hu.out g h
        · have := hbZ.size; omega
      | false =>
        rw [hfx] at hnx
        have HD := vers.lay (hdn.out hfx)
        clear hdy hdn hfx hnm
        obtain ⟨xs, xl, xA, xc⟩ := x
        simp only [] at x0 x1 hV hnx
        have bZ : Below wr.heap.size wr (wr.alloc (.cells #[.string xs, .slice xA xl.length xc] 79)) := (Below.refl _ _).alloc (Nat.le_refl _) _
        have kZ := Blk.new wr 79 #[.string xs, .slice xA xl.length xc]
        have hrZ := row_below hr bZ
        have hbZ := hb.trans (bZ.mono hb.size)
        generalize hWZ : wr.alloc (.cells #[.string xs, .slice xA xl.length xc] 79) = WZ at *
        have lZ := kZ.lt
        have y0 := kZ.cell 0
        simp only [List.getElem?_toArray, List.getElem?_cons_zero, List.getElem?_cons_succ] at y0
        have hcl := hnx WZ hbZ
        clear hnx hr
        go_wp2_with fail
        refine hcl.mono ?_
        rintro e1 w1 ⟨rfl, rfl⟩
        go_wp2_with fail
        exact ⟨⟨j + 1, hlt, by go_num, hbZ, by rw [HD.out]; exact hrZ, hu⟩, by simp [intOf]; omega⟩
    · obtain rfl : j = es.length := by omega
      rw [List.take_length] at hr
      have hle := List.length_filter_le f es
      clear hnm
      go_wp2_with fail
      go_ret
      refine ⟨_, rfl, hb, ?_⟩
      rw [HN.out, ← HF.out]
      obtain ⟨AN, cN, e9, hlN, hcN⟩ := own_txt (B := 0) (l := brs ((es.filter f).map (·.s))) (by rw [brs_len, ← sts_brs]; exact hr) (by rw [brs_len, List.length_map]; omega)
      exact ⟨AN, cN, e9, hlN, fun k hk => by
        obtain ⟨g, h1, _, h2, h3⟩ := hcN k hk
        exact ⟨g, h1, hu.out g (by rw [e9, h1]; rfl), h2, h3⟩⟩

set_option maxRecDepth 100000 in
set_option maxHeartbeats 4000000 in
theorem refNames9_any (q : Qt) (F : Nat → Prop) (es : List E) (A : Option Addr) (c : Nat) (v : Value) (L : List PB) (P : List (List UInt8)) (ps : List ByteArray) (A2 : Option Addr) (c2 : Nat) (w : World) (hR : RAt w F es A c v L P) (hT : Ts w w.heap.size ps A2 c2) (hlen : L.length ≤ 1000) :
    Calls Try.prog 42 #[RV q (.slice A es.length c) v, .slice A2 ps.length c2] w fun e w' => ∃ v', e = .returned v' ∧ Below w.heap.size w w' ∧ Txt w' w.heap.size v' (namesP L ps) := by
  have hel : L.length = es.length := by rw [← hR.pe_, List.length_map]
  have kb := Blk.new w 66 (RC q (.slice A es.length c) v)
  have b0 : Below w.heap.size w (w.alloc (.cells (RC q (.slice A es.length c) v) 66)) := (Below.refl _ _).alloc (Nat.le_refl _) _
  have hc := refNames_any es A c ps A2 c2 _ (hR.now b0).es_.es (hT.at_world b0) (by omega)
  rw [hR.pe_] at hc
  clear hel
  go_enter Try.func42, Try.ntmps42
  go_upto_region 1 with (fail)
  generalize w.alloc (.cells (RC q (.slice A es.length c) v) 66) = W at *
  obtain ⟨⟨_, _, _, _, _, _, _, x7, x8⟩, _⟩ := cells9 kb
  have lb := kb.lt
  go_wp2_with fail
  refine hc.mono ?_
  rintro e w1 ⟨v', rfl, hb1, hT1⟩
  have b1 := b0.trans (hb1.mono b0.size)
  go_wp2_with fail
  go_ret
  exact ⟨v', rfl, b1, txt_lower hT1 b0.size⟩

abbrev tb (x : List UInt8) : ByteArray := ⟨x.toArray⟩
theorem tb_bn (x : List UInt8) : bn (tb x) = x := by simp [bn]
theorem brs_tb (l : List (List UInt8)) : brs (l.map tb) = l := by
  unfold brs
  rw [List.map_map]
  have : ((fun x : ByteArray => x.data.toList) ∘ tb) = id := by funext x; simp
  rw [this, List.map_id]
theorem filtx_yes {f : List UInt8 → Bool} {es : List (List UInt8)} {j : Nat} (hj : j < es.length) (h : f es[j] = true) : (es.take (j + 1)).filter f = (es.take j).filter f ++ [es[j]] := by
  rw [List.take_succ_eq_append_getElem hj, List.filter_append]
  simp [h]
theorem filtx_no {f : List UInt8 → Bool} {es : List (List UInt8)} {j : Nat} (hj : j < es.length) (h : f es[j] = false) : (es.take (j + 1)).filter f = (es.take j).filter f := by
  rw [List.take_succ_eq_append_getElem hj, List.filter_append]
  simp [h]

set_option maxRecDepth 100000 in
set_option maxHeartbeats 4000000 in
theorem refGone_any (q : Qt) (F : Nat → Prop) (es : List E) (A : Option Addr) (c : Nat) (v : Value) (b : Bk) (w : World) (hR : RAt w F es A c v b.L b.P) (hall : (allP b.L).length ≤ 3000000) (hPl : b.P.length ≤ 1000000) :
    Calls Try.prog 79 #[RV q (.slice A es.length c) v] w fun e w' => ∃ v', e = .returned v' ∧ Below w.heap.size w w' ∧ Txt w' w.heap.size v' (goneP b) := by
  have kb := Blk.new w 66 (RC q (.slice A es.length c) v)
  have b0 : Below w.heap.size w (w.alloc (.cells (RC q (.slice A es.length c) v) 66)) := (Below.refl _ _).alloc (Nat.le_refl _) _
  have hR0 := hR.now b0
  obtain ⟨AP, cP, rfl, hlP, _⟩ := hR.txt
  have ht := refTexts_any es A c _ hR0.es_.es (by rw [allE_pe, hR.pe_]; exact hall)
  rw [putAll_fin, allE_pe, hR.pe_] at ht
  obtain ⟨f, hf⟩ : ∃ f : List UInt8 → Bool, f = fun v => !decide (v ∈ fin (allP b.L)) := ⟨_, rfl⟩
  have HGP := vers.lay (show goneP b = b.P.filter f by rw [hf]; rfl)
  have HFF := vers.lay (fun x => (show decide (x ∈ fin (allP b.L)) = !f x by rw [hf]; simp))
  clear hf
  go_enter Try.func79, Try.ntmps79
  go_upto_region 1 with (fail)
  generalize w.alloc (.cells (RC q (.slice A es.length c) (.slice AP b.P.length cP)) 66) = W at *
  obtain ⟨⟨_, _, _, _, _, _, _, x7, x8⟩, _⟩ := cells9 kb
  have lb := kb.lt
  go_wp2_with fail
  refine ht.mono ?_
  rintro e w1 ⟨vL, rfl, hb1, hT1⟩
  have b1 := b0.trans (hb1.mono b0.size)
  have kb1 := kb.below hb1 kb.lt
  clear x7 x8 lb ht
  obtain ⟨⟨_, _, _, _, _, _, _, x7, x8⟩, _⟩ := cells9 kb1
  have lb1 := kb1.lt
  have hR1 := hR0.now hb1
  have hTP := hR1.txt.txt
  obtain ⟨AQ, cQ, eQ, _, hcP⟩ := hTP
  cases eQ
  have hin := fun (x : List UInt8) wx (hb : Below w1.heap.size w1 wx) => (show Calls Try.prog 19 #[vL, .string (tb x)] wx fun e w' => e = .returned (.bool (!f x)) ∧ wx = w' from in_ok vL 0 _ (tb x) wx (hT1.below hb) (!f x) (by rw [tb_bn]; exact HFF.out x))
  have HB := vers.lay hcP
  have HIN := vers.lay hin
  clear hcP hin hT1 hR0 hR1
  have r0 : (w1.alloc (.cells #[] 9)).ownsRow 0 9 1 (.slice (some ⟨w1.heap.size, 0, none⟩) 0 0) 0 (sts []) := ⟨rfl, .inr ⟨w1.heap.size, 0, #[], rfl, Nat.zero_le _, heap_alloc_new w1 _, Nat.le_refl _, Nat.zero_le _, rfl, rfl⟩⟩
  have bE : Below w1.heap.size w1 (w1.alloc (.cells #[] 9)) := (Below.refl _ _).alloc (Nat.le_refl _) _
  have kb2 := kb1.below bE kb1.lt
  generalize hPP : b.P = PP at *
  have hPl0 : PP.length ≤ 140737488355328 := by omega
  generalize hWE : w1.alloc (.cells #[] 9) = WE at *
  clear x7 x8
  obtain ⟨⟨_, _, _, _, _, _, _, x7, x8⟩, _⟩ := cells9 kb2
  have lb2 := kb2.lt
  go_wp2_with fail
  go_loopw [14, 4] (fun i u wr => ∃ j : Nat, j ≤ PP.length ∧ i = .int .i64 (j : Int) ∧ Below w1.heap.size w1 wr ∧ wr.ownsRow 0 9 1 u (((PP.take j).filter f).map tb).length (sts (((PP.take j).filter f).map tb)) ∧ Hid (∀ g, u.ownBlock = some g → w1.heap.size ≤ g)) (fun i _ _ => PP.length - (intOf i).toNat)
  case atStart => exact ⟨0, Nat.zero_le _, rfl, bE, r0, vers.lay (fun g hg => by cases hg; exact Nat.le_refl _)⟩
  case round =>
    clear r0 bE
    obtain ⟨j, hj, rfl, hb, hr, hu⟩ := hrel
    by_cases hlt : j < PP.length
    · obtain ⟨g, rfl, _, hg, hcc⟩ := HB.out j hlt
      have hdy := vers.lay (filtx_yes (f := f) hlt)
      have hdn := vers.lay (filtx_no (f := f) hlt)
      have hle := List.length_filter_le f (PP.take j)
      rw [List.length_take] at hle
      have hcl := HIN.out PP[j] wr hb
      replace hcc := (hb.cell (p := ⟨g, j, none⟩) hg).trans hcc
      have hbs := hb.size
      have hg2 : g < wr.heap.size := by omega
      generalize PP[j] = x at hcc hdy hdn hcl
      rw [show encStr x = .string (tb x) from rfl] at hcc
      cases hfx : f x with
      | true =>
        rw [hfx] at hcl
        obtain ⟨fj, hfj⟩ : ∃ l, ((PP.take j).filter f).map tb = l := ⟨_, rfl⟩
        have HD2 := vers.lay (show ((PP.take (j + 1)).filter f).map tb = fj ++ [tb x] by rw [hdy.out hfx, List.map_append, hfj]; rfl)
        rw [hfj] at hr
        have hfl : fj.length ≤ 1000000 := by rw [← hfj, List.length_map]; omega
        clear hdy hdn hfx hfj hle
        generalize tb x = xb at *
        go_wp2_with fail
        refine hcl.mono ?_
        rintro e1 w2 ⟨rfl, rfl⟩
        go_wp2_with (at_builtin; refine wp_text (b := xb) rfl _ _ rfl hr rfl rfl rfl (by omega) ?_; intro v9 w9 ho9 hk9 hv9 hz9)
        refine ⟨⟨j + 1, hlt, by go_num, hb.trans (hk9.below (fun g hg => hu.out g hg) hb.size), by rw [HD2.out]; exact ho9, vers.lay (fun g hg => ?_)⟩, by simp [intOf]; omega⟩
        rcases hv9 g hg with h | h
        · exact hu.out g h
        · omega
      | false =>
        rw [hfx] at hcl
        have HD := vers.lay (hdn.out hfx)
        clear hdy hdn hfx
        generalize tb x = xb at *
        go_wp2_with fail
        refine hcl.mono ?_
        rintro e1 w2 ⟨rfl, rfl⟩
        go_wp2_with fail
        exact ⟨⟨j + 1, hlt, by go_num, hb, by rw [HD.out]; exact hr, hu⟩, by simp [intOf]; omega⟩
    · obtain rfl : j = PP.length := by omega
      rw [List.take_length] at hr
      have hle := List.length_filter_le f PP
      go_wp2_with fail
      go_ret
      refine ⟨_, rfl, b1.trans (hb.mono b1.size), ?_⟩
      rw [HGP.out]
      obtain ⟨AN, cN, e9, hlN, hcN⟩ := own_txt (B := 0) (l := PP.filter f) (by have := hr; rw [List.length_map, sts_brs, brs_tb] at this; exact this) (by omega)
      have hbz := b1.size
      exact ⟨AN, cN, e9, hlN, fun k hk => by
        obtain ⟨g, h1, _, h2, h3⟩ := hcN k hk
        exact ⟨g, h1, Nat.le_trans hbz (hu.out g (by rw [e9, h1]; rfl)), h2, h3⟩⟩

end Go.Proofs.Ytjlglfjikfpboaa.books
