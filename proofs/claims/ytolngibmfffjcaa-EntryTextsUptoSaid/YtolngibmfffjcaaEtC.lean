/- The walk of EntryTexts, where the texts are not too many; a list of secrets that came in, opened: they have no more texts than twice the bulk of what was read. -/
import Derived.Test.YtolngibmfffjcaaEtB
import Derived.Test.YtolngibmfffjcaaVerO
import Derived.Test.YtolngibmfffjcaaRows


namespace Go.Proofs.Ytolngibmfffjcaa.vers
set_option linter.unusedVariables false
set_option linter.unusedSimpArgs false
open Go.RowKit Go.ChangeShapes Go.WideShapes Go.Proofs.Ytolngibmfffjcaa.base Go.Proofs.Ytolngibmfffjcaa.texts

theorem infoE : (Try.prog.info? 26).map (fun i => (i.zero, i.size, i.bytes)) = some (some (.agg #[.string ⟨#[]⟩, .slice none 0 0]), 2, 40) := by kernel_rfl
theorem elemE : Try.prog.elem 44 = 26 := by kernel_rfl
theorem run_forty (l : List E) (A : Option Addr) (c : Nat) (hc : 40 ≤ c) (u : World) :
    (Instr.slice 44 (.slice A l.length c) none (some (.int .i64 40)) none).run Try.prog u = .ok (.slice A 40 c) u := by
  obtain ⟨i0, hi, hz0, hz1, hz2⟩ := info_parts infoE
  rw [run_slice_h u 44 A l.length c (by rw [elemE]; exact Try.underlying44) .i64 40 (by omega) (by omega)]
  cases A with
  | none => simp [elemE, sizeOf, typeInfo, hi, hz1, Result.andThen, sliced]
  | some ad => simp [elemE, sizeOf, typeInfo, hi, hz1, Result.andThen, sliced, Addr.add]

set_option maxRecDepth 100000 in
set_option maxHeartbeats 400000 in
theorem law_texts (l : List E) (A : Option Addr) (c : Nat) (w : World) (hv : Es w w.heap.size l A c) (hN : (allE l).length ≤ 3000000) :
    Calls Try.prog 6 #[.slice A l.length c] w fun e w' => e = .returned (.bool true) ∧ Below w.heap.size w w' := by
  have hlen : l.length ≤ 140737488355328 := by have := hv.2.1; omega
  have tail : ∀ (m : List E) (u : Option Addr), Es w w.heap.size m A c → (allE m).length ≤ 3000000 → ∀ (K : Prop), True := fun _ _ _ _ _ => trivial
  clear tail
  by_cases h40 : 40 < l.length
  · have hsl := run_forty l A c (by have := hv.1; omega)
    have hm := hv.take (k := 40) (by omega)
    have hml := lay (show (l.take 40).length = 40 by rw [List.length_take]; omega)
    have hmN : (allE (l.take 40)).length ≤ 3000000 := by have := allE_le l 40; omega
    generalize l.take 40 = m at hm hml hmN
    have h1 := texts_any m A c w hm (by omega)
    rw [hml.out] at h1
    have d1 : decide ((40 : Int) < (l.length : Int)) = true := decide_eq_true (by omega)
    clear h40 hv hN
    go_enter Try.func6, Try.ntmps6
    go_wp2_with fail
    refine h1.mono ?_
    rintro e w1 ⟨v1, rfl, hb1, hT1⟩
    have h2 := refTexts_any m A c w1 ((hm.below hb1).more hb1.size) hmN
    rw [hml.out] at h2
    go_wp2_with fail
    refine h2.mono ?_
    rintro e w2 ⟨v2, rfl, hb2, hT2⟩
    rw [putAll_fin] at hT2
    have h3 := sameTexts_any _ _ _ _ _ _ (hT1.below hb2) hT2
    have hB2 := hb1.trans (hb2.mono hb1.size)
    go_wp2_with fail
    refine h3.mono ?_
    rintro e w3 ⟨rfl, hb3⟩
    go_wp2_with fail
    go_ret
    exact ⟨rfl, hB2.trans (hb3.mono hB2.size)⟩
  · have h1 := texts_any l A c w hv (by omega)
    have d1 : decide ((40 : Int) < (l.length : Int)) = false := decide_eq_false (by omega)
    clear h40
    go_enter Try.func6, Try.ntmps6
    go_wp2_with fail
    refine h1.mono ?_
    rintro e w1 ⟨v1, rfl, hb1, hT1⟩
    have h2 := refTexts_any l A c w1 ((hv.below hb1).more hb1.size) hN
    go_wp2_with fail
    refine h2.mono ?_
    rintro e w2 ⟨v2, rfl, hb2, hT2⟩
    rw [putAll_fin] at hT2
    have h3 := sameTexts_any _ _ _ _ _ _ (hT1.below hb2) hT2
    have hB2 := hb1.trans (hb2.mono hb1.size)
    go_wp2_with fail
    refine h3.mono ?_
    rintro e w3 ⟨rfl, hb3⟩
    go_wp2_with fail
    go_ret
    exact ⟨rfl, hB2.trans (hb3.mono hB2.size)⟩

theorem bulk_pos {H : Type} (d : DataW H) : 1 ≤ Rows.uptoBulk d := by
  cases d with
  | lit x => cases x <;> simp [Rows.uptoBulk]
  | _ => simp [Rows.uptoBulk]
theorem bulk_len {H : Type} : ∀ ds : List (DataW H), ds.length ≤ Rows.uptoBulkAll ds
  | [] => Nat.zero_le _
  | d :: ds => by have h1 := bulk_len ds; have h2 := bulk_pos d; simp only [Rows.uptoBulkAll, List.length_cons]; omega
theorem bulk_append {H : Type} (l r : List (DataW H)) : Rows.uptoBulkAll (l ++ r) = Rows.uptoBulkAll l + Rows.uptoBulkAll r := by
  induction l with
  | nil => simp [Rows.uptoBulkAll]
  | cons x l ih => simp only [List.cons_append, Rows.uptoBulkAll, ih]; omega
theorem allE_snoc (l : List E) (x : E) : (allE (l ++ [x])).length = (allE l).length + (1 + 2 * x.l.length) := by
  induction l with
  | nil => simp [allE, ets, vts_len]; omega
  | cons y l ih => simp only [List.cons_append, allE, List.length_append, ih]; omega
/-- a list out of its elements -/
theorem gatherE {H : Type} (W : World) (a : Addr) (ds : List (DataW H)) (len : Nat) (hle : len ≤ ds.length) (h : ∀ i, i < len → ∃ x : E, (Vs W W.heap.size x.l x.A x.c ∧ x.s.size ≤ maxLen) ∧ (∀ d, ds[i]? = some d → 1 + 2 * x.l.length ≤ 2 * Rows.uptoBulk d) ∧ ∀ r u, x.cells[r]? = some u → W.cell? (a.add (i * 2 + r)) = some u) :
    ∃ l : List E, l.length = len ∧ (∀ x ∈ l, Vs W W.heap.size x.l x.A x.c ∧ x.s.size ≤ maxLen) ∧ (allE l).length ≤ 2 * Rows.uptoBulkAll (ds.take len) ∧ ∀ j u, (cellsE l)[j]? = some u → W.cell? (a.add j) = some u := by
  induction len with
  | zero => exact ⟨[], rfl, (fun x hx => by cases hx), by simp [allE], fun j u h => by simp [cellsE] at h⟩
  | succ n ih =>
    obtain ⟨l, hl, hf, hsz, hc⟩ := ih (by omega) (fun i hi => h i (by omega))
    obtain ⟨x, hx, hts, hcs⟩ := h n (by omega)
    have hdn : ds[n]? = some ds[n] := List.getElem?_eq_getElem (by omega)
    have hts2 := hts _ hdn
    have hsum : Rows.uptoBulkAll (ds.take (n + 1)) = Rows.uptoBulkAll (ds.take n) + Rows.uptoBulk ds[n] := by
      rw [List.take_succ_eq_append_getElem (by omega), bulk_append]; simp [Rows.uptoBulkAll]
    have hxl := cellsE_len l
    refine ⟨l ++ [x], by simp [hl], fun y hy => ?_, by rw [allE_snoc, hsum]; omega, fun j u hj => ?_⟩
    · rcases List.mem_append.1 hy with e | e
      · exact hf y e
      · rw [List.mem_singleton.1 e]; exact hx
    · rw [cellsE_app] at hj
      rcases Nat.lt_or_ge j (cellsE l).length with hlt | hge
      · rw [List.getElem?_append_left hlt] at hj
        exact hc j u hj
      · rw [List.getElem?_append_right hge, show cellsE [x] = x.cells by simp [cellsE]] at hj
        have := hcs (j - (cellsE l).length) u hj
        rwa [show n * 2 + (j - (cellsE l).length) = j by omega] at this
theorem weightsAll_mem {H : Type} {P : Program} {e : TypeId} : ∀ {ds : List (DataW H)} {d : DataW H}, d ∈ ds → ∀ n ∈ d.weights P e, n ∈ DataW.weightsAll P e ds
  | d0 :: ds, d, hd, n, hn => by
    simp only [DataW.weightsAll, List.mem_append]
    rcases List.mem_cons.1 hd with rfl | h
    · exact .inl hn
    · exact .inr (weightsAll_mem h n hn)

section
variable {H : Type} {enc : TypeId × Value → H} {W : World}

set_option maxRecDepth 100000 in
theorem open_vsB {m : Nat} {cs : List Value} {x : DataW H × List MemPlace} (h : DataW.trod enc Try.prog W 0 (fun _ => true) true m 24 cs = some x) (hw : (x.1.weights Try.prog 24).all (· ≤ reachBytes) = true) :
    ∃ (l : List V) (A : Option Addr) (c : Nat), cs = [.slice A l.length c] ∧ Vs W W.heap.size l A c ∧ l.length ≤ Rows.uptoBulk x.1 := by
  rcases DataW.trod_slice Try.underlying24 h with ⟨rfl, _⟩ | ⟨a, len, cap, elems, rest, n, hn, rfl, rfl, _, hlc, hcm, hlen, hel, hsp, _⟩
  · exact ⟨[], none, 0, rfl, ⟨Nat.le_refl _, by simp, (fun _ => rfl), Rd.nil _ _ _, fun x hx => by cases hx⟩, Nat.zero_le _⟩
  · have hrest := (hsp rfl).1
    have hcap : cap * 40 ≤ reachBytes := by
      refine all_mem hw ?_
      simp only [DataW.weights, Try.underlying24, bytes40, List.length_map]
      rw [show elems.length + rest.length = cap by omega]
      exact List.mem_cons_self
    have hr47 : reachBytes ≤ 140737488355328 := by decide
    obtain ⟨l, hl, hf, hc⟩ := gather W a len (fun i hi => by
      have h1 := hel i hi
      rw [cells3] at h1
      have hie : elems[i]? = some elems[i] := List.getElem?_eq_getElem (by omega)
      rw [hie] at h1
      obtain ⟨cs', hcs, htr⟩ := Option.bind_eq_some_iff.1 h1
      obtain ⟨_, hcl, hat⟩ := World.cells?_some hcs
      obtain ⟨y, rfl, hy⟩ := open_version htr
      refine ⟨y, hy, fun r u hr => ?_⟩
      have hr3 : r < 3 := by have := (List.getElem?_eq_some_iff.1 hr).1; simpa [V.cells] using this
      have := hat r hr3
      rw [Go.Deep.add_add] at this
      rw [this, hr])
    subst hl
    refine ⟨l, some a, cap, rfl, ⟨hlc, by omega, (fun e => by cases e), fun j u hj => ?_, hf⟩, ?_⟩
    · have hpos : 0 < (cellsV l).length := by have := (List.getElem?_eq_some_iff.1 hj).1; omega
      have h0 := hc 0 (cellsV l)[0] (List.getElem?_eq_getElem hpos)
      rw [show a.add 0 = a by simp [Addr.add]] at h0
      obtain ⟨b, off, rfl⟩ := plain_of_cell h0
      refine ⟨b, off, rfl, World.block_lt_of_cell? W _ h0, ?_⟩
      have := hc j u hj
      rwa [base.add_plain] at this
    · have hb := bulk_len (elems.map (·.1))
      simp only [List.length_map] at hb
      simp only [Rows.uptoBulk]
      omega

set_option maxRecDepth 100000 in
theorem open_ecellsB {m : Nat} {cs : List Value} {x : DataW H × List MemPlace} (h : DataW.trod enc Try.prog W 0 (fun _ => true) true m 26 cs = some x) (hw : (x.1.weights Try.prog 26).all (· ≤ reachBytes) = true) :
    ∃ y : E, cs = y.cells ∧ (Vs W W.heap.size y.l y.A y.c ∧ y.s.size ≤ maxLen) ∧ 1 + 2 * y.l.length ≤ 2 * Rows.uptoBulk x.1 := by
  obtain ⟨ys, n, hn, hx, hlen, hyl, hf⟩ := DataW.trod_struct Try.underlying26 h
  rw [cells2] at hlen
  match cs, hlen, ys, hyl with
  | [c0, c1], _, [y0, y1], _ =>
    have k9 : Try.prog.cellsOf 9 = 1 := by kernel_rfl
    have k24 : Try.prog.cellsOf 24 = 1 := by kernel_rfl
    have f0 : DataW.trod enc Try.prog W 0 (fun _ => true) true n 9 (List.take (Try.prog.cellsOf 9) (List.drop 0 [c0, c1])) = some y0 := hf 0 _ rfl
    have f1 : DataW.trod enc Try.prog W 0 (fun _ => true) true n 24 (List.take (Try.prog.cellsOf 24) (List.drop 1 [c0, c1])) = some y1 := hf 1 _ rfl
    rw [k9] at f0
    rw [k24] at f1
    obtain ⟨s, e0, _, w0⟩ := DataW.trod_string Try.underlying9 f0
    obtain ⟨l, A, c, e1, hV, hbl⟩ := open_vsB f1 (by
      rw [List.all_eq_true]
      intro n hn
      have : n ∈ x.1.weights Try.prog 26 := by
        rw [hx]
        simp only [DataW.weights, Try.underlying26, DataW.weightsEach, List.map_cons, List.mem_append]
        exact .inr (.inl hn)
      simpa using all_mem hw this)
    simp at e0 e1
    subst e0 e1
    refine ⟨⟨s, l, A, c⟩, rfl, ⟨hV, w0⟩, ?_⟩
    rw [hx]
    show 1 + 2 * l.length ≤ _
    simp only [List.map_cons, List.map_nil, Rows.uptoBulk, Rows.uptoBulkAll]
    omega

set_option maxRecDepth 100000 in
theorem open_es {m : Nat} {cs : List Value} {x : DataW H × List MemPlace} (h : DataW.trod enc Try.prog W 0 (fun _ => true) true m 44 cs = some x) (hw : (x.1.weights Try.prog 44).all (· ≤ reachBytes) = true) :
    ∃ (l : List E) (A : Option Addr) (c : Nat), cs = [.slice A l.length c] ∧ Es W W.heap.size l A c ∧ (allE l).length ≤ 2 * Rows.uptoBulk x.1 := by
  rcases DataW.trod_slice Try.underlying44 h with ⟨rfl, _⟩ | ⟨a, len, cap, elems, rest, n, hn, rfl, rfl, _, hlc, hcm, hlen, hel, hsp, _⟩
  · exact ⟨[], none, 0, rfl, ⟨Nat.le_refl _, by simp, (fun _ => rfl), Rd.nil _ _ _, fun x hx => by cases hx⟩, Nat.zero_le _⟩
  · have hrest := (hsp rfl).1
    have bytesE : Try.prog.bytesOf 26 = 40 := by kernel_rfl
    have hcap : cap * 40 ≤ reachBytes := by
      refine all_mem hw ?_
      simp only [DataW.weights, Try.underlying44, bytesE, List.length_map]
      rw [show elems.length + rest.length = cap by omega]
      exact List.mem_cons_self
    have hr47 : reachBytes ≤ 140737488355328 := by decide
    obtain ⟨l, hl, hf, hsz, hc⟩ := gatherE W a (elems.map (·.1)) len (by simp; omega) (fun i hi => by
      have h1 := hel i hi
      rw [cells2] at h1
      have hie : elems[i]? = some elems[i] := List.getElem?_eq_getElem (by omega)
      rw [hie] at h1
      obtain ⟨cs', hcs, htr⟩ := Option.bind_eq_some_iff.1 h1
      obtain ⟨_, hcl, hat⟩ := World.cells?_some hcs
      obtain ⟨y, rfl, hy, hyb⟩ := open_ecellsB htr (by
        rw [List.all_eq_true]
        intro n hn
        have : n ∈ DataW.weights Try.prog 44 (DataW.slice (elems.map (·.1)) (rest.map (·.1))) := by
          simp only [DataW.weights, Try.underlying44, List.mem_cons, List.mem_append]
          exact .inr (.inl (weightsAll_mem (List.mem_map_of_mem (List.getElem_mem (by omega))) n hn))
        simpa using all_mem hw this)
      refine ⟨y, hy, fun d hd => by
        rw [List.getElem?_map, hie] at hd
        simp at hd
        rw [← hd]; exact hyb, fun r u hr => ?_⟩
      have hr2 : r < 2 := by have := (List.getElem?_eq_some_iff.1 hr).1; simpa [E.cells] using this
      have := hat r hr2
      rw [Go.Deep.add_add] at this
      rw [this, hr])
    subst hl
    refine ⟨l, some a, cap, rfl, ⟨hlc, by omega, (fun e => by cases e), fun j u hj => ?_, hf⟩, ?_⟩
    · have hpos : 0 < (cellsE l).length := by have := (List.getElem?_eq_some_iff.1 hj).1; omega
      have h0 := hc 0 (cellsE l)[0] (List.getElem?_eq_getElem hpos)
      rw [show a.add 0 = a by simp [Addr.add]] at h0
      obtain ⟨b, off, rfl⟩ := plain_of_cell h0
      refine ⟨b, off, rfl, World.block_lt_of_cell? W _ h0, ?_⟩
      have := hc j u hj
      rwa [base.add_plain] at this
    · have hb := bulk_append ((elems.map (·.1)).take l.length) ((elems.map (·.1)).drop l.length)
      rw [List.take_append_drop] at hb
      simp only [Rows.uptoBulk]
      omega

set_option maxRecDepth 100000 in
/-- a list of secrets that came in -/
theorem open_entries {r : Reach} {b0 : Nat} {v : Value} {d : DataW H} {p : List MemPlace} (hv : Value.okWide Try.prog W r b0 44 v) (h : DataW.Trod enc Try.prog W 0 (fun _ => true) true 44 v d p)
    (hw : (d.weights Try.prog 44).all (· ≤ reachBytes) = true) : ∃ (l : List E) (A : Option Addr) (c : Nat), v = .slice A l.length c ∧ Es W W.heap.size l A c ∧ (allE l).length ≤ 2 * Rows.uptoBulk d := by
  obtain ⟨a, len, cap, rfl⟩ := okWide_slice Try.underlying44 hv
  obtain ⟨m, hm⟩ := h
  obtain ⟨l, A, c, hcs, h1, h2⟩ := open_es hm hw
  simp [Value.cells] at hcs
  obtain ⟨rfl, rfl, rfl⟩ := hcs
  exact ⟨l, a, cap, rfl, h1, h2⟩
end
end Go.Proofs.Ytolngibmfffjcaa.vers
