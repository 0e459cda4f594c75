/- What package entry's copied answers: a list of the call's own. -/
import Derived.Test.YtolngibmfffjcaaVerT
import Derived.Laws.CopyOwn


namespace Go.Proofs.Ytolngibmfffjcaa.vers
set_option linter.unusedVariables false
set_option linter.unusedSimpArgs false
open Go.RowKit Go.Proofs.Ytolngibmfffjcaa.base Go.Proofs.Ytolngibmfffjcaa.quotas

/-- copy between rows whose elements have k cells each -/
theorem run_copy_many {P : Program} (w : World) (dT sT ty elem : TypeId) (g o dLen dCap : Nat) (a : Addr) (sLen sCap k : Nat) (cur : Array Value) (t : TypeId) (cs : List Value)
    (hu : P.underlying dT = some (.slice elem)) (hs : (P.info? elem).map (·.size) = some k)
    (hg : w.heap[g]? = some (.cells cur t (0, 0))) (hn : cs.length = Nat.min sLen dLen * k)
    (hsrc : ∀ j v, cs[j]? = some v → w.cell? (a.add j) = some v) (hfit : o + cs.length ≤ cur.size) (h1 : ∀ v ∈ cs, v.oneCell' = true) :
    (Builtin.copy_ #[dT, sT] ty #[.slice (some ⟨g, o, none⟩) dLen dCap, .slice (some a) sLen sCap]).run P w =
      .ok (goInt (Nat.min sLen dLen)) (w.setRow g (cur.toList.take o ++ cs ++ cur.toList.drop (o + cs.length)).toArray) := by
  have hl := run_loadCells_list (P := P) w a cs hsrc
  have hst := run_storeCells_at P g o t cs 0 cur w hg (by simpa using hfit) h1
  cases hq : P.info? elem with
  | none => simp [hq] at hs
  | some i =>
    have hi : i.size = k := by simpa [hq] using hs
    simp [Builtin.copy_, run_underlying hu, Builtin.lenOf, Builtin.firstCells, sizeOf, typeInfo, hq, hi, ← hn, hl, hst]

theorem sizeV : (Try.prog.info? 39).map (·.size) = some 3 := by kernel_rfl

/-- copy of versions that lie anywhere into a row of the call's own that has just their size -/
theorem wpList_copy_vs {ops : Array Oper} {rest : List Oper} {o : Oper} {a : Act} {Q : Exit → Act → World → Prop} {w : World} (hgd : o.guard = none) (d s : Operand)
    (ho : o.op = .call { callee := .builtin .copy, args := #[d, s], argTypes := #[24, 24] })
    {B g n : Nat} {l : List V} {cur : Array Value} (hd : a.eval d = .slice (some ⟨g, 0, none⟩) n n) (hg : Blk w g 39 cur) (hcs : cur.size = n * 3) {A : Option Addr} {c : Nat} (hx : a.eval s = .slice A n c) (hn : n = l.length) (hv : Vs w B l A c)
    (h : ∀ w', Blk w' g 39 (cellsV l).toArray → Below g w w' → wpList Try.prog ops Q rest (a.put o.dst (goInt n)) w') : wpList Try.prog ops Q (o :: rest) a w := by
  subst hn
  refine wpList_plain hgd fun K hK => ?_
  cases A with
  | none =>
    obtain rfl := hv.2.2.1 rfl
    obtain rfl := List.eq_nil_of_length_eq_zero (Nat.le_zero.1 hv.1)
    have hrun := run_copy_nil (P := Try.prog) w 24 24 o.type 39 ⟨g, 0, none⟩ 0 0 Try.underlying24 (by rw [sizeV]; rfl)
    have hd' : a.eval d = .slice (some ⟨g, 0, none⟩) 0 0 := hd
    have hx' : a.eval s = .slice none 0 0 := hx
    unfold Oper.wp
    simp [execOp, ho, resolve, invoke, builtin, hd', hx', hrun, Result.andThen]
    refine hK _ _ (h w ?_ ⟨rfl, rfl, rfl, Nat.le_refl _, fun _ _ => rfl⟩)
    have e : cur = #[] := by
      apply Array.eq_empty_of_size_eq_zero
      simpa using hcs
    rwa [e] at hg
  | some ad =>
    have hlen : (cellsV l).length = l.length * 3 := by rw [cellsV_len]; omega
    have hrun := run_copy_many (P := Try.prog) w 24 24 o.type 39 g 0 l.length l.length ad l.length c 3 cur 39 (cellsV l) Try.underlying24 sizeV hg (by rw [hlen, show Nat.min l.length l.length = l.length from Nat.min_self _])
      (fun j u hj => by
        obtain ⟨b, off, e, hb, hc⟩ := hv.2.2.2.1 j u hj
        cases e
        rw [add_plain]
        exact hc) (by rw [hlen, hcs]; omega) (cellsV_one l)
    unfold Oper.wp execOp
    simp only [ho, resolve, invoke, builtin, Sem.run_bind, Sem.run_pure, Result.andThen_ok, List.map_toArray, List.map_cons, List.map_nil, hd, hx, hrun, show Nat.min l.length l.length = l.length from Nat.min_self _]
    refine hK _ _ (h _ ?_ (below_setRow ⟨rfl, rfl, rfl, Nat.le_refl _, fun _ _ => rfl⟩ (Nat.le_refl _) _))
    have e : (cur.toList.take 0 ++ cellsV l ++ cur.toList.drop (0 + (cellsV l).length)) = cellsV l := by
      rw [List.take_zero, List.nil_append, List.drop_of_length_le (by rw [Array.length_toList, hcs, hlen]; omega), List.append_nil]
    rw [e]
    exact setRow_heap w g cur _ _ _ hg

set_option maxRecDepth 100000 in
set_option maxHeartbeats 400000 in
theorem copied_any (l : List V) (A : Option Addr) (c : Nat) (B : Nat) (w : World) (hv : Vs w B l A c) (hB : B ≤ w.heap.size) :
    Calls Try.prog 39 #[.slice A l.length c] w fun x w' => x = .returned (.slice (some ⟨w.heap.size, 0, none⟩) l.length l.length) ∧ OwnV w.heap.size w' l (.slice (some ⟨w.heap.size, 0, none⟩) l.length l.length) ∧ Below w.heap.size w w' := by
  have hlen : l.length ≤ 140737488355328 := by have h2 := hv.2.1; omega
  have hby := hv.2.1
  obtain ⟨i0, hi, hz0, hz1, hz2⟩ := info_parts infoV
  have hmk : ∀ u : World, (Instr.makeSlice 24 (.int .i64 (l.length : Int)) (.int .i64 (l.length : Int))).run Try.prog u =
      .ok (.slice (some ⟨u.heap.size, 0, none⟩) l.length l.length) (u.alloc (.cells (madeCells (Value.agg #[.int .i64 0, .string ⟨#[]⟩, .string ⟨#[]⟩]).cells (l.length * 3)) 39)) := fun u => by
    have h := run_make (P := Try.prog) u 24 39 i0 _ Try.underlying24 hi hz0 .i64 .i64 (l.length : Int) (l.length : Int) (by omega) (Int.le_refl _) (by rw [hz2]; omega) (by omega)
    simpa [hz1] using h
  have hb0 : Below w.heap.size w (w.alloc (.cells (madeCells (Value.agg #[.int .i64 0, .string ⟨#[]⟩, .string ⟨#[]⟩]).cells (l.length * 3)) 39)) := (Below.refl _ _).alloc (Nat.le_refl _) _
  have hv1 := hv.below (hb0.mono hB)
  have hnew := Blk.new w 39 (madeCells (Value.agg #[.int .i64 0, .string ⟨#[]⟩, .string ⟨#[]⟩]).cells (l.length * 3))
  have hsz : (madeCells (Value.agg #[.int .i64 0, .string ⟨#[]⟩, .string ⟨#[]⟩]).cells (l.length * 3)).size = l.length * 3 := size_madeCells _ _
  generalize madeCells (Value.agg #[.int .i64 0, .string ⟨#[]⟩, .string ⟨#[]⟩]).cells (l.length * 3) = cur at hmk hb0 hv1 hnew hsz
  go_enter Try.func39, Try.ntmps39
  go_wp2_with (first
    | (refine wpList_copy_vs rfl (.tmp 7) (.tmp 8) rfl rfl hnew hsz rfl rfl hv1 ?_))
  intro w2 HG hB2
  have HG' := lay HG
  clear HG
  go_wp2_with fail
  go_ret
  have hlt := Blk.lt HG'.out
  refine ⟨rfl, ⟨⟨by rw [cellsV_len]; omega, .inr ⟨w.heap.size, l.length, (cellsV l).toArray, rfl, Nat.le_refl _, HG'.out, Nat.le_refl _, by unfold maxLen; omega, by simp [cellsV_len]; omega, ?_⟩⟩, hby, hv.2.2.2.2⟩, hb0.trans hB2⟩
  rw [List.toList_toArray, List.take_of_length_le (by rw [cellsV_len]; omega)]
end Go.Proofs.Ytolngibmfffjcaa.vers
