/- BookQuota's walk, whatever the quota is. -/
import Derived.Test.YtnhfpbllgjhcdaaBkW


namespace Go.Proofs.Ytnhfpbllgjhcdaa.books
set_option linter.unusedVariables false
set_option linter.unusedSimpArgs false
open Go.RowKit Go.Proofs.Ytnhfpbllgjhcdaa.base Go.Proofs.Ytnhfpbllgjhcdaa.quotas Go.Proofs.Ytnhfpbllgjhcdaa.vers

theorem law_quota (q : Qt) (bs : List BL) (A : Option Addr) (c : Nat) (o : O) (w : World) (hB : Bs w w.heap.size bs A c) (ho : o.fits) :
    Calls Try.prog 5 #[.agg #[.int .i64 q.a, .int .i64 q.b, .int .i64 q.c, .int .i64 q.d, .int .i64 q.e, .int .i64 q.f, .int .i64 q.h], .slice A bs.length c, .agg #[.int .i64 o.k, .string o.s, .string o.v, .string o.t]] w fun e w' => e = .returned (.bool true) ∧ Below w.heap.size w w' := by
  by_cases hk : q.ok
  · exact quota_ok q bs A c o w hk hB ho
  · exact quota_no q bs A c o w hk
end Go.Proofs.Ytnhfpbllgjhcdaa.books
