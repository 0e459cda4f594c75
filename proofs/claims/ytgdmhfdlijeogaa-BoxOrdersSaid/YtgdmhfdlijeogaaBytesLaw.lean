/- The walk of the law TermBytes: it answers true and writes nothing that was there. -/
import Derived.Test.YtgdmhfdlijeogaaRefEnc
namespace Go.Proofs.Ytgdmhfdlijeogaa.refEncs
set_option linter.unusedVariables false
set_option linter.unusedSimpArgs false
open Go.RowKit Go.Proofs.Ytgdmhfdlijeogaa.base Go.Proofs.Ytgdmhfdlijeogaa.tm Go.Proofs.Ytgdmhfdlijeogaa.bytes Go.Proofs.Ytgdmhfdlijeogaa.lies Go.Proofs.Ytgdmhfdlijeogaa.rights Go.Proofs.Ytgdmhfdlijeogaa.encs

end Go.Proofs.Ytgdmhfdlijeogaa.refEncs
