/- add of the document: what is too long. -/
import Derived.Test.YtanfjnahdnafnaaVerF


namespace Go.Proofs.Ytanfjnahdnafnaa.vers
set_option linter.unusedVariables false
set_option linter.unusedSimpArgs false
open Go.RowKit Go.Proofs.Ytanfjnahdnafnaa.base Go.Proofs.Ytanfjnahdnafnaa.quotas

end Go.Proofs.Ytanfjnahdnafnaa.vers
