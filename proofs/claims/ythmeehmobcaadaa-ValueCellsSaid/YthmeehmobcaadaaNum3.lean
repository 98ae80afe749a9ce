/- Contracts of num.Parse. -/
import Derived.Test.YthmeehmobcaadaaNum2
import Derived.Lib.Strings
import Derived.Lib.IndexBytes
namespace Go.Proofs.Ythmeehmobcaadaa.Nu
open Go.RowKit Go.ChangeShapes Go.WideShapes Go.ChangeAt

end Go.Proofs.Ythmeehmobcaadaa.Nu
