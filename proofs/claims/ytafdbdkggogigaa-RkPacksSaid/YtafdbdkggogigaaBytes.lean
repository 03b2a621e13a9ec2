/- What all walks of this seat stand on: the program, words for memory, the laws of bits. No condition. -/
import Derived.Test.YtafdbdkggogigaaProg
import Derived.Test.YtafdbdkggogigaaMem
import Derived.Laws.BitsAllLaws
import Derived.Laws.BitsLemmas
namespace Go.Proofs.Ytafdbdkggogigaa
end Go.Proofs.Ytafdbdkggogigaa
