import Derived.Test.YtahfdglbbdacjaaQLaw
import Derived.Test.YtahfdglbbdacjaaQPlyD

/-
  What is known of 'played', of scripts without SYNC and CRASH.
-/
namespace Go.Proofs.Ytahfdglbbdacjaa

theorem played_nj : ∀ s, NoJournal s → PlayedIs s := fun s hs dv sv d w hd hok h hl hcr => played_steady dv sv d s w hd hok h hl hcr hs

end Go.Proofs.Ytahfdglbbdacjaa
