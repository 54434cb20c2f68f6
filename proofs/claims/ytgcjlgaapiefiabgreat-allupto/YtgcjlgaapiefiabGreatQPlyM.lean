import Derived.Test.YtgcjlgaapiefiabGreatQRun
import Derived.Test.YtgcjlgaapiefiabGreatQPly

/-
  What is known of 'played', of every script.
-/
namespace Go.Proofs.YtgcjlgaapiefiabGreat

theorem played_all : ∀ s, PlayedIs s := fun s dv sv d w hd hok h hl hcr => played_any dv sv d s w hd hok h hl hcr

end Go.Proofs.YtgcjlgaapiefiabGreat
