/- RunsTakes' walk. -/
import Derived.Test.YtllkfmnofklpmaaRnAwake
import Derived.Test.YtllkfmnofklpmaaBase3
namespace Go.Proofs.Ytllkfmnofklpmaa
open Go.RowKit

theorem xleft_x (b : Nat) (o : Option Nat) (xs : List Nat) (p : Nat) (w : World) (h : Xr w b o (bitsB xs) p) :
    Calls Try.prog 23 #[.pointer (some ⟨b, 0, none⟩)] w fun e w' => e = .returned (.int .i64 ((8 * xs.length - p : Nat) : Int)) ∧ Chg (fun _ => False) w w' := by
  have := xleft_any b o (bitsB xs) p w h
  rwa [bitsB_length] at this

end Go.Proofs.Ytllkfmnofklpmaa
