/-
  The walk of skeinlaw04.KeysOrder: some of its cases.
-/
import Derived.Test.YtbmjiheclagfiaaW3a
import Derived.Test.YtbmjiheclagfiaaW3b
import Derived.Test.YtbmjiheclagfiaaW3c
namespace Go.Proofs.Ytbmjiheclagfiaa
open Go.RowKit
set_option linter.unusedVariables false

theorem keysOrder_walk (e0 : Bool) (n0 : Int) (e1 : Bool) (n1 : Int) (v : Value) (k : List Nat) (u : Value) (l : List Nat) (s t : Int) (w : World) (hv : RB w w.heap.size v k) (hk : k.length ≤ 1048576) (hu : RB w w.heap.size u l) (hl : l.length ≤ 1048576) (hs : (Lit.int .i64 s).wf = true) (ht : (Lit.int .i64 t).wf = true) :
    Calls Try.prog 7 #[refV e0 n0, refV e1 n1, v, u, .int .i64 s, .int .i64 t] w fun e w' => e = .returned (.bool true) ∧ Below w.heap.size w w' := by
  cases hA : idB n0 with
  | false => exact keysOrder_no e0 n0 e1 n1 v k u l s t w hv hk hu hl hs ht hA
  | true =>
    cases hB : idB n1 with
    | false => exact keysOrder_yesno e0 n0 e1 n1 v k u l s t w hv hk hu hl hs ht hA hB
    | true =>
      by_cases hm : n0 < n1
      · cases e0 <;> cases e1
        · exact keysOrder_ffl n0 n1 v k u l s t w hv hk hu hl hs ht hA hB hm
        · exact keysOrder_ft n0 n1 v k u l s t w hv hk hu hl hs ht hA hB
        · exact keysOrder_tf n0 n1 v k u l s t w hv hk hu hl hs ht hA hB
        · exact keysOrder_ttl n0 n1 v k u l s t w hv hk hu hl hs ht hA hB hm
      · cases e0 <;> cases e1
        · exact keysOrder_ffg n0 n1 v k u l s t w hv hk hu hl hs ht hA hB hm
        · exact keysOrder_ft n0 n1 v k u l s t w hv hk hu hl hs ht hA hB
        · exact keysOrder_tf n0 n1 v k u l s t w hv hk hu hl hs ht hA hB
        · exact keysOrder_ttg n0 n1 v k u l s t w hv hk hu hl hs ht hA hB hm
end Go.Proofs.Ytbmjiheclagfiaa
