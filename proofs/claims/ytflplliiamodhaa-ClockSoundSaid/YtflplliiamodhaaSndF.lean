/- ClockSound, for every input. -/
import Derived.Test.YtflplliiamodhaaSndW
import Derived.Test.YtflplliiamodhaaQuads
import Derived.Test.YtflplliiamodhaaPairs
namespace Go.Proofs.Ytflplliiamodhaa
open Go.RowKit
theorem clksound_any (r : Int) (x y : Option Addr) (xc yc : Nat) (l : List (Int × Int)) (T : List Sm) (w : World) (hx : PairRow w x l) (hn : x = none → xc = 0) (hc : l.length ≤ xc) (hy : QuadRow w y T) :
    Calls Try.prog 4 #[.int .i64 r, .slice x l.length xc, .slice y T.length yc] w fun e w' => e = .returned (.bool true) ∧ Below w.heap.size w w' := by
  by_cases h : (30 : Int) < (l.length : Int)
  · exact snd_out1 r x y l.length xc T.length yc w h
  · by_cases h' : (30 : Int) < (T.length : Int)
    · exact snd_out2 r x y l.length xc T.length yc w h h'
    · have hxn : x = none → l = [] := fun e => List.eq_nil_of_length_eq_zero (by have := hn e; omega)
      have C : Hid (∀ W, Below w.heap.size w W → Calls Try.prog 21 #[.int .i64 r, .slice x l.length xc] W (Gives (.bool (hon r l)) W)) := Lib.hid fun W hb => honest_any x xc l r W (hx.below hb) hxn (by omega)
      cases hh : hon r l
      · rw [hh] at C
        exact snd_out3 r x y l.length xc T.length yc w h h' C
      · rw [hh] at C
        obtain ⟨⟨h1, h2⟩, hs, ho⟩ := hon_iff.1 hh
        exact snd_any2 r x y xc yc l T w hx hy (by omega) (by omega) h1 h2 ho (sound_iff.1 hs) C
end Go.Proofs.Ytflplliiamodhaa
