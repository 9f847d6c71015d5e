/- A part of the proof. -/
import Derived.Test.YtepgopnnaeoolaaGreatDoorJ2
namespace Go.Proofs.YtepgopnnaeoolaaGreatDoor
open Go.RowKit
def digit (n:Nat):ByteArray:=⟨#[(48+n).toUInt8]⟩
theorem digit_size (n:Nat):(digit n).size=1:=rfl
theorem rune_int (n:Nat) (hn:n<4) (w:World):(convert 3 21 (.int .i64 (48+(n:Int)))).run Tryz.prog w=.ok (.int .i32 (48+(n:Int))) w:=by
 have e:IntKind.i32.wrap (48+(n:Int))=48+(n:Int):=by
  rcases(show n=0∨n=1∨n=2∨n=3 by omega) with rfl|rfl|rfl|rfl <;> decide
 simp[convert,run_underlying Tryz.underlying3,run_underlying Tryz.underlying21,Conv.intToInt,e]
theorem rune_str (n:Nat) (hn:n<4) (w:World):(convert 21 9 (.int .i32 (48+(n:Int)))).run Tryz.prog w=.ok (.string (digit n)) w:=by
 rcases(show n=0∨n=1∨n=2∨n=3 by omega) with rfl|rfl|rfl|rfl <;> simp[convert,run_underlying Tryz.underlying21,run_underlying Tryz.underlying9,digit] <;> rfl
end Go.Proofs.YtepgopnnaeoolaaGreatDoor
