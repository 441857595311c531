/-
  The mutex in this dump: its numbers, and that the dump holds it; no call is walked here.
-/
import Derived.Test.YthfimgeopciiiaaGreatProg
import Derived.Conc.MuLone
import Derived.KernelRfl
namespace Go.Proofs
abbrev Tryz.muLink : Go.Conc.Locks.MuLink := { lock := 48, unlock := 49, ilock := 83, iunlock := 84, lockSlow := 137, unlockSlow := 140, disable := 133, enable := 135, acquire := 136, relMerge := 138, cas32 := 134, add32 := 139, tMutex := 127, tIMutex := 125, tPMutex := 164, tPIMutex := 217, tPI32 := 219, tUP := 221, tNoCopy := 122, tU32 := 123 }
theorem Tryz.muLib : Go.Conc.Locks.MuLib Tryz.prog Tryz.muLink where
  f_lock := Tryz.func48.trans (congrArg some (by kernel_rfl))
  f_unlock := Tryz.func49.trans (congrArg some (by kernel_rfl))
  f_ilock := Tryz.func83.trans (congrArg some (by kernel_rfl))
  f_iunlock := Tryz.func84.trans (congrArg some (by kernel_rfl))
  f_disable := Tryz.func133.trans (congrArg some (by kernel_rfl))
  f_enable := Tryz.func135.trans (congrArg some (by kernel_rfl))
  f_acquire := Tryz.func136.trans (congrArg some (by kernel_rfl))
  f_relMerge := Tryz.func138.trans (congrArg some (by kernel_rfl))
  f_cas32 := Tryz.func134.trans (congrArg some (by kernel_rfl))
  f_add32 := Tryz.func139.trans (congrArg some (by kernel_rfl))
  underlying_tIMutex := by kernel_rfl
  runUnderlying_tIMutex := fun _ => by kernel_rfl
  sizeOf_tIMutex := fun _ => by kernel_rfl
  isAgg_tIMutex := fun _ => by kernel_rfl
  zeroValue_tIMutex := fun _ => by kernel_rfl
  underlying_tMutex := by kernel_rfl
  runUnderlying_tMutex := fun _ => by kernel_rfl
  sizeOf_tMutex := fun _ => by kernel_rfl
  isAgg_tMutex := fun _ => by kernel_rfl
  zeroValue_tMutex := fun _ => by kernel_rfl
  underlying_tPMutex := by kernel_rfl
  runUnderlying_tPMutex := fun _ => by kernel_rfl
  sizeOf_tPMutex := fun _ => by kernel_rfl
  isAgg_tPMutex := fun _ => by kernel_rfl
  zeroValue_tPMutex := fun _ => by kernel_rfl
  underlying_tPIMutex := by kernel_rfl
  runUnderlying_tPIMutex := fun _ => by kernel_rfl
  sizeOf_tPIMutex := fun _ => by kernel_rfl
  isAgg_tPIMutex := fun _ => by kernel_rfl
  zeroValue_tPIMutex := fun _ => by kernel_rfl
  underlying_tPI32 := by kernel_rfl
  runUnderlying_tPI32 := fun _ => by kernel_rfl
  sizeOf_tPI32 := fun _ => by kernel_rfl
  isAgg_tPI32 := fun _ => by kernel_rfl
  zeroValue_tPI32 := fun _ => by kernel_rfl
  underlying_tUP := by kernel_rfl
  runUnderlying_tUP := fun _ => by kernel_rfl
  sizeOf_tUP := fun _ => by kernel_rfl
  isAgg_tUP := fun _ => by kernel_rfl
  zeroValue_tUP := fun _ => by kernel_rfl
  underlying_tNoCopy := by kernel_rfl
  runUnderlying_tNoCopy := fun _ => by kernel_rfl
  sizeOf_tNoCopy := fun _ => by kernel_rfl
  isAgg_tNoCopy := fun _ => by kernel_rfl
  zeroValue_tNoCopy := fun _ => by kernel_rfl
  underlying_t21 := by kernel_rfl
  runUnderlying_t21 := fun _ => by kernel_rfl
  sizeOf_t21 := fun _ => by kernel_rfl
  isAgg_t21 := fun _ => by kernel_rfl
  zeroValue_t21 := fun _ => by kernel_rfl
  room_tIMutex := by kernel_rfl
end Go.Proofs
