import Derived.Test.YtmnajomkfnkmeaaGreatDoorPow
import Derived.LaidEql
import Derived.Stop.Asserts
import Derived.RowKitTokens
namespace Go.Proofs.YtmnajomkfnkmeaaGreatDoor
open Go.RowKit Go.Extern.Stop Go.Stop Go.Extern
theorem isTypeOf (v : Value) (w : World) : (Extern.ReflectliteType.typeOf #[.iface 305 v]).run Tryz.prog w = .ok (.iface 239 (.agg #[.pointer (some ⟨10, 305, none⟩)])) w := by kernel_rfl
theorem isComparable (w : World) : (callFunc 271 #[.agg #[.pointer (some ⟨10, 305, none⟩)]]).run Tryz.prog w = .ok (.value (.bool true)) w := by
 have h32 := @run_callFunc_extern Tryz.prog 271 _ (Extern.ReflectliteType.method fun t => do Extern.Rtype.noPackHeld "Comparable" t; pure (.bool (← typeInfo t).comparable)) Tryz.func271 (by kernel_rfl) (by kernel_rfl) (by kernel_rfl) (by kernel_rfl)
 rw [h32, show (Sem.run Tryz.prog ((Extern.ReflectliteType.method fun t => do Extern.Rtype.noPackHeld "Comparable" t; pure (.bool (← typeInfo t).comparable)) #[.agg #[.pointer (some ⟨10, 305, none⟩)]]) w) = .ok (.bool true) w by kernel_rfl]
 rfl
theorem isMethodComparable (v : Value) (w : World) : (Go.method 440 239 v "Comparable").run Tryz.prog w = .ok (271, v) w := by kernel_rfl
theorem isComp : (Tryz.prog.info? 305).map (·.comparable) = some true := by kernel_rfl
theorem isSize : (Tryz.prog.info? 330).map (·.size) = some 1 := by kernel_rfl
theorem noIsE (v : Value) (xT : TypeId) (w : World) : (Instr.typeAssert (.iface 305 v) xT 241 true).run Tryz.prog w = .ok (.tuple #[.nilIface, .bool false]) w := run_typeAssert_lacksB Tryz.underlying241 (by kernel_rfl) (by kernel_rfl) v xT w
theorem noUnwrapE (v : Value) (xT : TypeId) (w : World) : (Instr.typeAssert (.iface 305 v) xT 244 true).run Tryz.prog w = .ok (.tuple #[.nilIface, .bool false]) w := run_typeAssert_lacksB Tryz.underlying244 (by kernel_rfl) (by kernel_rfl) v xT w
theorem noUnwrapsE (v : Value) (xT : TypeId) (w : World) : (Instr.typeAssert (.iface 305 v) xT 245 true).run Tryz.prog w = .ok (.tuple #[.nilIface, .bool false]) w := run_typeAssert_lacksB Tryz.underlying245 (by kernel_rfl) (by kernel_rfl) v xT w
theorem is_same (a : Addr) (w : World) :
  Calls Tryz.prog 117 #[errV a, errV a] w fun e w' => e = .returned (.bool true) ∧ w' = w := by
 obtain ⟨i, hi, hcmp⟩ := Option.map_eq_some_iff.1 isComp;obtain ⟨j, hj, hjs⟩ := Option.map_eq_some_iff.1 isSize;have h8 := @run_callFunc_extern Tryz.prog 158 _ Extern.ReflectliteType.typeOf Tryz.func158 (by kernel_rfl) (by kernel_rfl) (by kernel_rfl) (by kernel_rfl);have tT := isTypeOf;have cT := isComparable;have mR := isMethodComparable;have heq := run_eql_iface_ptr_same (P := Tryz.prog) w a Tryz.underlying80 Tryz.underlying305 hi hcmp hj;unfold errV;go_enter Tryz.func117, Tryz.ntmps117;go_wp2;refine wp_loop_rounds 1 ?_;rw [rounds_succ];go_wp2;go_ret;exact ⟨rfl, rfl⟩
theorem is_other (a b : Addr) (ca cb : Array Value) (ta tb : TypeId) (w : World) (hne : a ≠ b) (ha : w.heap[a.block]? = some (.cells ca ta (0, 0))) (hb : w.heap[b.block]? = some (.cells cb tb (0, 0))) :
  Calls Tryz.prog 117 #[errV a, errV b] w fun e w' => e = .returned (.bool false) ∧ w' = w := by
 obtain ⟨i, hi, hcmp⟩ := Option.map_eq_some_iff.1 isComp;obtain ⟨j, hj, hjs⟩ := Option.map_eq_some_iff.1 isSize;have h8 := @run_callFunc_extern Tryz.prog 158 _ Extern.ReflectliteType.typeOf Tryz.func158 (by kernel_rfl) (by kernel_rfl) (by kernel_rfl) (by kernel_rfl);have tT := isTypeOf;have cT := isComparable;have mR := isMethodComparable;have nE := noIsE;have uE := noUnwrapE;have vE := noUnwrapsE;have heq := run_eql_iface_ptr_other (P := Tryz.prog) w Tryz.underlying80 Tryz.underlying305 hi hcmp hj (by rw [hjs]; decide) hne ha hb;unfold errV;go_enter Tryz.func117, Tryz.ntmps117;go_wp2;refine wp_loop_rounds 1 ?_;rw [rounds_succ];go_wp2;go_ret;exact ⟨rfl, rfl⟩
end Go.Proofs.YtmnajomkfnkmeaaGreatDoor
