/- Layer 9: the reference's Roman numerals. -/
import Derived.Test.YteahingapnijcaaDoorA3
namespace Go.Proofs.YteahingapnijcaaDoor
open Go.RowKit Go.Lib Go.Shelf Nu9

def rtabA : Array (List UInt8 × Nat) := rtab.toArray
def rvals : Array Value := #[.int .i64 1000, .int .i64 900, .int .i64 500, .int .i64 400, .int .i64 100, .int .i64 90, .int .i64 50, .int .i64 40, .int .i64 10, .int .i64 9, .int .i64 5, .int .i64 4, .int .i64 1]
def rstrs : Array Value := #[.string ⟨#[109]⟩, .string ⟨#[99, 109]⟩, .string ⟨#[100]⟩, .string ⟨#[99, 100]⟩, .string ⟨#[99]⟩, .string ⟨#[120, 99]⟩, .string ⟨#[108]⟩, .string ⟨#[120, 108]⟩, .string ⟨#[120]⟩, .string ⟨#[105, 120]⟩, .string ⟨#[118]⟩, .string ⟨#[105, 118]⟩, .string ⟨#[105]⟩]
theorem rtab_len : rtab.length = 13 := rfl
theorem rval_at (j : Nat) (h : j < 13) : rvals[j]? = some (.int .i64 ((rtab[j]'(by rw [rtab_len]; exact h)).2 : Int)) := by
  match j, h with
  | 0, _ => rfl
  | 1, _ => rfl
  | 2, _ => rfl
  | 3, _ => rfl
  | 4, _ => rfl
  | 5, _ => rfl
  | 6, _ => rfl
  | 7, _ => rfl
  | 8, _ => rfl
  | 9, _ => rfl
  | 10, _ => rfl
  | 11, _ => rfl
  | 12, _ => rfl
  | n + 13, h => omega
theorem rstr_at (j : Nat) (h : j < 13) : rstrs[j]? = some (.string (bs (rtab[j]'(by rw [rtab_len]; exact h)).1)) := by
  match j, h with
  | 0, _ => rfl
  | 1, _ => rfl
  | 2, _ => rfl
  | 3, _ => rfl
  | 4, _ => rfl
  | 5, _ => rfl
  | 6, _ => rfl
  | 7, _ => rfl
  | 8, _ => rfl
  | 9, _ => rfl
  | 10, _ => rfl
  | 11, _ => rfl
  | 12, _ => rfl
  | n + 13, h => omega
theorem rtab_bd (j : Nat) (h : j < 13) : 1 ≤ (rtab[j]'(by rw [rtab_len]; exact h)).2 ∧ (rtab[j]'(by rw [rtab_len]; exact h)).2 ≤ 1000 ∧ (rtab[j]'(by rw [rtab_len]; exact h)).1.length ≤ 2 := by
  have : ∀ i : Fin 13, 1 ≤ (rtab[i.1]'(by rw [rtab_len]; exact i.2)).2 ∧ (rtab[i.1]'(by rw [rtab_len]; exact i.2)).2 ≤ 1000 ∧ (rtab[i.1]'(by rw [rtab_len]; exact i.2)).1.length ≤ 2 := by decide
  exact this ⟨j, h⟩
theorem rom_drop (j : Nat) (h : j < 13) (n : Nat) : rom (rtab.drop j) n = rom ((rtab[j]'(by rw [rtab_len]; exact h)) :: rtab.drop (j + 1)) n := by
  rw [List.drop_eq_getElem_cons (by rw [rtab_len]; exact h)]
theorem rom_end (n : Nat) : rom (rtab.drop 13) n = [] := rfl
theorem rom_sub {j : Nat} (h : j < 13) {n v : Nat} {s : List UInt8} (hv : (rtab[j]'(by rw [rtab_len]; exact h)) = (s, v)) (hn : v ≤ n) : rom (rtab.drop j) n = s ++ rom (rtab.drop j) (n - v) := by
  have hb := (rtab_bd j h).1
  rw [rom_drop j h, rom_drop j h, hv]
  rw [hv] at hb
  exact rom_ge hb hn
theorem rom_skip {j : Nat} (h : j < 13) {n v : Nat} {s : List UInt8} (hv : (rtab[j]'(by rw [rtab_len]; exact h)) = (s, v)) (hn : n < v) : rom (rtab.drop j) n = rom (rtab.drop (j + 1)) n := by
  rw [rom_drop j h, hv]
  exact rom_lt hn
end Go.Proofs.YteahingapnijcaaDoor
