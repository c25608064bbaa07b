import Derived.Test.YtblabbeaaajlkaaB2
namespace Go.Proofs.Ytblabbeaaajlkaa
open Go.RowKit
open U

theorem knownStr : Str ⟨#[97, 195, 169, 240, 159, 152, 128]⟩ [97, 233, 128512] [] := ⟨by decide +kernel, by unfold Pts; decide, rfl, by decide⟩
theorem known_count (w : World) : Calls Try.prog 20 #[.string ⟨#[97, 195, 169, 240, 159, 152, 128]⟩] w fun e w' => e = .returned (.tuple #[.int .i64 3, .int .i64 0]) ∧ w = w' := count_ok knownStr w
theorem known_offset (w : World) : Calls Try.prog 27 #[.string ⟨#[97, 195, 169, 240, 159, 152, 128]⟩, .int .i64 2] w fun e w' => e = .returned (.tuple #[.int .i64 3, .int .i64 0]) ∧ w = w' := by
  refine (offset_ok knownStr 2 (by decide) w).mono ?_
  rintro e w' ⟨⟨_, _, h⟩ | ⟨h, _⟩, hw⟩
  · exact ⟨h, hw⟩
  · exact absurd ⟨by decide, by decide⟩ h
theorem known_repair (w : World) : Calls Try.prog 31 #[.string ⟨#[97, 226, 130, 98]⟩] w fun e w' => e = .returned (.string ⟨#[97, 239, 191, 189, 98]⟩) ∧ Below w.heap.size w w' := by
  refine (repair_any _ (by decide) w).mono ?_
  rintro e w' ⟨h, hw⟩
  refine ⟨?_, hw⟩
  rw [h, show U.bytes (repAll (ByteArray.mk #[97, 226, 130, 98]).data.toList) = [97, 239, 191, 189, 98] by decide +kernel]

def KnownRet (w : World) (e : Ending) (w' : World) : Prop := e = .returned (.bool true) ∧ Below w.heap.size w w'
set_option maxRecDepth 100000 in
set_option maxHeartbeats 2000000 in
theorem known_any (w : World) : Calls Try.prog 13 #[] w (KnownRet w) := by
  go_enter Try.func13, Try.ntmps13
  go_wp2_with (first | (go_at_call 20; refine (known_count _).mono ?_; rintro e w' ⟨rfl, rfl⟩) | (go_at_call 27; refine (known_offset _).mono ?_; rintro e w' ⟨rfl, rfl⟩) | (go_at_call 31; refine (known_repair _).mono ?_; rintro e w' ⟨rfl, hb⟩))
  go_ret
  exact ⟨rfl, hb⟩
end Go.Proofs.Ytblabbeaaajlkaa
