import Derived.Test.YtdebjhdafnpfkabGreatDoorK05
import Derived.Shelf.Strings.SlTrimAscii
import Derived.Shelf.Strings.Builder1
import Derived.Shelf.Strings.Builder2
import Derived.Shelf.Strings.OnBuilder
import Derived.Shelf.Strings.Trim
import Derived.Shelf.Small.Utf8
import Derived.Shelf.Small.Strs
import Derived.Shelf.Small.Wraps
import Derived.Shelf.Strings.BuilderF
import Derived.Shelf.Strings.BuilderK
import Derived.Shelf.Strconv.Itoa0
import Derived.Shelf.Strconv.Itoa1
import Derived.Shelf.LaysM
import Derived.Shelf.Strconv.Itoa2
import Derived.Shelf.Strconv.Itoa3
import Derived.Shelf.Strconv.Clone
import Derived.Shelf.Strings.Search1
import Derived.Shelf.Strings.Search2
import Derived.Shelf.Strings.Search3
import Derived.Shelf.Strings.Count
import Derived.Shelf.Strings.Shaped
import Derived.Shelf.Strings.Prefix
import Derived.Shelf.Strings.Split
import Derived.Shelf.Strings.Replace
import Derived.Shelf.Strings.Runes
import Derived.Shelf.Strings.AsciiSet
import Derived.Shelf.Bits.Mul64
import Derived.Shelf.Unicode.DecodeSlow
import Derived.Shelf.Unicode.DecodeAny
import Derived.Test.YtdebjhdafnpfkabGreatDoorProg
import Derived.Test.YtdebjhdafnpfkabGreatDoorK02
import Derived.Test.YtdebjhdafnpfkabGreatDoorK22
namespace Go.Proofs
set_option linter.unusedVariables false
def Tryz.lays162_ren : Go.Shelf.Ren := ⟨fun | 162 => 79 | 232 => 92 | 227 => 93 | 234 => 94 | 236 => 95 | 228 => 103 | 271 => 104 | 151 => 105 | 120 => 112 | 197 => 113 | 152 => 114 | 260 => 119 | 137 => 120 | 119 => 121 | 224 => 122 | 225 => 123 | 217 => 130 | 266 => 135 | n => n, fun | 9 => 9 | 4 => 4 | 3 => 3 | 5 => 5 | 117 => 187 | 116 => 186 | 0 => 0 | 124 => 190 | 21 => 21 | 105 => 199 | 46 => 157 | 119 => 211 | 139 => 214 | 138 => 213 | n => n, fun | 3 => 2 | 4 => 3 | n => n⟩
theorem Tryz.lays162 : Go.Proofs.Lays.n162 Tryz.prog Tryz.lays162_ren := {
  mixed := by kernel_rfl
  f119 := Tryz.func121.trans (congrArg some (by kernel_rfl))
  f120 := Tryz.func112.trans (congrArg some (by kernel_rfl))
  f137 := Tryz.func120.trans (congrArg some (by kernel_rfl))
  f151 := Tryz.func105.trans (congrArg some (by kernel_rfl))
  f152 := Tryz.func114.trans (congrArg some (by kernel_rfl))
  f162 := Tryz.func79.trans (congrArg some (by kernel_rfl))
  f197 := Tryz.func113.trans (congrArg some (by kernel_rfl))
  f217 := Tryz.func130.trans (congrArg some (by kernel_rfl))
  f224 := Tryz.func122.trans (congrArg some (by kernel_rfl))
  f225 := Tryz.func123.trans (congrArg some (by kernel_rfl))
  f227 := Tryz.func93.trans (congrArg some (by kernel_rfl))
  f228 := Tryz.func103.trans (congrArg some (by kernel_rfl))
  f232 := Tryz.func92.trans (congrArg some (by kernel_rfl))
  f234 := Tryz.func94.trans (congrArg some (by kernel_rfl))
  f236 := Tryz.func95.trans (congrArg some (by kernel_rfl))
  f260 := Tryz.func119.trans (congrArg some (by kernel_rfl))
  f266 := Tryz.func135.trans (congrArg some (by kernel_rfl))
  f271 := Tryz.func104.trans (congrArg some (by kernel_rfl))
  t0 := Tryz.underlying0
  a0 := Tryz.isAgg0
  z0 := Tryz.sizeOf0
  v0 := Tryz.zeroValue0
  t3 := Tryz.underlying3
  a3 := Tryz.isAgg3
  z3 := Tryz.sizeOf3
  v3 := Tryz.zeroValue3
  t4 := Tryz.underlying4
  a4 := Tryz.isAgg4
  z4 := Tryz.sizeOf4
  v4 := Tryz.zeroValue4
  t5 := Tryz.underlying5
  a5 := Tryz.isAgg5
  z5 := Tryz.sizeOf5
  v5 := Tryz.zeroValue5
  t9 := Tryz.underlying9
  a9 := Tryz.isAgg9
  z9 := Tryz.sizeOf9
  v9 := Tryz.zeroValue9
  t21 := Tryz.underlying21
  a21 := Tryz.isAgg21
  z21 := Tryz.sizeOf21
  v21 := Tryz.zeroValue21
  t46 := Tryz.underlying157
  a46 := Tryz.isAgg157
  z46 := Tryz.sizeOf157
  v46 := Tryz.zeroValue157
  t105 := Tryz.underlying199
  a105 := Tryz.isAgg199
  z105 := Tryz.sizeOf199
  v105 := Tryz.zeroValue199
  t116 := Tryz.underlying186
  a116 := Tryz.isAgg186
  z116 := Tryz.sizeOf186
  t117 := Tryz.underlying187
  a117 := Tryz.isAgg187
  z117 := Tryz.sizeOf187
  v117 := Tryz.zeroValue187
  t119 := Tryz.underlying211
  a119 := Tryz.isAgg211
  z119 := Tryz.sizeOf211
  t124 := Tryz.underlying190
  a124 := Tryz.isAgg190
  z124 := Tryz.sizeOf190
  v124 := Tryz.zeroValue190
  t138 := Tryz.underlying213
  a138 := Tryz.isAgg213
  z138 := Tryz.sizeOf213
  v138 := Tryz.zeroValue213
  t139 := Tryz.underlying214
  a139 := Tryz.isAgg214
  z139 := Tryz.sizeOf214
  v139 := Tryz.zeroValue214
  g3 := by kernel_rfl
  g4 := by kernel_rfl }
def Tryz.lays171_ren : Go.Shelf.Ren := ⟨fun | 171 => 184 | 243 => 185 | 246 => 186 | 283 => 187 | 284 => 188 | 285 => 189 | 286 => 190 | 129 => 192 | 317 => 191 | 318 => 193 | 319 => 194 | 320 => 195 | 337 => 196 | 338 => 197 | n => n, fun | 3 => 3 | 9 => 9 | 2 => 2 | 4 => 4 | 171 => 238 | 0 => 0 | 53 => 172 | 37 => 43 | 5 => 5 | 173 => 241 | 212 => 244 | 51 => 169 | 20 => 20 | 213 => 245 | 46 => 157 | 232 => 249 | 233 => 250 | n => n, fun | 17 => 4 | 18 => 5 | 19 => 6 | n => n⟩
theorem Tryz.lays171 : Go.Proofs.Lays.n171 Tryz.prog Tryz.lays171_ren := {
  mixed := by kernel_rfl
  f129 := Tryz.func192.trans (congrArg some (by kernel_rfl))
  f171 := Tryz.func184.trans (congrArg some (by kernel_rfl))
  f243 := Tryz.func185.trans (congrArg some (by kernel_rfl))
  f246 := Tryz.func186.trans (congrArg some (by kernel_rfl))
  f283 := Tryz.func187.trans (congrArg some (by kernel_rfl))
  f284 := Tryz.func188.trans (congrArg some (by kernel_rfl))
  f285 := Tryz.func189.trans (congrArg some (by kernel_rfl))
  f286 := Tryz.func190.trans (congrArg some (by kernel_rfl))
  f317 := Tryz.func191.trans (congrArg some (by kernel_rfl))
  f318 := Tryz.func193.trans (congrArg some (by kernel_rfl))
  f319 := Tryz.func194.trans (congrArg some (by kernel_rfl))
  f320 := Tryz.func195.trans (congrArg some (by kernel_rfl))
  f337 := Tryz.func196.trans (congrArg some (by kernel_rfl))
  f338 := Tryz.func197.trans (congrArg some (by kernel_rfl))
  t0 := Tryz.underlying0
  a0 := Tryz.isAgg0
  z0 := Tryz.sizeOf0
  v0 := Tryz.zeroValue0
  t2 := Tryz.underlying2
  a2 := Tryz.isAgg2
  z2 := Tryz.sizeOf2
  v2 := Tryz.zeroValue2
  t3 := Tryz.underlying3
  a3 := Tryz.isAgg3
  z3 := Tryz.sizeOf3
  v3 := Tryz.zeroValue3
  t4 := Tryz.underlying4
  a4 := Tryz.isAgg4
  z4 := Tryz.sizeOf4
  v4 := Tryz.zeroValue4
  t5 := Tryz.underlying5
  a5 := Tryz.isAgg5
  z5 := Tryz.sizeOf5
  v5 := Tryz.zeroValue5
  t9 := Tryz.underlying9
  a9 := Tryz.isAgg9
  z9 := Tryz.sizeOf9
  v9 := Tryz.zeroValue9
  t20 := Tryz.underlying20
  a20 := Tryz.isAgg20
  z20 := Tryz.sizeOf20
  v20 := Tryz.zeroValue20
  t37 := Tryz.underlying43
  a37 := Tryz.isAgg43
  z37 := Tryz.sizeOf43
  v37 := Tryz.zeroValue43
  t46 := Tryz.underlying157
  a46 := Tryz.isAgg157
  z46 := Tryz.sizeOf157
  v46 := Tryz.zeroValue157
  t51 := Tryz.underlying169
  a51 := Tryz.isAgg169
  z51 := Tryz.sizeOf169
  v51 := Tryz.zeroValue169
  t53 := Tryz.underlying172
  a53 := Tryz.isAgg172
  z53 := Tryz.sizeOf172
  v53 := Tryz.zeroValue172
  t171 := Tryz.underlying238
  a171 := Tryz.isAgg238
  z171 := Tryz.sizeOf238
  v171 := Tryz.zeroValue238
  t173 := Tryz.underlying241
  a173 := Tryz.isAgg241
  z173 := Tryz.sizeOf241
  v173 := Tryz.zeroValue241
  t212 := Tryz.underlying244
  a212 := Tryz.isAgg244
  z212 := Tryz.sizeOf244
  v212 := Tryz.zeroValue244
  t213 := Tryz.underlying245
  a213 := Tryz.isAgg245
  z213 := Tryz.sizeOf245
  t232 := Tryz.underlying249
  a232 := Tryz.isAgg249
  z232 := Tryz.sizeOf249
  v232 := Tryz.zeroValue249
  t233 := Tryz.underlying250
  a233 := Tryz.isAgg250
  z233 := Tryz.sizeOf250
  v233 := Tryz.zeroValue250
  g17 := by kernel_rfl
  g18 := by kernel_rfl
  g19 := by kernel_rfl }
open Go.RowKit Go.Sort Go.Lib in
theorem Tryz.strconv_Itoa_small (i : Nat) (hi : i < 100) (w : World) :
    Calls Tryz.prog 184 #[.int .i64 i] w fun e w' => e = .returned (.string ⟨(Lib.decDigits i).toArray⟩) ∧ w' = w := Any.strconv_Itoa_small Tryz.lays171 i hi w
def Tryz.lays212_ren : Go.Shelf.Ren := ⟨fun | 212 => 69 | 263 => 80 | 264 => 81 | n => n, fun | 46 => 157 | 51 => 169 | 146 => 170 | 53 => 172 | 148 => 173 | n => n, fun | n => n⟩
theorem Tryz.lays212 : Go.Proofs.Lays.n212 Tryz.prog Tryz.lays212_ren := {
  mixed := by kernel_rfl
  f212 := Tryz.func69.trans (congrArg some (by kernel_rfl))
  f263 := Tryz.func80.trans (congrArg some (by kernel_rfl))
  f264 := Tryz.func81.trans (congrArg some (by kernel_rfl))
  t46 := Tryz.underlying157
  a46 := Tryz.isAgg157
  z46 := Tryz.sizeOf157
  v46 := Tryz.zeroValue157
  t51 := Tryz.underlying169
  a51 := Tryz.isAgg169
  z51 := Tryz.sizeOf169
  v51 := Tryz.zeroValue169
  t53 := Tryz.underlying172
  a53 := Tryz.isAgg172
  z53 := Tryz.sizeOf172
  v53 := Tryz.zeroValue172
  t146 := Tryz.underlying170
  a146 := Tryz.isAgg170
  z146 := Tryz.sizeOf170
  v146 := Tryz.zeroValue170
  t148 := Tryz.underlying173
  a148 := Tryz.isAgg173
  z148 := Tryz.sizeOf173
  v148 := Tryz.zeroValue173 }
open Go.RowKit Go.Lib in
theorem Tryz.bits_Mul (x y : Nat) (hx : x < 18446744073709551616) (hy : y < 18446744073709551616) (w : World) :
    Calls Tryz.prog 69 #[.int .u64 x, .int .u64 y] w fun e w' => e = .returned (.tuple #[.int .u64 ((x * y / 18446744073709551616 : Nat) : Int), .int .u64 ((x * y % 18446744073709551616 : Nat) : Int)]) ∧ w' = w := Any.bits_Mul Tryz.lays212 x y hx hy w
open Go.RowKit in
theorem Tryz.strings_TrimRight_laid (s cutset : ByteArray) (w : World) (hs : s.size ≤ 9223372036854775807) (hcs : cutset.size < 4294967281) (hascii : ∀ (j : Nat) b, cutset.data.toList[j]? = some b → b.toNat < 128) :
    Calls Tryz.prog 79 #[.string s, .string cutset] w fun e w' => e = .returned (.string ⟨(Lib.trimRightS s.data.toList cutset.data.toList).toArray⟩) ∧ Below w.heap.size w w' :=
  Any.strings_TrimRight_laid Tryz.lays162 (by kernel_rfl) s cutset w hs hcs hascii
end Go.Proofs

namespace Go.Proofs.YtdebjhdafnpfkabGreatDoor
open Go.ChangeShapes Go.WideShapes Go.ChangeAt Go.RowKit
set_option linter.unusedVariables false
set_option linter.unusedSimpArgs false
theorem spS_size (n : Nat) : (spS n).size = n := by
  show (List.replicate n (32 : UInt8)).toArray.size = n
  simp
theorem spS_cut' (m n : Nat) (h : n ≤ m) : (spS m).extract 0 n = spS n := by
  apply ByteArray.ext
  rw [ByteArray.data_extract]
  show (List.replicate m (32 : UInt8)).toArray.extract 0 n = (List.replicate n (32 : UInt8)).toArray
  apply Array.toList_inj.1
  simp [List.extract_eq_take_drop, List.take_replicate, Nat.min_eq_left h]
theorem spS_cut (n : Nat) (h : n ≤ 128) : (spS 128).extract 0 n = spS n := spS_cut' 128 n h
theorem has1 : Lib.hasPrefix (spS 128).data.toList (⟨#[32]⟩ : ByteArray).data.toList = true := by decide +kernel
theorem has2 : Lib.hasPrefix (spS 128).data.toList (⟨#[32, 32]⟩ : ByteArray).data.toList = true := by decide +kernel
theorem sp128 : (⟨#[32, 32, 32, 32, 32, 32, 32, 32, 32, 32, 32, 32, 32, 32, 32, 32, 32, 32, 32, 32, 32, 32, 32, 32, 32, 32, 32, 32, 32, 32, 32, 32, 32, 32, 32, 32, 32, 32, 32, 32, 32, 32, 32, 32, 32, 32, 32, 32, 32, 32, 32, 32, 32, 32, 32, 32, 32, 32, 32, 32, 32, 32, 32, 32, 32, 32, 32, 32, 32, 32, 32, 32, 32, 32, 32, 32, 32, 32, 32, 32, 32, 32, 32, 32, 32, 32, 32, 32, 32, 32, 32, 32, 32, 32, 32, 32, 32, 32, 32, 32, 32, 32, 32, 32, 32, 32, 32, 32, 32, 32, 32, 32, 32, 32, 32, 32, 32, 32, 32, 32, 32, 32, 32, 32, 32, 32, 32, 32]⟩ : ByteArray) = spS 128 := by rfl
set_option maxRecDepth 100000 in
set_option maxHeartbeats 2000000 in
theorem rep_one (c : Nat) (hc : c ≤ 128) (w : World) : Calls Tryz.prog 55 #[.string ⟨#[32]⟩, .int .i64 c] w fun e w' => e = .returned (.string (spS c)) ∧ ∃ n, w' = w.drewN n := by
  by_cases h0 : c = 0
  · subst h0
    go_enter Tryz.func55, Tryz.ntmps55
    go_wp2_with fail
    go_ret
    exact ⟨rfl, 0, rfl⟩
  · by_cases h1 : c = 1
    · subst h1
      go_enter Tryz.func55, Tryz.ntmps55
      go_wp2_with fail
      go_ret
      exact ⟨rfl, 0, rfl⟩
    · have t0 : ((c : Int) == 0) = false := by simp; omega
      have t1 : ((c : Int) == 1) = false := by simp; omega
      have t2 : decide ((c : Int) < 0) = false := by simp
      clear h0 h1
      go_enter Tryz.func55, Tryz.ntmps55
      go_wp2_with fail
      refine (Tryz.bits_Mul 1 c (by decide) (by omega) w).mono ?_
      rintro e w1 ⟨rfl, hw1⟩
      rw [hw1, show 1 * c / 18446744073709551616 = 0 by omega, show 1 * c % 18446744073709551616 = c by omega]
      clear hw1
      have t3 : decide ((c : Int) ≤ 128) = true := by simp; omega
      have t4 : decide (9223372036854775807 < (c : Int)) = false := by simp; omega
      go_wp2_with fail
      refine (Tryz.strings_HasPrefix _ ⟨#[32]⟩ w).mono ?_
      rintro e w1 ⟨rfl, hw1⟩
      rw [hw1, sp128, has1]
      clear hw1
      have hcut : Hid _ := spS_cut c hc
      go_wp2_with fail
      go_ret
      refine ⟨?_, 0, rfl⟩
      show Ending.returned (Value.string (ByteArray.extract _ 0 c)) = _
      rw [sp128, hcut.out]
set_option maxRecDepth 100000 in
set_option maxHeartbeats 2000000 in
theorem rep_two (c : Nat) (hc : c ≤ 60) (w : World) : Calls Tryz.prog 55 #[  .string ⟨#[32, 32]⟩, .int .i64 c] w fun e w' => e = .returned (.string (spS (2 * c))) ∧ ∃ n, w' = w.drewN n := by
  by_cases h0 : c = 0
  · subst h0
    go_enter Tryz.func55, Tryz.ntmps55
    go_wp2_with fail
    go_ret
    exact ⟨rfl, 0, rfl⟩
  · by_cases h1 : c = 1
    · subst h1
      go_enter Tryz.func55, Tryz.ntmps55
      go_wp2_with fail
      go_ret
      exact ⟨rfl, 0, rfl⟩
    · have t0 : ((c : Int) == 0) = false := by simp; omega
      have t1 : ((c : Int) == 1) = false := by simp; omega
      have t2 : decide ((c : Int) < 0) = false := by simp
      clear h0 h1
      go_enter Tryz.func55, Tryz.ntmps55
      go_wp2_with fail
      refine (Tryz.bits_Mul 2 c (by decide) (by omega) w).mono ?_
      rintro e w1 ⟨rfl, hw1⟩
      rw [hw1, show 2 * c / 18446744073709551616 = 0 by omega, show 2 * c % 18446744073709551616 = 2 * c by omega]
      clear hw1
      have t3 : decide (((2 * c : Nat) : Int) ≤ 128) = true := by simp; omega
      have t4 : decide (9223372036854775807 < ((2 * c : Nat) : Int)) = false := by simp; omega
      go_wp2_with fail
      refine (Tryz.strings_HasPrefix _ ⟨#[32, 32]⟩ w).mono ?_
      rintro e w1 ⟨rfl, hw1⟩
      rw [hw1, sp128, has2]
      clear hw1
      have hcut : Hid _ := spS_cut (2 * c) (by omega)
      go_wp2_with fail
      go_ret
      refine ⟨?_, 0, rfl⟩
      show Ending.returned (Value.string (ByteArray.extract _ 0 (2 * c))) = _
      rw [sp128, hcut.out]
theorem indent_any (c : Nat) (hc : c ≤ 60) (w : World) : Calls Tryz.prog 73 #[.int .i64 c] w fun e w' => e = .returned (.string (spS (2 * c))) ∧ ∃ n, w' = w.drewN n := by
  go_enter Tryz.func73, Tryz.ntmps73
  go_wp2_with fail
  refine (rep_two c hc w).mono ?_
  rintro e w1 ⟨rfl, n, rfl⟩
  go_wp2_with fail
  go_ret
  exact ⟨rfl, n, rfl⟩
end Go.Proofs.YtdebjhdafnpfkabGreatDoor

namespace Go.Proofs.YtdebjhdafnpfkabGreatDoor
open Go.ChangeShapes Go.WideShapes Go.ChangeAt Go.RowKit
set_option linter.unusedVariables false
set_option linter.unusedSimpArgs false
theorem cutR_size (r : ByteArray) : (cutR r).size ≤ r.size := by
  show (Lib.trimRightS r.data.toList [32, 9]).toArray.size ≤ r.size
  have h1 : (Lib.trimRightS r.data.toList [32, 9]).length ≤ r.data.toList.length := by
    unfold Lib.trimRightS
    rw [List.length_reverse]
    have := (List.dropWhile_sublist (l := r.data.toList.reverse) (fun x => [32, 9].contains x)).length_le
    rw [List.length_reverse] at this
    exact this
  have h2 : r.data.toList.length = r.size := Array.length_toList
  simp only [List.size_toArray]
  omega
set_option maxHeartbeats 1000000 in
theorem trimmed_any (r : ByteArray) (w : World) (hr : r.size ≤ 100000) : Calls Tryz.prog 68 #[.string r] w fun e w' => e = .returned (.string (trimS r)) ∧ Below w.heap.size w w' := by
  have hz := cutR_size r
  go_enter Tryz.func68, Tryz.ntmps68
  go_wp2_with fail
  refine (Tryz.strings_TrimRight_laid r ⟨#[32, 9]⟩ w (by omega) (by decide) (by
    intro j b hb
    match j, hb with
    | 0, hb => simp at hb; subst hb; decide
    | 1, hb => simp at hb; subst hb; decide
    | j + 2, hb => simp at hb)).mono ?_
  rintro e w1 ⟨rfl, hB⟩
  have e1 : (⟨(Lib.trimRightS r.data.toList (⟨#[32, 9]⟩ : ByteArray).data.toList).toArray⟩ : ByteArray) = cutR r := rfl
  rw [e1]
  have HF : Hid (trimS r = if (cutR r).size = 0 ∨ bt (cutR r) 0 = 32 ∨ bt (cutR r) 0 = 35 then ⟨#[35]⟩ ++ cutR r else ⟨#[35, 32]⟩ ++ cutR r) := rfl
  have HB : Hid _ := hB
  clear e1 hB
  generalize cutR r = c at *
  by_cases h0 : c.size = 0
  · have te : c.toList.isEmpty = true := by rw [toList_empty]; exact decide_eq_true h0
    have Fin : Hid (trimS r = ⟨#[35]⟩ ++ c) := by unfold Hid; rw [HF.out, if_pos (.inl h0)]
    clear h0
    go_wp2_with fail
    go_ret
    exact ⟨congrArg (fun z => Ending.returned (.string z)) Fin.out.symm, HB.out⟩
  · have te : c.toList.isEmpty = false := by rw [toList_empty]; exact decide_eq_false h0
    have hp : 0 < c.size := by omega
    have hbt : Hid (bt c 0 = c[0].toNat) := (bt_in c 0 hp).symm
    by_cases h32 : c[0].toNat = 32
    · have t1 : ((c[0].toNat : Int) == 32) = true := by simp; omega
      have Fin : Hid (trimS r = ⟨#[35]⟩ ++ c) := by unfold Hid; rw [HF.out, if_pos (.inr (.inl (by rw [hbt.out]; exact h32)))]
      clear h0 h32
      go_wp2_with fail
      go_ret
      exact ⟨congrArg (fun z => Ending.returned (.string z)) Fin.out.symm, HB.out⟩
    · have t1 : ((c[0].toNat : Int) == 32) = false := by simp; omega
      by_cases h35 : c[0].toNat = 35
      · have t2 : ((c[0].toNat : Int) == 35) = true := by simp; omega
        have Fin : Hid (trimS r = ⟨#[35]⟩ ++ c) := by unfold Hid; rw [HF.out, if_pos (.inr (.inr (by rw [hbt.out]; exact h35)))]
        clear h0 h32 h35
        go_wp2_with fail
        go_ret
        exact ⟨congrArg (fun z => Ending.returned (.string z)) Fin.out.symm, HB.out⟩
      · have t2 : ((c[0].toNat : Int) == 35) = false := by simp; omega
        have Fin : Hid (trimS r = ⟨#[35, 32]⟩ ++ c) := by
          unfold Hid
          rw [HF.out, if_neg (by rw [hbt.out]; omega)]
        clear h0 h32 h35
        go_wp2_with fail
        go_ret
        exact ⟨congrArg (fun z => Ending.returned (.string z)) Fin.out.symm, HB.out⟩
end Go.Proofs.YtdebjhdafnpfkabGreatDoor
