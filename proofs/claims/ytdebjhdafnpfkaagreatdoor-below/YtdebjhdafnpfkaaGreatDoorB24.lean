import Derived.Test.YtdebjhdafnpfkaaGreatDoorB05
import Derived.Shelf.Strings.SlTrimAscii
import Derived.Shelf.Strings.Builder1
import Derived.Shelf.Strings.Builder2
import Derived.Shelf.Strings.OnBuilder
import Derived.Shelf.Strings.Trim
import Derived.Shelf.Small.Utf8
import Derived.Shelf.Small.Strs
import Derived.Shelf.Small.Wraps
import Derived.Shelf.Strings.BuilderF
import Derived.Shelf.Strings.BuilderK
import Derived.Shelf.Strconv.Itoa0
import Derived.Shelf.Strconv.Itoa1
import Derived.Shelf.LaysM
import Derived.Shelf.Strconv.Itoa2
import Derived.Shelf.Strconv.Itoa3
import Derived.Shelf.Strconv.Clone
import Derived.Shelf.Strings.Search1
import Derived.Shelf.Strings.Search2
import Derived.Shelf.Strings.Search3
import Derived.Shelf.Strings.Count
import Derived.Shelf.Strings.Shaped
import Derived.Shelf.Strings.Prefix
import Derived.Shelf.Strings.Split
import Derived.Shelf.Strings.Replace
import Derived.Shelf.Strings.Runes
import Derived.Shelf.Strings.AsciiSet
import Derived.Shelf.Bits.Mul64
import Derived.Shelf.Unicode.DecodeSlow
import Derived.Test.YtdebjhdafnpfkaaGreatDoorProg
import Derived.Test.YtdebjhdafnpfkaaGreatDoorB02
import Derived.Test.YtdebjhdafnpfkaaGreatDoorB23
namespace Go.Proofs
set_option linter.unusedVariables false
def Tryz.lays162_ren : Go.Shelf.Ren := ⟨fun | 162 => 127 | 232 => 141 | 227 => 142 | 234 => 143 | 236 => 144 | 228 => 152 | 271 => 153 | 151 => 154 | 120 => 161 | 197 => 162 | 152 => 163 | 260 => 168 | 137 => 169 | 119 => 170 | 224 => 171 | 225 => 172 | 217 => 179 | 266 => 184 | n => n, fun | 9 => 9 | 4 => 4 | 3 => 3 | 5 => 5 | 117 => 230 | 116 => 229 | 0 => 0 | 124 => 233 | 21 => 21 | 105 => 242 | 46 => 203 | 119 => 253 | 139 => 256 | 138 => 255 | n => n, fun | 3 => 2 | 4 => 3 | n => n⟩
theorem Tryz.lays162 : Go.Proofs.Lays.n162 Tryz.prog Tryz.lays162_ren := {
  mixed := by kernel_rfl
  f119 := Tryz.func170.trans (congrArg some (by kernel_rfl))
  f120 := Tryz.func161.trans (congrArg some (by kernel_rfl))
  f137 := Tryz.func169.trans (congrArg some (by kernel_rfl))
  f151 := Tryz.func154.trans (congrArg some (by kernel_rfl))
  f152 := Tryz.func163.trans (congrArg some (by kernel_rfl))
  f162 := Tryz.func127.trans (congrArg some (by kernel_rfl))
  f197 := Tryz.func162.trans (congrArg some (by kernel_rfl))
  f217 := Tryz.func179.trans (congrArg some (by kernel_rfl))
  f224 := Tryz.func171.trans (congrArg some (by kernel_rfl))
  f225 := Tryz.func172.trans (congrArg some (by kernel_rfl))
  f227 := Tryz.func142.trans (congrArg some (by kernel_rfl))
  f228 := Tryz.func152.trans (congrArg some (by kernel_rfl))
  f232 := Tryz.func141.trans (congrArg some (by kernel_rfl))
  f234 := Tryz.func143.trans (congrArg some (by kernel_rfl))
  f236 := Tryz.func144.trans (congrArg some (by kernel_rfl))
  f260 := Tryz.func168.trans (congrArg some (by kernel_rfl))
  f266 := Tryz.func184.trans (congrArg some (by kernel_rfl))
  f271 := Tryz.func153.trans (congrArg some (by kernel_rfl))
  t0 := Tryz.underlying0
  a0 := Tryz.isAgg0
  z0 := Tryz.sizeOf0
  v0 := Tryz.zeroValue0
  t3 := Tryz.underlying3
  a3 := Tryz.isAgg3
  z3 := Tryz.sizeOf3
  v3 := Tryz.zeroValue3
  t4 := Tryz.underlying4
  a4 := Tryz.isAgg4
  z4 := Tryz.sizeOf4
  v4 := Tryz.zeroValue4
  t5 := Tryz.underlying5
  a5 := Tryz.isAgg5
  z5 := Tryz.sizeOf5
  v5 := Tryz.zeroValue5
  t9 := Tryz.underlying9
  a9 := Tryz.isAgg9
  z9 := Tryz.sizeOf9
  v9 := Tryz.zeroValue9
  t21 := Tryz.underlying21
  a21 := Tryz.isAgg21
  z21 := Tryz.sizeOf21
  v21 := Tryz.zeroValue21
  t46 := Tryz.underlying203
  a46 := Tryz.isAgg203
  z46 := Tryz.sizeOf203
  v46 := Tryz.zeroValue203
  t105 := Tryz.underlying242
  a105 := Tryz.isAgg242
  z105 := Tryz.sizeOf242
  v105 := Tryz.zeroValue242
  t116 := Tryz.underlying229
  a116 := Tryz.isAgg229
  z116 := Tryz.sizeOf229
  t117 := Tryz.underlying230
  a117 := Tryz.isAgg230
  z117 := Tryz.sizeOf230
  v117 := Tryz.zeroValue230
  t119 := Tryz.underlying253
  a119 := Tryz.isAgg253
  z119 := Tryz.sizeOf253
  t124 := Tryz.underlying233
  a124 := Tryz.isAgg233
  z124 := Tryz.sizeOf233
  v124 := Tryz.zeroValue233
  t138 := Tryz.underlying255
  a138 := Tryz.isAgg255
  z138 := Tryz.sizeOf255
  v138 := Tryz.zeroValue255
  t139 := Tryz.underlying256
  a139 := Tryz.isAgg256
  z139 := Tryz.sizeOf256
  v139 := Tryz.zeroValue256
  g3 := by kernel_rfl
  g4 := by kernel_rfl }
def Tryz.lays171_ren : Go.Shelf.Ren := ⟨fun | 171 => 234 | 243 => 235 | 246 => 236 | 283 => 237 | 284 => 238 | 285 => 239 | 286 => 240 | 129 => 242 | 317 => 241 | 318 => 243 | 319 => 244 | 320 => 245 | 337 => 246 | 338 => 247 | n => n, fun | 3 => 3 | 9 => 9 | 2 => 2 | 4 => 4 | 171 => 280 | 0 => 0 | 53 => 215 | 37 => 138 | 5 => 5 | 173 => 283 | 212 => 286 | 51 => 212 | 20 => 20 | 213 => 287 | 46 => 203 | 232 => 290 | 233 => 291 | n => n, fun | 17 => 4 | 18 => 5 | 19 => 6 | n => n⟩
theorem Tryz.lays171 : Go.Proofs.Lays.n171 Tryz.prog Tryz.lays171_ren := {
  mixed := by kernel_rfl
  f129 := Tryz.func242.trans (congrArg some (by kernel_rfl))
  f171 := Tryz.func234.trans (congrArg some (by kernel_rfl))
  f243 := Tryz.func235.trans (congrArg some (by kernel_rfl))
  f246 := Tryz.func236.trans (congrArg some (by kernel_rfl))
  f283 := Tryz.func237.trans (congrArg some (by kernel_rfl))
  f284 := Tryz.func238.trans (congrArg some (by kernel_rfl))
  f285 := Tryz.func239.trans (congrArg some (by kernel_rfl))
  f286 := Tryz.func240.trans (congrArg some (by kernel_rfl))
  f317 := Tryz.func241.trans (congrArg some (by kernel_rfl))
  f318 := Tryz.func243.trans (congrArg some (by kernel_rfl))
  f319 := Tryz.func244.trans (congrArg some (by kernel_rfl))
  f320 := Tryz.func245.trans (congrArg some (by kernel_rfl))
  f337 := Tryz.func246.trans (congrArg some (by kernel_rfl))
  f338 := Tryz.func247.trans (congrArg some (by kernel_rfl))
  t0 := Tryz.underlying0
  a0 := Tryz.isAgg0
  z0 := Tryz.sizeOf0
  v0 := Tryz.zeroValue0
  t2 := Tryz.underlying2
  a2 := Tryz.isAgg2
  z2 := Tryz.sizeOf2
  v2 := Tryz.zeroValue2
  t3 := Tryz.underlying3
  a3 := Tryz.isAgg3
  z3 := Tryz.sizeOf3
  v3 := Tryz.zeroValue3
  t4 := Tryz.underlying4
  a4 := Tryz.isAgg4
  z4 := Tryz.sizeOf4
  v4 := Tryz.zeroValue4
  t5 := Tryz.underlying5
  a5 := Tryz.isAgg5
  z5 := Tryz.sizeOf5
  v5 := Tryz.zeroValue5
  t9 := Tryz.underlying9
  a9 := Tryz.isAgg9
  z9 := Tryz.sizeOf9
  v9 := Tryz.zeroValue9
  t20 := Tryz.underlying20
  a20 := Tryz.isAgg20
  z20 := Tryz.sizeOf20
  v20 := Tryz.zeroValue20
  t37 := Tryz.underlying138
  a37 := Tryz.isAgg138
  z37 := Tryz.sizeOf138
  v37 := Tryz.zeroValue138
  t46 := Tryz.underlying203
  a46 := Tryz.isAgg203
  z46 := Tryz.sizeOf203
  v46 := Tryz.zeroValue203
  t51 := Tryz.underlying212
  a51 := Tryz.isAgg212
  z51 := Tryz.sizeOf212
  v51 := Tryz.zeroValue212
  t53 := Tryz.underlying215
  a53 := Tryz.isAgg215
  z53 := Tryz.sizeOf215
  v53 := Tryz.zeroValue215
  t171 := Tryz.underlying280
  a171 := Tryz.isAgg280
  z171 := Tryz.sizeOf280
  v171 := Tryz.zeroValue280
  t173 := Tryz.underlying283
  a173 := Tryz.isAgg283
  z173 := Tryz.sizeOf283
  v173 := Tryz.zeroValue283
  t212 := Tryz.underlying286
  a212 := Tryz.isAgg286
  z212 := Tryz.sizeOf286
  v212 := Tryz.zeroValue286
  t213 := Tryz.underlying287
  a213 := Tryz.isAgg287
  z213 := Tryz.sizeOf287
  t232 := Tryz.underlying290
  a232 := Tryz.isAgg290
  z232 := Tryz.sizeOf290
  v232 := Tryz.zeroValue290
  t233 := Tryz.underlying291
  a233 := Tryz.isAgg291
  z233 := Tryz.sizeOf291
  v233 := Tryz.zeroValue291
  g17 := by kernel_rfl
  g18 := by kernel_rfl
  g19 := by kernel_rfl }
open Go.RowKit Go.Sort Go.Lib in
theorem Tryz.strconv_Itoa_small (i : Nat) (hi : i < 100) (w : World) :
    Calls Tryz.prog 234 #[.int .i64 i] w fun e w' => e = .returned (.string ⟨(Lib.decDigits i).toArray⟩) ∧ w' = w := Any.strconv_Itoa_small Tryz.lays171 i hi w
def Tryz.lays212_ren : Go.Shelf.Ren := ⟨fun | 212 => 115 | 263 => 128 | 264 => 129 | n => n, fun | 46 => 203 | 51 => 212 | 146 => 213 | 53 => 215 | 148 => 216 | n => n, fun | n => n⟩
theorem Tryz.lays212 : Go.Proofs.Lays.n212 Tryz.prog Tryz.lays212_ren := {
  mixed := by kernel_rfl
  f212 := Tryz.func115.trans (congrArg some (by kernel_rfl))
  f263 := Tryz.func128.trans (congrArg some (by kernel_rfl))
  f264 := Tryz.func129.trans (congrArg some (by kernel_rfl))
  t46 := Tryz.underlying203
  a46 := Tryz.isAgg203
  z46 := Tryz.sizeOf203
  v46 := Tryz.zeroValue203
  t51 := Tryz.underlying212
  a51 := Tryz.isAgg212
  z51 := Tryz.sizeOf212
  v51 := Tryz.zeroValue212
  t53 := Tryz.underlying215
  a53 := Tryz.isAgg215
  z53 := Tryz.sizeOf215
  v53 := Tryz.zeroValue215
  t146 := Tryz.underlying213
  a146 := Tryz.isAgg213
  z146 := Tryz.sizeOf213
  v146 := Tryz.zeroValue213
  t148 := Tryz.underlying216
  a148 := Tryz.isAgg216
  z148 := Tryz.sizeOf216
  v148 := Tryz.zeroValue216 }
open Go.RowKit Go.Lib in
theorem Tryz.bits_Mul (x y : Nat) (hx : x < 18446744073709551616) (hy : y < 18446744073709551616) (w : World) :
    Calls Tryz.prog 115 #[.int .u64 x, .int .u64 y] w fun e w' => e = .returned (.tuple #[.int .u64 ((x * y / 18446744073709551616 : Nat) : Int), .int .u64 ((x * y % 18446744073709551616 : Nat) : Int)]) ∧ w' = w := Any.bits_Mul Tryz.lays212 x y hx hy w
open Go.RowKit in
theorem Tryz.strings_TrimRight_laid (s cutset : ByteArray) (w : World) (hs : s.size ≤ 9223372036854775807) (hcs : cutset.size < 4294967281) (hascii : ∀ (j : Nat) b, cutset.data.toList[j]? = some b → b.toNat < 128) :
    Calls Tryz.prog 127 #[.string s, .string cutset] w fun e w' => e = .returned (.string ⟨(Lib.trimRightS s.data.toList cutset.data.toList).toArray⟩) ∧ Below w.heap.size w w' :=
  Any.strings_TrimRight_laid Tryz.lays162 (by kernel_rfl) s cutset w hs hcs hascii
end Go.Proofs

namespace Go.Proofs.YtdebjhdafnpfkaaGreatDoor
open Go.ChangeShapes Go.WideShapes Go.ChangeAt Go.RowKit
set_option linter.unusedVariables false
set_option linter.unusedSimpArgs false
theorem spS_size (n : Nat) : (spS n).size = n := by
  show (List.replicate n (32 : UInt8)).toArray.size = n
  simp
theorem spS_cut' (m n : Nat) (h : n ≤ m) : (spS m).extract 0 n = spS n := by
  apply ByteArray.ext
  rw [ByteArray.data_extract]
  show (List.replicate m (32 : UInt8)).toArray.extract 0 n = (List.replicate n (32 : UInt8)).toArray
  apply Array.toList_inj.1
  simp [List.extract_eq_take_drop, List.take_replicate, Nat.min_eq_left h]
theorem spS_cut (n : Nat) (h : n ≤ 128) : (spS 128).extract 0 n = spS n := spS_cut' 128 n h
theorem has1 : Lib.hasPrefix (spS 128).data.toList (⟨#[32]⟩ : ByteArray).data.toList = true := by decide +kernel
theorem has2 : Lib.hasPrefix (spS 128).data.toList (⟨#[32, 32]⟩ : ByteArray).data.toList = true := by decide +kernel
theorem sp128 : (⟨#[32, 32, 32, 32, 32, 32, 32, 32, 32, 32, 32, 32, 32, 32, 32, 32, 32, 32, 32, 32, 32, 32, 32, 32, 32, 32, 32, 32, 32, 32, 32, 32, 32, 32, 32, 32, 32, 32, 32, 32, 32, 32, 32, 32, 32, 32, 32, 32, 32, 32, 32, 32, 32, 32, 32, 32, 32, 32, 32, 32, 32, 32, 32, 32, 32, 32, 32, 32, 32, 32, 32, 32, 32, 32, 32, 32, 32, 32, 32, 32, 32, 32, 32, 32, 32, 32, 32, 32, 32, 32, 32, 32, 32, 32, 32, 32, 32, 32, 32, 32, 32, 32, 32, 32, 32, 32, 32, 32, 32, 32, 32, 32, 32, 32, 32, 32, 32, 32, 32, 32, 32, 32, 32, 32, 32, 32, 32, 32]⟩ : ByteArray) = spS 128 := by rfl
set_option maxRecDepth 100000 in
set_option maxHeartbeats 2000000 in
theorem rep_one (c : Nat) (hc : c ≤ 128) (w : World) : Calls Tryz.prog 96 #[.string ⟨#[32]⟩, .int .i64 c] w fun e w' => e = .returned (.string (spS c)) ∧ ∃ n, w' = w.drewN n := by
  by_cases h0 : c = 0
  · subst h0
    go_enter Tryz.func96, Tryz.ntmps96
    go_wp2_with fail
    go_ret
    exact ⟨rfl, 0, rfl⟩
  · by_cases h1 : c = 1
    · subst h1
      go_enter Tryz.func96, Tryz.ntmps96
      go_wp2_with fail
      go_ret
      exact ⟨rfl, 0, rfl⟩
    · have t0 : ((c : Int) == 0) = false := by simp; omega
      have t1 : ((c : Int) == 1) = false := by simp; omega
      have t2 : decide ((c : Int) < 0) = false := by simp
      clear h0 h1
      go_enter Tryz.func96, Tryz.ntmps96
      go_wp2_with fail
      refine (Tryz.bits_Mul 1 c (by decide) (by omega) w).mono ?_
      rintro e w1 ⟨rfl, hw1⟩
      rw [hw1, show 1 * c / 18446744073709551616 = 0 by omega, show 1 * c % 18446744073709551616 = c by omega]
      clear hw1
      have t3 : decide ((c : Int) ≤ 128) = true := by simp; omega
      have t4 : decide (9223372036854775807 < (c : Int)) = false := by simp; omega
      go_wp2_with fail
      refine (Tryz.strings_HasPrefix _ ⟨#[32]⟩ w).mono ?_
      rintro e w1 ⟨rfl, hw1⟩
      rw [hw1, sp128, has1]
      clear hw1
      have hcut : Hid _ := spS_cut c hc
      go_wp2_with fail
      go_ret
      refine ⟨?_, 0, rfl⟩
      show Ending.returned (Value.string (ByteArray.extract _ 0 c)) = _
      rw [sp128, hcut.out]
set_option maxRecDepth 100000 in
set_option maxHeartbeats 2000000 in
theorem rep_two (c : Nat) (hc : c ≤ 60) (w : World) : Calls Tryz.prog 96 #[  .string ⟨#[32, 32]⟩, .int .i64 c] w fun e w' => e = .returned (.string (spS (2 * c))) ∧ ∃ n, w' = w.drewN n := by
  by_cases h0 : c = 0
  · subst h0
    go_enter Tryz.func96, Tryz.ntmps96
    go_wp2_with fail
    go_ret
    exact ⟨rfl, 0, rfl⟩
  · by_cases h1 : c = 1
    · subst h1
      go_enter Tryz.func96, Tryz.ntmps96
      go_wp2_with fail
      go_ret
      exact ⟨rfl, 0, rfl⟩
    · have t0 : ((c : Int) == 0) = false := by simp; omega
      have t1 : ((c : Int) == 1) = false := by simp; omega
      have t2 : decide ((c : Int) < 0) = false := by simp
      clear h0 h1
      go_enter Tryz.func96, Tryz.ntmps96
      go_wp2_with fail
      refine (Tryz.bits_Mul 2 c (by decide) (by omega) w).mono ?_
      rintro e w1 ⟨rfl, hw1⟩
      rw [hw1, show 2 * c / 18446744073709551616 = 0 by omega, show 2 * c % 18446744073709551616 = 2 * c by omega]
      clear hw1
      have t3 : decide (((2 * c : Nat) : Int) ≤ 128) = true := by simp; omega
      have t4 : decide (9223372036854775807 < ((2 * c : Nat) : Int)) = false := by simp; omega
      go_wp2_with fail
      refine (Tryz.strings_HasPrefix _ ⟨#[32, 32]⟩ w).mono ?_
      rintro e w1 ⟨rfl, hw1⟩
      rw [hw1, sp128, has2]
      clear hw1
      have hcut : Hid _ := spS_cut (2 * c) (by omega)
      go_wp2_with fail
      go_ret
      refine ⟨?_, 0, rfl⟩
      show Ending.returned (Value.string (ByteArray.extract _ 0 (2 * c))) = _
      rw [sp128, hcut.out]
theorem indent_any (c : Nat) (hc : c ≤ 60) (w : World) : Calls Tryz.prog 119 #[.int .i64 c] w fun e w' => e = .returned (.string (spS (2 * c))) ∧ ∃ n, w' = w.drewN n := by
  go_enter Tryz.func119, Tryz.ntmps119
  go_wp2_with fail
  refine (rep_two c hc w).mono ?_
  rintro e w1 ⟨rfl, n, rfl⟩
  go_wp2_with fail
  go_ret
  exact ⟨rfl, n, rfl⟩
end Go.Proofs.YtdebjhdafnpfkaaGreatDoor

namespace Go.Proofs.YtdebjhdafnpfkaaGreatDoor
open Go.ChangeShapes Go.WideShapes Go.ChangeAt Go.RowKit
set_option linter.unusedVariables false
set_option linter.unusedSimpArgs false
theorem cutR_size (r : ByteArray) : (cutR r).size ≤ r.size := by
  show (Lib.trimRightS r.data.toList [32, 9]).toArray.size ≤ r.size
  have h1 : (Lib.trimRightS r.data.toList [32, 9]).length ≤ r.data.toList.length := by
    unfold Lib.trimRightS
    rw [List.length_reverse]
    have := (List.dropWhile_sublist (l := r.data.toList.reverse) (fun x => [32, 9].contains x)).length_le
    rw [List.length_reverse] at this
    exact this
  have h2 : r.data.toList.length = r.size := Array.length_toList
  simp only [List.size_toArray]
  omega
set_option maxHeartbeats 1000000 in
theorem trimmed_any (r : ByteArray) (w : World) (hr : r.size ≤ 100000) : Calls Tryz.prog 114 #[.string r] w fun e w' => e = .returned (.string (trimS r)) ∧ Below w.heap.size w w' := by
  have hz := cutR_size r
  go_enter Tryz.func114, Tryz.ntmps114
  go_wp2_with fail
  refine (Tryz.strings_TrimRight_laid r ⟨#[32, 9]⟩ w (by omega) (by decide) (by
    intro j b hb
    match j, hb with
    | 0, hb => simp at hb; subst hb; decide
    | 1, hb => simp at hb; subst hb; decide
    | j + 2, hb => simp at hb)).mono ?_
  rintro e w1 ⟨rfl, hB⟩
  have e1 : (⟨(Lib.trimRightS r.data.toList (⟨#[32, 9]⟩ : ByteArray).data.toList).toArray⟩ : ByteArray) = cutR r := rfl
  rw [e1]
  have HF : Hid (trimS r = if (cutR r).size = 0 ∨ bt (cutR r) 0 = 32 ∨ bt (cutR r) 0 = 35 then ⟨#[35]⟩ ++ cutR r else ⟨#[35, 32]⟩ ++ cutR r) := rfl
  have HB : Hid _ := hB
  clear e1 hB
  generalize cutR r = c at *
  by_cases h0 : c.size = 0
  · have te : c.toList.isEmpty = true := by rw [toList_empty]; exact decide_eq_true h0
    have Fin : Hid (trimS r = ⟨#[35]⟩ ++ c) := by unfold Hid; rw [HF.out, if_pos (.inl h0)]
    clear h0
    go_wp2_with fail
    go_ret
    exact ⟨congrArg (fun z => Ending.returned (.string z)) Fin.out.symm, HB.out⟩
  · have te : c.toList.isEmpty = false := by rw [toList_empty]; exact decide_eq_false h0
    have hp : 0 < c.size := by omega
    have hbt : Hid (bt c 0 = c[0].toNat) := (bt_in c 0 hp).symm
    by_cases h32 : c[0].toNat = 32
    · have t1 : ((c[0].toNat : Int) == 32) = true := by simp; omega
      have Fin : Hid (trimS r = ⟨#[35]⟩ ++ c) := by unfold Hid; rw [HF.out, if_pos (.inr (.inl (by rw [hbt.out]; exact h32)))]
      clear h0 h32
      go_wp2_with fail
      go_ret
      exact ⟨congrArg (fun z => Ending.returned (.string z)) Fin.out.symm, HB.out⟩
    · have t1 : ((c[0].toNat : Int) == 32) = false := by simp; omega
      by_cases h35 : c[0].toNat = 35
      · have t2 : ((c[0].toNat : Int) == 35) = true := by simp; omega
        have Fin : Hid (trimS r = ⟨#[35]⟩ ++ c) := by unfold Hid; rw [HF.out, if_pos (.inr (.inr (by rw [hbt.out]; exact h35)))]
        clear h0 h32 h35
        go_wp2_with fail
        go_ret
        exact ⟨congrArg (fun z => Ending.returned (.string z)) Fin.out.symm, HB.out⟩
      · have t2 : ((c[0].toNat : Int) == 35) = false := by simp; omega
        have Fin : Hid (trimS r = ⟨#[35, 32]⟩ ++ c) := by
          unfold Hid
          rw [HF.out, if_neg (by rw [hbt.out]; omega)]
        clear h0 h32 h35
        go_wp2_with fail
        go_ret
        exact ⟨congrArg (fun z => Ending.returned (.string z)) Fin.out.symm, HB.out⟩
end Go.Proofs.YtdebjhdafnpfkaaGreatDoor
