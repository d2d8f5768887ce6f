/-
  Where the library's functions lie in this program (printed by mk_lays2.py, by their names).
-/
import Derived.Test.YtbihaoibmkdfjaaGreatDoorRows
import Derived.Shelf.Strings.OnBuilder
namespace Go.Proofs.YtbihaoibmkdfjaaGreatDoor
open Go.Shelf
def layJoin_ren : Go.Shelf.Ren := ⟨fun | 108 => 105 | 109 => 60 | 129 => 122 | 138 => 65 | 143 => 66 | 146 => 17 | 156 => 44 | 165 => 70 | 166 => 71 | 169 => 72 | 171 => 24 | 172 => 108 | 195 => 89 | 197 => 90 | 205 => 145 | 217 => 112 | 218 => 91 | 219 => 92 | 221 => 39 | 224 => 114 | 225 => 113 | 240 => 93 | 241 => 94 | 243 => 47 | 244 => 129 | 245 => 130 | 246 => 75 | 247 => 138 | 260 => 111 | 266 => 131 | 267 => 115 | 268 => 64 | 276 => 116 | 277 => 117 | 279 => 139 | 280 => 140 | 281 => 141 | 282 => 142 | 283 => 98 | 284 => 99 | 285 => 100 | 286 => 101 | 287 => 143 | 314 => 132 | 316 => 144 | 317 => 121 | 318 => 123 | 319 => 124 | 320 => 125 | 321 => 146 | 322 => 147 | 337 => 133 | 338 => 134 | 347 => 148 | 348 => 149 | 349 => 150 | 350 => 151 | 351 => 152 | 352 => 153 | 353 => 154 | 354 => 155 | 355 => 156 | 356 => 157 | 357 => 158 | 358 => 159 | 359 => 160 | 360 => 161 | 361 => 162 | 362 => 163 | 363 => 166 | 364 => 164 | 365 => 165 | 366 => 167 | 367 => 177 | n => n, fun | 27 => 98 | 28 => 53 | 29 => 115 | 30 => 135 | 31 => 42 | 32 => 94 | 37 => 90 | 40 => 144 | 46 => 139 | 47 => 149 | 51 => 147 | 52 => 158 | 53 => 126 | 54 => 127 | 55 => 122 | 61 => 44 | 67 => 77 | 68 => 43 | 69 => 169 | 70 => 103 | 71 => 104 | 72 => 105 | 73 => 106 | 74 => 107 | 75 => 108 | 76 => 109 | 77 => 110 | 80 => 111 | 81 => 182 | 83 => 63 | 84 => 113 | 85 => 160 | 86 => 161 | 103 => 119 | 104 => 31 | 105 => 120 | 106 => 121 | 108 => 172 | 111 => 66 | 113 => 72 | 114 => 138 | 119 => 152 | 127 => 123 | 128 => 151 | 131 => 101 | 137 => 153 | 138 => 154 | 139 => 155 | 143 => 174 | 144 => 175 | 145 => 176 | 146 => 156 | 150 => 97 | 151 => 157 | 164 => 140 | 165 => 141 | 166 => 142 | 167 => 159 | 168 => 162 | 169 => 163 | 170 => 164 | 171 => 125 | 172 => 128 | 173 => 129 | 174 => 130 | 175 => 167 | 176 => 168 | 209 => 170 | 210 => 171 | 211 => 145 | 212 => 146 | 213 => 148 | 214 => 173 | 232 => 165 | 233 => 166 | 238 => 177 | 239 => 178 | 240 => 179 | 241 => 180 | 242 => 181 | 243 => 183 | 244 => 184 | 245 => 185 | 246 => 186 | 247 => 187 | 248 => 188 | 249 => 189 | n => n, fun | 1 => 0 | 3 => 2 | 4 => 3 | 15 => 6 | 16 => 7 | 17 => 1 | 18 => 4 | 19 => 5 | n => n⟩
theorem layJoin : Go.Proofs.Lays.n156 Tryz.prog layJoin_ren := {
  mixed := by kernel_rfl
  f156 := Tryz.func44.trans (congrArg some (by kernel_rfl))
  f165 := Tryz.func70.trans (congrArg some (by kernel_rfl))
  f166 := Tryz.func71.trans (congrArg some (by kernel_rfl))
  f169 := Tryz.func72.trans (congrArg some (by kernel_rfl))
  f240 := Tryz.func93.trans (congrArg some (by kernel_rfl))
  f241 := Tryz.func94.trans (congrArg some (by kernel_rfl))
  f276 := Tryz.func116.trans (congrArg some (by kernel_rfl))
  f277 := Tryz.func117.trans (congrArg some (by kernel_rfl))
  t0 := Tryz.underlying0
  a0 := Tryz.isAgg0
  z0 := Tryz.sizeOf0
  v0 := Tryz.zeroValue0
  t3 := Tryz.underlying3
  a3 := Tryz.isAgg3
  z3 := Tryz.sizeOf3
  v3 := Tryz.zeroValue3
  t4 := Tryz.underlying4
  a4 := Tryz.isAgg4
  z4 := Tryz.sizeOf4
  v4 := Tryz.zeroValue4
  t9 := Tryz.underlying9
  a9 := Tryz.isAgg9
  z9 := Tryz.sizeOf9
  v9 := Tryz.zeroValue9
  t20 := Tryz.underlying20
  a20 := Tryz.isAgg20
  z20 := Tryz.sizeOf20
  v20 := Tryz.zeroValue20
  t31 := Tryz.underlying42
  a31 := Tryz.isAgg42
  z31 := Tryz.sizeOf42
  v31 := Tryz.zeroValue42
  t37 := Tryz.underlying90
  a37 := Tryz.isAgg90
  z37 := Tryz.sizeOf90
  v37 := Tryz.zeroValue90
  t70 := Tryz.underlying103
  a70 := Tryz.isAgg103
  z70 := Tryz.sizeOf103
  v70 := Tryz.zeroValue103
  t72 := Tryz.underlying105
  a72 := Tryz.isAgg105
  z72 := Tryz.sizeOf105
  v72 := Tryz.zeroValue105
  t75 := Tryz.underlying108
  a75 := Tryz.isAgg108
  z75 := Tryz.sizeOf108
  v75 := Tryz.zeroValue108
  t76 := Tryz.underlying109
  a76 := Tryz.isAgg109
  z76 := Tryz.sizeOf109
  v76 := Tryz.zeroValue109
  t127 := Tryz.underlying123
  a127 := Tryz.isAgg123
  z127 := Tryz.sizeOf123
  v127 := Tryz.zeroValue123
  t164 := Tryz.underlying140
  a164 := Tryz.isAgg140
  z164 := Tryz.sizeOf140
  v164 := Tryz.zeroValue140 }
theorem layExtra : Go.Proofs.Builder.Extra Tryz.prog layJoin_ren := {
  sizeBuilder := by kernel_rfl
  liesBuilder := by kernel_rfl
  t5 := Tryz.underlying5
  a5 := Tryz.isAgg5
  z5 := Tryz.sizeOf5
  v5 := Tryz.zeroValue5
  infoByte := by kernel_rfl
  cellsByte := by kernel_rfl
  sizeByte := by kernel_rfl
  neB5 := by decide }
end Go.Proofs.YtbihaoibmkdfjaaGreatDoor
