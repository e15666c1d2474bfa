/-
  The library's texts in this program are those that the library's contracts were proved of.
  Words for tags in memory: a tag's ten cells, what lies at an address; loads, stores and comparisons of whole tags, and of ten bytes.
-/
import Derived.Shelf.Strings.Builder1
import Derived.Shelf.Strings.Builder2
import Derived.Shelf.Strings.OnBuilder
import Derived.Shelf.Small.Utf8
import Derived.Shelf.Small.Strs
import Derived.Shelf.Strings.Search1
import Derived.Shelf.Strings.Search2
import Derived.Shelf.Strings.Search3
import Derived.Shelf.Strings.Count
import Derived.Shelf.LaysM
import Derived.Shelf.Strings.Shaped
import Derived.Shelf.Strings.Split
import Derived.Shelf.Unicode.Latin
import Derived.Shelf.Unicode.DecodeSlow
import Derived.Shelf.Unicode.CaseLookup
import Derived.Shelf.Unicode.CaseConvert
import Derived.Shelf.Unicode.CaseTo
import Derived.Shelf.Bytes.SlIndexSmall
import Derived.Shelf.Bytes.SlIndexAt
import Derived.Shelf.Bytes.SlSearch0
import Derived.Shelf.Bytes.SlSearch1
import Derived.Shelf.Bytes.SlSearch2
import Derived.Shelf.Bytes.SlIndexWhole
import Derived.Shelf.Bytes.SlCut
import Derived.Shelf.Bytes.Small
import Derived.Shelf.Bytes.IndexByte
import Derived.Test.YtlheaabmpcnchaaGreatDoorProg
import Derived.Test.YtlheaabmpcnchaaGreatDoorMem
import Derived.Deep.MidRow
import Derived.Deep.WholeRow
import Derived.Laws.StructEq
import Derived.DeepKeys4
import Derived.Maps.OwnSet
import Derived.KernelRfl
namespace Go.Proofs.YtlheaabmpcnchaaGreatDoor
open Go.Shelf Go.RowKit
def lays158_ren : Go.Shelf.Ren := ⟨fun | 158 => 51 | 165 => 84 | 166 => 67 | 167 => 68 | 169 => 33 | 230 => 85 | 203 => 87 | 240 => 104 | 241 => 116 | 197 => 117 | 118 => 118 | 168 => 119 | 270 => 120 | 262 => 121 | 276 => 139 | 277 => 154 | 260 => 155 | 242 => 156 | 313 => 157 | 278 => 177 | 274 => 178 | 275 => 179 | n => n, fun | 9 => 9 | 4 => 4 | 3 => 3 | 5 => 5 | 72 => 95 | 0 => 0 | 76 => 145 | 75 => 144 | 107 => 164 | 70 => 92 | 20 => 20 | 37 => 93 | 127 => 149 | 21 => 21 | 105 => 184 | 164 => 201 | 162 => 219 | 203 => 217 | 119 => 235 | 46 => 181 | 139 => 238 | 138 => 237 | 51 => 212 | 160 => 239 | 208 => 258 | 206 => 256 | 80 => 98 | n => n, fun | 13 => 2 | 3 => 3 | 4 => 4 | n => n⟩
theorem lays158 : Go.Proofs.Lays.n158 Tryz.prog lays158_ren := {
  mixed := by kernel_rfl
  f118 := Tryz.func118.trans (congrArg some (by kernel_rfl))
  f158 := Tryz.func51.trans (congrArg some (by kernel_rfl))
  f165 := Tryz.func84.trans (congrArg some (by kernel_rfl))
  f166 := Tryz.func67.trans (congrArg some (by kernel_rfl))
  f167 := Tryz.func68.trans (congrArg some (by kernel_rfl))
  f168 := Tryz.func119.trans (congrArg some (by kernel_rfl))
  f169 := Tryz.func33.trans (congrArg some (by kernel_rfl))
  f197 := Tryz.func117.trans (congrArg some (by kernel_rfl))
  f203 := Tryz.func87.trans (congrArg some (by kernel_rfl))
  f230 := Tryz.func85.trans (congrArg some (by kernel_rfl))
  f240 := Tryz.func104.trans (congrArg some (by kernel_rfl))
  f241 := Tryz.func116.trans (congrArg some (by kernel_rfl))
  f242 := Tryz.func156.trans (congrArg some (by kernel_rfl))
  f260 := Tryz.func155.trans (congrArg some (by kernel_rfl))
  f262 := Tryz.func121.trans (congrArg some (by kernel_rfl))
  f270 := Tryz.func120.trans (congrArg some (by kernel_rfl))
  f274 := Tryz.func178.trans (congrArg some (by kernel_rfl))
  f275 := Tryz.func179.trans (congrArg some (by kernel_rfl))
  f276 := Tryz.func139.trans (congrArg some (by kernel_rfl))
  f277 := Tryz.func154.trans (congrArg some (by kernel_rfl))
  f278 := Tryz.func177.trans (congrArg some (by kernel_rfl))
  f313 := Tryz.func157.trans (congrArg some (by kernel_rfl))
  t0 := Tryz.underlying0
  a0 := Tryz.isAgg0
  z0 := Tryz.sizeOf0
  v0 := Tryz.zeroValue0
  t3 := Tryz.underlying3
  a3 := Tryz.isAgg3
  z3 := Tryz.sizeOf3
  v3 := Tryz.zeroValue3
  t4 := Tryz.underlying4
  a4 := Tryz.isAgg4
  z4 := Tryz.sizeOf4
  v4 := Tryz.zeroValue4
  t5 := Tryz.underlying5
  a5 := Tryz.isAgg5
  z5 := Tryz.sizeOf5
  v5 := Tryz.zeroValue5
  t9 := Tryz.underlying9
  a9 := Tryz.isAgg9
  z9 := Tryz.sizeOf9
  v9 := Tryz.zeroValue9
  t20 := Tryz.underlying20
  a20 := Tryz.isAgg20
  z20 := Tryz.sizeOf20
  v20 := Tryz.zeroValue20
  t21 := Tryz.underlying21
  a21 := Tryz.isAgg21
  z21 := Tryz.sizeOf21
  v21 := Tryz.zeroValue21
  t37 := Tryz.underlying93
  a37 := Tryz.isAgg93
  z37 := Tryz.sizeOf93
  v37 := Tryz.zeroValue93
  t46 := Tryz.underlying181
  a46 := Tryz.isAgg181
  z46 := Tryz.sizeOf181
  v46 := Tryz.zeroValue181
  t51 := Tryz.underlying212
  a51 := Tryz.isAgg212
  z51 := Tryz.sizeOf212
  v51 := Tryz.zeroValue212
  t70 := Tryz.underlying92
  a70 := Tryz.isAgg92
  z70 := Tryz.sizeOf92
  v70 := Tryz.zeroValue92
  t72 := Tryz.underlying95
  a72 := Tryz.isAgg95
  z72 := Tryz.sizeOf95
  v72 := Tryz.zeroValue95
  t75 := Tryz.underlying144
  a75 := Tryz.isAgg144
  z75 := Tryz.sizeOf144
  v75 := Tryz.zeroValue144
  t76 := Tryz.underlying145
  a76 := Tryz.isAgg145
  z76 := Tryz.sizeOf145
  v76 := Tryz.zeroValue145
  t105 := Tryz.underlying184
  a105 := Tryz.isAgg184
  z105 := Tryz.sizeOf184
  v105 := Tryz.zeroValue184
  t107 := Tryz.underlying164
  a107 := Tryz.isAgg164
  z107 := Tryz.sizeOf164
  v107 := Tryz.zeroValue164
  t119 := Tryz.underlying235
  a119 := Tryz.isAgg235
  z119 := Tryz.sizeOf235
  t127 := Tryz.underlying149
  a127 := Tryz.isAgg149
  z127 := Tryz.sizeOf149
  v127 := Tryz.zeroValue149
  t138 := Tryz.underlying237
  a138 := Tryz.isAgg237
  z138 := Tryz.sizeOf237
  v138 := Tryz.zeroValue237
  t139 := Tryz.underlying238
  a139 := Tryz.isAgg238
  z139 := Tryz.sizeOf238
  v139 := Tryz.zeroValue238
  t160 := Tryz.underlying239
  a160 := Tryz.isAgg239
  z160 := Tryz.sizeOf239
  v160 := Tryz.zeroValue239
  t162 := Tryz.underlying219
  a162 := Tryz.isAgg219
  z162 := Tryz.sizeOf219
  v162 := Tryz.zeroValue219
  t164 := Tryz.underlying201
  a164 := Tryz.isAgg201
  z164 := Tryz.sizeOf201
  v164 := Tryz.zeroValue201
  t203 := Tryz.underlying217
  a203 := Tryz.isAgg217
  z203 := Tryz.sizeOf217
  v203 := Tryz.zeroValue217
  t206 := Tryz.underlying256
  a206 := Tryz.isAgg256
  z206 := Tryz.sizeOf256
  v206 := Tryz.zeroValue256
  t208 := Tryz.underlying258
  a208 := Tryz.isAgg258
  z208 := Tryz.sizeOf258
  v208 := Tryz.zeroValue258
  g3 := by kernel_rfl
  g4 := by kernel_rfl
  g13 := by kernel_rfl }
theorem Builder_Extra_158 : Builder.Extra Tryz.prog lays158_ren := {
  sizeBuilder := by kernel_rfl
  liesBuilder := by kernel_rfl
  t5 := Tryz.underlying5
  a5 := Tryz.isAgg5
  z5 := Tryz.sizeOf5
  v5 := Tryz.zeroValue5
  infoByte := by kernel_rfl
  cellsByte := by kernel_rfl
  sizeByte := by kernel_rfl
  neB5 := by decide }
def lays159_ren : Go.Shelf.Ren := ⟨fun | 159 => 49 | 165 => 84 | 166 => 67 | 167 => 68 | 169 => 33 | 230 => 85 | 204 => 86 | 240 => 104 | 241 => 116 | 197 => 117 | 118 => 118 | 168 => 119 | 270 => 120 | 262 => 121 | 276 => 139 | 277 => 154 | 260 => 155 | 242 => 156 | 313 => 157 | 278 => 177 | 274 => 178 | 275 => 179 | n => n, fun | 9 => 9 | 4 => 4 | 3 => 3 | 5 => 5 | 72 => 95 | 0 => 0 | 76 => 145 | 75 => 144 | 107 => 164 | 70 => 92 | 20 => 20 | 37 => 93 | 127 => 149 | 21 => 21 | 105 => 184 | 164 => 201 | 162 => 219 | 203 => 217 | 119 => 235 | 46 => 181 | 139 => 238 | 138 => 237 | 51 => 212 | 160 => 239 | 208 => 258 | 206 => 256 | 80 => 98 | n => n, fun | 13 => 2 | 3 => 3 | 4 => 4 | n => n⟩
theorem lays159 : Go.Proofs.Lays.n159 Tryz.prog lays159_ren := {
  mixed := by kernel_rfl
  f118 := Tryz.func118.trans (congrArg some (by kernel_rfl))
  f159 := Tryz.func49.trans (congrArg some (by kernel_rfl))
  f165 := Tryz.func84.trans (congrArg some (by kernel_rfl))
  f166 := Tryz.func67.trans (congrArg some (by kernel_rfl))
  f167 := Tryz.func68.trans (congrArg some (by kernel_rfl))
  f168 := Tryz.func119.trans (congrArg some (by kernel_rfl))
  f169 := Tryz.func33.trans (congrArg some (by kernel_rfl))
  f197 := Tryz.func117.trans (congrArg some (by kernel_rfl))
  f204 := Tryz.func86.trans (congrArg some (by kernel_rfl))
  f230 := Tryz.func85.trans (congrArg some (by kernel_rfl))
  f240 := Tryz.func104.trans (congrArg some (by kernel_rfl))
  f241 := Tryz.func116.trans (congrArg some (by kernel_rfl))
  f242 := Tryz.func156.trans (congrArg some (by kernel_rfl))
  f260 := Tryz.func155.trans (congrArg some (by kernel_rfl))
  f262 := Tryz.func121.trans (congrArg some (by kernel_rfl))
  f270 := Tryz.func120.trans (congrArg some (by kernel_rfl))
  f274 := Tryz.func178.trans (congrArg some (by kernel_rfl))
  f275 := Tryz.func179.trans (congrArg some (by kernel_rfl))
  f276 := Tryz.func139.trans (congrArg some (by kernel_rfl))
  f277 := Tryz.func154.trans (congrArg some (by kernel_rfl))
  f278 := Tryz.func177.trans (congrArg some (by kernel_rfl))
  f313 := Tryz.func157.trans (congrArg some (by kernel_rfl))
  t0 := Tryz.underlying0
  a0 := Tryz.isAgg0
  z0 := Tryz.sizeOf0
  v0 := Tryz.zeroValue0
  t3 := Tryz.underlying3
  a3 := Tryz.isAgg3
  z3 := Tryz.sizeOf3
  v3 := Tryz.zeroValue3
  t4 := Tryz.underlying4
  a4 := Tryz.isAgg4
  z4 := Tryz.sizeOf4
  v4 := Tryz.zeroValue4
  t5 := Tryz.underlying5
  a5 := Tryz.isAgg5
  z5 := Tryz.sizeOf5
  v5 := Tryz.zeroValue5
  t9 := Tryz.underlying9
  a9 := Tryz.isAgg9
  z9 := Tryz.sizeOf9
  v9 := Tryz.zeroValue9
  t20 := Tryz.underlying20
  a20 := Tryz.isAgg20
  z20 := Tryz.sizeOf20
  v20 := Tryz.zeroValue20
  t21 := Tryz.underlying21
  a21 := Tryz.isAgg21
  z21 := Tryz.sizeOf21
  v21 := Tryz.zeroValue21
  t37 := Tryz.underlying93
  a37 := Tryz.isAgg93
  z37 := Tryz.sizeOf93
  v37 := Tryz.zeroValue93
  t46 := Tryz.underlying181
  a46 := Tryz.isAgg181
  z46 := Tryz.sizeOf181
  v46 := Tryz.zeroValue181
  t51 := Tryz.underlying212
  a51 := Tryz.isAgg212
  z51 := Tryz.sizeOf212
  v51 := Tryz.zeroValue212
  t70 := Tryz.underlying92
  a70 := Tryz.isAgg92
  z70 := Tryz.sizeOf92
  v70 := Tryz.zeroValue92
  t72 := Tryz.underlying95
  a72 := Tryz.isAgg95
  z72 := Tryz.sizeOf95
  v72 := Tryz.zeroValue95
  t75 := Tryz.underlying144
  a75 := Tryz.isAgg144
  z75 := Tryz.sizeOf144
  v75 := Tryz.zeroValue144
  t76 := Tryz.underlying145
  a76 := Tryz.isAgg145
  z76 := Tryz.sizeOf145
  v76 := Tryz.zeroValue145
  t105 := Tryz.underlying184
  a105 := Tryz.isAgg184
  z105 := Tryz.sizeOf184
  v105 := Tryz.zeroValue184
  t107 := Tryz.underlying164
  a107 := Tryz.isAgg164
  z107 := Tryz.sizeOf164
  v107 := Tryz.zeroValue164
  t119 := Tryz.underlying235
  a119 := Tryz.isAgg235
  z119 := Tryz.sizeOf235
  t127 := Tryz.underlying149
  a127 := Tryz.isAgg149
  z127 := Tryz.sizeOf149
  v127 := Tryz.zeroValue149
  t138 := Tryz.underlying237
  a138 := Tryz.isAgg237
  z138 := Tryz.sizeOf237
  v138 := Tryz.zeroValue237
  t139 := Tryz.underlying238
  a139 := Tryz.isAgg238
  z139 := Tryz.sizeOf238
  v139 := Tryz.zeroValue238
  t160 := Tryz.underlying239
  a160 := Tryz.isAgg239
  z160 := Tryz.sizeOf239
  v160 := Tryz.zeroValue239
  t162 := Tryz.underlying219
  a162 := Tryz.isAgg219
  z162 := Tryz.sizeOf219
  v162 := Tryz.zeroValue219
  t164 := Tryz.underlying201
  a164 := Tryz.isAgg201
  z164 := Tryz.sizeOf201
  v164 := Tryz.zeroValue201
  t203 := Tryz.underlying217
  a203 := Tryz.isAgg217
  z203 := Tryz.sizeOf217
  v203 := Tryz.zeroValue217
  t206 := Tryz.underlying256
  a206 := Tryz.isAgg256
  z206 := Tryz.sizeOf256
  v206 := Tryz.zeroValue256
  t208 := Tryz.underlying258
  a208 := Tryz.isAgg258
  z208 := Tryz.sizeOf258
  v208 := Tryz.zeroValue258
  g3 := by kernel_rfl
  g4 := by kernel_rfl
  g13 := by kernel_rfl }
theorem Builder_Extra_159 : Builder.Extra Tryz.prog lays159_ren := {
  sizeBuilder := by kernel_rfl
  liesBuilder := by kernel_rfl
  t5 := Tryz.underlying5
  a5 := Tryz.isAgg5
  z5 := Tryz.sizeOf5
  v5 := Tryz.zeroValue5
  infoByte := by kernel_rfl
  cellsByte := by kernel_rfl
  sizeByte := by kernel_rfl
  neB5 := by decide }
def lays156_ren : Go.Shelf.Ren := ⟨fun | 156 => 215 | 165 => 84 | 166 => 67 | 169 => 33 | 240 => 104 | 241 => 116 | 276 => 139 | 277 => 154 | n => n, fun | 31 => 41 | 9 => 9 | 3 => 3 | 4 => 4 | 0 => 0 | 20 => 20 | 72 => 95 | 76 => 145 | 70 => 92 | 37 => 93 | 75 => 144 | 127 => 149 | 164 => 201 | 5 => 5 | 80 => 98 | n => n, fun | n => n⟩
theorem lays156 : Go.Proofs.Lays.n156 Tryz.prog lays156_ren := {
  mixed := by kernel_rfl
  f156 := Tryz.func215.trans (congrArg some (by kernel_rfl))
  f165 := Tryz.func84.trans (congrArg some (by kernel_rfl))
  f166 := Tryz.func67.trans (congrArg some (by kernel_rfl))
  f169 := Tryz.func33.trans (congrArg some (by kernel_rfl))
  f240 := Tryz.func104.trans (congrArg some (by kernel_rfl))
  f241 := Tryz.func116.trans (congrArg some (by kernel_rfl))
  f276 := Tryz.func139.trans (congrArg some (by kernel_rfl))
  f277 := Tryz.func154.trans (congrArg some (by kernel_rfl))
  t0 := Tryz.underlying0
  a0 := Tryz.isAgg0
  z0 := Tryz.sizeOf0
  v0 := Tryz.zeroValue0
  t3 := Tryz.underlying3
  a3 := Tryz.isAgg3
  z3 := Tryz.sizeOf3
  v3 := Tryz.zeroValue3
  t4 := Tryz.underlying4
  a4 := Tryz.isAgg4
  z4 := Tryz.sizeOf4
  v4 := Tryz.zeroValue4
  t9 := Tryz.underlying9
  a9 := Tryz.isAgg9
  z9 := Tryz.sizeOf9
  v9 := Tryz.zeroValue9
  t20 := Tryz.underlying20
  a20 := Tryz.isAgg20
  z20 := Tryz.sizeOf20
  v20 := Tryz.zeroValue20
  t31 := Tryz.underlying41
  a31 := Tryz.isAgg41
  z31 := Tryz.sizeOf41
  v31 := Tryz.zeroValue41
  t37 := Tryz.underlying93
  a37 := Tryz.isAgg93
  z37 := Tryz.sizeOf93
  v37 := Tryz.zeroValue93
  t70 := Tryz.underlying92
  a70 := Tryz.isAgg92
  z70 := Tryz.sizeOf92
  v70 := Tryz.zeroValue92
  t72 := Tryz.underlying95
  a72 := Tryz.isAgg95
  z72 := Tryz.sizeOf95
  v72 := Tryz.zeroValue95
  t75 := Tryz.underlying144
  a75 := Tryz.isAgg144
  z75 := Tryz.sizeOf144
  v75 := Tryz.zeroValue144
  t76 := Tryz.underlying145
  a76 := Tryz.isAgg145
  z76 := Tryz.sizeOf145
  v76 := Tryz.zeroValue145
  t127 := Tryz.underlying149
  a127 := Tryz.isAgg149
  z127 := Tryz.sizeOf149
  v127 := Tryz.zeroValue149
  t164 := Tryz.underlying201
  a164 := Tryz.isAgg201
  z164 := Tryz.sizeOf201
  v164 := Tryz.zeroValue201 }
theorem Builder_Extra_156 : Builder.Extra Tryz.prog lays156_ren := {
  sizeBuilder := by kernel_rfl
  liesBuilder := by kernel_rfl
  t5 := Tryz.underlying5
  a5 := Tryz.isAgg5
  z5 := Tryz.sizeOf5
  v5 := Tryz.zeroValue5
  infoByte := by kernel_rfl
  cellsByte := by kernel_rfl
  sizeByte := by kernel_rfl
  neB5 := by decide }
def lays147_ren : Go.Shelf.Ren := ⟨fun | 147 => 47 | 221 => 81 | 268 => 113 | 138 => 114 | 143 => 115 | 195 => 151 | 197 => 117 | 218 => 152 | 219 => 153 | 260 => 155 | 217 => 173 | 225 => 174 | 224 => 175 | 267 => 176 | 266 => 188 | 314 => 189 | n => n, fun | 9 => 9 | 3 => 3 | 31 => 41 | 4 => 4 | 0 => 0 | 105 => 184 | 21 => 21 | 5 => 5 | 46 => 181 | 119 => 235 | 139 => 238 | 138 => 237 | 146 => 253 | 51 => 212 | n => n, fun | 1 => 1 | 3 => 3 | 4 => 4 | n => n⟩
theorem lays147 : Go.Proofs.Lays.n147 Tryz.prog lays147_ren := {
  mixed := by kernel_rfl
  f138 := Tryz.func114.trans (congrArg some (by kernel_rfl))
  f143 := Tryz.func115.trans (congrArg some (by kernel_rfl))
  f147 := Tryz.func47.trans (congrArg some (by kernel_rfl))
  f195 := Tryz.func151.trans (congrArg some (by kernel_rfl))
  f197 := Tryz.func117.trans (congrArg some (by kernel_rfl))
  f217 := Tryz.func173.trans (congrArg some (by kernel_rfl))
  f218 := Tryz.func152.trans (congrArg some (by kernel_rfl))
  f219 := Tryz.func153.trans (congrArg some (by kernel_rfl))
  f221 := Tryz.func81.trans (congrArg some (by kernel_rfl))
  f224 := Tryz.func175.trans (congrArg some (by kernel_rfl))
  f225 := Tryz.func174.trans (congrArg some (by kernel_rfl))
  f260 := Tryz.func155.trans (congrArg some (by kernel_rfl))
  f266 := Tryz.func188.trans (congrArg some (by kernel_rfl))
  f267 := Tryz.func176.trans (congrArg some (by kernel_rfl))
  f268 := Tryz.func113.trans (congrArg some (by kernel_rfl))
  f314 := Tryz.func189.trans (congrArg some (by kernel_rfl))
  t0 := Tryz.underlying0
  a0 := Tryz.isAgg0
  z0 := Tryz.sizeOf0
  v0 := Tryz.zeroValue0
  t3 := Tryz.underlying3
  a3 := Tryz.isAgg3
  z3 := Tryz.sizeOf3
  v3 := Tryz.zeroValue3
  t4 := Tryz.underlying4
  a4 := Tryz.isAgg4
  z4 := Tryz.sizeOf4
  v4 := Tryz.zeroValue4
  t5 := Tryz.underlying5
  a5 := Tryz.isAgg5
  z5 := Tryz.sizeOf5
  v5 := Tryz.zeroValue5
  t9 := Tryz.underlying9
  a9 := Tryz.isAgg9
  z9 := Tryz.sizeOf9
  v9 := Tryz.zeroValue9
  t21 := Tryz.underlying21
  a21 := Tryz.isAgg21
  z21 := Tryz.sizeOf21
  v21 := Tryz.zeroValue21
  t31 := Tryz.underlying41
  a31 := Tryz.isAgg41
  z31 := Tryz.sizeOf41
  v31 := Tryz.zeroValue41
  t46 := Tryz.underlying181
  a46 := Tryz.isAgg181
  z46 := Tryz.sizeOf181
  v46 := Tryz.zeroValue181
  t51 := Tryz.underlying212
  a51 := Tryz.isAgg212
  z51 := Tryz.sizeOf212
  v51 := Tryz.zeroValue212
  t105 := Tryz.underlying184
  a105 := Tryz.isAgg184
  z105 := Tryz.sizeOf184
  v105 := Tryz.zeroValue184
  t119 := Tryz.underlying235
  a119 := Tryz.isAgg235
  z119 := Tryz.sizeOf235
  t138 := Tryz.underlying237
  a138 := Tryz.isAgg237
  z138 := Tryz.sizeOf237
  v138 := Tryz.zeroValue237
  t139 := Tryz.underlying238
  a139 := Tryz.isAgg238
  z139 := Tryz.sizeOf238
  v139 := Tryz.zeroValue238
  t146 := Tryz.underlying253
  a146 := Tryz.isAgg253
  z146 := Tryz.sizeOf253
  v146 := Tryz.zeroValue253
  g1 := by kernel_rfl
  g3 := by kernel_rfl
  g4 := by kernel_rfl }
def lays185_ren : Go.Shelf.Ren := ⟨fun | 185 => 186 | 187 => 196 | 115 => 197 | 253 => 198 | 224 => 175 | 254 => 199 | 255 => 208 | 291 => 209 | n => n, fun | 37 => 93 | 3 => 3 | 4 => 4 | 0 => 0 | 5 => 5 | 46 => 181 | 9 => 9 | 146 => 253 | 51 => 212 | n => n, fun | 1 => 1 | n => n⟩
theorem lays185 : Go.Proofs.Lays.n185 Tryz.prog lays185_ren := {
  mixed := by kernel_rfl
  f115 := Tryz.func197.trans (congrArg some (by kernel_rfl))
  f185 := Tryz.func186.trans (congrArg some (by kernel_rfl))
  f187 := Tryz.func196.trans (congrArg some (by kernel_rfl))
  f224 := Tryz.func175.trans (congrArg some (by kernel_rfl))
  f253 := Tryz.func198.trans (congrArg some (by kernel_rfl))
  f254 := Tryz.func199.trans (congrArg some (by kernel_rfl))
  f255 := Tryz.func208.trans (congrArg some (by kernel_rfl))
  f291 := Tryz.func209.trans (congrArg some (by kernel_rfl))
  t0 := Tryz.underlying0
  a0 := Tryz.isAgg0
  z0 := Tryz.sizeOf0
  v0 := Tryz.zeroValue0
  t3 := Tryz.underlying3
  a3 := Tryz.isAgg3
  z3 := Tryz.sizeOf3
  v3 := Tryz.zeroValue3
  t4 := Tryz.underlying4
  a4 := Tryz.isAgg4
  z4 := Tryz.sizeOf4
  v4 := Tryz.zeroValue4
  t5 := Tryz.underlying5
  a5 := Tryz.isAgg5
  z5 := Tryz.sizeOf5
  v5 := Tryz.zeroValue5
  t9 := Tryz.underlying9
  a9 := Tryz.isAgg9
  z9 := Tryz.sizeOf9
  v9 := Tryz.zeroValue9
  t37 := Tryz.underlying93
  a37 := Tryz.isAgg93
  z37 := Tryz.sizeOf93
  v37 := Tryz.zeroValue93
  t46 := Tryz.underlying181
  a46 := Tryz.isAgg181
  z46 := Tryz.sizeOf181
  v46 := Tryz.zeroValue181
  t51 := Tryz.underlying212
  a51 := Tryz.isAgg212
  z51 := Tryz.sizeOf212
  v51 := Tryz.zeroValue212
  t146 := Tryz.underlying253
  a146 := Tryz.isAgg253
  z146 := Tryz.sizeOf253
  v146 := Tryz.zeroValue253
  g1 := by kernel_rfl }
def laysSlT4_ren : Go.Shelf.Ren := ⟨fun | 4 => 167 | 5 => 186 | 6 => 196 | 7 => 197 | 8 => 198 | 9 => 175 | 10 => 199 | 11 => 208 | 12 => 209 | n => n, fun | 22 => 93 | 4 => 4 | 3 => 3 | 0 => 0 | 5 => 5 | 29 => 181 | 9 => 9 | 31 => 253 | 30 => 212 | n => n, fun | 0 => 1 | n => n⟩
theorem laysSlT4 : Go.Proofs.SlLaysT.n4 Tryz.prog laysSlT4_ren := {
  mixed := by kernel_rfl
  f4 := Tryz.func167.trans (congrArg some (by kernel_rfl))
  f5 := Tryz.func186.trans (congrArg some (by kernel_rfl))
  f6 := Tryz.func196.trans (congrArg some (by kernel_rfl))
  f7 := Tryz.func197.trans (congrArg some (by kernel_rfl))
  f8 := Tryz.func198.trans (congrArg some (by kernel_rfl))
  f9 := Tryz.func175.trans (congrArg some (by kernel_rfl))
  f10 := Tryz.func199.trans (congrArg some (by kernel_rfl))
  f11 := Tryz.func208.trans (congrArg some (by kernel_rfl))
  f12 := Tryz.func209.trans (congrArg some (by kernel_rfl))
  t0 := Tryz.underlying0
  a0 := Tryz.isAgg0
  z0 := Tryz.sizeOf0
  v0 := Tryz.zeroValue0
  t3 := Tryz.underlying3
  a3 := Tryz.isAgg3
  z3 := Tryz.sizeOf3
  v3 := Tryz.zeroValue3
  t4 := Tryz.underlying4
  a4 := Tryz.isAgg4
  z4 := Tryz.sizeOf4
  v4 := Tryz.zeroValue4
  t5 := Tryz.underlying5
  a5 := Tryz.isAgg5
  z5 := Tryz.sizeOf5
  v5 := Tryz.zeroValue5
  t9 := Tryz.underlying9
  a9 := Tryz.isAgg9
  z9 := Tryz.sizeOf9
  v9 := Tryz.zeroValue9
  t22 := Tryz.underlying93
  a22 := Tryz.isAgg93
  z22 := Tryz.sizeOf93
  v22 := Tryz.zeroValue93
  t29 := Tryz.underlying181
  a29 := Tryz.isAgg181
  z29 := Tryz.sizeOf181
  v29 := Tryz.zeroValue181
  t30 := Tryz.underlying212
  a30 := Tryz.isAgg212
  z30 := Tryz.sizeOf212
  v30 := Tryz.zeroValue212
  t31 := Tryz.underlying253
  a31 := Tryz.isAgg253
  z31 := Tryz.sizeOf253
  v31 := Tryz.zeroValue253
  g0 := by kernel_rfl }
end Go.Proofs.YtlheaabmpcnchaaGreatDoor
set_option linter.unusedVariables false
set_option linter.unusedSimpArgs false
namespace Go.Proofs.YtlheaabmpcnchaaGreatDoor
open Go.RowKit

/-- A name's cells. -/
def nc (x : D.Tg) : Array Value := (bys x.l).toArray
theorem nc_size (x : D.Tg) : (nc x).size = 10 := by simp [nc, bys_len, x.len]
theorem bys_inj {l k : List Nat} (h : bys l = bys k) : l = k := by
  induction l generalizing k with
  | nil => cases k with
    | nil => rfl
    | cons b k => simp [bys] at h
  | cons a l ih => cases k with
    | nil => simp [bys] at h
    | cons b k =>
      simp only [bys, List.map_cons, List.cons.injEq, Value.int.injEq, true_and] at h
      obtain ⟨h1, h2⟩ := h
      rw [ih h2, show a = b by omega]
theorem nc_inj {x y : D.Tg} (h : nc x = nc y) : x = y := D.Tg.eq (bys_inj (by simpa [nc] using h))
theorem nc_one (x : D.Tg) : (nc x).all (·.oneCell') = true := all_oneCell_toArray (bys_one x.l)
theorem nc_zero : nc D.zero = #[.int .u8 0, .int .u8 0, .int .u8 0, .int .u8 0, .int .u8 0, .int .u8 0, .int .u8 0, .int .u8 0, .int .u8 0, .int .u8 0] := rfl

/-- At this address lies this name. -/
def At (w : World) (a : Addr) (x : D.Tg) : Prop := ∀ j u, (bys x.l)[j]? = some u → w.cell? (a.add j) = some u
theorem At.one {w : World} {a : Addr} {x y : D.Tg} (h : At w a x) (k : At w a y) : x = y := by
  refine D.Tg.eq (bys_inj (List.ext_getElem? fun j => ?_))
  by_cases hj : j < 10
  · have e1 : (bys x.l)[j]? = some ((bys x.l)[j]'(by rw [bys_len, x.len]; exact hj)) := List.getElem?_eq_getElem _
    have e2 : (bys y.l)[j]? = some ((bys y.l)[j]'(by rw [bys_len, y.len]; exact hj)) := List.getElem?_eq_getElem _
    have := (h j _ e1).symm.trans (k j _ e2)
    rw [e1, e2, this]
  · rw [List.getElem?_eq_none (by rw [bys_len, x.len]; omega), List.getElem?_eq_none (by rw [bys_len, y.len]; omega)]
open Classical in
/-- The name that lies at an address. -/
noncomputable def rd (w : World) (a : Addr) : Option D.Tg := if h : ∃ x, At w a x then some (Classical.choose h) else none
theorem rd_of {w : World} {a : Addr} {x : D.Tg} (h : At w a x) : rd w a = some x := by
  have hx : ∃ x, At w a x := ⟨x, h⟩
  rw [rd, dif_pos hx, (Classical.choose_spec hx).one h]
theorem at_of {w : World} {a : Addr} {x : D.Tg} (h : rd w a = some x) : At w a x := by
  unfold rd at h
  split at h
  · rename_i hx
    injection h with h
    rw [← h]
    exact Classical.choose_spec hx
  · cases h
theorem At.to {w w' : World} {a : Addr} {x : D.Tg} (h : At w a x) (hk : w'.heap[a.block]? = w.heap[a.block]?) : At w' a x := fun j u hu =>
  (World.cell?_of_block (w := w) (by rw [block_of_add]; exact hk)).trans (h j u hu)
theorem rd_to {w w' : World} {a : Addr} (hk : w'.heap[a.block]? = w.heap[a.block]?) : rd w' a = rd w a := by
  by_cases h : ∃ x, At w a x
  · obtain ⟨x, hx⟩ := h
    rw [rd_of hx, rd_of (hx.to hk)]
  · have h' : ¬ ∃ x, At w' a x := fun ⟨x, hx⟩ => h ⟨x, hx.to hk.symm⟩
    rw [rd, rd, dif_neg h, dif_neg h']
theorem rd_lt {w : World} {a : Addr} {x : D.Tg} (h : rd w a = some x) : a.block < w.heap.size := by
  have e1 : (bys x.l)[0]? = some ((bys x.l)[0]'(by rw [bys_len, x.len]; decide)) := List.getElem?_eq_getElem _
  have := World.block_lt_of_cell? w _ (at_of h 0 _ e1)
  rwa [block_of_add] at this
theorem rd_on {w w' : World} {a : Addr} {x : D.Tg} (h : rd w a = some x) (hb : Below w.heap.size w w') : rd w' a = some x := (rd_to (hb.block _ (rd_lt h))).trans h
theorem rd_blk {w : World} {g : Nat} {t : TypeId} {x : D.Tg} (h : Blk w g t (nc x)) : rd w ⟨g, 0, none⟩ = some x := rd_of fun j u hu => by
  rw [World.news_of_block h.out j u]
  simpa [nc] using hu
theorem rd_new (w : World) (n : Nat) (t : TypeId) (x : D.Tg) (h : n = w.heap.size) : rd (w.alloc (.cells (nc x) t)) ⟨n, 0, none⟩ = some x := by
  subst h
  exact rd_blk (Blk.new w t (nc x))
theorem rd_old (w : World) (a : Addr) (o : Obj) (h : a.block < w.heap.size) : rd (w.alloc o) a = rd w a := rd_to (Below.heap_alloc w o _ h)
theorem rd_drew (w : World) (a : Addr) : rd w.drew a = rd w a := rd_to rfl
theorem rd_drewN (w : World) (a : Addr) (n : Nat) : rd (w.drewN n) a = rd w a := rd_to rfl
/-- The whole name out of its variable. -/
noncomputable def ld (t : TypeId) (v : Value) : Sem Value := Instr.loadAt t v
noncomputable def bad (t : TypeId) (a : Addr) (w : World) : Result Value := (Instr.loadAt t (.pointer (some a))).run Tryz.prog w
theorem ld_a (v : Value) : Instr.loadAt 57 v = ld 57 v := rfl
theorem ld_n (v : Value) : Instr.loadAt 57 v = ld 57 v := rfl
theorem run_load {w : World} {a : Addr} {x : D.Tg} (t : TypeId) (ht : t = 57 ∨ t = 57) (h : At w a x) : (Instr.loadAt t (.pointer (some a))).run Tryz.prog w = .ok (.agg (nc x)) w := by
  have hl := run_loadCells_list (P := Tryz.prog) w a (bys x.l) h
  rw [bys_len, x.len] at hl
  rcases ht with rfl | rfl
  · simp only [Instr.loadAt, Instr.sureAddr, Sem.run_bind, Sem.run_pure, Result.andThen_ok, loadVar, Tryz.isAgg57, Tryz.sizeOf57, if_true, hl]
    rfl
  · simp only [Instr.loadAt, Instr.sureAddr, Sem.run_bind, Sem.run_pure, Result.andThen_ok, loadVar, Tryz.isAgg57, Tryz.sizeOf57, if_true, hl]
    rfl
set_option maxRecDepth 100000 in
theorem run_ld (w : World) (a : Addr) (t : TypeId) (ht : t = 57 ∨ t = 57) : (ld t (.pointer (some a))).run Tryz.prog w = (rd w a).elim (bad t a w) fun x => .ok (.agg (nc x)) w := by
  cases h : rd w a with
  | none => rfl
  | some x => exact run_load t ht (at_of h)
theorem run_ld_a (w : World) (a : Addr) : (ld 57 (.pointer (some a))).run Tryz.prog w = (rd w a).elim (bad 57 a w) fun x => .ok (.agg (nc x)) w := run_ld w a _ (.inl rfl)
theorem run_ld_n (w : World) (a : Addr) : (ld 57 (.pointer (some a))).run Tryz.prog w = (rd w a).elim (bad 57 a w) fun x => .ok (.agg (nc x)) w := run_ld w a _ (.inr rfl)

/-- A whole name into a variable that was made last. -/
noncomputable def st (t : TypeId) (p v : Value) : Sem Unit := Instr.storeAt t p v
theorem st_a (p v : Value) : Instr.storeAt 57 p v = st 57 p v := rfl
theorem st_n (p v : Value) : Instr.storeAt 57 p v = st 57 p v := rfl
theorem run_st_n (w : World) (n : Nat) (x : D.Tg) (h : n = w.heap.size) :
    (st 57 (.pointer (some ⟨n, 0, none⟩)) (.agg (nc x))).run Tryz.prog (w.alloc (.cells #[.int .u8 0, .int .u8 0, .int .u8 0, .int .u8 0, .int .u8 0, .int .u8 0, .int .u8 0, .int .u8 0, .int .u8 0, .int .u8 0] 57)) = .ok () (w.alloc (.cells (nc x) 57)) := by
  subst h
  exact run_storeAt_new (P := Tryz.prog) w 57 _ (nc x) (by rw [nc_size]; kernel_rfl) (by rw [nc_size]; rfl) (nc_one x)

/-- Two names compared. -/
noncomputable def eq10 (t : TypeId) (u v : Value) : Sem Value := binOp .eql t u v
noncomputable def ne10 (t : TypeId) (u v : Value) : Sem Value := binOp .neq t u v
theorem eq_a (u v : Value) : binOp .eql 57 u v = eq10 57 u v := rfl
theorem eq_n (u v : Value) : binOp .eql 57 u v = eq10 57 u v := rfl
theorem ne_a (u v : Value) : binOp .neq 57 u v = ne10 57 u v := rfl
theorem ne_n (u v : Value) : binOp .neq 57 u v = ne10 57 u v := rfl
def sm (x y : D.Tg) : Bool := decide (x = y)

theorem mapM_all {α β : Type} {g : α → Option β} {h : α → β} : ∀ l : List α, (∀ a ∈ l, g a = some (h a)) → l.mapM g = some (l.map h)
  | [], _ => rfl
  | a :: l, hl => by
    rw [List.mapM_cons, hl a (by simp), mapM_all l fun b hb => hl b (by simp [hb])]
    rfl
theorem one_bys {l : List Nat} {i : Nat} (h : i < l.length) : ((bys l).drop i).take 1 = [.int .u8 ((l.getD i 0 : Nat) : Int)] := by
  apply List.ext_getElem?
  intro j
  cases j with
  | zero =>
    rw [List.getElem?_take_of_lt (by omega), List.getElem?_drop, Nat.add_zero]
    simp [bys, List.getElem?_eq_getElem h, List.getD]
  | succ j =>
    rw [List.getElem?_take_eq_none (by omega)]; rfl
theorem keyed_n : Tryz.prog.keyType 57 = true := by kernel_rfl
theorem keyed_a : Tryz.prog.keyType 57 = true := by kernel_rfl
theorem cells_u8 : Tryz.prog.cellsOf 5 = 1 := by kernel_rfl
theorem lits_arr (l : List Nat) (hl : ∀ b ∈ l, b < 256) (n : Nat) (hn : l.length = n) (t : TypeId) (d : Nat) (hu : Tryz.prog.underlying t = some (.array n 5)) (hc : Tryz.prog.cellsOf t = n) : Tryz.prog.keyLits (d + 2) t (bys l) = some ((List.range n).map fun i => [Lit.int .u8 ((l.getD i 0 : Nat) : Int)]).flatten := by
  have hm : (List.range n).mapM (fun i => Tryz.prog.keyLits (d + 1) 5 (((bys l).drop (i * Tryz.prog.cellsOf 5)).take (Tryz.prog.cellsOf 5))) = some ((List.range n).map fun i => [Lit.int .u8 ((l.getD i 0 : Nat) : Int)]) := by
    refine mapM_all _ fun i hi => ?_
    have hi' := List.mem_range.1 hi
    rw [cells_u8, Nat.mul_one, one_bys (by rw [hn]; exact hi')]
    have hb : l.getD i 0 < 256 := by
      rw [List.getD, List.getElem?_eq_getElem (by rw [hn]; exact hi')]
      exact hl _ (List.getElem_mem _)
    obtain ⟨b, hq⟩ : ∃ b, l.getD i 0 = b := ⟨_, rfl⟩
    rw [hq] at hb ⊢
    have hw : (Lit.int .u8 ((b : Nat) : Int)).wf = true := by
      simp [Lit.wf, IntKind.min, IntKind.max, IntKind.bits, IntKind.signed]
      omega
    unfold Program.keyLits
    rw [Tryz.underlying5]
    simp [hw]
  unfold Program.keyLits
  rw [hu]
  simp only [bys_len, hn, hc, if_true, hm, Option.map_some]
theorem key_lits_n (x : D.Tg) (d : Nat) : ∃ l, Tryz.prog.keyLits (d + 3) 57 (bys x.l) = some l := by
  have hl := x.len
  have c26 : Tryz.prog.cellsOf 54 = 3 := by kernel_rfl
  have c27 : Tryz.prog.cellsOf 55 = 4 := by kernel_rfl
  have c29 : Tryz.prog.cellsOf 57 = 10 := by kernel_rfl
  have h1 := lits_arr (x.l.take 3) (fun b hb => x.lt b (List.mem_of_mem_take hb)) 3 (by simp; omega) 54 d Tryz.underlying54 c26
  have h2 := lits_arr ((x.l.drop 3).take 4) (fun b hb => x.lt b (List.mem_of_mem_drop (List.mem_of_mem_take hb))) 4 (by simp; omega) 55 d Tryz.underlying55 c27
  have h3 := lits_arr (x.l.drop 7) (fun b hb => x.lt b (List.mem_of_mem_drop hb)) 3 (by simp; omega) 54 d Tryz.underlying54 c26
  have e3 : (bys (x.l.drop 7)).take 3 = bys (x.l.drop 7) := List.take_of_length_le (by rw [bys_len]; simp; omega)
  rw [← e3] at h3
  simp only [← bys_take, ← bys_drop] at h1 h2 h3
  unfold Program.keyLits
  rw [Tryz.underlying57]
  simp only [bys_len, hl, c29, c26, c27]
  simp [h1, h2, h3, c26, c27]
theorem key_lits (x : D.Tg) (t : TypeId) (d : Nat) (ht : t = 57 ∨ t = 57) : ∃ l, Tryz.prog.keyLits (d + 3) t (bys x.l) = some l := by
  rcases ht with rfl | rfl
  · exact key_lits_n x d
  · exact key_lits_n x d
theorem key_of (x : D.Tg) (t : TypeId) (ht : t = 57 ∨ t = 57) : ∃ l, keyOf Tryz.prog t (.agg (nc x)) = some l := by
  obtain ⟨l, hl⟩ := key_lits x t (Tryz.prog.types.size - 2) ht
  have hs : ((bys x.l).toArray.size == Tryz.prog.cellsOf t) = true := by
    rw [show (bys x.l).toArray.size = 10 from nc_size x]
    rcases ht with rfl | rfl
    · rw [show Tryz.prog.cellsOf 57 = 10 by kernel_rfl]; rfl
    · rw [show Tryz.prog.cellsOf 57 = 10 by kernel_rfl]; rfl
  refine ⟨.string (keyBytes l), ?_⟩
  unfold keyOf
  rcases ht with rfl | rfl
  · rw [Tryz.underlying57]
    simp only [keyed_a, Value.formed, Tryz.underlying57, Value.cells, nc, Bool.true_and, hs, if_true]
    rw [show Tryz.prog.types.size + 1 = Tryz.prog.types.size - 2 + 3 by kernel_rfl, hl]
    rfl
  · rw [Tryz.underlying57]
    simp only [keyed_n, Value.formed, Tryz.underlying57, Value.cells, nc, Bool.true_and, hs, if_true]
    rw [show Tryz.prog.types.size + 1 = Tryz.prog.types.size - 2 + 3 by kernel_rfl, hl]
    rfl
theorem laid_out : laidOutB Tryz.prog = true := by kernel_rfl
theorem law_n : Maps.Keyed Tryz.prog 57 := Maps.Keyed.of_law (deep_law_laid laid_out (m := 4) (by omega) (of_decide_eq_true (by kernel_rfl)) (by kernel_rfl) (by rw [Tryz.underlying57]))
theorem law_a : Maps.Keyed Tryz.prog 57 := Maps.Keyed.of_law (deep_law_laid laid_out (m := 4) (by omega) (of_decide_eq_true (by kernel_rfl)) (by kernel_rfl) (by rw [Tryz.underlying57]))
set_option maxRecDepth 100000 in
theorem run_equal (t : TypeId) (ht : t = 57 ∨ t = 57) (x y : D.Tg) (w : World) : (Op.equal t (.agg (nc x)) (.agg (nc y))).run Tryz.prog w = .ok (sm x y) w := by
  obtain ⟨lx, hx⟩ := key_of x t ht
  obtain ⟨ly, hy⟩ := key_of y t ht
  have hk : Tryz.prog.keyTypeAt 4 t = true := by rcases ht with rfl | rfl <;> kernel_rfl
  have hw : (match Tryz.prog.underlying t with | some (.array _ _) | some (.struct _) => true | _ => false) = true := by
    rcases ht with rfl | rfl
    · rw [Tryz.underlying57]
    · rw [Tryz.underlying57]
  have K : Maps.Keyed Tryz.prog t := by rcases ht with rfl | rfl; exact law_a; exact law_n
  obtain ⟨r, hr, hiff⟩ := run_equal_deep (P := Tryz.prog) w (m := 4) (by omega) hk hw hx hy
  rw [hr]
  congr 1
  have : (r = true) ↔ x = y := by
    rw [hiff]
    constructor
    · intro e
      subst e
      have := K.inj hx hy
      injection this with this
      exact nc_inj this
    · intro e
      subst e
      rw [hx] at hy
      injection hy
  unfold sm
  cases r
  · symm; simpa using this
  · symm; simpa using this
theorem run_eq (w : World) (t : TypeId) (ht : t = 57 ∨ t = 57) (x y : D.Tg) : (eq10 t (.agg (nc x)) (.agg (nc y))).run Tryz.prog w = .ok (.bool (sm x y)) w := by
  simp only [eq10, binOp]
  rw [Sem.run_bind, run_equal t ht]
  rfl
theorem run_ne (w : World) (t : TypeId) (ht : t = 57 ∨ t = 57) (x y : D.Tg) : (ne10 t (.agg (nc x)) (.agg (nc y))).run Tryz.prog w = .ok (.bool (!sm x y)) w := by
  simp only [ne10, binOp]
  rw [Sem.run_bind, run_equal t ht]
  rfl
theorem run_eq_a (w : World) (x y : D.Tg) : (eq10 57 (.agg (nc x)) (.agg (nc y))).run Tryz.prog w = .ok (.bool (sm x y)) w := run_eq w _ (.inl rfl) x y
theorem run_eq_n (w : World) (x y : D.Tg) : (eq10 57 (.agg (nc x)) (.agg (nc y))).run Tryz.prog w = .ok (.bool (sm x y)) w := run_eq w _ (.inr rfl) x y
theorem run_ne_a (w : World) (x y : D.Tg) : (ne10 57 (.agg (nc x)) (.agg (nc y))).run Tryz.prog w = .ok (.bool (!sm x y)) w := run_ne w _ (.inl rfl) x y
theorem run_ne_n (w : World) (x y : D.Tg) : (ne10 57 (.agg (nc x)) (.agg (nc y))).run Tryz.prog w = .ok (.bool (!sm x y)) w := run_ne w _ (.inr rfl) x y
end Go.Proofs.YtlheaabmpcnchaaGreatDoor
