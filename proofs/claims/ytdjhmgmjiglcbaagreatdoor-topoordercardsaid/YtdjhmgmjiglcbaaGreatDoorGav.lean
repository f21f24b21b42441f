/- Lemmas. -/
import Derived.Shelf.Strings.Builder1
import Derived.Shelf.Strings.Builder2
import Derived.Shelf.Strings.Trim
import Derived.Shelf.Strings.BuilderF
import Derived.Shelf.Strconv.Atoi
import Derived.Shelf.Strconv.Itoa0
import Derived.Shelf.Strconv.Itoa1
import Derived.Shelf.LaysM
import Derived.Shelf.Strconv.Itoa2
import Derived.Shelf.Strconv.Itoa3
import Derived.Shelf.Strconv.Itoa4
import Derived.Shelf.Strconv.ParseIntEmpty
import Derived.Shelf.Strconv.Clone
import Derived.Shelf.Strconv.SyntaxError
import Derived.Shelf.LaysC
import Derived.Shelf.Strconv.ToError
import Derived.Shelf.Strconv.Lower
import Derived.Shelf.Strconv.ParseUint10
import Derived.Shelf.Strconv.ParseUint10Empty
import Derived.Shelf.Strconv.ParseUint10Any
import Derived.Shelf.Strconv.ParseInt10
import Derived.Shelf.Strconv.RangeError
import Derived.Shelf.Strconv.ToErrorRange
import Derived.Shelf.Strconv.ParseUintEmpty
import Derived.Shelf.Strconv.ParseUint10b64
import Derived.Shelf.Strconv.ParseUint10b32
import Derived.Shelf.Strconv.ParseUint10b16
import Derived.Shelf.Strconv.ParseUint10b8
import Derived.Shelf.Strconv.ParseUint10At
import Derived.Shelf.Strconv.ParseInt10At64
import Derived.Shelf.Strconv.ParseInt10At32
import Derived.Shelf.Strconv.ParseInt10At16
import Derived.Shelf.Strconv.ParseInt10At8
import Derived.Shelf.Strconv.ParseInt10All
import Derived.Shelf.Strconv.ParseIntPublic10
import Derived.Shelf.Strings.Prefix
import Derived.Shelf.Bits.Mul64
import Derived.Shelf.Strings.Repeat
import Derived.Test.YtdjhmgmjiglcbaaGreatDoorProg
import Derived.Test.YtdjhmgmjiglcbaaGreatDoorGat
import Derived.Test.YtdjhmgmjiglcbaaGreatDoorGal
import Derived.Lib.AppendIntMem
set_option maxRecDepth 100000
set_option maxHeartbeats 8000000
namespace Go.Proofs
open Go.Shelf
def Tryz.lays170_ren:Go.Shelf.Ren:=⟨fun|170=>210|n=>n,fun|70=>217|3=>3|0=>0|72=>219|37=>107|5=>5|n=>n,fun|n=>n⟩
def Tryz.lays169_ren:Go.Shelf.Ren:=⟨fun|169=>211|n=>n,fun|70=>217|9=>9|0=>0|72=>219|37=>107|127=>249|3=>3|5=>5|n=>n,fun|n=>n⟩
def Tryz.lays241_ren:Go.Shelf.Ren:=⟨fun|241=>237|277=>255|n=>n,fun|70=>217|3=>3|0=>0|72=>219|37=>107|5=>5|n=>n,fun|n=>n⟩
def Tryz.lays165_ren:Go.Shelf.Ren:=⟨fun|165=>208|240=>236|241=>237|276=>254|277=>255|n=>n,fun|70=>217|3=>3|0=>0|4=>4|9=>9|20=>20|72=>219|37=>107|164=>272|5=>5|n=>n,fun|n=>n⟩
def Tryz.lays232_ren:Go.Shelf.Ren:=⟨fun|232=>275|n=>n,fun|9=>9|5=>5|3=>3|4=>4|n=>n,fun|n=>n⟩
def Tryz.lays162_ren:Go.Shelf.Ren:=⟨fun|162=>259|232=>275|227=>276|234=>277|236=>278|228=>290|271=>291|151=>292|120=>308|197=>199|152=>309|260=>219|137=>186|119=>323|224=>221|225=>220|217=>212|266=>238|n=>n,fun|9=>9|4=>4|3=>3|5=>5|117=>296|116=>295|0=>0|124=>299|21=>21|105=>205|46=>168|119=>256|139=>259|138=>258|n=>n,fun|3=>2|4=>3|n=>n⟩
theorem Tryz.lays162:Go.Proofs.Lays.n162 Tryz.prog Tryz.lays162_ren:={
 mixed:=by kernel_rfl
 f119:=Tryz.func323.trans (congrArg some (by kernel_rfl))
 f120:=Tryz.func308.trans (congrArg some (by kernel_rfl))
 f137:=Tryz.func186.trans (congrArg some (by kernel_rfl))
 f151:=Tryz.func292.trans (congrArg some (by kernel_rfl))
 f152:=Tryz.func309.trans (congrArg some (by kernel_rfl))
 f162:=Tryz.func259.trans (congrArg some (by kernel_rfl))
 f197:=Tryz.func199.trans (congrArg some (by kernel_rfl))
 f217:=Tryz.func212.trans (congrArg some (by kernel_rfl))
 f224:=Tryz.func221.trans (congrArg some (by kernel_rfl))
 f225:=Tryz.func220.trans (congrArg some (by kernel_rfl))
 f227:=Tryz.func276.trans (congrArg some (by kernel_rfl))
 f228:=Tryz.func290.trans (congrArg some (by kernel_rfl))
 f232:=Tryz.func275.trans (congrArg some (by kernel_rfl))
 f234:=Tryz.func277.trans (congrArg some (by kernel_rfl))
 f236:=Tryz.func278.trans (congrArg some (by kernel_rfl))
 f260:=Tryz.func219.trans (congrArg some (by kernel_rfl))
 f266:=Tryz.func238.trans (congrArg some (by kernel_rfl))
 f271:=Tryz.func291.trans (congrArg some (by kernel_rfl))
 t0:=Tryz.underlying0
 a0:=Tryz.isAgg0
 z0:=Tryz.sizeOf0
 v0:=Tryz.zeroValue0
 t3:=Tryz.underlying3
 a3:=Tryz.isAgg3
 z3:=Tryz.sizeOf3
 v3:=Tryz.zeroValue3
 t4:=Tryz.underlying4
 a4:=Tryz.isAgg4
 z4:=Tryz.sizeOf4
 v4:=Tryz.zeroValue4
 t5:=Tryz.underlying5
 a5:=Tryz.isAgg5
 z5:=Tryz.sizeOf5
 v5:=Tryz.zeroValue5
 t9:=Tryz.underlying9
 a9:=Tryz.isAgg9
 z9:=Tryz.sizeOf9
 v9:=Tryz.zeroValue9
 t21:=Tryz.underlying21
 a21:=Tryz.isAgg21
 z21:=Tryz.sizeOf21
 v21:=Tryz.zeroValue21
 t46:=Tryz.underlying168
 a46:=Tryz.isAgg168
 z46:=Tryz.sizeOf168
 v46:=Tryz.zeroValue168
 t105:=Tryz.underlying205
 a105:=Tryz.isAgg205
 z105:=Tryz.sizeOf205
 v105:=Tryz.zeroValue205
 t116:=Tryz.underlying295
 a116:=Tryz.isAgg295
 z116:=Tryz.sizeOf295
 t117:=Tryz.underlying296
 a117:=Tryz.isAgg296
 z117:=Tryz.sizeOf296
 v117:=Tryz.zeroValue296
 t119:=Tryz.underlying256
 a119:=Tryz.isAgg256
 z119:=Tryz.sizeOf256
 t124:=Tryz.underlying299
 a124:=Tryz.isAgg299
 z124:=Tryz.sizeOf299
 v124:=Tryz.zeroValue299
 t138:=Tryz.underlying258
 a138:=Tryz.isAgg258
 z138:=Tryz.sizeOf258
 v138:=Tryz.zeroValue258
 t139:=Tryz.underlying259
 a139:=Tryz.isAgg259
 z139:=Tryz.sizeOf259
 v139:=Tryz.zeroValue259
 g3:=by kernel_rfl
 g4:=by kernel_rfl }
open Go.RowKit in
theorem Tryz.strings_TrimRight_one (s:ByteArray)(c:UInt8)(hc:c.toNat<128)(w:World)(hs:s.size<=9223372036854775807) :
  Calls Tryz.prog 259 #[.string s,.string ⟨#[c]⟩] w fun e w'=>e=.returned (.string ⟨(Lib.trimRightB s.data.toList c).toArray⟩)/\w'=w:=Any.strings_TrimRight_one Tryz.lays162 s c hc w hs
def Tryz.lays244_ren:Go.Shelf.Ren:=⟨fun|244=>289|247=>279|287=>293|321=>310|322=>311|n=>n,fun|9=>9|3=>3|75=>222|4=>4|5=>5|167=>312|37=>107|0=>0|85=>279|2=>2|53=>113|175=>313|46=>168|21=>21|80=>226|n=>n,fun|n=>n⟩
def Tryz.lays172_ren:Go.Shelf.Ren:=⟨fun|172=>274|244=>289|245=>280|247=>279|279=>294|280=>295|281=>296|282=>297|287=>293|316=>312|171=>184|205=>313|321=>310|322=>311|243=>206|246=>205|283=>231|284=>232|285=>233|286=>234|129=>250|317=>249|318=>251|319=>252|320=>253|337=>269|338=>270|n=>n,fun|9=>9|3=>3|75=>222|76=>223|4=>4|5=>5|167=>312|37=>107|0=>0|85=>279|2=>2|168=>315|53=>113|175=>313|46=>168|210=>327|127=>249|145=>340|143=>338|21=>21|171=>244|173=>247|212=>269|51=>185|20=>20|213=>270|232=>309|233=>310|80=>226|n=>n,fun|15=>7|16=>8|17=>4|18=>5|19=>6|n=>n⟩
theorem Tryz.lays172:Go.Proofs.Lays.n172 Tryz.prog Tryz.lays172_ren:={
 mixed:=by kernel_rfl
 f129:=Tryz.func250.trans (congrArg some (by kernel_rfl))
 f171:=Tryz.func184.trans (congrArg some (by kernel_rfl))
 f172:=Tryz.func274.trans (congrArg some (by kernel_rfl))
 f205:=Tryz.func313.trans (congrArg some (by kernel_rfl))
 f243:=Tryz.func206.trans (congrArg some (by kernel_rfl))
 f244:=Tryz.func289.trans (congrArg some (by kernel_rfl))
 f245:=Tryz.func280.trans (congrArg some (by kernel_rfl))
 f246:=Tryz.func205.trans (congrArg some (by kernel_rfl))
 f247:=Tryz.func279.trans (congrArg some (by kernel_rfl))
 f279:=Tryz.func294.trans (congrArg some (by kernel_rfl))
 f280:=Tryz.func295.trans (congrArg some (by kernel_rfl))
 f281:=Tryz.func296.trans (congrArg some (by kernel_rfl))
 f282:=Tryz.func297.trans (congrArg some (by kernel_rfl))
 f283:=Tryz.func231.trans (congrArg some (by kernel_rfl))
 f284:=Tryz.func232.trans (congrArg some (by kernel_rfl))
 f285:=Tryz.func233.trans (congrArg some (by kernel_rfl))
 f286:=Tryz.func234.trans (congrArg some (by kernel_rfl))
 f287:=Tryz.func293.trans (congrArg some (by kernel_rfl))
 f316:=Tryz.func312.trans (congrArg some (by kernel_rfl))
 f317:=Tryz.func249.trans (congrArg some (by kernel_rfl))
 f318:=Tryz.func251.trans (congrArg some (by kernel_rfl))
 f319:=Tryz.func252.trans (congrArg some (by kernel_rfl))
 f320:=Tryz.func253.trans (congrArg some (by kernel_rfl))
 f321:=Tryz.func310.trans (congrArg some (by kernel_rfl))
 f322:=Tryz.func311.trans (congrArg some (by kernel_rfl))
 f337:=Tryz.func269.trans (congrArg some (by kernel_rfl))
 f338:=Tryz.func270.trans (congrArg some (by kernel_rfl))
 t0:=Tryz.underlying0
 a0:=Tryz.isAgg0
 z0:=Tryz.sizeOf0
 v0:=Tryz.zeroValue0
 t2:=Tryz.underlying2
 a2:=Tryz.isAgg2
 z2:=Tryz.sizeOf2
 v2:=Tryz.zeroValue2
 t3:=Tryz.underlying3
 a3:=Tryz.isAgg3
 z3:=Tryz.sizeOf3
 v3:=Tryz.zeroValue3
 t4:=Tryz.underlying4
 a4:=Tryz.isAgg4
 z4:=Tryz.sizeOf4
 v4:=Tryz.zeroValue4
 t5:=Tryz.underlying5
 a5:=Tryz.isAgg5
 z5:=Tryz.sizeOf5
 v5:=Tryz.zeroValue5
 t9:=Tryz.underlying9
 a9:=Tryz.isAgg9
 z9:=Tryz.sizeOf9
 v9:=Tryz.zeroValue9
 t20:=Tryz.underlying20
 a20:=Tryz.isAgg20
 z20:=Tryz.sizeOf20
 v20:=Tryz.zeroValue20
 t21:=Tryz.underlying21
 a21:=Tryz.isAgg21
 z21:=Tryz.sizeOf21
 v21:=Tryz.zeroValue21
 t37:=Tryz.underlying107
 a37:=Tryz.isAgg107
 z37:=Tryz.sizeOf107
 v37:=Tryz.zeroValue107
 t46:=Tryz.underlying168
 a46:=Tryz.isAgg168
 z46:=Tryz.sizeOf168
 v46:=Tryz.zeroValue168
 t51:=Tryz.underlying185
 a51:=Tryz.isAgg185
 z51:=Tryz.sizeOf185
 v51:=Tryz.zeroValue185
 t53:=Tryz.underlying113
 a53:=Tryz.isAgg113
 z53:=Tryz.sizeOf113
 v53:=Tryz.zeroValue113
 t75:=Tryz.underlying222
 a75:=Tryz.isAgg222
 z75:=Tryz.sizeOf222
 v75:=Tryz.zeroValue222
 t76:=Tryz.underlying223
 a76:=Tryz.isAgg223
 z76:=Tryz.sizeOf223
 v76:=Tryz.zeroValue223
 t85:=Tryz.underlying279
 a85:=Tryz.isAgg279
 z85:=Tryz.sizeOf279
 v85:=Tryz.zeroValue279
 t127:=Tryz.underlying249
 a127:=Tryz.isAgg249
 z127:=Tryz.sizeOf249
 v127:=Tryz.zeroValue249
 t143:=Tryz.underlying338
 a143:=Tryz.isAgg338
 z143:=Tryz.sizeOf338
 v143:=Tryz.zeroValue338
 t145:=Tryz.underlying340
 a145:=Tryz.isAgg340
 z145:=Tryz.sizeOf340
 v145:=Tryz.zeroValue340
 t167:=Tryz.underlying312
 a167:=Tryz.isAgg312
 z167:=Tryz.sizeOf312
 v167:=Tryz.zeroValue312
 t168:=Tryz.underlying315
 a168:=Tryz.isAgg315
 z168:=Tryz.sizeOf315
 v168:=Tryz.zeroValue315
 t171:=Tryz.underlying244
 a171:=Tryz.isAgg244
 z171:=Tryz.sizeOf244
 v171:=Tryz.zeroValue244
 t173:=Tryz.underlying247
 a173:=Tryz.isAgg247
 z173:=Tryz.sizeOf247
 v173:=Tryz.zeroValue247
 t175:=Tryz.underlying313
 a175:=Tryz.isAgg313
 z175:=Tryz.sizeOf313
 v175:=Tryz.zeroValue313
 t210:=Tryz.underlying327
 a210:=Tryz.isAgg327
 z210:=Tryz.sizeOf327
 v210:=Tryz.zeroValue327
 t212:=Tryz.underlying269
 a212:=Tryz.isAgg269
 z212:=Tryz.sizeOf269
 v212:=Tryz.zeroValue269
 t213:=Tryz.underlying270
 a213:=Tryz.isAgg270
 z213:=Tryz.sizeOf270
 t232:=Tryz.underlying309
 a232:=Tryz.isAgg309
 z232:=Tryz.sizeOf309
 v232:=Tryz.zeroValue309
 t233:=Tryz.underlying310
 a233:=Tryz.isAgg310
 z233:=Tryz.sizeOf310
 v233:=Tryz.zeroValue310
 g15:=by kernel_rfl
 g16:=by kernel_rfl
 g17:=by kernel_rfl
 g18:=by kernel_rfl
 g19:=by kernel_rfl }
open Go.RowKit in
theorem Tryz.strconv_Atoi (s:ByteArray)(n:Int)(hl:s.size<=18)(h:Lib.atoi s.data.toList=some n)(w:World) :
  Calls Tryz.prog 274 #[.string s] w fun e w'=>e=.returned (.tuple #[.int .i64 n,.nilIface])/\∃t,w'=Lib.bytesWorld w 5 t:=Any.strconv_Atoi Tryz.lays172 s n hl h w
def Tryz.lays129_ren:Go.Shelf.Ren:=⟨fun|129=>250|n=>n,fun|53=>113|3=>3|4=>4|46=>168|5=>5|9=>9|n=>n,fun|n=>n⟩
def Tryz.lays317_ren:Go.Shelf.Ren:=⟨fun|317=>249|n=>n,fun|3=>3|46=>168|n=>n,fun|n=>n⟩
def Tryz.lays318_ren:Go.Shelf.Ren:=⟨fun|318=>251|n=>n,fun|3=>3|4=>4|n=>n,fun|n=>n⟩
def Tryz.lays283_ren:Go.Shelf.Ren:=⟨fun|283=>231|n=>n,fun|3=>3|9=>9|4=>4|n=>n,fun|n=>n⟩
def Tryz.laysM284_ren:Go.Shelf.Ren:=⟨fun|284=>232|129=>250|317=>249|318=>251|n=>n,fun|53=>113|3=>3|212=>269|0=>0|4=>4|46=>168|5=>5|9=>9|n=>n,fun|17=>4|n=>n⟩
def Tryz.lays285_ren:Go.Shelf.Ren:=⟨fun|285=>233|n=>n,fun|37=>107|53=>113|3=>3|4=>4|51=>185|9=>9|5=>5|0=>0|n=>n,fun|n=>n⟩
def Tryz.laysM246_ren:Go.Shelf.Ren:=⟨fun|246=>205|283=>231|284=>232|285=>233|286=>234|129=>250|317=>249|318=>251|319=>252|320=>253|337=>269|338=>270|n=>n,fun|2=>2|3=>3|9=>9|4=>4|171=>244|0=>0|53=>113|37=>107|5=>5|173=>247|212=>269|51=>185|20=>20|213=>270|46=>168|232=>309|233=>310|n=>n,fun|17=>4|18=>5|19=>6|n=>n⟩
def Tryz.lays246_ren:Go.Shelf.Ren:=⟨fun|246=>205|283=>231|284=>232|285=>233|286=>234|129=>250|317=>249|318=>251|319=>252|320=>253|337=>269|338=>270|n=>n,fun|2=>2|3=>3|9=>9|4=>4|171=>244|0=>0|53=>113|37=>107|5=>5|173=>247|212=>269|51=>185|20=>20|213=>270|46=>168|232=>309|233=>310|n=>n,fun|17=>4|18=>5|19=>6|n=>n⟩
def Tryz.laysM243_ren:Go.Shelf.Ren:=⟨fun|243=>206|246=>205|283=>231|284=>232|285=>233|286=>234|129=>250|317=>249|318=>251|319=>252|320=>253|337=>269|338=>270|n=>n,fun|3=>3|9=>9|2=>2|4=>4|171=>244|0=>0|53=>113|37=>107|5=>5|173=>247|212=>269|51=>185|20=>20|213=>270|46=>168|232=>309|233=>310|n=>n,fun|17=>4|18=>5|19=>6|n=>n⟩
def Tryz.lays243_ren:Go.Shelf.Ren:=⟨fun|243=>206|246=>205|283=>231|284=>232|285=>233|286=>234|129=>250|317=>249|318=>251|319=>252|320=>253|337=>269|338=>270|n=>n,fun|3=>3|9=>9|2=>2|4=>4|171=>244|0=>0|53=>113|37=>107|5=>5|173=>247|212=>269|51=>185|20=>20|213=>270|46=>168|232=>309|233=>310|n=>n,fun|17=>4|18=>5|19=>6|n=>n⟩
def Tryz.laysM171_ren:Go.Shelf.Ren:=⟨fun|171=>184|243=>206|246=>205|283=>231|284=>232|285=>233|286=>234|129=>250|317=>249|318=>251|319=>252|320=>253|337=>269|338=>270|n=>n,fun|3=>3|9=>9|2=>2|4=>4|171=>244|0=>0|53=>113|37=>107|5=>5|173=>247|212=>269|51=>185|20=>20|213=>270|46=>168|232=>309|233=>310|n=>n,fun|17=>4|18=>5|19=>6|n=>n⟩
theorem Tryz.laysM171:Go.Proofs.LaysM.n171 Tryz.prog Tryz.laysM171_ren:={
 mixed:=by kernel_rfl
 f129:=Tryz.func250.trans (congrArg some (by kernel_rfl))
 f171:=Tryz.func184.trans (congrArg some (by kernel_rfl))
 f243:=Tryz.func206.trans (congrArg some (by kernel_rfl))
 f246:=Tryz.func205.trans (congrArg some (by kernel_rfl))
 f283:=Tryz.func231.trans (congrArg some (by kernel_rfl))
 f284:=Tryz.func232.trans (congrArg some (by kernel_rfl))
 f285:=Tryz.func233.trans (congrArg some (by kernel_rfl))
 f286:=Tryz.func234.trans (congrArg some (by kernel_rfl))
 f317:=Tryz.func249.trans (congrArg some (by kernel_rfl))
 f318:=Tryz.func251.trans (congrArg some (by kernel_rfl))
 f319:=Tryz.func252.trans (congrArg some (by kernel_rfl))
 f320:=Tryz.func253.trans (congrArg some (by kernel_rfl))
 f337:=Tryz.func269.trans (congrArg some (by kernel_rfl))
 f338:=Tryz.func270.trans (congrArg some (by kernel_rfl))
 t0:=Tryz.underlying0
 a0:=Tryz.isAgg0
 z0:=Tryz.sizeOf0
 v0:=Tryz.zeroValue0
 t2:=Tryz.underlying2
 a2:=Tryz.isAgg2
 z2:=Tryz.sizeOf2
 v2:=Tryz.zeroValue2
 t3:=Tryz.underlying3
 a3:=Tryz.isAgg3
 z3:=Tryz.sizeOf3
 v3:=Tryz.zeroValue3
 t4:=Tryz.underlying4
 a4:=Tryz.isAgg4
 z4:=Tryz.sizeOf4
 v4:=Tryz.zeroValue4
 t5:=Tryz.underlying5
 a5:=Tryz.isAgg5
 z5:=Tryz.sizeOf5
 v5:=Tryz.zeroValue5
 t9:=Tryz.underlying9
 a9:=Tryz.isAgg9
 z9:=Tryz.sizeOf9
 v9:=Tryz.zeroValue9
 t20:=Tryz.underlying20
 a20:=Tryz.isAgg20
 z20:=Tryz.sizeOf20
 v20:=Tryz.zeroValue20
 t37:=Tryz.underlying107
 a37:=Tryz.isAgg107
 z37:=Tryz.sizeOf107
 v37:=Tryz.zeroValue107
 t46:=Tryz.underlying168
 a46:=Tryz.isAgg168
 z46:=Tryz.sizeOf168
 v46:=Tryz.zeroValue168
 t51:=Tryz.underlying185
 a51:=Tryz.isAgg185
 z51:=Tryz.sizeOf185
 v51:=Tryz.zeroValue185
 t53:=Tryz.underlying113
 a53:=Tryz.isAgg113
 z53:=Tryz.sizeOf113
 v53:=Tryz.zeroValue113
 t171:=Tryz.underlying244
 a171:=Tryz.isAgg244
 z171:=Tryz.sizeOf244
 v171:=Tryz.zeroValue244
 t173:=Tryz.underlying247
 a173:=Tryz.isAgg247
 z173:=Tryz.sizeOf247
 v173:=Tryz.zeroValue247
 t212:=Tryz.underlying269
 a212:=Tryz.isAgg269
 z212:=Tryz.sizeOf269
 v212:=Tryz.zeroValue269
 t213:=Tryz.underlying270
 a213:=Tryz.isAgg270
 z213:=Tryz.sizeOf270
 t232:=Tryz.underlying309
 a232:=Tryz.isAgg309
 z232:=Tryz.sizeOf309
 v232:=Tryz.zeroValue309
 t233:=Tryz.underlying310
 a233:=Tryz.isAgg310
 z233:=Tryz.sizeOf310
 v233:=Tryz.zeroValue310
 g17:=by kernel_rfl
 g18:=by kernel_rfl
 g19:=by kernel_rfl
 i0:=by kernel_rfl
 i2:=by kernel_rfl
 i3:=by kernel_rfl
 i4:=by kernel_rfl
 i5:=by kernel_rfl
 i9:=by kernel_rfl
 i20:=by kernel_rfl
 i37:=by kernel_rfl
 i46:=by kernel_rfl
 i51:=by kernel_rfl
 i53:=by kernel_rfl
 i171:=by kernel_rfl
 i173:=by kernel_rfl
 i212:=by kernel_rfl
 i232:=by kernel_rfl
 i233:=by kernel_rfl
 m17:=by kernel_rfl
 m18:=by kernel_rfl
 m19:=by kernel_rfl }
open Go.RowKit Go.Sort Go.Lib in
theorem Tryz.strconv_Itoa (n : Int) (h0 : -9223372036854775808 <= n) (h1 : n <= 9223372036854775807) (w : World) (htab : Lib.TabIs Tryz.prog w "internal/strconv.uint64pow10" .u64 Lib.pow10Tab) :
  Calls Tryz.prog 184 #[.int .i64 n] w fun e w'=>e=.returned (.string ⟨(Lib.itoa n).toArray⟩)/\∃k os,w'=grow (w.drewN k) os:=Any.strconv_Itoa Tryz.laysM171 n h0 h1 w htab
def Tryz.lays171_ren:Go.Shelf.Ren:=⟨fun|171=>184|243=>206|246=>205|283=>231|284=>232|285=>233|286=>234|129=>250|317=>249|318=>251|319=>252|320=>253|337=>269|338=>270|n=>n,fun|3=>3|9=>9|2=>2|4=>4|171=>244|0=>0|53=>113|37=>107|5=>5|173=>247|212=>269|51=>185|20=>20|213=>270|46=>168|232=>309|233=>310|n=>n,fun|17=>4|18=>5|19=>6|n=>n⟩
def Tryz.laysM173_ren:Go.Shelf.Ren:=⟨fun|173=>182|246=>205|283=>231|284=>232|285=>233|286=>234|129=>250|317=>249|318=>251|319=>252|320=>253|337=>269|338=>270|n=>n,fun|2=>2|3=>3|9=>9|4=>4|171=>244|0=>0|53=>113|37=>107|5=>5|173=>247|212=>269|51=>185|20=>20|213=>270|46=>168|232=>309|233=>310|n=>n,fun|17=>4|18=>5|19=>6|n=>n⟩
theorem Tryz.laysM173:Go.Proofs.LaysM.n173 Tryz.prog Tryz.laysM173_ren:={
 mixed:=by kernel_rfl
 f129:=Tryz.func250.trans (congrArg some (by kernel_rfl))
 f173:=Tryz.func182.trans (congrArg some (by kernel_rfl))
 f246:=Tryz.func205.trans (congrArg some (by kernel_rfl))
 f283:=Tryz.func231.trans (congrArg some (by kernel_rfl))
 f284:=Tryz.func232.trans (congrArg some (by kernel_rfl))
 f285:=Tryz.func233.trans (congrArg some (by kernel_rfl))
 f286:=Tryz.func234.trans (congrArg some (by kernel_rfl))
 f317:=Tryz.func249.trans (congrArg some (by kernel_rfl))
 f318:=Tryz.func251.trans (congrArg some (by kernel_rfl))
 f319:=Tryz.func252.trans (congrArg some (by kernel_rfl))
 f320:=Tryz.func253.trans (congrArg some (by kernel_rfl))
 f337:=Tryz.func269.trans (congrArg some (by kernel_rfl))
 f338:=Tryz.func270.trans (congrArg some (by kernel_rfl))
 t0:=Tryz.underlying0
 a0:=Tryz.isAgg0
 z0:=Tryz.sizeOf0
 v0:=Tryz.zeroValue0
 t2:=Tryz.underlying2
 a2:=Tryz.isAgg2
 z2:=Tryz.sizeOf2
 v2:=Tryz.zeroValue2
 t3:=Tryz.underlying3
 a3:=Tryz.isAgg3
 z3:=Tryz.sizeOf3
 v3:=Tryz.zeroValue3
 t4:=Tryz.underlying4
 a4:=Tryz.isAgg4
 z4:=Tryz.sizeOf4
 v4:=Tryz.zeroValue4
 t5:=Tryz.underlying5
 a5:=Tryz.isAgg5
 z5:=Tryz.sizeOf5
 v5:=Tryz.zeroValue5
 t9:=Tryz.underlying9
 a9:=Tryz.isAgg9
 z9:=Tryz.sizeOf9
 v9:=Tryz.zeroValue9
 t20:=Tryz.underlying20
 a20:=Tryz.isAgg20
 z20:=Tryz.sizeOf20
 v20:=Tryz.zeroValue20
 t37:=Tryz.underlying107
 a37:=Tryz.isAgg107
 z37:=Tryz.sizeOf107
 v37:=Tryz.zeroValue107
 t46:=Tryz.underlying168
 a46:=Tryz.isAgg168
 z46:=Tryz.sizeOf168
 v46:=Tryz.zeroValue168
 t51:=Tryz.underlying185
 a51:=Tryz.isAgg185
 z51:=Tryz.sizeOf185
 v51:=Tryz.zeroValue185
 t53:=Tryz.underlying113
 a53:=Tryz.isAgg113
 z53:=Tryz.sizeOf113
 v53:=Tryz.zeroValue113
 t171:=Tryz.underlying244
 a171:=Tryz.isAgg244
 z171:=Tryz.sizeOf244
 v171:=Tryz.zeroValue244
 t173:=Tryz.underlying247
 a173:=Tryz.isAgg247
 z173:=Tryz.sizeOf247
 v173:=Tryz.zeroValue247
 t212:=Tryz.underlying269
 a212:=Tryz.isAgg269
 z212:=Tryz.sizeOf269
 v212:=Tryz.zeroValue269
 t213:=Tryz.underlying270
 a213:=Tryz.isAgg270
 z213:=Tryz.sizeOf270
 t232:=Tryz.underlying309
 a232:=Tryz.isAgg309
 z232:=Tryz.sizeOf309
 v232:=Tryz.zeroValue309
 t233:=Tryz.underlying310
 a233:=Tryz.isAgg310
 z233:=Tryz.sizeOf310
 v233:=Tryz.zeroValue310
 g17:=by kernel_rfl
 g18:=by kernel_rfl
 g19:=by kernel_rfl
 i0:=by kernel_rfl
 i2:=by kernel_rfl
 i3:=by kernel_rfl
 i4:=by kernel_rfl
 i5:=by kernel_rfl
 i9:=by kernel_rfl
 i20:=by kernel_rfl
 i37:=by kernel_rfl
 i46:=by kernel_rfl
 i51:=by kernel_rfl
 i53:=by kernel_rfl
 i171:=by kernel_rfl
 i173:=by kernel_rfl
 i212:=by kernel_rfl
 i232:=by kernel_rfl
 i233:=by kernel_rfl
 m17:=by kernel_rfl
 m18:=by kernel_rfl
 m19:=by kernel_rfl }
open Go.RowKit Go.Sort Go.Lib in
theorem Tryz.strconv_FormatInt_10 (n : Int) (h0 : -9223372036854775808 <= n) (h1 : n <= 9223372036854775807) (w : World) (htab : Lib.TabIs Tryz.prog w "internal/strconv.uint64pow10" .u64 Lib.pow10Tab) :
  Calls Tryz.prog 182 #[.int .i64 n,.int .i64 10] w fun e w'=>e=.returned (.string ⟨(Lib.itoa n).toArray⟩)/\∃k os,w'=grow (w.drewN k) os:=Any.strconv_FormatInt_10 Tryz.laysM173 n h0 h1 w htab
def Tryz.lays173_ren:Go.Shelf.Ren:=⟨fun|173=>182|246=>205|283=>231|284=>232|285=>233|286=>234|129=>250|317=>249|318=>251|319=>252|320=>253|337=>269|338=>270|n=>n,fun|2=>2|3=>3|9=>9|4=>4|171=>244|0=>0|53=>113|37=>107|5=>5|173=>247|212=>269|51=>185|20=>20|213=>270|46=>168|232=>309|233=>310|n=>n,fun|17=>4|18=>5|19=>6|n=>n⟩
def Tryz.lays247_ren:Go.Shelf.Ren:=⟨fun|247=>279|287=>293|321=>310|322=>311|n=>n,fun|9=>9|3=>3|2=>2|75=>222|4=>4|167=>312|5=>5|53=>113|175=>313|46=>168|37=>107|0=>0|21=>21|80=>226|n=>n,fun|n=>n⟩
def Tryz.laysM316_ren:Go.Shelf.Ren:=⟨fun|316=>312|n=>n,fun|9=>9|3=>3|4=>4|37=>107|0=>0|127=>249|5=>5|n=>n,fun|n=>n⟩
def Tryz.laysM279_ren:Go.Shelf.Ren:=⟨fun|279=>294|316=>312|n=>n,fun|9=>9|168=>315|75=>222|210=>327|3=>3|4=>4|37=>107|0=>0|127=>249|80=>226|5=>5|n=>n,fun|15=>7|n=>n⟩
def Tryz.laysC245_ren:Go.Shelf.Ren:=⟨fun|245=>280|279=>294|280=>295|281=>296|282=>297|316=>312|171=>184|205=>313|243=>206|246=>205|283=>231|284=>232|285=>233|286=>234|129=>250|317=>249|318=>251|319=>252|320=>253|337=>269|338=>270|n=>n,fun|9=>9|3=>3|75=>222|167=>312|4=>4|168=>315|210=>327|37=>107|0=>0|127=>249|145=>340|143=>338|2=>2|171=>244|53=>113|5=>5|173=>247|212=>269|51=>185|20=>20|213=>270|46=>168|232=>309|233=>310|80=>226|n=>n,fun|15=>7|16=>8|17=>4|18=>5|19=>6|n=>n⟩
def Tryz.lays321_ren:Go.Shelf.Ren:=⟨fun|321=>310|n=>n,fun|5=>5|n=>n,fun|n=>n⟩
def Tryz.lays287_ren:Go.Shelf.Ren:=⟨fun|287=>293|321=>310|322=>311|n=>n,fun|9=>9|3=>3|53=>113|75=>222|4=>4|167=>312|5=>5|46=>168|37=>107|0=>0|21=>21|80=>226|n=>n,fun|n=>n⟩
def Tryz.laysC247_ren:Go.Shelf.Ren:=⟨fun|247=>279|287=>293|321=>310|322=>311|n=>n,fun|9=>9|3=>3|2=>2|75=>222|4=>4|167=>312|5=>5|53=>113|175=>313|46=>168|37=>107|0=>0|21=>21|80=>226|n=>n,fun|n=>n⟩
def Tryz.laysM280_ren:Go.Shelf.Ren:=⟨fun|280=>295|316=>312|n=>n,fun|9=>9|168=>315|75=>222|210=>327|3=>3|4=>4|37=>107|0=>0|127=>249|80=>226|5=>5|n=>n,fun|16=>8|n=>n⟩
def Tryz.laysC174_ren:Go.Shelf.Ren:=⟨fun|174=>260|247=>279|245=>280|287=>293|279=>294|280=>295|281=>296|282=>297|321=>310|322=>311|316=>312|171=>184|205=>313|243=>206|246=>205|283=>231|284=>232|285=>233|286=>234|129=>250|317=>249|318=>251|319=>252|320=>253|337=>269|338=>270|n=>n,fun|9=>9|3=>3|2=>2|75=>222|85=>279|4=>4|167=>312|5=>5|53=>113|175=>313|46=>168|168=>315|37=>107|0=>0|210=>327|21=>21|127=>249|145=>340|143=>338|171=>244|173=>247|212=>269|51=>185|20=>20|213=>270|232=>309|233=>310|80=>226|n=>n,fun|15=>7|16=>8|17=>4|18=>5|19=>6|n=>n⟩
theorem Tryz.laysC174:Go.Proofs.LaysC.n174 Tryz.prog Tryz.laysC174_ren:={
 mixed:=by kernel_rfl
 f129:=Tryz.func250.trans (congrArg some (by kernel_rfl))
 f171:=Tryz.func184.trans (congrArg some (by kernel_rfl))
 f174:=Tryz.func260.trans (congrArg some (by kernel_rfl))
 f205:=Tryz.func313.trans (congrArg some (by kernel_rfl))
 f243:=Tryz.func206.trans (congrArg some (by kernel_rfl))
 f245:=Tryz.func280.trans (congrArg some (by kernel_rfl))
 f246:=Tryz.func205.trans (congrArg some (by kernel_rfl))
 f247:=Tryz.func279.trans (congrArg some (by kernel_rfl))
 f279:=Tryz.func294.trans (congrArg some (by kernel_rfl))
 f280:=Tryz.func295.trans (congrArg some (by kernel_rfl))
 f281:=Tryz.func296.trans (congrArg some (by kernel_rfl))
 f282:=Tryz.func297.trans (congrArg some (by kernel_rfl))
 f283:=Tryz.func231.trans (congrArg some (by kernel_rfl))
 f284:=Tryz.func232.trans (congrArg some (by kernel_rfl))
 f285:=Tryz.func233.trans (congrArg some (by kernel_rfl))
 f286:=Tryz.func234.trans (congrArg some (by kernel_rfl))
 f287:=Tryz.func293.trans (congrArg some (by kernel_rfl))
 f316:=Tryz.func312.trans (congrArg some (by kernel_rfl))
 f317:=Tryz.func249.trans (congrArg some (by kernel_rfl))
 f318:=Tryz.func251.trans (congrArg some (by kernel_rfl))
 f319:=Tryz.func252.trans (congrArg some (by kernel_rfl))
 f320:=Tryz.func253.trans (congrArg some (by kernel_rfl))
 f321:=Tryz.func310.trans (congrArg some (by kernel_rfl))
 f322:=Tryz.func311.trans (congrArg some (by kernel_rfl))
 f337:=Tryz.func269.trans (congrArg some (by kernel_rfl))
 f338:=Tryz.func270.trans (congrArg some (by kernel_rfl))
 t0:=Tryz.underlying0
 a0:=Tryz.isAgg0
 z0:=Tryz.sizeOf0
 v0:=Tryz.zeroValue0
 t2:=Tryz.underlying2
 a2:=Tryz.isAgg2
 z2:=Tryz.sizeOf2
 v2:=Tryz.zeroValue2
 t3:=Tryz.underlying3
 a3:=Tryz.isAgg3
 z3:=Tryz.sizeOf3
 v3:=Tryz.zeroValue3
 t4:=Tryz.underlying4
 a4:=Tryz.isAgg4
 z4:=Tryz.sizeOf4
 v4:=Tryz.zeroValue4
 t5:=Tryz.underlying5
 a5:=Tryz.isAgg5
 z5:=Tryz.sizeOf5
 v5:=Tryz.zeroValue5
 t9:=Tryz.underlying9
 a9:=Tryz.isAgg9
 z9:=Tryz.sizeOf9
 v9:=Tryz.zeroValue9
 t20:=Tryz.underlying20
 a20:=Tryz.isAgg20
 z20:=Tryz.sizeOf20
 v20:=Tryz.zeroValue20
 t21:=Tryz.underlying21
 a21:=Tryz.isAgg21
 z21:=Tryz.sizeOf21
 v21:=Tryz.zeroValue21
 t37:=Tryz.underlying107
 a37:=Tryz.isAgg107
 z37:=Tryz.sizeOf107
 v37:=Tryz.zeroValue107
 t46:=Tryz.underlying168
 a46:=Tryz.isAgg168
 z46:=Tryz.sizeOf168
 v46:=Tryz.zeroValue168
 t51:=Tryz.underlying185
 a51:=Tryz.isAgg185
 z51:=Tryz.sizeOf185
 v51:=Tryz.zeroValue185
 t53:=Tryz.underlying113
 a53:=Tryz.isAgg113
 z53:=Tryz.sizeOf113
 v53:=Tryz.zeroValue113
 t75:=Tryz.underlying222
 a75:=Tryz.isAgg222
 z75:=Tryz.sizeOf222
 v75:=Tryz.zeroValue222
 t85:=Tryz.underlying279
 a85:=Tryz.isAgg279
 z85:=Tryz.sizeOf279
 v85:=Tryz.zeroValue279
 t127:=Tryz.underlying249
 a127:=Tryz.isAgg249
 z127:=Tryz.sizeOf249
 v127:=Tryz.zeroValue249
 t143:=Tryz.underlying338
 a143:=Tryz.isAgg338
 z143:=Tryz.sizeOf338
 v143:=Tryz.zeroValue338
 t145:=Tryz.underlying340
 a145:=Tryz.isAgg340
 z145:=Tryz.sizeOf340
 v145:=Tryz.zeroValue340
 t167:=Tryz.underlying312
 a167:=Tryz.isAgg312
 z167:=Tryz.sizeOf312
 v167:=Tryz.zeroValue312
 t168:=Tryz.underlying315
 a168:=Tryz.isAgg315
 z168:=Tryz.sizeOf315
 v168:=Tryz.zeroValue315
 t171:=Tryz.underlying244
 a171:=Tryz.isAgg244
 z171:=Tryz.sizeOf244
 v171:=Tryz.zeroValue244
 t173:=Tryz.underlying247
 a173:=Tryz.isAgg247
 z173:=Tryz.sizeOf247
 v173:=Tryz.zeroValue247
 t175:=Tryz.underlying313
 a175:=Tryz.isAgg313
 z175:=Tryz.sizeOf313
 v175:=Tryz.zeroValue313
 t210:=Tryz.underlying327
 a210:=Tryz.isAgg327
 z210:=Tryz.sizeOf327
 v210:=Tryz.zeroValue327
 t212:=Tryz.underlying269
 a212:=Tryz.isAgg269
 z212:=Tryz.sizeOf269
 v212:=Tryz.zeroValue269
 t213:=Tryz.underlying270
 a213:=Tryz.isAgg270
 z213:=Tryz.sizeOf270
 t232:=Tryz.underlying309
 a232:=Tryz.isAgg309
 z232:=Tryz.sizeOf309
 v232:=Tryz.zeroValue309
 t233:=Tryz.underlying310
 a233:=Tryz.isAgg310
 z233:=Tryz.sizeOf310
 v233:=Tryz.zeroValue310
 g15:=by kernel_rfl
 g16:=by kernel_rfl
 g17:=by kernel_rfl
 g18:=by kernel_rfl
 g19:=by kernel_rfl
 t80:=Tryz.underlying226
 a80:=Tryz.isAgg226
 z80:=Tryz.sizeOf226
 v80:=Tryz.zeroValue226
 i0:=by kernel_rfl
 i2:=by kernel_rfl
 i3:=by kernel_rfl
 i4:=by kernel_rfl
 i5:=by kernel_rfl
 i9:=by kernel_rfl
 i20:=by kernel_rfl
 i21:=by kernel_rfl
 i37:=by kernel_rfl
 i46:=by kernel_rfl
 i51:=by kernel_rfl
 i53:=by kernel_rfl
 i75:=by kernel_rfl
 i80:=by kernel_rfl
 i85:=by kernel_rfl
 i127:=by kernel_rfl
 i143:=by kernel_rfl
 i145:=by kernel_rfl
 i167:=by kernel_rfl
 i168:=by kernel_rfl
 i171:=by kernel_rfl
 i173:=by kernel_rfl
 i175:=by kernel_rfl
 i210:=by kernel_rfl
 i212:=by kernel_rfl
 i232:=by kernel_rfl
 i233:=by kernel_rfl
 m15:=by kernel_rfl
 m16:=by kernel_rfl
 m17:=by kernel_rfl
 m18:=by kernel_rfl
 m19:=by kernel_rfl
 c0:=by kernel_rfl
 c2:=by kernel_rfl
 c3:=by kernel_rfl
 c4:=by kernel_rfl
 c5:=by kernel_rfl
 c9:=by kernel_rfl
 c20:=by kernel_rfl
 c21:=by kernel_rfl
 c37:=by kernel_rfl
 c46:=by kernel_rfl
 c51:=by kernel_rfl
 c53:=by kernel_rfl
 c75:=by kernel_rfl
 c80:=by kernel_rfl
 c85:=by kernel_rfl
 c127:=by kernel_rfl
 c143:=by kernel_rfl
 c145:=by kernel_rfl
 c167:=by kernel_rfl
 c168:=by kernel_rfl
 c171:=by kernel_rfl
 c173:=by kernel_rfl
 c175:=by kernel_rfl
 c210:=by kernel_rfl
 c212:=by kernel_rfl
 c213:=by kernel_rfl
 c232:=by kernel_rfl
 c233:=by kernel_rfl }
open Go.RowKit in
theorem Tryz.strconv_ParseInt_10_at64_ok (s:ByteArray)(hmax:s.size<=9223372036854775806)(v:Int)(h:Lib.parseIntB 64 s.data.toList=.ok v)(w:World) :
  Calls Tryz.prog 260 #[.string s,.int .i64 10,.int .i64 64] w fun e w'=>e=.returned (.tuple #[.int .i64 v,.nilIface])/\(w'=w ∨ ∃t,w'=Lib.bytesWorld w 5 t):=Any.strconv_ParseInt_10_at64_ok Tryz.laysC174 s hmax v h w
open Go.RowKit in
theorem Tryz.strconv_ParseInt_10_at64_range (s:ByteArray)(hlim:s.size<=281474976710656)(h:Lib.parseIntB 64 s.data.toList=.range)(ev:Value)(w:World)(hv:w.cell? ⟨8,0,none⟩=some ev)(hev:ev=.nilIface ∨ ∃te pe,ev=.iface te pe) :
  Calls Tryz.prog 260 #[.string s,.int .i64 10,.int .i64 64] w fun e w'=>∃N,e=.returned (.tuple #[.int .i64 (Lib.intSat 64 s.data.toList),.iface 315 (.pointer (some ⟨N,0,none⟩))])/\w.heap.size<=N/\w'.heap[N]?=some (.cells #[.string ⟨#[80,97,114,115,101,73,110,116]⟩,.string s,ev] 327 (0,0))/\Below w.heap.size w w':=Any.strconv_ParseInt_10_at64_range Tryz.laysC174 s hlim h ev w hv hev
def Tryz.lays206_ren:Go.Shelf.Ren:=⟨fun|206=>235|n=>n,fun|9=>9|4=>4|3=>3|n=>n,fun|n=>n⟩
theorem Tryz.lays206:Go.Proofs.Lays.n206 Tryz.prog Tryz.lays206_ren:={
 mixed:=by kernel_rfl
 f206:=Tryz.func235.trans (congrArg some (by kernel_rfl))
 t3:=Tryz.underlying3
 a3:=Tryz.isAgg3
 z3:=Tryz.sizeOf3
 v3:=Tryz.zeroValue3
 t4:=Tryz.underlying4
 a4:=Tryz.isAgg4
 z4:=Tryz.sizeOf4
 v4:=Tryz.zeroValue4
 t9:=Tryz.underlying9
 a9:=Tryz.isAgg9
 z9:=Tryz.sizeOf9
 v9:=Tryz.zeroValue9 }
open Go.RowKit Go.Lib in
theorem Tryz.stringslite_HasPrefix (s p:ByteArray)(w:World) :
  Calls Tryz.prog 235 #[.string s,.string p] w fun e w'=>e=.returned (.bool (Lib.hasPrefix s.data.toList p.data.toList))/\w'=w:=Any.stringslite_HasPrefix Tryz.lays206 s p w
def Tryz.lays99_ren:Go.Shelf.Ren:=⟨fun|99=>207|206=>235|n=>n,fun|9=>9|4=>4|3=>3|n=>n,fun|n=>n⟩
def Tryz.lays208_ren:Go.Shelf.Ren:=⟨fun|208=>288|206=>235|n=>n,fun|9=>9|4=>4|3=>3|n=>n,fun|n=>n⟩
def Tryz.lays101_ren:Go.Shelf.Ren:=⟨fun|101=>273|208=>288|206=>235|n=>n,fun|9=>9|4=>4|3=>3|n=>n,fun|n=>n⟩
theorem Tryz.lays101:Go.Proofs.Lays.n101 Tryz.prog Tryz.lays101_ren:={
 mixed:=by kernel_rfl
 f101:=Tryz.func273.trans (congrArg some (by kernel_rfl))
 f206:=Tryz.func235.trans (congrArg some (by kernel_rfl))
 f208:=Tryz.func288.trans (congrArg some (by kernel_rfl))
 t3:=Tryz.underlying3
 a3:=Tryz.isAgg3
 z3:=Tryz.sizeOf3
 v3:=Tryz.zeroValue3
 t4:=Tryz.underlying4
 a4:=Tryz.isAgg4
 z4:=Tryz.sizeOf4
 v4:=Tryz.zeroValue4
 t9:=Tryz.underlying9
 a9:=Tryz.isAgg9
 z9:=Tryz.sizeOf9
 v9:=Tryz.zeroValue9 }
open Go.RowKit Go.Lib in
theorem Tryz.strings_TrimPrefix (s p:ByteArray)(w:World) :
  Calls Tryz.prog 273 #[.string s,.string p] w fun e w'=>e=.returned (.string ⟨(Lib.trimPrefix s.data.toList p.data.toList).toArray⟩)/\w'=w:=Any.strings_TrimPrefix Tryz.lays101 s p w
def Tryz.lays264_ren:Go.Shelf.Ren:=⟨fun|264=>175|n=>n,fun|53=>113|46=>168|n=>n,fun|n=>n⟩
def Tryz.lays212_ren:Go.Shelf.Ren:=⟨fun|212=>149|263=>174|264=>175|n=>n,fun|46=>168|51=>185|146=>186|53=>113|148=>188|n=>n,fun|n=>n⟩
def Tryz.lays105_ren:Go.Shelf.Ren:=⟨fun|105=>185|212=>149|99=>207|165=>208|166=>209|170=>210|169=>211|263=>174|264=>175|206=>235|240=>236|241=>237|276=>254|277=>255|n=>n,fun|9=>9|3=>3|4=>4|20=>20|0=>0|46=>168|109=>169|5=>5|72=>219|76=>223|51=>185|146=>186|53=>113|148=>188|70=>217|37=>107|75=>222|127=>249|164=>272|80=>226|n=>n,fun|n=>n⟩
theorem Tryz.lays105:Go.Proofs.Lays.n105 Tryz.prog Tryz.lays105_ren:={
 mixed:=by kernel_rfl
 f99:=Tryz.func207.trans (congrArg some (by kernel_rfl))
 f105:=Tryz.func185.trans (congrArg some (by kernel_rfl))
 f165:=Tryz.func208.trans (congrArg some (by kernel_rfl))
 f166:=Tryz.func209.trans (congrArg some (by kernel_rfl))
 f169:=Tryz.func211.trans (congrArg some (by kernel_rfl))
 f170:=Tryz.func210.trans (congrArg some (by kernel_rfl))
 f206:=Tryz.func235.trans (congrArg some (by kernel_rfl))
 f212:=Tryz.func149.trans (congrArg some (by kernel_rfl))
 f240:=Tryz.func236.trans (congrArg some (by kernel_rfl))
 f241:=Tryz.func237.trans (congrArg some (by kernel_rfl))
 f263:=Tryz.func174.trans (congrArg some (by kernel_rfl))
 f264:=Tryz.func175.trans (congrArg some (by kernel_rfl))
 f276:=Tryz.func254.trans (congrArg some (by kernel_rfl))
 f277:=Tryz.func255.trans (congrArg some (by kernel_rfl))
 t0:=Tryz.underlying0
 a0:=Tryz.isAgg0
 z0:=Tryz.sizeOf0
 v0:=Tryz.zeroValue0
 t3:=Tryz.underlying3
 a3:=Tryz.isAgg3
 z3:=Tryz.sizeOf3
 v3:=Tryz.zeroValue3
 t4:=Tryz.underlying4
 a4:=Tryz.isAgg4
 z4:=Tryz.sizeOf4
 v4:=Tryz.zeroValue4
 t5:=Tryz.underlying5
 a5:=Tryz.isAgg5
 z5:=Tryz.sizeOf5
 v5:=Tryz.zeroValue5
 t9:=Tryz.underlying9
 a9:=Tryz.isAgg9
 z9:=Tryz.sizeOf9
 v9:=Tryz.zeroValue9
 t20:=Tryz.underlying20
 a20:=Tryz.isAgg20
 z20:=Tryz.sizeOf20
 v20:=Tryz.zeroValue20
 t37:=Tryz.underlying107
 a37:=Tryz.isAgg107
 z37:=Tryz.sizeOf107
 v37:=Tryz.zeroValue107
 t46:=Tryz.underlying168
 a46:=Tryz.isAgg168
 z46:=Tryz.sizeOf168
 v46:=Tryz.zeroValue168
 t51:=Tryz.underlying185
 a51:=Tryz.isAgg185
 z51:=Tryz.sizeOf185
 v51:=Tryz.zeroValue185
 t53:=Tryz.underlying113
 a53:=Tryz.isAgg113
 z53:=Tryz.sizeOf113
 v53:=Tryz.zeroValue113
 t70:=Tryz.underlying217
 a70:=Tryz.isAgg217
 z70:=Tryz.sizeOf217
 v70:=Tryz.zeroValue217
 t72:=Tryz.underlying219
 a72:=Tryz.isAgg219
 z72:=Tryz.sizeOf219
 v72:=Tryz.zeroValue219
 t75:=Tryz.underlying222
 a75:=Tryz.isAgg222
 z75:=Tryz.sizeOf222
 v75:=Tryz.zeroValue222
 t76:=Tryz.underlying223
 a76:=Tryz.isAgg223
 z76:=Tryz.sizeOf223
 v76:=Tryz.zeroValue223
 t109:=Tryz.underlying169
 a109:=Tryz.isAgg169
 z109:=Tryz.sizeOf169
 v109:=Tryz.zeroValue169
 t127:=Tryz.underlying249
 a127:=Tryz.isAgg249
 z127:=Tryz.sizeOf249
 v127:=Tryz.zeroValue249
 t146:=Tryz.underlying186
 a146:=Tryz.isAgg186
 z146:=Tryz.sizeOf186
 v146:=Tryz.zeroValue186
 t148:=Tryz.underlying188
 a148:=Tryz.isAgg188
 z148:=Tryz.sizeOf188
 v148:=Tryz.zeroValue188
 t164:=Tryz.underlying272
 a164:=Tryz.isAgg272
 z164:=Tryz.sizeOf272
 v164:=Tryz.zeroValue272 }
theorem Tryz.Builder_Extra_105:Builder.Extra Tryz.prog Tryz.lays105_ren:={
 sizeBuilder:=by kernel_rfl
 liesBuilder:=by kernel_rfl
 t5:=Tryz.underlying5
 a5:=Tryz.isAgg5
 z5:=Tryz.sizeOf5
 v5:=Tryz.zeroValue5
 infoByte:=by kernel_rfl
 cellsByte:=by kernel_rfl
 sizeByte:=by kernel_rfl
 neB5:=by decide }
open Go.RowKit Go.Lib in
theorem Tryz.strings_Repeat (s:ByteArray)(c:Nat)(w:World)(hc:c<=9223372036854775807)(hlen:s.size*c<=140737488355328) :
  Calls Tryz.prog 185 #[.string s,.int .i64 c] w fun e w'=>e=.returned (.string ⟨(Lib.repeatL s.data.toList c).toArray⟩)/\Below w.heap.size w w':=Any.strings_Repeat Tryz.lays105 Tryz.Builder_Extra_105 s c w hc hlen
end Go.Proofs
namespace Go.Proofs.YtdjhmgmjiglcbaaGreatDoor
open Go.RowKit
namespace Q
def Tab (w : World) : Prop := Lib.TabIs Tryz.prog w "internal/strconv.uint64pow10" .u64 Lib.pow10Tab
theorem Tab.kept {w w':World}(h:Tab w)(k:Kept w w'):Tab w':=Lib.tabBelow_of_tabIs h w' k
theorem kept_grow (w:World)(k:Nat)(os:Array Obj):Kept w (Sort.grow (w.drewN k) os) :=
 ⟨rfl,rfl,rfl,by show w.heap.size<=(w.heap++os).size;rw[Array.size_append];omega,fun j hj=>by show (w.heap++os)[j]?=w.heap[j]?;rw[Array.getElem?_append_left hj]⟩
theorem rep_zeros (k:Nat):Lib.repeatL [48] k=List.replicate k 48:=by
 induction k with
 |zero=>rfl
 |succ k ih=>show [48]++Lib.repeatL [48] k=_;rw[ih];rfl
theorem itoa_len (m:Int)(h1:-999999999<=m)(h2:m<=999999999):(Lib.itoa m).length<=10:=by
 rw[itoa_sg,List.length_append]
 have hl:=dec_len (u:=m.natAbs) (k:=9) (by decide) (Nat.lt_of_le_of_lt (show m.natAbs<=999999999 by omega) (by decide))
 have hs:(sg (decide (m<0))).length<=1:=by unfold sg;split <;> simp
 omega
theorem size_of {s:ByteArray}{L:List UInt8}(h:s.data.toList=L):s.size=L.length:=by rw[<-h,Array.length_toList];rfl
def TextIs (e:Ending)(m x:Int):Prop :=
 (okN m x=false/\e=.returned (.tuple #[.string ⟨#[]⟩,.int .i64 30]))∨(okN m x=true/\∃t:ByteArray,t.data.toList=textOf m x/\e=.returned (.tuple #[.string t,.int .i64 0]))
theorem text_any (m x:Int)(w:World)(hl:Lett w)(ht:Tab w) :
  Calls Tryz.prog 156 #[.agg #[.int .i64 m,.int .i64 x]] w fun e w'=>Kept w w'/\TextIs e m x:=by
 have HL:=hid' (And.intro hl ht)
 clear hl ht
 go_enter Tryz.func156,Tryz.ntmps156
 go_upto_region 1 with fail
 have hK:=(Kept.refl w).alloc (.cells #[.int .i64 m,.int .i64 x] 25)
 have hR:=Row2.alloc 25 w (.int .i64 m) (.int .i64 x)
 generalize w.alloc (.cells #[.int .i64 m,.int .i64 x] 25)=W at hK hR ⊢
 obtain⟨p1,hp1⟩:∃p,p=w.heap.size:=⟨_,rfl⟩
 rw[<-hp1]at hR ⊢
 have HK:=hid' hK
 have HR:=hid' hR
 obtain⟨q0,q1,q2,q3⟩:=hR.all
 clear hp1 hK hR
 go_wp2_with fail
 refine(Valid_any m x _).mono ?_
 rintro e w1 ⟨hk1,rfl⟩
 have HK1:=hid' hk1
 clear hk1 q0 q1 q2 q3
 by_cases ho:okN m x=true
 ·have hb:-999999999<=m/\m<=999999999/\-18<=x/\x<=9:=by
   rcases okN_iff.1 ho with ⟨rfl,rfl⟩|⟨_,h1,h2,_,h4,h5⟩
   ·decide
   ·exact⟨h1,h2,h4,h5⟩
  rw[ho]
  have HO:=hid' ho
  clear ho
  obtain⟨q0,q1,q2,q3⟩:=(HR.out.kept HK1.out).all
  go_wp2_with fail
  refine(Tryz.strconv_FormatInt_10 m (by omega) (by omega) _ (HL.out.2.kept (HK.out.trans HK1.out))).mono ?_
  rintro e w2 ⟨rfl,k,os,rfl⟩
  have HK2:Hid (Kept W (Sort.grow (w1.drewN k) os)):=HK1.out.trans (kept_grow w1 k os)
  generalize Sort.grow (w1.drewN k) os=w2 at HK2 ⊢
  obtain⟨d,hd⟩:∃d:ByteArray,d=⟨(Lib.itoa m).toArray⟩:=⟨_,rfl⟩
  rw[<-hd]
  have Hd:Hid (d.data.toList=Lib.itoa m):=by show _=_;rw[hd]
  have hds:d.size<=10:=by rw[size_of Hd.out];exact itoa_len m hb.1 hb.2.1
  clear hd q0 q1 q2 q3
  obtain⟨q0,q1,q2,q3⟩:=(HR.out.kept HK2.out).all
  go_wp2_with fail
  refine(letterBelow_any x _ (HL.out.1.kept (HK.out.trans HK2.out))).mono ?_
  rintro e w3 ⟨hk3,rfl⟩
  have HK3:=hid' (HK2.out.trans hk3)
  clear hk3 q0 q1 q2 q3
  rcases below_cases hb.2.2.2 with ⟨h1,hn⟩|⟨nm,y,hn,hm,h2,h3⟩
  ·rw[hn]
   have HN:=hid' hn
   clear hn
   show _
   obtain⟨q0,q1,q2,q3⟩:=(HR.out.kept (HK3.out.alloc (.cells #[.string (fnm none),.int .i64 (fex none)] 195))).all
   simp only[fnm,fex,Option.isSome]at q0 q1 q2 q3 ⊢
   go_wp2_with fail
   refine(Tryz.strconv_Itoa x (by omega) (by omega) _ (HL.out.2.kept (HK.out.trans (HK3.out.alloc _)))).mono ?_
   rintro e w4 ⟨rfl,k4,os4,rfl⟩
   have HK4:Hid (Kept W (Sort.grow ((w3.alloc (.cells #[.string ⟨#[]⟩,.int .i64 0] 195)).drewN k4) os4)):=(HK3.out.alloc _).trans (kept_grow _ k4 os4)
   generalize Sort.grow ((w3.alloc (.cells #[.string ⟨#[]⟩,.int .i64 0] 195)).drewN k4) os4=w4 at HK4 ⊢
   obtain⟨z,hz⟩:∃d:ByteArray,d=⟨(Lib.itoa x).toArray⟩:=⟨_,rfl⟩
   rw[<-hz]
   have Hz:Hid (z.data.toList=Lib.itoa x):=by show _=_;rw[hz]
   have hzs:z.size<=10:=by rw[size_of Hz.out];exact itoa_len x (by omega) (by omega)
   clear hz
   go_wp2_with fail
   go_ret2
   exact⟨HK.out.trans HK4.out,.inr ⟨HO.out,d++⟨#[101]⟩++z,by unfold textOf;rw[HN.out];simp[ByteArray.data_append,Hd.out,Hz.out],rfl⟩⟩
  ·rw[hn]
   have HN:=hid' hn
   have HM:=hid' hm
   clear hn hm
   show _
   simp only[fnm,fex,Option.isSome]
   go_upto_region 7 with fail
   have hK5:=HK3.out.alloc (.cells #[.string ⟨nm.toArray⟩,.int .i64 y] 195)
   have hR5:=Row2.alloc 195 w3 (.string ⟨nm.toArray⟩) (.int .i64 y)
   generalize w3.alloc (.cells #[.string ⟨nm.toArray⟩,.int .i64 y] 195)=W5 at hK5 hR5 ⊢
   obtain⟨p5,hp5⟩:∃p,p=w3.heap.size:=⟨_,rfl⟩
   rw[<-hp5]at hR5 ⊢
   obtain⟨c,hc⟩:∃c:Nat,x-y=(c:Int):=⟨(x-y).toNat,by omega⟩
   have hc2:c<=2:=by omega
   have hwr:IntKind.i64.wrap (x-y)=x-y:=by rw[hc];exact wrap_small _ (by omega) (by omega)
   have HC:=hid' hc
   have hRep:Hid (∀V,Calls Tryz.prog 185 #[.string ⟨#[48]⟩,.int .i64 (x-y)] V fun e w'=>∃z:ByteArray,(z.data.toList=List.replicate c 48/\z.size<=2)/\e=.returned (.string z)/\Kept V w'):=fun V=>by
    rw[hc]
    refine(Tryz.strings_Repeat ⟨#[48]⟩ c V (by omega) (by show 1*c<=_;omega)).mono ?_
    rintro e w' ⟨rfl,hk⟩
    have e1:(⟨(Lib.repeatL (⟨#[48]⟩:ByteArray).data.toList c).toArray⟩:ByteArray).data.toList=List.replicate c 48:=rep_zeros c
    exact⟨_,⟨e1,by rw[size_of e1,List.length_replicate];exact hc2⟩,rfl,hk⟩
   clear hc
   have H5:=hid' hR5
   have HK5:=hid' hK5
   have g1:=(HR.out.kept hK5).c1
   have g2:=hR5.c0
   have g3:=hR5.c1
   obtain⟨nb,hnb⟩:∃d:ByteArray,d=⟨nm.toArray⟩:=⟨_,rfl⟩
   rw[<-hnb]at g2 H5 hR5 ⊢
   have Hn:Hid (nb.data.toList=nm):=by show _=_;rw[hnb]
   have hns:nb.size<=3:=by rw[size_of Hn.out];exact(pow_name HM.out).2.2.2
   clear hp5 hK5 hR5 hnb
   go_region_held3 (fun w'=>w'.cell? ⟨p1,1,none⟩=some (.int .i64 x)/\w'.cell? ⟨p5,0,none⟩=some (.string nb)/\w'.cell? ⟨p5,1,none⟩=some (.int .i64 y)) (go_keep) (first|(go_at_call 185;refine(hRep.out _).mono ?_;rintro e w6 ⟨z,hz,rfl,hk6⟩;have K6:=(Kept.refl W5).drew.trans hk6;have g4:=(HR.out.kept (HK5.out.trans K6)).c1;have g5:=(H5.out.kept K6).c0;have g6:=(H5.out.kept K6).c1;have Hz:=hid' hz.1;have hzs:=hz.2;clear hz;have hA:¬9223372036854775807<d.size+z.size:=(by omega);have hB:¬9223372036854775807<d.size+z.size+nb.size:=(by omega)))
   have HK6:=hid' (HK.out.trans (HK5.out.trans K6))
   clear K6 hk6 g4 g5 g6 g1 g2 g3
   go_wp2_with fail
   go_ret2
   exact⟨HK6.out,.inr ⟨HO.out,d++z++nb,by unfold textOf;rw[HN.out];simp[ByteArray.data_append,Hd.out,Hz.out,Hn.out,HC.out],rfl⟩⟩
 ·have ho:okN m x=false:=by simpa using ho
  rw[ho]
  have HO:=hid' ho
  clear ho
  go_wp2
  go_ret2
  exact⟨HK.out.trans HK1.out,.inl ⟨HO.out,rfl⟩⟩
end Q
end Go.Proofs.YtdjhmgmjiglcbaaGreatDoor
