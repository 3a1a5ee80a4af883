import PyProof.Rows.All
import OpenK.KLine
import Wide.FinOn
import KE.KTops
import KE.KItem
import KE.KIsAll
import KE.KDictSum
import KE.KBits
import KE.KPairTest
import PySem.Challenge.RW_aheadmill_k43_whole_beginning_of_the_pla
set_option Elab.async false
set_option linter.all false
set_option maxRecDepth 100000
set_option exponentiation.threshold 2000
set_option maxHeartbeats 0
set_option compiler.extract_closed false
set_option bootstrap.genMatcherCode false
set_option genSizeOf false
local macro_rules | `(tactic| omega)=>`(tactic| lia)
section
set_option hygiene false
local macro_rules | `(command| $d:definition) => `(command| noncomputable $d:definition)
open PySem PySem.W PyProof.Rows
namespace PySem.W.Fast
abbrev _root_.AG:=Option Int
abbrev _root_.AI:=List Addr
abbrev _root_.AK:=List Str
abbrev _root_.AN:=List Stmt
abbrev _root_.AO:=List Obj
abbrev _root_.AQ:=List (Nat×Nat)
abbrev _root_.AR:=Array Value
abbrev _root_.AS:=Option Nat
abbrev _root_.AU:=List Nat
abbrev _root_.AW:=List Int
abbrev _root_.AX:=List (Option Nat)
abbrev _root_.AZ:=List (Str×Int)
abbrev _root_.A1:=List (Str×Value)
abbrev _root_.A3:=List (Str×Addr)
abbrev _root_.A5:=List Value
abbrev _root_.A6:=Option Value
abbrev _root_.A7:=List (Int×Int)
abbrev _root_.A8:=List Env
abbrev _root_.A9:=List (Nat×Addr)
abbrev _root_.BA:=List (Addr×Obj)
abbrev _root_.BB:=List (Nat×Bool)
abbrev _root_.BC:=List Bool
abbrev _root_.BD:=Option Addr
local macro_rules|`(!$x:ident)=>`($x=$x)|`(-$x:ident)=>`(λP=>Subtype.val (p:=λt=>t=qB 12 ($x P)) ⟨_,by dsimp only[Dx,wx,mq,fv,yR,vN,tZ,sI,qF,pJ,oB,nI,mJ,lT,lI,kT,kC,jM,iV,iM,iC,hW,gU,gO,gB,fW,fQ,eO,qH,qh,bQ,dP,eH,eX,eY,fG,List.set,List.cons_append,List.nil_append,qB,qe,qg]⟩)|`(!($n:num,$a,*))=>do let r←(a.getElems.zipIdx n.getNat).mapM λ(x,i)=>`(.str $x $(Lean.quote i));`(#[$r,*])
def Nv:AN->Nat->Stmt|a::_,0=>a|_::l,n+1=>Nv l n | [],_=>.Pass (.mk 0 0 0 0)
def Dy:Stmt->AN | .FunctionDef _ _ b _ _ _ _ _ _ _=>b | .ClassDef _ _ _ b _ _ _ _ _ _ _=>b|_=>[]
def yT:Stmt->Arguments | .FunctionDef _ p _ _ _ _ _ _ _ _=>p|_=>default
def Eb:Stmt->Scope | .FunctionDef _ _ _ _ _ _ s _ _ _=>s | .ClassDef _ _ _ _ _ _ s _ _ _ _=>s|_=>default
def qb(s:String)(x:Data):Obj:=⟨.type s,.none,x,#[]⟩
def qd(P:Params)(n:Str)(i:Nat)(v:Value):DictEntry:=⟨PySem.PyData.keyHash P n,.str n i,v⟩
def qr(P:Params)(n:Str)(i v:Nat):DictEntry:=qd P n i (.ref v)
def qS(n:Nat):Stmt:=Nv PySem.Challenge.pw_aheadmill_k43_whole_beginning_of_the_pla.main.body n
def qe:AO->AO|x::_::l=>x::qe l|l=>l
def qg:AO->AO|_::y::l=>y::qg l|_=>[]
def qB:Nat->AO->BT|0,_=>.nil|_+1,[]=>.nil|n+1,x::l=>.node x (qB n<|qe l) (qB n<|qg l)
def bX:String:=SL.s2766695959194262286x5
def Pj:String:=SL.s5856160107412720595x4
def qz2:String:=SL.s658472552662922059x5
def gC:String:=SL.s14018661285674007319x4
def qz4:String:=SL.s7097527257260152453x26
def JA:String:=SL.s7174869446012820540x8
def qN:String:=SL.s6070975301684473832x10
def JB:String:=SL.s11030030927630378310x26
def qz8:String:=SL.s10062305145149207511x16
def mM:String:=SL.s17162191345867700912x4
def nu:String:=SL.s5946037652744460706x9
def ny:String:=SL.s4278001404047624695x13
def iN:String:=SL.s2742458400755230247x6
def nz:String:=SL.s4209523147560561109x18
def IZ:String:=SL.s14755015743595814543x17
def aMt:String:=SL.s10220274742760427390x26
def aMu:String:=SL.s4290257624100764138x5
def aMv:String:=SL.s4860613602091757760x24
def vU:String:=SL.s11443829558043349243x14
def aMw:String:=SL.s6511155373996960695x17
def aMx:String:=SL.s12411053484034534018x21
def qn0:Str:="<module>"
def fz:Str:="/claim/cut.py"
def IF:Str:="__main__"
def gQ:Str:="__name__"
def qL:Str:="aheadmill.errors"
def nJ:Str:="__doc__"
def qn6:Str:="__package__"
def qn7:Str:="__loader__"
def qn8:Str:="__spec__"
def qn9:Str:="__annotations__"
def aIz:Str:="__builtins__"
def aJb:Str:="__file__"
def aJd:Str:="__cached__"
def iX:Str:="MillError"
def gW:Str:="__module__"
def qG:Str:="__qualname__"
def gX:Str:="__firstlineno__"
def gY:Str:="__static_attributes__"
def sJ:Str:="__weakref__"
def Ou:Str:="Nought"
def Ov:Str:="NoTicket"
def Ox:Str:="Busy"
def gb:Str:="aheadmill.words"
def Oz:Str:="Halted"
def aKk:Str:="BITS"
def aKn:Str:="BEYOND"
def aKp:Str:="WAYS"
def aKq:Str:="sum"
def aKr:Str:="less"
def II:Str:="times"
def IJ:Str:="share"
def IK:Str:="rest"
def aKs:Str:="both"
def aKt:Str:="some"
def aKu:Str:="odd"
def aKv:Str:="up"
def aKw:Str:="down"
def aKx:Str:="below"
def aKy:Str:="same"
def IL:Str:="one"
def aKz:Str:="other"
def vP:Str:="aheadmill.rows"
def aLa:Str:="GROUPS"
def aLb:Str:="load"
def aLc:Str:="store"
def aLd:Str:="jump"
def aLe:Str:="go"
def aLf:Str:="fault"
def aLg:Str:="row"
def aLh:Str:="words"
def aLi:Str:="at"
def cN:Str:="aheadmill.guessers"
def aLj:Str:="GREATEST_COUNT"
def aLk:Str:="held"
def aLl:Str:="window"
def aLm:Str:="ledger"
def aLn:Str:="put"
def wz:Str:="aheadmill.fetching"
def aLo:Str:="guesser"
def Pc:Str:="Tally"
def xa:Str:="__init__"
def aLp:Str:="likely"
def aLq:Str:="move"
def aJa:Str:="levels"
def uA:Str:="__dict__"
def fH:Str:="Guesser"
def mx:Str:="guess"
def my:Str:="heed"
def aJc:Str:="learned"
def Od:Str:="Always"
def Oe:Str:="Last"
def aJe:Str:="first"
def aJf:Str:="lately"
def Of:Str:="Counts"
def Og:Str:="tally"
def Oh:Str:="Paths"
def aJg:Str:="length"
def aJh:Str:="trail"
def Oi:Str:="Listed"
def aJi:Str:="truths"
def Oj:Str:="Turned"
def uB:Str:="aheadmill.benches"
def Ol:Str:="Chosen"
def vO:Str:="aheadmill.names"
def Om:Str:="Benches"
def aJj:Str:="table"
def aJk:Str:="ticket"
def aJl:Str:="working"
def mK:Str:="aheadmill.shelf"
def Oo:Str:="Names"
def aJm:Str:="tickets"
def aJn:Str:="thrown"
def aJo:Str:="filled"
def Oq:Str:="Shelf"
def aJp:Str:="begun"
def aJq:Str:="kept"
def kU:Str:="aheadmill.slots"
def Ot:Str:="Slot"
def IG:Str:="names"
def aJr:Str:="chosen"
def aJs:Str:="dares"
def aJt:Str:="deed"
def aJu:Str:="finished"
def aJv:Str:="off"
def aJw:Str:="source"
def aJx:Str:="started"
def Ow:Str:="Window"
def aJy:Str:="program"
def aJz:Str:="size"
def aKa:Str:="wide"
def aKb:Str:="ahead"
def aKc:Str:="benches"
def aKd:Str:="now"
def aKe:Str:="shelf"
def aKf:Str:="slots"
def sL:Str:="aheadmill.taking"
def Oy:Str:="Ledger"
def Pa:Str:="aheadmill.plain"
def aKg:Str:="nerve"
def aKh:Str:="broken"
def aKi:Str:="gone"
def aKj:Str:="slips"
def aKl:Str:="state"
def aKm:Str:="storers"
def mL:Str:="aheadmill.mill"
def aKo:Str:="TABLE"
def mz:Str:="aheadmill.working"
def Pb:Str:="Mill"
def gP:Str:="law_aheadmill_k43_whole_beginning_of_the_pla"
variable (P:Params)
def tw11881303599141558809:Params->Frag:=λ_=>[]
theorem te11881303599141558809:!tw11881303599141558809:=rfl
def tw18134464744952530324:Program:={ PySem.Challenge.rw_aheadmill_k43_whole_beginning_of_the_pla.row.toRowW.1 with main:={ PySem.Challenge.rw_aheadmill_k43_whole_beginning_of_the_pla.row.toRowW.1.main with body:=[(qS 0),(qS 2),(qS 3),(qS 4),(qS 5),(qS 6),(qS 8),(qS 9),(qS 10),(qS 11),(qS 12),(qS 13),(qS 14),(qS 15),(qS 16),(qS 18),(qS 19),(qS 20),(qS 21),(qS 22),(qS 23),(qS 24),(qS 25),(qS 26),(qS 28),(qS 29),(qS 30),(qS 31),(qS 32),(qS 34),(qS 35),(qS 36),(qS 37),(qS 38),(qS 39),(qS 40),(qS 41),(qS 42),(qS 43),(qS 45),(qS 47),(qS 49),(qS 51),(qS 52),(qS 54),(qS 55),(qS 56),(qS 58),(qS 59),(qS 60),(qS 61),(qS 62),(qS 63),(qS 65),(qS 66),(qS 67),(qS 68),(qS 69),(qS 70),(qS 72),(qS 73),(qS 74),(qS 76),(qS 77),(qS 78),(qS 79),(qS 80),(qS 81),(qS 82),(qS 83),(qS 84),(qS 85),(qS 86),(qS 87),(qS 88),(qS 89),(qS 90),(qS 91),(qS 92),(qS 93),(qS 94),(qS 95),(qS 96),(qS 97),(qS 98),(qS 99)] } }
theorem te18134464744952530324:!tw18134464744952530324:=rfl
def uC:Stmt->Str | .FunctionDef n _ _ _ _ _ _ _ _ _=>n | .ClassDef n _ _ _ _ _ _ _ _ _ _=>n|_=>default
def nc:Stmt->Pos | .FunctionDef _ _ _ _ _ _ _ _ _ p=>p|_=>.mk 0 0 0 0
def gc(s:Stmt):AK:=((Eb s).names.filter λx=>x.2 == .local||x.2 == .cell).map λx=>x.1
def IT:AK->Nat->(List Value) | [],_=>[] | x::l,n=>.str x n::IT l (n+1)
def Pf(s:Stmt)(i:Nat):Obj:=qb bX (.seq (IT (gc s) i).toArray 0)
def iW(c j:Nat):Stmt:=Nv (Dy<|qS c) j
def Pd(c j:Nat):Str:=uC (qS c) ++ .ofString "."++uC (iW c j)
def qR(P:Params)(s i v:Nat):DictEntry:=qr P (uC<|qS s) i v
def qQ(P:Params)(c j i v:Nat):DictEntry:=qr P (uC<|iW c j) i v
def qW(a b c:List DictEntry):Array DictEntry:=(a++b++c).toArray
def qV(P:Params)(c:Nat):Nat->AQ->List DictEntry|_,[]=>[] | j,(i,a)::l=>qQ P c j i a::qV P c (j+1) l
def qY(c:Nat):Nat->AQ->AQ|_,[]=>[] | j,(_,a)::l=>((nc<|iW c j).line,a-1)::qY c (j+1) l
def Nw:AQ:=[(563,266),(571,273),(580,280),(589,287),(596,294)]
def Nx:AQ:=[(908,529),(914,534),(925,541),(931,546),(938,553),(944,558)]
def Ny:AQ:=[(975,579),(986,586),(995,593),(1001,598),(1012,605)]
def Nz:AQ:=[(1042,626),(1048,631),(1058,638),(1070,645),(1080,652),(1086,657),(1096,664),(1104,671),(1110,676),(1116,681),(1122,686)]
def Oa:AQ:=[(1158,707),(1165,714),(1172,721),(1180,728)]
def Ob:AQ:=[(1226,749),(1233,756),(1242,763),(1251,770),(1261,777),(1270,784),(1276,789)]
def Oc:AQ:=[(1522,943),(1531,950),(1539,957),(1546,964),(1552,969),(1559,976),(1566,983),(1573,990),(1580,997),(1589,1004)]
def qE(P:Params):List DictEntry:=[(qd P nJ 166 .none),(qd P qn6 167 .none),(qd P qn7 168<|.builtin qz4),(qd P qn8 169 .none),(qr P qn9 170 6),(qr P aIz 171 4),(qd P aJb 173<|.str fz 172),(qd P aJd 174 .none),(qR P 0 193 21),(qR P 2 213 31),(qR P 3 229 44),(qR P 4 245 56),(qR P 5 261 68),(qR P 6 277 80),(qd P aKk 281<|.int 64 280),(qd P aKn 283<|.int 18446744073709551616 282),(qr P aKp 296 83),(qR P 11 303 90),(qR P 12 311 97),(qR P 13 318 104),(qR P 14 326 111),(qR P 15 334 118),(qR P 16 343 125),(qr P aLa 370 126),(qR P 19 378 133),(qR P 20 386 140),(qR P 21 393 147),(qR P 22 401 154),(qR P 23 410 161),(qR P 24 421 168),(qR P 25 431 175),(qR P 26 443 182),(qR P 28 454 189),(qR P 29 463 196),(qR P 30 475 203),(qR P 31 483 210),(qR P 32 491 217),(qd P aLj 495<|.int 3 494),(qR P 35 544 248),(qR P 36 605 297),(qR P 37 629 318),(qR P 38 672 352),(qR P 39 716 386),(qR P 40 763 420),(qR P 41 796 446),(qR P 42 838 479),(qR P 43 886 513),(qR P 45 954 561),(qR P 47 1021 608),(qR P 49 1132 689),(qR P 51 1202 731),(qR P 52 1295 792),(qR P 54 1305 803),(qR P 55 1314 810),(qR P 56 1326 817),(qR P 58 1374 841),(qR P 59 1384 852),(qR P 60 1393 859),(qR P 61 1402 866),(qR P 62 1410 873),(qR P 63 1418 880),(qR P 65 1430 887),(qR P 66 1439 894),(qR P 67 1451 901),(qR P 68 1460 908),(qR P 69 1470 915),(qR P 70 1481 922),(qr P aKo 1494 928),(qR P 73 1599 1007),(qR P 74 1606 1018),(qR P 76 1616 1025),(qR P 77 1625 1032),(qR P 78 1634 1039),(qR P 79 1648 1046),(qR P 80 1661 1053),(qR P 81 1678 1060),(qR P 82 1692 1067),(qR P 83 1701 1074),(qR P 84 1707 1079),(qR P 85 1713 1084),(qR P 86 1719 1089),(qR P 87 1731 1096),(qR P 88 1742 1103),(qR P 89 1752 1110),(qR P 90 1763 1117),(qR P 91 1776 1124),(qR P 92 1791 1131),(qR P 93 1801 1138),(qR P 94 1813 1145),(qR P 95 1819 1150),(qR P 96 1829 1157),(qR P 97 1840 1164),(qR P 98 1851 1171),(qR P 99 1857 1176)]
def qM(P:Params)(e:DictEntry)(n m:Nat):Obj:=qb gC (.dict (e::(qE P).take n).toArray m)
def qJ:AQ->(List Value) | []=>[] | (a,b)::l=>.int a 0 :: .int 0 0 :: .ref b::qJ l
def qK:(List Value):=qJ [(1,20),(5,27),(7,40),(9,52),(11,64),(13,76),(19,89),(21,96),(25,103),(27,110),(29,117),(31,124),(57,132),(68,139),(73,146),(75,153),(81,160),(87,167),(97,174),(108,181),(114,188),(119,195),(126,202),(131,209),(135,216),(141,223),(153,258),(170,307),(174,326),(186,360),(197,394),(212,428),(222,454),(233,487),(253,521),(287,571),(315,618),(386,699),(413,741),(469,802),(471,809),(473,816),(486,823),(499,851),(506,858),(517,865),(523,872),(528,879),(531,886),(536,893),(544,900),(552,907),(556,914),(561,921),(578,934),(623,1017),(626,1024),(630,1031),(633,1038),(641,1045),(654,1052),(663,1059),(678,1066),(696,1073),(705,1078),(712,1083),(721,1088),(730,1095),(736,1102),(740,1109),(749,1116),(756,1123),(775,1130),(792,1137),(812,1144),(821,1149),(841,1156),(850,1163),(856,1170),(865,1175)]
def qI(n:Nat):Obj:=.mk .none .none (.fields (qK.take n).toArray) #[]
def Ph(a0:Str)(a1:Str)(a2:Stmt)(a3:Stmt):Obj:=(.mk .none .none (.func<|.mk a0 a1 (yT a2) (.stmts<|Dy a2) (Eb a3) 0 [] .none .none .none .none .none .none .none 0) #[])
def IU(a0:Str)(a1:Str)(a2:Stmt)(a3:Stmt)(a4:Str)(a5:Nat)(a6:Nat):Obj:=qb JA (.func<|.mk a0 a1 (yT a2) (.stmts<|Dy a2) (Eb a3) 3 [] .none .none .none (.str a4 a5) .none (.ref a6) .none 0)
def IV(a0:Str)(a1:Nat)(a2:Str)(a3:Int)(a4:Int)(a5:Nat)(a6:Int)(a7:Nat):Obj:=qb Pj (.fields #[(.str a0 a1),(.str a2<|a1+1),(.str fz<|a1+2),(.int a3 0),(.int a4 0),(.int 0 0),(.int 0 0),(.int 3 0),(.ref a5),(.bool .true),(.int 181 0),(.ref<|a5+1),.none,(.ref<|a5+2),(.ref<|a5+3),(.ref<|a5+4),(.int a6 0),(.int a3 0),(.str fz a7)])
def Ee(a0:Str)(a1:Nat)(a2:Str):Obj:=qb bX (.seq #[(.str a0 a1),(.str a2<|a1+1)] 0)
def IW(a0:Str)(a1:Nat)(a2:Str)(a3:Str):Obj:=qb bX (.seq #[(.str a0 a1),(.str a2<|a1+1),(.str a3<|a1+2)] 0)
def iY(a0:Str)(a1:Nat)(a2:Int)(a3:Nat)(a4:Int):Obj:=qb Pj (.fields #[(.str a0 a1),(.str a0<|a1+1),(.str fz<|a1+2),(.int a2 0),(.int 0 0),(.int 0 0),(.int 0 0),(.int 0 0),(.ref a3),(.bool .false),(.int 181 0),(.ref<|a3+1),.none,.none,.none,.none,(.int a4 0),(.int a2 0),(.str fz<|a1+4)])
def iZ(a0:Nat)(a1:Nat)(a2:Str)(a3:Nat):Obj:=(.mk (.type qz2) .none .plain #[(.some<|.ref a0),(.some<|.ref 3),(.some<|.ref a1),.none,(.some<|.str a2 a3),.none,(.some<|.ref 0)])
def jN:Obj:=qb JB (.fields #[(.builtin qz8),(.type mM)])
def jO(a0:Nat):Obj:=qb aMu (.fields #[(.ref a0),(.ref a0),(.ref a0)])
def jP(a0:Nat):Obj:=qb JB (.fields #[(.builtin aMv),(.ref a0)])
def aMr(a0:Str)(a1:Nat)(a2:Str)(a3:Int)(a4:Int)(a5:Nat)(a6:Int):Obj:=qb Pj (.fields #[(.str a0 a1),(.str a2<|a1+1),(.str fz<|a1+2),(.int a3 0),(.int a4 0),(.int 0 0),(.int 0 0),(.int 3 0),(.ref a5),(.bool .true),(.int 181 0),(.ref<|a5+1),.none,.none,.none,(.ref<|a5+2),(.int a6 0),(.int a3 0),(.str fz<|a1+4)])
def uD(a0:Nat)(a1:Nat):Obj:=qb IZ (.fields #[(.str sJ a0),(.ref a1),(.builtin aMt),.none])
def vS(a0:Str)(a1:Nat)(a2:Nat)(a3:Nat):Obj:=(.mk (.type mM) .none (.cls<|.mk a0 [(.type iN)] [(.ref a1),(.type iN)] a2 a0 .true [] [] .false .none .false) #[.none,.none,(.some<|.str a0 a3),(.some<|.str a0<|a3+8),(.some<|.builtin vU),(.some<|.bool .true)])
def vT(a0:Nat)(a1:Nat):Obj:=qb IZ (.fields #[(.str uA a0),(.ref a1),(.builtin aMw),(.builtin aMx)])
def gf(a0:Str)(a1:Nat)(a2:Nat)(a3:Nat)(a4:Nat):Obj:=(.mk (.type mM) .none (.cls<|.mk a0 [(.ref 297)] [(.ref a1),(.ref 297),(.type iN)] a2 a0 .true [] [] .false .none .false) #[(.some<|.ref a3),.none,(.some<|.str a0 a4),(.some<|.str a0<|a4+8),(.some<|.builtin vU),(.some<|.bool .true)])
def ng(P:Params)(a0:Nat)(a1:Str)(a2:Int)(a3:Nat)(a4:Nat)(a5:Str)(a6:Str)(a7:Nat)(a8:Nat):Obj:=qb gC (.dict #[(qd P gW a0<|.str cN 492),(qd P qG (a0+2)<|.str a1<|a0+1),(qd P gX (a0+4)<|.int a2<|a0+3),(qd P xa a3<|.ref a4),(qd P a5 (a3+8)<|.ref<|a4+7),(qd P a6 a7<|.ref<|a4+14),(qd P gY a8<|.ref<|a4+15)] 7)
def nq(a0:Int)(a1:Nat)(a2:Int)(a3:Int):Obj:=(.mk .none .none (.fields #[(.int a0 0),(.int 4 0),(.ref a1),(.int a2 0),(.int 4 0),(.ref<|a1+7),(.int a3 0),(.int 4 0),(.ref<|a1+14)]) #[])
def xb(P:Params)(a0:Nat)(a1:Str)(a2:Int)(a3:Nat):Obj:=qb gC (.dict #[(qd P gW a0<|.str qL 194),(qd P qG (a0+2)<|.str a1<|a0+1),(qd P gX (a0+4)<|.int a2<|a0+3),(qd P gY (a0+5)<|.ref a3)] 4)
def aMs(a0:Str)(a1:Stmt)(a2:Nat)(a3:Str)(a4:Nat):Obj:=qb JA (.func<|.mk xa a0 (yT a1) (.stmts<|Dy a1) (Eb a1) 3 [] (.ref a2) .none .none (.str a3 a4) .none (.ref<|a2+6) .none 0)
def xc(P:Params)(a0:Nat)(a1:Int)(a2:Nat)(a3:Nat)(a4:Nat)(a5:Nat):Obj:=qb gC (.dict #[(qd P gW a0<|.str cN 492),(qd P gX (a0+4)<|.int a1<|a0+3),(qd P xa a2<|.ref a3),(qd P mx (a2+8)<|.ref<|a3+7),(qd P my a4<|.ref<|a3+14),(qd P gY a5<|.ref<|a3+15),(qd P nJ (a5+1) .none)] 2)
def xf(a0:Int)(a1:Nat)(a2:Int):Obj:=qb bX (.seq #[(.int a0 a1),(.int a2<|a1+1)] 0)
def Ec(P:Params)(a0:Nat)(a1:Int)(a2:Nat):Obj:=qb gC (.dict #[(qd P gW a0<|.str qL 194),(qd P gX (a0+4)<|.int a1<|a0+3),(qd P gY (a0+5)<|.ref a2),(qd P nJ (a0+6) .none)] 2)
def Ed(a0:Str)(a1:Nat)(a2:Nat)(a3:Nat)(a4:Nat):Obj:=(.mk (.type mM) .none (.cls<|.mk a0 [(.ref 31)] [(.ref a1),(.ref 31),(.type qN),(.type nu),(.type ny),(.type iN)] a2 a0 .true [] [] .false .none .false) #[(.some<|.ref a3),.none,(.some<|.str a0 a4),(.some<|.str a0<|a4+8),(.some<|.builtin nz),(.some<|.bool .true)])
def qU:AQ->(List Value) | []=>[] | (a,b)::l=>.int a 0 :: .int 4 0 :: .ref b::qU l
def qT(l:AQ):Obj:=.mk .none .none (.fields (qU l).toArray) #[]
def eX(a0:Obj)(a1:Str)(a2:Str)(a3:Stmt)(a4:Stmt)(a5:Nat)(a6:Int)(a7:Int)(a8:Nat)(a9:Int)(a10:Nat)(a11:Str)(a12:Nat):AO:=[qb bX (.seq #[] 0),(.mk .none .none (.fields #[]) #[]),a0,qb bX (.seq #[] 0),Ph a1 a2 a3 a4,IV a1 a5 a2 a6 a7 a8 a9 a10,IU a1 a2 a3 a4 a11 a12 (a8+5)]
def eY(a0:Str)(a1:Str)(a2:Stmt)(a3:Stmt)(a4:Nat)(a5:Int)(a6:Int)(a7:Nat)(a8:Int)(a9:Str)(a10:Nat):AO:=[qb bX (.seq #[] 0),(.mk .none .none (.fields #[]) #[]),Ph a0 a1 a2 a3,aMr a0 a4 a1 a5 a6 a7 a8,IU a0 a1 a2 a3 a9 a10 (a7+3)]
def fG(a0:Obj)(a1:Str)(a2:Stmt)(a3:Nat)(a4:Int)(a5:Int)(a6:Nat)(a7:Int)(a8:Nat)(a9:Str)(a10:Nat):AO:=[qb bX (.seq #[] 0),(.mk .none .none (.fields #[]) #[]),a0,qb bX (.seq #[] 0),Ph xa a1 a2 a2,IV xa a3 a1 a4 a5 a6 a7 a8,aMs a1 a2 (a6-1) a9 a10]
def qH(s i a:Nat)(m:Str)(k:Nat):AO:=eX (Pf (qS s)<|i+3) (uC<|qS s) (uC<|qS s) (qS s) (qS s) i (nc<|qS s).line (yT<|qS s).args.length a (i+3+(gc<|qS s).length:Nat) (i+4+(gc<|qS s).length) m k
def qh(s i a:Nat)(m:Str)(k:Nat):AO:=eY (uC<|qS s) (uC<|qS s) (qS s) (qS s) i (nc<|qS s).line (yT<|qS s).args.length a (i+3:Nat) m k
def bQ(c j i a:Nat)(m:Str)(k:Nat):AO:=eX (Pf (iW c j)<|i+3) (uC<|iW c j) (Pd c j) (iW c j) (iW c j) i (nc<|iW c j).line (yT<|iW c j).args.length a (i+3+(gc<|iW c j).length:Nat) (i+4+(gc<|iW c j).length) m k
def dP(c j i a:Nat)(m:Str)(k:Nat):AO:=eY (uC<|iW c j) (Pd c j) (iW c j) (iW c j) i (nc<|iW c j).line (yT<|iW c j).args.length a (i+3:Nat) m k
def eH(c j i a:Nat)(m:Str)(k:Nat):AO:=fG (Pf (iW c j)<|i+3) (Pd c j) (iW c j) i (nc<|iW c j).line (yT<|iW c j).args.length a (i+3+(gc<|iW c j).length:Nat) (i+4+(gc<|iW c j).length) m k
def eO(P:Params):AO:=[boot_o_0 P,boot_o_1 P,boot_o_2 P,boot_o_3 P,boot_o_4 P,boot_o_5 P,boot_o_6 P,boot_o_7 P,boot_o_8 P,boot_o_9 P,boot_o_10 P,qb bX (.seq #[] 0),qI 0,iY qn0 182 1 11 185,iZ 13 3 IF 164]
def fQ(P:Params):AO:=((eO P).set 3 (qM P (qd P gQ 165<|.str qL 194) 10 11)).set 12 (qI 6)++(qH 0 187 15 IF 164++([qb bX (.seq #[(.type qN)] 0),jN,xb P 203 iX 5 29,(qb bX (.seq #[] 0)),(.mk .none .none (.fields #[]) #[]),iY iX 198 5 25 201,iZ 27 24 qL 194,(qb bX (.seq #[] 0)),qb gC (.dict #[(qd P gW 203<|.str qL 194),(qd P gX 207<|.int 5 206),(qr P gY 208 29),(qr P sJ 210 32),(qd P nJ 211 .none)] 3),(.mk (.type mM) .none (.cls<|.mk iX [(.type qN)] [(.ref 31),(.type qN),(.type nu),(.type ny),(.type iN)] 30 iX .true [] [] .false .none .false) #[(.some<|.ref 22),.none,(.some<|.str iX 196),(.some<|.str iX 204),(.some<|.builtin nz),(.some<|.bool .true)]),uD 209 31,jO 31,jP 31]))
def fW(P:Params):AO:=(((fQ P).set 3 (qM P (qd P gQ 165<|.str qL 194) 11 12)).set 12 (qI 9)).set 31 ((.mk (.type mM) .none (.cls<|.mk iX [(.type qN)] [(.ref 31),(.type qN),(.type nu),(.type ny),(.type iN)] 30 iX .true [] [(.ref 44)] .false .none .false) #[(.some<|.ref 22),.none,(.some<|.str iX 196),(.some<|.str iX 204),(.some<|.builtin nz),(.some<|.bool .true)]))++([qb bX (.seq #[(.ref 31)] 0),jN,xb P 221 Ou 7 42,(qb bX (.seq #[] 0)),(.mk .none .none (.fields #[]) #[]),iY Ou 216 7 38 219,iZ 40 37 qL 194,(qb bX (.seq #[] 0)),Ec P 221 7 42,Ed Ou 44 43 35 214,jO 44,jP 44])
def gB(P:Params):AO:=(((fW P).set 3 (qM P (qd P gQ 165<|.str qL 194) 12 13)).set 12 (qI 12)).set 31 ((.mk (.type mM) .none (.cls<|.mk iX [(.type qN)] [(.ref 31),(.type qN),(.type nu),(.type ny),(.type iN)] 30 iX .true [] [(.ref 44),(.ref 56)] .false .none .false) #[(.some<|.ref 22),.none,(.some<|.str iX 196),(.some<|.str iX 204),(.some<|.builtin nz),(.some<|.bool .true)]))++([qb bX (.seq #[(.ref 31)] 0),jN,xb P 237 Ov 9 54,(qb bX (.seq #[] 0)),(.mk .none .none (.fields #[]) #[]),iY Ov 232 9 50 235,iZ 52 49 qL 194,(qb bX (.seq #[] 0)),Ec P 237 9 54,Ed Ov 56 55 47 230,jO 56,jP 56])
def gO(P:Params):AO:=(((gB P).set 3 (qM P (qd P gQ 165<|.str qL 194) 13 14)).set 12 (qI 15)).set 31 ((.mk (.type mM) .none (.cls<|.mk iX [(.type qN)] [(.ref 31),(.type qN),(.type nu),(.type ny),(.type iN)] 30 iX .true [] [(.ref 44),(.ref 56),(.ref 68)] .false .none .false) #[(.some<|.ref 22),.none,(.some<|.str iX 196),(.some<|.str iX 204),(.some<|.builtin nz),(.some<|.bool .true)]))++([qb bX (.seq #[(.ref 31)] 0),jN,xb P 253 Ox 11 66,(qb bX (.seq #[] 0)),(.mk .none .none (.fields #[]) #[]),iY Ox 248 11 62 251,iZ 64 61 qL 194,(qb bX (.seq #[] 0)),Ec P 253 11 66,Ed Ox 68 67 59 246,jO 68,jP 68])
def gU(P:Params):AO:=(((gO P).set 3 (qM P (qd P gQ 165<|.str gb 278) 21 22)).set 12 (qI 30)).set 31 ((.mk (.type mM) .none (.cls<|.mk iX [(.type qN)] [(.ref 31),(.type qN),(.type nu),(.type ny),(.type iN)] 30 iX .true [] [(.ref 44),(.ref 56),(.ref 68),(.ref 80)] .false .none .false) #[(.some<|.ref 22),.none,(.some<|.str iX 196),(.some<|.str iX 204),(.some<|.builtin nz),(.some<|.bool .true)]))++([qb bX (.seq #[(.ref 31)] 0),jN,xb P 269 Oz 13 78,(qb bX (.seq #[] 0)),(.mk .none .none (.fields #[]) #[]),iY Oz 264 13 74 267,iZ 76 73 qL 194,(qb bX (.seq #[] 0)),Ec P 269 13 78,Ed Oz 80 79 71 262,jO 80,jP 80,qb bX (.seq (!(284,aKq,aKr,II,IJ,IK,aKs,aKt,aKu,aKv,aKw,aKx,aKy)) 0)]++(qH 11 297 84 gb 278++(qH 12 304 91 gb 278++(qH 13 312 98 gb 278++(qH 14 319 105 gb 278)))))
def hW(P:Params):AO:=((gU P).set 3 (qM P (qd P gQ 165<|.str vP 344) 30 31)).set 12 (qI 54)++(qH 15 327 112 gb 278++(qH 16 335 119 gb 278++([qb gC (.dict #[(qd P II 346<|.int 1 347),(qd P IJ 348<|.int 2 349),(qd P IK 350<|.int 2 351),(qd P aLb 352<|.int 3 353),(qd P aLc 354<|.int 3 355),(qd P aLd 356<|.int 4 357),(qd P aLe 358<|.int 4 359),(qd P aLf 360<|.int 4 361)] 8)]++(qH 19 371 127 vP 344++(qH 20 379 134 vP 344++(qH 21 387 141 vP 344++(qH 22 394 148 vP 344++(qH 23 402 155 vP 344++(qH 24 411 162 vP 344)))))))))
def iC(P:Params):AO:=((hW P).set 3 (qM P (qd P gQ 165<|.str cN 492) 38 39)).set 12 (qI 75)++(qH 25 422 169 vP 344++(qH 26 432 176 vP 344++(qH 28 446 183 wz 444++(qH 29 455 190 wz 444++(qH 30 464 197 wz 444++(qH 31 476 204 wz 444++(qH 32 484 211 wz 444)))))))
def iM(P:Params):AO:=((iC P).set 3 (qM P (qd P gQ 165<|.str cN 492) 39 40)).set 12 (qI 78)++([(qb bX (.seq #[] 0)),jN,ng P 503 Pc 141 516 231 aLp aLq 535 537,(qb bX (.seq #[] 0)),nq 143 230 146 149,iY Pc 498 141 221 501,iZ 223 220 cN 492]++(bQ 35 0 508 225 cN 492++(bQ 35 1 517 232 cN 492++(bQ 35 2 525 239 cN 492++([qb bX (.seq (!(536,aJa)) 0),qb gC (.dict #[(qd P gW 503<|.str cN 492),(qd P gX 507<|.int 141 506),(qQ P 35 0 516 231),(qQ P 35 1 524 238),(qQ P 35 2 535 245),(qr P gY 537 246),(qr P uA 539 249),(qr P sJ 541 250),(qd P nJ 542 .none)] 4),vS Pc 248 247 496,vT 538 248,uD 540 248,jO 248,jP 248])))))
def iV(P:Params):AO:=((iM P).set 3 (qM P (qd P gQ 165<|.str cN 492) 40 41)).set 12 (qI 81)++([(qb bX (.seq #[] 0)),jN,qb gC (.dict (qW [(qd P gW 552<|.str cN 492),(qd P qG 554<|.str fH 553),(qd P gX 556<|.int 153 555)] (qV P 36 0 Nw) [(qr P gY 598 295)]) 9),(qb bX (.seq #[] 0)),(qT<|qY 36 0 Nw),iY fH 547 153 256 550,iZ 258 255 cN 492]++(bQ 36 0 557 260 cN 492++(bQ 36 1 564 267 cN 492++(bQ 36 2 572 274 cN 492++(bQ 36 3 581 281 cN 492++(bQ 36 4 590 288 cN 492++([qb bX (.seq (!(597,aJc)) 0),qb gC (.dict (qW [(qd P gW 552<|.str cN 492),(qd P gX 556<|.int 153 555)] (qV P 36 0 Nw) [(qr P gY 598 295),(qr P uA 600 298),(qr P sJ 602 299),(qd P nJ 603 .none)]) 4),vS fH 297 296 545,vT 599 297,uD 601 297,jO 297,jP 297])))))))
def jM(P:Params):AO:=(((iV P).set 3 (qM P (qd P gQ 165<|.str cN 492) 41 42)).set 12 (qI 84)).set 297 ((.mk (.type mM) .none (.cls<|.mk fH [(.type iN)] [(.ref 297),(.type iN)] 296 fH .true [] [(.ref 318)] .false .none .false) #[.none,.none,(.some<|.str fH 545),(.some<|.str fH 553),(.some<|.builtin vU),(.some<|.bool .true)]))++([qb bX (.seq #[(.ref 297)] 0),jN,qb gC (.dict #[(qd P gW 613<|.str cN 492),(qd P qG 615<|.str Od 614),(qd P gX 617<|.int 170 616),(qQ P 37 0 625 315),(qr P gY 626 316)] 5),(qb bX (.seq #[] 0)),(qT [(172,314)]),iY Od 608 170 305 611,iZ 307 304 cN 492]++(bQ 37 0 618 309 cN 492++([(qb bX (.seq #[] 0)),qb gC (.dict #[(qd P gW 613<|.str cN 492),(qd P gX 617<|.int 170 616),(qQ P 37 0 625 315),(qr P gY 626 316),(qd P nJ 627 .none)] 2),gf Od 318 317 302 606,jO 318,jP 318])))
def kC(P:Params):AO:=(((jM P).set 3 (qM P (qd P gQ 165<|.str cN 492) 42 43)).set 12 (qI 87)).set 297 ((.mk (.type mM) .none (.cls<|.mk fH [(.type iN)] [(.ref 297),(.type iN)] 296 fH .true [] [(.ref 318),(.ref 352)] .false .none .false) #[.none,.none,(.some<|.str fH 545),(.some<|.str fH 553),(.some<|.builtin vU),(.some<|.bool .true)]))++([qb bX (.seq #[(.ref 297)] 0),jN,ng P 637 Oe 174 649 335 mx my 666 669,(qb bX (.seq #[] 0)),nq 176 334 181 184,iY Oe 632 174 324 635,iZ 326 323 cN 492,qb bX (.seq #[(.bool .false)] 0)]++(eH 38 0 642 329 cN 492++(bQ 38 1 650 336 cN 492++(bQ 38 2 658 343 cN 492++([Ee aJe 667 aJf,xc P 637 174 649 335 666 669,gf Oe 352 351 321 630,jO 352,jP 352])))))
def kT(P:Params):AO:=(((kC P).set 3 (qM P (qd P gQ 165<|.str cN 492) 43 44)).set 12 (qI 90)).set 297 ((.mk (.type mM) .none (.cls<|.mk fH [(.type iN)] [(.ref 297),(.type iN)] 296 fH .true [] [(.ref 318),(.ref 352),(.ref 386)] .false .none .false) #[.none,.none,(.some<|.str fH 545),(.some<|.str fH 553),(.some<|.builtin vU),(.some<|.bool .true)]))++([qb bX (.seq #[(.ref 297)] 0),jN,ng P 680 Of 186 694 369 mx my 711 713,(qb bX (.seq #[] 0)),nq 188 368 192 195,iY Of 675 186 358 678,iZ 360 357 cN 492,qb bX (.seq #[(.int 1 685)] 0)]++(eH 39 0 686 363 cN 492++(bQ 39 1 695 370 cN 492++(bQ 39 2 703 377 cN 492++([qb bX (.seq (!(712,Og)) 0),xc P 680 186 694 369 711 713,gf Of 386 385 355 673,jO 386,jP 386])))))
def lI(P:Params):AO:=(((kT P).set 3 (qM P (qd P gQ 165<|.str cN 492) 44 45)).set 12 (qI 93)).set 297 ((.mk (.type mM) .none (.cls<|.mk fH [(.type iN)] [(.ref 297),(.type iN)] 296 fH .true [] [(.ref 318),(.ref 352),(.ref 386),(.ref 420)] .false .none .false) #[.none,.none,(.some<|.str fH 545),(.some<|.str fH 553),(.some<|.builtin vU),(.some<|.bool .true)]))++([qb bX (.seq #[(.ref 297)] 0),jN,ng P 724 Oh 197 738 403 mx my 756 760,(qb bX (.seq #[] 0)),nq 199 402 205 208,iY Oh 719 197 392 722,iZ 394 391 cN 492,qb bX (.seq #[(.int 4 729)] 0)]++(eH 40 0 730 397 cN 492++(bQ 40 1 739 404 cN 492++(bQ 40 2 747 411 cN 492++([IW aJg 757 Og aJh,xc P 724 197 738 403 756 760,gf Oh 420 419 389 717,jO 420,jP 420])))))
def lT(P:Params):AO:=(((lI P).set 3 (qM P (qd P gQ 165<|.str cN 492) 45 46)).set 12 (qI 96)).set 297 ((.mk (.type mM) .none (.cls<|.mk fH [(.type iN)] [(.ref 297),(.type iN)] 296 fH .true [] [(.ref 318),(.ref 352),(.ref 386),(.ref 420),(.ref 446)] .false .none .false) #[.none,.none,(.some<|.str fH 545),(.some<|.str fH 553),(.some<|.builtin vU),(.some<|.bool .true)]))++([qb bX (.seq #[(.ref 297)] 0),jN,qb gC (.dict #[(qd P gW 771<|.str cN 492),(qd P qG 773<|.str Oi 772),(qd P gX 775<|.int 212 774),(qQ P 41 0 783 436),(qQ P 41 1 791 443),(qr P gY 793 444)] 6),(qb bX (.seq #[] 0)),(qT [(214,435),(218,442)]),iY Oi 766 212 426 769,iZ 428 425 cN 492]++(bQ 41 0 776 430 cN 492++(bQ 41 1 784 437 cN 492++([qb bX (.seq (!(792,aJi)) 0),qb gC (.dict #[(qd P gW 771<|.str cN 492),(qd P gX 775<|.int 212 774),(qQ P 41 0 783 436),(qQ P 41 1 791 443),(qr P gY 793 444),(qd P nJ 794 .none)] 2),gf Oi 446 445 423 764,jO 446,jP 446]))))
def mJ(P:Params):AO:=(((lT P).set 3 (qM P (qd P gQ 165<|.str cN 492) 46 47)).set 12 (qI 99)).set 297 ((.mk (.type mM) .none (.cls<|.mk fH [(.type iN)] [(.ref 297),(.type iN)] 296 fH .true [] [(.ref 318),(.ref 352),(.ref 386),(.ref 420),(.ref 446),(.ref 479)] .false .none .false) #[.none,.none,(.some<|.str fH 545),(.some<|.str fH 553),(.some<|.builtin vU),(.some<|.bool .true)]))++([qb bX (.seq #[(.ref 297)] 0),jN,ng P 804 Oj 222 816 462 mx my 833 835,(qb bX (.seq #[] 0)),nq 224 461 228 231,iY Oj 799 222 452 802,iZ 454 451 cN 492]++(bQ 42 0 809 456 cN 492++(bQ 42 1 817 463 cN 492++(bQ 42 2 825 470 cN 492++([qb bX (.seq (!(834,IL)) 0),xc P 804 222 816 462 833 835,gf Oj 479 478 449 797,jO 479,jP 479])))))
def nI(P:Params):AO:=(((mJ P).set 3 (qM P (qd P gQ 165<|.str uB 887) 47 48)).set 12 (qI 102)).set 297 ((.mk (.type mM) .none (.cls<|.mk fH [(.type iN)] [(.ref 297),(.type iN)] 296 fH .true [] [(.ref 318),(.ref 352),(.ref 386),(.ref 420),(.ref 446),(.ref 479),(.ref 513)] .false .none .false) #[.none,.none,(.some<|.str fH 545),(.some<|.str fH 553),(.some<|.builtin vU),(.some<|.bool .true)]))++([qb bX (.seq #[(.ref 297)] 0),jN,ng P 846 Ol 233 861 496 mx my 879 883,(qb bX (.seq #[] 0)),nq 235 495 241 246,iY Ol 841 233 485 844,iZ 487 484 cN 492,qb bX (.seq #[(.int 16 851)] 0)]++(eH 43 0 852 490 cN 492++(bQ 43 1 862 497 cN 492++(bQ 43 2 870 504 cN 492++([IW IL 880 aKz Og,xc P 846 233 861 496 879 883,gf Ol 513 512 482 839,jO 513,jP 513])))))
def oB(P:Params):AO:=((nI P).set 3 (qM P (qd P gQ 165<|.str vO 955) 48 49)).set 12 (qI 105)++([(qb bX (.seq #[] 0)),jN,qb gC (.dict (qW [(qd P gW 896<|.str uB 887),(qd P qG 898<|.str Om 897),(qd P gX 900<|.int 253 899)] (qV P 45 0 Nx) [(qr P gY 947 559)]) 10),(qb bX (.seq #[] 0)),(qT<|qY 45 0 Nx),iY Om 891 253 519 894,iZ 521 518 uB 887]++(bQ 45 0 901 523 uB 887++(dP 45 1 909 530 uB 887++(bQ 45 2 915 535 uB 887++(dP 45 3 926 542 uB 887++(bQ 45 4 932 547 uB 887++(dP 45 5 939 554 uB 887++([Ee aJj 945 aJl,qb gC (.dict (qW [(qd P gW 896<|.str uB 887),(qd P gX 900<|.int 253 899)] (qV P 45 0 Nx) [(qr P gY 947 559),(qr P uA 949 562),(qr P sJ 951 563),(qd P nJ 952 .none)]) 4),vS Om 561 560 889,vT 948 561,uD 950 561,jO 561,jP 561]))))))))
def pJ(P:Params):AO:=((oB P).set 3 (qM P (qd P gQ 165<|.str mK 1022) 49 50)).set 12 (qI 108)++([(qb bX (.seq #[] 0)),jN,qb gC (.dict (qW [(qd P gW 964<|.str vO 955),(qd P qG 966<|.str Oo 965),(qd P gX 968<|.int 287 967)] (qV P 47 0 Ny) [(qr P gY 1014 606)]) 9),(qb bX (.seq #[] 0)),(qT<|qY 47 0 Ny),iY Oo 959 287 569 962,iZ 571 568 vO 955]++(bQ 47 0 969 573 vO 955++(bQ 47 1 976 580 vO 955++(bQ 47 2 987 587 vO 955++(dP 47 3 996 594 vO 955++(bQ 47 4 1002 599 vO 955++([qb bX (.seq (!(1013,aJo)) 0),qb gC (.dict (qW [(qd P gW 964<|.str vO 955),(qd P gX 968<|.int 287 967)] (qV P 47 0 Ny) [(qr P gY 1014 606),(qr P uA 1016 609),(qr P sJ 1018 610),(qd P nJ 1019 .none)]) 4),vS Oo 608 607 957,vT 1015 608,uD 1017 608,jO 608,jP 608])))))))
def qF(P:Params):AO:=((pJ P).set 3 (qM P (qd P gQ 165<|.str mK 1022) 50 51)).set 12 (qI 111)++([(qb bX (.seq #[] 0)),jN,qb gC (.dict (qW [(qd P gW 1031<|.str mK 1022),(qd P qG 1033<|.str Oq 1032),(qd P gX 1035<|.int 315 1034)] (qV P 49 0 Nz) [(qr P gY 1125 687)]) 15),(qb bX (.seq #[] 0)),(qT<|qY 49 0 Nz),iY Oq 1026 315 616 1029,iZ 618 615 mK 1022]++(bQ 49 0 1036 620 mK 1022++(dP 49 1 1043 627 mK 1022++(bQ 49 2 1049 632 mK 1022++(bQ 49 3 1059 639 mK 1022++(bQ 49 4 1071 646 mK 1022++(dP 49 5 1081 653 mK 1022++(bQ 49 6 1087 658 mK 1022++(bQ 49 7 1097 665 mK 1022++(dP 49 8 1105 672 mK 1022++(dP 49 9 1111 677 mK 1022++(dP 49 10 1117 682 mK 1022++([Ee aJp 1123 aJq,qb gC (.dict (qW [(qd P gW 1031<|.str mK 1022),(qd P gX 1035<|.int 315 1034)] (qV P 49 0 Nz) [(qr P gY 1125 687),(qr P uA 1127 690),(qr P sJ 1129 691),(qd P nJ 1130 .none)]) 4),vS Oq 689 688 1024,vT 1126 689,uD 1128 689,jO 689,jP 689])))))))))))))
def sI(P:Params):AO:=((qF P).set 3 (qM P (qd P gQ 165<|.str kU 1133) 51 52)).set 12 (qI 114)++([(qb bX (.seq #[] 0)),jN,qb gC (.dict (qW [(qd P gW 1142<|.str kU 1133),(qd P qG 1144<|.str Ot 1143),(qd P gX 1146<|.int 386 1145)] (qV P 51 0 Oa) [(qr P gY 1195 729)]) 8),(qb bX (.seq #[] 0)),(qT<|qY 51 0 Oa),iY Ot 1137 386 697 1140,iZ 699 696 kU 1133]++(bQ 51 0 1147 701 kU 1133++(bQ 51 1 1159 708 kU 1133++(bQ 51 2 1166 715 kU 1133++(bQ 51 3 1173 722 kU 1133++([qb bX (.seq (!(1181,aLi,aJr,aJs,aJt,aJu,aLk,IG,aJv,aLn,aLg,aJw,aJx,aJk,aLh)) 0),qb gC (.dict (qW [(qd P gW 1142<|.str kU 1133),(qd P gX 1146<|.int 386 1145)] (qV P 51 0 Oa) [(qr P gY 1195 729),(qr P uA 1197 732),(qr P sJ 1199 733),(qd P nJ 1200 .none)]) 4),vS Ot 731 730 1135,vT 1196 731,uD 1198 731,jO 731,jP 731]))))))
def tZ(P:Params):AO:=((sI P).set 3 (qM P (qd P gQ 165<|.str kU 1133) 52 53)).set 12 (qI 117)++([(qb bX (.seq #[] 0)),jN,qb gC (.dict (qW [(qd P gW 1210<|.str kU 1133),(qd P qG 1212<|.str Ow 1211),(qd P gX 1214<|.int 413 1213)] (qV P 52 0 Ob) [(qr P gY 1288 790)]) 11),(qb bX (.seq #[] 0)),(qT<|qY 52 0 Ob),iY Ow 1205 413 739 1208,iZ 741 738 kU 1133]++(bQ 52 0 1215 743 kU 1133++(bQ 52 1 1227 750 kU 1133++(bQ 52 2 1234 757 kU 1133++(bQ 52 3 1243 764 kU 1133++(bQ 52 4 1252 771 kU 1133++(bQ 52 5 1262 778 kU 1133++(dP 52 6 1271 785 kU 1133++([qb bX (.seq (!(1277,aKb,aKc,IG,aKd,aJy,aKe,aJz,aKf,aJn,aJm,aKa)) 0),qb gC (.dict (qW [(qd P gW 1210<|.str kU 1133),(qd P gX 1214<|.int 413 1213)] (qV P 52 0 Ob) [(qr P gY 1288 790),(qr P uA 1290 793),(qr P sJ 1292 794),(qd P nJ 1293 .none)]) 4),vS Ow 792 791 1203,vT 1289 792,uD 1291 792,jO 792,jP 792])))))))))
def vN(P:Params):AO:=((tZ P).set 3 (qM P (qd P gQ 165<|.str sL 1327) 56 57)).set 12 (qI 129)++(qH 54 1298 797 Pa 1296++(qH 55 1306 804 Pa 1296++(qH 56 1315 811 Pa 1296++([(qb bX (.seq #[] 0)),jN,qb gC (.dict #[(qd P gW 1336<|.str sL 1327),(qd P qG 1338<|.str Oy 1337),(qd P gX 1340<|.int 486 1339),(qQ P 58 0 1350 831),(qQ P 58 1 1359 838),(qr P gY 1367 839)] 6),(qb bX (.seq #[] 0)),(qT [(488,830),(497,837)]),iY Oy 1331 486 821 1334,iZ 823 820 sL 1327]++(bQ 58 0 1341 825 sL 1327++(bQ 58 1 1351 832 sL 1327++([qb bX (.seq (!(1360,aKh,aKi,aLo,aKg,aKj,aKl,aKm)) 0),qb gC (.dict #[(qd P gW 1336<|.str sL 1327),(qd P gX 1340<|.int 486 1339),(qQ P 58 0 1350 831),(qQ P 58 1 1359 838),(qr P gY 1367 839),(qr P uA 1369 842),(qr P sJ 1371 843),(qd P nJ 1372 .none)] 4),vS Oy 841 840 1329,vT 1368 841,uD 1370 841,jO 841,jP 841])))))))
def yR(P:Params):AO:=((vN P).set 3 (qM P (qd P gQ 165<|.str mL 1482) 68 69)).set 12 (qI 162)++(qH 59 1375 846 sL 1327++(qH 60 1385 853 sL 1327++(qH 61 1394 860 sL 1327++(qH 62 1403 867 sL 1327++(qH 63 1411 874 sL 1327++(qH 65 1421 881 mz 1419++(qH 66 1431 888 mz 1419++(qH 67 1440 895 mz 1419++(qH 68 1452 902 mz 1419++(qH 69 1461 909 mz 1419++(qH 70 1471 916 mz 1419++([xf 2 1484 1,xf 1 1486 3,xf 1 1488 6,xf 1 1490 2,xf 1 1492 1,qb bX (.seq #[(.ref 923),(.ref 924),(.ref 925),(.ref 926),(.ref 927)] 0)]))))))))))))
def fv(P:Params):AO:=((yR P).set 3 (qM P (qd P gQ 165<|.str mL 1482) 69 70)).set 12 (qI 165)++([(qb bX (.seq #[] 0)),jN,qb gC (.dict (qW [(qd P gW 1502<|.str mL 1482),(qd P qG 1504<|.str Pb 1503),(qd P gX 1506<|.int 578 1505)] (qV P 73 0 Oc) [(qr P gY 1592 1005)]) 14),(qb bX (.seq #[] 0)),(qT<|qY 73 0 Oc),iY Pb 1497 578 932 1500,iZ 934 931 mL 1482,qb bX (.seq #[(.int 8 1507),(.int 2 1508),.none,.none,.none] 0)]++(eH 73 0 1509 937 mL 1482++(bQ 73 1 1523 944 mL 1482++(bQ 73 2 1532 951 mL 1482++(bQ 73 3 1540 958 mL 1482++(dP 73 4 1547 965 mL 1482++(bQ 73 5 1553 970 mL 1482++(bQ 73 6 1560 977 mL 1482++(bQ 73 7 1567 984 mL 1482++(bQ 73 8 1574 991 mL 1482++(bQ 73 9 1581 998 mL 1482++([Ee aLm 1590 aLl,qb gC (.dict (qW [(qd P gW 1502<|.str mL 1482),(qd P gX 1506<|.int 578 1505)] (qV P 73 0 Oc) [(qr P gY 1592 1005),(qr P uA 1594 1008),(qr P sJ 1596 1009),(qd P nJ 1597 .none)]) 4),vS Pb 1007 1006 1495,vT 1593 1007,uD 1595 1007,jO 1007,jP 1007]))))))))))))
def mq(P:Params):AO:=((fv P).set 3 (qM P (qd P gQ 165<|.str gP 1607) 81 82)).set 12 (qI 201)++(qH 74 1600 1012 mL 1482++(qH 76 1609 1019 gP 1607++(qH 77 1617 1026 gP 1607++(qH 78 1626 1033 gP 1607++(qH 79 1635 1040 gP 1607++(qH 80 1649 1047 gP 1607++(qH 81 1662 1054 gP 1607++(qH 82 1679 1061 gP 1607++(qH 83 1693 1068 gP 1607++(qh 84 1702 1075 gP 1607++(qh 85 1708 1080 gP 1607++(qh 86 1714 1085 gP 1607))))))))))))
def wx(P:Params):AO:=((mq P).set 3 (qM P (qd P gQ 165<|.str gP 1607) 93 94)).set 12 (qI 237)++(qH 87 1720 1090 gP 1607++(qH 88 1732 1097 gP 1607++(qH 89 1743 1104 gP 1607++(qH 90 1753 1111 gP 1607++(qH 91 1764 1118 gP 1607++(qH 92 1777 1125 gP 1607++(qH 93 1792 1132 gP 1607++(qH 94 1802 1139 gP 1607++(qh 95 1814 1146 gP 1607++(qH 96 1820 1151 gP 1607++(qH 97 1830 1158 gP 1607++(qH 98 1841 1165 gP 1607))))))))))))
def Dx(P:Params):AO:=((wx P).set 3 (qM P (qd P gQ 165<|.str gP 1607) 94 95)).set 12 (qI 240)++(qh 99 1852 1172 gP 1607)
def tw1123721790843070001:Params->Heap:=λP=>Subtype.val (p:=λt=>t=(.mk (eO P).toArray (.mk [] [] [] 0 [] [] .false #[] [] 0 .false .false .false 0 [2000,10,10] .false 0 .true [] [] 0 .false))) ⟨_,by dsimp only[eO,qH,qh,bQ,dP,eH,eX,eY,fG,List.set,List.cons_append,List.nil_append]⟩
theorem te1123721790843070001:!tw1123721790843070001:=rfl
def tw657089752120002864:AN:=[(qS 0),(qS 1),(qS 2)]
theorem te657089752120002864:!tw657089752120002864:=rfl
def tw929130376466005384:AN:=[(qS 3)]
theorem te929130376466005384:!tw929130376466005384:=rfl
def tw11810535253968453653:AN:=[(qS 4)]
theorem te11810535253968453653:!tw11810535253968453653:=rfl
def tw14140634292233146428:AN:=[(qS 5)]
theorem te14140634292233146428:!tw14140634292233146428:=rfl
def tw7925768530908975378:AN:=[(qS 6),(qS 7),(qS 8),(qS 9),(qS 10),(qS 11),(qS 12),(qS 13),(qS 14)]
theorem te7925768530908975378:!tw7925768530908975378:=rfl
def tw14947004836344407134:AN:=[(qS 15),(qS 16),(qS 17),(qS 18),(qS 19),(qS 20),(qS 21),(qS 22),(qS 23),(qS 24)]
theorem te14947004836344407134:!tw14947004836344407134:=rfl
def tw1590650339102765799:AN:=[(qS 25),(qS 26),(qS 27),(qS 28),(qS 29),(qS 30),(qS 31),(qS 32),(qS 33),(qS 34)]
theorem te1590650339102765799:!tw1590650339102765799:=rfl
def tw14445753235540665205:AN:=[(qS 35)]
theorem te14445753235540665205:!tw14445753235540665205:=rfl
def tw13583973797756885711:AN:=[(qS 36)]
theorem te13583973797756885711:!tw13583973797756885711:=rfl
def tw7480671440708809446:AN:=[(qS 37)]
theorem te7480671440708809446:!tw7480671440708809446:=rfl
def tw2397597597230051184:AN:=[(qS 38)]
theorem te2397597597230051184:!tw2397597597230051184:=rfl
def tw13897507562470340685:AN:=[(qS 39)]
theorem te13897507562470340685:!tw13897507562470340685:=rfl
def tw8301830178224259571:AN:=[(qS 40)]
theorem te8301830178224259571:!tw8301830178224259571:=rfl
def tw15593864252920239062:AN:=[(qS 41)]
theorem te15593864252920239062:!tw15593864252920239062:=rfl
def tw11343970699775648305:AN:=[(qS 42)]
theorem te11343970699775648305:!tw11343970699775648305:=rfl
def tw7217297118668203640:AN:=[(qS 43),(qS 44)]
theorem te7217297118668203640:!tw7217297118668203640:=rfl
def tw9895400778777389029:AN:=[(qS 45),(qS 46)]
theorem te9895400778777389029:!tw9895400778777389029:=rfl
def tw12696284182995084003:AN:=[(qS 47),(qS 48)]
theorem te12696284182995084003:!tw12696284182995084003:=rfl
def tw3514921618010274756:AN:=[(qS 49)]
theorem te3514921618010274756:!tw3514921618010274756:=rfl
def tw15587386323477519482:AN:=[(qS 50),(qS 51)]
theorem te15587386323477519482:!tw15587386323477519482:=rfl
def tw8678385417218335763:AN:=[(qS 52)]
theorem te8678385417218335763:!tw8678385417218335763:=rfl
def tw15917254494951680680:AN:=[(qS 53),(qS 54),(qS 55),(qS 56),(qS 57),(qS 58)]
theorem te15917254494951680680:!tw15917254494951680680:=rfl
def tw5846438873308567380:AN:=[(qS 59),(qS 60),(qS 61),(qS 62),(qS 63),(qS 64),(qS 65),(qS 66),(qS 67),(qS 68),(qS 69),(qS 70),(qS 71),(qS 72)]
theorem te5846438873308567380:!tw5846438873308567380:=rfl
def tw6035532084671192502:AN:=[(qS 73)]
theorem te6035532084671192502:!tw6035532084671192502:=rfl
def tw16001052799302583230:AN:=[(qS 74),(qS 75),(qS 76),(qS 77),(qS 78),(qS 79),(qS 80),(qS 81),(qS 82),(qS 83),(qS 84),(qS 85),(qS 86)]
theorem te16001052799302583230:!tw16001052799302583230:=rfl
def tw15102398273653649321:AN:=[(qS 87),(qS 88),(qS 89),(qS 90),(qS 91),(qS 92),(qS 93),(qS 94),(qS 95),(qS 96),(qS 97),(qS 98)]
theorem te15102398273653649321:!tw15102398273653649321:=rfl
def tw15479247604536129986:AN:=[(qS 99)]
theorem te15479247604536129986:!tw15479247604536129986:=rfl
def tw17115249230762368099:Params->Heap:=λP=>Subtype.val (p:=λt=>t=(.mk (Dx P).toArray (.mk [] [] [] 0 [] [] .false #[] [] 0 .false .false .false 0 [2000,10,10] .false 0 .true [] [] 0 .false))) ⟨_,by dsimp only[Dx,wx,mq,fv,yR,vN,tZ,sI,qF,pJ,oB,nI,mJ,lT,lI,kT,kC,jM,iV,iM,iC,hW,gU,gO,gB,fW,fQ,eO,qH,qh,bQ,dP,eH,eX,eY,fG,List.set,List.cons_append,List.nil_append]⟩
theorem te17115249230762368099:!tw17115249230762368099:=rfl
def tw6730132743877631726:PySem.Program:=Challenge.pw_aheadmill_k43_whole_beginning_of_the_pla
theorem te6730132743877631726:!tw6730132743877631726:=rfl
def tw9897145914084891619:Params->BT:=-eO
def tw3625438346350112805:Params->BT:=-fQ
def tw7833186716781247984:Params->BT:=-fW
def tw11636367393847043251:Params->BT:=-gB
def tw5453645423777692872:Params->BT:=-gO
def tw9326247771821901761:Params->BT:=-gU
def tw17705330446985761604:Params->BT:=-hW
def tw12158217979201687247:Params->BT:=-iC
def tw11052253969866090767:Params->BT:=-iM
def tw8772010575958703649:Params->BT:=-iV
def tw2524105751592753045:Params->BT:=-jM
def tw11316101272743727476:Params->BT:=-kC
def tw11857690114635582190:Params->BT:=-kT
def tw652034569237513009:Params->BT:=-lI
def tw8067649014226472861:Params->BT:=-lT
def tw12306122796898025974:Params->BT:=-mJ
def tw3321519156075705031:Params->BT:=-nI
def tw5579347478359844483:Params->BT:=-oB
def tw15001082947264118845:Params->BT:=-pJ
def tw1615139002063669307:Params->BT:=-qF
def tw1172125752020750293:Params->BT:=-sI
def tw10431425783420117398:Params->BT:=-tZ
def tw10879048832091372136:Params->BT:=-vN
def tw1767014054832462088:Params->BT:=-yR
def tw10302013048231269286:Params->BT:=-fv
def tw8585015568662939547:Params->BT:=-mq
def tw5332192998318965405:Params->BT:=-wx
def tw14640794380130292903:Params->BT:=-Dx
theorem te9897145914084891619:!tw9897145914084891619:=rfl
theorem te3625438346350112805:!tw3625438346350112805:=rfl
theorem te7833186716781247984:!tw7833186716781247984:=rfl
theorem te11636367393847043251:!tw11636367393847043251:=rfl
theorem te5453645423777692872:!tw5453645423777692872:=rfl
theorem te9326247771821901761:!tw9326247771821901761:=rfl
theorem te17705330446985761604:!tw17705330446985761604:=rfl
theorem te12158217979201687247:!tw12158217979201687247:=rfl
theorem te11052253969866090767:!tw11052253969866090767:=rfl
theorem te8772010575958703649:!tw8772010575958703649:=rfl
theorem te2524105751592753045:!tw2524105751592753045:=rfl
theorem te11316101272743727476:!tw11316101272743727476:=rfl
theorem te11857690114635582190:!tw11857690114635582190:=rfl
theorem te652034569237513009:!tw652034569237513009:=rfl
theorem te8067649014226472861:!tw8067649014226472861:=rfl
theorem te12306122796898025974:!tw12306122796898025974:=rfl
theorem te3321519156075705031:!tw3321519156075705031:=rfl
theorem te5579347478359844483:!tw5579347478359844483:=rfl
theorem te15001082947264118845:!tw15001082947264118845:=rfl
theorem te1615139002063669307:!tw1615139002063669307:=rfl
theorem te1172125752020750293:!tw1172125752020750293:=rfl
theorem te10431425783420117398:!tw10431425783420117398:=rfl
theorem te10879048832091372136:!tw10879048832091372136:=rfl
theorem te1767014054832462088:!tw1767014054832462088:=rfl
theorem te10302013048231269286:!tw10302013048231269286:=rfl
theorem te8585015568662939547:!tw8585015568662939547:=rfl
theorem te5332192998318965405:!tw5332192998318965405:=rfl
theorem te14640794380130292903:!tw14640794380130292903:=rfl
end PySem.W.Fast
end
open_top PySem.W.Fast.te0 for PySem.Challenge.rw_aheadmill_k43_whole_beginning_of_the_pla
local macro_rules | `(command| $d:definition) => `(command| noncomputable $d:definition)
open Array renaming length_toList->gq
open Bool renaming true->aB,false->aJ,eq_iff_iff->qf,false_ne_true->iA,and_eq_true->bY,false_eq_true->Sg,or_eq_true->yg,not_eq_true'->Sh
open False renaming elim->lY
open Function renaming comp_def->qi
open Iff renaming rfl->Sm
open Int renaming natCast_nonneg->gy,fmod_eq_emod_of_nonneg->NT,fdiv_eq_ediv_of_nonneg->Sq,toNat_natCast->uL,le_trans->sR,lt_trans->kY,lt_or_eq_of_le->Gd,emod_nonneg->jA,emod_lt_of_pos->jT,pow_pos->NU,lt_of_lt_of_le->zM,le_refl->gZ,eq_ofNat_of_zero_le->zL,le_of_lt_add_one->Gb,ediv_nonneg->Sn,le_of_lt->qj,emod_eq_of_lt->So,toNat_of_nonneg->Ss,ne_of_lt->yi,lt_irrefl->oE,lt_succ->qk,ne_of_gt->Sr,not_lt->vD,not_le->x9,ofNat_le->y3
open List renaming set->fE,cons_append->eI,nil_append->fS,range->Tp,filterMap_cons->mR,mem_cons_self->eL,mem_cons_of_mem->eK,mem_append_left->uM,getElem_inj->Gm,getElem?_set_self->mB,getElem?_set_ne->kZ,mem_append_right->hJ,any_eq_false->NY,lookup->sU,map_cons->fJ,length_map->aU,append_nil->nP,of_mem_zip->Tl,replicate->fB,length_take->oH,getElem?_append_right->ym,getElem?_replicate->yo,getElem?_append_left->sS,getElem?_map->eQ,getElem?_take_of_lt->aXb,mem_of_getElem?->bJ,length_append->dU,length_replicate->Td,size_toArray->wR,length_drop->Gp,all_cons->lZ,any_cons->ia,foldl->OM,replicate_succ->PB,append_assoc->wO,foldl_cons->ON,length_singleton->Te,map_nil->Th,filter_cons->kF,length_filter_le->zR,length_cons->zQ,length_nil->Tc,forIn_cons->Sz,lookup_cons->jB,any_eq_true->Su,getElem?_eq_getElem->eD,getElem_mem->Ta,getElem_of_mem->Tb,Pairwise->NW,pairwise_mergeSort->aXf,mergeSort_perm->OX,eq_nil_of_length_eq_zero->yj,mem_cons->mS,not_mem_nil->lL,getElem?_eq_none->Gj,zipIdx_cons->PL,zipIdx_nil->PM,forIn_nil->OO,getElem?_eq_none_iff->aXa,getElem?_zip_eq_some->OQ,zip_cons_cons->qp,not_any_eq_all_not->OZ,dropLast_eq_take->OB,all_eq_true->NX,isEmpty_eq_false_iff->aXd,set_comm->Tq,filterMap_cons_some->Sw,exists_cons_of_length_eq_add_one->zO,map_map->iP,getElem?_take->Gk,map_drop->Tf,map_take->yr,getD_eq_getElem?_getD->ib,flatten_replicate_singleton->OL,length_set->sT,map_replicate->OV,map_append->eR,map_set->yq,mem_or_eq_of_mem_set->Gr,take_add_one->wU,take_length->ic,nodup_append->Gs,nodup_cons->OY,find?_cons->oG,any_map->NZ,map_congr_left->qo,filter_map->OI,find?_some->yk,mem_of_find?_eq_some->wQ,filter_append->Gg,filter_congr->Sy,getElem_take->OS,set_set->Tu,map_reverse->OW,length_reverse->OT,drop_eq_getElem_cons->OE,drop_length->Gf,getLast?_eq_getElem?->aXc,find?_append->OK,dropWhile_sublist->OC,dropLast_concat_getLast->aWx,pairwise_cons->To,filter_sublist->OJ,set_cons_zero->Ts,set_cons_succ->Tr,ext_getElem?->Sv,getElem?_set->OP,pairwise_append->Tn,pairwise_singleton->Gu,set_eq_take_append_cons_drop->aXg,getElem?_concat_length->yn,map->yp,getElem?_of_mem->zP,reverse_reverse->PC,filterMap_append->OG,take_succ_cons->Gv,take_append_of_le_length->PD,take_left'->PF,map_id->OU,mem_filter->Ti,getElem_map->OR,mem_of_getLast?->Gq,length_filterMap_le->aXe,eq_of_mem_replicate->OF,mem_of_mem_take->Tj,take_succ->PJ,take_set_of_le->PH,getElem?_drop->Gi,drop_drop->OD,getElem?_cons_succ->aWz,filter_cons_of_pos->OH,filter_cons_of_neg->aWy,mem_singleton->a',mem_map->bp,getElem?_eq_some_iff->dk,mem_cons->dT,mem_append->eh,mem_filter->gi,pairwise_cons->jr,all_eq_true->jX,mem_filterMap->j',filter_sublist->pV,nodup_cons->tx,forall_mem_cons->t9,filter_eq_nil_iff->wB,any_eq_true->xd,mem_reverse->xS,filter_eq_self->xT,getElem?_eq_none_iff->x8,mem_range->y4,find?_eq_none->y6,pairwise_append->y7,contains_iff_mem->y8,pairwise_reverse->y9,any_toArray->z8,isEmpty_iff->z9,map_eq_nil_iff->BE,length_eq_zero_iff->BF,length->B3
open List.Nodup renaming length_le_of_subset->NV
open List.Pairwise renaming nil->ql,sublist->wN
open List.Perm renaming eq_of_pairwise->aWw
open List.cons renaming injEq->OA
open Nat renaming lt_of_lt_of_le->bE,lt_irrefl->nQ,ne_of_lt->bZ,le_trans->dF,le_of_lt->kG,ne_of_gt->oO,le_refl->aW,le_of_eq->Gw,lt_succ_self->cD,zero_le->jD,le_succ->iG,min_le_right->Tz,le_of_not_lt->Gx,not_lt_zero->Gy,lt_succ_of_lt->kH,le_add_right->oJ,succ_lt_succ->zS,zero_lt_one->PZ,le_succ_of_le->PQ,le_total->PR,min_eq_left->qv,ble->Tx,le_of_ble_eq_true->wV,lt_of_le_of_lt->ie,lt_succ_of_le->PU,le_of_lt_succ->PN,sub_self->Ua,succ_le_succ->Gz,add_zero->Tv,succ_pos->PY,add_sub_cancel_left->aXh,min_le_left->PV,sub_le_sub_right->PX,not_lt->y2
open Ne renaming symm->lM
open OfNat renaming ofNat->QD
open Option renaming some->aA,none->aD,getD_none->QF,isSome_map->Ub,bind_some->oP,map_some->qx,elim->yu,isSome->qw,map_map->QH,or_none->ig,bind_eq_some_iff->f',map_eq_some_iff->gT,isSome_iff_exists->i',ite_none_right_eq_some->n8,join_eq_some_iff->x6,map_eq_none_iff->B0,eq_none_iff_forall_ne_some->B2
open Option.some renaming inj->cR
open Prod renaming ext->Ud
open PyProof renaming noPylong_of_log2->QL
open PyProof.Rows renaming AllBare->wL,assignInOrder_nil->RK,assignInOrder_cons->Hl,callWith_type1->Hd,envOfC->xB,callWith_builtin1->aXi,slicePart_none->RS,slot_tuple_getitem->QJ,subscriptTail_builtinR->RT,IntsAre->gz,intBits_le->Ho
open PyProof.Rows.IsTup renaming new->Ge
open PyProof.Rows.KTD renaming tabLook->Hc,flatLooks->Ug,hashesOf->Hb
open PyProof.V.Flat renaming int->QK
open PySem renaming Arguments->Se,Scope->gI,Params->bW,Program->cC,Heap->bK,World->bV,Paired->ij,sysModules->xG,tupleKind->iw,Within->Uy,mainGlobals->jE,builtinsNs->Vd,bootBuiltins->oS,Around->cM,Shared->aK,wpAny->aT,storeName->Vp,Expr->aI,model->aZ,backTo->mD,starEach->eS,wpAny_mono->zi,wpAny_Name->Vs,wpAny_loadName_local->SD,wpAny_loadName_cell->SA,wpAny_execs_nil->Vu,swapsWith->xF,assign->rg,assignInOrder->Vc,assignEach->zW,Operator->pQ,inplaceOp->Vi,wpAny_assign_Name->RW,holding->ze,wpAny_bind->aR,wpAny_holding->jc,wpAny_standAt->zo,swapsWithSole->RU,swappedStores->rl,PassesOwn->yv,wpAny_passesOwn->je,pyNext->xE,letOwnedTupleGo->Vj,pyIter->zg,wpAny_pure->cH,rawInt->ag,wpAny_pyNext_list_end->SK,foldedSetIterable->Hn,binaryOp->fL,unaryOp->Hr,compareOp->dM,CmpOp->rD,behindInMarks->zb,wpAny_truthy_bool->uR,lastMarks->Hq,getMethod->Vh,codeAny->uP,sizeLine_eq->lB,attributeBase->rh,plainObj_wpAny_Assign_Attribute->aZm,FuncData->fA,BindsTo->qc,wpAny_call->zh,codeAny_mono->zd,wpAny_Call_Name_kw->iz,Keyword->pP,backToKw->zY,keywordEach->af,NameKind->uN,bindL->aa,bindC->zZ,cellsFrom->Ve,mem_of_lookup->yy,concat_meets->Vg,noFill_tuple_add->Vl,seq_tuple_add->Vo,IsPart->zN,wpAny_field->lC,getItem->ip,wpAny_callSpecial?_slot->ja,wpAny_call_entry->jb,wpAny_newObj_type->uQ,seqIndex_of->Vn,subscripted->Vq,sliceBounds->iu,call_list_seq->RM,typeIs_int->Vr,wpAny_Call_method_late->RV,call_meets->zc,callerA->ae,call->Uz,valueAt->iy,atKey->zX,tupleKind_room_in1->rn,call_meetsIn->ab,closureFor->Vf,wpAny_comprehension_free->RY,wpAny_pyIter_list->zj,Fin->Um,seqItems?->iq,codeAny_call_builtin->RN,wpAny_newList->SE,codeAny_builtin->Hm,wpAny_seqItems->oT,wpAny_tryCatch->zp,wpAny_rule->ro,argBest->xA,wpAny_updateSeq->Vx,wpAny_letGo->jd,plainId_quiet->Vm,intItems->zf,numAt->xD,field->xC,wpAny_setField->Ht,firstArgMember->RP,wpAny_of_eq->Vv,wpAny_handled->RZ,wpAny_pyIter_tuple->zm,callType_new->RL,wpAny_nextOf_list_end->SG,ZipApart->za,IsZip->nO,IsPair->jU,wpAny_setField_rec->rp,wpAny_onRaise->Hs,wpAny_updateSeq_pair->Vy,wpAny_attempt->RX,wpAny_pyIter_enum->SH,wpAny_pyIter_zip->SJ,methodCallForm->Vk,methodCallPos->RQ,Comprehension->NP,bindName->rj,wpAny_bindName->Vt,strKind->Va,Str->cT,Spec->tB
open PySem.Around renaming under_plainId->Sf
open PySem.AutoListH renaming list___mul___list_int_3->aWv
open PySem.AutoSeq1 renaming wpAny_loadPart'->Fu
open PySem.Builtin renaming bitAnd->kX,bitOr->nL,bitXor->nM
open PySem.Builtin.List renaming listTooLong->Si
open PySem.Builtin.Slice renaming sliceAdjust->Sj,slicePlaces->Fv
open PySem.Builtin.SmallTypes renaming nextOf->wM,ownedTupleIsFree->NL
open PySem.Calls renaming Name_function_global->NM,callWith_builtin->Sk,evalArgs_plain->NN
open PySem.Challenge renaming pw_aheadmill_k43_whole_beginning_of_the_pla->aXj,rw_aheadmill_k43_whole_beginning_of_the_pla->QM
open PySem.Code renaming quiet_builtin->NO
open PySem.EqMixed renaming eq_bool_str->aXk,eq_int_str->aXl,eq_str_bool->aXm,eq_str_int->aXn,ne_bool_str->aXo,ne_int_str->aXp,ne_str_bool->aXq,ne_str_int->aXr
open PySem.EqNone renaming eq_none_none->aXw,eq_none_bool->aXu,eq_none_int->aXv,eq_none_str->aXx,eq_bool_none->aXs,eq_int_none->aXt,eq_str_none->aXy,ne_none_none->aYd,ne_none_bool->aYb,ne_none_int->aYc,ne_none_str->aYe,ne_bool_none->aXz,ne_int_none->aYa,ne_str_none->aYf
open PySem.F renaming slot_tuple_add->Ul,entry_tuple_add->Ui,args_tuple_add_2->Uh,slot_int_rmul->NS,args_dict_pop_2->aYg,args_dict_pop_3->QQ,slot_dict_pop->Uk,entry_dict_pop->QR,slot_dict_get->qz,entry_dict_get->He,args_dict_get_2->QN,args_dict_get_3->QP,slot_dict_setdefault->QY,entry_dict_setdefault->aYj,args_dict_setdefault_3->aYh,plain_min->QX,entry_min->QU,entry_min_loop->Hf,plain_min_loop->qy,slot_dict_update->QZ,entry_dict_update->aYk,args_dict_update_2->aYi,slot_tuple_iterator_next->zK,entry_tuple_iterator_next->Fx,args_tuple_iterator_next_1->Fw,slot_zip_next->Fy,entry_zip_next->NR,args_zip_next_1->NQ,plainAttrs_list->Uj,slot_list_append->aYl,type_list_append->aYp,plainAttrs_dict->QV,type_dict_get->RA,slot_list_clear->aYm,type_list_clear->aYq,type_dict_setdefault->aYn,type_dict_update->aYo
open PySem.Heap renaming lt_size->dG,SameBut->gr,get?_push_of_some->cX,get?_push_size->gS,size_push->uK,get?_update_self->yh,get?_update_other->gw,ExtBut->Fz
open PySem.Heap.SameBut renaming update->Ga
open PySem.NameKind renaming free->jC,cell->qs
open PySem.Obj renaming mapSeq->yt,isFreed_of_fields->QC,data_mapFields->Ha,cls_mapFields->QB
open PySem.Paired renaming length->Uc
open PySem.PyData renaming str->Ue,int->sV
open PySem.SeqAt.EqAt renaming int_str->RF,str_int->RG
open PySem.Spec renaming lookup->RC
open PySem.Str renaming ofString->wY
open PySem.Value renaming isStrOf->RH,int->zV,str->oR,none->yz,bool->sW,ref->lA,type->Vb
open PySem.W renaming Frag->bN,instObj->zU,lookIn->Hj,plainGet->yx,hasDictIn->Hi,findIn->oQ,handedIn->Hh,plainGet_of->Uu,isFn->yw,plainOver->Uv,takerIn->Ux,makesIn->Ut,emptyDict->zT,keepIn->uO,callWith_K->Hg,callWith_K0->Up,cellsFrom_some->RE,fnOf->rf,codeIn->Uq,OpenLaw->Uo,WalkO->RD,kitOne->Us,kia_one->ik,specialIn->Hk,readsIn->Uw,findCls->Ur,nsIn->wX,mg_of->wW
open PySem.W.SL renaming s2766695959194262286x5->aZa,s5856160107412720595x4->aZf,s658472552662922059x5->aZj,s14018661285674007319x4->aYw,s7097527257260152453x26->aZk,s7174869446012820540x8->aZl,s6070975301684473832x10->aZh,s11030030927630378310x26->aYt,s10062305145149207511x16->aYr,s17162191345867700912x4->aYy,s5946037652744460706x9->aZg,s4278001404047624695x13->aZc,s2742458400755230247x6->aYz,s4209523147560561109x18->aZb,s14755015743595814543x17->aYx,s10220274742760427390x26->aYs,s4290257624100764138x5->aZd,s4860613602091757760x24->aZe,s11443829558043349243x14->aYu,s6511155373996960695x17->aZi,s12411053484034534018x21->aYv
open PySem.Walks renaming dictKeys->RJ
open Subtype renaming val->fK
open Sum renaming inl->wZ,inr->mC
open True renaming intro->mT
set_option hygiene false
local macro_rules|`('!')=>`(by omega)|`('#')=>`(by decide)|`('%')=>`(List AV)|`('&')=>`(D3 X ap Z H s)|`('*')=>`(aL c g m h)|`('+')=>`(Option Int)|`('0')=>`(List Int)|`('1')=>`(aZ X.prog X.w)|`('2')=>`(List Value)|`('3')=>`(bP T Y h H)|`('4')=>`(.ref (c.b+1))|`('5')=>`(m.ac[i]?=aA s)|`('6')=>`(λ_ _=>False)|`('7')=>`(List (Addr×Obj))|`('8')=>`(Option Value)|`('9')=>`(qb bX (.seq #[] 0))|`('?')=>`(.ref (c.b+11))|`('A')=>`(s.ws.set j (aA w))|`('B')=>`(x==("__debug__":Str))|`('C')=>`(s.heap.objs.size+1)|`('D')=>`(.l aB (rs.map aH.av))|`('E')=>`(X.comp N' scope s H C fp)|`('F')=>`(m.take c.am { s with of:=o } rest)|`('G')=>`((m.F0 row a).dN c.am m.ac.length 0 row.cQ)|`('H')=>`([.int (nL a b),.int (nM a b),.int (if decide (a<b)=aB then 1 else 0),.int (if decide (a=b)=aB then 1 else 0)])|`('I')=>`(k==jC&&env.scope.kind == .function&&env.kindOf n==aA .cell)|`('J')=>`(.ListComp elt [⟨tg,iter,ct.toList,0⟩] scope pos)|`('K')=>`(gF tR [.int (a+b),.int (a-b),.int (a*b),.int (kX a b)])|`('L')=>`(.seq #[] 0)|`('M')=>`(s.heap.push { cls:=.type "range",data:=.fields #[.int lo t,.int hi u,.int 1 v] })
local macro_rules|`(tactic|left)=>`(tactic|simp_all)
set_option genCtorIdx false
namespace L2
open PySem PySem.Spec PyProof.Rows
variable {A:cM}{C a b dx it:Addr}{E Q:Value->aK->Prop}{N ps:AK}{P prog:cC}{apos p pos pos':Pos}{base h h':bK}{body:AN}{c e:aI}{d':Drawn}{es:List aI}{fd:fA}{fp:AI}{g':Array GenState}{i j t':Nat}{kw:A1}{m qual x:Str}{mA mg:Str->A6}{op':rD}{outer:A8}{ap:BA}{s s':aK}{scope:gI}{u:Value}{us:A5}{w:bV}
abbrev aN:=Sum Int Str
def ee:aN->Value->Bool
 |.inl k,v=>Value.isInt k v
 |.inr x,v=>RH x v
def V6(w:bV):aN->Int
 |.inl k=>hashInt k
 |.inr x=>hashStr w x
def tP:∀{k:aN}{v:Value},ee k v=aB->(∃i t,k=wZ i/\v=zV i t)\/(∃x t,k=mC x/\v=oR x t)
 |.inl i,v,h=>by obtain⟨t,e⟩:=Value.isInt_shape h;exact .inl ⟨i,t,rfl,e⟩
 |.inr x,v,h=>by obtain⟨t,e⟩:=Value.isStrOf_shape h;exact .inr ⟨x,t,rfl,e⟩
def V7(i:Int)(t:Tok):ee (.inl i) (.int i t)=aB:=by simp[ee,Value.isInt]
def V8(x:Str)(t:Tok):ee (.inr x) (.str x t)=aB:=by simp[ee,RH]
def V9(a b:Int):decide ((wZ a:aN)=wZ b)=(a==b):=by
 by_cases e:a=b
 .subst e;simp
 .simp_all
def W3(a b:Str):decide ((mC a:aN)=mC b)=decide (a=b):=by left
def W0(a:Int)(b:Str):decide ((wZ a:aN)=mC b)=aJ:=decide_eq_false (nofun)
def W2(a:Str)(b:Int):decide ((mC a:aN)=wZ b)=aJ:=decide_eq_false (nofun)
def gL(prog:cC)(w:bV):PySem.KeyKind prog w aN where
 is:=ee
 hash:=V6 w
 inj:=λv a b ha hb=>by
  rcases tP ha with⟨i,t,rfl,rfl⟩|⟨x,t,rfl,rfl⟩
  .rcases tP hb with⟨j,u,rfl,e⟩|⟨y,u,rfl,e⟩
   .injection e with e1 _;rw[e1]
   .exact nomatch e
  .rcases tP hb with⟨j,u,rfl,e⟩|⟨y,u,rfl,e⟩
   .exact nomatch e
   .injection e with e1 _;rw[e1]
 byValue:=λk v h=>by rcases tP h with⟨i,t,rfl,rfl⟩|⟨x,t,rfl,rfl⟩<;>rfl
 pyHash:=λhv h=>by
  rcases tP hv with⟨i,t,rfl,rfl⟩|⟨x,t,rfl,rfl⟩
  .exact wpAny_pyHash_int h
  .exact wpAny_pyHash_str h
 eqBool:=λhu hv h=>by
  rcases tP hu with⟨i,t,rfl,rfl⟩|⟨x,t,rfl,rfl⟩
  .rcases tP hv with⟨j,u,rfl,rfl⟩|⟨y,u,rfl,rfl⟩
   .rw[V9]at h;exact wpAny_eqBool_int h
   .rw[W0]at h;exact RF i t y u _ _ _ _ h
  .rcases tP hv with⟨j,u,rfl,rfl⟩|⟨y,u,rfl,rfl⟩
   .rw[W2]at h;exact RG x t j u _ _ _ _ h
   .rw[W3]at h;exact wpAny_eqBool_str h
 «strs»:=λk x t v h=>by
  rcases tP h with⟨i,u,rfl,e⟩|⟨y,u,rfl,e⟩
  .exact nomatch e
  .injection e with e1 _;subst e1;cases v<;>rfl
def aAg(prog:cC)(w:bV)(i:Int)(t:Tok):(gL prog w).is (.inl i) (.int i t)=aB:=V7 i t
def aAh(prog:cC)(w:bV)(x:Str)(t:Tok):(gL prog w).is (.inr x) (.str x t)=aB:=V8 x t
set_option genCtorIdx true in
inductive V where
 |aG|bl (b:Bool)|int (i:Int)|str (x:Str)|ref (a:Addr)|ty (n:String)
 deriving DecidableEq
abbrev _root_.AJ:=List V
abbrev _root_.A2:=List (Str×V)
variable {v y:V}{vs:AJ}
def D6:V->Value->Prop
 |.aG,u=>u=yz
 |.bl b,u=>u=sW b
 |.int i,u=>∃t,u=zV i t
 |.str x,u=>∃t,u=oR x t
 |.ref a,u=>u=lA a
 |.ty n,u=>u=Vb n
abbrev D5:AJ->'2'->Prop:=ij D6
theorem D5.length{xs:AJ}{us:'2'}(r:D5 xs us):B3 xs=B3 us:=Uc r
theorem D5.get:∀{xs:AJ}{us:'2'}{i:Nat}{x:V},D5 xs us->xs[i]?=aA x->∃u,us[i]?=aA u/\D6 x u
 |_,_,_,_,.nil,e=>by simp at e
 |_,_,0,_,.cons r _,e=>by simp at e;subst e;exact⟨_,rfl,r⟩
 |_,_,i+1,x,.cons _ t,e=>by obtain⟨u,b,a⟩:=D5.get t (by simpa);exact⟨u,by left,a⟩
theorem D5.set{x:V}{u:Value}(r:D6 x u):∀{xs:AJ}{us:'2'} (i:Nat),D5 xs us->D5 (xs.set i x) (us.set i u)
 |_,_,_,.nil=>.nil
 |_,_,0,.cons _ t=>.cons r t
 |_,_,i+1,.cons q t=>.cons q (D5.set r i t)
theorem D5.append:∀{xs ys:AJ}{us ws:'2'},D5 xs us->D5 ys ws->D5 (xs++ys) (us++ws)
 |_,_,_,_,.nil,s=>s
 |_,_,_,_,.cons r t,s=>.cons r (D5.append t s)
theorem D5.take:∀{xs:AJ}{us:'2'} (n:Nat),D5 xs us->D5 (xs.take n) (us.take n)
 |_,_,0,_=>.nil
 |_,_,_+1,.nil=>.nil
 |_,_,n+1,.cons r t=>.cons r (D5.take n t)
theorem D5.drop:∀{xs:AJ}{us:'2'} (n:Nat),D5 xs us->D5 (xs.drop n) (us.drop n)
 |_,_,0,r=>r
 |_,_,_+1,.nil=>.nil
 |_,_,n+1,.cons _ t=>D5.drop n t
def D5.none_of:∀{xs:AJ}{us:'2'}{i:Nat},D5 xs us->xs[i]?=aD->us[i]?=aD:=λ{xs us i} r e=>by have a:=r.length;have b:=x8.1 e;exact x8.2 (by lia)
def iH:Option V->'8'->Prop
 |some v,aA u=>D6 v u
 |none,aD=>True
 |_,_=>False
def KV{κ:Type}:List (κ×V)->List (κ×Value)->Prop:=ij λ(p:κ×V) (q:κ×Value)=>p.1=q.1/\D6 p.2 q.2
def kV:aN->V
 |.inl i=>.int i
 |.inr x=>.str x
set_option genCtorIdx true in
inductive HO where
 |l (xs:AJ)
 |tup (xs:AJ)
 |dK (kvs:List (aN×V))
 |ins (C dx:Addr) (fs:A2)
 |own (x:Addr)
 |Po (lo hi:Int)
 |dI (o:Obj) (u:HO)
variable {o:HO}
abbrev Hp:=Addr->Option HO
variable {H H':Hp}
def D4(H:Hp)(a:Addr)(o:HO):Hp:=λb=>if b=a then aA o else H b
theorem gG:D4 H a o a=aA o:=by unfold D4;rw[if_pos rfl]
def cB(h:b≠a):D4 H a o b=H b:=by unfold D4;rw[if_neg h]
def sF{u:HO}(h:H a=aA o)(h':H b=aA u)(d:o≠u):a≠b:=by intro e;subst e;rw[h]at h';exact d<|cR h'
def kB(h:H a=aA o)(h':H b=aD):a≠b:=by intro e;subst e;rw[h]at h';cases h'
section
variable (P:cC)(w:bV)
def iB(H:Hp)(h:bK)(a:Addr):HO->Prop
 |.l xs=>B3 xs<=sizeLine/\∃(its:'2') (n:Nat),D5 xs its/\h.get? a=aA { cls:=.type "list",data:=.seq its.toArray n }
 |.tup xs=>B3 xs<=sizeLine/\∃its:'2',D5 xs its/\IsTup h a its.toArray
 |.dK kvs=>B3 kvs<=sizeLine/\(a==xG)=aJ/\∃vs,KV kvs vs/\h.DictOf (gL P w) a vs
 |.ins C dx fs=>H dx=aA (.own a)/\B3 fs<=1000/\dx≠a/\h.get? a=aA (zU C dx) /\
  ∃mA,h.Ns1 dx mA/\(∀f,iH (fs.lookup f) (mA f))/\Uy mA (fs.map (·.1))
 |.own _=>∃o,h.get? a=aA o
 |.Po lo hi=>∃t u v,h.get? a=aA { cls:=.type "range",data:=.fields #[.int lo t,.int hi u,.int 1 v] }
 |.dI o u=>h.get? a=aA o/\iB H h a u
def fF(H:Hp)(h:bK):Prop:=∀a o,H a=aA o->iB P w H h a o
end
theorem iB.lt(x:iB P w H h a o):a<h.objs.size:=by
 cases o with
 |l xs=>obtain⟨_,_,_,_,e⟩:=x;exact dG e|tup xs=>obtain⟨_,_,_,p⟩:=x;exact p.lt|dK b=>obtain⟨_,_,_,_,o,_,_,e,_⟩:=x;exact dG e|ins C c fs=>obtain⟨_,_,_,e,_⟩:=x;exact dG e|own y=>obtain⟨_,e⟩:=x;exact dG e|Po lo d=>obtain⟨_,_,_,e⟩:=x;exact dG e|dI ob u=>obtain⟨e,_⟩:=x;exact dG e
theorem Paired.Mi{α β:Type}{F G:α->β->Prop}:∀{l₁:List α}{l₂:List β},ij F l₁ l₂->(∀a b,F a b->G a b)->ij G l₁ l₂
 |_,_,.nil,_=>.nil
 |_,_,.cons r t,f=>.cons (f _ _ r) (Paired.Mi t f)
def iB.vY(x:iB P w H h a o)(k:∀b u,(b=a\/H b=aA (.own a))->h.get? b=aA u->h'.get? b=aA u)
  (ho:∀b,H b=aA (.own a)->H' b=aA (.own a)):iB P w H' h' a o:=by
 induction o with
 |l xs=>obtain⟨z,j,n,r,e⟩:=x;exact⟨z,j,n,r,k _ _ (.inl rfl) e⟩|tup xs=>obtain⟨z,j,r,ob,e,c⟩:=x;exact⟨z,j,r,ob,k _ _ (.inl rfl) e,c⟩|dK l=>obtain⟨z,y,s,r,ob,g,i,e,c⟩:=x;exact⟨z,y,s,r,ob,g,i,k _ _ (.inl rfl) e,c⟩|ins C D fs=>obtain⟨d,z,ne,e,m,⟨od,g,i,A,c⟩,r⟩:=x;exact⟨ho _ d,z,ne,k _ _ (.inl rfl) e,m,⟨od,g,i,k _ _ (.inr d) A,c⟩,r⟩
 |own y=>obtain⟨ob,e⟩:=x;exact⟨ob,k _ _ (.inl rfl) e⟩|Po lo E=>obtain⟨t,u,v,e⟩:=x;exact⟨t,u,v,k _ _ (.inl rfl) e⟩|dI ob u B=>obtain⟨e,q⟩:=x;exact⟨k _ _ (.inl rfl) e,B q⟩
theorem fF.lt(x:fF P w H h)(e:H a=aA o):a<h.objs.size:=(x a o e).lt
def fF.fresh(x:fF P w H h)(e:h.objs.size<=a):H a=aD:=by
 cases q:H a with
 |none=>rfl|some u=>exact absurd (bE (x.lt q) e)<|nQ _
def fF.E6(x:fF P w H h)(k:∀b u,h.get? b=aA u->h'.get? b=aA u):fF P w H h':=λa o e=>
 (x a o e).vY (λb u _ q=>k b u q) λ_ q=>q
def fF.F1(x:fF P w H h)(k:∀b u,h.get? b=aA u->h'.get? b=aA u)(hp:h.objs.size<=a)(C8:iB P w (D4 H a o) h' a o):fF P w (D4 H a o) h':=λb u e=>by
 have hn:=x.fresh hp;by_cases hb:b=a
 .simp_all[gG]
 .rw[cB hb]at e;exact(x b u e).vY (λc v _ q=>k c v q) λc q=>by rw[cB (kB q hn)];exact q
def Rd(H:Hp)(a:Addr)(u:HO):Prop:=H a=aA u\/∃o,H a=aA (.dI o u)
def Rd.ok{u:HO}(r:Rd H a u)(x:fF P w H h):iB P w H h a u:=by
 rcases r with r|⟨o,r⟩
 .exact x a u r
 .obtain⟨_,q⟩:=x a _ r;exact q
def jg:Option HO->Prop
 |some (.l _)=>True
 |some (.dK _)=>True
 |some (.ins _ _ _)=>True
 |_=>False
section
variable {x e:Addr}{o':HO}
def fF.write(ok:fF P w H h)(mu:jg (H x))(he:e=x\/H e=aA (.own x))(k:∀b u,b≠e->h.get? b=aA u->h'.get? b=aA u)(heo:∃u,h'.get? e=aA u)
  (C8:iB P w (D4 H x o') h' x o'):fF P w (D4 H x o') h':=λb u q=>by
 have d:∀c y,H c=aA (.own y)->c≠x:=λc y r z=>by subst z;rw[r]at mu;exact mu
 by_cases hb:b=x
 .grind [gG]
 .rw[cB hb]at q;by_cases a:b=e
  .have g:H b=aA (.own x):=by
    rcases he with z|z
    .exact absurd (a.trans z) hb
    .rw[a];exact z
   rw[q]at g;cases g;obtain⟨v,i⟩:=heo;exact⟨v,a▸i⟩
  .refine(ok b u q).vY (λc v hc r=>k c v ?_ r) λc r=>by rw[cB (d c b r)];exact r
   rcases hc with rfl|hc
   .exact a
   .rintro rfl
    rcases he with z|z
    .exact d c b hc z
    .grind
end
structure Un(fs ex:AI)(H H':Hp)(h h':bK):Prop where
 D7:∀b o,h.get? b=aA o->H b=aD->b∉fs->b∉ex->h'.get? b=aA o
 D9:∀b o,h.get? b=aA o->H b=aD->b∈fs->b∉ex->∃sl,h'.get? b=aA { o with slots:=sl }
 free:∀b o,h.get? b=aA o->H b=aD->b∉ex->H' b=aD
 there:∀b o,h.get? b=aA o->b∉ex->∃o',h'.get? b=aA o'
 wD:∀b xs,H b=aA (.tup xs)->H' b=aA (.tup xs)
 rS:∀b o u,H b=aA (.dI o u)->H' b=aA (.dI o u)
section
variable {fs fs' ex ex':AI}{H1 H2:Hp}{h1 h2:bK}{x e:Addr}
def Un.any(u:Un fs ex H H1 h h1){ob:Obj}(q:h.get? b=aA ob)(n:H b=aD)(hx:b∉ex):∃sl,h1.get? b=aA { ob with slots:=sl }:=by
 by_cases hb:b∈fs
 .exact u.D9 b ob q n hb hx
 .exact⟨ob.slots,u.D7 b ob q n hb hx⟩
def Un.E6(k:∀b u,h.get? b=aA u->h'.get? b=aA u):Un fs ex H H h h':=
 ⟨λb ob q _ _ _=>k b ob q,λb ob q _ _ _=>⟨ob.slots,k b ob q⟩,λ_ _ _ n _=>n,λb ob q _=>⟨ob,k b ob q⟩,λ_ _ q=>q,λ_ _ _ q=>q⟩
def Un.refl:Un fs ex H H h h:=Un.E6 λ_ _ q=>q
def Un.F1(k:∀b u,h.get? b=aA u->h'.get? b=aA u)(hp:h.objs.size<=a)(hn:H a=aD):Un fs ex H (D4 H a o) h h' where
 D7:=λb u q _ _ _=>k b u q
 D9:=λb u q _ _ _=>⟨u.slots,k b u q⟩
 free:=λb u q n _=>by rw[cB (bZ<|bE (dG q) hp)];exact n
 there:=λb u q _=>⟨u,k b u q⟩
 wD:=λb xs q=>by rw[cB (kB q hn)];exact q
 rS:=λb u xs q=>by rw[cB (kB q hn)];exact q
def Un.write(mu:jg (H x))(he:e=x\/H e=aA (.own x))(k:∀b u,b≠e->h.get? b=aA u->h'.get? b=aA u)(heo:∃u,h'.get? e=aA u):Un fs ex H (D4 H x o) h h':=by
 have c:∀b,H b=aD->b≠x:=λb n z=>by subst z;rw[n]at mu;exact mu
 have hb:∀b,H b=aD->b≠e:=λb n z=>by left
 have hm:∀b u,H b=aA u->¬jg (aA u)->b≠x:=λb u q nm z=>by subst z;rw[q]at mu;exact nm mu
 refine⟨λb u q n _ _=>k b u (hb b n) q,λb u q n _ _=>⟨u.slots,k b u (hb b n) q⟩,λb u q n _=>by rw[cB (c b n)];exact n,λb u q _=>?_,
  λb xs q=>by rw[cB (hm b _ q λz=>z)];exact q,λb u xs q=>by rw[cB (hm b _ q λz=>z)];exact q⟩
 by_cases a:b=e
 .subst a;exact heo
 .exact⟨u,k b u a q⟩
end
def Fa(h:bK)(H:Hp):AI:=(Tp h.objs.size).filter λa=>qw (H a)
def yG(h:bK)(H:Hp):bK:=W.hideAll h (Fa h H)
def Q8(h:bK)(H:Hp):(yG h H).objs.size=h.objs.size:=W.hideAll_size _ _
def Q7{o:Obj}(e:h.get? b=aA o)(n:H b=aD):(yG h H).get? b=aA o:=
 W.hideAll_get _ e λhm=>by have q:=(gi.1 hm).2;rw[n]at q;simp at q
def aBm{o:Obj}(e:(yG h H).get? b=aA o):h.get? b=aA o/\H b=aD:=by
 have a:=W.of_hideAll (Fa h H) e;refine⟨a,?_⟩;cases q:H b with
 |none=>rfl|some x=>have hm:b∈Fa h H:=gi.2 ⟨y4.2 (dG a),by simp[q]⟩;have z:(yG h H).get? b=aD:=W.hideAll_none (Fa h H) hm;rw[z]at e;cases e
structure Mod(K:bN)(mg:Str->A6)(base:bK):Prop where
 ky:K.In base
 glob:base.Ns jE mg
 blt:∃mb,base.Ns Vd mb/\∀x:Str,x≠"__name__"->mb x=oS x
 nolimit:base.NoLimit
structure Cx where
 prog:cC
 w:bV
 K:bN
 mg:Str->'8'
 base:bK
 A:cM
 N:AK
 s₀:aK
 H₀:Hp
 env:Env
 outer:A8
 stack:A8
 ex:AI
 fn:Str->Bool
 calm:Bool
 pn:'7'
 xe:Value->aK->Prop
variable {X:Cx}
def rR(l:A8):AI:=l.filterMap (·.frame)
noncomputable abbrev Cx.fs(X:Cx):AI:=rR X.outer
def Ag(sc:gI)(x:Str):Prop:=sc.names.lookup x=aA .local\/sc.names.lookup x=aA .cell\/sc.names.lookup x=aA .free
def aq(sc:gI)(x:Str):Prop:=sc.names.lookup x=aA .local\/sc.names.lookup x=aA .cell
def SQ(env:Env)(h:bK)(m:Str->'8')(x:Str)(u:Value):Prop:=
 (env.kindOf x=aA .local/\m x=aA u)\/((env.kindOf x=aA .cell\/env.kindOf x=aA .free)/\∃c,env.cells.lookup x=aA c/\h.IsCell c (aA u))
structure Cx.Ok(X:Cx):Prop where
 mod:Mod X.K X.mg X.base
 kind:X.env.scope.kind = .function
 glob:X.env.globals=jE
 blt:X.env.builtins=Vd
 above:X.s₀.heap.objs.size<=X.env.locals
 inj:∀x y c,X.env.cells.lookup x=aA c->X.env.cells.lookup y=aA c->x=y
 has:∀x,(X.env.kindOf x=aA .cell\/X.env.kindOf x=aA .free)->∃c,X.env.cells.lookup x=aA c
 Ar:∀x c,X.fn x=aB->X.env.cells.lookup x=aA c->X.s₀.heap.objs.size<=c
 hd:X.calm=aB->X.A.handled=aD
 frames:X.A.frames=aA X.stack
 Qe:X.stack=X.outer\/(X.stack=X.env::X.outer/\X.env.frame=aA X.env.locals)
 Bh:∀b∈X.ex,b≠X.env.locals/\∀x c,X.env.cells.lookup x=aA c->c≠b
 bs:∀b o,X.base.get? b=aA o->X.s₀.heap.get? b=aA o/\X.H₀ b=aD
 xR:X.base.objs.size<=X.s₀.heap.objs.size
 Dj:∀b o,X.base.get? b=aA o->b∉X.ex
 ug:∀b∈X.ex,b∉X.fs
 rT:X.s₀.heap.FunFrames X.base X.outer
 ke:∀b∈X.fs,X.H₀ b=aD
structure D3(X:Cx)(ap:BA)(Z:List (Option V))(H:Hp)(s:aK):Prop where
 ok:X.Ok
 os:s.os=X.s₀.os
 bare:wL s.gens
 base:Un X.fs X.ex X.H₀ H X.s₀.heap s.heap
 loc:∃m,s.heap.Ns X.env.locals m/\∀(i:Nat) (x:Str) (v:V),X.N[i]?=aA x->Z[i]?=aA (aA v)->Ag X.env.scope x->∃u,D6 v u/\SQ X.env s.heap m x u
 cell:∀x c,X.env.cells.lookup x=aA c->∃v,s.heap.IsCell c v
 free:H X.env.locals=aD
 rQ:∀x c,X.env.cells.lookup x=aA c->H c=aD
 pin:∀p∈X.pn++ap,s.heap.get? p.1=aA p.2/\H p.1=aD/\p.1≠X.env.locals/\p.1∉X.fs/\∀v,p.2.data ≠ .cell v
 bB:fF X.prog X.w H s.heap
 len:B3 Z=B3 X.N
section
variable {Z:List (Option V)}
def Cx.Ok.aBg(ok:X.Ok){o:Obj}(e:X.base.get? b=aA o):b∉X.fs:=λhb=>by have:=(ok.rT.mem hb).1;rw[e]at this;cases this
theorem D3.bs(I:'&'):∀b o,X.base.get? b=aA o->s.heap.get? b=aA o/\H b=aD:=λb o e=>
 ⟨I.base.D7 b o (I.ok.bs b o e).1 (I.ok.bs b o e).2 (I.ok.aBg e) (I.ok.Dj b o e),I.base.free b o (I.ok.bs b o e).1 (I.ok.bs b o e).2 (I.ok.Dj b o e)⟩
def D3.bk(I:'&'):∀b o,X.base.get? b=aA o->s.heap.get? b=aA o:=λb o e=>(I.bs b o e).1
theorem D3.mod(I:'&'):Mod X.K X.mg X.base:=I.ok.mod
def D3.fP(I:'&'):X.K.In s.heap:=I.ok.mod.ky.keeps I.bk
theorem D3.lt(I:'&'):X.env.locals<s.heap.objs.size:=let ⟨_,hn,_⟩:=I.loc;hn.lt
def D3.sz(I:'&'):X.s₀.heap.objs.size<=s.heap.objs.size:=dF I.ok.above (kG I.lt)
def D3.aBi(I:'&')(h:s.heap.objs.size<=a):a∉X.fs:=λhb=>by obtain⟨_,o,b,_⟩:=I.ok.rT.mem hb;exact absurd (bE (dG b)<|dF I.sz h)<|nQ _
def D3.bu(I:'&'):∀x c,X.env.cells.lookup x=aA c->c≠X.env.locals:=λx c e z=>by obtain⟨v,o,d,hd⟩:=I.cell x c e;obtain⟨m,⟨f,g,h,a,b,_⟩,_⟩:=I.loc;rw[z,a]at d;cases d;rw[b]at hd;cases hd
theorem D3.rT(I:'&'):s.heap.FunFrames X.base X.outer:=by
 have all:∀l,(∀b∈rR l,b∈X.fs)->X.s₀.heap.FunFrames X.base l->s.heap.FunFrames X.base l:=by
  intro l;induction l with
  |nil=>intro _ _;trivial|cons env r f=>intro d hl;obtain⟨g,⟨L,o,a,hn,h,hd⟩,hr⟩:=hl;have c:=d L (by unfold rR;rw[mR,a];exact eL);obtain⟨sl,e⟩:=I.base.D9 L o h (I.ok.ke L c) c λz=>I.ok.ug L z c;exact⟨g,⟨L,_,a,hn,e,hd⟩,f (λb hb=>d b (by unfold rR;rw[mR,a];exact eK _ hb)) hr⟩
 exact all X.outer (λ_ hb=>hb) I.ok.rT
theorem D3.stack(I:'&'):s.heap.FunFrames X.base X.stack:=by
 rcases I.ok.Qe with e|⟨e,a⟩
 .rw[e];exact I.rT
 .rw[e];obtain⟨m,hn,_⟩:=I.loc;exact .cons (by rw[I.ok.kind];decide) a hn (Heap.get?_none_of_le<|dF I.ok.xR I.ok.above) I.rT
def D3.Qf(I:'&'):∀b∈rR X.stack,b∈X.env.locals::X.fs:=λb hb=>by
 rcases I.ok.Qe with e|⟨e,a⟩
 .rw[e]at hb;exact eK _ hb
 .rw[e]at hb;unfold rR at hb;rw[mR,a]at hb;exact hb
def D3.KQ(I:'&'):∀b∈rR X.stack,H b=aD:=λb hb=>by
 rcases dT.1 (I.Qf b hb)with e|hb
 .rw[e];exact I.free
 .obtain⟨_,o,a,_⟩:=I.ok.rT.mem hb;exact I.base.free b o a (I.ok.ke b hb) λz=>I.ok.ug b z hb
def D3.step{ch:AI}(I:'&')
  (hch:∀b∈ch,(b∈X.ex\/X.s₀.heap.objs.size<=b)/\b≠X.env.locals/\(∀x c,X.env.cells.lookup x=aA c->c≠b)/\∀p∈X.pn++ap,p.1≠b)
  (D7:∀b o,b≠X.env.locals->b∉X.fs->b∉ch->s.heap.get? b=aA o->H b=aD->h'.get? b=aA o)
  (D9:∀b o,b≠X.env.locals->b∈X.fs->b∉ch->s.heap.get? b=aA o->H b=aD->∃sl,h'.get? b=aA { o with slots:=sl })(free:∀b o,b∉ch->s.heap.get? b=aA o->H b=aD->H' b=aD)
  (there:∀b o,b∉ch->s.heap.get? b=aA o->∃o',h'.get? b=aA o')
  (wD:∀b xs,H b=aA (.tup xs)->H' b=aA (.tup xs))(rS:∀b o u,H b=aA (.dI o u)->H' b=aA (.dI o u))
  (ns:∀m,s.heap.Ns X.env.locals m->h'.Ns X.env.locals m)(bB:fF X.prog X.w H' h')(hg:wL g') :
  D3 X ap Z H' { s with heap:=h',gens:=g',drawn:=d',toks:=t' }:=by
 have t:∀b o,X.s₀.heap.get? b=aA o->b≠X.env.locals:=λb o e=>bZ (bE (dG e) I.ok.above);have g:∀b o,X.s₀.heap.get? b=aA o->b∉X.ex->b∉ch:=λb o e a hb=>by
  rcases(hch b hb).1 with z|z
  .exact a z
  .exact absurd (bE (dG e) z)<|nQ _
 have cellK:∀x c,X.env.cells.lookup x=aA c->∀v,s.heap.IsCell c v->h'.IsCell c v:=λx c e v ⟨o,j,hd⟩=>by
  have f:=λz=>(hch c z).2.2.1 x c e rfl;by_cases A:c∈X.fs
  .obtain⟨sl,q⟩:=D9 c o (I.bu x c e) A f j (I.rQ x c e);exact⟨_,q,hd⟩
  .exact⟨o,D7 c o (I.bu x c e) A f j (I.rQ x c e),hd⟩
 refine⟨I.ok,I.os,hg,⟨λb o e n hb a=>?_,λb o e n hb a=>?_,λb o e n a=>?_,λb o e a=>?_,λb xs e=>wD b xs (I.base.wD b xs e),λb o xs e=>rS b o xs (I.base.rS b o xs e)⟩,?_,λx c e=>?_,?_,λx c e=>?_,λp B=>?_,bB,I.len⟩
 .exact D7 b o (t b o e) hb (g b o e a) (I.base.D7 b o e n hb a)<|I.base.free b o e n a
 .obtain⟨sl,h⟩:=I.base.D9 b o e n hb a;obtain⟨y,w⟩:=D9 b _ (t b o e) hb (g b o e a) h (I.base.free b o e n a);exact⟨y,w⟩
 .obtain⟨o',h⟩:=I.base.there b o e a;exact free b o' (g b o e a) h<|I.base.free b o e n a
 .obtain⟨o',h⟩:=I.base.there b o e a;exact there b o' (g b o e a) h
 .obtain⟨m,hn,hl⟩:=I.loc;refine⟨m,ns m hn,λi x v h w E=>?_⟩;obtain⟨u,r,l⟩:=hl i x v h w E;refine⟨u,r,?_⟩;rcases l with l|⟨k,c,e,z⟩
  .exact .inl l
  .exact .inr ⟨k,c,e,cellK x c e _ z⟩
 .obtain⟨v,z⟩:=I.cell x c e;exact⟨v,cellK x c e v z⟩
 .obtain⟨m,⟨o,_,_,j,_⟩,_⟩:=I.loc;exact free _ o (λz=>(hch _ z).2.1 rfl) j I.free
 .obtain⟨v,o,j,hd⟩:=I.cell x c e;exact free c o (λz=>(hch c z).2.2.1 x c e rfl) j<|I.rQ x c e
 .obtain⟨e,n,ne,nf,d⟩:=I.pin p B;have f:=λz=>(hch p.1 z).2.2.2 p B rfl;exact⟨D7 p.1 p.2 ne nf f e n,free p.1 p.2 f e n,ne,nf,d⟩
def D3.un(I:'&')(u:Un X.fs [] H H' s.heap h')(bB:fF X.prog X.w H' h'):D3 X ap Z H' { s with heap:=h',toks:=t' }:=by
 obtain⟨m,⟨o,i,j,f,r⟩,_⟩:=id I.loc;obtain⟨sl,g⟩:=u.any f I.free (by simp);exact I.step (ch:=[]) (nofun) (λb o _ hb _ e n=>u.D7 b o e n hb (by simp)) (λb o _ hb _ e n=>u.D9 b o e n hb (by simp)) (λb o _ e n=>u.free b o e n (by simp)) (λb o _ e=>u.there b o e (by simp)) u.wD u.rS (λk hm=>by obtain⟨l,c,d,a,h⟩:=hm;rw[f]at a;cases a;exact⟨_,c,d,g,h⟩) bB I.bare
def D3.call{ch:AI}(I:'&')(u:Un (rR X.stack) ch H H' s.heap h')(bB:fF X.prog X.w H' h')(hg:wL g')
  (hch:∀b∈ch,(b∈X.ex\/X.s₀.heap.objs.size<=b)/\b≠X.env.locals/\(∀x c,X.env.cells.lookup x=aA c->c≠b)/\∀p∈X.pn++ap,p.1≠b) :
  D3 X ap Z H' { s with heap:=h',gens:=g',drawn:=d',toks:=t' }:=by
 obtain⟨m,⟨o,k,l,i,r⟩,_⟩:=id I.loc;obtain⟨sl,f⟩:=u.any i I.free λz=>(hch _ z).2.1 rfl;exact I.step hch (λb o f hb a e n=>u.D7 b o e n (λz=>(dT.1<|I.Qf b z).elim f hb) a) (λb o _ _ a e n=>u.any e n a) (λb o a e n=>u.free b o e n a) (λb o a e=>u.there b o e a) u.wD u.rS (λq hm=>by obtain⟨t,g,h,d,j⟩:=hm;rw[i]at d;cases d;exact⟨_,g,h,f,j⟩) bB hg
def D3.turned(I:'&')(k:∀b o,b≠it->s.heap.get? b=aA o->h'.get? b=aA o)(hn:H it=aD)(hL:it≠X.env.locals)
  (h1:it∈X.ex\/X.s₀.heap.objs.size<=it)(h2:∀x c,X.env.cells.lookup x=aA c->c≠it)(h3:∀p∈X.pn++ap,p.1≠it):D3 X ap Z H { s with heap:=h',toks:=t' }:=by
 have d:∀b u,H b=aA u->b≠it:=λb u e z=>by grind
 refine I.step (ch:=[it]) (λb hb=>?_) (λb o _ _ a e _=>k b o (λz=>a (by simp[z])) e) (λb o _ _ a e _=>⟨o.slots,k b o (λz=>a (by simp[z])) e⟩) (λ_ _ _ _ n=>n)
  (λb o a e=>⟨o,k b o (λz=>a (by simp[z])) e⟩) (λ_ _ e=>e) (λ_ _ _ e=>e) (λm hm=>?_) (λb u e=>?_) I.bare
 .have e:b=it:=by simpa using hb
  subst e;exact⟨h1,hL,h2,h3⟩
 .obtain⟨o,f,g,h,r⟩:=hm;exact⟨o,f,g,k _ o (lM hL) h,r⟩
 .refine(I.bB b u e).vY (λc v a q=>k c v ?_ q) λ_ q=>q;rcases a with z|z
  .rw[z];exact d b u e
  .exact d c _ z
def D3.tok(I:'&')(t:Nat):D3 X ap Z H { s with toks:=t }:=I.un Un.refl I.bB
theorem D3.E6{t':Nat}(I:'&')(k:∀b u,s.heap.get? b=aA u->h'.get? b=aA u):D3 X ap Z H { s with heap:=h',toks:=t' }:=I.un (Un.E6 k) (I.bB.E6 k)
theorem D3.F1{a:Addr}{o:HO}{t':Nat}(I:'&')(k:∀b u,s.heap.get? b=aA u->h'.get? b=aA u)(hp:s.heap.objs.size<=a)(C8:iB X.prog X.w (D4 H a o) h' a o) :
 D3 X ap Z (D4 H a o) { s with heap:=h',toks:=t' }:=I.un (Un.F1 k hp<|I.bB.fresh hp) (I.bB.F1 k hp C8)
theorem D3.write{x e:Addr}{o:HO}{t':Nat}(I:'&')(mu:jg (H x))(he:e=x\/H e=aA (.own x))(k:∀b u,b≠e->s.heap.get? b=aA u->h'.get? b=aA u)(heo:∃u,h'.get? e=aA u)
 (C8:iB X.prog X.w (D4 H x o) h' x o):D3 X ap Z (D4 H x o) { s with heap:=h',toks:=t' }:=I.un (Un.write mu he k heo) (I.bB.write mu he k heo C8)
def D3.mn{pins':'7'}(I:'&')(h:∀p∈pins',s.heap.get? p.1=aA p.2/\H p.1=aD/\p.1≠X.env.locals/\p.1∉X.fs/\∀v,p.2.data ≠ .cell v):D3 X pins' Z H s:=
 ⟨I.ok,I.os,I.bare,I.base,I.loc,I.cell,I.free,I.rQ,λp a=>(eh.1 a).elim (λz=>I.pin p (uM _ z)) (h p),I.bB,I.len⟩
def FX(hN:N.Nodup)(a:N[i]?=aA x)(b:N[j]?=aA x):i=j:=by obtain⟨e,c⟩:=dk.1 a;obtain⟨f,d⟩:=dk.1 b;exact(Gm hN).1 (c.trans d.symm)
def aQa{M:Model}{Q:Unit->aK->Prop}(I:'&')(hN:X.N.Nodup)(hi:X.N[i]?=aA x)(hx:aq X.env.scope x)(r:D6 v u)
  (h:∀s',D3 X ap (Z.set i<|aA v) H s'->(∃a,gr a s.heap s'.heap/\(a=X.env.locals\/X.env.cells.lookup x=aA a))->Q () s')(hf:X.fn x=aB\/X.env.scope.names.lookup x=aA .local:=by first|exact .inl rfl|exact .inr rfl|assumption):aT M A (Vp X.env x u) Q E s:=by
 obtain⟨m,hn,hl⟩:=id I.loc;have D:(X.env.scope.kind == .class||(X.env.scope.kind == .module&&X.env.locals != X.env.globals))=aJ:=by rw[I.ok.kind];rfl
 have t:i<B3 Z:=by rw[I.len];exact(dk.1 hi).1
 have bu:=I.bu;have tracked:∀{a:Addr}{C:bK},(∃o,s.heap.get? a=aA o/\H a=aD)->gr a s.heap C->fF X.prog X.w H C:=λ{a C} ha f b ob e=>by
  obtain⟨_,_,O⟩:=ha;refine(I.bB b ob e).vY (λc L hc q=>(f.2 c ?_).trans q) λ_ q=>q;rintro rfl
  rcases hc with rfl|hc
  .grind
  .grind
 rcases hx with hk|hk
 .refine wpAny_storeName_local hk hn (λC P f=>?_) D;obtain⟨oL,_,_,R,_⟩:=id hn;refine h _ ⟨I.ok,I.os,I.bare,⟨λb o e n hb hx=>?_,λb o e n hb hx=>?_,I.base.free,λb o e hx=>?_,I.base.wD,I.base.rS⟩,⟨_,P,λj y S g l T=>?_⟩,λy c e=>?_,I.free,I.rQ,λp U=>?_,tracked ⟨oL,R,I.free⟩ f,by simpa using I.len⟩ ⟨_,f,.inl rfl⟩
  .exact(f.2 b<|bZ<|bE (dG e) I.ok.above).trans (I.base.D7 b o e n hb hx)
  .obtain⟨sl,g⟩:=I.base.D9 b o e n hb hx;exact⟨sl,(f.2 b<|bZ<|bE (dG e) I.ok.above).trans g⟩
  .obtain⟨W,g⟩:=I.base.there b o e hx;exact⟨W,(f.2 b<|bZ<|bE (dG e) I.ok.above).trans g⟩
  .by_cases w:j=i
   .subst w;rw[hi]at g;cases g;rw[mB t]at l;cases l;exact⟨u,r,.inl ⟨hk,by simp⟩⟩
   .rw[kZ (lM w)]at l;obtain⟨Y,Bm,q⟩:=hl j y S g l T;refine⟨Y,Bm,?_⟩;rcases q with⟨k,e⟩|⟨k,c,e,z⟩
    .refine .inl ⟨k,?_⟩;have:y≠x:=λe=>w (FX hN g<|e▸hi);simp[this,e]
    .exact .inr ⟨k,c,e,z.sameBut f (bu y c e)⟩
  .obtain⟨L,z⟩:=I.cell y c e;exact⟨L,z.sameBut f (bu y c e)⟩
  .obtain⟨e,n,ne,nf,d⟩:=I.pin p U;exact⟨(f.2 p.1 ne).trans e,n,ne,nf,d⟩
 .have B:X.fn x=aB:=by
   rcases hf with z|z
   .exact z
   .grind
  obtain⟨c,hc⟩:=I.ok.has x (.inl hk);obtain⟨L,z⟩:=I.cell x c hc;refine wpAny_storeName_cell I.ok.kind hk hc z<|λC F f=>?_;obtain⟨oc,G,J⟩:=id z;refine h { s with heap:=C } ⟨I.ok,I.os,I.bare,⟨λb o e n hb hx=>?_,λb o e n hb hx=>?_,I.base.free,λb o e hx=>?_,I.base.wD,I.base.rS⟩,⟨m,hn.sameBut f (lM<|bu x c hc),λj y S g l T=>?_⟩,λy N e=>?_,I.free,I.rQ,λp U=>?_,tracked ⟨oc,G,I.rQ x c hc⟩ f,by simpa using I.len⟩ ⟨c,f,.inr hc⟩
  .exact(f.2 b<|bZ<|bE (dG e)<|I.ok.Ar x c B hc).trans (I.base.D7 b o e n hb hx)
  .obtain⟨sl,g⟩:=I.base.D9 b o e n hb hx;exact⟨sl,(f.2 b<|bZ<|bE (dG e)<|I.ok.Ar x c B hc).trans g⟩
  .obtain⟨W,g⟩:=I.base.there b o e hx;exact⟨W,(f.2 b<|bZ<|bE (dG e)<|I.ok.Ar x c B hc).trans g⟩
  .by_cases w:j=i
   .subst w;rw[hi]at g;cases g;rw[mB t]at l;cases l;exact⟨u,r,.inr ⟨.inl hk,c,hc,F⟩⟩
   .rw[kZ (lM w)]at l;obtain⟨Y,Bm,q⟩:=hl j y S g l T;refine⟨Y,Bm,?_⟩;rcases q with q|⟨k,N,e,z'⟩
    .exact .inl q
    .refine .inr ⟨k,N,e,z'.sameBut f ?_⟩;rintro rfl
     exact w<|FX hN g<|I.ok.inj _ _ _ e hc▸hi
  .by_cases K:N=c
   .subst K;exact⟨_,F⟩
   .obtain⟨w2,z2⟩:=I.cell y N e;exact⟨w2,z2.sameBut f K⟩
  .obtain⟨e,n,ne,nf,d⟩:=I.pin p U;refine⟨(f.2 p.1 ?_).trans e,n,ne,nf,d⟩;intro q;rw[q,G]at e;have q':=cR e;exact d L<|q'▸J
def oj{M:Model}{Q:Unit->aK->Prop}(I:'&')(hN:X.N.Nodup)(hi:X.N[i]?=aA x)(hx:aq X.env.scope x)(r:D6 v u)
  (h:∀s',D3 X ap (Z.set i<|aA v) H s'->Q () s')(hf:X.fn x=aB\/X.env.scope.names.lookup x=aA .local:=by first|exact .inl rfl|exact .inr rfl|assumption):aT M A (Vp X.env x u) Q E s:=
 aQa I hN hi hx r (λs' a _=>h s' a) hf
def D3.ZR{ch:AI}(I:'&')(ho:s'.os=s.os)(u:Un (rR X.stack) ch H H' s.heap s'.heap)(bB:fF X.prog X.w H' s'.heap)(hg:wL s'.gens)
  (hch:∀b∈ch,(b∈X.ex\/X.s₀.heap.objs.size<=b)/\b≠X.env.locals/\(∀x c,X.env.cells.lookup x=aA c->c≠b)/\∀p∈X.pn++ap,p.1≠b):D3 X ap Z H' s':=by
 obtain⟨d,f,g,h,a⟩:=s';have e:=ho;subst e;exact I.call u bB hg hch
end
abbrev XK:=Value->BD->Hp->Prop
abbrev St:=List (Option V)
variable {Z:St}
abbrev VK:=V->Hp->Prop
abbrev TE:=St->Hp->VK->Prop
variable {tb te:TE}
abbrev TT:=St->Hp->(Bool->Hp->Prop)->Prop
variable {tc:TT}
abbrev TA:=St->Hp->(AJ->Hp->Prop)->Prop
structure Ends where
 nx:St->Hp->Prop
 rt:VK
 bk:St->Hp->Prop:=λ_ _=>False
 ct:St->Hp->Prop:=λ_ _=>False
abbrev TS:=Ends->St->Hp->Prop
def EP(X:Cx)(ap:'7')(Z:St)(Q:VK)(u:Value)(s':aK):Prop:=∃v H',D3 X ap Z H' s'/\D6 v u/\Q v H'
def TP(X:Cx)(ap:'7')(Z:St)(Q:Bool->Hp->Prop)(b:Bool)(s':aK):Prop:=∃H',D3 X ap Z H' s'/\Q b H'
def AP(X:Cx)(ap:'7')(Z:St)(Q:AJ->Hp->Prop)(us:'2')(s':aK):Prop:=∃vs H',D3 X ap Z H' s'/\D5 vs us/\Q vs H'
def SP(X:Cx)(ap:'7')(D:Ends)(f:Flow)(s':aK):Prop:=
 match f with
 |.next=>∃Z' H',D3 X ap Z' H' s'/\D.nx Z' H'
 |.brk=>∃Z' H',D3 X ap Z' H' s'/\D.bk Z' H'
 |.cont=>∃Z' H',D3 X ap Z' H' s'/\D.ct Z' H'
 |.ret u=>∃v Z' H',D3 X ap Z' H' s'/\D6 v u/\D.rt v H'
def PE(X:Cx)(e:aI)(t:TE):Prop:=
 ∀(ap:'7') (s:aK) (Z:St) (H:Hp) (Q:VK),'&'->t Z H Q->aT '1' X.A (eval e X.env) (EP X ap Z Q) X.xe s
def PT(X:Cx)(e:aI)(t:TT):Prop:=
 ∀(ap:'7') (s:aK) (Z:St) (H:Hp) (Q:Bool->Hp->Prop),'&'->t Z H Q->aT '1' X.A (isTrue e X.env<|eval e X.env) (TP X ap Z Q) X.xe s
def PW(X:Cx)(e:aI)(t:TT):Prop:=
 ∀(whole:Sem Value) (ap:'7') (s:aK) (Z:St) (H:Hp) (Q:Bool->Hp->Prop),'&'->t Z H Q->aT '1' X.A (isTrue e X.env whole) (TP X ap Z Q) X.xe s
def PW.pt{t:TT}(h:PW X e t):PT X e t:=h _
def PA(X:Cx)(es:List aI)(t:TA):Prop:=
 ∀(pos:Pos) (ap:'7') (s:aK) (Z:St) (H:Hp) (Q:AJ->Hp->Prop),'&'->t Z H Q->aT '1' X.A (spliced<|mD pos<|eS es X.env) (AP X ap Z Q) X.xe s
def PS(X:Cx)(st:Stmt)(t:TS):Prop:=
 ∀(ap:'7') (s:aK) (Z:St) (H:Hp) (D:Ends),'&'->t D Z H->aT '1' X.A (exec st X.env) (SP X ap D) X.xe s
def sX(X:Cx)(st:AN)(t:TS):Prop:=
 ∀(ap:'7') (s:aK) (Z:St) (H:Hp) (D:Ends),'&'->t D Z H->aT '1' X.A (execs st X.env) (SP X ap D) X.xe s
def bG{α:Type}{t:Sem α}{Q Q':α->aK->Prop}{M:Model}(h:aT M A t Q E s)(hQ:∀a s,Q a s->Q' a s):aT M A t Q' E s:=zi h hQ λ_ _ x=>x
section
def aRn(i:Nat):TE:=λZ H Q=>∃v,Z[i]?=aA (aA v)/\Q v H
def tC(v:V):TE:=λ_ H Q=>Q v H
def aEv(hN:X.N[i]?=aA x)(hv:Ag X.env.scope x)(hd:'B'=aJ:=by decide)(hcd:(x==("__classdict__":Str))=aJ:=by decide):PE X (.Name x pos) (aRn i):=by
 intro ap s d H Q I h;obtain⟨v,e,h⟩:=h;obtain⟨m,hn,hl⟩:=I.loc;obtain⟨u,r,l⟩:=hl i x v hN e hv;have fin:EP X ap d Q u s:=⟨v,H,I,r,h⟩;rcases l with⟨hk,hm⟩|⟨hk,c,b,a⟩
 .exact Vs (SD I.ok.kind hk hn hm fin) hd
 .rcases hk with hk|hk
  .exact Vs (SA I.ok.kind hk b a fin) hd
  .exact Vs (wpAny_loadName_free I.ok.kind hk b a fin hcd) hd
def aEf{i j pos}:PE X (.Constant (.int i) j pos) (tC<|.int i):=λ_ _ _ H _ I h=>wpAny_Constant_int ⟨.int i,H,I.tok _,⟨_,rfl⟩,h⟩
def GU{b j pos}:PE X (.Constant (.bool b) j pos) (tC<|.bl b):=λ_ _ _ H _ I h=>Constant_bool ⟨.bl b,H,I,rfl,h⟩
def GZ{j pos}:PE X (.Constant .none j pos) (tC .aG):=λ_ _ _ H _ I h=>Constant_none ⟨.aG,H,I,rfl,h⟩
def HA{x j pos}:PE X (.Constant (.str x) j pos) (tC<|.str x):=λ_ _ _ H _ I h=>Calls.Constant_str ⟨.str x,H,I.tok _,⟨_,rfl⟩,h⟩
def Gl(X:Cx)(x:Str):Prop:=X.env.kindOf x=aA .globalImplicit
def vp(I:'&')(hg:Gl X x)(hm:X.mg x=aA u)(h:Q u s)
  (hd:autoParam ('B'=aJ) aEv._auto_1):aT '1' X.A (eval (.Name x pos) X.env) Q E s:=
 NM I.ok.kind hg (Calls.loadGlobal_global (by rw[I.ok.glob];exact I.mod.glob.keeps I.bk) hm h) hd
def fc(I:'&')(hg:Gl X x)(hm:X.mg x=aD)(hv:oS x=aA u)(h:Q u s)
  (hn:autoParam (x≠"__name__") aEv._auto_1)(hd:autoParam ('B'=aJ) aEv._auto_1):aT '1' X.A (eval (.Name x pos) X.env) Q E s:=by
 obtain⟨c,a,b⟩:=I.mod.blt;exact NM I.ok.kind hg (Calls.loadGlobal_builtin (by rw[I.ok.glob];exact I.mod.glob.keeps I.bk) hm (by rw[I.ok.blt];exact a.keeps I.bk) ((b x hn).trans hv) h) hd
def GY(hg:Gl X x)(hm:X.mg x=aA u)(r:D6 v u)(hd:autoParam ('B'=aJ) aEv._auto_1):PE X (.Name x pos) (tC v):=
 λ_ _ _ H _ I h=>vp I hg hm ⟨v,H,I,r,h⟩ hd
def aDt(hg:Gl X x)(hm:X.mg x=aD)(hv:oS x=aA u)(r:D6 v u)(hn:autoParam (x≠"__name__") aEv._auto_1)(hd:autoParam ('B'=aJ) aEv._auto_1):PE X (.Name x pos) (tC v):=
 λ_ _ _ H _ I h=>fc I hg hm hv ⟨v,H,I,r,h⟩ hn hd
variable {a b:aI}{ta:TE}
variable {tA tB':TT}{rest:List aI}
def aQo(t u:TT):TT:=λZ H Q=>t Z H λc H1=>if c=aB then u Z H1 Q else Q aJ H1
def tOr(t u:TT):TT:=λZ H Q=>t Z H λc H1=>if c=aB then Q aB H1 else u Z H1 Q
def aRe(t:TT):TT:=λZ H Q=>t Z H λc H1=>Q (!c) H1
def aHd(ha:PT X a tA):PW X (.BoolOp .And [a] pos) tA:=by
 intro d ap s b H Q I h;refine isTrue_and<|bG (ha ap s b H Q I h) λc s1 e=>?_;cases c with
 |true=>exact isTrue_and_nil e|false=>exact e
def aHg(ha:PT X a tA):PW X (.BoolOp .Or [a] pos) tA:=by
 intro d ap s b H Q I h;refine isTrue_or<|bG (ha ap s b H Q I h) λc s1 e=>?_;cases c with
 |false=>exact isTrue_or_nil e|true=>exact e
def aHc(ha:PT X a tA)(hb:PW X (.BoolOp .And (b::rest) pos) tB'):PW X (.BoolOp .And (a::b::rest) pos) (aQo tA tB'):=by
 intro g ap s d H Q I h;refine isTrue_and<|bG (ha ap s d H _ I h) λc s1 ⟨H1,e,f⟩=>?_;cases c with
 |true=>exact hb g ap s1 d H1 Q e f|false=>exact⟨H1,e,f⟩
def aHf(ha:PT X a tA)(hb:PW X (.BoolOp .Or (b::rest) pos) tB'):PW X (.BoolOp .Or (a::b::rest) pos) (tOr tA tB'):=by
 intro g ap s d H Q I h;refine isTrue_or<|bG (ha ap s d H _ I h) λc s1 ⟨H1,e,f⟩=>?_;cases c with
 |true=>exact⟨H1,e,f⟩|false=>exact hb g ap s1 d H1 Q e f
def aGy(ha:PT X a tA):PT X (.UnaryOp .Not a pos) (aRe tA):=by intro ap s b H Q I h;exact isTrue_not<|ha ap s b H (λc H1=>Q (!c) H1) I h
def aEo{op}{t:TE}(h:PE X a t):PE X (.BoolOp op [a] pos) t:=λap s b H Q I hw=>BoolOp_one (h ap s b H Q I hw)
def tIf(t:TT)(ta tb:TE):TE:=λZ H Q=>t Z H λc H1=>if c=aB then ta Z H1 Q else tb Z H1 Q
def aEe(hc:PT X c tA)(ha:PE X a ta)(hb:PE X b tb):PE X (.IfExp c a b pos) (tIf tA ta tb):=by
 intro ap s e H Q I h;refine wpAny_IfExp<|bG (hc ap s e H _ I h) λd s1 ⟨H1,f,g⟩=>?_;cases d with
 |true=>exact ha ap s1 e H1 Q f g|false=>exact hb ap s1 e H1 Q f g
end
def eB(K:bN)(H:Hp)(a:Addr)(xs:AJ):Prop:=
 Rd H a (.l xs) \/
  ∃(o:Obj) (its:AR) (n:Nat),K.lookup a=aA o/\o.cls = .type "list"/\o.dict=aD/\o.data = .seq its n/\its.size<=sizeLine/\D5 xs its.toList
def fU(K:bN)(H:Hp)(a:Addr)(xs:AJ):Prop:=
 Rd H a (.tup xs) \/
  ∃(o:Obj) (its:AR) (n:Nat),K.lookup a=aA o/\o.cls = .type "tuple"/\o.data = .seq its n/\its.size<=sizeLine/\D5 xs its.toList
def SU:Value->Option V
 |.none=>aA .aG
 |.bool b=>aA (.bl b)
 |.int i _=>aA (.int i)
 |.str x _=>aA (.str x)
 |.ref a=>aA (.ref a)
 |.type n=>aA (.ty n)
 |_=>aD
def D6.abs{x:V}(r:D6 x u):SU u=aA x:=by
 cases x with
 |aG=>cases r;rfl|bl _=>cases r;rfl|int _=>obtain⟨t,rfl⟩:=r;rfl|str _=>obtain⟨t,rfl⟩:=r;rfl|ref _=>cases r;rfl|ty _=>cases r;rfl
def D6.inj{x:V}(r:D6 x u)(q:D6 y u):x=y:=cR (r.abs.symm.trans q.abs)
theorem D5.inj:∀{xs ys:AJ}{us:'2'},D5 xs us->D5 ys us->xs=ys
 |_,_,_,.nil,.nil=>rfl|_,_,_,.cons r t,.cons a b=>by rw[r.inj a,D5.inj t b]
section
variable {xs ys:AJ}
def eB.of{K:bN}(h:H a=aA (.l xs)):eB K H a xs:=.inl (.inl h)
def fU.of{K:bN}(h:H a=aA (.tup xs)):fU K H a xs:=.inl (.inl h)
def D3.list(I:'&')(h:eB X.K H a xs):∃its:'2',D5 xs its/\PlainL s.heap a its.toArray/\B3 xs<=sizeLine:=by
 rcases h with h|⟨o,its,n,b,c,hd,d,f,r⟩
 .obtain⟨z,its,n,r,e⟩:=h.ok I.bB;exact⟨its,r,⟨_,n,e,rfl,rfl,rfl⟩,z⟩
 .refine⟨its.toList,r,⟨o,n,I.fP a o b,c,hd,by left⟩,?_⟩;have e:=r.length;simp only[gq]at e;lia
def D3.tuple(I:'&')(h:fU X.K H a xs):∃its:'2',D5 xs its/\IsTup s.heap a its.toArray/\B3 xs<=sizeLine:=by
 rcases h with h|⟨o,its,n,b,c,d,f,r⟩
 .obtain⟨z,its,r,p⟩:=h.ok I.bB;exact⟨its,r,p,z⟩
 .refine⟨its.toList,r,⟨o,I.fP a o b,c,n,by left⟩,?_⟩;have e:=r.length;simp only[gq]at e;omega
def D3.ES(I:'&')(h:eB X.K H a xs)(h':eB X.K H a ys):xs=ys:=by
 obtain⟨c,r,⟨o,n,e,_,_,d⟩,_⟩:=I.list h;obtain⟨b,i,⟨j,k,f,_,_,g⟩,_⟩:=I.list h';rw[e]at f;cases f;rw[d]at g;injection g with d1 _;have:c=b:=by left
 subst this;exact r.inj i
def D3.LR(I:'&')(h:fU X.K H a xs)(h':fU X.K H a ys):xs=ys:=by
 obtain⟨c,r,⟨o,e,_,n,d⟩,_⟩:=I.tuple h;obtain⟨b,i,⟨j,f,_,k,g⟩,_⟩:=I.tuple h';rw[e]at f;cases f;rw[d]at g;injection g with d1 _;have:c=b:=by left
 subst this;exact r.inj i
end
section
variable {st:Stmt}{rest:AN}{t u:TS}
def LB:TS:=λD Z H=>D.nx Z H
def aRl(t u:TS):TS:=λD Z H=>t { D with nx:=u D } Z H
def aGv:sX X [] LB:=λ_ _ a H _ I h=>Vu ⟨a,H,I,h⟩
def aGu(h1:PS X st t)(h2:sX X rest u):sX X (st::rest) (aRl t u):=by
 intro ap s b H D I h;refine wpAny_execs_cons<|bG (h1 ap s b H { D with nx:=u D } I h) λf s1 q=>?_;cases f with
 |next=>obtain⟨a,c,d,q⟩:=q;exact h2 ap s1 a c D d q
 |ret v=>exact q|brk=>exact q|cont=>exact q
def aQs:TS:=λD Z H=>D.bk Z H
def aQt:TS:=λD Z H=>D.ct Z H
def aGo:PS X (.Pass pos) LB:=λ_ _ a H _ I h=>wpAny_Pass ⟨a,H,I,h⟩
def aGf:PS X (.Break pos) aQs:=λ_ _ a H _ I h=>wpAny_Break ⟨a,H,I,h⟩
def aGg:PS X (.Continue pos) aQt:=λ_ _ a H _ I h=>wpAny_Continue ⟨a,H,I,h⟩
def D3.quiet(I:'&'):interactive X.env=aJ:=by simp[interactive,I.ok.kind]
def aQw(te:TE):TS:=λD Z H=>te Z H λ_ H1=>D.nx Z H1
def aGh(he:PE X e te)(hs:xF e aD pos.line X.env=pure aJ:=by rfl):PS X (.Expr e pos) (aQw te):=by intro ap s a H D I h;exact wpAny_Expr_any (bG (he ap s a H _ I h) λv s1 ⟨x,H1,b,d,c⟩=>⟨a,H1,b,c⟩) I.quiet hs
def aRj(te:TE):TS:=λD Z H=>te Z H D.rt
def aGp(he:PE X e te):PS X (.Return (aA e) pos) (aRj te):=by intro ap s a H D I h;exact wpAny_Return_some<|bG (he ap s a H _ I h) λv s1 ⟨x,H1,b,c,d⟩=>⟨x,a,H1,b,c,d⟩
def aRk:TS:=λD _ H=>D.rt .aG H
def aGq:PS X (.Return aD pos) aRk:=λ_ _ a H _ I h=>wpAny_Return_none ⟨.aG,a,H,I,rfl,h⟩
def aRa(c:TT)(t u:TS):TS:=λD Z H=>c Z H λb H1=>if b=aB then t D Z H1 else u D Z H1
def aGl{a b:AN}(hc:PT X c tc)(ha:sX X a t)(hb:sX X b u):PS X (.If c a b pos) (aRa tc t u):=by
 intro ap s e H D I h;refine wpAny_If<|bG (hc ap s e H _ I h) λd s1 ⟨H1,f,g⟩=>?_;cases d with
 |true=>exact ha ap s1 e H1 D f g|false=>exact hb ap s1 e H1 D f g
def aRc:TS:=λ_ _ _=>False
def aGm:PS X st aRc:=λ_ _ _ _ _ _ h=>h.elim
end
abbrev TG:=V->St->Hp->(St->Hp->Prop)->Prop
abbrev az:=AJ->St->Hp->(St->Hp->Prop)->Prop
def PG(X:Cx)(target:aI)(t:TG):Prop:=
 ∀(ap:'7') (s:aK) (Z:St) (H:Hp) (v:V) (u:Value) (Q:St->Hp->Prop),'&'->D6 v u->t v Z H Q ->
  aT '1' X.A (rg target X.env u) (λ_ s'=>∃Z' H',D3 X ap Z' H' s'/\Q Z' H') X.xe s
def sh(X:Cx)(ts:List aI)(t:az):Prop:=
 ∀(ap:'7') (s:aK) (Z:St) (H:Hp) (vs:AJ) (us:'2') (Q:St->Hp->Prop),'&'->D5 vs us->t vs Z H Q ->
  aT '1' X.A (Vc ((zW ts X.env).map (·.2)) us) (λ_ s'=>∃Z' H',D3 X ap Z' H' s'/\Q Z' H') X.xe s
abbrev Ii:=V->V->V->Hp->(Hp->Prop)->Prop
def Ie(X:Cx)(t:Ii):Prop:=
 ∀(ap:'7') (s:aK) (Z:St) (H:Hp) (o i v:V) (ov iv u:Value) (Q:Hp->Prop),'&'->D6 o ov->D6 i iv->D6 v u->t o i v H Q ->
  aT '1' X.A (setItem ov iv u) (λ_ s'=>∃H',D3 X ap Z H' s'/\Q H') X.xe s
abbrev Ad:=V->V->Hp->VK->Prop
def Aa(X:Cx)(op:pQ)(t:Ad):Prop:=
 ∀(ap:'7') (s:aK) (Z:St) (H:Hp) (x y:V) (v u:Value) (Q:VK),'&'->D6 x v->D6 y u->t x y H Q ->
  aT '1' X.A (Vi op v u) (EP X ap Z Q) X.xe s
def CJ(i:Nat):TG:=λv Z H Q=>Q (Z.set i<|aA v) H
def aEw(hN:X.N.Nodup)(hi:X.N[i]?=aA x)(hx:aq X.env.scope x)(hf:X.fn x=aB\/X.env.scope.names.lookup x=aA .local:=by first|exact .inl rfl|exact .inr rfl|assumption):PG X (.Name x pos) (CJ i):=by intro ap s b H v u Q I r h;exact RW<|oj I hN hi hx r (λc a=>⟨_,H,a,h⟩) hf
def N8:az:=λvs Z H Q=>vs=[]/\Q Z H
def N7(t:TG)(u:az):az:=λvs Z H Q=>∃v r,vs=v::r/\t v Z H λZ' H'=>u r Z' H' Q
def aFa:sh X [] N8:=by intro ap s a H b us Q I r h;obtain⟨e,h⟩:=h;subst e;exact RK ⟨a,H,I,h⟩
def aEz{t:TG}{u:az}(h1:PG X e t)(h2:sh X es u)
  (hs:autoParam ((zW (e::es) X.env).map (·.2)=rg e X.env::(zW es X.env).map (·.2)) aGh._auto_1):sh X (e::es) (N7 t u):=by
 intro ap s b H i us Q I r h;obtain⟨v,j,c,h⟩:=h;subst c;cases r with
 |cons r d=>rw[hs];exact Hl<|bG (h1 ap s b H _ _ _ I r h) λ_ s1 ⟨a,H1,f,g⟩=>h2 ap s1 a H1 _ _ Q f d g
def Br(to ti:TE)(t:Ii):TG:=λv Z H Q=>to Z H λo H1=>ti Z H1 λi H2=>t o i v H2 λH3=>Q Z H3
def aEy{o i:aI}{to ti:TE}{t:Ii}(ho:PE X o to)(hi:PE X i ti)(hs:Ie X t)
  (ha:∀v,rg (.Subscript o i pos) X.env v=(do
   let ov <- ze [v] (eval o X.env)
   let iv <- ze [v,ov] (eval i X.env)
   standAt pos
   ze [v,ov,iv] (setItem ov iv v)
   release [v,ov,iv] []):=by intro _;rfl):PG X (.Subscript o i pos) (Br to ti t):=by
 intro ap s a H v u Q I r h;refine aR<|jc<|bG (ho ap s a H _ I h) λov s1 b=>?_;obtain⟨x,H1,c,d,e⟩:=b;refine aR<|jc<|bG (hi ap s1 a H1 _ c e) λiv s2 b=>?_;obtain⟨y,f,g,j,k⟩:=b;exact aR<|zo<|aR<|jc<|bG (hs ap s2 a f x y v ov iv u _ g d j r k) λ_ p ⟨l,m,n⟩=>wpAny_release ⟨a,l,m,n⟩
def KU(te:TE)(g:TG):TS:=λD Z H=>te Z H λx H1=>g x Z H1 D.nx
def aGd{tg:aI}{g:TG}(he:PE X e te)(hg:PG X tg g)(hs:autoParam (RU [tg] e pos.line X.env=pure aJ) aGh._auto_1)(hw:autoParam (rl [tg] e X.env=pure aD) aGh._auto_1)
  (h1:autoParam ((zW [tg] X.env).map (·.2)=[rg tg X.env]) aGh._auto_1):PS X (.Assign [tg] e pos) (KU te g):=by
 intro ap s a H D I h;refine wpAny_Assign_stores (bG (he ap s a H _ I h) λv s1 ⟨x,H1,b,c,d⟩=>?_) hs hw;rw[h1];exact bG (hg ap s1 a H1 x v _ b c d) λ_ s2 q=>q
def aQq(i:Nat)(te:TE)(ti:Ad):TS:=λD Z H=>∃x,Z[i]?=aA (aA x)/\te Z H λy H1=>ti x y H1 λz H2=>D.nx (Z.set i<|aA z) H2
def aGe{op:pQ}{ti:Ad}(hN:X.N.Nodup)(hi:X.N[i]?=aA x)(hx:aq X.env.scope x)(he:PE X e te)(ho:Aa X op ti)(hf:X.fn x=aB\/X.env.scope.names.lookup x=aA .local:=by first|exact .inl rfl|exact .inr rfl|assumption) :
  PS X (.AugAssign (.Name x pos') op e pos) (aQq i te ti):=by
 intro ap s j H D I h;obtain⟨v,n,h⟩:=h;obtain⟨m,hn,hl⟩:=I.loc;have f:Ag X.env.scope x:=by rcases hx with k|k;exact .inl k;exact .inr<|.inl k
 obtain⟨u,r,l⟩:=hl i x v hi n f;refine wpAny_AugAssign_Name ?_;have go:aT '1' X.A (eval e X.env) (λw b=>aT '1' X.A (Vi op u w) (λr d=>aT '1' X.A (Vp X.env x r) (λ_=>SP X ap D .next) X.xe d) X.xe b) X.xe s:=by refine bG (he ap s j H _ I h) λw s1 g=>?_;obtain⟨y,H1,o,p,q⟩:=g;refine bG (ho ap s1 j H1 v y u w _ o r p q) λz s2 g=>?_;obtain⟨G,t,A,B,C⟩:=g;exact oj A hN hi hx B (λJ E=>⟨_,t,E,C⟩) hf
 rcases l with⟨hk,hm⟩|⟨hk,c,F,a⟩
 .exact SD I.ok.kind hk hn hm go
 .rcases hk with hk|hk
  .exact SA I.ok.kind hk F a go
  .rcases hx with k|k
   .have:X.env.scope.names.lookup x=aA .free:=hk;rw[k]at this;cases this
   .have:X.env.scope.names.lookup x=aA .free:=hk;rw[k]at this;cases this
def Ln(f:Int->Int->Int):Ad:=λx y H Q=>∃i j,x = .int i/\y = .int j/\Q (.int<|f i j) H
def U1:Aa X .Add (Ln λi j=>i+j):=by intro ap s Z H x y v u Q I r1 r2 h;obtain⟨i,j,e1,e2,q⟩:=h;subst e1;subst e2;obtain⟨t,rfl⟩:=r1;obtain⟨t',rfl⟩:=r2;exact iadd_int ⟨.int _,H,I.tok _,⟨_,rfl⟩,q⟩
def U2:Aa X .Sub (Ln λi j=>i-j):=by intro ap s Z H x y v u Q I r1 r2 h;obtain⟨i,j,e1,e2,q⟩:=h;subst e1;subst e2;obtain⟨t,rfl⟩:=r1;obtain⟨t',rfl⟩:=r2;exact isub_int ⟨.int _,H,I.tok _,⟨_,rfl⟩,q⟩
def aRo(c:TT)(tb:TS):TS:=λD Z H=>∃W:Nat->St->Hp->Prop,(∃m,W m Z H)/\∀m Z H,W m Z H ->
 c Z H λb H1=>if b=aB then∃N:St->Hp->Prop,(∀Z' H',N Z' H'->∃m',m'<m/\W m' Z' H')/\tb { D with nx:=N,ct:=N,bk:=D.nx } Z H1 else D.nx Z H1
def aGt{tb:TS}(hp:yv '1' X.A X.env X.xe)(hc:PT X c tc)(hb:sX X body tb):PS X (.While c body [] pos) (aRo tc tb):=by
 intro ap s t H D I h;obtain⟨W,⟨m0,w0⟩,turn⟩:=h;refine wpAny_While<|codeAny_whileLoop (λn u=>∃e o,D3 X ap e o u/\W n e o) ?_ m0 ⟨t,H,I,w0⟩;rintro n s1 ⟨d,H1,w,w1⟩
 refine je hp<|bG (hc ap s1 d H1 _ w<|turn n d H1 w1) λb s2 ⟨p,q,i⟩=>?_;cases b with
 |true=>
  obtain⟨N,r,i⟩:=i;refine je hp<|bG (hb ap s2 d p _ q i) λf x j=>?_;cases f with
  |next=>obtain⟨a,g,k,l⟩:=j;obtain⟨m,hm,w3⟩:=r a g l;exact⟨m,hm,a,g,k,w3⟩
  |cont=>obtain⟨a,g,k,l⟩:=j;obtain⟨m,hm,w3⟩:=r a g l;exact⟨m,hm,a,g,k,w3⟩
  |brk=>exact j|ret v=>exact j
 |false=>exact Vu ⟨d,p,q,i⟩
structure It where
 go:Nat->Hp->Prop
 yf:Nat->Hp->V->Hp->Prop
 stop:Nat->Hp->Prop
def kJ(X:Cx)(ap:'7')(H:Hp)(b:Addr):Prop:=
 H b=aD/\b≠X.env.locals/\b∉X.fs/\(b∈X.ex\/X.s₀.heap.objs.size<=b)/\(∀x c,X.env.cells.lookup x=aA c->c≠b)/\∀p∈X.pn++ap,p.1≠b
def D3.xZ(I:'&')(hb:s.heap.objs.size<=b)(hn:H' b=aD):kJ X ap H' b:=by
 refine⟨hn,oO (bE I.lt hb),I.aBi hb,.inr (dF I.sz hb),λx c e z=>?_,λp a z=>?_⟩
 .obtain⟨v,q⟩:=I.cell x c e;exact absurd (bE q.lt (by left))<|nQ _
 .exact absurd (bE (dG (I.pin p a).1) (by left))<|nQ _
structure F5(P:cC)(w:bV)(K:bN)(tg:aI)(J:It)(fp:AI)(it:Addr)(tn:Nat->bK->Prop):Prop where
 mem:it∈fp
 obj:∀i h,tn i h->∀b∈fp,∃o,h.get? b=aA o/\∀v,o.data ≠ .cell v
 D7:∀i h h',tn i h->(∀b∈fp,∀o,h.get? b=aA o->h'.get? b=aA o)->tn i h'
 item:∀(X:Cx),X.prog=P->X.w=w->X.K=K->X.calm=aB->∀(i:Nat) (ap:'7') (s:aK) (Z:St) (H:Hp) (E:Value->aK->Prop),'&'->(∀b∈fp,kJ X ap H b)->tn i s.heap->J.go i H ->
  aT (aZ P w) X.A (xE<|.ref it) (λr s1=>∃u,r=aA u /\
   aT (aZ P w) X.A (Vj tg (.ref it) u) (λ_ s2=>∃x H',D3 X ap Z H' s2/\D6 x u/\J.yf i H x H'/\tn (i+1) s2.heap/\∀b∈fp,H' b=aD) E s1) E s
 done:∀(X:Cx),X.prog=P->X.w=w->X.K=K->X.calm=aB->∀(i:Nat) (ap:'7') (s:aK) (Z:St) (H:Hp) (E:Value->aK->Prop),'&'->(∀b∈fp,kJ X ap H b)->tn i s.heap->J.stop i H ->
  aT (aZ P w) X.A (xE<|.ref it) (λr s1=>r=aD/\D3 X ap Z H s1) E s
 self:∀(A:cM) (i:Nat) (s:aK) (Q:Value->aK->Prop) (E:Value->aK->Prop),tn i s.heap->Q (.ref it) s->aT (aZ P w) A (zg<|.ref it) Q E s
abbrev TI:=St->Hp->(It->Hp->Prop)->Prop
def Wn(X:Cx)(ap:'7')(Z:St)(tg:aI)(R:It->Hp->Prop)(itv:Value)(s2:aK):Prop:=
 ∃(it:Addr) (fp:AI) (tn:Nat->bK->Prop) (J:It) (H':Hp),itv = .ref it/\D3 X ap Z H' s2/\F5 X.prog X.w X.K tg J fp it tn/\tn 0 s2.heap/\(∀b∈fp,kJ X ap H' b)/\R J H'
def PI(X:Cx)(tg iter:aI)(wi:TI):Prop:=
 ∀(ap:'7') (s:aK) (Z:St) (H:Hp) (R:It->Hp->Prop),'&'->wi Z H R ->
  aT '1' X.A (eval iter X.env) (λv s1=>aT '1' X.A (zg v) (Wn X ap Z tg R) X.xe s1) X.xe s
def Bv{M:Model}{tg:aI}{o:Obj}{n:String}{vs:AR}{Q:Unit->aK->Prop}(ho:s.heap.get? it=aA o)(hc:o.cls = .type n)(hd:o.data = .fields vs)
    (hn:["enumerate","zip","dict_itemiterator","dict_reverseitemiterator","odict_iterator","itertools.zip_longest","itertools.pairwise"].contains n=aJ)(hQ:Q () s):aT M A (Vj tg (.ref it) u) Q E s:=by
  cases tg<;>first
    |exact cH hQ
    | (cases u<;>first
        |exact cH hQ
        | (refine aR (wpAny_load ho ?_)
           rw[hc,hd];show aT M A (if(["enumerate","zip","dict_itemiterator","dict_reverseitemiterator","odict_iterator","itertools.zip_longest","itertools.pairwise"].contains n&&vs[0]?==aA (ag _))=aB then _ else _) Q E s;rw[if_neg (by intro h;rw[hn]at h;cases h)];exact cH hQ))
def SM(K:bN)(a:Addr):It:=
 ⟨λi H=>∃xs x,eB K H a xs/\xs[i]?=aA x,λi H x H'=>H'=H/\∀xs,eB K H a xs->xs[i]?=aA x,λi H=>∃xs,eB K H a xs/\B3 xs<=i⟩
def SN(K:bN)(a:Addr):It:=
 ⟨λi H=>∃xs x,fU K H a xs/\xs[i]?=aA x,λi H x H'=>H'=H/\∀xs,fU K H a xs->xs[i]?=aA x,λi H=>∃xs,fU K H a xs/\B3 xs<=i⟩
def zw(lo:Int)(n:Nat):It:=⟨λi _=>i<n,λi H x H'=>H'=H/\x = .int (lo+i),λi _=>n<=i⟩
def aSo{K:bN}{tg:aI}(a it:Addr):F5 P w K tg (SM K a) [it] it (λi h=>h.IsListIter it a i) where
 mem:=by simp
 obj:=λi h st b hb=>by
  have e:b=it:=by left
  subst e;obtain⟨o,e,c,d⟩:=st;exact⟨o,e,λv z=>by grind⟩
 D7:=λi h g st k=>st.at λo e=>k it (by simp) o e
 item:=by intro X m hw n C i ap s D H E I j st q;subst m hw n;obtain⟨xs,x,l,r⟩:=q;obtain⟨t,y,p,F⟩:=I.list l;obtain⟨u,N,G⟩:=y.get r;obtain⟨f0,f1,f2,A,f4,B⟩:=j it (by simp);refine wpAny_pyNext_list_item st p.isList (x:=u) (by left) λg f sb=>?_;have J:=I.turned (t':=s.toks) (λb o hb e=>(sb.2 b hb).trans e) f0 f1 A f4 B;obtain⟨o,e,c,d⟩:=id f;exact⟨u,rfl,Bv (s:={ s with heap:=g }) e c d '#' ⟨x,H,J,G,⟨rfl,λO L=>by rw[I.ES L l];exact r⟩,f,λb hb=>(j b hb).1⟩⟩
 done:=by intro X m hw n C i ap s D H E I j st q;subst m hw n;obtain⟨xs,l,r⟩:=q;obtain⟨t,y,p,F⟩:=I.list l;obtain⟨f0,f1,f2,A,f4,B⟩:=j it (by simp);have hl:=y.length;exact SK (I.ok.hd C) st p.isList (by simp;lia) λg M=>⟨rfl,I.turned (t':=s.toks) (λb o hb e=>M b o hb e) f0 f1 A f4 B⟩
 self:=λ_ _ _ _ _ st h=>wpAny_pyIter_listiter st h
def aSr{K:bN}{tg:aI}(a it:Addr):F5 P w K tg (SN K a) [it] it (λi h=>h.IsTupleIter it a i) where
 mem:=by simp
 obj:=λi h st b hb=>by
  have e:b=it:=by left
  subst e;obtain⟨o,e,c,d⟩:=st;exact⟨o,e,λv z=>by grind⟩
 D7:=λi h j st k=>st.at λo e=>k it (by simp) o e
 item:=by intro X n hw q C i ap s D H E I l st r;subst n hw q;obtain⟨xs,x,m,t⟩:=r;obtain⟨f,y,p,F⟩:=I.tuple m;obtain⟨u,N,G⟩:=y.get t;obtain⟨f0,f1,f2,A,f4,B⟩:=l it (by simp);refine wpAny_pyNext_tuple_item st (show s.heap.IsTuple a f.toArray from p) (x:=u) (by left) λj g sb=>?_;have J:=I.turned (t':=s.toks) (λb o hb e=>(sb.2 b hb).trans e) f0 f1 A f4 B;obtain⟨o,e,c,d⟩:=id g;exact⟨u,rfl,Bv (s:={ s with heap:=j }) e c d '#' ⟨x,H,J,G,⟨rfl,λO L=>by rw[I.LR L m];exact t⟩,g,λb hb=>(l b hb).1⟩⟩
 done:=by intro X n hw q C i ap s D H E I l st r;subst n hw q;obtain⟨xs,m,t⟩:=r;obtain⟨f,y,p,F⟩:=I.tuple m;obtain⟨f0,f1,f2,A,f4,B⟩:=l it (by simp);have hl:=y.length;exact wpAny_pyNext_tuple_end (I.ok.hd C) st (show s.heap.IsTuple a f.toArray from p) (by simp;omega) λj M=>⟨rfl,I.turned (t':=s.toks) (λb o hb e=>M b o hb e) f0 f1 A f4 B⟩
 self:=λ_ _ _ _ _ st h=>wpAny_pyIter_tupleiter st h
def aSp{K:bN}{tg:aI}(it:Addr)(lo:Int)(n:Nat):F5 P w K tg (zw lo n) [it] it (λi h=>IsRangeIter h it (lo+(i:Nat)*1) ((n:Int)-(i:Nat)) 1) where
 mem:=by simp
 obj:=λi h st b hb=>by left
 D7:=λi h d st k=>k it (by simp) _ st
 item:=by intro X m hw p f i ap s q H E I c st g;subst m hw p;obtain⟨f0,f1,f2,j,f4,l⟩:=c it (by simp);refine(Walks.range (prog:=X.prog) (w:=X.w) (I.ok.hd f) it lo 1 n).item i s _ _ g st λv d tk r a u=>?_;obtain⟨t,rfl⟩:=r;have x:D3 X ap q H { s with heap:=d,toks:=tk }:=I.turned (λb o hb e=>u b o (by left) e) f0 f1 j f4 l;refine⟨_,rfl,Bv a rfl rfl (rfl) ⟨.int (lo+i),H,x,⟨t,?_⟩,⟨rfl,rfl⟩,a,λb hb=>(c b hb).1⟩⟩;rw[Int.mul_one]
 done:=by intro X m hw p f i ap s q H E I c st g;obtain⟨f0,f1,f2,j,f4,l⟩:=c it (by simp);exact wpAny_pyNext_range_end (I.ok.hd f) st (by have:n<=i:=g;lia) λd y=>⟨rfl,I.turned (λb o hb e=>y b o hb e) f0 f1 j f4 l⟩
 self:=λ_ _ _ _ _ st h=>wpAny_pyIter_rangeiter st h
section
variable {tg:aI}
def aNn{R:It->Hp->Prop}{lo hi:Int}{t u v:Tok}{tk:Nat}(I:'&')(h1:-(2 ^ 62)<=lo)(h2:lo<2 ^ 62)(h3:-(2 ^ 62)<=hi)(h4:hi<2 ^ 62)
  (q:R (zw lo (hi-lo).toNat) H):aT '1' X.A (zg<|.ref s.heap.objs.size) (Wn X ap Z tg R) E { s with heap:='M',toks:=tk }:=by
 refine wpAny_pyIter_range (IsRange.new ..) (small_one h1 h2 h3 h4) ?_;have a:D3 X ap Z H { s with heap:='M',toks:=tk }:=I.E6 λb o e=>cX _ e;refine⟨'M'.objs.size,['M'.objs.size],_,_,H,rfl,
  a.E6 λb o e=>cX _ e,aSp _ lo (hi-lo).toNat,?_,λb hb=>?_,q⟩
 .have c:lo+((0:Nat):Int)*1=lo:=by simp
  have d:(((hi-lo).toNat:Nat):Int)-((0:Nat):Int)=Builtin.Range.rangeSize lo hi 1:=by grind [rangeSize_one]
  rw[c,d];exact gS _ rfl
 .have e:b='M'.objs.size:=by simpa using hb
  subst e;exact a.xZ (aW _)<|a.bB.fresh<|aW _
def S5(ta:TA):TI:=λZ H R=>ta Z H λvs H1=>∃j:Int,vs=[.int j]/\-(2 ^ 62)<=j/\j<2 ^ 62/\R (zw 0 j.toNat) H1
def aFd{a:aI}{ta:TA}(hg:Gl X "range")(hm:X.mg "range"=aD)(ha:PA X [a] ta)(hs:autoParam (eS [a] X.env=[(aJ,eval a X.env)]) aGh._auto_1):PI X tg (.Call (.Name "range" p) [a] [] pos) (S5 ta):=by
 intro ap s c H R I h;refine Call_<|fc I hg hm boot_range<|Hd (bG (ha pos ap s c H _ I h) λus s1 ⟨k,H1,d,f,b⟩=>?_) hs rfl;obtain⟨j,e,b,g,q⟩:=b;subst e;cases f with
 |cons r i=>cases i;obtain⟨t,rfl⟩:=r;exact call_range_1<|aNn d '#' (by lia) b g (by simpa)
def aQy(wi:TI)(g:TG)(tb:TS):TS:=λD σ H=>wi σ H λJ H1=>∃W:Nat->Nat->St->Hp->Prop,(∃m,W 0 m σ H1)/\∀i m σ H,W i m σ H ->
 (J.stop i H/\D.nx σ H)\/(J.go i H/\∃N:St->Hp->Prop,(∀σ' H',N σ' H'->∃m',m'<m/\W (i+1) m' σ' H')/\∀x H',J.yf i H x H'->g x σ H' λσ2 H2=>tb { D with nx:=N,ct:=N,bk:=D.nx } σ2 H2)
def Dr(fp:AI)(h:bK):'7':=fp.filterMap λb=>(h.get? b).map λo=>(b,o)
def Cy{o:Obj}(hb:b∈fp)(e:h.get? b=aA o):(b,o)∈Dr fp h:=j'.2 ⟨b,hb,by rw[e];rfl⟩
def FY{p:Addr×Obj}(hp:p∈Dr fp h):p.1∈fp/\h.get? p.1=aA p.2:=by
 obtain⟨b,hb,e⟩:=j'.1 hp;cases q:h.get? b with
 |none=>left|some o=>rw[q]at e;have a:=cR e;subst a;exact⟨hb,q⟩
def D3.pinned(I:'&')(hf:∀b∈fp,kJ X ap H b)(ho:∀b∈fp,∃o,s.heap.get? b=aA o/\∀v,o.data ≠ .cell v):D3 X (ap++Dr fp s.heap) Z H s:=
 I.mn λp c=>(eh.1 c).elim (λz=>I.pin p (hJ _ z)) λz=>by obtain⟨hb,e⟩:=FY z;obtain⟨f0,f1,f2,_⟩:=hf p.1 hb;obtain⟨o,a,d⟩:=ho p.1 hb;rw[e]at a;cases a;exact⟨e,f0,f1,f2,d⟩
def D3.Fc{pl:'7'}(I:D3 X (ap++pl) Z H s):'&':=I.mn λp a=>I.pin p (hJ _<|uM _ a)
def aGk{iter:aI}{wi:TI}{g:TG}{tb:TS}(hp:yv '1' X.A X.env X.xe)(hc:X.calm=aB)(hi:PI X tg iter wi)(hg:PG X tg g)(hb:sX X body tb)
  (hs:∀x,Hn iter X.env x=pure x:=by intro _;rfl):PS X (.For tg iter body [] pos) (aQy wi g tb):=by
 intro ap s L H D I h;refine wpAny_For (bG (hi ap s L H _ I h) λv s1 U=>bG U λV s2 Y=>?_) hs;obtain⟨it,w,tn,J,Z,e,I2,T,C,f2,W,⟨m0,w0⟩,turn⟩:=Y;subst e;have fX:∀{p:Hp},(∀b∈w,p b=aD)->∀b∈w,kJ X ap p b:=λhn b hb=>⟨hn b hb,(f2 b hb).2⟩;refine codeAny_forLoop_any (λn O=>∃i c p,D3 X ap c p O/\tn i O.heap/\(∀b∈w,p b=aD)/\W i n c p) ?_ m0 ⟨0,L,Z,I2,C,λb hb=>(f2 b hb).1,w0⟩;rintro n P ⟨i,j,B,Q,y,z,w3⟩
 rcases turn i n j B w3 with⟨stop,qn⟩|⟨go,N,hN,step⟩
 .refine je hp<|bG (T.done X rfl rfl rfl hc i ap P j B X.xe Q (fX z) y stop) λr s4 ⟨hr,I4⟩=>?_;subst hr;exact Vu ⟨j,B,I4,qn⟩
 .refine je hp<|bG (T.item X rfl rfl rfl hc i ap P j B X.xe Q (fX z) y go) λr s4 ⟨u,hr,h4⟩=>?_;subst hr;refine je hp<|bG h4 λ_ R zq=>?_;obtain⟨x,S,I5,r5,y5,t,F⟩:=zq;refine je hp<|bG (hg _ R j S x u _ (I5.pinned (fX F)<|T.obj _ _ t) r5<|step x S y5) λ_ s6 ⟨G,H6,I6,q6⟩=>?_;refine je hp<|bG (hb _ s6 G H6 _ I6 q6) λf K q=>?_;have again:∀{a:St}{k:Hp},D3 X (ap++Dr w R.heap) a k K->N a k->∃m,m<n/\∃i c p,D3 X ap c p K/\tn i K.heap/\(∀b∈w,p b=aD)/\W i m c p:=λ{a k} l A=>by obtain⟨m',hm,w7⟩:=hN a k A;refine⟨m',hm,i+1,a,k,l.Fc,T.D7 _ _ _ t λb hb o e=>(l.pin (b,o)<|hJ _<|hJ _<|Cy hb e).1,λb hb=>?_,w7⟩;obtain⟨o,e,d⟩:=T.obj _ _ t b hb;exact(l.pin (b,o)<|hJ _<|hJ _<|Cy hb e).2.1
  cases f with
  |next=>obtain⟨a,k,l,A⟩:=q;exact again l A|cont=>obtain⟨a,k,l,A⟩:=q;exact again l A|brk=>obtain⟨a,k,l,q⟩:=q;exact⟨a,k,l.Fc,q⟩|ret v=>obtain⟨x7,a,k,l,r7,q⟩:=q;exact⟨x7,a,k,l.Fc,r7,q⟩
end
abbrev R2:=V->V->Hp->VK->Prop
variable {r r':R2}
def cY(X:Cx)(f:Value->Value->Sem Value)(r:R2):Prop:=
 ∀(ap:'7') (s:aK) (Z:St) (H:Hp) (x y:V) (v u:Value) (Q:VK),'&'->D6 x v->D6 y u->r x y H Q ->
  aT '1' X.A (f v u) (EP X ap Z Q) X.xe s
def Af(X:Cx)(f:Value->Sem Value)(r:V->Hp->VK->Prop):Prop:=
 ∀(ap:'7') (s:aK) (Z:St) (H:Hp) (x:V) (v:Value) (Q:VK),'&'->D6 x v->r x H Q ->
  aT '1' X.A (f v) (EP X ap Z Q) X.xe s
def kI(X:Cx)(f:Value)(r:AJ->Hp->VK->Prop):Prop:=
 ∀(ap:'7') (s:aK) (Z:St) (H:Hp) (xs:AJ) (us:'2') (Q:VK),'&'->D5 xs us->r xs H Q ->
  aT '1' X.A (call f us) (EP X ap Z Q) X.xe s
def Eu(r:R2)(ta tb:TE):TE:=λZ H Q=>ta Z H λx H1=>tb Z H1 λy H2=>r x y H2 Q
def tUn(r:V->Hp->VK->Prop)(ta:TE):TE:=λZ H Q=>ta Z H λx H1=>r x H1 Q
def rI(C:Int->Int->Prop)(g:Int->Int->V):R2:=λx y H Q=>∃i j,x = .int i/\y = .int j/\C i j/\Q (g i j) H
def pK(g:Int->Int->V):R2:=λx y H Q=>∃i j,x = .int i/\y = .int j/\Q (g i j) H
def rU(g:Int->V):V->Hp->VK->Prop:=λx H Q=>∃i,x = .int i/\Q (g i) H
section
variable {a b:aI}{ta tc:TE}
def Ip(ha:PE X a ta)(hb:PE X b tb){R:V->V->Hp->Prop}(I:'&')
  (h:ta Z H λx H1=>tb Z H1 λy H2=>R x y H2){f:Value->Value->Sem Value}
  (hf:∀v u s2 x y H2,D3 X ap Z H2 s2->D6 x v->D6 y u->R x y H2->aT '1' X.A (f v u) Q X.xe s2) :
  aT '1' X.A (eval a X.env) (λv s₁=>aT '1' X.A (eval b X.env) (λu s₂=>aT '1' X.A (f v u) Q X.xe s₂) X.xe s₁) X.xe s:=by
 refine bG (ha ap s Z H _ I h) λv s1 ⟨x,H1,c,d,e⟩=>?_;exact bG (hb ap s1 Z H1 _ c e) λu s2 ⟨y,H2,g,i,j⟩=>hf v u s2 x y H2 g d i j
def aEp{op:pQ}(ho:cY X (fL op) r)(ha:PE X a ta)(hb:PE X b tb):PE X (.BinOp a op b pos) (Eu r ta tb):=by intro ap s c H Q I h;exact wpAny_BinOp<|Ip ha hb I h λv u s2 x y d e f g q=>ho ap s2 c d x y v u Q e f g q
def aEu{op:UnaryOp}{r:V->Hp->VK->Prop}(ho:Af X (Hr op) r)(ha:PE X a ta):PE X (.UnaryOp op a pos) (tUn r ta):=by intro ap s b H Q I h;exact UnaryOp_<|bG (ha ap s b H _ I h) λv s1 ⟨x,H1,c,d,e⟩=>ho ap s1 b H1 x v Q c d e
def mj{f:Value->Value->Sem Value}{C:Int->Int->Prop}{g:Int->Int->Int}
  (rule:∀(i j:Int) (t u:Tok) (s:aK) (Q:Value->aK->Prop) (E:Value->aK->Prop),C i j->Q (.int (g i j) s.toks) { s with toks:=s.toks+1 }->aT '1' X.A (f (.int i t)<|.int j u) Q E s) :
  cY X f (rI C λi j=>.int (g i j)):=by
 intro ap s e H x y v u Q I a b h;obtain⟨i,j,rfl,rfl,c,q⟩:=h;obtain⟨t,rfl⟩:=a;obtain⟨d,rfl⟩:=b;exact rule i j t d s _ _ c ⟨.int (g i j),H,I.tok _,⟨_,rfl⟩,q⟩
def wj{f:Value->Value->Sem Value}{g:Int->Int->Int}
  (rule:∀(i j:Int) (t u:Tok) (s:aK) (Q:Value->aK->Prop) (E:Value->aK->Prop),Q (.int (g i j) s.toks) { s with toks:=s.toks+1 }->aT '1' X.A (f (.int i t)<|.int j u) Q E s) :
  cY X f (pK λi j=>.int (g i j)):=by
 intro ap s d H x y v u Q I a b h;obtain⟨i,j,rfl,rfl,q⟩:=h;obtain⟨t,rfl⟩:=a;obtain⟨c,rfl⟩:=b;exact rule i j t c s _ _ ⟨.int (g i j),H,I.tok _,⟨_,rfl⟩,q⟩
def Dl{f:Value->Value->Sem Value}{g:Int->Int->Bool}
  (rule:∀(i j:Int) (t u:Tok) (s:aK) (Q:Value->aK->Prop) (E:Value->aK->Prop),Q (.bool<|g i j) s->aT '1' X.A (f (.int i t)<|.int j u) Q E s) :
  cY X f (pK λi j=>.bl (g i j)):=by
 intro ap s d H x y v u Q I a b h;obtain⟨i,j,rfl,rfl,q⟩:=h;obtain⟨t,rfl⟩:=a;obtain⟨c,rfl⟩:=b;exact rule i j t c s _ _ ⟨.bl (g i j),H,I,rfl,q⟩
def Hv(i j:Int):Prop:=0<=j/\j<=1000000/\i.natAbs<2 ^ 64
def aSv(k:Nat):(0:Int)<=2 ^ k:=by exact gy _
def aBr:cY X (fL .Add) (pK λi j=>.int (i+j)):=wj λ_ _ _ _ _ _ _ q=>add_int q
def aCs:cY X (fL .Sub) (pK λi j=>.int (i-j)):=wj λ_ _ _ _ _ _ _ q=>sub_int q
def aCg:cY X (fL .Mod) (rI (λ_ j=>0<j) λi j=>.int (i%j)):=mj λi j _ _ _ _ _ a q=>by have b:=a;exact mod_int' (by lia) (by rw[NT i (by lia)];exact q)
def aCo:cY X (fL .Pow) (rI Hv λi j=>.int (i ^ j.toNat)):=mj λ_ _ _ _ _ _ _ hc q=>pow_int_small hc.1 hc.2.1 hc.2.2 q
def aCq:cY X (fL .LShift) (rI Hv λi j=>.int (i*2 ^ j.toNat)):=mj λ_ _ _ _ _ _ _ a q=>lshift_int_small a.1 a.2.1 a.2.2 q
def aCr:cY X (fL .RShift) (rI (λ_ j=>0<=j) λi j=>.int (i / 2 ^ j.toNat)):=mj λi j _ _ _ _ _ a q=>rshift_int a (by rw[Sq i (aSv _)];exact q)
def aBs:cY X (fL .BitAnd) (pK λi j=>.int (kX i j)):=wj λ_ _ _ _ _ _ _ q=>and_int q
def aCn:cY X (fL .BitOr) (pK λi j=>.int (nL i j)):=wj λ_ _ _ _ _ _ _ q=>or_int q
def aCt:cY X (fL .BitXor) (pK λi j=>.int (nM i j)):=wj λ_ _ _ _ _ _ _ q=>xor_int q
def unI{f:Value->Sem Value}{g:Int->Int}
  (rule:∀(i:Int) (t:Tok) (s:aK) (Q:Value->aK->Prop) (E:Value->aK->Prop),Q (.int (g i) s.toks) { s with toks:=s.toks+1 }->aT '1' X.A (f<|.int i t) Q E s) :
  Af X f (rU λi=>.int (g i)):=by
 intro ap s b H x v Q I a h;obtain⟨i,rfl,q⟩:=h;obtain⟨t,rfl⟩:=a;exact rule i t s _ _ ⟨.int (g i),H,I.tok _,⟨_,rfl⟩,q⟩
def aSw:Af X (Hr .USub) (rU λi=>.int (-i)):=unI λ_ _ _ _ _ q=>neg_int q
end
def Pq:V->V->Bool
 |.aG,.aG=>aB | .aG,.int _=>aB | .int _,.aG=>aB | .aG,.bl _=>aB | .bl _,.aG=>aB | .aG,.str _=>aB | .str _,.aG=>aB
 |.int _,.int _=>aB | .bl _,.bl _=>aB | .str _,.str _=>aB
 |.int _,.str _=>aB | .str _,.int _=>aB | .bl _,.str _=>aB | .str _,.bl _=>aB
 |_,_=>aJ
def JI(n:Bool):R2:=λx y H Q=>Pq x y=aB/\Q (.bl<|cond n (!decide (x=y))<|decide<|x=y) H
def Zl{i j:Int}:decide (V.int i=V.int j)=(i==j):=by rw[qf];simp
def Zj{i j:Bool}:decide (V.bl i=V.bl j)=(i==j):=by rw[qf];simp
def Zm{i j:Str}:decide (V.str i=V.str j)=(i==j):=by rw[qf];simp
section
variable {a b:aI}{ta tc:TE}
def eV{Q:VK}{k k':Bool}(I:'&')(q:Q (.bl k) H)(e:k=k'):EP X ap Z Q (.bool k') s:=by subst e;exact⟨.bl k,H,I,rfl,q⟩
def aBw(n:Bool):cY X (dM<|cond n .NotEq .Eq) (JI n):=by
 intro ap s d H x y v u Q I a b h;obtain⟨c,q⟩:=h;cases x with
 |aG=>
  cases a;cases y with
  |aG=>cases b;cases n;exact aXw<|eV I q (by simp);exact aYd<|eV I q rfl|bl j=>cases b;cases n;exact aXu<|eV I q (by simp);exact aYb<|eV I q rfl|int j=>obtain⟨r,rfl⟩:=b;cases n;exact aXv<|eV I q (by simp);exact aYc<|eV I q rfl|str j=>obtain⟨r,rfl⟩:=b;cases n;exact aXx<|eV I q (by simp);exact aYe<|eV I q (by simp)|_=>exact absurd c iA
 |bl i=>
  cases a;cases y with
  |aG=>cases b;cases n;exact aXs<|eV I q (by simp);exact aXz<|eV I q rfl|bl j=>cases b;cases n;exact eq_bool<|eV I q Zj;exact ne_bool<|eV I q<|congrArg not Zj|str j=>obtain⟨r,rfl⟩:=b;cases n;exact aXk<|eV I q (by simp);exact aXo<|eV I q rfl|_=>exact absurd c iA
 |int i=>
  obtain⟨t,rfl⟩:=a;cases y with
  |aG=>cases b;cases n;exact aXt<|eV I q (by simp);exact aYa<|eV I q rfl|int j=>obtain⟨r,rfl⟩:=b;cases n;exact eq_int<|eV I q Zl;exact ne_int<|eV I q<|congrArg not Zl|str j=>obtain⟨r,rfl⟩:=b;cases n;exact aXl<|eV I q (by simp);exact aXp<|eV I q rfl|_=>exact absurd c iA
 |str i=>
  obtain⟨t,rfl⟩:=a;cases y with
  |aG=>cases b;cases n;exact aXy<|eV I q (by simp);exact aYf<|eV I q (by simp)|bl j=>cases b;cases n;exact aXm<|eV I q (by simp);exact aXq<|eV I q (by simp)|int j=>obtain⟨r,rfl⟩:=b;cases n;exact aXn<|eV I q (by simp);exact aXr<|eV I q (by simp)|str j=>obtain⟨r,rfl⟩:=b;cases n;exact eq_str<|eV I q Zm;exact ne_str<|eV I q<|congrArg not Zm|_=>exact absurd c iA
 |_=>cases y<;>exact absurd c iA
def aCf:cY X (dM .Lt) (pK λi j=>.bl (decide<|i<j)):=Dl λ_ _ _ _ _ _ _ q=>lt_int q
def aCe:cY X (dM .LtE) (pK λi j=>.bl (decide<|i<=j)):=Dl λ_ _ _ _ _ _ _ q=>le_int q
def aCa:cY X (dM .Gt) (pK λi j=>.bl (decide<|j<i)):=Dl λ_ _ _ _ _ _ _ q=>gt_int q
def aBz:cY X (dM .GtE) (pK λi j=>.bl (decide<|j<=i)):=Dl λ_ _ _ _ _ _ _ q=>ge_int q
def aCd(n:Bool):cY X (dM<|cond n .IsNot .Is) (λx y H Q=>y = .aG/\Q (.bl<|cond n (!decide (x = .aG))<|decide<|x = .aG) H):=by
 intro ap s c H x y v u Q I a b h;obtain⟨rfl,q⟩:=h;cases b;cases n;refine is_none_gen<|eV I q ?_;rotate_left;refine isnot_none_gen<|eV I q ?_;all_goals (cases x<;>first
  | (cases a;rfl)
  | (obtain⟨t,rfl⟩:=a;rfl))
def cY.or{f:Value->Value->Sem Value}(h:cY X f r)(h':cY X f r'):cY X f (λx y H Q=>r x y H Q\/r' x y H Q):=by
 intro ap s a H x y v u Q I b c q;rcases q with q|q
 .exact h ap s a H x y v u Q I b c q
 .exact h' ap s a H x y v u Q I b c q
def aDy{op:rD}(ho:cY X (dM op) r)(ha:PE X a ta)(hb:PE X b tb)(hm:zb op b=aJ):PE X (.Compare a [op] [b] pos) (Eu r ta tb):=by intro ap s c H Q I h;exact wpAny_Compare1 (Ip ha hb I h λv u s2 x y d e f g q=>ho ap s2 c d x y v u Q e f g q) hm
def LG(t:TE):TT:=λZ H Q=>t Z H λx H'=>∃k,x = .bl k/\Q k H'
def aGx{op:rD}(ho:cY X (dM op) r)(ha:PE X a ta)(hb:PE X b tb)(hm:zb op b=aJ):PT X (.Compare a [op] [b] pos) (LG<|Eu r ta tb):=by
 intro ap s d H Q I h;refine wpAny_isTrue_Compare1 (bG (ha ap s d H _ I h) λv s1 ⟨x,H1,f,g,i⟩=>bG (hb ap s1 d H1 _ f i) λu s2 ⟨y,j,l,m,n⟩=>bG (ho ap s2 d j x y v u _ l g m n) λc w ⟨z,o,p,q,k,e,t⟩=>?_) hm
 subst e;cases q;exact uR ⟨o,p,t⟩
def Qj(r r':R2)(ta tb tc:TE):TE:=λZ H Q=>ta Z H λx H1=>tb Z H1 λy H2=>r x y H2 λz H3=>∃k,z = .bl k /\
 (if k=aB then tc Z H3 λw' H4=>r' y w' H4 Q else Q (.bl aJ) H3)
def aDx{op:rD}(ho:cY X (dM op) r)(ho':cY X (dM op') r')(ha:PE X a ta)(hb:PE X b tb)(hc:PE X c tc)
  (hm:Hq [op,op'] [b,c]=aJ:=by with_unfolding_all rfl):PE X (.Compare a [op,op'] [b,c] pos) (Qj r r' ta tb tc):=by
 intro ap s f H Q I h;refine Compare_chain (bG (ha ap s f H _ I h) λv s1 ⟨x,H1,m,n,o⟩=>chain_link (bG (hb ap s1 f H1 _ m o) λu s2 ⟨y,p,q,g,t⟩=>bG (ho ap s2 f p x y v u _ q n g t) λd w ⟨z,i,j,A,k,e,l⟩=>?_)) hm
 subst e;cases A;refine uR ?_;cases k with
 |false=>exact ite_ff ⟨.bl aJ,i,j,rfl,l⟩|true=>exact ite_tt<|chain_last<|bG (hc ap w f i _ j l) λB C ⟨D,E,F,G,J⟩=>ho' ap C f E y D u B Q F g G J
def aGw{op:rD}(ho:cY X (dM op) r)(ho':cY X (dM op') r')(ha:PE X a ta)(hb:PE X b tb)(hc:PE X c tc)
  (hm:Hq [op,op'] [b,c]=aJ:=by with_unfolding_all rfl):PT X (.Compare a [op,op'] [b,c] pos) (LG<|Qj r r' ta tb tc):=by
 intro ap s f H Q I h;refine isTrue_chain (bG (ha ap s f H _ I h) λv s1 ⟨x,H1,m,n,o⟩=>test_link (bG (hb ap s1 f H1 _ m o) λu s2 ⟨y,p,q,g,t⟩=>bG (ho ap s2 f p x y v u _ q n g t) λd w ⟨z,i,j,A,k,e,l⟩=>?_)) hm
 subst e;cases A;refine uR ?_;cases k with
 |false=>obtain⟨S,B,C⟩:=l;cases B;exact ite_ff ⟨i,j,C⟩
 |true=>refine ite_tt<|test_last<|bG (hc ap w f i _ j l) λD E ⟨F,G,J,K,L⟩=>bG (ho' ap E f G y F u D _ J g K L) λT U ⟨V,M,N,O,k2,P,R⟩=>?_;subst P;cases O;exact uR ⟨M,N,R⟩
def Cs:(sizeLine:Nat)<2 ^ 63:=by decide
def xu{x:V}(r:D5 [x] us):∃u,us=[u]/\D6 x u:=by
 cases r with
 |cons a b=>cases b;exact⟨_,rfl,a⟩
def yZ{x:V}(r:D5 [x,y] us):∃u w',us=[u,w']/\D6 x u/\D6 y w':=by
 cases r with
 |cons a b=>
  cases b with
  |cons c d=>cases d;exact⟨_,_,rfl,a,c⟩
def b8(hc:X.calm=aB):kI X (.builtin "max") (λxs H Q=>∃i j,xs=[.int i,.int j]/\Q (.int<|if j > i then j else i) H):=by
 intro ap s b H xs us Q I r h;obtain⟨i,j,rfl,q⟩:=h;obtain⟨u,c,rfl,⟨t,rfl⟩,⟨d,rfl⟩⟩:=yZ r;refine max_two_ints (I.ok.hd hc) λe tk k=>⟨_,H,I.E6 k,?_,q⟩;by_cases a:j > i
 .rw[if_pos a,if_pos a];exact⟨_,rfl⟩
 .rw[if_neg a,if_neg a];exact⟨_,rfl⟩
def b9(hc:X.calm=aB):kI X (.builtin "min") (λxs H Q=>∃i j,xs=[.int i,.int j]/\Q (.int<|if j<i then j else i) H):=by
 intro ap s b H xs us Q I r h;obtain⟨i,j,rfl,q⟩:=h;obtain⟨u,c,rfl,⟨t,rfl⟩,⟨d,rfl⟩⟩:=yZ r;refine min_two_ints (I.ok.hd hc) λe tk k=>⟨_,H,I.E6 k,?_,q⟩;by_cases a:j<i
 .rw[if_pos a,if_pos a];exact⟨_,rfl⟩
 .rw[if_neg a,if_neg a];exact⟨_,rfl⟩
def ZW:kI X (.type "int") (λxs H Q=>(∃i,xs=[.int i]/\Q (.int i) H)\/∃k,xs=[.bl k]/\Q (.int<|if k then 1 else 0) H):=by
 intro ap s b H xs us Q I r h;rcases h with⟨i,rfl,q⟩|⟨k,rfl,q⟩
 .obtain⟨u,rfl,t,rfl⟩:=xu r;exact call_int_int ⟨.int i,H,I,⟨_,rfl⟩,q⟩
 .obtain⟨u,rfl,a⟩:=xu r;cases a;exact call_int_bool ⟨.int (if k then 1 else 0),H,I.tok _,⟨_,rfl⟩,q⟩
end
structure aw(h:bK)(x dx C:Addr)(mA:Str->A6):Prop where
 obj:h.get? x=aA (zU C dx)
 ns:h.Ns1 dx mA
 ne:dx≠x
def Y5(n:h.Ns1 dx mA):∃od,h.get? dx=aA od/\∀name,Hj name od=aA (mA name):=by
 obtain⟨o,c,j,d,hd,f,_,hm⟩:=n;refine⟨o,d,λname=>?_⟩;have e:=hm name;unfold nsFind findBy at e;rw[<- Array.find?_toList]at e;unfold Hj;rw[hd];dsimp only;split
 .simp_all
 .rename_i q;rw[q]at e;have a:c.toList.any (·.refKey)=aJ:=by rw[NY];intro y g;obtain⟨z,t,b⟩:=f y (Array.mem_toList_iff.1 g);simp[DictEntry.refKey,b]
  have i:=a▸iA;rw[if_neg i];exact congrArg aA e
def aw.look{x:Addr}(I:aw h x dx C mA):∃od,W.InstAt h x (zU C dx) C (aA od)/\∀name,Hj name od=aA (mA name):=
 let ⟨od,a,hl⟩:=Y5 I.ns
 ⟨od,⟨I.obj,rfl,rfl,a⟩,hl⟩
section
variable {K:bN}{x f:Addr}{name:Str}{v:Value}
def O1{expr:Bool}(X:K.In s.heap)(I:aw s.heap x dx C mA)(hg:yx K C name=aB)(hh:Hi K C=aB)
  (ha:oQ K (.ref C) name=aA aD)(hv:mA name=aA v)(hv':Hh v=aB)(h:Q v { s with toks:=s.toks+1 }) :
  aT (aZ prog w) A (getAttr (.ref x) name expr) Q E s:=by
 obtain⟨od,J,hl⟩:=I.look;exact W.get_value X J (Uu hg).1 (W.findObj_own hh ha rfl (by rw[hl,hv])) hv' h
def O2{pl:Sem Bool}{Q:Value×A5->aK->Prop}(X:K.In s.heap)(I:aw s.heap x dx C mA)(hg:yx K C name=aB)
  (hf:oQ K (.ref C) name=aA (aA<|.ref f)) (ht:yw K (.ref f)=aB) (hv:mA name=aD) (h:Q (.ref f,[.ref x]) s) :
  aT (aZ prog w) A (Vh (.ref x) name pl) Q E s:=by
 obtain⟨od,J,hl⟩:=I.look;exact W.method_fn X J (Uu hg).1 (Uu hg).2 hf (beq_iff_eq.1 ht) (by show(Hj name od).map (·.isSome)=aA aJ;rw[hl,hv];rfl) h
def aOm{ns:AK}{Q:Unit->aK->Prop}(X:K.In s.heap)(I:aw s.heap x dx C mA)
  (hs:oQ K (.ref C) "__setattr__"=aA (aA<|.builtin "object.__setattr__")) (hp:Uv K C=aB) (ht:Ux K C name=aA aD) (hh:Hi K C=aB)
  (hw:Uy mA ns) (hsz:B3 ns<=sizeLine)
  (h:∀h',aw h' x dx C (λy=>if y=name then aA v else mA y)->gr dx s.heap h'->Q () { s with heap:=h',toks:=s.toks+2 }) :
  aT (aZ prog w) A (setAttr (.ref x) name v) Q E s:=by
 obtain⟨od,J,hl⟩:=I.look;refine W.set_plain X J hs<|W.osa_open X J hp ht λb=>?_;obtain⟨m,i,d⟩:=W.any_some hh;have j:=I.obj;refine aR<|cH<|aR<|aR<|wpAny_loadPart j<|aR<|W.Looks.here (W.looks_clsIn X i) ?_;rw[d];refine cH<|aR<|cH<|aR ?_;refine wpAny_nsSet1 I.ns λh' a c=>?_;obtain⟨n,k,l,e,f,g⟩:=a.count (PySem.Within.cons name v hw);refine aR<|wpAny_lookBehind e (by rw[f];exact pastItsLine_dict<|dF g (by grind)) ?_;exact cH<|h _ ⟨(c.2 _<|lM I.ne).trans I.obj,a,I.ne⟩ c
def Z6{R:Result->aK->Prop}{vs:'2'}(X:K.In s.heap)(hm:Ut K C=aB)
  (hi:oQ K (.ref C) "__init__"=aA (aA<|.ref f))(hf:W.typeIn K (.ref f)=aA (.type "function"))
  (h:uP (aZ prog w) (A.under<|.builtin "type.__call__" ⟨.ref C::vs,kw⟩) (.call (.ref f) ⟨.ref 'C'::vs,kw⟩) (W.InitBack 'C' R)
   { s with heap:=(s.heap.push zT).push (zU C s.heap.objs.size) }) :
  uP (aZ prog w) A (.call (.ref C) ⟨vs,kw⟩) R s:=by
 exact W.make_core (W.makes_of X hm) (W.looks_findIn X hi) (λself=>W.bind_fn X self hf) (.inl rfl) h
end
def iU(f:Str)(v:V):A2->A2
 |[]=>[(f,v)]
 | (g,x)::r=>if g=f then(g,v)::r else(g,x)::iU f v r
theorem EX(f g:Str)(v:V):∀fs:A2,(iU f v fs).lookup g=if g=f then aA v else fs.lookup g
 |[]=>by
  show sU g [(f,v)]=_;by_cases h:g=f
  .have hb:=beq_iff_eq.2 h;simp only[sU,hb,if_pos h]
  .have hb:=beq_eq_false_iff_ne.2 h;simp only[sU,hb,if_neg h]
 | (k,x)::r=>by
  rw[show iU f v ((k,x)::r)=(if k=f then(k,v)::r else(k,x)::iU f v r) from rfl];by_cases a:k=f
  .rw[if_pos a];by_cases h:g=k
   .have hb:=beq_iff_eq.2 h;simp only[sU,hb,if_pos (h.trans a)]
   .have hb:=beq_eq_false_iff_ne.2 h;simp only[sU,hb,if_neg (λe:g=f=>h (e.trans a.symm))]
  .rw[if_neg a];by_cases h:g=k
   .have hb:=beq_iff_eq.2 h;simp only[sU,hb,if_neg (λe:g=f=>a (h.symm.trans e))]
   .have hb:=beq_eq_false_iff_ne.2 h;simp only[sU,hb];exact(EX f g v r)
theorem Lw(f:Str)(v:V):∀fs:A2,f∈(iU f v fs).map (·.1)/\∀g,g∈fs.map (·.1)->g∈(iU f v fs).map (·.1)
 |[]=>⟨by simp[iU],λg h=>by simp at h⟩
 | (k,x)::r=>by
  obtain⟨b,c⟩:=Lw f v r;rw[show iU f v ((k,x)::r)=(if k=f then(k,v)::r else(k,x)::iU f v r) from rfl];by_cases a:k=f
  .rw[if_pos a];subst a;exact⟨(.head _),λg h=>by simpa using h⟩
  .rw[if_neg a];refine⟨?_,λg h=>?_⟩
   .rw[fJ];exact eK _ b
   .rw[fJ]at h ⊢;rcases dT.1 h with e|e
    .exact dT.2<|.inl e
    .exact eK _<|c g e
theorem EO(f:Str)(v:V):∀fs:A2,B3 (iU f v fs)<=B3 fs+1
 |[]=>by simp[iU]
 | (k,x)::r=>by
  have a:=EO f v r;rw[show iU f v ((k,x)::r)=(if k=f then(k,v)::r else(k,x)::iU f v r) from rfl];by_cases b:k=f
  .simp_all
  .simp_all
def iH.some_of{o:'8'}(r:iH (aA v) o):∃u,o=aA u/\D6 v u:=by
 cases o with
 |none=>exact(r).elim|some u=>exact⟨u,rfl,r⟩
def iH.none_of{o:'8'}(r:iH aD o):o=aD:=by
 cases o with
 |none=>rfl|some u=>exact(r).elim
def Q4(r:D6 v u):Hh u=aB:=by
 cases v with
 |aG=>cases(r);rfl|bl b=>cases(r);rfl|int i=>obtain⟨t,e⟩:=(r);cases e;rfl|str x=>obtain⟨t,e⟩:=(r);cases e;rfl|ref a=>cases(r);rfl|ty n=>cases(r);rfl
section
variable {fs fs':A2}
def Lj(bB:fF P w H h)(e:H a=aA (.ins C dx fs)):∃mA,aw h a dx C mA/\(∀f,iH (fs.lookup f) (mA f))/\Uy mA (fs.map (·.1))/\B3 fs<=1000/\H dx=aA (.own a):=by obtain⟨d,z,ne,ob,mA,n,r,q⟩:=(show iB P w H h a (.ins C dx fs) from bB a _ e);exact⟨mA,⟨ob,n,ne⟩,r,q,z,d⟩
end
structure nR(K:bN)(C:Addr):Prop where
 pg:yx K C Str.empty=aB
 hd:Hi K C=aB
 po:Uv K C=aB
 sa:oQ K (.ref C) "__setattr__"=aA (aA<|.builtin "object.__setattr__")
def nR.get{K:bN}(c:nR K C)(f:Str):yx K C f=aB:=c.pg
def xJ(K:bN)(C:Addr)(f:Str):Prop:=oQ K (.ref C) f=aA aD
def xJ.aSd{K:bN}{f:Str}(n:xJ K C f):Ux K C f=aA aD:=by unfold Ux;rw[show oQ K (.ref C) f=aA aD from n];rfl
structure zy(K:bN)(C:Addr)(m:Str)(f:Addr):Prop where
 at_:oQ K (.ref C) m=aA (aA<|.ref f)
 fn:yw K (.ref f)=aB
 kp:uO K (.ref f)=aB
section
variable {fs:A2}{f:Str}
def CQ{b:Bool}(I:'&')(e:H a=aA (.ins C dx fs))(c:nR X.K C)(n:xJ X.K C f)(l:fs.lookup f=aA v)
  (h:∀u s',D3 X ap Z H s'->D6 v u->Q u s'):aT '1' A (getAttr (.ref a) f b) Q E s:=by
 obtain⟨i,O,r,_,_,_⟩:=Lj I.bB e;obtain⟨u,g,d⟩:=iH.some_of (by rw[<- l];exact r f);exact O1 I.fP O (c.get f) c.hd n g (Q4 d)<|h u _ (I.tok _) d
def CS{g:Addr}{pl:Sem Bool}{Q:Value×A5->aK->Prop}(I:'&')(e:H a=aA (.ins C dx fs))(c:nR X.K C)(k:zy X.K C m g)(l:fs.lookup m=aD)
  (h:Q (.ref g,[.ref a]) s):aT '1' A (Vh (.ref a) m pl) Q E s:=by
 obtain⟨b,O,r,_,_,_⟩:=Lj I.bB e;have hn:=iH.none_of (by rw[<- l];exact r m);exact O2 I.fP O (c.get m) k.at_ k.fn hn h
def JY{Q:Unit->aK->Prop}(I:'&')(e:H a=aA (.ins C dx fs))(c:nR X.K C)(n:xJ X.K C f)(hl:B3 fs<1000)(ry:D6 y u)
  (h:∀s',D3 X ap Z (D4 H a<|.ins C dx<|iU f y fs) s'->Q () s'):aT '1' A (setAttr (.ref a) f u) Q E s:=by
 obtain⟨i,O,r,wi,_,j⟩:=Lj I.bB e;have k:B3 (fs.map (·.1))<=sizeLine:=by rw[aU,lB];lia
 refine aOm I.fP O c.sa c.po n.aSd c.hd wi k λl d sb=>h _ ?_;have hd:∃o,l.get? dx=aA o:=let ⟨o,_,_,m,_⟩:=d.ns;⟨o,m⟩;refine I.write (e▸mT) (.inr j) (λb q hb z=>(sb.2 b hb).trans z) hd ?_;refine⟨by rw[cB O.ne];exact j,?_,O.ne,d.obj,_,d.ns,λg=>?_,λg p=>?_⟩
 .have:=EO f y fs;lia
 .show iH ((iU f y fs).lookup g) (if g=f then aA u else i g);rw[EX];by_cases q:g=f
  .rw[if_pos q,if_pos q];exact ry
  .simp_all
 .by_cases q:g=f
  .rw[q];exact(Lw f y fs).1
  .refine(Lw f y fs).2 g (wi g λz=>p ?_);show(if g=f then aA u else i g)=aD;rw[if_neg q];exact z
def D3.made(I:'&'):D3 X ap Z (D4 (D4 H s.heap.objs.size<|.own 'C') 'C'<|.ins C s.heap.objs.size [])
  { s with heap:=(s.heap.push zT).push (zU C s.heap.objs.size) }:=by
 have e1:(s.heap.push zT).get? s.heap.objs.size=aA zT:=gS s.heap rfl;have e2:((s.heap.push zT).push (zU C s.heap.objs.size)).get? 'C'=aA (zU C s.heap.objs.size):=by have:=gS (s.heap.push zT) (o:=zU C s.heap.objs.size) rfl;rwa [uK]at this
 have e3:(s.heap.push zT).Ns s.heap.objs.size (λ_=>aD):=⟨zT,#[],_,e1,rfl,(λe he=>absurd he (by simp)),λ_=>rfl⟩;have I1:=I.F1 (o:=.own 'C') (t':=s.toks) (λb u q=>cX _ q) (aW _) ⟨_,e1⟩;refine I1.F1 (λb u q=>cX _ q) (Gw<|uK _ _) ?_;have ne:s.heap.objs.size≠s.heap.objs.size+1:=bZ (cD _);refine⟨by rw[cB ne,gG],jD _,ne,e2,λ_=>aD,(Heap.Ns1.of_empty e3).at λo q=>cX _ q,λ_=>mT,λy hy=>absurd rfl hy⟩
def TL{env:Env}{f:Str}(hb:rh e f env (eval e env)=eval e env)
  (h:aT (aZ prog w) A (eval e env) (λo s₁=>aT (aZ prog w) A (getAttr o f aB) Q E s₁) E s):aT (aZ prog w) A (eval (.Attribute e f pos) env) Q E s:=
 Attribute_any_ h (by rw[arm_eval_Attribute,hb])
end
def aQx(K:bN)(ta:TE)(f:Str):TE:=λZ H Q=>ta Z H λx H1=>∃a C dx fs v,x = .ref a/\H1 a=aA (.ins C dx fs)/\nR K C/\xJ K C f/\fs.lookup f=aA v/\Q v H1
def aOg(K:bN)(ta tv:TE)(f:Str):TS:=λD Z H=>tv Z H λy H1=>ta Z H1 λx H2=>∃a C dx fs,x = .ref a/\H2 a=aA (.ins C dx fs)/\nR K C/\xJ K C f/\B3 fs<1000 /\
 D.nx Z (D4 H2 a<|.ins C dx<|iU f y fs)
def Wi(X:Cx)(op:pQ)(rd:V->V->Hp->VK->Prop):Prop:=
 ∀(ap:'7') (s:aK) (Z:St) (H:Hp) (x y:V) (u v:Value) (Q:VK),'&'->D6 x u->D6 y v->rd x y H Q->aT '1' X.A (Vi op u v) (EP X ap Z Q) X.xe s
def aOh(K:bN)(ta tv:TE)(rd:V->V->Hp->VK->Prop)(f:Str):TS:=λD Z H=>ta Z H λx H1=>∃a C dx fs v,x = .ref a/\H1 a=aA (.ins C dx fs)/\nR K C/\xJ K C f/\fs.lookup f=aA v /\
 tv Z H1 λy H2=>rd v y H2 λz H3=>∃dx' fs',H3 a=aA (.ins C dx' fs')/\B3 fs'<1000/\D.nx Z (D4 H3 a<|.ins C dx'<|iU f z fs')
section
variable {o value:aI}{f:Str}{tpos:Pos}{ta tv:TE}
def aEc(he:PE X e ta)(hb:rh e f X.env (eval e X.env)=eval e X.env):PE X (.Attribute e f pos) (aQx X.K ta f):=by intro ap s b H Q I h;refine TL hb<|bG (he ap s b H _ I h) λu s1 d=>?_;obtain⟨x,H1,g,i,a,C,o,fs,v,ex,j,c,n,l,q⟩:=d;subst ex;obtain rfl:u=lA a:=i;exact CQ g j c n l λp s2 k m=>⟨v,H1,k,m,q⟩
def aGi(ha:PE X o ta)(hv:PE X value tv)(hs:xF value (aA<|.Attribute o f pos') pos.line X.env=pure aJ):PS X (.Assign [.Attribute o f pos'] value pos) (aOg X.K ta tv f):=by intro ap s b H D I h;refine aZm (bG (hv ap s b H _ I h) λu s1 ⟨y,H1,d,e,q⟩=>bG (ha ap s1 b H1 _ d q) λg s2 ⟨x,r,i,j,a,C,t,fs,ex,k,c,n,l,m⟩=>?_) hs;subst ex;obtain rfl:g=lA a:=j;exact JY i k c n l e λv p=>⟨b,_,p,m⟩
def aGj{op:pQ}{rd:V->V->Hp->VK->Prop}(ha:PE X o ta)(hv:PE X value tv)(hop:Wi X op rd):PS X (.AugAssign (.Attribute o f tpos) op value pos) (aOh X.K ta tv rd f):=by intro ap s b H D I h;refine wpAny_AugAssign_AttributeAny<|bG (ha ap s b H _ I h) λg s1 d=>?_;obtain⟨x,H1,i,j,a,C,N,fs,v,ex,k,c,n,l,q⟩:=d;subst ex;obtain rfl:g=lA a:=j;refine CQ i k c n l λu s2 m p=>bG (hv ap s2 b H1 _ m q) λw3 r ⟨y,t,w,A,B⟩=>bG (hop ap r b t v y u w3 _ w p A B) λO P d=>?_;obtain⟨z,Q,E,F,G,J,e,K,L⟩:=d;exact JY E e c n K F λR M=>⟨b,_,M,L⟩
def aMy:V->V->Hp->VK->Prop:=λx y H Q=>∃i j,x = .int i/\y = .int j/\Q (.int<|i+j) H
def S9:Wi X .Add aMy:=by
 rintro ap s Z H x y u v Q I rx ry ⟨i,j,rfl,rfl,q⟩
 obtain⟨t,rfl⟩:=(show∃t,u=zV i t from rx);obtain⟨t',rfl⟩:=(show∃t',v=zV j t' from ry);exact PyProof.Rows.iadd_int ⟨.int (i+j),H,I.tok _,⟨_,rfl⟩,q⟩
end
structure fM(k:Nat)(A:cM):Prop where
 hd:A.handled=aD
 dp:A.depth+3*k+5<recursionLimit
 un:A.units+16*k+200<cLine
def fM.D2{k:Nat}(r:fM k A)(h:j<=k):fM j A:=⟨r.hd,by have:=r.dp;lia,by have:=r.un;lia⟩
theorem fM.deeper{k:Nat}{A:cM}(r:fM (k+1) A)(env:Env):fM k (A.deeper env):=
 ⟨r.hd,by have:=r.dp;show A.depth+1+3*k+5<_;lia,by have:=r.un;show A.units+3+16*k+200<_;lia⟩
def Z5:(A.under<|.builtin "type.__call__" ⟨.ref C::us,kw⟩).depth=A.depth+1:=by first|rfl|simp[Code.weight]
def Z7:(A.under<|.builtin "type.__call__" ⟨.ref C::us,kw⟩).units=A.units+1:=by first|rfl|simp[Code.cUnits]
def fM.make{k:Nat}(r:fM (k+1) A)(C:Addr)(us:'2')(kw:A1):fM k (A.under<|.builtin "type.__call__" ⟨.ref C::us,kw⟩):=
 ⟨r.hd,by have:=r.dp;rw[Z5];lia,by have:=r.un;rw[Z7];lia⟩
theorem fM.depth{k:Nat}{A:cM}(r:fM k A):A.depth<recursionLimit:=by have:=r.dp;lia
theorem fM.units{k:Nat}{A:cM}(r:fM k A):A.units+64<cLine:=by have:=r.un;lia
def oq:TA:=λ_ H Q=>Q [] H
def Ql(ta:TE)(tr:TA):TA:=λZ H Q=>ta Z H λx H1=>tr Z H1 λxs H2=>Q (x::xs) H2
section
variable {t:TA}
def fq:PA X [] oq:=λ_ _ _ _ H Q I h=>Calls.spliced_nil ⟨[],H,I,.nil,h⟩
def yO(ha:PE X e te)(hr:PA X es t)(hs:autoParam (eS (e::es) X.env=(aJ,eval e X.env)::eS es X.env) aGh._auto_1):PA X (e::es) (Ql te t):=by intro pos ap s a H Q I h;rw[hs];show aT _ _ (spliced<|(aJ,eval e X.env)::mD pos (eS es X.env)) _ _ s;refine Calls.spliced_cons<|bG (ha ap s a H _ I h) λu s1 b=>?_;obtain⟨x,H1,c,d,f⟩:=b;exact bG (hr pos ap s1 a H1 _ c f) λus s2 ⟨xs,g,i,j,k⟩=>⟨x::xs,g,i,.cons d j,k⟩
def aRm(t:TA):TE:=λZ H Q=>t Z H λxs H1=>B3 xs<=sizeLine/\∀p,H1 p=aD->Q (.ref p) (D4 H1 p<|.tup xs)
def aRb(t:TA):TE:=λZ H Q=>t Z H λxs H1=>B3 xs<=sizeLine/\∀p,H1 p=aD->Q (.ref p) (D4 H1 p<|.l xs)
def aEt{x1}(h:PA X es t):PE X (.Tuple es x1 pos) (aRm t):=by intro ap s c H Q I d;refine wpAny_Tuple_spliced<|bG (h pos ap s c H _ I d) λus s1 ⟨xs,H1,a,r,z,q⟩=>⟨by simp_all[r.length],?_⟩;have f:=a.bB.fresh (aW _);refine⟨.ref s1.heap.objs.size,D4 H1 s1.heap.objs.size (.tup xs),a.F1 (λb u e=>cX _ e) (aW _) ?_,rfl,q _ f⟩;exact⟨z,us,r,⟨_,gS _ rfl,rfl,_,rfl⟩⟩
def aEh(h:PA X es t):PE X (.List es pos) (aRb t):=by intro ap s c H Q I d;refine wpAny_List_spliced<|bG (h pos ap s c H _ I d) λus s1 ⟨xs,H1,a,r,z,q⟩=>⟨by simp_all[r.length],?_⟩;have f:=a.bB.fresh (aW _);refine⟨.ref s1.heap.objs.size,D4 H1 s1.heap.objs.size (.l xs),a.F1 (λb u e=>cX _ e) (aW _) ?_,rfl,q _ f⟩;exact⟨z,us,0,r,gS _ rfl⟩
end
abbrev Sp:=AJ->Hp->VK->XK->Prop
variable {sp:Sp}
abbrev oU:=A8->Hp->aK->XK->Value->aK->Prop
variable {CX:oU}
structure ai(P:cC)(w:bV)(K:bN)(mg:Str->A6)(base:bK)(A:cM)(outer:A8)(s:aK)(H:Hp):Prop where
 frames:A.frames=aA outer
 mod:Mod K mg base
 bs:∀b o,base.get? b=aA o->s.heap.get? b=aA o/\H b=aD
 xR:base.objs.size<=s.heap.objs.size
 rT:s.heap.FunFrames base outer
 ke:∀b∈rR outer,H b=aD
 bB:fF P w H s.heap
 bare:wL s.gens
def CE(outer:A8)(P:cC)(w:bV)(H:Hp)(s:aK)(Q:VK)(u:Value)(s':aK):Prop:=
 ∃v H',s'.os=s.os/\wL s'.gens/\Un (rR outer) [] H H' s.heap s'.heap/\fF P w H' s'.heap/\D6 v u/\Q v H'
def CR(CX:oU)(outer:A8)(P:cC)(w:bV)(H:Hp)(s:aK)(Q:VK)(E:XK)(r:Result)(s':aK):Prop:=
 match r with
 |.ok (.ret u)=>CE outer P w H s Q u s'
 |.ok _=>False
 |.error e=>CX outer H s E e s'
structure iQ(P:cC)(w:bV)(K:bN)(mg:Str->A6)(base:bK)(CX:oU)(k:Nat)(f:Addr)(fd:fA)(ps:AK)(sp:Sp):Prop where
 len:∀vs H Q E,sp vs H Q E->B3 vs=B3 ps
 D1:∀(A:cM) (outer:A8) (s:aK) (H:Hp) (args:Args) (us:'2') (vs:AJ) (Q:VK) (E:XK),fM k A->ai P w K mg base A outer s H->qc s fd args (ps.zip us)->D5 vs us->sp vs H Q E ->
  uP (aZ P w) A (.call (.ref f) args) (CR CX outer P w H s Q E) s
def iQ.imp{K:bN}{k:Nat}{f:Addr}{sp':Sp}(F:iQ P w K mg base CX k f fd ps sp)
  (h:∀vs H Q E,sp' vs H Q E->sp vs H Q E):iQ P w K mg base CX k f fd ps sp':=
 ⟨λvs H Q E q=>F.len vs H Q E (h _ _ _ _ q),λA outer s H args us vs Q E hr he hb a b=>F.D1 A outer s H args us vs Q E hr he hb a (h _ _ _ _ b)⟩
def ai.make{K:bN}(e:ai P w K mg base A outer s H)(C:Addr)(us:'2')(kw:A1) :
 ai P w K mg base (A.under<|.builtin "type.__call__" ⟨.ref C::us,kw⟩) outer s H:=⟨by first|exact e.frames|(simpa[Code.envs]),e.mod,e.bs,e.xR,e.rT,e.ke,e.bB,e.bare⟩
def D3.Jq(I:'&'):ai X.prog X.w X.K X.mg X.base X.A X.stack s H:=
 ⟨I.ok.frames,I.ok.mod,I.bs,dF I.ok.xR I.sz,I.stack,I.KQ,I.bB,I.bare⟩
def D3.after{Q:VK}(I:'&')(h:CE X.stack X.prog X.w H s Q u s'):EP X ap Z Q u s':=by obtain⟨v,c,os,bare,un,bB,r,q⟩:=h;obtain⟨e,g,d,t,a⟩:=s';obtain rfl:a=s.os:=os;exact⟨v,c,I.call un bB bare (λb z=>absurd z (by simp)),r,q⟩
def KY(sp:Sp)(dvs:AJ)(E:XK)(t:TA):TE:=λZ H Q=>t Z H λvs H1=>sp (vs++dvs) H1 Q E
def KZ(C:Addr)(sp:Sp)(dvs:AJ)(E:XK)(t:TA):TE:=λZ H Q=>t Z H λvs H1=>∀x dx,H1 x=aD->H1 dx=aD->dx≠x ->
 sp (.ref x::(vs++dvs)) (D4 (D4 H1 dx<|.own x) x<|.ins C dx []) (λv H2=>v = .aG/\Q (.ref x) H2) E
def E5(K:bN)(fd:fA)(ps:AK)(ds:'2'):Prop:=
 ∀(s:aK) (us:'2'),K.In s.heap->B3 (us++ds)=B3 ps->qc s fd ⟨us,[]⟩ (ps.zip<|us++ds)
def E5.all{K:bN}(h:∀us:'2',B3 us=B3 ps->bindArgs fd ⟨us,[]⟩=pure (ps.zip us)):E5 K fd ps []:=λs us _ hl=>by rw[nP]at hl ⊢;exact .of_eq<|h us hl
def sY(CX:oU)(X:Cx)(E:XK):Prop:=∀(ap:'7') (Z:St) (H:Hp) (s:aK) (e:Value) (s':aK),'&'->CX X.stack H s E e s'->X.xe e s'
section
variable {k:Nat}{f:Addr}{dvs:AJ}{ds:A5}{E:XK}{o:aI}{ta:TE}{t:TA}
def Pp{Q:VK}(F:iQ X.prog X.w X.K X.mg X.base CX k f fd ps sp)(hr:fM k X.A)(hb:E5 X.K fd ps ds)(hd:D5 dvs ds)(hx:sY CX X E)
  (I:'&')(r:D5 vs us)(h:sp (vs++dvs) H Q E):aT '1' X.A (call (.ref f) us) (EP X ap Z Q) X.xe s:=by
 have b:=r.append hd;have hl:B3 (us++ds)=B3 ps:=by rw[<- b.length];exact F.len _ _ _ _ h
 refine zh<|zd (F.D1 X.A X.stack s H ⟨us,[]⟩ (us++ds) (vs++dvs) Q E hr I.Jq (hb s us I.fP hl) b h) λr c a=>?_;cases r with
 |error e=>exact hx ap Z H s e c I a|ok fl=>
  cases fl with
  |ret u=>exact I.after a|next=>exact lY a|brk=>exact lY a|cont=>exact lY a
def aDu(F:iQ X.prog X.w X.K X.mg X.base CX k f fd ps sp)(hr:fM k X.A)(hg:Gl X x)(hm:X.mg x=aA (.ref f))(hk:uO X.K (.ref f)=aB)(hb:E5 X.K fd ps ds)(hd:D5 dvs ds)(hx:sY CX X E)
  (ha:PA X (e::es) t) (hdb:autoParam ('B'=aJ) aEv._auto_1) (he:autoParam (eS (e::es) X.env=(aJ,eval e X.env)::eS es X.env) aGh._auto_1) (hpl:autoParam ((mD pos<|eS es X.env).any (·.1)=aJ) aGh._auto_1) :
  PE X (.Call (.Name x p) (e::es) [] pos) (KY sp dvs E t):=by
 intro ap s b H Q I h;refine iz<|vp I hg hm ?_ hdb;refine Hg I.ok.mod.ky hk (bG (ha pos ap s b H _ I h) λus s1 ⟨c,H1,a,r,q⟩=>⟨a.fP,?_⟩) he hpl;exact Pp F hr hb hd hx a r q
def aDv(F:iQ X.prog X.w X.K X.mg X.base CX k f fd ps sp)(hr:fM k X.A)(hg:Gl X x)(hm:X.mg x=aA (.ref f))(hk:uO X.K (.ref f)=aB)(hb:E5 X.K fd ps ds)(hd:D5 dvs ds)(hx:sY CX X E)
  (hdb:autoParam ('B'=aJ) aEv._auto_1):PE X (.Call (.Name x p) [] [] pos) (KY sp dvs E oq):=by
 intro ap s Z H Q I h;refine iz<|vp I hg hm ?_ hdb;exact Up I.fP hk<|Pp F hr hb hd hx I .nil h
structure Mk(K:bN)(C f:Addr):Prop where
 makes:Ut K C=aB
 init:oQ K (.ref C) "__init__"=aA (aA<|.ref f)
 fn:yw K (.ref f)=aB
 kp:uO K (.ref C)=aB
def JT{Q:VK}(M:Mk X.K C f)(F:iQ X.prog X.w X.K X.mg X.base CX k f fd ps sp)(hr:fM (k+1) X.A)(hb:E5 X.K fd ps ds)(hd:D5 dvs ds)
  (hx:sY CX X E)(I:'&')(r:D5 vs us)
  (h:∀x dx,H x=aD->H dx=aD->dx≠x->sp (.ref x::(vs++dvs)) (D4 (D4 H dx<|.own x) x<|.ins C dx []) (λv H2=>v = .aG/\Q (.ref x) H2) E) :
  aT '1' X.A (call (.ref C) us) (EP X ap Z Q) X.xe s:=by
 have c:=h 'C' s.heap.objs.size (I.bB.fresh<|iG _) (I.bB.fresh<|aW _) (bZ<|cD _);have b:=D3.made (C:=C) I;have d:D5 (V.ref 'C'::(vs++dvs)) (lA 'C'::(us++ds)):=.cons rfl (r.append hd);have hl:B3 (lA 'C'::us++ds)=B3 ps:=by have e:=d.length;rw[F.len _ _ _ _ c]at e;exact e.symm
 refine zh (Z6 I.fP M.makes M.init (beq_iff_eq.1 M.fn) (zd (F.D1 _ X.stack _ _ ⟨lA 'C'::us,[]⟩ (lA 'C'::(us++ds)) _ _ E (hr.make C us [])
  (b.Jq.make C us []) (hb _ (lA 'C'::us) b.fP hl) d c) λr g a=>?_))
 cases r with
 |error e=>exact hx ap Z _ _ e g b a|ok fl=>
  cases fl with
  |ret u=>obtain⟨v,i,j,l,ev,m⟩:=b.after a;subst ev;exact⟨l,⟨V.ref 'C',i,j,rfl,m⟩⟩
  |next=>exact lY a|brk=>exact lY a|cont=>exact lY a
def aEi(M:Mk X.K C f)(F:iQ X.prog X.w X.K X.mg X.base CX k f fd ps sp)(hr:fM (k+1) X.A)(hg:Gl X x)(hm:X.mg x=aA (.ref C))(hb:E5 X.K fd ps ds)(hd:D5 dvs ds)(hx:sY CX X E)
  (ha:PA X (e::es) t) (hdb:autoParam ('B'=aJ) aEv._auto_1) (he:autoParam (eS (e::es) X.env=(aJ,eval e X.env)::eS es X.env) aGh._auto_1) (hpl:autoParam ((mD pos<|eS es X.env).any (·.1)=aJ) aGh._auto_1) :
  PE X (.Call (.Name x p) (e::es) [] pos) (KZ C sp dvs E t):=by
 intro ap s b H Q I h;refine iz<|vp I hg hm ?_ hdb;refine Hg I.ok.mod.ky M.kp (bG (ha pos ap s b H _ I h) λus s1 ⟨c,H1,a,r,q⟩=>⟨a.fP,?_⟩) he hpl;exact JT M F hr hb hd hx a r q
def aEj(M:Mk X.K C f)(F:iQ X.prog X.w X.K X.mg X.base CX k f fd ps sp)(hr:fM (k+1) X.A)(hg:Gl X x)(hm:X.mg x=aA (.ref C))(hb:E5 X.K fd ps ds)(hd:D5 dvs ds)(hx:sY CX X E)
  (hdb:autoParam ('B'=aJ) aEv._auto_1):PE X (.Call (.Name x p) [] [] pos) (KZ C sp dvs E oq):=by
 intro ap s Z H Q I h;refine iz<|vp I hg hm ?_ hdb;exact Up I.fP M.kp<|JT M F hr hb hd hx I .nil h
end
def PK(X:Cx)(kws:List pP)(t:TA):Prop:=
 ∀(pos:Pos) (ap:'7') (s:aK) (Z:St) (H:Hp) (Q:AJ->Hp->Prop),'&'->t Z H Q->aT '1' X.A (evalAll<|(zY pos<|af kws X.env).map (·.2)) (AP X ap Z Q) X.xe s
section
variable {k:Nat}{f:Addr}{ks:AK}{E:XK}{W7:Pos}{o:aI}{kws:List pP}{ta:TE}{t tk:TA}{nm:Option Str}
def aFi:PK X [] oq:=λ_ _ _ _ H Q I h=>wpAny_evalAll_nil ⟨[],H,I,.nil,h⟩
def aFh(ha:PE X e te)(hr:PK X kws t):PK X (⟨nm,e,W7⟩::kws) (Ql te t):=by intro pos ap s a H Q I h;show aT _ _ (evalAll<|(do let v <- eval e X.env;standAt pos;pure v)::(zY pos<|af kws X.env).map (·.2)) _ _ s;exact wpAny_evalAll_cons<|aR<|bG (ha ap s a H _ I h) λu s1 ⟨x,H1,b,c,d⟩=>aR (zo<|cH<|bG (hr pos ap s1 a H1 _ b d) λus s2 ⟨xs,f,g,i,j⟩=>⟨x::xs,f,g,.cons c i,j⟩)
variable {g:A5->A5->A5}{gV:AJ->AJ->AJ}
end
structure se(N P:AK)(sc:gI):Prop where
 kind:sc.kind = .function
 co:sc.isCoroutine=aJ
 gen:sc.isGenerator=aJ
 nd:N.Nodup
 pre:N.take (B3 P)=P
 par:∀x∈P,sc.names.lookup x=aA .local\/sc.names.lookup x=aA .cell
 aBh:∀y∈sc.names,y.2 ≠ .free
theorem Yd{kindOf:Str->Option uN}{x:Str}:∀{binds:A1}{m:Str->'8'},(∀v,(x,v)∉binds)->aa kindOf binds m x=m x
 |[],_,_=>rfl
 | (n,v)::r,m,h=>by
  unfold aa;rw[Yd λw hw=>h w (eK _ hw)];split
  .have:x≠n:=by rintro rfl;exact h v eL
   simp[this]
  .rfl
theorem Ya{kindOf:Str->Option uN}{x:Str}:∀{binds:A1}{m:Str->'8'},(∀v,(x,v)∉binds)->zZ kindOf binds m x=m x
 |[],_,_=>rfl
 | (n,v)::r,m,h=>by
  unfold zZ;rw[Ya λw hw=>h w (eK _ hw)];split
  .rfl
  .have:x≠n:=by rintro rfl;exact h v eL
   simp[this]
theorem Yb{kindOf:Str->Option uN}{x:Str}{v:Value}:∀{P:AK}{vs:'2'}{i:Nat}{m:Str->'8'},P.Nodup->P[i]?=aA x->vs[i]?=aA v->kindOf x=aA .local ->
  aa kindOf (P.zip vs) m x=aA v
 |[],_,_,_,_,h,_,_=>by simp at h
 |_::_,[],_,_,_,_,h,_=>by simp at h
 |p::P,w::vs,0,m,nd,h1,h2,hk=>by simp at h1 h2;subst h1;subst h2;show aa kindOf ((p,w)::P.zip vs) m p=_;unfold aa;rw[Yd λv hv=>(tx.1 nd).1 (Tl hv).1,if_pos hk];simp
 |p::P,w::vs,i+1,m,nd,h1,h2,hk=>by show aa kindOf ((p,w)::P.zip vs) m x=_;unfold aa;exact Yb (i:=i) (tx.1 nd).2 (by simpa using h1) (by simpa using h2) hk
theorem Xz{kindOf:Str->Option uN}{x:Str}{v:Value}:∀{P:AK}{vs:'2'}{i:Nat}{m:Str->'8'},P.Nodup->P[i]?=aA x->vs[i]?=aA v->kindOf x≠aA .local ->
  zZ kindOf (P.zip vs) m x=aA v
 |[],_,_,_,_,h,_,_=>by simp at h
 |_::_,[],_,_,_,_,h,_=>by simp at h
 |p::P,w::vs,0,m,nd,h1,h2,hk=>by simp at h1 h2;subst h1;subst h2;show zZ kindOf ((p,w)::P.zip vs) m p=_;unfold zZ;rw[Ya λv hv=>(tx.1 nd).1 (Tl hv).1,if_neg hk];simp
 |p::P,w::vs,i+1,m,nd,h1,h2,hk=>by show zZ kindOf ((p,w)::P.zip vs) m x=_;unfold zZ;exact Xz (i:=i) (tx.1 nd).2 (by simpa using h1) (by simpa using h2) hk
def start(N:AK)(vs:AJ):St:=vs.map aA++fB (B3 N-B3 vs) aD
def xV(CX:oU)(P:cC)(w:bV)(K:bN)(mg:Str->'8')(base:bK)(N:AK)(qual:Str)(scope:gI)(f:Addr)(cd:Value)(A:cM)(outer:A8)(s:aK)(H:Hp)(E:XK):Cx where
 prog:=P
 w:=w
 K:=K
 mg:=mg
 base:=base
 A:=A.deeper (xB qual scope s.heap.objs.size f cd)
 N:=N
 s₀:=s
 H₀:=H
 env:=xB qual scope s.heap.objs.size f cd
 outer:=outer
 stack:=xB qual scope s.heap.objs.size f cd::outer
 ex:=[]
 calm:=aB
 fn:=λ_=>aB
 pn:=[]
 xe:=λe s'=>aT (aZ P w) (A.deeper<|xB qual scope s.heap.objs.size f cd) (leaving (xB qual scope s.heap.objs.size f cd) e) (λ_ s''=>CX outer H s E e s'') (λe' s''=>CX outer H s E e' s'') s'
def Yn{sc:gI}{n:Nat}(h:sc.names.lookup x=aA .cell):∃c,(Ve n sc.names []).lookup x=aA c:=by exact i'.1<|RE sc.names n []<|.inl h
def U0{K:bN}{f:Addr}{cd:Value}{s1:aK}{E:XK}
  (S:se N ps scope)(hd:A.handled=aD)(e0:ai P w K mg base A outer s H)(hl:B3 vs=B3 ps)(r:D5 vs us)
  (x:InCallC s s.heap.objs.size (aa (xB qual scope s.heap.objs.size f cd).kindOf (ps.zip us) λ_=>aD) (Ve 'C' scope.names []) (zZ (xB qual scope s.heap.objs.size f cd).kindOf (ps.zip us) λ_=>aD) s1) :
  D3 (xV CX P w K mg base N qual scope f cd A outer s H E) [] (start N vs) H s1:=by
 have B:B3 ps<=B3 N:=by have:=congrArg List.length S.pre;rw[oH]at this;lia
 obtain⟨m,tk,rfl,n⟩:=x.done;have g:∀b:Addr,b∉(xV CX P w K mg base N qual scope f cd A outer s H E).ex:=λb z=>absurd (show b∈([]:AI) from z) (by simp);refine⟨⟨e0.mod,S.kind,rfl,rfl,aW _,λy z c m d=>?_,λy hy=>?_,λy c _ h=>?_,λ_=>hd,Around.frames_deeper e0.frames,.inr ⟨rfl,rfl⟩,λb z=>absurd z (g b),e0.bs,e0.xR,λb _ _=>g b,λb z=>absurd z (g b),e0.rT,e0.ke⟩,
  rfl,e0.bare,Un.E6 n,⟨_,x.toInCall.ns,λi y v m d D=>?_⟩,λy c h=>⟨_,x.cell y c h⟩,e0.bB.fresh (aW _),λy c h=>?_,λp j=>absurd (show p∈([]:'7') from j) (by simp),e0.bB.E6 n,?_⟩
 .exact name_of_addr x.apart (yy m)<|yy d
 .have hy:=hy;rcases hy with hy|hy
  .exact Yn hy
  .exact absurd rfl<|S.aBh _<|yy hy
 .exact kG<|x.above y c<|yy h
 .have o:i<B3 vs:=by
   unfold start at d;by_cases o:i<B3 vs
   .exact o
   .rw[ym (by left)]at d;rw[yo]at d;split at d<;>cases d
  have ha:vs[i]?=aA v:=by
   unfold start at d;rw[sS (by left),eQ]at d;cases e:vs[i]? with
   |none=>left|some a=>left
  obtain⟨u,t,C⟩:=r.get ha;have j:ps[i]?=aA y:=by rw[<- S.pre,aXb (by lia)];exact m
  have l:ps.Nodup:=by rw[<- S.pre];exact S.nd.sublist<|List.take_sublist _ _
  refine⟨u,C,?_⟩;rcases S.par y (bJ j)with k|k
  .exact .inl ⟨k,Yb l j t k⟩
  .obtain⟨c,e⟩:=Yn k;refine .inr ⟨.inl k,c,e,?_⟩;have q:=x.cell y c e;rw[Xz l j t (by show scope.names.lookup y≠_;rw[k];decide)]at q;exact q
 .exact e0.bB.fresh<|kG<|x.above y c<|yy h
 .unfold start;show _=B3 N;rw[dU,aU,Td];lia
def M4{K:bN}{k:Nat}{f:Addr}{name:Str}{params:Se}{dV kV doc pm cdv ct oc:Value}{an od:BD}
  {osl:Array '8'}(lk:K.lookup f=aA ⟨oc,od,.func (rf name qual params body scope dV kV doc pm an cdv ct),osl⟩)(hcd:Uq K cdv qual=aB)(S:se N ps scope)
  (len:∀vs H Q E,sp vs H Q E->B3 vs=B3 ps)
  (Lb:∀(A:cM) (outer:A8) (s:aK) (H:Hp) (vs:AJ) (Q:VK) (E:XK),fM k (A.deeper<|xB qual scope s.heap.objs.size f cdv)->sp vs H Q E ->
   ∃t,sX (xV CX P w K mg base N qual scope f cdv A outer s H E) body t/\t { nx:=λ_ H'=>Q .aG H',rt:=Q } (start N vs) H) :
  iQ P w K mg base CX (k+1) f (rf name qual params body scope dV kV doc pm an cdv ct) ps sp:=by
 refine⟨len,λA outer s H args us vs Q E hr g hb r h=>?_⟩;have l:=g.mod.ky.keeps λb o e=>(g.bs b o e).1;have lim:=g.mod.nolimit.keeps λb o e=>(g.bs b o e).1;have c:∀y∈ps.zip us,scope.names.lookup y.1=aA .local\/(scope.names.lookup y.1=aA .cell/\qw ((Ve 'C' scope.names []).lookup y.1)=aB):=λ⟨n,v⟩ m=>by
  rcases S.par n (Tl m).1 with q|q
  .exact .inl q
  .exact .inr ⟨q,RE _ _ _ (.inl q)⟩
 refine codeAny_call_function hr.depth (l _ _ lk) rfl S.co S.gen rfl (W.codeRec_of l hcd)<|hb _ _ _ _ ?_;refine wpAny_newFunctionEnv_cells S.kind c λenv he s1 x=>?_;subst he;refine⟨lim.keeps x.toInCall.keep,codeAny_func ?_⟩;obtain⟨t,ht,p⟩:=Lb A outer s H vs Q E (hr.deeper _) h;have I:D3 (xV CX P w K mg base N qual scope f cdv A outer s H E) [] (start N vs) H s1:=U0 S hr.hd g (len _ _ _ _ h) r x;refine zi (ht [] s1 (start N vs) H _ I p) (λfl i d=>?_) λe i d=>d;have fin:∀{a:St} {H':Hp}{v:V}{u:Value},D3 (xV CX P w K mg base N qual scope f cdv A outer s H E) [] a H' i->D6 v u->Q v H'->CE outer P w H s Q u i:=
  λ{a H' v u} J j q=>⟨v,H',J.os,J.bare,J.base,J.bB,j,q⟩
 cases fl with
 |ret u=>obtain⟨v,a,H',J,j,q⟩:=d;exact fin J j q
 |next=>obtain⟨a,H',J,q⟩:=d;exact fin (v:=V.aG) J rfl q
 |brk=>obtain⟨_,_,_,q⟩:=d;exact lY q
 |cont=>obtain⟨_,_,_,q⟩:=d;exact lY q
section
variable {t:TA}{id T:String}{r:AJ->Hp->VK->Prop}
def KW(r:AJ->Hp->VK->Prop)(t:TA):TE:=λZ H Q=>t Z H λvs H1=>r vs H1 Q
def Dq(hc:kI X (.builtin id) r) (hg:Gl X x) (hm:X.mg x=aD) (hv:oS x=aA (.builtin id)) (ha:PA X (e::es) t) (hn:autoParam (x≠"__name__") aEv._auto_1) (hdb:autoParam ('B'=aJ) aEv._auto_1)
  (he:autoParam (eS (e::es) X.env=(aJ,eval e X.env)::eS es X.env) aGh._auto_1) (hpl:autoParam ((mD pos<|eS es X.env).any (·.1)=aJ) aGh._auto_1):PE X (.Call (.Name x p) (e::es) [] pos) (KW r t):=by
 intro ap s a H Q I h;exact iz<|fc I hg hm hv (aXi (bG (ha pos ap s a H _ I h) λus s1 ⟨b,H1,c,d,f⟩=>hc ap s1 a H1 b us Q c d f) he hpl) hn hdb
def aDw(hc:kI X (.type T) r) (hg:Gl X x) (hm:X.mg x=aD) (hv:oS x=aA (.type T)) (ha:PA X (e::es) t) (hn:autoParam (x≠"__name__") aEv._auto_1) (hdb:autoParam ('B'=aJ) aEv._auto_1)
  (he:autoParam (eS (e::es) X.env=(aJ,eval e X.env)::eS es X.env) aGh._auto_1) (hpl:autoParam ((mD pos<|eS es X.env).any (·.1)=aJ) aGh._auto_1):PE X (.Call (.Name x p) (e::es) [] pos) (KW r t):=by
 intro ap s a H Q I h;exact iz<|fc I hg hm hv (Hd (bG (ha pos ap s a H _ I h) λus s1 ⟨b,H1,c,d,f⟩=>hc ap s1 a H1 b us Q c d f) he hpl) hn hdb
end
end L2
namespace HT
open PySem PyProof.Rows
variable {Q:Value->aK->Prop}{hi:AG}{vl vu:Value}
section
open PySem.SeqAt
open PySem.AutoSeq1 (wpAny_loadPart')
open PySem.MeetsSeq PySem.MeetsSeq2 PySem.MeetsSeq3
end
section
variable {prog:cC}{w:bV}{A:cM}{E:Value->aK->Prop}{s:aK}
def e8{t b:Addr}{vs ws:'2'}(ht:IsTup s.heap t vs.toArray)(hb:IsTup s.heap b ws.toArray)(hv:vs≠[])
  (h1:ws=[]->Q (.ref t) s)(h2:ws≠[]->Q (.ref s.heap.objs.size) { s with heap:=s.heap.push { cls:=.type "tuple",data:=.seq (vs++ws).toArray } })
  (hsz:B3 vs+B3 ws<=sizeLine):aT (aZ prog w) A (fL .Add (.ref t)<|.ref b) Q E s:=by
 obtain⟨⟨cls,dd,data,sl⟩,h,i,n,hd⟩:=id ht;obtain⟨⟨j,c,data2,d⟩,a,f,k,g⟩:=id hb;simp only at i hd f g;subst i hd f g;have e:vs.toArray++ws.toArray=(vs++ws).toArray:=by simp
 by_cases hw:ws=[]
 .exact Vg ⟨_,h,rfl⟩ ⟨_,a,rfl⟩ Vl Vo Ul Ui (Uh _ _)
   (tuple_addW1 t b vs.toArray ws.toArray n k dd c sl d (by left) (by simp[hw])) ⟨h,a,h1 hw⟩
 .refine Vg ⟨_,h,rfl⟩ ⟨_,a,rfl⟩ Vl Vo Ul Ui (Uh _ _)
   (tuple_addW2 t b vs.toArray ws.toArray n k dd c sl d (by left) (by left) (by left)) ⟨h,a,?_⟩
  rw[e];exact h2 hw
def cA(n d:Nat):'+'->Nat
 |none=>d
 |some v=>if v<0 then(v+(n:Int)).toNat else min v.toNat n
theorem Ek(n d:Nat):cA n d aD=d:=rfl
theorem yW(n d k:Nat):cA n d (aA (k:Int))=min k n:=by show(if k<0 then(k+(n:Int)).toNat else min (k:Int).toNat n)=min k n;rw[if_neg (by lia),uL]
def bAb(n d:Nat)(hd:d<=n)(o:'+'):cA n d o<=n:=by
 cases o with
 |none=>exact hd|some v=>
  show(if v<0 then(v+n).toNat else min v.toNat n)<=n;by_cases a:v<0
  .grind
  .rw[if_neg a];exact Tz _ _
def Yt(v:Int)(n d:Nat):(if v<0 then max (v+(n:Int)) 0 else min v (n:Int))=((cA n d (aA v):Nat):Int):=by
 show(if v<0 then max (v+n) 0 else min v n)=(((if v<0 then(v+n).toNat else min v.toNat n):Nat):Int);by_cases hv:v<0
 .grind
 .grind
def SW(lo hi:'+')(n:Nat):Sj lo hi 1 (n:Int)=(((cA n 0 lo:Nat):Int),((cA n n hi:Nat):Int)):=by
 have h1:¬(1<0):=by lia
 unfold Sj;refine Ud ?_ ?_
 .cases lo with
  |none=>rfl|some v=>exact Yt v n 0
 .cases hi with
  |none=>rfl|some v=>exact Yt v n n
def aFq(i j:Nat):Fv (i:Int) (j:Int) 1=j-i:=by
 unfold Fv;have a:(1:Int) > 0:=by lia
 simp only[a,if_true,Int.ediv_one];split<;>lia
def KD{v:Value}{o:'+'}{Q:'+'->aK->Prop}(p:zN v o)(h:Q o s):aT (aZ prog w) A (Builtin.Slice.slicePartIndex v) Q E s:=by
 cases p with
 |none=>exact RS h|int i t=>exact slicePart_int h
def aOx{sl:Addr}{lo:'+'}{n:Nat}{Q:Int×Int×Nat->aK->Prop}(hs:s.heap.IsSliceOf sl vl vu .none)(pl:zN vl lo)(pu:zN vu hi)
  (h:Q (((cA n 0 lo:Nat):Int),1,cA n n hi-cA n 0 lo) s):aT (aZ prog w) A (Builtin.Slice.sliceApplied (.ref sl)<|pure (n:Int)) Q E s:=by
 obtain⟨os,a,c,b⟩:=id hs;refine aR<|aR<|lC a b (x:=vl) rfl<|aR<|lC a b (x:=vu) rfl<|aR<|lC a b rfl<|cH ?_;refine aR<|RS ?_;refine aR<|KD pl<|aR<|KD pu<|aR<|cH ?_;show aT _ _ (match Sj lo hi 1 n with|(lo,hi)=>pure (lo,(1:Int),Fv lo hi 1)) _ _ s;rw[SW lo hi n];show aT _ _ (pure (((cA n 0 lo:Nat):Int),1,Fv ((cA n 0 lo:Nat):Int) ((cA n n hi:Nat):Int) 1)) _ _ s;rw[aFq];exact cH h
def aFg(xs:AR)(i k:Nat):((Tp k).filterMap λ(m:Nat)=>xs[((i:Int)+(m:Int)*1).toNat]?).toArray=((xs.toList.drop i).take k).toArray:=by
 have e:(λ(m:Nat)=>xs[(i+(m:Int)*1).toNat]?)=λm=>xs[i+m]?:=by grind
 rw[e];have:=pick_run xs i k;rw[List.filterMap_map]at this;have a:((λx=>xs[x]?) ∘ λx=>i+x)=λm=>xs[i+m]?:=rfl;rw[a]at this;rw[this]
def O0{t sl:Addr}{items:AR}{lo:'+'}(ht:IsTup s.heap t items)(hs:s.heap.IsSliceOf sl vl vu .none)(pl:zN vl lo)(pu:zN vu hi)
  (hw:¬(cA items.size 0 lo=0/\cA items.size items.size hi=items.size))
  (h:Q (.ref s.heap.objs.size) { s with heap:=s.heap.push { cls:=.type "tuple",data:=.seq ((items.toList.drop<|cA items.size 0 lo).take (cA items.size items.size hi-cA items.size 0 lo)).toArray } })
  (hsz:items.size<=sizeLine):aT (aZ prog w) A (ip (.ref t)<|.ref sl) Q E s:=by
 have a:sizeOk (.seq ((items.toList.drop<|cA items.size 0 lo).take (cA items.size items.size hi-cA items.size 0 lo)).toArray):=by show((items.toList.drop<|cA items.size 0 lo).take (cA items.size items.size hi-cA items.size 0 lo)).toArray.size<=sizeLine;rw[wR,oH,Gp,gq];omega
 obtain⟨os,b,c,f⟩:=id hs;have d:s.TypeIs (.ref sl) "slice":=⟨os,b,c⟩;unfold ip;try with_reducible refine jc ?_
 first|refine aR<|cH ?_|skip
 refine aR<|wpAny_sequenceKey ht.typeIs (rfl) ?_;refine aR (ja ht.typeIs QJ
  (jb QJ ht.typeIs entry_tuple_getitem ?_<|args_tuple_getitem _ _))
 show aT _ _ (Builtin.Tuple.tupleItemsOf (.ref t)>>=_) _ _ s;refine aR<|tupleItemsOf_ ht ?_;refine aR<|wpAny_typeOf d ?_;refine aR<|aOx hs pl pu ?_;have e:¬((((cA items.size 0 lo:Nat):Int)==0&&(1:Int)==1&&(cA items.size items.size hi-cA items.size 0 lo)==items.size)=aB):=by grind
 show aT _ _ (if(((cA items.size 0 lo:Nat):Int)==0&&1==1&&(cA items.size items.size hi-cA items.size 0 lo)==items.size)=aB then _ else _) _ _ s;rw[if_neg e,aFg];first
  |exact aR<|uQ (cH ⟨_,rfl,cH h⟩) a|exact aR<|uQ (aR<|cH<|cH ⟨_,rfl,cH h⟩) a|exact aR<|aR<|uQ (cH<|cH ⟨_,rfl,cH h⟩) a|exact aR<|aR<|uQ (cH ⟨_,rfl,cH h⟩) a
end
end HT
namespace L2
open PySem PySem.Spec PyProof.Rows
variable {H:Hp}{T:String}{X:Cx}{e:aI}{i:Int}{its its':A5}{j n t':Nat}{p:Addr}{ap:BA}{pos:Pos}{r:V->AG->AG->Hp->VK->Prop}{s:aK}{u v:Value}{x y:V}{xs ys:AJ}{Z:St}
abbrev TO:=St->Hp->('+'->Hp->Prop)->Prop
def PO(X:Cx)(e:Option aI)(t:TO):Prop:=
 ∀(ap:'7') (s:aK) (Z:St) (H:Hp) (Q:'+'->Hp->Prop),'&'->t Z H Q ->
  aT '1' X.A (evalPart e X.env) (λu s'=>∃o H',D3 X ap Z H' s'/\zN u o/\Q o H') X.xe s
def aRd:TO:=λ_ H Q=>Q aD H
def aRi(t:TE):TO:=λZ H Q=>t Z H λx H1=>∃i,x = .int i/\Q (aA i) H1
section
variable {te:TE}{lo hi:Option aI}{tl th:TO}{p2:Pos}
def aFu:PO X aD aRd:=by intro ap s Z H Q I h;exact cH ⟨aD,H,I,.none,h⟩
def aFv(h:PE X e te):PO X (aA e) (aRi te):=by intro ap s a H Q I hw;refine bG (h ap s a H _ I hw) λu s1 b=>?_;obtain⟨x,H1,c,d,f⟩:=b;obtain⟨i,rfl,q⟩:=f;obtain⟨t,rfl⟩:=d;exact⟨aA i,H1,c,.int i t,q⟩
def ay(X:Cx)(r:V->'+'->'+'->Hp->VK->Prop):Prop:=
 ∀(ap:'7') (s:aK) (Z:St) (H:Hp) (x:V) (v vl vu:Value) (lo hi:'+') (sl:Addr) (Q:VK),'&'->D6 x v->s.heap.IsSliceOf sl vl vu .none->zN vl lo->zN vu hi->r x lo hi H Q ->
  ∃T id,typeLookup (.type T) "__getitem__"=pure (aA<|.builtin id)/\s.TypeIs v T/\aT '1' X.A (ip v<|.ref sl) (EP X ap Z Q) X.xe s
def ay.or{r':V->'+'->'+'->Hp->VK->Prop}(h:ay X r)(h':ay X r'):ay X (λx lo hi H Q=>r x lo hi H Q\/r' x lo hi H Q):=by
 intro ap s a H x v b c lo hi sl Q I d e pl pu q;rcases q with q|q
 .exact h ap s a H x v b c lo hi sl Q I d e pl pu q
 .exact h' ap s a H x v b c lo hi sl Q I d e pl pu q
def tSl(r:V->'+'->'+'->Hp->VK->Prop)(te:TE)(tl th:TO):TE:=λZ H Q=>te Z H λx H1=>tl Z H1 λl H2=>th Z H2 λu H3=>r x l u H3 Q
def aEr(hr:ay X r)(he:PE X e te)(hl:PO X lo tl)(hu:PO X hi th):PE X (.Subscript e (.Slice lo hi aD p2) pos) (tSl r te tl th):=by intro ap s a H Q I h;refine Subscript_<|bG (he ap s a H _ I h) λv s1 d=>?_;obtain⟨x,H1,j,k,m⟩:=d;refine wpAny_Slice<|bG (hl ap s1 a H1 _ j m) λf s2 ⟨l,n,o,pl,p⟩=>bG (hu ap s2 a n _ o p) λg c d=>?_;obtain⟨u,i,t,pu,w⟩:=d;refine cH ?_;have y:D3 X ap a i { c with heap:=c.heap.push { cls:=.type "slice",data:=.fields #[f,g,.none] } }:=t.E6 λb ob q=>cX _ q;obtain⟨T,id,z,ht,A⟩:=hr ap { c with heap:=c.heap.push { cls:=.type "slice",data:=.fields #[f,g,.none] } } a i x v f g l u c.heap.objs.size Q y k (Heap.IsSliceOf.new ..) pl pu w;exact tail_any ht z A (by with_unfolding_all rfl)
def jw(xs:AJ)(lo hi:'+'):AJ:=(xs.drop<|HT.cA (B3 xs) 0 lo).take (HT.cA (B3 xs) (B3 xs) hi-HT.cA (B3 xs) 0 lo)
def Ze(xs:AJ)(lo hi:'+'):B3 (jw xs lo hi)<=B3 xs:=by unfold jw;rw[oH,Gp];lia
def aNl(K:bN):V->'+'->'+'->Hp->VK->Prop:=λx lo hi H Q=>∃a xs,x = .ref a/\fU K H a xs /\
 ¬(HT.cA (B3 xs) 0 lo=0/\HT.cA (B3 xs) (B3 xs) hi=B3 xs)/\∀p,H p=aD->Q (.ref p) (D4 H p<|.tup<|jw xs lo hi)
def aOw:ay X (aNl X.K):=by intro ap s Z H x v vl vu lo hi sl Q I rx hs pl pu h;obtain⟨a,xs,rfl,hx,hw,q⟩:=h;cases rx;obtain⟨its,r,ht,hz⟩:=I.tuple hx;have hlen:its.toArray.size=B3 xs:=r.length.symm;refine⟨"tuple",_,PyProof.Rows.slot_tuple_getitem.lookup,ht.typeIs,?_⟩;refine HT.O0 ht hs pl pu (hlen▸hw) ?_ (by left);rw[hlen];refine⟨.ref s.heap.objs.size,_,I.F1 (λb ob q=>cX _ q) (aW _) ?_,rfl,q _ (I.bB.fresh<|aW _)⟩;exact⟨dF (Ze xs lo hi) hz,_,(r.drop<|HT.cA (B3 xs) 0 lo).take (HT.cA (B3 xs) (B3 xs) hi-HT.cA (B3 xs) 0 lo),Ge _ _⟩
def aMz(K:bN):R2:=λx y H Q=>∃a b xs ys,x = .ref a/\y = .ref b/\fU K H a xs/\fU K H b ys/\xs≠[]/\B3 xs+B3 ys<=sizeLine /\
 (ys=[]->Q (.ref a) H)/\(ys≠[]->∀p,H p=aD->Q (.ref p) (D4 H p<|.tup<|xs++ys))
def D5.Ms{us:'2'}(r:D5 xs us):us=[]↔xs=[]:=by
 cases r with
 |nil=>simp|cons _ _=>simp
def aBu:cY X (fL .Add) (aMz X.K):=by intro ap s Z H x y v u Q I f g h;obtain⟨a,b,xs,ys,rfl,rfl,ha,hb,i,hz,j,k⟩:=h;cases f;cases g;obtain⟨its,d,p1,_⟩:=I.tuple ha;obtain⟨e,c,p2,_⟩:=I.tuple hb;refine HT.e8 p1 p2 (λz=>i (d.Ms.1 z)) (λz=>⟨.ref a,H,I,rfl,j (c.Ms.1 z)⟩) (λz=>?_) (by simp_all[d.length,c.length]);refine⟨.ref s.heap.objs.size,_,I.F1 (λb ob q=>cX _ q) (aW _) ?_,rfl,k (λw=>z (c.Ms.2 w)) _ (I.bB.fresh<|aW _)⟩;exact⟨by left,_,d.append c,Ge _ _⟩
end
def iS(n:Nat)(i:Int):AS:=if 0<=i then(if i<n then aA i.toNat else aD) else if -(n:Int)<=i then aA (i+n).toNat else aD
def cZ{α:Type}(xs:List α)(i:Int):Option α:=(iS (B3 xs) i).bind λj=>xs[j]?
def DO(h:iS n i=aA j):seqIndex? i n=aA j/\j<n/\-(n:Int)<=i/\i<n:=by
 unfold iS at h;by_cases h0:0<=i
 .rw[if_pos h0]at h;by_cases a:i<n
  .rw[if_pos a]at h;have e:=cR h;exact⟨by rw[Vn h0 a,e],by lia,by lia,a⟩
  .simp_all
 .rw[if_neg h0]at h;by_cases a:-n<=i
  .rw[if_pos a]at h;have e:=cR h;exact⟨by rw[seqIndex_neg (by lia) a,e],by lia,a,by lia⟩
  .simp_all
def Xc{α:Type}{xs:List α}{v:α}(h:cZ xs i=aA v):∃j,seqIndex? i (B3 xs)=aA j/\xs[j]?=aA v/\j<B3 xs/\-(B3 xs:Int)<=i/\i<B3 xs:=by
 unfold cZ at h;cases e:iS (B3 xs) i with
 |none=>left|some j=>rw[e]at h;obtain⟨a,b,c,d⟩:=DO e;exact⟨j,a,h,b,c,d⟩
def xP{α:Type}{xs:List α}{v:α}(h:xs[j]?=aA v):cZ xs (j:Int)=aA v:=by
 have hj:=(dk.1 h).1;have e:iS (B3 xs) j=aA j:=by unfold iS;rw[if_pos (by lia),if_pos (by lia)];simp
 unfold cZ;rw[e];exact h
def Ig(b:aI):Prop:=∀o i,Vq b aJ o i=operate [o,i] (ip o i)
def uS(X:Cx)(r:R2):Prop:=
 ∀(value slice:aI) (ap:'7') (s:aK) (Z:St) (H:Hp) (x y:V) (v u:Value) (Q:VK),'&'->D6 x v->D6 y u->r x y H Q ->
  Vq slice aJ v u=operate [v,u] (ip v u)->aT '1' X.A (subscriptTail value slice v u) (EP X ap Z Q) X.xe s
def Wm(X:Cx)(id:String)(r:V->AJ->Hp->VK->Prop):Prop:=
 ∀(ap:'7') (s:aK) (Z:St) (H:Hp) (x:V) (xs:AJ) (v:Value) (us:'2') (Q:VK),'&'->D6 x v->D5 xs us->r x xs H Q ->
  aT '1' X.A (call (.builtin id)<|v::us) (EP X ap Z Q) X.xe s
section
variable {a b:aI}{ta tb:TE}
def uS.or{r r':R2}(h:uS X r)(h':uS X r'):uS X (λx y H Q=>r x y H Q\/r' x y H Q):=by
 intro value slice ap s a H x y v u Q I b c q d;rcases q with q|q
 .exact h value slice ap s a H x y v u Q I b c q d
 .exact h' value slice ap s a H x y v u Q I b c q d
def aEg{r:R2}(hr:uS X r)(ha:PE X a ta)(hb:PE X b tb)(hs:Ig b):PE X (.Subscript a b pos) (Eu r ta tb):=by intro ap s c H Q I h;exact Subscript_<|Ip ha hb I h λv u s2 x y d e f g q=>hr a b ap s2 c d x y v u Q e f g q (hs _ _)
def aNe(K:bN):R2:=λx y H Q=>∃p xs i v,x = .ref p/\y = .int i/\eB K H p xs/\cZ xs i=aA v/\Q v H
def aNf(K:bN):R2:=λx y H Q=>∃p xs i v,x = .ref p/\y = .int i/\fU K H p xs/\cZ xs i=aA v/\Q v H
def U9:uS X (aNe X.K):=by
 intro value slice ap s e H x y v u Q I f g h d;obtain⟨p,xs,i,z,rfl,rfl,k,he,q⟩:=h;cases f;obtain⟨t,rfl⟩:=g;obtain⟨b,r,pl,A⟩:=I.list k;obtain⟨j,a,l,B,m,n⟩:=Xc he;obtain⟨w,C,c⟩:=r.get l;have hl:=r.length;have hn:=Cs;have fin:EP X ap e Q w s:=⟨z,H,I,c,q⟩;by_cases h0:0<=i
 .have o:i.toNat=j:=by rw[Vn h0 n]at a;exact cR a
  exact item_listR pl.isList h0 (by lia) (by left) fin d
 .have o:(i+(b.toArray.size:Int)).toNat=j:=by rw[seqIndex_neg '!' m]at a;rw[wR,<- hl];exact cR a
  exact RT pl.isList.typeIs slot_list_getitem.lookup
   (wpAny_getItem_list_neg pl.isList '!' (by left) (by lia) (by left) ⟨rfl,fin⟩) d
def V0:uS X (aNf X.K):=by
 intro value slice ap s Z H x y v u Q I rx ry h hs;obtain⟨p,xs,i,z,rfl,rfl,hq,he,q⟩:=h;cases rx;obtain⟨t,rfl⟩:=ry;obtain⟨its,r,pl,hz⟩:=I.tuple hq;obtain⟨j,h1,h2,h3,h4,h5⟩:=Xc he;obtain⟨w,ew,rw'⟩:=r.get h2;have hl:=r.length;have hn:=Cs;have fin:EP X ap Z Q w s:=⟨z,H,I,rw',q⟩;exact RT (x:=w) pl.typeIs slot_tuple_getitem.lookup
  (getItem_tuple (j:=j) (Q:=λr s'=>r=w/\EP X ap Z Q r s') pl '!' '!' (by rw[wR,<- hl];exact h1) (by simpa using ew) ⟨rfl,fin⟩) hs
def Z8(its:'2')(n j:Nat)(u:Value):yt (·.setIfInBounds j u) { cls:=.type "list",data:=.seq its.toArray n }={ cls:=.type "list",data:=.seq (its.set j u).toArray n }:=by simp[yt]
theorem D3.l(I:'&')(h:H p=aA (.l xs)) :
  ∃(its:'2') (n:Nat),D5 xs its/\s.heap.get? p=aA { cls:=.type "list",data:=.seq its.toArray n }/\B3 xs<=sizeLine:=by
 obtain⟨z,its,n,r,e⟩:=I.bB p _ h;exact⟨its,n,r,e,z⟩
def D3.Z3{n':Nat}{f:Obj->Obj}(I:'&')(h:H p=aA (.l xs))
  (ho:s.heap.get? p=aA { cls:=.type "list",data:=.seq its.toArray n })(hf:f { cls:=.type "list",data:=.seq its.toArray n }={ cls:=.type "list",data:=.seq its'.toArray n' })(r:D5 ys its')(hz:B3 ys<=sizeLine)(t:Nat) :
  D3 X ap Z (D4 H p<|.l ys) { s with heap:=s.heap.update p f,toks:=t }:=by
 have e:(s.heap.update p f).get? p=aA { cls:=.type "list",data:=.seq its'.toArray n' }:=by rw[yh f ho (by rw[hf]<;>rfl),hf]
 refine I.write (by rw[h];trivial) (.inl rfl) (λb u hb q=>(gw _ _<|lM hb).trans q) ⟨_,e⟩ ?_;exact⟨hz,its',n',r,e⟩
def JM:V->V->V->Hp->(Hp->Prop)->Prop:=λo i v H Q=>∃p xs k j,o = .ref p/\i = .int k/\H p=aA (.l xs)/\iS (B3 xs) k=aA j/\Q (D4 H p<|.l<|xs.set j v)
def aOl:Ie X JM:=by
 intro ap s g H o i v A B u Q I l m w h;obtain⟨p,xs,k,j,rfl,rfl,e,x,q⟩:=h;cases l;obtain⟨t,rfl⟩:=m;obtain⟨a,n,r,c,C⟩:=I.l e;obtain⟨b,D,y,z⟩:=DO x;have hl:=r.length;have hn:=Cs;have f:D3 X ap g (D4 H p<|.l<|xs.set j v) { s with heap:=s.heap.update p (yt (·.setIfInBounds j u)) }:=
  I.Z3 e c (Z8 a n j u) (r.set w j) (by left) s.toks
 by_cases h0:0<=k
 .have d:k.toNat=j:=by rw[Vn h0 z]at b;exact cR b
  exact W.ki_setAt c h0 (by lia) (by left) (by rw[d];exact⟨_,f,q⟩)
 .have d:(k+(a.toArray.size:Int)).toNat=j:=by rw[seqIndex_neg '!' y]at b;rw[wR,<- hl];exact cR b
  exact W.ki_setBack c '!' (by left) (by lia) (by rw[d];exact⟨_,f,q⟩)
def aOz(lo hi:'+')(n:Nat):(iu lo hi aD n).1=((HT.cA n 0 lo:Nat):Int)/\(iu lo hi aD n).2.1=((HT.cA n n hi:Nat):Int)/\(iu lo hi aD n).2.2=1:=by
 refine⟨?_,?_,rfl⟩
 .cases lo with
  |none=>simp[iu,HT.cA]|some i=>
   simp only[iu,HT.cA,QF,show(1:Int) > 0 by decide,if_true];by_cases h:i<0
   .simp only[h,if_true]<;>omega
   .simp only[h,if_false]<;>omega
 .cases hi with
  |none=>simp[iu,HT.cA]|some i=>
   simp only[iu,HT.cA,QF,show(1:Int) > 0 by decide,if_true];by_cases h:i<0
   .simp only[h,if_true]<;>omega
   .simp only[h,if_false]<;>omega
def aOy(its:'2')(lo hi:'+'):slicePick its.toArray lo hi aD=((its.drop<|HT.cA (B3 its) 0 lo).take (HT.cA (B3 its) (B3 its) hi-HT.cA (B3 its) 0 lo)).toArray:=by obtain⟨a,b,c⟩:=aOz lo hi its.toArray.size;unfold slicePick;rw[a,b,c];simp only[sliceRange_one,pick_run]<;>rfl
def aNk(K:bN):V->'+'->'+'->Hp->VK->Prop:=λx lo hi H Q=>∃a xs,x = .ref a/\eB K H a xs/\∀p,H p=aD->Q (.ref p) (D4 H p<|.l<|jw xs lo hi)
def aOv:ay X (aNk X.K):=by intro ap s Z H x v vl vu lo hi sl Q I rx hs pl pu h;obtain⟨a,xs,rfl,hx,q⟩:=h;cases rx;obtain⟨its,r,ht,hz⟩:=I.list hx;have hlen:=r.length;refine⟨"list",_,slot_list_getitem.lookup,ht.isList.typeIs,?_⟩;refine wpAny_getItem_list_slice ht.isList hs pl pu .none (by simp) ?_ (by grind);rw[aOy,<- hlen];refine⟨.ref s.heap.objs.size,_,I.F1 (λb ob q=>cX _ q) (aW _) ?_,rfl,q _ (I.bB.fresh<|aW _)⟩;exact⟨dF (Ze xs lo hi) hz,_,0,(r.drop<|HT.cA (B3 xs) 0 lo).take (HT.cA (B3 xs) (B3 xs) hi-HT.cA (B3 xs) 0 lo),gS _ rfl⟩
def tI:V->Bool
 |.aG=>aB
 |.bl _=>aB
 |.int _=>aB
 |.str _=>aB
 |_=>aJ
def vC:V->V->Bool
 |.aG,.aG=>aB
 |.bl a,.bl b=>a==b
 |.bl a,.int b=>(if a then 1 else 0)==b
 |.int a,.bl b=>a==(if b then 1 else 0)
 |.int a,.int b=>a==b
 |.str a,.str b=>a==b
 |_,_=>aJ
def v9{A:cM}(ry:D6 y u)(rx:D6 x v)(fy:tI y=aB)(fx:tI x=aB):SeqAt.EqAt A s u v (vC y x):=by
 cases y with
 |aG=>
  cases ry;cases x with
  |aG=>cases rx;exact SeqAt.EqAt.same _|bl b=>cases rx;exact SeqAt.EqAt.none_bool b|int b=>obtain⟨t,rfl⟩:=rx;exact SeqAt.EqAt.none_int b t|str b=>obtain⟨t,rfl⟩:=rx;exact SeqAt.EqAt.none_str b t|_=>exact absurd (show aJ=aB from fx) iA
 |bl a=>
  cases ry;cases x with
  |aG=>cases rx;exact SeqAt.EqAt.bool_none a|bl b=>cases rx;exact SeqAt.EqAt.bool_bool a b|int b=>obtain⟨t,rfl⟩:=rx;exact SeqAt.EqAt.bool_int a b t|str b=>obtain⟨t,rfl⟩:=rx;exact SeqAt.EqAt.bool_str a b t|_=>exact absurd (show aJ=aB from fx) iA
 |int a=>
  obtain⟨c,rfl⟩:=ry;cases x with
  |aG=>cases rx;exact SeqAt.EqAt.int_none a c|bl b=>cases rx;exact SeqAt.EqAt.int_bool a c b|int b=>obtain⟨t,rfl⟩:=rx;exact SeqAt.EqAt.int_int a c b t|str b=>obtain⟨t,rfl⟩:=rx;exact RF a c b t|_=>exact absurd (show aJ=aB from fx) iA
 |str a=>
  obtain⟨c,rfl⟩:=ry;cases x with
  |aG=>cases rx;exact SeqAt.EqAt.str_none a c|bl b=>cases rx;exact SeqAt.EqAt.str_bool a c b|int b=>obtain⟨t,rfl⟩:=rx;exact RG a c b t|str b=>obtain⟨t,rfl⟩:=rx;exact SeqAt.EqAt.str_str a c b t|_=>exact absurd (show aJ=aB from fx) iA
 |_=>exact absurd (show aJ=aB from fy) iA
def mX(x:V)(u:Value):Bool:=match u with
 |.none=>vC .aG x
 |.bool b=>vC (.bl b) x
 |.int i _=>vC (.int i) x
 |.str z _=>vC (.str z) x
 |_=>aJ
def AD(r:D6 y u)(f:tI y=aB):mX x u=vC y x:=by
 cases y with
 |aG=>cases r;rfl|bl b=>cases r;rfl|int i=>obtain⟨t,rfl⟩:=r;rfl|str z=>obtain⟨t,rfl⟩:=r;rfl|_=>exact absurd (f) iA
theorem sk{x:V}:∀{xs:AJ}{us:'2'},D5 xs us->xs.all tI=aB->us.any (mX x)=xs.any λy=>vC y x
 |_,_,.nil,_=>rfl|y::xs,u::us,.cons r t,f=>by rw[lZ,bY]at f;rw[ia,ia,AD r f.1,sk t f.2]
theorem wa{A:cM}{s:aK}{x:V}{v:Value}(rx:D6 x v)(fx:tI x=aB):∀{xs:AJ}{us:'2'},D5 xs us->xs.all tI=aB->∀u∈us,SeqAt.EqAt A s u v (mX x u)
 |_,_,.nil,_=>λu hu=>by cases hu
 |y::xs,u::us,.cons r t,f=>λa hu=>by
  rw[lZ,bY]at f;rcases dT.1 hu with rfl|hu
  .rw[AD r f.1];exact v9 r rx f.1 fx
  .exact wa rx fx t f.2 a hu
def Ca(x:V)(xs:AJ):Bool:=xs.any λy=>vC y x
def JJ(K:bN)(neg:Bool):R2:=λx y H Q=>∃p xs,y = .ref p/\(eB K H p xs\/fU K H p xs)/\tI x=aB/\xs.all tI=aB/\Q (.bl<|cond neg (!Ca x xs)<|Ca x xs) H
def aCc(n:Bool):cY X (dM<|cond n .NotIn .In) (JJ X.K n):=by
 intro ap s e H x y v u Q I b c h;obtain⟨p,xs,rfl,hq,fx,fs,q⟩:=h;cases c;unfold Ca at q;rcases hq with hq|hq
 .obtain⟨a,r,pl,d⟩:=I.list hq;rw[<- sk r fs,<- z8]at q;cases n;exact SeqAt.in_listAt (mX x) pl.isList (λw hw=>wa b fx r fs w (by left)) ⟨.bl _,H,I,rfl,q⟩;exact SeqAt.notIn_listAt (mX x) pl.isList (λw hw=>wa b fx r fs w (by left)) ⟨.bl _,H,I,rfl,q⟩
 .obtain⟨a,r,pl,d⟩:=I.tuple hq;rw[<- sk r fs,<- z8]at q;cases n;exact SeqAt.in_tupleAt (mX x) pl (λw hw=>wa b fx r fs w (by left)) ⟨.bl _,H,I,rfl,q⟩;exact SeqAt.notIn_tupleAt (mX x) pl (λw hw=>wa b fx r fs w (by left)) ⟨.bl _,H,I,rfl,q⟩
def ZY:kI X (.builtin "len") (λxs H Q=>∃p ys,xs=[.ref p]/\(eB X.K H p ys\/fU X.K H p ys)/\Q (.int (B3 ys)) H):=by
 intro ap s e H xs us Q I r h;obtain⟨p,ys,rfl,hq,q⟩:=h;obtain⟨u,rfl,c⟩:=xu r;cases c;have hn:=Cs;rcases hq with hq|hq
 .obtain⟨a,b,pl,d⟩:=I.list hq;have hlen:=b.length;exact Calls.call_len_list pl.isList (by simp only[wR]<;>omega) ⟨.int (B3 ys),H,I.tok _,⟨s.toks+1,by left⟩,q⟩
 .obtain⟨a,b,pl,d⟩:=I.tuple hq;have hlen:=b.length;exact len_tuple pl (by simp only[wR]<;>omega) ⟨.int (B3 ys),H,I.tok _,⟨s.toks+1,by left⟩,q⟩
def kI.or{f:Value}{r r':AJ->Hp->VK->Prop}(h:kI X f r)(h':kI X f r'):kI X f (λxs H Q=>r xs H Q\/r' xs H Q):=by
 intro ap s a H xs us Q I rs q;rcases q with q|q
 .exact h ap s a H xs us Q I rs q
 .exact h' ap s a H xs us Q I rs q
def b7:kI X (.type "list") (λxs H Q=>∃p ys,xs=[.ref p]/\(eB X.K H p ys\/fU X.K H p ys)/\∀l,H l=aD->Q (.ref l) (D4 H l<|.l ys)):=by
 intro ap s m H xs us Q I r h;obtain⟨p,ys,rfl,hq,q⟩:=h;obtain⟨u,rfl,t⟩:=xu r;cases t;have fin:∀a,D5 ys a->B3 ys<=sizeLine->∀c d,(∀b k,s.heap.get? b=aA k->c.get? b=aA k) ->
   c.get? s.heap.objs.size=aA { cls:=.type "list",dict:=aD,data:=.seq a.toArray d,slots:=#[] }->EP X ap m Q (.ref s.heap.objs.size) { s with heap:=c }:=λa f g c d kp e=>
  ⟨.ref s.heap.objs.size,_,I.F1 kp (aW _) (show iB X.prog X.w _ c _ (.l ys) from⟨g,a,d,f,e⟩),rfl,q _ (I.bB.fresh<|aW _)⟩
 rcases hq with hq|hq
 .obtain⟨a,f,pl,g⟩:=I.list hq;have hlen:=f.length;obtain⟨o,i,j,n,hd⟩:=pl.isList;exact RM p (.inl rfl) i j hd (λc d kp e=>fin a f g c d kp e) (by left)
 .obtain⟨a,f,pl,g⟩:=I.tuple hq;have hlen:=f.length;obtain⟨o,i,j,n,hd⟩:=pl;exact RM p (.inr rfl) i j hd (λc d kp e=>fin a f g c d kp e) (by simp only[wR]<;>lia)
def d8:kI X (.type "tuple") (λxs H Q=>∃p ys,xs=[.ref p]/\((eB X.K H p ys/\∀l,H l=aD->Q (.ref l) (D4 H l<|.tup ys))\/(fU X.K H p ys/\Q (.ref p) H))):=by
 intro ap s g H xs us Q I r h;obtain⟨p,ys,rfl,h⟩:=h;obtain⟨u,rfl,k⟩:=xu r;cases k;rcases h with⟨d,q⟩|⟨d,q⟩
 .obtain⟨a,f,pl,i⟩:=I.list d;have hlen:=f.length;refine call_tuple_list pl.isList (λc kp=>?_) (by left);have j:D3 X ap g H { s with heap:=c }:=I.E6 kp;have m:D3 X ap g (D4 H c.objs.size<|.tup ys) { s with heap:=c.push { cls:=.type "tuple",data:=.seq a.toArray } }:=
   j.F1 (λb o e=>cX _ e) (aW _) (show iB X.prog X.w _ _ _ (.tup ys) from⟨i,a,f,Ge _ _⟩)
  exact⟨.ref c.objs.size,_,m,rfl,q _ (j.bB.fresh<|aW _)⟩
 .obtain⟨a,f,pl,i⟩:=I.tuple d;exact call_tuple_same pl ⟨.ref p,H,I,rfl,q⟩
def Qu(K:bN)(T:String)(x:V)(H:Hp):Prop:=match x with
 |.str _=>T="str"
 |.int _=>T="int"
 |.ref p=>(T="list"/\∃xs,eB K H p xs)\/(T="tuple"/\∃o,K.lookup p=aA o/\o.cls = .type "tuple"/\o.dict=aD) \/
  (T="dict"/\∃kvs,H p=aA (.dK kvs))
 |_=>False
def LX(I:'&')(r:D6 x v)(ty:Qu X.K T x H) :
  s.TypeIs v T/\∀a,v = .ref a->∃ob,s.heap.get? a=aA ob/\ob.dict=aD:=by
 cases x with
 |str z=>obtain⟨t,rfl⟩:=r;cases(ty);exact⟨typeIs_str s z t,nofun⟩
 |int i=>obtain⟨t,rfl⟩:=r;cases(ty);exact⟨Vr s i t,nofun⟩
 |ref p=>
  cases r;rcases ty with⟨rfl,xs,g⟩|⟨rfl,o,b,h,hd⟩|⟨rfl,d,b⟩
  .obtain⟨j,_,pl,_⟩:=I.list g;refine⟨pl.isList.typeIs,λa e=>?_⟩;cases e;obtain⟨o,n,e,c,hd,_⟩:=pl;exact⟨o,e,hd⟩
  .refine⟨⟨o,I.fP p o b,h⟩,λa e=>?_⟩;cases e;exact⟨o,I.fP _ o b,hd⟩
  .obtain⟨_,_,_,_,o,_,_,e,ex,_⟩:=I.bB p _ b;refine⟨⟨o,e,ex.1⟩,λa f=>?_⟩;cases f;exact⟨o,e,ex.2.1⟩
 |_=>exact lY ty
def aQr(K:bN)(T:String)(r:V->AJ->Hp->VK->Prop)(to:TE):TE:=λZ H Q=>to Z H λx H1=>Qu K T x H1/\r x [] H1 Q
def tBM(K:bN)(T:String)(r:V->AJ->Hp->VK->Prop)(to:TE)(t:TA):TE:=λZ H Q=>to Z H λx H1=>Qu K T x H1/\t Z H1 λxs H2=>r x xs H2 Q
variable {o:aI}{es:List aI}{to:TE}{t:TA}{name:Str}{apos tD:Pos}{id:String}{r:V->AJ->Hp->VK->Prop}
def GW(pa:PlainAttrs T) (D9:Slot T name id) (hty:typeOf (.builtin id)=pure (.type "method_descriptor")) (hm:Wm X id r) (ho:PE X o to)
  (La:autoParam (rh o name X.env (eval o X.env)=eval o X.env) aGh._auto_1) (Le:autoParam ((apos.endLine==tD.line)=aB) aGh._auto_1):PE X (.Call (.Attribute o name apos) [] [] tD) (aQr X.K T r to):=by
 intro ap s a H Q I h;refine wpAny_Call_method0_late La Le<|bG (ho ap s a H _ I h) λv s1 d=>?_;obtain⟨x,H1,b,c,ty,e⟩:=d;obtain⟨f,g⟩:=LX b c ty;exact⟨T,id,pa,D9,hty,f,g,Sk rfl (PySem.evalArgs_none<|hm ap s1 a H1 x [] v [] Q b c .nil e)⟩
def GV(pa:PlainAttrs T) (D9:Slot T name id) (hty:typeOf (.builtin id)=pure (.type "method_descriptor")) (hm:Wm X id r) (ho:PE X o to) (ha:PA X (e::es) t)
  (La:autoParam (rh o name X.env (eval o X.env)=eval o X.env) aGh._auto_1)
  (Q6:((mD tD<|eS (e::es) X.env).all (λx=>!x.1)&&(zY tD<|af [] X.env).all (λx=>qw x.1)
  &&decide (B3 (e::es)+B3 ([]:List pP)+(if([]:List pP).isEmpty then 0 else 1)<30))=aB:=by rfl)
  (Le:autoParam ((apos.endLine==tD.line)=aB) aGh._auto_1) (hs:autoParam (eS (e::es) X.env=(aJ,eval e X.env)::eS es X.env) aGh._auto_1) (R8:autoParam ((mD tD<|eS es X.env).any (·.1)=aJ) aGh._auto_1) :
  PE X (.Call (.Attribute o name apos) (e::es) [] tD) (tBM X.K T r to t):=by
 intro ap s a H Q I h;refine RV La Q6 Le rfl<|bG (ho ap s a H _ I h) λv s1 f=>?_;obtain⟨x,H1,b,c,ty,g⟩:=f;obtain⟨i,j⟩:=LX b c ty;refine⟨T,id,pa,D9,hty,i,j,?_⟩;have d:=ha tD ap s1 a H1 _ b g;rw[hs]at d ⊢;exact Sk (by show(aJ||(mD tD<|eS es X.env).any (·.1))=aJ;rw[R8]<;>rfl)<|NN<|bG d λus s2 ⟨k,l,m,n,p⟩=>hm ap s2 a l x k v us Q m c n p
end
def xI(X:Cx)(id:String)(r:V->AJ->Hp->VK->Prop):Prop:=
 ∀(ap:'7') (s:aK) (Z:St) (H:Hp) (x:V) (xs:AJ) (v:Value) (us:'2') (Q:VK),'&'->D6 x v->D5 xs us->r x xs H Q ->
  aT '1' X.A (call (.builtin id)<|v::us) (EP X ap Z Q) X.xe s
def D5.one:∀{x:V}{us:'2'},D5 [x] us->∃u,us=[u]/\D6 x u
 |_,_,.cons r .nil=>⟨_,rfl,r⟩
def D5.zero:∀{us:'2'},D5 [] us->us=[]
 |_,.nil=>rfl
theorem D5.dropLast{xs:AJ}{us:'2'}(h:D5 xs us):D5 xs.dropLast us.dropLast:=by
 induction h with
 |nil=>exact .nil|cons r t a=>
  cases t with
  |nil=>exact .nil|cons q b=>exact .cons r a
theorem D5.rep{xs:AJ}{us:'2'}(h:D5 xs us):∀k:Nat,D5 (fB k xs).flatten (fB k us).flatten
 |0=>.nil
 |k+1=>by exact D5.append h<|D5.rep h k
def aZn{α:Type}(l:List α):l.eraseIdx (B3 l-1)=l.dropLast:=by grind
theorem BN(its:'2'):∀(k:Nat) (acc:'2'),
  OM (λx1 x2=>x1++x2) acc.toArray (fB k its.toArray)=(acc++(fB k its).flatten).toArray
 |0,acc=>by simp
 |k+1,acc=>by
  have e:acc.toArray++its.toArray=(acc++its).toArray:=by simp
  have a:(acc++its)++(fB k its).flatten=acc++(fB (k+1) its).flatten:=by rw[PB,List.flatten_cons,wO]
  rw[<- a,<- BN its k (acc++its),<- e,PB,ON]
section
variable {l b:Addr}{zs:AJ}
def D3.Mh{f:AR->AR}(I:'&')(hH:H l=aA (.l xs))
  (e:s.heap.get? l=aA { cls:=.type "list",data:=.seq its.toArray n })(hf:f its.toArray=its'.toArray)(hv:D5 ys its')(hz:B3 ys<=sizeLine) :
  D3 X ap Z (D4 H l<|.l ys) { s with heap:=s.heap.update l (yt f),toks:=t' }:=by
 have q:=PySem.IsL.update e f;rw[hf]at q;refine I.write (hH▸trivial) (.inl rfl) (λb u hb a=>(gw s.heap (yt f)<|lM hb).trans a) ⟨_,q⟩ ?_;exact⟨hz,its',_,hv,q⟩
def D3.EU(I:'&')(hv:D5 ys its)(hz:B3 ys<=sizeLine) :
  D3 X ap Z (D4 H s.heap.objs.size<|.l ys) { s with heap:=s.heap.push { cls:=.type "list",data:=.seq its.toArray },toks:=t' }:=
 I.F1 (λ_ _ q=>cX _ q) (aW _) ⟨hz,its,0,hv,gS _ rfl⟩
theorem D3.fresh(I:'&'):H s.heap.objs.size=aD:=I.bB.fresh (aW _)
def D3.tU(I:'&')(hH:H l=aA (.l xs)):B3 xs<=sizeLine/\∃(its:'2') (n:Nat),D5 xs its/\B3 xs=B3 its/\s.heap.get? l=aA { cls:=.type "list",data:=.seq its.toArray n }:=by obtain⟨z,its,n,r,e⟩:=I.bB l _ hH;exact⟨z,its,n,r,r.length,e⟩
def aBj(h:n<=sizeLine):Si n=aJ:=by grind [Si]
end
def JC:V->AJ->Hp->VK->Prop:=λx vs H Q=>∃l xs y,x = .ref l/\vs=[y]/\H l=aA (.l xs)/\B3 xs<sizeLine/\Q .aG (D4 H l<|.l<|xs++[y])
def aAk:xI X "list.append" JC:=by intro ap s g H x i v us Q I c d h;obtain⟨l,xs,y,rfl,rfl,b,j,q⟩:=h;cases c;obtain⟨u,rfl,f⟩:=d.one;obtain⟨z,a,n,r,hl,e⟩:=I.tU b;refine zc F.slot_list_append ⟨_,e,rfl⟩ F.entry_list_append (F.args_list_append_2 _ _) (PySem.list_append l a.toArray n u (by grind)) ⟨e,?_⟩;refine⟨.aG,_,I.Mh b e (by simp) (r.append<|.cons f .nil) ?_,rfl,q⟩;rw[dU,Te];lia
def aNh:V->AJ->Hp->VK->Prop:=λx vs H Q=>∃l xs y,x = .ref l/\vs=[]/\H l=aA (.l xs)/\xs[B3 xs-1]?=aA y/\Q y (D4 H l<|.l xs.dropLast)
def aAq:xI X "list.pop" aNh:=by
 intro ap s k H x m v us Q I f g h;obtain⟨l,xs,y,rfl,rfl,d,i,q⟩:=h;cases f;have b:=g.zero;subst b;obtain⟨z,a,n,r,hl,e⟩:=I.tU d;obtain⟨u,o,j⟩:=r.get i;have c:a.toArray[a.toArray.size-1]?=aA u:=by left
 refine zc F.slot_list_pop ⟨_,e,rfl⟩ F.entry_list_pop (F.args_list_pop_1 _) (MeetsSeq.list_pop_last l a.toArray n u c (by left)) ⟨e,?_⟩;refine⟨y,_,I.Mh d e ?_ r.dropLast ?_,j,q⟩
 .simp_all
 .rw[List.length_dropLast];lia
def aNb:V->AJ->Hp->VK->Prop:=λx vs H Q=>∃l xs,x = .ref l/\vs=[]/\H l=aA (.l xs)/\Q .aG (D4 H l<|.l [])
def aAl:xI X "list.clear" aNb:=by intro ap s g H x i v us Q I d f h;obtain⟨l,xs,rfl,rfl,c,q⟩:=h;cases d;have a:=f.zero;subst a;obtain⟨z,b,n,r,hl,e⟩:=I.tU c;refine zc F.slot_list_clear ⟨_,e,rfl⟩ F.entry_list_clear (F.args_list_clear_1 _) (AutoSeq1.list_clear_list_0 l b.toArray n (by left)) ⟨e,?_⟩;exact⟨.aG,_,I.Mh (its':=[]) (ys:=[]) c e rfl .nil (jD _),rfl,q⟩
def JD:R2:=λx y H Q=>∃l b xs zs,x = .ref l/\y = .ref b/\H l=aA (.l xs)/\H b=aA (.l zs)/\B3 xs+B3 zs<=sizeLine/\∀p,H p=aD->Q (.ref p) (D4 H p<|.l<|xs++zs)
def aBt:cY X (fL .Add) JD:=by
 intro ap s p H x y v u Q I d f h;obtain⟨l,b,xs,zs,rfl,rfl,g,i,t,q⟩:=h;cases d;cases f;obtain⟨z,c,n,r,hl,e⟩:=I.tU g;obtain⟨w,a,A,j,k,m⟩:=I.tU i;refine PySem.P.add_list e m ?_ (by left);have o:c.toArray++a.toArray=(c++a).toArray:=by simp
 rw[o];exact⟨.ref _,_,I.EU (r.append j) (by left),rfl,q _ I.fresh⟩
def aNi:R2:=λx y H Q=>∃l k xs,x = .ref l/\y = .int k/\H l=aA (.l xs)/\-(2 ^ 63)<=k/\k<2 ^ 63/\B3 xs*k.toNat<=sizeLine /\
 ∀p,H p=aD->Q (.ref p) (D4 H p<|.l (fB k.toNat xs).flatten)
def X9{α:Type}(xs:List α)(k:Nat):(fB k xs).flatten.length=k*B3 xs:=by left
def aCp:cY X (fL .Mult) aNi:=by
 intro ap s E H x y v u Q I o p h;obtain⟨l,k,xs,rfl,rfl,w,A,B,C,q⟩:=h;cases o;obtain⟨t,rfl⟩:=p;obtain⟨z,b,n,r,hl,e⟩:=I.tU w;have hlen:b.toArray.size*k.toNat<=sizeLine:=by left
 have d:¬b.toArray.size*k.toNat > (2 ^ 63-1) / 8:=by
  have:sizeLine<=(2 ^ 63-1) / 8:=by decide
  lia
 have f:¬(!Builtin.List.listFitsIndex k)=aB:=by simp_all[fitsIndex_both,A,B]
 have c:¬Si (b.toArray.size*k.toNat)=aB:=by simp_all[aBj,hlen]
 have g:OM (λi j=>i++j) #[] (fB (if b.toArray.isEmpty=aB then 0 else k.toNat) b.toArray)=(fB k.toNat b).flatten.toArray:=by
  have f0:=λm=>by have:=BN b m [];exact this
  rw[f0];cases b with
  |nil=>simp|cons a G=>left
 refine wpAny_binaryOp_repeat_ref (rfl) ⟨_,e,rfl⟩ (λD=>Vr D k t) noFill_list_mul F.fills_int_mul NS repeat_list F.slot_int_index.lookup
  (zc NS (Vr s k t) F.entry_int_rmul (F.args_int_rmul_2 _ _) (int___rmul___int_list k t l b.toArray n)
   ⟨e,rfl,⟨_,e,rfl⟩,zc F.slot_list_mul ⟨_,e,rfl⟩ F.entry_list_mul (F.args_list_mul_2 _ _) (aWv l b.toArray n k t f d c) ⟨e,?_⟩⟩)
 rw[g];exact⟨.ref _,_,I.EU (r.rep k.toNat) (by rw[X9,Nat.mul_comm];exact C),rfl,q _ I.fresh⟩
end L2
namespace Att
open PySem PySem.W PySem.Calls PyProof.Rows
variable {P:bW}{h:bK}{l:OpenLaw}{n:Nat}
def T8:∀(ns:'0') (vs:'2'),WellAll P h vs (ns.map WData.int)->gz vs ns:=by
 intro ns;induction ns with
 |nil=>intro vs w;rw[Th]at w;cases w;exact .nil
 |cons n ns c=>
  intro vs w;rw[fJ]at w;cases w with
  |cons a b=>cases a;exact .cons _ _<|c _ b
def aOi(hn:l.most=aA n){args:List WData}{vals:'2'}
  (DE:l.row.toRowW.claim.pre args=aB)(hwl:WellAll P h vals args) :
  ∃a vs ns,vals=[lA a]/\args=[WData.list (ns.map WData.int)]/\h.get? a=aA { cls:=.type "list",data:=.seq vs.toArray }/\gz vs ns/\B3 ns<=n:=by
 have f:WShape.hasAll [] args [.list .int]=aB:=(pre_splitW DE).1;have g:l.pre.holds [] { args:=args }=aB:=(pre_splitW DE).2;obtain⟨d,r,rfl,i,j⟩:=hasAllW_cons f;obtain rfl:=hasAllW_nil j;obtain⟨xs,rfl,k⟩:=hasW_list i;obtain⟨ns,rfl⟩:=items_int k;have hlen:B3 ns<=n:=by
  unfold OpenLaw.pre at g;have c:(WTm.not<|.lt (.lit<|.int (n:Int))<|.len<|.arg 0).holds [] { args:=[.list (ns.map .int)] }=aB:=by have c:=(holds_andW g).1;rw[hn]at c;exact c
  have e:=condW_of c (w_not<|w_lt w_lit<|w_len_list<|w_arg rfl);rw[aU]at e;refine Gx λq=>?_;have m:(n:Int)<((B3 ns:Nat):Int):=by omega
  first
   | (rw[decide_eq_true m]at e;exact absurd e '#')
   | (simp at e;lia)
 cases hwl with
 |cons w1 w2=>
  cases w2;cases w1 with
  |list o b=>exact⟨_,_,ns,rfl,rfl,o,T8 ns _ b,hlen⟩
def aFx(l:OpenLaw)(args:List WData):l.row.toRowW.claim.post args (.bool aB) args=aB:=
 postW_of (r:=l.row.toRowW) (X:=(aB==aB))
  (show WShape.has [] (.bool aB) .bool=aB by first|rfl|decide|simp[WShape.has,WShape.arms,WShape.armsAll])
  (show(WTm.eq .res<|.lit<|.bool aB).value [] { args:=args,res:=aA (.bool aB),after:=args }=aA (.bool<|aB==aB) from w_eq_bool (w_res rfl) w_lit) rfl
def TK{q:cC}{loose:AK}{XP:(Str->'8')->bK->Prop}{YP:bV->bK->Prop}{d:DefRec}
  (hn:l.most=aA n)(hdf:d.params.defaults=[])
  (call:∀(w:bV) (s₀ s₁:aK) (mg mb:Str->'8') (fa:Addr) (o:Obj) (pm cd doc:Value) (a:Addr) (vs:'2') (ns:'0'),
   Ground q loose [] XP w s₀ mg mb s₁.heap->YP w s₁.heap ->
   s₁.heap.get? fa=aA o->o.data = .func (docDef d.name d.params d.body d.scope pm cd doc)->s₁.heap.CodeRec cd d.name->mg d.name=aA (.ref fa) ->
   s₁.heap.get? a=aA { cls:=.type "list",data:=.seq vs.toArray }->gz vs ns->B3 ns<=n->s₁.gens=#[] ->
   uP (aZ l.prog w) ae (.call (.ref fa) ⟨[.ref a],[]⟩) (λr s'=>r = .ok (.ret<|.bool aB)/\OldK s₁.heap s'.heap/\s'.os=s₁.os/\wL s'.gens) s₁) :
  WalkO q loose XP YP l.row.toRowW d [] (λf vs=>Uz f vs):=by
 intro w s₀ s₁ mg mb G Y fa o pm cd doc k kV m hd e i g p args vals as b j s h t;obtain rfl:k = .none:=Dflts.none i hdf;obtain rfl:kV = .none:=Dflts.noKw i;obtain⟨a,vs,ns,rfl,rfl,c,hints,hlen⟩:=aOi hn b h;refine enter_call<|zd (call w s₀ s₁ mg mb fa o pm cd doc a vs ns G Y m (fd_plain hd) e g c hints hlen p) λr s' u=>?_;obtain⟨rfl,v,x,y⟩:=u;exact⟨.inl ⟨.bool aB,.bool aB,[],rfl,λ_=>rfl,.bool aB,aFx l _,λ_=>⟨ql,λ_ hm=>(nomatch hm)⟩⟩,v,x,y⟩
end Att
namespace L2
open PySem PySem.Spec PyProof.Rows
variable {A:cM}{CX:oU}{E Q:Value->aK->Prop}{H H':Hp}{N':AK}{P:cC}{X:Cx}{a:Addr}{fd:fA}{fp:AI}{h':bK}{kvs:List (List aN×V)}{mg:Str->A6}{o:Option V}{outer:A8}{ap:BA}{pos:Pos}{r u:Value}{s:aK}{scope:gI}{sp:Sp}{tc:TT}{te:TE}{trs:List (TE×TE)}{us:A5}{v y:V}{w:bV}{x:Str}{xs:List (List aN×Addr×Value)}{Z Z':St}
theorem MA:∀{vs:'2'}{ns:'0'},gz vs ns->D5 (ns.map V.int) vs
 |_,_,.nil=>.nil
 |_,_,.cons n t h=>.cons ⟨t,rfl⟩ (MA h)
def zz(H:Hp):Prop:=∀b,H b=aD\/∃o xs,H b=aA (.dI o<|.l xs)
def X1{K:bN}{mb:Str->'8'}{k:Nat}{fa:Addr}{s₁:aK}{vs:'2'}{ns:'0'}
  (KX:K.In s₁.heap)(hns:s₁.heap.Ns jE mg)(hb:s₁.heap.Ns Vd mb)(hbb:∀x:Str,x≠"__name__"->mb x=oS x)(Q9:s₁.heap.NoLimit)(hg:s₁.gens=#[])
  (ha:s₁.heap.get? a=aA { cls:=.type "list",data:=.seq vs.toArray })(hi:gz vs ns)(hl:B3 ns<=sizeLine)(hr:fM k ae)
  (F:∀base:bK,K.In base->base.Ns jE mg->iQ P w K mg base CX k fa fd [x] sp)(Q5:∀(s:aK) (u:Value),qc s fd ⟨[u],[]⟩ [(x,u)])
  (hsp:∀H:Hp,zz H->eB K H a (ns.map V.int)->sp [.ref a] H (λv _=>v = .bl aB) λ_ _ _=>False)
  (hCX:∀H e s',CX [] H s₁ (λ_ _ _=>False) e s'->False) :
  uP (aZ P w) ae (.call (.ref fa) ⟨[.ref a],[]⟩) (λr s'=>r = .ok (.ret<|.bool aB)/\OldK s₁.heap s'.heap/\s'.os=s₁.os/\wL s'.gens) s₁:=by
 have E:=MA hi;have f:=hi.length;have core:∀H:Hp,zz H->eB K H a (ns.map V.int)->fF P w H s₁.heap->(∀b,H b≠aD->b=a)->(H a≠aD->K.lookup a=aD) ->
   uP (aZ P w) ae (.call (.ref fa) ⟨[.ref a],[]⟩) (λr s'=>r = .ok (.ret<|.bool aB)/\OldK s₁.heap s'.heap/\s'.os=s₁.os/\wL s'.gens) s₁:=by
  intro H C G bB I J;have base_of:∀{b:Addr}{o:Obj},s₁.heap.get? b=aA o->H b=aD->(yG s₁.heap H).get? b=aA o:=λe n=>Q7 e n;have y:∀{b:Addr}{o:Obj}{l:Array DictEntry}{p:Nat},s₁.heap.get? b=aA o->o.data = .dict l p->H b=aD:=λ{b o l p} e d=>by grind
  have c:∀{b:Addr}{m:Str->'8'},s₁.heap.Ns b m->(yG s₁.heap H).Ns b m:=λ{b m} ⟨o,l,p,e,d,r⟩=>⟨o,l,p,base_of e (y e d),d,r⟩;have i:=λb o e=>base_of (KX b o e) (by
   cases q:H b with
   |none=>rfl|some u=>have L:=I b (by rw[q];simp);subst L;rw[J (by rw[q];simp)]at e;cases e)
  have M:Mod K mg (yG s₁.heap H):=⟨i,c hns,⟨mb,c hb,hbb⟩,let ⟨N,O,Q⟩:=Q9;⟨N,c O,Q⟩⟩;have R:ai P w K mg (yG s₁.heap H) ae [] s₁ H:=⟨rfl,M,λb o e=>aBm e,Gw (Q8 _ _),trivial,λb hb=>absurd (show b∈([]:AI) from hb) (by simp),bB,.of_eq hg⟩;refine zd ((F _ i<|c hns).D1 ae [] s₁ H ⟨[.ref a],[]⟩ [.ref a] [.ref a] _ _ hr R (Q5 s₁<|.ref a) (.cons rfl .nil) (hsp H C G)) λr s' h=>?_;cases r with
  |error e=>exact(hCX H e s' h).elim|ok fl=>
   cases fl with
   |next=>exact lY h|brk=>exact lY h|cont=>exact lY h|ret u=>
    obtain⟨v,X,os,bare,un,j,S,q⟩:=h;have T:=q;subst T;obtain rfl:u=sW aB:=S;refine⟨rfl,OldK.of_keep λb o e=>?_,os,bare⟩;cases q:H b with
    |none=>exact un.D7 b o e q (by intro z;exact absurd (show b∈([]:AI) from z) (by simp)) (by simp)|some u=>
     rcases C b with z|⟨ob,xs,z⟩
     .grind
     .have U:=un.rS b ob _ z;obtain⟨D,_⟩:=bB b _ z;obtain⟨W,_⟩:=j b _ U;rw[e]at D;cases D;exact W
 cases A:K.lookup a with
 |some o=>have e:=KX a o A;rw[ha]at e;cases e;refine core (λ_=>aD) (λ_=>.inl rfl) (.inr ⟨_,vs.toArray,_,A,rfl,rfl,rfl,by rw[wR,f];exact hl,by grind⟩) (λb u z=>by grind) (λb z=>absurd rfl z) λz=>absurd rfl z
 |none=>
  refine core (λb=>if b=a then aA (.dI { cls:=.type "list",data:=.seq vs.toArray } (.l<|ns.map V.int)) else aD) (λb=>?_) (.inl<|.inr ⟨{ cls:=.type "list",data:=.seq vs.toArray },if_pos rfl⟩) (λb u z=>?_) (λb z=>?_) λ_=>A
  .by_cases hb:b=a
   .exact .inr ⟨_,_,if_pos hb⟩
   .exact .inl<|if_neg hb
  .by_cases hb:b=a
   .have B:=(if_pos hb).symm.trans z;cases B;subst hb;exact⟨ha,by rw[aU];exact hl,vs,_,E,ha⟩
   .have B:=(if_neg hb).symm.trans z;cases B
  .by_cases hb:b=a
   .exact hb
   .exact absurd (if_neg hb) z
def aTl{l:Uo}{n k:Nat}{q:cC}{loose:AK}{XP:(Str->'8')->bK->Prop}{YP:bV->bK->Prop}{d:DefRec}{K:bW->bN}{CX:bV->oU}{sp:bV->Sp}
  (hn:l.most=aA n)(hn2:n<=sizeLine)(hdf:d.params.defaults=[])(hr:fM k ae)
  (hY:∀(w:bV) (h:bK),YP w h->(K w.params).In h)
  (F:∀(w:bV) (mg:Str->'8') (fa:Addr) (h:bK),(K w.params).In h->h.Ns jE mg->mg d.name=aA (.ref fa) ->
   ∃fd:fA,(∀(s:aK) (u:Value),qc s fd ⟨[u],[]⟩ [(x,u)]) /\
    ∀base:bK,(K w.params).In base->base.Ns jE mg->iQ l.prog w (K w.params) mg base (CX w) k fa fd [x] (sp w))
  (hsp:∀(w:bV) (H:Hp) (a:Addr) (ns:'0'),B3 ns<=n->zz H->eB (K w.params) H a (ns.map V.int)->sp w [.ref a] H (λv _=>v = .bl aB) λ_ _ _=>False)
  (hCX:∀(w:bV) (H:Hp) (s:aK) (e:Value) (s':aK),CX w [] H s (λ_ _ _=>False) e s'->False) :
  RD q loose XP YP l.row.toRowW d [] (λf vs=>Uz f vs):=by
 refine Att.TK hn hdf λw s₀ s₁ mg mb fa o pm cd doc a vs ns G Y ho hd hcd hmg R7 hints hlen hg=>?_;have KX:=hY w _ Y;obtain⟨fd,hb,hF⟩:=F w mg fa _ KX G.T.g hmg;exact X1 KX G.T.g G.T.b G.T.builtins G.T.nolimit hg R7 hints (dF hlen hn2) hr hF hb (λH hO hS=>hsp w H a ns hlen hO hS) λH e s'=>hCX w H s₁ e s'
def uc(s:Stmt):Se:=match s with
 |.FunctionDef _ a _ _ _ _ _ _ _ _=>a
 |_=>{ posonlyargs:=[],args:=[],vararg:=aD,kwonlyargs:=[],kw_defaults:=[],kwarg:=aD,defaults:=[] }
def jy(s:Stmt):AN:=match s with
 |.FunctionDef _ _ b _ _ _ _ _ _ _=>b
 |_=>[]
def pY(s:Stmt):gI:=match s with
 |.FunctionDef _ _ _ _ _ _ sc _ _ _=>sc
 |_=>{ kind:=.function,names:=[],isGenerator:=aJ,isCoroutine:=aJ }
abbrev E0:XK:=λ_ _ _=>False
section
variable {κ:Type} [DecidableEq κ]
def fR(kvs:List (κ×V))(k:κ):Option V:=(kvs.find? λkv=>decide (kv.1=k)).map (·.2)
def F2(kvs:List (κ×V))(k:κ)(v:V):List (κ×V):=
 if(kvs.any λkv=>decide (kv.1=k))=aB then kvs.map (λkv=>if kv.1=k then(kv.1,v) else kv) else kvs++[(k,v)]
def rO(kvs:List (κ×V))(k:κ):List (κ×V):=kvs.filter λkv=>decide (kv.1≠k)
def Qw{p:κ×V}{r:List (κ×V)}{k:κ}(e:p.1=k):fR (p::r) k=aA p.2:=by simp_all[fR,e]
def Qv{p:κ×V}{r:List (κ×V)}{k:κ}(e:¬p.1=k):fR (p::r) k=fR r k:=by simp_all[fR,e]
theorem LZ(k:κ):∀kvs:List (κ×V),(kvs.any λkv=>decide (kv.1=k))=qw (fR kvs k)
 |[]=>rfl|p::r=>by
  rw[ia];by_cases e:p.1=k
  .simp only[Qw e,decide_eq_true e,Bool.true_or,Option.isSome_some]
  .rw[Qv e,decide_eq_false e];exact LZ k r
def Cq(kvs:List (κ×V))(k:κ)(v:V):B3 (F2 kvs k v)<=B3 kvs+1:=by
 unfold F2;split
 .grind
 .simp_all
def iH.vi{u:'8'}(r:iH o u):qw o=qw u:=by
 cases o with
 |none=>cases u with
  |none=>rfl|some _=>exact(r).elim
 |some _=>cases u with
  |none=>exact(r).elim|some _=>rfl
theorem iH.getD{o:Option V}{u:'8'}{d:V}{d':Value}(r:iH o u)(rd:D6 d d'):D6 (o.getD d) (u.getD d'):=by
 cases o with
 |none=>cases u with
  |none=>exact rd|some _=>exact(r).elim
 |some _=>cases u with
  |none=>exact(r).elim|some _=>exact r
def KV.val{kvs:List (κ×V)}{vs:List (κ×Value)}(r:KV kvs vs)(k:κ):iH (fR kvs k) (iy vs k):=by
 induction r with
 |nil=>exact mT|@cons p q ps a h t f=>
  obtain⟨d,g⟩:=h;by_cases e:p.1=k
  .have c:=d.symm.trans e;have b:iy (q::a) k=aA q.2:=by simp_all[iy,c]
   rw[Qw e,b];exact g
  .have c:=λz=>e (d.trans z);have b:iy (q::a) k=iy a k:=by simp_all[iy,c]
   rw[Qv e,b];exact f
theorem KV.any{kvs:List (κ×V)}{vs:List (κ×Value)}(r:KV kvs vs)(k:κ):(kvs.any λkv=>decide (kv.1=k))=vs.any λkv=>decide (kv.1=k):=by induction r<;>left
def KV.Pk{kvs:List (κ×V)}{vs:List (κ×Value)}(r:KV kvs vs)(k:κ)(ry:D6 y u) :
  KV (kvs.map λkv=>if kv.1=k then(kv.1,y) else kv) (vs.map λkv=>if kv.1=k then(kv.1,u) else kv):=by
 induction r with
 |nil=>exact .nil|@cons p q ps d h t b=>
  rw[fJ,fJ];refine .cons ?_ b;obtain⟨a,c⟩:=h;by_cases e:p.1=k
  .rw[if_pos e,if_pos (a.symm.trans e)];exact⟨a,ry⟩
  .rw[if_neg e,if_neg (λz=>e (a.trans z))];exact⟨a,c⟩
def KV.C9{kvs:List (κ×V)}{vs:List (κ×Value)}(r:KV kvs vs)(k:κ)(ry:D6 y u):KV (F2 kvs k y) (stored vs k u):=by
 unfold F2 stored;rw[r.any k];by_cases e:(vs.any λa=>decide (a.1=k))=aB
 .rw[if_pos e,if_pos e];exact r.Pk k ry
 .rw[if_neg e,if_neg e];exact Paired.snoc r ⟨rfl,ry⟩
def KV.drop{kvs:List (κ×V)}{vs:List (κ×Value)}(r:KV kvs vs)(k:κ):KV (rO kvs k) (without vs k):=by
 unfold rO without;induction r with
 |nil=>exact .nil|@cons p q ps i h t c=>
  obtain⟨d,f⟩:=h;rw[kF,kF];by_cases e:p.1=k
  .have a:¬decide (p.1≠k)=aB:=by simp[e]
   have b:¬decide (q.1≠k)=aB:=by left
   rw[if_neg a,if_neg b];exact c
  .have g:¬q.1=k:=λz=>e (d.trans z);have a:decide (p.1≠k)=aB:=by simp[e]
   have b:decide (q.1≠k)=aB:=by simp[g]
   rw[if_pos a,if_pos b];exact .cons ⟨d,f⟩ c
theorem KV.length{kvs:List (κ×V)}{vs:List (κ×Value)}(r:KV kvs vs):B3 kvs=B3 vs:=Uc r
def t7(kvs:List (κ×V))(k:κ):B3 (rO kvs k)<=B3 kvs:=zR _ _
end
def rZ{k:aN}(r:D6 (kV k) u):(gL P w).is k u=aB:=by
 cases k with
 |inl i=>obtain⟨t,e⟩:=(r);subst e;exact aAg P w i t|inr x=>obtain⟨t,e⟩:=(r);subst e;exact aAh P w x t
section
variable {h:bK}
def JN{u:HO}(ok:fF P w H h)(e:Rd H a u):iB P w H h a u:=e.ok ok
def cu{kvs:List (aN×V)}(ok:fF P w H h)(e:Rd H a (.dK kvs)):B3 kvs<=sizeLine/\(a==xG)=aJ/\∃vs,KV kvs vs/\h.DictOf (gL P w) a vs:=
 show iB P w H h a (.dK kvs) from JN ok e
def cq{kvs:List (aN×V)}(ok:fF P w H h)(e:H a=aA (.dK kvs)):B3 kvs<=sizeLine/\(a==xG)=aJ/\∃vs,KV kvs vs/\h.DictOf (gL P w) a vs:=cu ok (.inl e)
end
def mE(H:Hp)(a:Addr)(y:V)(r:Option V):Prop:=
 ∃kvs k,Rd H a (.dK kvs)/\y=kV k/\r=fR kvs k
def rq(H:Hp)(a:Addr)(y v:V)(H':Hp):Prop:=
 ∃kvs k,H a=aA (.dK kvs)/\y=kV k/\B3 kvs<sizeLine/\H'=D4 H a (.dK<|F2 kvs k v)
theorem mE.k{H:Hp}{a:Addr}{kvs:List (aN×V)}{k:aN}(e:H a=aA (.dK kvs)):mE H a (kV k) (fR kvs k):=⟨kvs,k,.inl e,rfl,rfl⟩
theorem rq.k{H:Hp}{a:Addr}{kvs:List (aN×V)}{k:aN}{v:V}(e:H a=aA (.dK kvs))(hl:B3 kvs<sizeLine):rq H a (kV k) v (D4 H a<|.dK<|F2 kvs k v):=⟨kvs,k,e,rfl,hl,rfl⟩
def D3.E4(I:'&'):xG<s.heap.objs.size:=by have h:=(I.mod.glob.keeps I.bk).lt;exact Nat.lt_trans '#' h
def m9(I:'&')(g:mE H a y (aA v))(ry:D6 y u)(h:∀w' s',D3 X ap Z H s'->D6 v w'->Q w' s') :
  aT '1' A (ip (.ref a) u) Q E s:=by
 obtain⟨d,k,e,f,l⟩:=g;subst f;obtain⟨z,hd,n,rel,dd⟩:=cu I.bB e;obtain⟨w',hw,c⟩:=iH.some_of (by rw[l];exact rel.val k);exact wpAny_getItem_of (rZ ry) dd.mapOf hw<|h w' _ (I.tok _) c
def n7(n:Bool)(I:'&')(g:mE H a y o)(ry:D6 y u)(h:∀s',D3 X ap Z H s'->Q (.bool<|cond n (!o.isSome) (qw o)) s') :
  aT '1' A (dM (cond n .NotIn .In) u<|.ref a) Q E s:=by
 obtain⟨c,k,e,d,l⟩:=g;subst d;obtain⟨z,hd,i,rel,dd⟩:=cu I.bB e;rw[l,(rel.val k).vi]at h;cases n;exact wpAny_in_of (rZ ry) hd dd.mapOf<|h _<|I.tok _;exact wpAny_notIn_of (rZ ry) hd dd.mapOf<|h _<|I.tok _
def jx{t':Nat}{ob:HO}(I:'&')(mu:jg (H a))(hs:gr a s.heap h')(he:∃q,h'.get? a=aA q)(C8:iB X.prog X.w (D4 H a ob) h' a ob) :
  D3 X ap Z (D4 H a ob) { s with heap:=h',toks:=t' }:=
 I.write mu (.inl rfl) (λb q hb z=>(hs.2 b hb).trans z) he C8
def ue{kvs:List (aN×V)}{vs:List (aN×Value)}(z:B3 kvs<=sizeLine)(hd:(a==xG)=aJ)(rel:KV kvs vs)(dd:h'.DictOf (gL P w) a vs) :
 iB P w H' h' a (.dK kvs):=⟨z,hd,vs,rel,dd⟩
def p3{Q:Unit->aK->Prop}(I:'&')(g:rq H a y v H')(ry:D6 y u)(rv:D6 v r)(h:∀s',D3 X ap Z H' s'->Q () s') :
  aT '1' A (setItem (.ref a) u r) Q E s:=by
 obtain⟨d,k,e,j,l,m⟩:=g;subst j m;obtain⟨z,hd,x,rel,dd⟩:=cq I.bB e;have n:B3 x<=sizeLine:=by simp_all[rel.length]
 have hl:B3 (F2 d k v)<=sizeLine:=by have:=Cq d k v;lia
 refine wpAny_setItem_pairs (hsz:=n) (rZ ry) dd λt f o=>h _ ?_;have he:∃q,t.get? a=aA q:=let ⟨q,_,_,i,_⟩:=f;⟨q,i⟩;exact jx I (e▸mT) o he<|ue hl hd (rel.C9 k rv) f
section
variable {kvs:List (aN×V)}{k:aN}
def Zi{more:'2'}(I:'&')(e:H a=aA (.dK kvs))(ry:D6 (kV k) u)(l:fR kvs k=aA v)(hm:more=[]\/∃x,more=[x])
  (h:∀w' s',D3 X ap Z (D4 H a<|.dK<|rO kvs k) s'->D6 v w'->Q w' s'):aT '1' A (call (.builtin "dict.pop")<|.ref a::u::more) Q E s:=by
 obtain⟨z,hd,d,rel,dd⟩:=cq I.bB e;obtain⟨w',hw,c⟩:=iH.some_of (by rw[<- l];exact rel.val k);have f:qw (keyPart u)=aB:=by
  cases k with
  |inl i=>obtain⟨t,q⟩:=(ry);subst q;rfl|inr x=>obtain⟨t,q⟩:=(ry);subst q;rfl
 have ha:argsOk "dict.pop" ⟨.ref a::u::more,[]⟩:=by
  rcases hm with q|⟨x,q⟩
  .subst q;exact aYg _ _
  .subst q;exact QQ _ _ _
 refine ab Uk dd.typeIs QR ha (meets_dict_pop_there (gL X.prog X.w) a (rZ ry) more hm f)
  ⟨d,w',dd,rel.length▸z,hw,λg b j=>h w' _ ?_ c⟩
 have he:∃q,g.get? a=aA q:=let ⟨q,_,_,m,_⟩:=b;⟨q,m⟩;exact jx I (e▸mT) j he<|ue (dF (t7 kvs k) z) hd (rel.drop k) b
def n9(I:'&')(e:H a=aA (.dK kvs))(ry:D6 (kV k) u)(l:fR kvs k=aD)(h:∀s',D3 X ap Z H s'->Q r s') :
  aT '1' A (call (.builtin "dict.pop") [.ref a,u,r]) Q E s:=by
 obtain⟨z,hd,b,rel,dd⟩:=cq I.bB e;have hn:=iH.none_of (by rw[<- l];exact rel.val k);have c:qw (keyPart u)=aB:=by
  cases k with
  |inl i=>obtain⟨t,q⟩:=(ry);subst q;rfl|inr x=>obtain⟨t,q⟩:=(ry);subst q;rfl
 exact ab Uk dd.typeIs QR (QQ _ _ _) (meets_dict_pop_default (gL X.prog X.w) a (rZ ry) hd c r) ⟨b,dd,hn,h _ (I.tok _)⟩
end
def p8(I:'&')(g:mE H a y o):s.TypeIs (.ref a) "dict":=by
 obtain⟨c,k,e,_,_⟩:=g;obtain⟨_,_,d,_,dd⟩:=cu I.bB e;exact dd.typeIs
def Zt(h:bK)(hb:xG<h.objs.size):iB P w H (h.push { cls:=.type "dict",data:=.dict #[] }) h.objs.size (.dK []):=
 ⟨jD _,beq_eq_false_iff_ne.2 (lM<|bZ hb),[],.nil,Heap.DictOf.new h⟩
def aQu:TE:=λ_ H Q=>∀p,H p=aD->Q (.ref p) (D4 H p<|.dK [])
def aEb:PE X (.Dict [] [] pos) aQu:=λap s Z H Q I h=>wpAny_Dict_empty ⟨.ref s.heap.objs.size,_,I.F1 (λ_ _ q=>cX _ q) (aW _) (Zt s.heap I.E4),rfl,h _ (I.bB.fresh<|aW _)⟩
def Ew:List (TE×TE)->St->Hp->(List (V×V)->Hp->Prop)->Prop
 |[],_,H,Q=>Q [] H
 | (tk,tv)::r,Z,H,Q=>tk Z H λx H1=>tv Z H1 λy H2=>Ew r Z H2 λps H3=>Q ((x,y)::ps) H3
abbrev VV:List (V×V)->List (Value×Value)->Prop:=ij λp q=>D6 p.1 q.1/\D6 p.2 q.2
def si(X:Cx)(pos:Pos)(keys:List (Option aI))(values:List aI)(trs:List (TE×TE)):Prop:=
 ∀(ap:'7') (s:aK) (Z:St) (H:Hp) (Q:List (V×V)->Hp->Prop),'&'->Ew trs Z H Q ->
  aT '1' X.A (evalPairs<|pairTrees keys values X.env pos) (λvs s'=>∃ps H',D3 X ap Z H' s'/\VV ps vs/\Q ps H') X.xe s
def aFz:si X pos [] [] []:=λap s Z H Q I h=>pairTrees_nil_walk ⟨[],H,I,.nil,h⟩
def aFy{k v:aI}{ks:List (Option aI)}{vs:List aI}{tk tv:TE}(hk:PE X k tk)(hv:PE X v tv)(hr:si X pos ks vs trs) :
  si X pos (aA k::ks) (v::vs) ((tk,tv)::trs):=λap s a H Q I h=>
 pairTrees_cons_walk (bG (hk ap s a H _ I h) λu s1 ⟨x,H1,b,c,d⟩=>bG (hv ap s1 a H1 _ b d) λw2 s2 ⟨y,e,f,g,i⟩=>bG (hr ap s2 a e _ f i) λws n ⟨ps,j,l,rel,m⟩=>⟨(x,y)::ps,j,l,.cons ⟨c,g⟩ rel,m⟩)
def vK(kvs more:List (aN×V)):List (aN×V):=more.foldl (λacc kv=>F2 acc kv.1 kv.2) kvs
def KV.merge:∀{more:List (aN×V)}{rs:List (aN×Value)}{kvs:List (aN×V)}{vs:List (aN×Value)},KV more rs->KV kvs vs->KV (vK kvs more) (merged vs rs):=by
 intro more rs kvs vs r;unfold KV at r;induction r generalizing kvs vs with
 |nil=>intro q;exact q|@cons p q ps c h t a=>
  intro b;have e:KV (F2 kvs p.1 p.2) (stored vs q.1 q.2):=by have:=b.C9 p.1 h.2;rw[<- h.1];exact this
  exact a e
theorem Ma:∀(more kvs:List (aN×V)),B3 (vK kvs more)<=B3 kvs+B3 more
 |[],kvs=>by show B3 kvs<=B3 kvs+0;lia
 |p::r,kvs=>by have a:=Ma r (F2 kvs p.1 p.2);have b:=Cq kvs p.1 p.2;show(vK (F2 kvs p.1 p.2) r).length<=_;rw[zQ];lia
theorem Ym{P:cC}{w:bV}:∀{kvs:List (aN×V)}{ws:List (Value×Value)},VV (kvs.map λkv=>(kV kv.1,kv.2)) ws->∃rs,Carries (gL P w) ws rs/\KV kvs rs
 |[],_,r=>by rw[Th]at r;cases r;exact⟨[],mT,.nil⟩
 |p::kvs,_,r=>by
  rw[fJ]at r;cases r with
  |@cons a b as bs h t=>obtain⟨rs,c,q⟩:=Ym (P:=P) (w:=w) t;obtain⟨b1,b2⟩:=b;exact⟨(p.1,b2)::rs,⟨rZ h.1,rfl,c⟩,.cons ⟨rfl,h.2⟩ q⟩
def aQv(trs:List (TE×TE)):TE:=λZ H Q=>∀p,H p=aD->Ew trs Z (D4 H p<|.dK []) λps H2=>H2 p=aA (.dK [])/\∃kvs:List (aN×V),ps=kvs.map (λkv=>(kV kv.1,kv.2))/\B3 kvs<=15/\Q (.ref p) (D4 H2 p<|.dK<|vK [] kvs)
def aEa{keys:List (Option aI)}{values:List aI}(h:si X pos keys values trs)(Q3:keys.all (·.isSome)=aB)(hl:B3 keys=B3 values)(h0:keys≠[])
  (h15:B3 keys<=15):PE X (.Dict keys values pos) (aQv trs):=by
 intro ap s g H Q I q;have hn:=I.bB.fresh (aW s.heap.objs.size);have i:=I.F1 (a:=s.heap.objs.size) (o:=.dK []) (h':=s.heap.push { cls:=.type "dict",data:=.dict #[] }) (t':=s.toks) (λ_ _ q=>cX _ q) (aW _) (Zt s.heap I.E4);refine wpAny_Dict_walk (knd:=gL X.prog X.w) Q3 hl h0 h15<|bG (h ap _ g _ _ i<|q _ hn) λws s2 ⟨ps,v,f,rel,e,b,j,lk,k⟩=>?_;subst j;obtain⟨rs,c,l⟩:=Ym (P:=X.prog) (w:=X.w) rel;obtain⟨z,hd,m,n,dd⟩:=cq f.bB e;cases n;refine⟨rs,c,dd,λh' d p=>⟨.ref s.heap.objs.size,_,?_,rfl,k⟩⟩;have r:B3 (vK [] b)<=sizeLine:=by have t:=Ma b [];rw[Tc]at t;rw[lB];lia
 have he:∃q,h'.get? s.heap.objs.size=aA q:=let ⟨q,_,_,u,_⟩:=d;⟨q,u⟩;exact jx f (by rw[e];exact mT) p he<|ue r hd (l.merge .nil) d
section
variable {d:V}
def m7(I:'&')(g:mE H a y o)(ry:D6 y u)(h:∀w' s',D3 X ap Z H s'->D6 (o.getD .aG) w'->Q w' s') :
  aT '1' A (call (.builtin "dict.get") [.ref a,u]) Q E s:=by
 obtain⟨kvs,k,e,ey,l⟩:=g;subst ey;obtain⟨z,hd,vs,rel,dd⟩:=cu I.bB e;refine ab qz dd.typeIs He (QN _ _) (meets_dict_get (gL X.prog X.w) a (rZ ry) hd) ⟨_,dd.mapOf,h _ _ (I.tok _) ?_⟩;rw[l];exact(rel.val k).getD rfl
def m8(I:'&')(g:mE H a y o)(ry:D6 y u)(rd:D6 d r)(h:∀w' s',D3 X ap Z H s'->D6 (o.getD d) w'->Q w' s') :
  aT '1' A (call (.builtin "dict.get") [.ref a,u,r]) Q E s:=by
 obtain⟨c,k,e,f,l⟩:=g;subst f;obtain⟨z,hd,j,rel,dd⟩:=cu I.bB e;refine ab qz dd.typeIs He (QP _ _ _) (meets_dict_get_default (gL X.prog X.w) a (rZ ry) hd r) ⟨_,dd.mapOf,h _ _ (I.tok _) ?_⟩;rw[l];exact(rel.val k).getD rd
end
def ff{P:Prop}(h:aJ=aB):P:=Bool.noConfusion h
def bU{P:Prop}{α:Type}{a:α}(h:aD=aA a):P:=by cases h
inductive lD(P:cC)(w:bV)(outer:A8)(H:Hp)(s:aK)(E:XK)(e:Value)(s':aK):Prop
def tw{s':aK}{e:Value}(h:lD P w outer H s (λ_ _ _=>False) e s'):False:=nomatch h
def Dp{K:bN}{base:bK}{N:AK}{qual:Str}{f:Addr}{cd:Value}{E:XK} :
 sY (lD P w) (xV (lD P w) P w K mg base N qual scope f cd A outer s H E) E:=λ_ _ _ _ _ _ _ h=>nomatch h
def Wo(CX:oU)(X:Cx)(EE:St->XK):Prop:=∀(ap:'7') (Z:St) (H:Hp) (s:aK) (e:Value) (s':aK),'&'->CX X.stack H s (EE Z) e s'->X.xe e s'
section
variable {k:Nat}{f:Addr}{ps:AK}{EE:St->XK}{p:Pos}{e:aI}{es:List aI}{t:TA}
def JS{Q:VK}{vs:AJ}(F:iQ X.prog X.w X.K X.mg X.base CX k f fd ps sp)(hr:fM k X.A)(hb:E5 X.K fd ps [])(hx:Wo CX X EE)
  (I:'&')(r:D5 vs us)(h:sp vs H Q (EE Z)):aT '1' X.A (call (.ref f) us) (EP X ap Z Q) X.xe s:=by
 have hl:B3 (us++[])=B3 ps:=by rw[nP,<- r.length];exact F.len _ _ _ _ h
 have a:=hb s us I.fP hl;rw[nP]at a;refine zh<|zd (F.D1 X.A X.stack s H ⟨us,[]⟩ us vs Q (EE Z) hr I.Jq a r h) λr c b=>?_;cases r with
 |error e=>exact hx ap Z H s e c I b|ok fl=>
  cases fl with
  |ret u=>exact I.after b|next=>exact lY b|brk=>exact lY b|cont=>exact lY b
end
def rL(cells:A3)(x:Str×uN)(cs:A3):A3:=if(x.2==jC)=aB then(match cells.lookup x.1 with
 |some c=>(x.1,c)::cs
 |none=>cs) else cs
def xU(scope:gI)(env:Env):A3:=scope.names.foldl (λcs x=>rL env.cells x cs) []
theorem BO{α β:Type}{st:α->β->β}:∀{l:List α}{f:α->β->Sem (ForInStep β)} (c:β),(∀x∈l,∀c,f x c=pure (.yield<|st x c))->forIn l c f=pure (l.foldl (λc x=>st x c) c)
 |[],f,c,h=>rfl|x::l,f,c,h=>by rw[Sz,h x eL];exact BO (st x c) λy a=>h y (eK _ a)
def f6{env:Env}(h:∀x∈scope.names,x.2 = .free->∃c,env.cells.lookup x.1=aA c):Vf scope env=pure (xU scope env):=by
 simp only[Vf];rw[BO (st:=rL env.cells) [] (λx d c=>by
  obtain⟨n,kind⟩:=x;by_cases b:kind = .free
  .obtain⟨a,ha⟩:=h _ d b;subst b;simp[rL,cellOf,ha]
  .have:(kind==jC)=aJ:=by simpa
   simp[rL,this])]
 rfl
theorem Ys{cells:A3}:∀(l:List (Str×uN)) (cs:A3),(∀x c,cs.lookup x=aA c->cells.lookup x=aA c)->∀x c,(l.foldl (λcs x=>rL cells x cs) cs).lookup x=aA c->cells.lookup x=aA c
 |[],cs,h=>h
 |y::l,cs,h=>Ys l _ (by
  intro x c e;change (rL cells y cs).lookup x=aA c at e;unfold rL at e;split at e
  .split at e
   .rename_i b a;rw[jB]at e;split at e
    .simp_all
    .exact h x c e
   .exact h x c e
  .exact h x c e)
theorem Yr{cells:A3}:∀(l:List (Str×uN)) (cs:A3) (x:Str),((∃c,cs.lookup x=aA c)\/((x,jC)∈l/\∃c,cells.lookup x=aA c))->∃c,(l.foldl (λcs x=>rL cells x cs) cs).lookup x=aA c
 |[],cs,x,h=>by
  rcases h with h|⟨h,_⟩
  .exact h
  .cases h
 |y::l,cs,x,h=>by
  refine Yr l _ x ?_;rcases h with⟨c,e⟩|⟨hm,c,e⟩
  .refine .inl ?_;change ∃c,(rL cells y cs).lookup x=aA c;unfold rL;split
   .split
    .rename_i c' _;rw[jB];split
     .grind
     .simp_all
    .simp_all
   .simp_all
  .rcases dT.1 hm with q|q
   .refine .inl ?_;subst q;simp[rL,e]
   .exact .inr ⟨q,c,e⟩
theorem EY{env:Env}(hk:env.scope.kind = .function):∀{names:List (Str×uN)}{x:Str},names.lookup x=aA .free->env.kindOf x=aA .cell ->
  (names.map λ(n,k)=>if 'I' then(n,qs) else(n,k)).lookup x=aA .cell
 |[],_,h,_=>by simp at h
 | (n,k)::r,x,h,b=>by
  have c:=@EY env hk r x;show sU x ((if 'I'=aB then(n,qs) else(n,k))::_)=_;cases a:x==n with
  |true=>simp only[jB,a]at h;cases h;have:=eq_of_beq a;subst this;simp[hk,b]
  |false=>
   simp only[jB,a]at h;by_cases d:'I'=aB
   .rw[if_pos d];simp only[jB,a];exact c h b
   .rw[if_neg d];simp only[jB,a];exact c h b
theorem Mf{env:Env}:∀{names:List (Str×uN)}{x:Str}{k:uN},(∀y∈names,y.2 ≠ .cell) ->
  (names.map λ(n,k)=>if 'I' then(n,qs) else(n,k)).lookup x=aA k->k = .cell\/k = .free->(x,jC)∈names
 |[],_,_,_,h,_=>by simp at h
 | (n,k)::r,x,d,hn,h,hk=>by
  have f:=@Mf env r x d λy g=>hn y (eK _ g);have a:sU x ((if 'I'=aB then(n,qs) else(n,k))::(r.map λ(n,k)=>if 'I' then(n,qs) else(n,k)))=aA d:=h;cases c:x==n with
  |true=>
   have e:=eq_of_beq c;subst e;by_cases b:(k==jC&&env.scope.kind == .function&&env.kindOf x==aA .cell)=aB
   .have:k = .free:=by simp only[bY]at b;exact eq_of_beq b.1.1
    subst this;exact eL
   .rw[if_neg b]at a;simp only[jB,c]at a;cases a;rcases hk with hk|hk
    .exact absurd hk<|hn _ eL
    .grind
  |false=>
   have i:(r.map λ(n,k)=>if 'I' then(n,qs) else(n,k)).lookup x=aA d:=by
    by_cases b:'I'=aB
    .rw[if_pos b]at a;simpa only[jB,c]using a
    .rw[if_neg b]at a;simpa only[jB,c]using a
   exact eK _<|f i hk
def Cx.comp(X:Cx)(N':AK)(scope:gI)(s3:aK)(H3:Hp)(C:Addr)(fp:AI):Cx:=
 { X with N:=N',s₀:=s3,H₀:=H3,env:=compEnvC scope (xU scope X.env) C X.env,outer:=X.stack,ex:=fp,fn:=λ_=>aJ,pn:=[],xe:='6' }
structure pS(X:Cx)(N':AK)(scope:gI):Prop where
 kind:scope.kind = .function
 Nh:∀y∈scope.names,y.2 ≠ .cell
 EV:∀y∈scope.names,y.2 = .local->scope.names.lookup y.1=aA .local
 free:∀y∈scope.names,y.2 = .free->X.env.scope.names.lookup y.1=aA .cell
section
variable {C:Addr}
def pS.Yu(hs:pS X N' scope)(ok:X.Ok):Vf scope X.env=pure (xU scope X.env):=
 f6 λx a b=>ok.has x.1 (.inl<|hs.free x a b)
def ju{c:Addr}(h:(xU scope X.env).lookup x=aA c):X.env.cells.lookup x=aA c:=Ys _ [] (λx c e=>by simp at e) x c h
theorem pS.has(hs:pS X N' scope)(ok:X.Ok){x:Str}(h:(x,jC)∈scope.names):∃c,(xU scope X.env).lookup x=aA c:=
 Yr _ [] x (.inr ⟨h,ok.has x (.inl<|hs.free _ h rfl)⟩)
def D3.uZ(I:'&')(hs:pS X N' scope)(hf:∀b∈fp,kJ X ap H b/\b≠C)(hC:s.heap.objs.size<=C):'E'.Ok where
 mod:=I.ok.mod
 kind:=hs.kind
 glob:=I.ok.glob
 blt:=I.ok.blt
 above:=hC
 inj:=λx y c a d=>I.ok.inj x y c (ju a) (ju d)
 has:=λx hx=>by
  rcases hx with hx|hx
  .exact hs.has I.ok<|Mf hs.Nh hx<|.inl rfl
  .exact hs.has I.ok<|Mf hs.Nh hx<|.inr rfl
 Ar:=λx c h=>ff h
 hd:=I.ok.hd
 frames:=I.ok.frames
 Qe:=.inl rfl
 Bh:=λb hb=>⟨(hf b hb).2,λx c e=>(hf b hb).1.2.2.2.2.1 x c (ju e)⟩
 bs:=λb o e=>I.bs b o e
 xR:=dF I.ok.xR I.sz
 Dj:=λb o e hb=>by
  rcases(hf b hb).1.2.2.2.1 with z|z
  .exact I.ok.Dj b o e z
  .exact absurd (bE (bE (dG e) I.ok.xR) z)<|nQ _
 ug:=λb hb f=>by
  rcases dT.1 (I.Qf b f)with e|e
  .exact(hf b hb).1.2.1 e
  .exact(hf b hb).1.2.2.1 e
 rT:=I.stack
 ke:=I.KQ
def D3.comp{h4:bK}{t:Nat}{m0:Str->'8'}(I:'&')(hs:pS X N' scope)(hf:∀b∈fp,kJ X ap H b/\b≠C)(hC:s.heap.objs.size<=C)
  (k:∀b o,s.heap.get? b=aA o->h4.get? b=aA o) (hn:h4.Ns C m0) (hl:B3 Z'=B3 N')
  (hσ:∀(i:Nat) x v,N'[i]?=aA x->Z'[i]?=aA (aA v)->scope.names.lookup x=aA .free/\(x,jC)∈scope.names/\∃j:Nat,X.N[j]?=aA x/\Z[j]?=aA (aA v)) :
  D3 'E' [] Z' H { s with heap:=h4,toks:=t } where
 ok:=I.uZ hs hf hC
 os:=rfl
 bare:=I.bare
 base:=Un.E6 k
 loc:=⟨m0,hn,λi x v g h _=>by
  obtain⟨l,hm,j,n,q⟩:=hσ i x v g h;obtain⟨m,_,hl⟩:=I.loc;have a:=hs.free _ hm rfl;obtain⟨u,r,lk⟩:=hl j x v n q (.inr<|.inl a);refine⟨u,r,.inr ⟨.inl (EY I.ok.kind l a),?_⟩⟩;rcases lk with⟨z,_⟩|⟨_,c,w,y⟩
  .rw[show X.env.kindOf x=aA .cell from a]at z;cases z
  .obtain⟨B,f⟩:=hs.has I.ok hm;have:=ju f;rw[w]at this;cases this;obtain⟨o,d,hd⟩:=y;exact⟨c,f,o,k _ _ d,hd⟩⟩
 cell:=λx c e=>by obtain⟨v,o,d,hd⟩:=I.cell x c (ju e);exact⟨v,o,k _ _ d,hd⟩
 free:=I.bB.fresh hC
 rQ:=λx c e=>I.rQ x c (ju e)
 pin:=λp A=>by cases A
 bB:=I.bB.E6 k
 len:=hl
end
noncomputable abbrev nX(us:'2')(k:Nat):Obj:={ cls:=.type "list",data:=.seq us.toArray k }
def Ey{α:Type}{M:Model}{t:Sem α}{Q:α->aK->Prop}(h:aT M A t Q '6' s):aT M A t Q E s:=zi h (λ_ _ q=>q) λ_ _ z=>z.elim
section
variable {H2:Hp}{s2:aK}{it:Addr}{tn:Nat->bK->Prop}{J:It}{elt tg iter:aI}
def D3.aSk{D:Addr}{ys:AJ}{k:Nat}(I:'&')(hD:kJ X ap H D)(ho:s.heap.get? D=aA (nX us k))(r:D5 ys us)(hz:B3 ys<=sizeLine):D3 X ap Z (D4 H D<|.l ys) s:=by
 have hn:=hD.1;refine I.step (ch:=[D]) (λb hb=>?_) (λb o _ _ _ e _=>e) (λb o _ _ _ e _=>⟨o.slots,e⟩) (λb o a e n=>?_) (λb o _ e=>⟨o,e⟩) (λb xs e=>by rw[cB (kB e hn)];exact e) (λb o u e=>by rw[cB (kB e hn)];exact e) (λm hm=>hm) (λb u e=>?_) I.bare
 .have e:b=D:=by simpa using hb
  subst e;exact⟨hD.2.2.2.1,hD.2.1,hD.2.2.2.2.1,hD.2.2.2.2.2⟩
 .rw[cB (λz=>a (by simp[z]))];exact n
 .by_cases hb:b=D
  .subst hb;rw[gG]at e;cases e;exact⟨hz,us,k,r,ho⟩
  .rw[cB hb]at e;exact(I.bB b u e).vY (λc v a q=>q) λc q=>by rw[cB (kB q hn)];exact q
def Yx{ct:Option aI}{g:TG}{R:AJ->Hp->Prop}{W:Nat->Nat->AJ->St->Hp->Prop}{m0:Nat}{RR:Value->Addr->Result->aK->Prop}
  (hsc:pS X N' scope)(tJ:X.calm=aB)(I2:D3 X ap σ H2 s2)(T:F5 X.prog X.w X.K tg J fp it tn)(st2:tn 0 s2.heap)(f2:∀b∈fp,kJ X ap H2 b)
  (hg:∀s H C fp,PG 'E' tg g)(hct:∀c,ct=aA c->∀s H C fp,PT 'E' c tc)(hct0:ct=aD->∀σ H Q,tc σ H Q->Q aB H)(he:∀s H C fp,PE 'E' elt te)
  (hl:B3 σ'=B3 N')(hσ:∀(i:Nat) x v,N'[i]?=aA x->σ'[i]?=aA (aA v)->scope.names.lookup x=aA .free/\(x,jC)∈scope.names/\∃j:Nat,X.N[j]?=aA x/\σ[j]?=aA (aA v))
  (w0:W 0 m0 [] σ' H2)
  (turn:∀i m ys σ H,W i m ys σ H->(J.stop i H/\R ys H)\/(J.go i H/\∀x H',J.yf i H x H'->g x σ H' λσ2 H2=>tc σ2 H2 λb H3=>if b=aB then te σ2 H3 λy H4=>B3 ys<sizeLine/\∃m',m'<m/\W (i+1) m' (ys++[y]) σ2 H4 else∃m',m'<m/\W (i+1) m' ys σ2 H3))
  (hRR:∀D C s' H' m ys,D3 X ap σ (D4 H' D<|.l ys) s'->H' D=aD->s'.heap.Ns C m->kJ X ap (D4 H' D<|.l ys) C->R ys H'->RR (.ref D) C (.ok .next) s') :
  aT '1' X.A (newList []) (λacc s₃=>aT '1' X.A (newFunctionEnv scope X.env.globals (xU scope X.env) [] X.env.qual aD .none<|aA X.env) (λYo s₄=>uP '1' X.A (.compStart 'J' 0 (.ref it) acc { Yo with scope:=relabel scope X.env }) (RR acc Yo.locals) s₄) E s₃) E s2:=by
 refine uQ<|wpAny_newFunctionEnv hsc.Nh (by intro y hy;simp at hy) (λA l f=>?_) hsc.kind;dsimp only at l f ⊢;generalize hH2:s2.heap.push { cls:=.type "list",dict:=aD,data:=.seq ([]:'2').toArray }=F at l f ⊢;have hC:F.objs.size=s2.heap.objs.size+1:=by rw[<- hH2,uK]
 have hDC:s2.heap.objs.size≠F.objs.size:=by left
 have hCle:s2.heap.objs.size<=F.objs.size:=by rw[hC];exact iG _
 have below:∀b,b<s2.heap.objs.size->b≠F.objs.size/\b≠s2.heap.objs.size:=λb hb=>⟨by grind,bZ hb⟩;have old:∀b o,s2.heap.get? b=aA o->A.get? b=aA o:=λb o e=>f.extBut b o (below b<|dG e).1 (cX _<|hH2▸cX _ e);have Q1:A.get? s2.heap.objs.size=aA (nX [] 0):=f.extBut _ _ hDC (cX _<|hH2▸gS _ rfl);have fD:kJ X ap H2 s2.heap.objs.size:=I2.xZ (aW _) (I2.bB.fresh<|aW _);have lfp:∀b∈fp,b<s2.heap.objs.size:=λb hb=>by obtain⟨o,e,_⟩:=T.obj 0 _ st2 b hb;exact dG e
 have G:∀b∈s2.heap.objs.size::fp,kJ X ap H2 b/\b≠F.objs.size:=λb hb=>by
  rcases dT.1 hb with rfl|hb
  .exact⟨fD,hDC⟩
  .exact⟨f2 b hb,(below b<|lfp b hb).1⟩
 have IY:=I2.comp (t:=s2.toks+B3 ([]:A1)) hsc G hCle old l hl hσ;generalize hDd:s2.heap.objs.size=D at *;generalize hCd:F.objs.size=C at *;have fnD:∀b∈fp,b≠D:=λb hb=>(below b<|lfp b hb).2;have ok:=IY.ok;have hg':=hg s2 H2 C (D::fp);have hct':=λc e=>hct c e s2 H2 C (D::fp);have he':=he s2 H2 C (D::fp);have fY:∀{pl:'7'} {H':Hp}{b:Addr},b∈D::fp->H' b=aD->(∀p∈pl,p.1≠b)->kJ (X.comp N' scope s2 H2 C<|D::fp) pl H' b:=λ{pl H' b} hb hn q=>
  ⟨hn,(ok.Bh b hb).1,ok.ug b hb,.inl hb,(ok.Bh b hb).2,λp h=>q p (by simpa[Cx.comp]using h)⟩
 let Iv:Nat->aK->Prop:=λn s'=>∃(i:Nat) (ys:AJ) (us:'2') (k:Nat) (σ':St) (H':Hp),D3 (X.comp N' scope s2 H2 C<|D::fp) [] σ' H' s'/\tn i s'.heap/\(∀b∈D::fp,H' b=aD)/\s'.heap.get? D=aA (nX us k)/\D5 ys us/\B3 ys<=sizeLine/\W i n ys σ' H'
 have L:∀(n:Nat) (s':aK),Iv n s'->∀(K:aK->Prop) (P:Value->aK->Prop),
   (∀(i:Nat) (ys:AJ) (us:'2') (k:Nat) (pl:'7') (a:St) (B:Hp) (I:aK),D3 (X.comp N' scope s2 H2 C<|D::fp) ([(D,nX us k)]++pl) a B I ->
    (∀S:bK,(∀p∈pl,S.get? p.1=aA p.2)->tn (i+1) S)->(∀b∈fp,∃o,(b,o)∈pl)->(∀p∈pl,p.1∈fp)->D5 ys us->B3 ys<=sizeLine ->
    (tc a B λb H3=>if b=aB then te a H3 λy H4=>B3 ys<sizeLine/\∃m',m'<n/\W (i+1) m' (ys++[y]) a H4 else∃m',m'<n/\W (i+1) m' ys a H3)->K I) ->
   aT '1' X.A (xE<|.ref it) (λr s1=>match r with
    |none=>RR (.ref D) C (.ok .next) s1
    |some v=>aT '1' X.A (Vj tg (.ref it) v) (λ_ s0=>aT '1' X.A (rg tg (compEnvC scope (xU scope X.env) C X.env) v) (λ_ s2=>K s2) P s0) P s1) P s':=by
  rintro n s' ⟨i,ys,us,k,M,H3,I3,st3,fr3,hD3,rv3,hz3,w3⟩ K P hK
  have I3':D3 (X.comp N' scope s2 H2 C<|D::fp) [(D,nX us k)] M H3 s':=I3.mn λp q=>by
   have e:p=(D,nX us k):=by simpa using q
   subst e;exact⟨hD3,fr3 D eL,(ok.Bh D eL).1,ok.ug D eL,λv z=>by cases z⟩
  have fp3:∀{H':Hp},(∀b∈fp,H' b=aD)->∀b∈fp,kJ (X.comp N' scope s2 H2 C<|D::fp) [(D,nX us k)] H' b:=λhn b hb=>fY (eK _ hb) (hn b hb) λp q=>by
   have e:p=(D,nX us k):=by simpa using q
   subst e;exact lM<|fnD b hb
  have fr3':∀b∈fp,H3 b=aD:=λb hb=>fr3 b (eK _ hb);rcases turn i n ys M H3 w3 with⟨stop,hR⟩|⟨go,step⟩
  .refine bG (T.done (X.comp N' scope s2 H2 C<|D::fp) rfl rfl rfl tJ i _ s' M H3 P I3' (fp3 fr3') st3 stop) λr s4 ⟨hr,I4⟩=>?_;subst hr;obtain⟨gD,nD,_⟩:=I4.pin (D,nX us k) (hJ _ eL);obtain⟨m,hn,_⟩:=id I4.loc;have IX:D3 X ap σ H3 s4:=I2.ZR (ch:=D::fp) I4.os I4.base I4.bB I4.bare λb hb=>⟨(G b hb).1.2.2.2.1,(G b hb).1.2.1,(G b hb).1.2.2.2.2.1,(G b hb).1.2.2.2.2.2⟩;refine hRR D C s4 H3 m ys (IX.aSk ⟨nD,fD.2⟩ gD rv3 hz3) nD hn ⟨by rw[cB (lM hDC)];exact I4.free,?_⟩ hR;have fC:kJ X ap H3 C:=I2.xZ (by rw[hDd];exact hCle) I4.free;exact fC.2
  .refine bG (T.item (X.comp N' scope s2 H2 C<|D::fp) rfl rfl rfl tJ i _ s' M H3 P I3' (fp3 fr3') st3 go) λr s4 ⟨u,hr,h4⟩=>?_;subst hr;refine bG h4 λ_ s5 zq=>?_;obtain⟨x,H5,I5,r5,y5,st5,fr5⟩:=zq;have I5':=I5.pinned (fp3 fr5) (T.obj _ _ st5);refine Ey<|bG (hg' _ s5 M H5 x u _ I5' r5<|step x H5 y5) λ_ I ⟨a,B,O,q6⟩=>?_;refine hK i ys us k _ a B I O (λS h=>T.D7 _ _ _ st5 λb hb o e=>h (b,o) (Cy hb e)) (λb hb=>?_) (λp q=>(FY q).1) rv3 hz3 q6;obtain⟨o,e,_⟩:=T.obj _ _ st5 b hb;exact⟨o,Cy hb e⟩
 have back:∀{n i:Nat}{ys:AJ}{us:'2'}{k:Nat}{pl:'7'}{a:St}{B:Hp}{I:aK},D3 (X.comp N' scope s2 H2 C<|D::fp) ([(D,nX us k)]++pl) a B I ->
   (∀S:bK,(∀p∈pl,S.get? p.1=aA p.2)->tn (i+1) S)->(∀b∈fp,∃o,(b,o)∈pl)->D5 ys us->B3 ys<=sizeLine->(∃m',m'<n/\W (i+1) m' ys a B)->∃m',m'<n/\Iv m' I:=by
  intro n i ys us k pl a B I O ht d U hz ⟨m',hm,w⟩;obtain⟨gD,nD,_⟩:=O.pin (D,nX us k) (hJ _<|uM _ eL);refine⟨m',hm,i+1,ys,us,k,a,B,O.mn λp q=>(by cases q),ht _ λp q=>(O.pin p<|hJ _<|hJ _ q).1,λb hb=>?_,gD,U,hz,w⟩;rcases dT.1 hb with rfl|hb
  .exact nD
  .obtain⟨o,ho⟩:=d b hb;exact(O.pin _<|hJ _<|hJ _ ho).2.1
 have app:∀{n i:Nat}{ys:AJ}{us:'2'}{k:Nat}{pl:'7'}{a:St}{Y:Hp}{s7:aK}{y:V}{v:Value}{P:Value->aK->Prop},D3 (X.comp N' scope s2 H2 C<|D::fp) ([(D,nX us k)]++pl) a Y s7 ->
   (∀S:bK,(∀p∈pl,S.get? p.1=aA p.2)->tn (i+1) S)->(∀b∈fp,∃o,(b,o)∈pl)->(∀p∈pl,p.1∈fp)->D5 ys us->D6 y v->B3 ys<sizeLine->(∃m',m'<n/\W (i+1) m' (ys++[y]) a Y) ->
   aT '1' X.A (call (.builtin "list.append") [.ref D,v]) (λ_ s8=>∃m',m'<n/\Iv m' s8) P s7:=by
  intro n i ys us k pl a Y s7 y v P Z ht d N U ry hz ⟨m',hm,w⟩;obtain⟨gD,nD,_⟩:=Z.pin (D,nX us k) (hJ _<|uM _ eL);have hus:B3 us<sizeLine:=by rw[<- U.length];exact hz
  refine append_at (hsz:=by rw[wR];exact kG hus) gD λh8 hs8 g8=>?_;have nb:∀b∈D::fp,Y b=aD:=λb hb=>by
   rcases dT.1 hb with rfl|hb
   .exact nD
   .obtain⟨o,ho⟩:=d b hb;exact(Z.pin _<|hJ _<|hJ _ ho).2.1
  have f8:=fY (pl:=[]) (H':=Y) (b:=D) eL nD (λp q=>by cases q);refine⟨m',hm,i+1,ys++[y],us++[v],k+1,a,Y,(Z.mn (pins':=[]) λp q=>(by cases q)).turned (t':=s7.toks) (it:=D) (λb o hb e=>hs8.extBut b o hb e) nD f8.2.1 f8.2.2.2.1 f8.2.2.2.2.1 f8.2.2.2.2.2,
   ht _ λp q=>?_,nb,?_,U.append (.cons ry .nil),?_,w⟩
  .exact hs8.extBut _ _ (fnD _<|N p q) (Z.pin p<|hJ _<|hJ _ q).1
  .show h8.get? D=_;rw[g8];simp[nX]
  .rw[dU];exact hz
 have i0:Iv m0 { s2 with heap:=A,toks:=s2.toks+B3 ([]:A1) }:=⟨0,[],[],0,σ',H2,IY,T.D7 _ _ _ st2 λb _ o e=>old b o e,λb hb=>(G b hb).1.1,Q1,.nil,jD _,w0⟩;have loop:uP '1' X.A (.compLoop 'J' 0 (.ref it) (.ref D)<|compEnvC scope (xU scope X.env) C X.env) (RR (.ref D) C) { s2 with heap:=A,toks:=s2.toks+B3 ([]:A1) }:=by
  cases ct with
  |none=>refine PySem.W.kcp_loop Iv (λn s' hI=>L n s' hI _ _ ?_) m0 i0;intro i ys us k pl a B I O ht d N U hz q6;have q7:=hct0 rfl a B _ q6;rw[if_pos rfl]at q7;refine Ey<|bG (he' _ I a B _ O q7) λv s7 ⟨y,Y,Z,r7,hz7,w7⟩=>?_;exact app Z ht d N U r7 hz7 w7
  |some c=>
   refine PySem.W.kct_loop Iv (λn s' hI=>L n s' hI _ _ ?_) m0 i0;intro i ys us k pl a B I O ht d N U hz q6;refine Ey<|bG (hct' c rfl _ I a B _ O q6) λb s7 ⟨Y,Z,q7⟩=>?_;cases b with
   |true=>rw[if_pos rfl]at q7 ⊢;refine Ey<|bG (he' _ s7 a Y _ Z q7) λv s8 ⟨y,H8,I8,r8,hz8,w8⟩=>?_;exact app I8 ht d N U r8 hz8 w8
   |false=>rw[if_neg iA]at q7 ⊢;exact back Z ht d U hz q7
 exact codeAny_compStart_list loop<|T.self _ 0 _ _ _ (T.D7 _ _ _ st2 λb _ o e=>old b o e) loop
def Qk(wi:TI)(imp:St->St)(g:TG)(tc:TT)(te:TE):TE:=λZ H Q=>wi Z H λJ H1=>∃(W:Nat->Nat->AJ->St->Hp->Prop) (m0:Nat),W 0 m0 [] (imp Z) H1/\∀i m ys Z' H',W i m ys Z' H' ->
 (J.stop i H'/\∀D,H' D=aD->Q (.ref D) (D4 H' D<|.l ys))\/(J.go i H'/\∀x H2,J.yf i H' x H2->g x Z' H2 λZ3 H3=>tc Z3 H3 λb H4=>if b=aB then te Z3 H4 λy H5=>B3 ys<sizeLine/\∃m',m'<m/\W (i+1) m' (ys++[y]) Z3 H5 else∃m',m'<m/\W (i+1) m' ys Z3 H4)
variable {ct:Option aI}{wi:TI}{imp:St->St}{g:TG}
def aDz(hsc:pS X N' scope)(tJ:X.calm=aB)(hi:PI X tg iter wi)
  (hg:∀s H C fp,PG 'E' tg g) (hct:∀c,ct=aA c->∀s H C fp,PT 'E' c tc) (hct0:ct=aD->∀Z H Q,tc Z H Q->Q aB H) (he:∀s H C fp,PE 'E' elt te)
  (himp:∀Z:St,B3 (imp Z)=B3 N')
  (hσ:∀(Z:St) (i:Nat) x v,N'[i]?=aA x->(imp Z)[i]?=aA (aA v)->scope.names.lookup x=aA .free/\(x,jC)∈scope.names/\∃j:Nat,X.N[j]?=aA x/\Z[j]?=aA (aA v))
  (Lf:∀x,Hn iter X.env x=pure x):PE X 'J' (Qk wi imp g tc te):=by
 intro ap s Z H Q I h;refine RY rfl Lf (hsc.Yu I.ok) hsc.kind hsc.EV ?_;refine bG (hi ap s Z H _ I h) λv s1 k=>bG k λl s2 n=>?_;obtain⟨it,fp,tn,J,u,e,p,T,d,f2,W,m0,w0,turn⟩:=n;subst e;refine Yx hsc tJ p T d f2 hg hct hct0 he (himp Z) (hσ Z) w0 turn ?_;intro D C w y m z q r hn a t;exact⟨m,hn,λA f=>⟨.ref D,_,q.turned (λb o hb e=>f.extBut b o hb e) a.1 a.2.1 a.2.2.2.1 a.2.2.2.2.1 a.2.2.2.2.2,rfl,t D r⟩⟩
def aGr{i:Nat}{y:Str}{py sN:Pos}(hN:X.N.Nodup)(hi':X.N[i]?=aA y)(hy:X.env.scope.names.lookup y=aA .local)
  (hsw:xF 'J' (aA<|.Name y py) sN.line X.env=pure aB) (hsc:pS X N' scope) (tJ:X.calm=aB) (hi:PI X tg iter wi)
  (hg:∀s H C fp,PG 'E' tg g) (hct:∀c,ct=aA c->∀s H C fp,PT 'E' c tc) (hct0:ct=aD->∀Z H Q,tc Z H Q->Q aB H) (he:∀s H C fp,PE 'E' elt te)
  (himp:∀Z:St,B3 (imp Z)=B3 N')
  (hσ:∀(Z:St) (i:Nat) x v,N'[i]?=aA x->(imp Z)[i]?=aA (aA v)->scope.names.lookup x=aA .free/\(x,jC)∈scope.names/\∃j:Nat,X.N[j]?=aA x/\Z[j]?=aA (aA v))
  (Lf:∀x,Hn iter X.env x=pure x):PS X (.Assign [.Name y py] 'J' sN) (KU (Qk wi imp g tc te)<|CJ i):=by
 intro ap s Z H D I h;rw[exec_Assign_Name_used _ _ _ _ hsw];refine aR<|zo<|aR ?_;refine aR (zi (RY rfl Lf (hsc.Yu I.ok) hsc.kind hsc.EV ?_)
  (λ_ t A=>cH (cH A)) λ_ _ e=>e)
 refine bG (hi ap s Z H _ I h) λv s1 B=>bG B λE s2 F=>?_;obtain⟨it,fp,tn,J,U,e,G,T,l,f2,W,m0,w0,turn⟩:=F;subst e;refine Yx hsc tJ G T l f2 hg hct hct0 he (himp Z) (hσ Z) w0 turn ?_;intro d C t K m L u M hn a N;obtain⟨k,O,P,n,f,R⟩:=id hn;have q:D3 X (ap++[(C,k)]) Z (D4 K d<|.l L) t:=u.mn λp S=>(eh.1 S).elim (λz=>u.pin p (hJ _ z)) λz=>by
  have e:p=(C,k):=by simpa using z
  subst e;exact⟨n,a.1,a.2.1,a.2.2.1,λv z=>by rw[f]at z;cases z⟩
 refine RW<|oj q hN hi' (.inl hy) (v:=.ref d) rfl (λV w=>?_)<|.inr hy;exact⟨m,⟨k,O,P,((w.pin (C,k)<|hJ _<|hJ _ eL).1),f,R⟩,λY r=>⟨_,_,w.Fc.turned (λb o hb e=>r.extBut b o hb e) a.1 a.2.1 a.2.2.2.1 a.2.2.2.2.1 a.2.2.2.2.2,N d M⟩⟩
end
end L2
namespace AM
open PySem PySem.Spec PyProof.Rows L2
variable {A:cM}{E:XK}{H H':Hp}{O O':HO}{P prog:cC}{Q:VK}{S1 S2:Nat->bK->Prop}{X:Cx}{a dx i1 i2 it l l1 l2 z:Addr}{apos kq p p2 pos py:Pos}{args elts es ts:List aI}{b bb:Bool}{c ep n tk:Nat}{e elt:aI}{env:Env}{fd:fA}{gH ys:AJ}{h':bK}{i j:Int}{items:AR}{ks ps:AK}{ns:AW}{op':rD}{ap:BA}{s:aK}{scope:gI}{sp:Sp}{sts:AN}{tb:TE}{us:List (aN×V)}{w:bV}{x' y':V}{Y Y':AI}{Z':L2.St}
def aj(K:bN)(H:Hp)(_:Nat)(x y:V)(b:Bool):Prop:=∃(a c:Addr) (xs:AJ),x = .ref a/\y = .ref c/\eB K H a xs/\eB K H c []/\b=xs.isEmpty
section
variable {Z:L2.St}
def FD(I:'&'){xs:AJ}(h:eB X.K H a xs):∃its:'2',D5 xs its/\s.heap.IsList a its.toArray:=by obtain⟨its,r,p,_⟩:=I.list h;exact⟨its,r,p.isList⟩
def aj.rc(I:'&'){c:Addr}(hu:A.units+n<cLine)(h:aj X.K H n (.ref a) (.ref c) b):SeqAt.RcAt A s (.ref a) (.ref c) b/\SeqAt.RcNeAt A s (.ref a) (.ref c) (!b):=by
 obtain⟨_,_,xs,e1,e2,h1,h2,rfl⟩:=h;cases e1;cases e2;have h0:A.units<cLine:=by omega
 obtain⟨us,r1,p1⟩:=FD I h1;obtain⟨vs,r2,p2⟩:=FD I h2;cases r2;cases r1 with
 |nil=>exact⟨SeqAt.RcAt.lists (e:=λ_=>aB) p1 p2 rfl h0 λj z=>absurd z (Gy j),SeqAt.RcNeAt.lists (e:=λ_=>aB) p1 p2 rfl h0 λj z=>absurd z (Gy j)⟩|cons _ _=>exact⟨SeqAt.RcAt.lists_lengths p1 p2 rfl h0,SeqAt.RcNeAt.lists_lengths p1 p2 rfl h0⟩
def aNc(n:Bool)(K:bN):R2:=λx y H Q=>JI n x y H Q\/∃b a c,x = .ref a/\y = .ref c/\aj K H 12 x y b/\Q (.bl<|cond n (!b) b) H
def aBx(n:Bool)(hu:X.A.units+12<cLine):cY X (dM<|cond n .NotEq .Eq) (aNc n X.K):=by
 intro ap s Z H x y v u Q I d e h;rcases h with h|⟨b,a,c,rfl,rfl,h,q⟩
 .exact aBw n ap s Z H x y v u Q I d e h
 .cases d;cases e;cases n<;>first|exact(aj.rc I hu h).1 _ _ _ _ ⟨.bl b,H,I,rfl,q⟩|exact(aj.rc I hu h).2 _ _ _ _ ⟨.bl (!b),H,I,rfl,q⟩
end
def aNd:R2:=λx y H Q=>∃a v,x = .ref a/\mE H a y (aA v)/\Q v H
def U8:uS X aNd:=by
 intro value slice ap s Z H x y o i Q I e f h hs;obtain⟨a,v,rfl,g,q⟩:=h;cases e;have j:=p8 I g;have hl:=PySem.F.slot_dict_getitem.lookup;have k:aT '1' X.A (ip (.ref a) i) (EP X ap Z Q) X.xe s:=m9 I g f λm s3 l d=>⟨v,H,l,d,q⟩;refine aR ?_;refine aR<|wpAny_specialOf j hl ?_;have fin:aT '1' X.A (Vq slice aJ (.ref a) i) (λr b=>aT '1' X.A (letTemporaryGo value (.ref a) r>>=λ_=>pure r) (EP X ap Z Q) X.xe b) X.xe s:=by rw[hs];exact wpAny_operating<|zi k (λr b c=>aR (wpAny_letTemporaryGo<|cH c)) λ_ _ x=>x
 first
  |exact cH<|aR fin|exact aR<|cH<|aR fin|exact aR fin
def JK(neg:Bool):R2:=λy x H Q=>∃a o,x = .ref a/\mE H a y o/\Q (.bl<|cond neg (!o.isSome) (qw o)) H
def aCb(n:Bool):cY X (dM<|cond n .NotIn .In) (JK n):=by intro ap s Z H x y v u Q I b c h;obtain⟨a,o,rfl,g,q⟩:=h;cases c;exact n7 n I g b λs3 d=>⟨.bl _,H,d,rfl,q⟩
def aNj:V->V->V->Hp->(Hp->Prop)->Prop:=λo i v H Q=>∃a H',o = .ref a/\rq H a i v H'/\Q H'
def aOk:Ie X (λo i v H Q=>JM o i v H Q\/aNj o i v H Q):=by
 intro ap s Z H o i v e f u Q I b c d h;rcases h with h|⟨a,k,rfl,g,q⟩
 .exact aOl ap s Z H o i v e f u Q I b c d h
 .cases b;exact p3 I g c d λs4 j=>⟨_,j,q⟩
def JE:V->AJ->Hp->VK->Prop:=λx vs H Q=>∃a y o,x = .ref a/\mE H a y o/\((vs=[y]/\Q (o.getD .aG) H)\/∃z,vs=[y,z]/\Q (o.getD z) H)
def aAm:xI X "dict.get" JE:=by
 intro ap s m H x n v us Q I e d h;obtain⟨a,y,o,rfl,g,h⟩:=h;cases e;rcases h with⟨rfl,q⟩|⟨z,rfl,q⟩
 .obtain⟨u,rfl,f⟩:=d.one;exact m7 I g f λi j c b=>⟨_,H,c,b,q⟩
 .obtain⟨p,r,rfl,k,l⟩:=yZ d;exact m8 I g k l λi j c b=>⟨_,H,c,b,q⟩
def JF:V->AJ->Hp->VK->Prop:=λx vs H Q=>∃a kvs k,x = .ref a/\H a=aA (.dK kvs) /\
 ((vs=[kV k]/\∃v,fR kvs k=aA v/\Q v (D4 H a<|.dK<|rO kvs k))\/∃z,vs=[kV k,z]/\(∀v,fR kvs k=aA v->Q v (D4 H a<|.dK<|rO kvs k))/\(fR kvs k=aD->Q z H))
def aAn:xI X "dict.pop" JF:=by
 intro ap s t H x w v us Q I j f h;obtain⟨a,d,k,rfl,e,h⟩:=h;cases j;rcases h with⟨rfl,v,l,q⟩|⟨z,rfl,m,n⟩
 .obtain⟨u,rfl,o⟩:=f.one;exact Zi I e o l (.inl rfl) λp g c b=>⟨v,_,c,b,q⟩
 .obtain⟨y,A,rfl,i,r⟩:=yZ f;cases l:fR d k with
  |some v=>exact Zi I e i l (.inr ⟨_,rfl⟩) λp g c b=>⟨v,_,c,b,m v l⟩|none=>exact n9 I e i l λg c=>⟨z,H,c,r,n l⟩
def JG:V->AJ->Hp->VK->Prop:=λx vs H Q=>∃a kvs k z,x = .ref a/\H a=aA (.dK kvs)/\vs=[kV k,z]/\B3 kvs<sizeLine/\(∀v,fR kvs k=aA v->Q v H)/\(fR kvs k=aD->Q z (D4 H a<|.dK<|F2 kvs k z))
def aAo:xI X "dict.setdefault" JG:=by
 intro ap s w H x y v us Q I i j h;obtain⟨a,b,k,z,rfl,e,rfl,A,m,n⟩:=h;cases i;obtain⟨B,o,rfl,p,f⟩:=yZ j;obtain⟨C,hd,ws,rel,dd⟩:=cq I.bB e;refine ab QY dd.typeIs aYj (aYh _ _ _) (kt_meets_setdefault (gL X.prog X.w) a (rZ p) hd o)
  ⟨ws,dd,by simp_all[rel.length],λD hw=>?_,λhn r c t=>?_⟩
 .cases l:fR b k with
  |none=>have:iy ws k=aD:=iH.none_of (by rw[<- l];exact rel.val k);rw[this]at hw;exact bU hw
  |some v=>obtain⟨w2,d,g⟩:=iH.some_of (by rw[<- l];exact rel.val k);rw[d]at hw;cases hw;exact⟨v,H,I.tok _,g,m v l⟩
 .have l:fR b k=aD:=by
   cases l:fR b k with
   |none=>rfl|some v=>obtain⟨w2,d,g⟩:=iH.some_of (by rw[<- l];exact rel.val k);rw[d]at hn;cases hn
  have he:∃q,r.get? a=aA q:=let ⟨q,_,_,u,_⟩:=c;⟨q,u⟩;refine⟨z,_,jx I (e▸mT) t he (ue ?_ hd (rel.C9 k f) c),f,n l⟩;have:=Cq b k z;lia
def DR{k:aN}{v:Value}(h:ee k v=aB):D6 (kV k) v:=by
 rcases tP h with⟨i,t,rfl,rfl⟩|⟨x,t,rfl,rfl⟩
 .exact⟨t,rfl⟩
 .exact⟨t,rfl⟩
def DY{kvs:List (aN×V)}{vs:List (aN×Value)}(r:KV kvs vs):∀{i:Nat}{k:aN}{x:Value},vs[i]?=aA (k,x)->∃v,kvs[i]?=aA (k,v):=by
 induction r with
 |nil=>intro i k x e;simp at e|@cons p q ps b h t a=>
  intro i k x e;cases i with
  |zero=>simp at e;subst e;exact⟨p.2,by simp;exact Ud h.1 rfl⟩
  |succ i=>simpa using a (by simpa)
def NF(X:Cx)(a:Addr):Prop:=∀o u,X.H₀ a≠aA (.dI o u)
section
variable {Z:L2.St}{kvs:List (aN×V)}{o:Obj}{tg:aI}
def vf(I:'&')(e:H a=aA (.dK kvs)):NF X a:=λo u z=>by have:=I.base.rS a o u z;rw[e]at this;cases this
def T9(I:'&')(e:H a=aA (.dK kvs)):∃o,s.heap.get? a=aA o/\D3 X ap Z (D4 H a<|.dI o<|.dK kvs) s:=by obtain⟨z,y,d,r,ob,f,g,b,c⟩:=id (I.bB a _ e);have mu:jg (H a):=e▸mT;have ob':iB X.prog X.w (D4 H a<|.dI ob<|.dK kvs) s.heap a (.dI ob<|.dK kvs):=⟨b,z,y,d,r,ob,f,g,b,c⟩;have:=I.un (t':=s.toks) (Un.write mu (.inl rfl) (λ_ _ _ q=>q) ⟨ob,b⟩) (fF.write I.bB mu (.inl rfl) (λ_ _ _ q=>q) ⟨ob,b⟩ ob');exact⟨ob,b,this⟩
def vg(I:'&')(e:H a=aA (.dI o<|.dK kvs))(nf:NF X a):D3 X ap Z (D4 H a<|.dK kvs) s:=by
 have d:∀b,H b=aD->b≠a:=λb n z=>by grind
 refine⟨I.ok,I.os,I.bare,⟨I.base.D7,I.base.D9,λb u q n h=>?_,I.base.there,λb xs q=>?_,λb x u q=>?_⟩,I.loc,I.cell,?_,λx c q=>?_,λp i=>?_,λb u q=>?_,I.len⟩
 .have:=I.base.free b u q n h;rw[cB (d b this)];exact this
 .have f:=I.base.wD b xs q;rw[cB (λz=>by left)];exact f
 .rw[cB (λz=>by rw[z]at q;exact nf x u q)];exact I.base.rS b x u q
 .rw[cB (d _ I.free)];exact I.free
 .rw[cB (d _<|I.rQ x c q)];exact I.rQ x c q
 .obtain⟨f,g,j⟩:=I.pin p i;exact⟨f,by rw[cB (d _ g)];exact g,j⟩
 .by_cases hb:b=a
  .subst hb;rw[gG]at q;cases q;exact(I.bB b _ e).2
  .rw[cB hb]at q;exact(I.bB b u q).vY (λ_ _ _ r=>r) λc r=>by rw[cB (λz=>by left)];exact r
def Hy(a:Addr)(o:Obj)(kvs:List (aN×V)):It:=
 ⟨λi H=>H a=aA (.dI o<|.dK kvs)/\i<B3 kvs,λi H x H'=>H'=H/\∃k v,kvs[i]?=aA (k,v)/\x=kV k,λi H=>H a=aA (.dI o<|.dK kvs)/\B3 kvs=i⟩
def BS(I:'&')(e:H a=aA (.dI o<|.dK kvs)){es:Array DictEntry}(hd:o.data = .dict es ep):∃vs,KV kvs vs/\Heap.DictAt (gL X.prog X.w) s.heap a vs ep:=by obtain⟨c,z,y,vs,r,ob,f,g,b,h,d,i⟩:=I.bB a _ e;rw[c]at b;cases b;rw[hd]at d;cases d;exact⟨vs,r,o,es,c,h,hd,i⟩
def aSm{K:bN}(a it:Addr)(hai:a≠it){es:Array DictEntry}(hd:o.data = .dict es ep):F5 P w K tg (Hy a o kvs) [it] it (λi h=>h.IsKeyIter it a i (B3 kvs) ep) where
 mem:=by simp
 obj:=λi h st b hb=>by
  have e:b=it:=by left
  subst e;obtain⟨o,e,c,d⟩:=st;exact⟨o,e,λv z=>by grind⟩
 D7:=λi h l st k=>by obtain⟨o,e,c,d⟩:=st;exact⟨o,k it (by simp) o e,c,d⟩
 item:=by intro X m hw n p i ap s G H E I j st q;subst m hw n;obtain⟨e,J⟩:=q;obtain⟨g,r,t⟩:=BS I e hd;have hl:=r.length;obtain⟨f0,f1,f2,u,f4,B⟩:=j it (by simp);have W:=RJ (knd:=gL X.prog X.w) (I.ok.hd p) it a hai g ep;refine W.item i s _ _ (by lia) ⟨hl▸st,t⟩ λv l tk C D F=>?_;obtain⟨k,x,L,C⟩:=C;obtain⟨y,M⟩:=DY r L;have N:D3 X ap G H { s with heap:=l,toks:=tk }:=I.turned (λb o hb e=>F b o (by simpa) e) f0 f1 u f4 B;obtain⟨f,_⟩:=D;rw[<- hl]at f;obtain⟨oi,O,ci,R⟩:=id f;exact⟨v,rfl,Bv O ci R (rfl) ⟨kV k,H,N,DR C,⟨rfl,k,y,M,rfl⟩,f,λb hb=>(j b hb).1⟩⟩
 done:=by intro X m hw n p i ap s G H E I j st q;subst m hw n;obtain⟨e,J⟩:=q;obtain⟨g,r,t⟩:=BS I e hd;have hl:=r.length;obtain⟨f0,f1,f2,u,f4,B⟩:=j it (by simp);have W:=RJ (knd:=gL X.prog X.w) (I.ok.hd p) it a hai g ep;refine W.done s _ _ ⟨by left,t⟩ λl tk F=>?_;exact⟨rfl,I.turned (λb o hb e=>F b o (by simpa using hb) e) f0 f1 u f4 B⟩
 self:=λA i s Q E st h=>by obtain⟨o,e,c,d⟩:=st;exact wpAny_pyIter_keyiter ⟨o,e,c,d⟩ h
def R9(tl:TE):TI:=λZ H R=>tl Z H λx H1=>∃a kvs,x = .ref a/\H1 a=aA (.dK kvs)/\∀o,R (Hy a o kvs) (D4 H1 a<|.dI o<|.dK kvs)
def aFb{l:aI}{tl:TE}(hl:PE X l tl):PI X tg l (R9 tl):=by
 intro ap s k H R I h;refine bG (hl ap s k H _ I h) λv s1 m=>?_;obtain⟨x,H1,i,n,p⟩:=m;obtain⟨a,d,e,ha,q⟩:=p;subst e;cases n;obtain⟨o,f,g⟩:=T9 i ha;obtain⟨z,y,t,r,ob,u,B,c,w,j,A⟩:=i.bB a _ ha;rw[f]at c;cases c;have hl:=r.length;refine wpAny_pyIter_dict y ⟨o,u,f,w,j,A⟩ ?_;have hU:=dG f;refine⟨s1.heap.objs.size,[s1.heap.objs.size],_,_,_,rfl,g.E6 λb o e=>cX _ e,aSm a _ (bZ hU) j,⟨_,gS _ rfl,rfl,by rw[hl];rfl⟩,λb hb=>?_,q o⟩;have e:b=s1.heap.objs.size:=by left
 subst e;exact g.xZ (aW _)<|g.bB.fresh<|aW _
def Tw(H0:Hp)(Q:Hp->Prop)(H:Hp):Prop:=∃a k0 o kvs,H0 a=aA (.dK k0)/\H a=aA (.dI o<|.dK kvs)/\Q (D4 H a<|.dK kvs)
def aEs{t:TE}(h:PE X e t):PE X e (λZ H Q=>t Z H λx=>Tw H (Q x)):=by intro ap s Z H Q I q;refine bG (h ap s Z H _ I q) λv s1 b=>?_;obtain⟨x,H1,c,d,a,k,o,f,g,i,j⟩:=b;exact⟨x,_,vg c i (vf I g),d,j⟩
def Zw(H:Hp)(D:Ends):Ends:=⟨λZ=>Tw H (D.nx Z),λv=>Tw H (D.rt v),λZ=>Tw H (D.bk Z),λZ=>Tw H (D.ct Z)⟩
def aGs{st:Stmt}{t:TS}(h:PS X st t):PS X st (λD Z H=>t (Zw H D) Z H):=by
 intro ap s Z H D I q;refine bG (h ap s Z H _ I q) λf s1 j=>?_;cases f with
 |next=>obtain⟨b,H1,c,a,k,o,d,e,g,i⟩:=j;exact⟨b,_,vg c g (vf I e),i⟩|brk=>obtain⟨b,H1,c,a,k,o,d,e,g,i⟩:=j;exact⟨b,_,vg c g (vf I e),i⟩|cont=>obtain⟨b,H1,c,a,k,o,d,e,g,i⟩:=j;exact⟨b,_,vg c g (vf I e),i⟩|ret u=>obtain⟨v,b,H1,c,l,a,k,o,d,e,g,i⟩:=j;exact⟨v,b,_,vg c g (vf I e),l,i⟩
end
def aTc{bs:BC}:∀{us:'2'},D5 (bs.map V.bl) us->us=bs.map sW:=by
 induction bs with
 |nil=>intro us r;cases r;rfl|cons b bs a=>
  intro us r;cases r with
  |cons h t=>have c:=h;subst c;rw[a t];rfl
def Qx:∀{us:'2'},D5 (ns.map V.int) us->gz us ns:=by
 induction ns with
 |nil=>intro us r;cases r;exact .nil|cons n ns a=>
  intro us r;cases r with
  |cons h t=>obtain⟨k,rfl⟩:=(h);exact .cons n k<|a t
def aNm(bs:BC):(Tp (B3 bs)).any (λi=>(bs[i]?).getD aJ)=bs.any id:=by
 rw[qf,Su,Su];constructor
 .rintro ⟨i,c,h⟩
  have a:=y4.1 c;rw[eD a]at h;exact⟨bs[i],Ta a,h⟩
 .rintro ⟨b,hb,h⟩
  obtain⟨i,c,e⟩:=Tb hb;exact⟨i,y4.2 c,by rw[eD c,e];exact h⟩
def lK(rev:Bool)(ns:'0'):'0':=ns.mergeSort (λa b=>if rev then decide (b<=a) else decide (a<=b))
def Pz{rev:Bool}{ns':'0'}(hp:ns'.Perm ns)(ho:Ordered rev ns'):ns'=lK rev ns:=by
 have d:NW (λa b=>(if rev then decide (b<=a) else decide (a<=b))=aB) (lK rev ns):=by
  refine aXf ?_ ?_ ns
  .intro a b c;cases rev<;>simp<;>lia
  .grind
 refine aWw ?_ ?_ d<|hp.trans (OX _ _).symm
 .grind
 .unfold Ordered at ho;cases rev with
  |true=>left|false=>left
section
variable {Z:L2.St}
def ZS(hc:X.calm=aB):kI X (.builtin "any") (λxs H Q=>∃(a:Addr) (bs:BC),xs=[.ref a]/\eB X.K H a (bs.map V.bl)/\Q (.bl<|bs.any id) H):=by
 intro ap s A H xs us Q I r h;obtain⟨a,bs,rfl,j,q⟩:=h;obtain⟨u,rfl,l⟩:=r.one;cases l;obtain⟨m,t,p,B⟩:=I.list j;have e:=aTc t;subst e;have w:X.A.in1.handled=aD:=I.ok.hd hc;obtain⟨ob,g,x,n,y⟩:=p.isList;refine call_any_walk<|zj p.isList ?_;refine⟨s.heap.objs.size,_,_,_,_,_,λi=>(bs[i]?).getD aJ,rfl,Walks.list w s.heap.objs.size a (bZ<|dG g) (bs.map sW).toArray,⟨⟨_,gS _ rfl,rfl,rfl⟩,⟨ob,cX _ g,x,n,y⟩⟩,λi v C D E c d=>?_,λF tk k=>?_⟩
 .dsimp only at c d;rw[List.getElem?_toArray,eQ]at c;cases e:bs[i]? with
  |none=>left|some b=>rw[e]at c d;have f:=cR c;subst f;exact uR d
 .have hl:(bs.map sW).toArray.size=B3 bs:=by simp
  rw[hl,aNm];refine⟨.bl _,H,I.E6 λb o e=>k b o ?_ (cX _ e),rfl,q⟩;intro hb;have z:b=s.heap.objs.size:=by left
  subst z;exact absurd (dG e)<|nQ _
def d6(b:Bool)(I:'&')(hq:eB X.K H l (ns.map V.int))(hn:B3 ns<64)(q:∀D,H D=aD->Q (.ref D) (D4 H D<|.l<|(lK b ns).map V.int)) :
  aT '1' X.A (call (.builtin "sorted") [.ref l] [(wY "reverse",.bool b)]) (EP X ap Z Q) X.xe s:=by
 obtain⟨a,c,p,k⟩:=I.list hq;have hl:B3 a=B3 ns:=by have:=c.length;simpa using this.symm
 refine sorted_ints_rev p.isList (Qx c) (by lia) λout f g d h=>?_;have e:=Pz d h;subst e;obtain⟨i,j⟩:=sortedAll_at s.heap a out;refine⟨.ref _,_,I.F1 (o:=.l ((lK b ns).map V.int)) (λb u z=>sortedAll_old z) (iG _) ⟨?_,out.toList,i,MA g,by rw[j]⟩,rfl,q _ (I.bB.fresh<|iG _)⟩;have:=d.length_eq;rw[aU];have:64<=sizeLine:=by decide
 lia
def FN(l:Addr)(d:Value):Builtin.min { pos:=[.ref l],kw:=[(wY "default",d)] }=(do
   let it <- zg (.ref l)
   let S <- newList []
   again (.builtin "min.loop" { pos:=[it,.none,S],kw:=[(wY "default",d)] })):=by
  with_unfolding_all rfl
def Yq(a d:Value):checkBuiltinCall "min" { pos:=[a],kw:=[(wY "default",d)] }=pure ():=by with_unfolding_all rfl
def aAf(I S:Addr)(d:Value)(n:Str):∃k:Option (Array Value)->Sem Um,Builtin.«min.loop» { pos:=[.ref I,.none,.ref S],kw:=[(n,d)] }=(iq (.ref S)>>=k) /\
  ∃(h:Value->Sem '8') (k2:'8'->Sem Um),k (aA #[])=((tryCatch (xE<|.ref I) h)>>=k2)/\k2 aD=(rule "min.default">>=λ_=>ret d):=by
 refine⟨_,by with_unfolding_all rfl,_,_,by with_unfolding_all rfl,by with_unfolding_all rfl⟩
def c8(hc:X.calm=aB){d:Value}{v:V}(I:'&')(hq:eB X.K H l [])(rd:D6 v d)(q:Q v H) :
  aT '1' X.A (call (.builtin "min") [.ref l] [(wY "default",d)]) (EP X ap Z Q) X.xe s:=by
 obtain⟨a,c,p,w⟩:=I.list hq;cases c;have f:=I.ok.hd hc;obtain⟨ob,g,h,n,j⟩:=p.isList;refine zh<|RN QX QU ?_;rw[Yq];refine cH ?_;rw[FN];refine aR<|zj p.isList<|aR<|SE ?_;refine cH ⟨NO _ (by decide +kernel),Hm Hf ?_⟩;obtain⟨k,m,hd,k2,r,t⟩:=aAf s.heap.objs.size (s.heap.push { cls:=.type "list_iterator",data:=.fields #[.ref l,.int 0 0] }).objs.size d (wY "default");rw[m];refine aR<|oT (gS _ rfl) rfl ?_;show aT _ _ (k<|aA #[]) _ _ _;rw[r];refine aR<|zp<|SK (items:=#[]) (l:=l) (i:=0) f ?_ ?_ rfl λx u=>?_
 .exact⟨_,cX _ (gS _ rfl),rfl,rfl⟩
 .exact⟨ob,cX _ (cX _ g),h,n,j⟩
 .rw[t];refine aR<|ro<|cH ?_;refine⟨v,H,I.E6 (t':=s.toks) λb o e=>u b o ?_ (cX _<|cX _ e),rd,q⟩;intro hb;subst hb;exact absurd (dG e)<|nQ _
def GX{x nm:Str}{id:String}{kp:Pos}{kc:aI}{t:TE}{z:V}{r:V->Hp->VK->Prop}(hc:∀ap s Z H v u zu Q,'&'->D6 v u->D6 z zu->r v H Q->aT '1' X.A (call (.builtin id) [u] [(nm,zu)]) (EP X ap Z Q) X.xe s)
  (hg:Gl X x)(hm:X.mg x=aD)(hv:oS x=aA (.builtin id))(ha:PE X e t)(hk:PE X kc (tC z))(hs:eS [e] X.env=[(aJ,eval e X.env)])(hn:autoParam (x≠"__name__") aEv._auto_1)(hdb:autoParam ('B'=aJ) aEv._auto_1) :
  PE X (.Call (.Name x p) [e] [⟨aA nm,kc,kp⟩] pos) (λZ H Q=>t Z H λv H1=>r v H1 Q):=by
 intro ap s Z H Q I h;refine iz<|fc I hg hm hv ?_ hn hdb;have pa:=yO ha fq hs;have k:PK X [⟨aA nm,kc,kp⟩] (Ql (tC z) oq):=aFh hk aFi;obtain⟨y,rest,b⟩:∃y rest,mD pos (eS [e] X.env)=(aJ,y)::rest:=by rw[hs];exact⟨_,_,rfl⟩
 have c:(mD pos<|eS [e] X.env).any (·.1)=aJ:=by rw[hs];rfl
 refine callWith_builtin_kwB c rfl ?_;have i:=pa pos ap s Z H (λa H1=>match a with
  |[v]=>r v H1 Q
  |_=>False) I h
 rw[b]at i ⊢;refine evalArgs_kw rfl ?_;refine bG i λus s1 d=>?_;obtain⟨a,H1,l,m,j⟩:=d;obtain⟨v,rfl⟩:∃v,a=[v]:=by
  match a,j with
  |[v],_=>exact⟨v,rfl⟩
 obtain⟨u,rfl,n⟩:=m.one;refine bG (k pos ap s1 Z H1 (λzs f=>zs=[z]/\f=H1) l ⟨rfl,rfl⟩) λws s2 d=>?_;obtain⟨zs,f,o,q,w,A⟩:=d;subst w A;obtain⟨zu,rfl,g⟩:=q.one;exact hc ap s2 Z f v u zu Q o n g j
end
def sC:'0'->Int
 |[]=>0
 |n::r=>r.foldl (λm x=>if x<m then x else m) n
theorem Mj:∀(r:'0') (n:Int),(r.foldl (λm x=>if x<m then x else m) n∈n::r)/\∀a∈n::r,r.foldl (λm x=>if x<m then x else m) n<=a
 |[],n=>by simp
 |x::r,n=>by
  obtain⟨f,b⟩:=Mj r (if x<n then x else n);rw[ON];refine⟨?_,λa ha=>?_⟩
  .rcases dT.1 f with e|e
   .rw[e];split<;>simp
   .simp_all
  .have c:=b _ (eL ..);have d:(if x<n then x else n)<=x/\(if x<n then x else n)<=n:=by lia
   rcases dT.1 ha with rfl|ha
   .exact sR c d.2
   .rcases dT.1 ha with rfl|ha
    .exact sR c d.1
    .exact b a<|eK _ ha
def Ml(h:ns≠[]):sC ns∈ns:=by
 cases ns with
 |nil=>exact absurd rfl h|cons n r=>exact(Mj r n).1
def FL{a:Int}(h:a∈ns):sC ns<=a:=by
 cases ns with
 |nil=>cases h|cons n r=>exact(Mj r n).2 a h
def aAc{M:Int}(h1:M∈ns)(h2:∀a∈ns,M<=a):M=sC ns:=by have b:=FL h1;have c:=h2 _ (Ml<|List.ne_nil_of_mem h1);lia
section
variable {R:Result->aK->Prop}{I:Addr}{fp wr:AI}{P:Nat->Value->Prop}{St:Nat->bK->Prop}
def aAd(nm:Str)(d:Value)(W:Walks prog w A.in1 I fp wr n P St)(bt:Nat->Nat->Bool)(Lc:CmpOf prog w A.in1 .Lt P bt)(S:Addr)(hSf:S∉fp) :
  ∀(k j:Nat) (s:aK) (vb:Value) (c:Nat),n-(j+1)=k->j+1<=n->St (j+1) s.heap->P (xA bt j) vb->s.heap.get? S=aA { cls:=.type "list",dict:=aD,data:=.seq #[vb,vb] c,slots:=#[] } ->
  (∀v h' tk,P (xA bt<|n-1) v->(∀b o,b∉wr->b≠S->s.heap.get? b=aA o->h'.get? b=aA o)->R (.ok<|.ret v) { s with heap:=h',toks:=tk }) ->
  uP (aZ prog w) A (.builtin "min.loop" ⟨[.ref I,.none,.ref S],[(nm,d)]⟩) R s:=by
 have y:=λh=>hSf (W.sub _ h);have i:(toString "min"++toString ".loop":String)="min.loop":=by decide
 intro k;induction k with
 |zero=>
  intro j s vb c G H t q z C;have B:j+1=n:=by lia
  refine Hm Hf ?_;rw[Sf qy _];show aT _ A.in1 (iq (.ref S)>>=_) _ _ s;refine aR<|oT z rfl ?_;show aT _ A.in1 (tryCatch (xE<|.ref I) _>>=_) _ _ s;refine aR<|zp<|W.done s _ _ (B▸t) λh' tk f=>?_;have l:=f S _ y z;show aT _ A.in1 (updateSeq S (λ_=>#[])>>=_) _ _ _;refine aR ?_;refine Vx l rfl<|aR<|jd<|cH ?_;exact C vb _ tk (by rw[<- B];exact q) λb o a g e=>(gw _ _<|lM g).trans (f b o a e)
 |succ k E=>
  intro j s vb c G H t q z C;have hU:j+1<n:=by lia
  refine Hm Hf ?_;rw[Sf qy _];show aT _ A.in1 (iq (.ref S)>>=_) _ _ s;refine aR<|oT z rfl ?_;show aT _ A.in1 (tryCatch (xE<|.ref I) _>>=_) _ _ s;refine aR<|zp<|W.item (j+1) s _ _ hU t λv h' tk F r f=>?_;have l:=f S _ y z;show aT _ A.in1 (tryCatch (ze [v,v]<|richCompare .Lt v vb>>=_) _>>=_) _ _ _;refine aR<|zp<|jc<|aR<|Lc (j+1) (xA bt j) v vb _ _ _ F q ?_;refine aR<|jc<|uR ?_;refine aR<|jd<|cH ?_;cases hb:bt (j+1) (xA bt j) with
  |true=>
   simp only[if_true];refine aR ?_;refine Vx l rfl<|aR<|jd ?_;rw[i];refine cH ⟨Vm qy _,E (j+1) _ v _ '!' hU (W.frame _ _ _ r λb J o e=>?_) (by simp only[xA,hb,if_true];exact F) (yh _ l rfl) λD u m x p=>?_⟩
   .exact(gw _ _ (λh:S=b=>hSf (by grind))).trans e
   .exact C D u m x λb o a g e=>p b o a g ((gw _ _<|lM g).trans (f b o a e))
  |false=>simp only[Sg,if_false];refine aR<|jd ?_;rw[i];refine cH ⟨Vm qy _,E (j+1) _ vb c '!' hU r (by simp only[xA,hb,Sg,if_false];exact q) l λD u m x p=>?_⟩;exact C D u m x λb o a g e=>p b o a g (f b o a e)
def aAe(nm:Str)(d:Value)(W:Walks prog w A.in1 I fp wr n P St)(bt:Nat->Nat->Bool)(Lc:CmpOf prog w A.in1 .Lt P bt)(S:Addr)(hSf:S∉fp)(hn:0<n)(hst:St 0 s.heap)
  (hS:s.heap.get? S=aA { cls:=.type "list",dict:=aD,data:=.seq #[] c,slots:=#[] })
  (hR:∀v h' tk,P (xA bt<|n-1) v->(∀b o,b∉wr->b≠S->s.heap.get? b=aA o->h'.get? b=aA o)->R (.ok<|.ret v) { s with heap:=h',toks:=tk }) :
  uP (aZ prog w) A (.builtin "min.loop" ⟨[.ref I,.none,.ref S],[(nm,d)]⟩) R s:=by
 have p:=λh=>hSf (W.sub _ h);have a:(toString "min"++toString ".loop":String)="min.loop":=by decide
 refine Hm Hf ?_;rw[Sf qy _];show aT _ A.in1 (iq (.ref S)>>=_) _ _ s;refine aR<|oT hS rfl ?_;show aT _ A.in1 (tryCatch (xE<|.ref I) _>>=_) _ _ s;refine aR<|zp<|W.item 0 s _ _ hn hst λv h' tk u f g=>?_;have i:=g S _ p hS;show aT _ A.in1 (updateSeq S (λ_=>#[v,v])>>=_) _ _ _;refine aR ?_;refine Vx i rfl ?_;rw[a];refine cH ⟨Vm qy _,aAd nm d W bt Lc S hSf _ 0 _ v _ rfl hn (W.frame _ _ _ f λb q o e=>?_) u (yh _ i rfl) λx r j t k=>?_⟩
 .exact(gw _ _ (λh:S=b=>hSf (by rw[h];exact q))).trans e
 .exact hR x r j t λb o l m e=>k b o l m ((gw _ _<|lM m).trans (g b o l e))
end
section
variable {Z:L2.St}
def c9(hc:X.calm=aB){d:Value}(I:'&')(hq:eB X.K H l (ns.map V.int))(hne:ns≠[])(q:Q (.int<|sC ns) H) :
  aT '1' X.A (call (.builtin "min") [.ref l] [(wY "default",d)]) (EP X ap Z Q) X.xe s:=by
 obtain⟨r,u,p,E⟩:=I.list hq;have k:=Qx u;have w:=I.ok.hd hc;obtain⟨xs,e⟩:=k.allInts.items;have c:ns=xs.toList.map (·.1):=by rw[<- k.numsOf,<- nums_intItems,<- e]
 have g:0<xs.size:=by have:B3 ns≠0:=λz=>hne (yj z);rw[c,aU,gq]at this;lia
 have hl:s.heap.IsList l (zf xs):=by rw[<- e];exact p.isList
 obtain⟨ob,m,x,n,y⟩:=id hl;refine zh<|RN QX QU ?_;rw[Yq];refine cH ?_;rw[FN];refine aR<|zj hl<|aR<|SE ?_;have hU:=dG m;refine cH ⟨NO _ (by decide +kernel),?_⟩;refine aAe (wY "default") d (Walks.list (A:=X.A.in1) w s.heap.objs.size l (bZ hU)<|zf xs) (λi j=>decide (xD xs i<xD xs j)) (CmpOf.ints_lt (xD xs)<|λ_ _=>intItems_at) _ ?_ (by simpa[zf]using g) ?_ (gS _ rfl) λv F tk B C=>?_
 .intro hm;have f:(s.heap.push { cls:=.type "list_iterator",data:=.fields #[.ref l,.int 0 0] }).objs.size=s.heap.objs.size+1:=uK ..;rw[f]at hm;simp only[mS,lL,or_false]at hm;rcases hm with hm|hm
  .exact absurd hm<|oO<|cD _
  .exact absurd hm<|oO<|kH hU
 .exact⟨⟨_,cX _ (gS _ rfl),rfl,rfl⟩,ob,cX _ (cX _ m),x,n,y⟩
 .have h:(zf xs)[xA (λi j=>decide (xD xs i<xD xs j)) (xs.size-1)]?=aA v:=by simpa[zf]using B
  obtain⟨t,rfl⟩:=intItems_at h;obtain⟨b1,b2⟩:=argBest_lt (xD xs) (xs.size-1);have em:xD xs (xA (λi j=>decide (xD xs i<xD xs j))<|xs.size-1)=sC ns:=by
   refine aAc ?_ λa ha=>?_
   .rw[c,numAt_eq];exact getD_mem (by rw[aU,gq];lia)
   .rw[c]at ha;obtain⟨j,D,rfl⟩:=mem_getD ha;rw[aU,gq]at D;rw[<- numAt_eq];exact b2 j (by lia)
  rw[em];refine⟨.int (sC ns),H,I.E6 (t':=tk) λb o e=>C b o ?_ ?_ (cX _<|cX _ e),⟨t,rfl⟩,q⟩
  .intro hm;simp only[mS,lL,or_false]at hm;exact absurd hm<|bZ<|dG e
  .have:=dG e;have f:(s.heap.push { cls:=.type "list_iterator",data:=.fields #[.ref l,.int 0 0] }).objs.size=s.heap.objs.size+1:=uK ..;rw[f];exact bZ<|kH this
def d7:kI X (.builtin "sorted") (λxs H Q=>∃(a:Addr) (ns:'0'),xs=[.ref a]/\eB X.K H a (ns.map V.int)/\B3 ns<64/\∀D,H D=aD->Q (.ref D) (D4 H D<|.l<|(lK aJ ns).map V.int)):=by
 intro ap s t H xs us Q I r h;obtain⟨l,ns,rfl,g,hn,q⟩:=h;obtain⟨u,rfl,i⟩:=r.one;cases i;obtain⟨c,d,p,v⟩:=I.list g;have hl:B3 c=B3 ns:=by have:=d.length;simpa using this.symm
 refine sorted_ints p.isList (Qx d) (by lia) λout j k f w=>?_;have e:=Pz (rev:=aJ) f (by unfold Ordered;simpa);subst e;obtain⟨m,n⟩:=sortedAll_at s.heap c out;refine⟨.ref _,_,I.F1 (o:=.l ((lK aJ ns).map V.int)) (λb u z=>sortedAll_old z) (iG _) ⟨?_,out.toList,m,MA k,by rw[n]⟩,rfl,q _ (I.bB.fresh<|iG _)⟩;have:=f.length_eq;rw[aU];have:64<=sizeLine:=by decide
 lia
variable {k:Nat}{f:Addr}
variable {kS:Addr}{us:A5}{ks:AW}{keys:AR}{e e1:Nat}{E:Value->aK->Prop}{P:Um->aK->Prop}
end
def aTb{us:'2'}:∀{ys:AJ},B3 us=B3 ys->(∀(j:Nat) v y,us[j]?=aA v->ys[j]?=aA y->D6 y v)->D5 ys us:=by
 induction us with
 |nil=>intro ys hl _;cases ys with
  |nil=>exact .nil|cons _ _=>simp at hl
 |cons u us a=>intro ys hl h;cases ys with
  |nil=>simp at hl|cons y ys=>exact .cons (h 0 u y rfl rfl)<|a (by left) λj v z b c=>h (j+1) v z (by left) (by simpa)
def ZZ(hc:X.calm=aB):kI X (.type "list") (λxs H Q=>∃(a:Addr) (kvs:List (aN×V)),xs=[.ref a]/\H a=aA (.dK kvs)/\∀D,H D=aD->Q (.ref D) (D4 H D<|.l<|kvs.map λp=>kV p.1)):=by intro ap s L H xs us Q I r h;obtain⟨a,kvs,rfl,ha,q⟩:=h;obtain⟨u,rfl,f⟩:=r.one;cases f;obtain⟨z,y,c,d,ob,g,i,l,m,n,t⟩:=I.bB a _ ha;have w:Heap.DictAt (gL X.prog X.w) s.heap a c i:=⟨ob,g,l,m,n,t⟩;have A:=d.length;refine W.kdl_call (W.kdl_dict y) (I.ok.hd hc) w (by lia) λM tk acc B C E b=>?_;refine⟨.ref s.heap.objs.size,_,I.F1 (o:=.l (kvs.map λp=>kV p.1)) C (aW _) ⟨by left,acc.toList,B,aTb (by rw[gq,b.1,aU];lia) λj v y F e=>?_,E⟩,rfl,q _ (I.bB.fresh<|aW _)⟩;obtain⟨k,x,G,J⟩:=b.2 j v (by rw[<- Array.getElem?_toList];exact F);obtain⟨N,K⟩:=DY d G;rw[eQ,K]at e;cases e;exact DR J
def JH:V->AJ->Hp->VK->Prop:=λx vs H Q=>∃a b kvs more,x = .ref a/\vs=[.ref b]/\a≠b/\H a=aA (.dK kvs)/\H b=aA (.dK more)/\B3 kvs+B3 more<=sizeLine/\Q .aG (D4 H a<|.dK<|vK kvs more)
def aAp:xI X "dict.update" JH:=by
 intro ap s w H x y v us Q I k l h;obtain⟨a,b,f,more,rfl,rfl,g,e,m,z,q⟩:=h;cases k;obtain⟨u,rfl,n⟩:=l.one;cases n;obtain⟨A,hd,ws,rel,dd⟩:=cq I.bB e;obtain⟨o,i,ms,c,j⟩:=cq I.bB m;refine ab QZ dd.typeIs aYk (aYi _ _) (meets_dict_update (gL X.prog X.w) a b g i)
  ⟨ws,ms,dd,j,by simp_all[rel.length,c.length],λp d _ r=>?_⟩
 have he:∃q,p.get? a=aA q:=let ⟨q,_,_,t,_⟩:=d;⟨q,t⟩;refine⟨.aG,_,jx I (e▸mT) r he (ue ?_ hd (c.merge rel) d),rfl,q⟩;have:=Ma more f;lia
section
variable {E:Value->aK->Prop}
def aBa{t:Addr}{i:Nat}{x:Value}{Q:Value->aK->Prop}(u1:s.heap.IsTupleIter it t i)(u2:s.heap.IsTuple t items)(gx:items[i]?=aA x)
  (hQ:∀h',h'.IsTupleIter it t (i+1)->gr it s.heap h'->Q x { s with heap:=h' }):aT (aZ prog w) A (wM<|.ref it) Q E s:=by
 obtain⟨o,a,b,d1⟩:=id u1;obtain⟨d,c,_,e,d2⟩:=u2;refine aR<|ja u1.typeIs zK<|jb zK u1.typeIs Fx ?_<|Fw _;show aT _ _ (xC (.ref it) 0>>=_) _ _ s;refine aR<|lC a d1 rfl ?_;show aT _ _ (if(lA t==yz)=aB then _ else _) _ _ s;rw[if_neg (show¬((lA t==yz)=aB) from iA)];show aT _ _ (xC (.ref it) 1>>=_) _ _ s;refine aR<|lC a d1 rfl ?_;show aT _ _ (iq (.ref t)>>=_) _ _ s;refine aR<|oT c d2 ?_;simp only[uL,gx];refine aR<|Ht a d1 (by simp)<|cH ⟨x,rfl,cH (hQ _ ?_ (Ga ..))⟩;exact⟨_,yh _ a (QC<|Ha d1 _),(QB ..).trans b,by rw[Ha d1];simp[ag]⟩
def FQ{t:Addr}{i:Nat}{Q:Value->aK->Prop}(hh:A.handled=aD)(u1:s.heap.IsTupleIter it t i)(u2:s.heap.IsTuple t items)(gx:items[i]?=aD)
  (hE:∀h' e,Fz it s.heap h'->(∃o,h'.get? e=aA o/\o.cls = .type "StopIteration")->E (.ref e) { s with heap:=h' }):aT (aZ prog w) A (wM<|.ref it) Q E s:=by
 obtain⟨o,e1,c1,d1⟩:=id u1;obtain⟨p2,e2,_,n2,d2⟩:=u2;unfold wM;refine aR<|ja (name:=wY "__next__") u1.typeIs zK<|jb zK u1.typeIs Fx ?_<|Fw _;show aT _ _ (xC (.ref it) 0>>=_) _ _ s;refine aR<|lC e1 d1 rfl ?_;show aT _ _ (if(lA t==yz)=aB then _ else _) _ _ s;rw[if_neg (show¬((lA t==yz)=aB) from iA)];show aT _ _ (xC (.ref it) 1>>=_) _ _ s;refine aR<|lC e1 d1 rfl ?_;show aT _ _ (iq (.ref t)>>=_) _ _ s;refine aR<|oT e2 d2 ?_;simp only[uL,gx];refine aR<|ro<|aR<|Ht e1 d1 (by simp) ?_;show aT _ _ (newExc (.type "StopIteration") []>>=_) _ _ _;refine aR ?_;simp only[newExc];refine aR<|uQ ?_ (by size_fits);refine aR (m:=RP _ _)<|Vv (by first|rfl|(simp only[RP];rfl)) ?_;refine uQ ?_ (by size_fits);simp only[raiseNew];refine aR<|RZ ?_;(first|rw[show A.in1.handled=aD from hh] | rw[hh]);refine aR<|cH<|wpAny_throw ?_;exact hE _ _ (((Ga ..).extBut.push _).push _) ⟨_,gS _ rfl,rfl⟩
end
def t6(hh:A.handled=aD)(it l:Addr)(hne:l≠it)(items:AR):Draws prog w A it [it,l] items.size (λi v=>items[i]?=aA v) (λi h=>h.IsTupleIter it l i/\h.IsTuple l items) where
 live:=λ_ _ u=>u.1.elim λo p=>⟨o,p.1⟩
 frame:=λ_ _ _ st c=>⟨st.1.at λo e=>c it (.head _) o e,let ⟨o,f,r⟩:=st.2;⟨o,c l (.tail _<|.head _) o f,r⟩⟩
 item:=λi s Q E d st g=>aBa st.1 st.2 (x:=items[i]) (by simp[d]) λj a b=>g _ j s.toks (by simp[d]) ⟨a,st.2.extBut b.extBut hne⟩ b
 done:=λs Q E st k=>FQ hh st.1 st.2 (by simp) k
abbrev vj(l:Addr):Obj:={ cls:=.type "tuple_iterator",data:=.fields #[.ref l,.int 0 0] }
abbrev Jp(n:Addr):Obj:={ cls:=.type "enumerate",data:=.fields #[.none,.bool aJ,.ref n,ag 0,.none,.none] }
def Z9(l:Addr)(items:AR)(n:Nat)(aP:BD)(sl:Array '8') :
  Meets (Builtin.«enumerate.__new__» ⟨[.type "enumerate",.ref l],[]⟩) (λ_ R s=>s.heap.get? l=aA { cls:=.type "tuple",dict:=aP,data:=.seq items n,slots:=sl } /\
   R (.ok<|.ret<|.ref (s.heap.push<|vj l).objs.size)
    { s with heap:=(s.heap.push<|vj l).push (Jp s.heap.objs.size) }):=
 .of_wp λprog w A R s h=>by
  obtain⟨hp,g,d,tk,os⟩:=s;obtain⟨e1,h⟩:=h;have sb:=sub_enumerate;have v1:Heap.IsTuple (Shared.heap ⟨hp,g,d,tk,os⟩) l items:=⟨_,e1,rfl,n,rfl⟩;wp_walk using Fu e1
  refine wpAny_stack_any λst=>cH ?_;split
  .rename_i c _ _ _ _ _;cases(c==Vb "enumerate")
   .wp_walk using Fu e1,zm v1
    exact⟨_,rfl,h⟩
   .wp_walk using Fu e1,zm v1
    exact⟨_,rfl,h⟩
  .wp_walk using Fu e1,zm v1
   exact⟨_,rfl,h⟩
def ZV{E:Value->aK->Prop}{Q:Value->aK->Prop}(v1:s.heap.IsTuple l items)
  (h:∀h',IsEnum h' 'C' s.heap.objs.size 0 .none->h'.IsTupleIter s.heap.objs.size l 0->h'.objs.size=s.heap.objs.size+2->(∀b o,s.heap.get? b=aA o->h'.get? b=aA o)->Q (.ref 'C') { s with heap:=h' }):aT (aZ prog w) A (call (.type "enumerate") [.ref l]) Q E s:=by
 obtain⟨⟨c,aP,dt,sl⟩,e1,c1,n,d1⟩:=v1;cases(c1);cases(d1);refine RL F.called_enumerate (rfl) (F.typeCall_enumerate_1 _) (F.newCall_enumerate_1 _) (λobj=>F.args_object_init_2 obj _) F.entry_enumerate_new (Z9 l items n aP sl) ⟨e1,?_⟩;have z1:(s.heap.push<|vj l).objs.size=s.heap.objs.size+1:=uK ..;rw[z1];have q1:IsEnum ((s.heap.push<|vj l).push
   (Jp s.heap.objs.size)) 'C' s.heap.objs.size 0 .none:=by
  have:=gS (s.heap.push<|vj l)
   (o:=(Jp s.heap.objs.size)) rfl
  rw[z1]at this;exact this
 exact⟨⟨_,q1,rfl⟩,h _ q1 ⟨_,cX _ (gS _ rfl),rfl,rfl⟩ (by rw[uK,z1]) λb o x=>cX _ (cX _ x)⟩
set_option genCtorIdx true in
inductive AV where
 |aG|bl (b:Bool)|int (i:Int)|str (x:Str)|tup (xs:List AV)|ref (n:Nat)|pC (kvs:AZ)
 deriving Inhabited
abbrev _root_.AL:=List (Str×AV)
abbrev _root_.AY:=List AV
abbrev _root_.A4:=Option AV
variable {dv xs:AY}{kvs:List (aN×AV)}{v x y:AV}
set_option genCtorIdx true in
inductive bA where
 |l (mu:Bool) (xs:AY)
 |aP (kvs:List (aN×AV))
 |dX (kvs:List (aN×AV))
 |ins (c:Nat) (fs:AL)
variable {o:bA}
def bA.mu:bA->Bool
 |.l m _=>m
 |_=>aB
structure AH where
 nx:Nat
 ob:Nat->Option bA
variable {R:AV->AH->Prop}{h:AH}
def AH.C9(h:AH)(n:Nat)(o:bA):AH:=⟨h.nx,λm=>if m=n then aA o else h.ob m⟩
def AH.C8(h:AH)(o:bA):AH:=⟨h.nx+1,λm=>if m=h.nx then aA o else h.ob m⟩
set_option genCtorIdx true in
inductive F3(α:Type) where
 |ok (a:α) (h:AH)
 |D0
abbrev M(α:Type):=AH->F3 α
variable {dp:Nat->Option (AY->M AV)}{g':AV->AV->M AV}
def M.ret{α:Type}(a:α):M α:=λh=>.ok a h
open AM.M renaming ret->B8
def M.D0{α:Type}:M α:=λ_=>.D0
open AM.M renaming D0->C5
def M.bind{α β:Type}(m:M α)(k:α->M β):M β:=λh=>match m h with
 |.ok a h'=>k a h'
 |.D0=>.D0
open AM.M renaming bind->C6
def M.guard{α:Type}(p:Prop) [Decidable p] (m:M α):M α:=λh=>if p then m h else .D0
open AM.M renaming guard->C7
structure D8 where
 K:bN
 G:AZ->Addr->Prop
 C:Nat->BD
variable {T:D8}
mutual
inductive aV(T:D8)(Y:AI)(H:Hp):AV->V->Prop where
 |aG:aV T Y H .aG .aG
 |bl (b:Bool):aV T Y H (.bl b) (.bl b)
 |int (i:Int):aV T Y H (.int i) (.int i)
 |str (x:Str):aV T Y H (.str x) (.str x)
 |tup {a:Addr}{xs:AY}{ys:AJ} (hq:fU T.K H a ys) (hr:bF T Y H xs ys):aV T Y H (.tup xs) (.ref a)
 |ref {n:Nat}{a:Addr} (e:Y[n]?=aA a):aV T Y H (.ref n) (.ref a)
 |pC {kvs:AZ}{a:Addr} (e:T.G kvs a):aV T Y H (.pC kvs) (.ref a)
inductive bF(T:D8)(Y:AI)(H:Hp):AY->AJ->Prop where
 |nil:bF T Y H [] []
 |cons {x:AV}{y:V}{xs:AY}{ys:AJ} (h:aV T Y H x y) (hs:bF T Y H xs ys):bF T Y H (x::xs) (y::ys)
end
structure E2(Y:AI)(H:Hp)(Y':AI)(H':Hp):Prop where
 pre:∀(n:Nat) a,Y[n]?=aA a->Y'[n]?=aA a
 tup:∀b xs,H b=aA (.tup xs)->H' b=aA (.tup xs)
 dI:∀b o u,H b=aA (.dI o u)->H' b=aA (.dI o u)
def E2.refl:E2 Y H Y H:=⟨λ_ _ e=>e,λ_ _ e=>e,λ_ _ _ e=>e⟩
def E2.trans{ρ1 ρ2:AI}{H1 H2:Hp}(a:E2 ρ H ρ1 H1)(b:E2 ρ1 H1 ρ2 H2):E2 ρ H ρ2 H2:=
 ⟨λn x e=>b.pre n x (a.pre n x e),λn x e=>b.tup n x (a.tup n x e),λn x u e=>b.dI n x u (a.dI n x u e)⟩
def E2.xl{K:bN}(e:E2 Y H Y' H'){xs:AJ}(h:fU K H a xs):fU K H' a xs:=by
 rcases h with(h|⟨o,h⟩)|h
 .exact .inl<|.inl<|e.tup _ _ h
 .exact .inl<|.inr ⟨o,e.dI _ _ _ h⟩
 .exact .inr h
def rF(K:bN)(H:Hp)(a:Addr)(xs:AJ):Prop:=
 (∃o,H a=aA (.dI o<|.l xs)) \/
  ∃(o:Obj) (its:AR) (n:Nat),K.lookup a=aA o/\o.cls = .type "list"/\o.dict=aD/\o.data = .seq its n/\its.size<=sizeLine/\D5 xs its.toList
def rF.sq{K:bN}{xs:AJ}(h:rF K H a xs):eB K H a xs:=by
 rcases h with h|h
 .exact .inl<|.inr h
 .exact .inr h
def rF.ext{K:bN}{xs:AJ}(e:E2 Y H Y' H')(h:rF K H a xs):rF K H' a xs:=by
 rcases h with⟨o,h⟩|h
 .exact .inl ⟨o,e.dI _ _ _ h⟩
 .exact .inr h
structure xH(Y:AI)(H:Hp)(Y':AI)(H':Hp):Prop where
 pre:∀(n:Nat) a,Y[n]?=aA a->Y'[n]?=aA a
 xl:∀K b xs,fU K H b xs->fU K H' b xs
 N5:∀K b xs,rF K H b xs->rF K H' b xs
def E2.wk(e:E2 Y H Y' H'):xH Y H Y' H':=⟨e.pre,λ_ _ _=>e.xl,λ_ _ _=>rF.ext e⟩
mutual
theorem aV.ext2{T:D8}{Y Y':AI}{H H':Hp}(e:xH Y H Y' H'):∀{x:AV}{y:V},aV T Y H x y->aV T Y' H' x y
 |_,_,.aG=>.aG
 |_,_,.bl b=>.bl b
 |_,_,.int i=>.int i
 |_,_,.str x=>.str x
 |_,_,.tup a hr=>.tup (e.xl _ _ _ a) (bF.ext2 e hr)
 |_,_,.ref q=>.ref (e.pre _ _ q)
 |_,_,.pC q=>.pC q
theorem bF.ext2{T:D8}{Y Y':AI}{H H':Hp}(e:xH Y H Y' H'):∀{xs:'%'}{ys:AJ},bF T Y H xs ys->bF T Y' H' xs ys
 |_,_,.nil=>.nil
 |_,_,.cons h a=>.cons (aV.ext2 e h) (bF.ext2 e a)
end
def aV.ext{T:D8}{Y Y':AI}{H H':Hp}(e:E2 Y H Y' H'){x:AV}{y:V}(r:aV T Y H x y):aV T Y' H' x y:=r.ext2 e.wk
def bF.ext{T:D8}{Y Y':AI}{H H':Hp}(e:E2 Y H Y' H'){xs:'%'}{ys:AJ}(r:bF T Y H xs ys):bF T Y' H' xs ys:=r.ext2 e.wk
theorem bF.length{T:D8}{Y:AI}{H:Hp}:∀{xs:'%'}{ys:AJ},bF T Y H xs ys->B3 xs=B3 ys
 |_,_,.nil=>rfl|_,_,.cons _ a=>congrArg (·+1) a.length
theorem bF.get{T:D8}{Y:AI}{H:Hp}:∀{xs:'%'}{ys:AJ}{i:Nat}{x:AV},bF T Y H xs ys->xs[i]?=aA x->∃y,ys[i]?=aA y/\aV T Y H x y
 |_,_,_,_,.nil,e=>by simp at e
 |_,_,0,_,.cons h _,e=>by simp at e;subst e;exact⟨_,rfl,h⟩
 |_,_,i+1,x,.cons _ a,e=>by obtain⟨y,c,b⟩:=bF.get a (by simpa);exact⟨y,by left,b⟩
theorem bF.append{T:D8}{Y:AI}{H:Hp}:∀{xs zs:'%'}{ys ws:AJ},bF T Y H xs ys->bF T Y H zs ws->bF T Y H (xs++zs) (ys++ws)
 |_,_,_,_,.nil,s=>s
 |_,_,_,_,.cons h a,s=>.cons h (bF.append a s)
theorem bF.set{T:D8}{Y:AI}{H:Hp}{x:AV}{y:V}(r:aV T Y H x y):∀{xs:'%'}{ys:AJ} (i:Nat),bF T Y H xs ys->bF T Y H (xs.set i x) (ys.set i y)
 |_,_,_,.nil=>.nil
 |_,_,0,.cons _ t=>.cons r t
 |_,_,i+1,.cons q t=>.cons q (bF.set r i t)
theorem bF.take{T:D8}{Y:AI}{H:Hp}:∀{xs:'%'}{ys:AJ} (n:Nat),bF T Y H xs ys->bF T Y H (xs.take n) (ys.take n)
 |_,_,0,_=>.nil
 |_,_,_+1,.nil=>.nil
 |_,_,n+1,.cons r t=>.cons r (bF.take n t)
theorem bF.drop{T:D8}{Y:AI}{H:Hp}:∀{xs:'%'}{ys:AJ} (n:Nat),bF T Y H xs ys->bF T Y H (xs.drop n) (ys.drop n)
 |_,_,0,r=>r
 |_,_,_+1,.nil=>.nil
 |_,_,n+1,.cons _ t=>bF.drop n t
theorem bF.ints{T:D8}{Y:AI}{H:Hp}:∀(ns:'0'),bF T Y H (ns.map AV.int) (ns.map V.int)
 |[]=>.nil
 |n::ns=>.cons (.int n) (bF.ints ns)
def oW(T:D8)(Y:AI)(H:Hp)(a:Addr):bA->Prop
 |.l aB xs=>∃ys,H a=aA (.l ys)/\bF T Y H xs ys
 |.l aJ xs=>∃ys,rF T.K H a ys/\bF T Y H xs ys
 |.aP kvs=>∃ks ys,H a=aA (.dK<|ks.zip ys)/\ks=kvs.map (·.1)/\bF T Y H (kvs.map (·.2)) ys
 |.dX kvs=>∃o ks ys,H a=aA (.dI o<|.dK<|ks.zip ys)/\ks=kvs.map (·.1)/\bF T Y H (kvs.map (·.2)) ys
 |.ins c fs=>∃C dx ks ys,T.C c=aA C/\H a=aA (.ins C dx<|ks.zip ys)/\ks=fs.map (·.1)/\bF T Y H (fs.map (·.2)) ys
theorem oW.ext2{T:D8}{Y Y':AI}{H H':Hp}{a:Addr}{o:bA}(r:oW T Y H a o)(e:xH Y H Y' H')(k:o.mu=aB->H' a=H a):oW T Y' H' a o:=by
 cases o with
 |l m xs=>
  cases m with
  |true=>obtain⟨b,h,r⟩:=r;exact⟨b,by rw[k rfl];exact h,r.ext2 e⟩|false=>obtain⟨b,h,r⟩:=r;exact⟨b,e.N5 _ _ _ h,r.ext2 e⟩
 |aP g=>obtain⟨d,b,h,f,r⟩:=r;exact⟨d,b,by rw[k rfl];exact h,f,r.ext2 e⟩|dX g=>obtain⟨o,d,b,h,f,r⟩:=r;exact⟨o,d,b,by rw[k rfl];exact h,f,r.ext2 e⟩|ins c fs=>obtain⟨C,i,d,b,j,h,f,r⟩:=r;exact⟨C,i,d,b,j,by rw[k rfl];exact h,f,r.ext2 e⟩
def oW.ext{T:D8}{Y Y':AI}{H H':Hp}{a:Addr}{o:bA}(r:oW T Y H a o)(e:E2 Y H Y' H'):(o.mu=aB->H' a=H a)->oW T Y' H' a o:=r.ext2 e.wk
structure bP(T:D8)(Y:AI)(h:AH)(H:Hp):Prop where
 len:B3 Y=h.nx
 rN:∀(n:Nat) o,h.ob n=aA o->n<h.nx
 obj:∀(n:Nat) o a,h.ob n=aA o->Y[n]?=aA a->oW T Y H a o
 inj:∀(n m:Nat) a o u,h.ob n=aA o->h.ob m=aA u->o.mu=aB->u.mu=aB->Y[n]?=aA a->Y[m]?=aA a->n=m
theorem bP.at(R:'3'){n:Nat}{o:bA}(e:h.ob n=aA o):∃a,Y[n]?=aA a/\oW T Y H a o:=by have hn:=R.rN n o e;rw[<- R.len]at hn;exact⟨Y[n],by simp[hn],R.obj n o _ e (by simp[hn])⟩
def Mp(r:oW T Y H a o)(m:o.mu=aB):∃u,H a=aA u:=by
 cases o with
 |l k xs=>
  cases k with
  |true=>obtain⟨b,h,_⟩:=r;exact⟨_,h⟩|false=>exact ff m
 |aP d=>obtain⟨e,b,h,_⟩:=r;exact⟨_,h⟩|dX d=>obtain⟨o,e,b,h,_⟩:=r;exact⟨_,h⟩|ins c fs=>obtain⟨C,f,e,b,_,h,_⟩:=r;exact⟨_,h⟩
def E2.lX{o:HO}(hn:H a=aD):E2 Y H Y (D4 H a o):=
 ⟨λ_ _ e=>e,λb xs e=>by rw[cB (kB e hn)];exact e,λb u xs e=>by rw[cB (kB e hn)];exact e⟩
def bP.D7(R:'3'){o:HO}(hn:H a=aD):bP T Y h (D4 H a o):=
 ⟨R.len,R.rN,λn u b e q=>(R.obj n u b e q).ext (.lX hn) λm=>by obtain⟨w,hw⟩:=Mp (R.obj n u b e q) m;rw[cB (kB hw hn)],R.inj⟩
def bP.alloc(R:'3')(hn:H a=aD)(ho:oW T (Y++[a]) (D4 H a O) a o):bP T (Y++[a]) (h.C8 o) (D4 H a O)/\E2 Y H (Y++[a]) (D4 H a O):=by
 have ex:E2 Y H (Y++[a]) (D4 H a O):=⟨λn x e=>by have hl:=(dk.1 e).1;rw[sS hl];exact e,(E2.lX (Y:=Y) hn).tup,(E2.lX (Y:=Y) hn).dI⟩
 have old:∀{n:Nat}{b:Addr},n<h.nx->(Y++[a])[n]?=aA b->Y[n]?=aA b:=λ{n b} hl e=>by rw[sS (R.len▸hl)]at e;exact e
 have at_:∀{b:Addr},(Y++[a])[h.nx]?=aA b->b=a:=λ{b} e=>by simp_all[R.len,e]
 refine⟨⟨by simp[AH.C8,R.len],λn u e=>?_,λn u b e q=>?_,λn m b u v f d l p i j=>?_⟩,ex⟩
 .simp only[AH.C8]at e ⊢;by_cases c:n=h.nx
  .lia
  .rw[if_neg c]at e;have:=R.rN n u e;lia
 .simp only[AH.C8]at e;by_cases c:n=h.nx
  .rw[if_pos c]at e;cases e;subst c;rw[at_ q];exact ho
  .rw[if_neg c]at e;have r:=old (R.rN n u e) q;refine(R.obj n u b e r).ext ex λm=>?_;obtain⟨w,hw⟩:=Mp (R.obj n u b e r) m;rw[cB (kB hw hn)]
 .simp only[AH.C8]at f d;have no:∀{k:Nat}{y:bA},h.ob k=aA y->y.mu=aB->(Y++[a])[k]?=aA b->b≠a:=λ{k y} e m q=>by obtain⟨w,hw⟩:=Mp (R.obj k y b e<|old (R.rN k y e) q) m;exact kB hw hn
  by_cases c:n=h.nx
  .subst c;by_cases g:m=h.nx
   .grind
   .rw[if_neg g]at d;exact absurd (at_ i)<|no d p j
  .rw[if_neg c]at f;by_cases g:m=h.nx
   .subst g;exact absurd (at_ j)<|no f l i
   .rw[if_neg g]at d;exact R.inj n m b u v f d l p (old (R.rN n u f) i)<|old (R.rN m v d) j
def bP.write(R:'3'){o':bA}(e:h.ob n=aA o)(m:o.mu=aB)(m':o'.mu=aB)(q:Y[n]?=aA a)(hO:H a=aA O)(nt:∀xs,O ≠ .tup xs)(nf:∀x u,O ≠ .dI x u)
  (ho:oW T Y (D4 H a O') a o'):bP T Y (h.C9 n o') (D4 H a O')/\E2 Y H Y (D4 H a O'):=by
 have ex:E2 Y H Y (D4 H a O'):=⟨λ_ _ z=>z,λb xs z=>by
   rw[cB (sF z hO λw=>nt xs w.symm)];exact z,λb x u z=>by
   rw[cB (sF z hO λw=>nf x u w.symm)];exact z⟩
 refine⟨⟨R.len,λk u z=>?_,λk u b z w=>?_,λk l b u v d f i p w1 w2=>?_⟩,ex⟩
 .simp only[AH.C9]at z;by_cases c:k=n
  .subst c;exact R.rN _ _ e
  .rw[if_neg c]at z;exact R.rN k u z
 .simp only[AH.C9]at z;by_cases c:k=n
  .simp_all
  .rw[if_neg c]at z;refine(R.obj k u b z w).ext ex λmu=>?_;rw[cB];rintro rfl
   exact c<|R.inj k n b u o z e mu m w q
 .simp only[AH.C9]at d f;have back:∀{j:Nat}{y:bA},(if j=n then aA o' else h.ob j)=aA y->y.mu=aB->∃g,h.ob j=aA g/\g.mu=aB:=λ{j y} z mu=>by
   by_cases c:j=n
   .simp_all
   .rw[if_neg c]at z;exact⟨y,z,mu⟩
  obtain⟨r,g1,k1⟩:=back d i;obtain⟨s,g2,k2⟩:=back f p;exact R.inj k l b r s g1 g2 k1 k2 w1 w2
def AE{o:Obj}{kz:List (aN×V)}(hO:H a=aA (.dI o<|.dK kz)):xH Y H Y (D4 H a<|.dK kz):=by
 have ne:∀b u,H b=aA u->(∀x y,u ≠ .dI x (.dK y))->b≠a:=λb u e n z=>by grind
 refine⟨λ_ _ e=>e,λK b xs h=>?_,λK b xs h=>?_⟩
 .rcases h with(h|⟨x,h⟩)|h
  .exact .inl<|.inl (by rw[cB (ne b _ h λ_ _ z=>by cases z)];exact h)
  .exact .inl<|.inr ⟨x,by rw[cB (ne b _ h λ_ _ z=>by cases z)];exact h⟩
  .exact .inr h
 .rcases h with⟨x,h⟩|h
  .exact .inl ⟨x,by rw[cB (ne b _ h λ_ _ z=>by cases z)];exact h⟩
  .exact .inr h
def bP.Qp(R:'3')(e:h.ob n=aA (.dX kvs))(q:Y[n]?=aA a) :
  ∃o kz,H a=aA (.dI o<|.dK kz)/\bP T Y (h.C9 n<|.aP kvs) (D4 H a<|.dK kz):=by
 obtain⟨o,m,p,d,r,s⟩:=R.obj n _ a e q;have ex:=AE (Y:=Y) d;refine⟨o,_,d,⟨R.len,λk u z=>?_,λk u b z w=>?_,λk l b u v f g t x w1 w2=>?_⟩⟩
 .simp only[AH.C9]at z;by_cases c:k=n
  .subst c;exact R.rN _ _ e
  .rw[if_neg c]at z;exact R.rN k u z
 .simp only[AH.C9]at z;by_cases c:k=n
  .rw[if_pos c]at z;cases z;subst c;rw[q]at w;cases w;exact⟨m,p,gG,r,s.ext2 ex⟩
  .rw[if_neg c]at z;refine(R.obj k u b z w).ext2 ex λmu=>?_;rw[cB];rintro rfl
   exact c<|R.inj k n b u _ z e mu rfl w q
 .simp only[AH.C9]at f g;have back:∀{j:Nat}{y:bA},(if j=n then aA (.aP kvs) else h.ob j)=aA y->y.mu=aB->∃i,h.ob j=aA i/\i.mu=aB:=λ{j y} z mu=>by
   by_cases c:j=n
   .subst c;exact⟨_,e,rfl⟩
   .rw[if_neg c]at z;exact⟨y,z,mu⟩
  obtain⟨A,g1,k1⟩:=back f t;obtain⟨B,g2,k2⟩:=back g x;exact R.inj k l b A B g1 g2 k1 k2 w1 w2
abbrev Rl(α β:Type):=AI->Hp->α->β->Prop
def W{α β:Type}(T:D8)(Rp:Rl α β)(r:F3 α)(Y:AI)(H:Hp)(Q:β->Hp->Prop)(E:XK):Prop:=match r with
 |.ok a h=>∀Y' b H',E2 Y H Y' H'->bP T Y' h H'->Rp Y' H' a b->Q b H'
 |.D0=>False
section
variable {α β γ δ:Type}{Rp:Rl α β}{Rq:Rl γ δ}{Q:β->Hp->Prop}
def W.ext{r:F3 α}(w:W T Rp r Y H Q E)(e:E2 Y H Y' H'):W T Rp r Y' H' Q E:=by
 cases r with
 |ok a h=>exact λc b d x R q=>w c b d (e.trans x) R q|D0=>exact w
theorem W.bind{m:M α}{k:α->M γ}{Q2:δ->Hp->Prop}(w:W T Rq (C6 m k h) ρ H Q2 E)
  (f:∀ρ1 x y h1 H1,E2 ρ H ρ1 H1->bP T ρ1 h1 H1->Rp ρ1 H1 x y->W T Rq (k x h1) ρ1 H1 Q2 E->Q y H1):W T Rp (m h) ρ H Q E:=by
 unfold C6 at w;cases e:m h with
 |ok a h1=>rw[e]at w;exact λρ1 y H1 x R q=>f ρ1 a y h1 H1 x R q (w.ext x)
 |D0=>rw[e]at w;exact w
open AM.W renaming bind->B9
theorem W.ok{a:α}{b:β}(w:W T Rp (.ok a h) Y H Q E)(e:E2 Y H Y' H')(R:bP T Y' h H')(q:Rp Y' H' a b):Q b H':=w Y' b H' e R q
def W.here{a:α}{b:β}(w:W T Rp (.ok a h) Y H Q E)(R:'3')(q:Rp Y H a b):Q b H:=w Y b H .refl R q
open AM.W renaming here->C0
end
open AM.W renaming bind->B9
open AM.W renaming here->C0
def oM{α β:Type}(o:Option α)(k:α->F3 β):F3 β:=o.elim .D0 k
theorem W.oM{α γ δ:Type}{Rq:Rl γ δ}{Q:δ->Hp->Prop}{o:Option α}{k:α->F3 γ}(w:W T Rq (oM o k) Y H Q E):∃a,o=aA a/\W T Rq (k a) Y H Q E:=by
 cases o with
 |none=>exact w.elim|some a=>exact⟨a,rfl,w⟩
def W.ite{γ δ:Type}{Rq:Rl γ δ}{Q:δ->Hp->Prop}{c:Prop} [Decidable c] {r:F3 γ}(w:W T Rq (if c then r else .D0) Y H Q E):c/\W T Rq r Y H Q E:=by
 by_cases h:c
 .rw[if_pos h]at w;exact⟨h,w⟩
 .rw[if_neg h]at w;exact w.elim
abbrev aF:=List (Option AV)
variable {B N:aF->AH->Prop}{m m0 ma mb mc:aF->M AV}{mr:aF->M AY}{Z:aF}
def cU(T:D8)(Y:AI)(H:Hp)(Z:aF)(Z':L2.St):Prop:=B3 Z=B3 Z'/\∀(i:Nat) v,Z[i]?=aA (aA v)->∃v',Z'[i]?=aA (aA v')/\aV T Y H v v'
theorem cU.ext{T:D8}{Y Y':AI}{H H':Hp}{Z:aF}{Z':L2.St}(S:cU T Y H Z Z')(e:E2 Y H Y' H'):cU T Y' H' Z Z':=
 ⟨S.1,λi v q=>let ⟨c,a,b⟩:=S.2 i v q;⟨c,a,b.ext e⟩⟩
theorem cU.set{T:D8}{Y:AI}{H:Hp}{Z:aF}{Z':L2.St}(S:cU T Y H Z Z'){v:AV}{v':V}(r:aV T Y H v v')(i:Nat):cU T Y H (Z.set i<|aA v) (Z'.set i<|aA v'):=by
 refine⟨by simp[S.1],λj u q=>?_⟩;by_cases c:i=j
 .subst c;by_cases hl:i<B3 Z
  .rw[mB hl]at q;cases q;exact⟨v',mB (by simp_all[S.1]),r⟩
  .rw[Gj (by simpa using hl)]at q;exact bU q
 .rw[kZ c]at q;obtain⟨w,a,b⟩:=S.2 j u q;exact⟨w,by left,b⟩
def QE(X:Cx)(T:D8)(E:XK)(e:aI)(m:aF->M AV):Prop:=
 ∃t,PE X e t/\∀Y Z Z' h H Q,'3'->cU T Y H Z Z'->W T (aV T) (m Z h) Y H Q E->t Z' H Q
def QA(X:Cx)(T:D8)(E:XK)(es:List aI)(m:aF->M '%'):Prop:=
 ∃t,PA X es t/\∀Y Z Z' h H Q,'3'->cU T Y H Z Z'->W T (bF T) (m Z h) Y H Q E->t Z' H Q
abbrev RB:Rl Bool Bool:=λ_ _ a b=>a=b
def QT(X:Cx)(T:D8)(E:XK)(e:aI)(m:aF->M Bool):Prop:=
 ∃t,PT X e t/\∀Y Z Z' h H Q,'3'->cU T Y H Z Z'->W T RB (m Z h) Y H Q E->t Z' H Q
def QW(X:Cx)(T:D8)(E:XK)(e:aI)(m:aF->M Bool):Prop:=
 ∃t,PW X e t/\∀Y Z Z' h H Q,'3'->cU T Y H Z Z'->W T RB (m Z h) Y H Q E->t Z' H Q
def QW.qt{m:aF->M Bool}(h:QW X T E e m):QT X T E e m:=let ⟨t,a,b⟩:=h;⟨t,a.pt,b⟩
def eA(X:Cx)(T:D8)(E:XK)(f:Value->Value->Sem Value)(g:AV->AV->M AV):Prop:=
 ∃r,cY X f r/\∀Y h H x y x' y' Q,'3'->aV T Y H x x'->aV T Y H y y'->W T (aV T) (g x y h) Y H Q E->r x' y' H Q
def Ws(X:Cx)(T:D8)(E:XK)(f:Value->Sem Value)(g:AV->M AV):Prop:=
 ∃r,Af X f r/\∀Y h H x x' Q,'3'->aV T Y H x x'->W T (aV T) (g x h) Y H Q E->r x' H Q
def zx(X:Cx)(T:D8)(E:XK)(g:AV->AV->M AV):Prop:=
 ∃r,uS X r/\∀Y h H x y x' y' Q,'3'->aV T Y H x x'->aV T Y H y y'->W T (aV T) (g x y h) Y H Q E->r x' y' H Q
def pR(X:Cx)(T:D8)(E:XK)(f:Value)(g:'%'->M AV):Prop:=
 ∃r,kI X f r/\∀Y h H xs gH Q,'3'->bF T Y H xs gH->W T (aV T) (g xs h) Y H Q E->r gH H Q
def sD(i j:Int):Bool:=decide (i.natAbs<2 ^ 64)||decide (j.natAbs<2 ^ 64)||(decide (i.natAbs<2 ^ 1000)&&decide (j.natAbs<2 ^ 1000))
def pA(j:Int):Bool:=decide (0<j)&&decide (j<2 ^ 1000)
def yP(i j:Int):Bool:=decide (0<=j)&&decide (j<=1000000)&&decide (i.natAbs<2 ^ 64)
def fj(h:AH)(n:Nat):Option '%':=match h.ob n with
 |some (.l aB xs)=>aA xs
 |_=>aD
def FC(e:fj h n=aA xs):h.ob n=aA (.l aB xs):=by
 unfold fj at e;split at e
 .simp_all
 .cases e
def um(n m:Nat):M AV:=λh=>match fj h n with
 |some xs=>(match fj h m with
  |some ys=>if B3 xs+B3 ys<=sizeLine then .ok (.ref h.nx) (h.C8<|.l aB<|xs++ys) else .D0
  |none=>.D0)
 |none=>.D0
def BV:AV->AV->M AV
 |.int i,.int j=>B8 (.int<|i+j)
 |.tup xs,.tup ys=>C7 (B3 xs+B3 ys<=sizeLine) (B8<|.tup<|xs++ys)
 |.ref n,.ref m=>um n m
 |_,_=>C5
def mY(p:Int->Int->Bool)(f:Int->Int->Int):AV->AV->M AV
 |.int i,.int j=>λh=>if p i j=aB then .ok (.int<|f i j) h else .D0
 |_,_=>C5
def Br:AV->AV->M AV:=mY (λ_ _=>aB) HSub.hSub
def uy(x y:AV):M AV:=match x with
 |.ref n=>match y with
  |.int k=>λh=>match h.ob n with
   |some (.l aB xs)=>if 0<=k/\B3 xs*k.toNat<=sizeLine/\k<2 ^ 63 then .ok (.ref h.nx) (h.C8<|.l aB (fB k.toNat xs).flatten) else .D0
   |_=>.D0
  |_=>C5
 |_=>mY sD HMul.hMul x y
def BX:AV->AV->M AV:=mY (λ_ j=>pA j) HDiv.hDiv
def CI:AV->AV->M AV:=mY (λ_ j=>decide (0<j)) HMod.hMod
def CL:AV->AV->M AV:=mY yP λi j=>i ^ j.toNat
def CM:AV->AV->M AV:=mY yP λi j=>i*2 ^ j.toNat
def CN:AV->AV->M AV:=mY (λ_ j=>decide (0<=j)) λi j=>i / 2 ^ j.toNat
def BW:AV->AV->M AV:=mY (λ_ _=>aB) kX
def CK:AV->AV->M AV:=mY (λ_ _=>aB) nL
def CO:AV->AV->M AV:=mY (λ_ _=>aB) nM
def uo(f:Int->Int->Bool):AV->AV->M AV
 |.int i,.int j=>B8 (.bl<|f i j)
 |_,_=>C5
def CD:AV->AV->M AV:=uo λi j=>decide (i<j)
def CC:AV->AV->M AV:=uo λi j=>decide (i<=j)
def BZ:AV->AV->M AV:=uo λi j=>decide (j<i)
def BY:AV->AV->M AV:=uo λi j=>decide (j<=i)
def vB:AV->AV->Option Bool
 |.aG,.aG=>aA aB | .aG,.int _=>aA aJ | .int _,.aG=>aA aJ | .aG,.bl _=>aA aJ | .bl _,.aG=>aA aJ | .aG,.str _=>aA aJ | .str _,.aG=>aA aJ
 |.int i,.int j=>aA (decide<|i=j) | .bl i,.bl j=>aA (decide<|i=j) | .str i,.str j=>aA (decide<|i=j)
 |.int _,.str _=>aA aJ | .str _,.int _=>aA aJ | .bl _,.str _=>aA aJ | .str _,.bl _=>aA aJ
 |_,_=>aD
def jK:AV->Bool
 |.aG=>aB | .bl _=>aB | .int _=>aB | .str _=>aB
 |_=>aJ
def Jr:AV->AV->Bool
 |.aG,.aG=>aB
 |.bl a,.bl b=>a==b
 |.bl a,.int b=>(if a then 1 else 0)==b
 |.int a,.bl b=>a==(if b then 1 else 0)
 |.int a,.int b=>a==b
 |.str a,.str b=>a==b
 |_,_=>aJ
def xk(h:AH):AV->Option (Bool×AY)
 |.tup xs=>aA (aJ,xs)
 |.ref n=>match h.ob n with
  |some (.l _ xs)=>aA (aB,xs)
  |_=>aD
 |_=>aD
def tG(h:AH)(x y:AV):Option Bool:=match xk h x,xk h y with
 |some (aB,xs),aA (aB,[])=>aA xs.isEmpty
 |_,_=>aD
def dh(n:Bool)(x y:AV):M AV:=λh=>match vB x y with
 |some b=>.ok (.bl<|cond n (!b) b) h
 |none=>match tG h x y with
  |some b=>.ok (.bl<|cond n (!b) b) h
  |none=>.D0
def nV:AV->Bool
 |.aG=>aB
 |_=>aJ
def Ko(n:Bool)(x y:AV):M AV:=if nV y=aB then B8 (.bl<|cond n (!nV x)<|nV x) else C5
def hV(x:AV)(xs:'%'):Bool:=xs.any λy=>Jr y x
def fI(h:AH):AV->Option '%'
 |.tup xs=>aA xs
 |.ref n=>match h.ob n with
  |some (.l _ xs)=>aA xs
  |_=>aD
 |_=>aD
def fV:AV->Option aN
 |.int i=>aA (.inl i)
 |.str s=>aA (.inr s)
 |_=>aD
def fO(h:AH):AV->Option (List<|aN×AV)
 |.ref n=>match h.ob n with
  |some (.aP kvs)=>aA kvs
  |_=>aD
 |_=>aD
def bT(kvs:List (aN×AV))(k:aN):A4:=(kvs.find? λkv=>decide (kv.1=k)).map (·.2)
def gM(kvs:List (aN×AV))(k:aN)(v:AV):List (aN×AV):=
 if(kvs.any λkv=>decide (kv.1=k))=aB then kvs.map (λkv=>if kv.1=k then(kv.1,v) else kv) else kvs++[(k,v)]
def vA(kvs:List (aN×AV))(k:aN):List (aN×AV):=kvs.filter λkv=>decide (kv.1≠k)
def vF(neg:Bool)(x y:AV):M AV:=λh=>match fI h y with
 |some xs=>if(jK x&&xs.all jK)=aB then .ok (.bl<|cond neg (!hV x xs)<|hV x xs) h else
  .D0
 |none=>.D0
def qA(neg:Bool)(x y:AV):M AV:=λh=>match fO h y with
 |some kvs=>match fV x with
  |some k=>.ok (.bl<|cond neg (!(bT kvs k).isSome) (qw<|bT kvs k)) h
  |none=>.D0
 |none=>vF neg x y h
def uz:AV->M AV
 |.int i=>B8 (.int<|-i)
 |_=>C5
def uv(x y:AV):M AV:=λh=>match y with
 |.int i=>match (fI h x).bind λxs=>cZ xs i with
  |some v=>.ok v h
  |none=>.D0
 |_=>.D0
def ck(h:AH):AV->Option (List<|aN×AV)
 |.ref n=>match h.ob n with
  |some (.dX kvs)=>aA kvs
  |_=>aD
 |_=>aD
def Bp(x y:AV):M AV:=λh=>match ck h x with
 |some kvs=>match (fV y).bind (bT kvs) with
  |some v=>.ok v h
  |none=>.D0
 |none=>uv x y h
def vG(x y:AV):M AV:=λh=>match fO h x with
 |some kvs=>match (fV y).bind (bT kvs) with
  |some v=>.ok v h
  |none=>.D0
 |none=>Bp x y h
def Fb:AV->Option Bool
 |.bl b=>aA b
 |_=>aD
def dJ(x:AV):M Bool:=λh=>match Fb x with
 |some b=>.ok b h
 |none=>.D0
section
variable (hK:X.K=T.K)
def ki{α β:Type}{Rp:Rl α β}{p:Prop}[Decidable p]{m:M α}{Q:β->Hp->Prop}(w:W T Rp (C7 p m h) Y H Q E):p/\W T Rp (m h) Y H Q E:=by
 unfold C7 at w;by_cases a:p
 .rw[if_pos a]at w;exact⟨a,w⟩
 .rw[if_neg a]at w;exact w.elim
def tX{f:Value->Value->Sem Value}{C:Int->Int->Prop}{p:Int->Int->Bool}{g:Int->Int->Int}(ho:cY X f (rI C λi j=>.int (g i j)))(hc:∀i j,p i j=aB->C i j):eA X T E f (mY p g):=by
 refine⟨_,ho,λd h H x y e k Q R b c w=>?_⟩;cases x with
 |int i=>
  cases y with
  |int j=>
   cases b;cases c;simp only[mY]at w;by_cases a:p i j=aB
   .rw[if_pos a]at w;exact⟨i,j,rfl,rfl,hc i j a,w.here R (.int _)⟩
   .rw[if_neg a]at w;cases w
  |_=>exact w.elim
 |_=>exact w.elim
def Dn{f:Value->Value->Sem Value}{g:Int->Int->Bool}(ho:cY X f (pK λi j=>.bl (g i j))):eA X T E f (uo g):=by
 refine⟨_,ho,λc h H x y d e Q R a b w=>?_⟩;cases x with
 |int i=>
  cases y with
  |int j=>cases a;cases b;exact⟨i,j,rfl,rfl,C0 w R (.bl _)⟩
  |_=>exact w.elim
 |_=>exact w.elim
def Ef{f:Value->Value->Sem Value}{g:Int->Int->V}(h:cY X f (pK g)):cY X f (rI (λ_ _=>True) g):=
 λap s c H x y v u Q I d e ⟨i,j,a,b,_,q⟩=>h ap s c H x y v u Q I d e ⟨i,j,a,b,q⟩
def aDq:eA X T E (fL .Sub) Br:=tX (Ef aCs) λ_ _ _=>trivial
def aCv:eA X T E (fL .BitAnd) BW:=tX (Ef aBs) λ_ _ _=>trivial
def aDm:eA X T E (fL .BitOr) CK:=tX (Ef aCn) λ_ _ _=>trivial
def aDr:eA X T E (fL .BitXor) CO:=tX (Ef aCt) λ_ _ _=>trivial
def aDh:eA X T E (fL .Mod) CI:=tX aCg λ_ _ h=>of_decide_eq_true h
def HK(h:yP i j=aB):Hv i j:=by simp only[yP,bY,decide_eq_true_eq]at h;exact⟨h.1.1,h.1.2,h.2⟩
def aDn:eA X T E (fL .Pow) CL:=tX aCo λ_ _ h=>HK h
def aDo:eA X T E (fL .LShift) CM:=tX aCq λ_ _ h=>HK h
def aDp:eA X T E (fL .RShift) CN:=tX aCr λ_ _ h=>of_decide_eq_true h
def aAu(h:sD i j=aB):IntMulOk i j:=by
 simp only[sD,yg,bY,decide_eq_true_eq]at h;rcases h with(h|h)|⟨a,b⟩
 .exact .of_left<|Ho h
 .exact .of_right<|Ho h
 .exact .of_bits (dF (Ho a) '#')<|dF (Ho b) '#'
def aCh:cY X (fL .Mult) (rI IntMulOk λi j=>.int (i*j)):=mj λ_ _ _ _ _ _ _ a q=>mul_int q a
theorem log2_lt{j:Int}(h:j<2 ^ 1000)(h0:0<j):j.natAbs.log2<9000:=by
 have hn:j.natAbs<2 ^ 1000:=by omega
 have:j.natAbs.log2<1000:=(Nat.log2_lt (by lia)).2 hn;lia
def aBy:cY X (fL .FloorDiv) (rI (λ_ j=>0<j/\j<2 ^ 1000) λi j=>.int (i / j)):=mj λi j _ _ _ _ _ hc q=>by have h1:=hc.1;exact floordiv_int (by lia) (by rw[Sq i (by lia)];exact q)<|.inl<|QL<|log2_lt hc.2 hc.1
def Zr(h:pA j=aB):0<j/\j<2 ^ 1000:=by simp only[pA,bY,decide_eq_true_eq]at h;exact h
def aCy:eA X T E (fL .FloorDiv) BX:=tX aBy λ_ _ h=>Zr h
def aDg:eA X T E (dM .Lt) CD:=Dn aCf
def aDf:eA X T E (dM .LtE) CC:=Dn aCe
def aDa:eA X T E (dM .Gt) BZ:=Dn aCa
def aCz:eA X T E (dM .GtE) BY:=Dn aBz
def AA(rx:aV T Y H x x')(ry:aV T Y H y y')(e:vB x y=aA b):Pq x' y'=aB/\decide (x'=y')=b:=by
 cases rx<;>cases ry<;>first
  | (cases e;done)
  |exact⟨rfl,(decide_eq_false nofun).trans (cR e)⟩
  | (obtain rfl:=cR e;exact⟨rfl,by simp⟩)
def Ke(r:aV T Y H x x')(f:jK x=aB):tI x'=aB:=by cases r<;>first|rfl|exact ff f
theorem Kf{Y:AI}{H:Hp}:∀{xs:'%'}{ys:AJ},bF T Y H xs ys->xs.all jK=aB->ys.all tI=aB
 |_,_,.nil,_=>rfl|_,_,.cons h a,f=>by rw[lZ,bY]at f ⊢;exact⟨Ke h f.1,Kf a f.2⟩
def w9(rx:aV T Y H x x')(ry:aV T Y H y y')(fx:jK x=aB)(fy:jK y=aB):vC x' y'=Jr x y:=by
 cases rx<;>first|cases fx;done|skip
 all_goals (cases ry<;>first|rfl|cases fy)
def KM(hK:X.K=T.K){k:Bool}(R:'3')(r:aV T Y H x x')(e:xk h x=aA (k,xs)):∃a ys,x' = .ref a/\bF T Y H xs ys/\(k=aB->eB X.K H a ys)/\(k=aJ->fU X.K H a ys):=by
 cases r with
 |tup d hr=>cases e;exact⟨_,_,rfl,hr,(nofun),λ_=>by left⟩
 |@ref n a q=>
  simp only[xk]at e;cases o:h.ob n with
  |none=>left|some u=>
   rw[o]at e;cases u with
   |l m ys=>
    cases e;cases m with
    |true=>obtain⟨zs,b,c⟩:=R.obj n _ a o q;exact⟨_,_,rfl,c,λ_=>.inl (.inl b),nofun⟩|false=>obtain⟨zs,b,c⟩:=R.obj n _ a o q;exact⟨_,_,rfl,c,λ_=>hK▸b.sq,nofun⟩
   |_=>exact bU e
 |_=>exact bU e
def AB(hK:X.K=T.K)(R:'3')(rx:aV T Y H x x')(ry:aV T Y H y y')(e:tG h x y=aA b):∃a c,x' = .ref a/\y' = .ref c/\aj X.K H 12 x' y' b:=by
 unfold tG at e;split at e
 .rename_i xs d f;cases e;obtain⟨a,us,rfl,g,l1,_⟩:=KM hK R rx d;obtain⟨c,j,rfl,i,l2,_⟩:=KM hK R ry f;cases i;exact⟨a,c,rfl,rfl,a,c,us,rfl,rfl,l1 rfl,l2 rfl,by cases g<;>rfl⟩
 .exact bU e
def aCx(hK:X.K=T.K)(hu:X.A.units+12<cLine)(b:Bool):eA X T E (dM<|cond b .NotEq .Eq) (dh b):=by
 refine⟨_,aBx b hu,λm h H x y n o Q R f g w=>?_⟩;unfold dh at w;cases e:vB x y with
 |none=>
  simp only[e]at w;cases d:tG h x y with
  |none=>simp only[d]at w;exact w.elim|some b=>simp only[d]at w;obtain⟨a,c,i,j,q⟩:=AB hK R f g d;exact .inr ⟨b,a,c,i,j,q,C0 w R (.bl _)⟩
 |some b=>simp only[e]at w;obtain⟨k,l⟩:=AA f g e;exact .inl ⟨k,by rw[l];exact C0 w R<|.bl _⟩
def Ce(r:aV T Y H x x'):decide (x' = .aG)=nV x:=by cases r<;>simp[nV]
def aDd(n:Bool):eA X T E (dM<|cond n .IsNot .Is) (Ko n):=by
 refine⟨_,aCd n,λc h H x y d f Q R a b w=>?_⟩;unfold Ko at w;by_cases e:nV y=aB
 .rw[if_pos e]at w;rw[<- Ce b]at e;exact⟨of_decide_eq_true e,by rw[Ce a];exact C0 w R<|.bl _⟩
 .rw[if_neg e]at w;exact w.elim
def aSz:Ws X T E (Hr .USub) uz:=by
 refine⟨_,aSw,λb h H x c Q R a w=>?_⟩;cases x with
 |int i=>cases a;exact⟨i,rfl,C0 w R (.int _)⟩|_=>exact w.elim
theorem Lh{Y:AI}{H:Hp}{x:AV}{x':V}(rx:aV T Y H x x')(fx:jK x=aB):∀{xs:'%'}{ys:AJ},bF T Y H xs ys->xs.all jK=aB->Ca x' ys=hV x xs
 |_,_,.nil,_=>rfl|_,_,.cons h a,f=>by rw[lZ,bY]at f;have:=Lh rx fx a f.2;unfold Ca hV at this ⊢;rw[ia,ia,this,w9 h rx f.1 fx]
def yM{m:Bool}(R:'3')(e:h.ob n=aA (.l m xs))(q:Y[n]?=aA a):∃ys,eB T.K H a ys/\bF T Y H xs ys:=by
 have r:=R.obj n _ a e q;cases m with
 |true=>obtain⟨ys,b,c⟩:=r;exact⟨ys,.of b,c⟩|false=>obtain⟨ys,b,c⟩:=r;exact⟨ys,b.sq,c⟩
inductive Wq(T:D8)(Y:AI)(H:Hp)(x':V)(xs:AY):Prop
 |mk (p:Addr) (ys:AJ) (_:x' = .ref p) (_:eB T.K H p ys\/fU T.K H p ys) (_:bF T Y H xs ys):Wq T Y H x' xs
def xh(R:'3')(r:aV T Y H x x')(e:fI h x=aA xs):Wq T Y H x' xs:=by
 cases r with
 |tup b hr=>cases e;exact⟨_,_,rfl,.inr b,hr⟩|@ref n a q=>
  simp only[fI]at e;cases o:h.ob n with
  |none=>left|some u=>
   rw[o]at e;cases u with
   |l m i=>cases e;obtain⟨zs,d,f⟩:=yM R o q;exact⟨_,zs,rfl,.inl d,f⟩
   |aP g=>cases e|dX _=>cases e|ins c fs=>exact bU e
 |_=>exact bU e
inductive gJ(T:D8)(Y:AI)(H:Hp):List (aN×AV)->List (aN×V)->Prop where
 |nil:gJ T Y H [] []
 |cons {k:aN}{v:AV}{y:V}{xs:List (aN×AV)}{ys:List (aN×V)} (h:aV T Y H v y) (t:gJ T Y H xs ys):gJ T Y H ((k,v)::xs) ((k,y)::ys)
theorem oe{Y:AI}{H:Hp}:∀{kvs:List (aN×AV)}{ys:AJ},bF T Y H (kvs.map (·.2)) ys->gJ T Y H kvs ((kvs.map (·.1)).zip ys)
 |[],_,.nil=>.nil
 | (k,v)::kvs,_,.cons h t=>.cons h (oe t)
def Pm(r:gJ T Y H kvs us):∃ys,us=(kvs.map (·.1)).zip ys/\bF T Y H (kvs.map (·.2)) ys:=by
 induction r with
 |nil=>exact⟨[],rfl,.nil⟩|cons h t a=>obtain⟨ys,e,r⟩:=a;exact⟨_::ys,by rw[e];rfl,.cons h r⟩
def Ei(r:gJ T Y H kvs us):B3 kvs=B3 us:=by induction r<;>left
def gg{k:aN}(r:gJ T Y H kvs us):(∀v,bT kvs k=aA v->∃y,fR us k=aA y/\aV T Y H v y)/\(bT kvs k=aD->fR us k=aD):=by
 induction r with
 |nil=>exact⟨(λv h=>bU h),λ_=>rfl⟩|@cons b v y xs c h t d=>
  by_cases e:b=k
  .subst e;refine⟨λi a=>?_,λa=>?_⟩
   .simp[bT]at a;subst a;exact⟨y,by simp[fR],h⟩
   .simp[bT]at a
  .have f:bT ((b,v)::xs) k=bT xs k:=by simp[bT,e]
   have g:fR ((b,y)::c) k=fR c k:=by simp[fR,e]
   rw[f,g];exact d
def JR{k:aN}(r:gJ T Y H kvs us):qw (fR us k)=qw (bT kvs k):=by
 obtain⟨a,b⟩:=gg r;cases e:bT kvs k with
 |none=>rw[b e];rfl|some v=>obtain⟨y,c,_⟩:=a v e;rw[c];rfl
def aNw{k:aN}(r:gJ T Y H kvs us):(kvs.any λkv=>decide (kv.1=k))=us.any λkv=>decide (kv.1=k):=by induction r<;>left
def aNx{k:aN}{y:V}(r:gJ T Y H kvs us)(h:aV T Y H v y):gJ T Y H (kvs++[(k,v)]) (us++[(k,y)]):=by
 induction r with
 |nil=>exact .cons h .nil|cons a t b=>exact .cons a b
def aNz{k:aN}{y:V}(r:gJ T Y H kvs us)(h:aV T Y H v y):gJ T Y H (kvs.map λkv=>if kv.1=k then(kv.1,v) else kv) (us.map λkv=>if kv.1=k then(kv.1,y) else kv):=by
 induction r with
 |nil=>exact .nil|@cons b d f xs g c t a=>
  by_cases e:b=k
  .simp only[fJ,e];exact .cons h a
  .simp only[fJ,e];exact .cons c a
def Pn{k:aN}{y:V}(r:gJ T Y H kvs us)(h:aV T Y H v y):gJ T Y H (gM kvs k v) (F2 us k y):=by
 unfold gM F2;rw[aNw r];split
 .exact aNz r h
 .exact aNx r h
def aNy{k:aN}(r:gJ T Y H kvs us):gJ T Y H (vA kvs k) (rO us k):=by
 induction r with
 |nil=>exact .nil|@cons b d f xs g c t a=>
  unfold vA rO;by_cases e:b=k
  .simp only[kF,e,ne_eq];exact a
  .simp only[kF,e,ne_eq];exact .cons c a
theorem gJ.ext{Y Y':AI}{H H':Hp}{kvs:List (aN×AV)}{us:List (aN×V)}(r:gJ T Y H kvs us)(e:E2 Y H Y' H'):gJ T Y' H' kvs us:=by
 induction r with
 |nil=>exact .nil|cons h t a=>exact .cons (h.ext e) a
inductive Vz(T:D8)(Y:AI)(h:AH)(H:Hp)(x:AV)(x':V)(kvs:List (aN×AV)):Prop
 |mk (n:Nat) (a:Addr) (us:List (aN×V)) (_:x = .ref n) (_:Y[n]?=aA a) (_:h.ob n=aA (.aP kvs)) (_:x' = .ref a) (_:H a=aA (.dK us)) (_:gJ T Y H kvs us):Vz T Y h H x x' kvs
def tE(R:'3')(r:aV T Y H x x')(e:fO h x=aA kvs):Vz T Y h H x x' kvs:=by
 cases r with
 |@ref n a q=>
  simp only[fO]at e;cases o:h.ob n with
  |none=>left|some u=>
   rw[o]at e;cases u with
   |aP b=>cases e;obtain⟨f,g,c,rfl,d⟩:=R.obj n _ a o q;exact⟨n,a,_,rfl,q,o,rfl,c,oe d⟩
   |_=>exact bU e
 |_=>exact bU e
def p6(R:'3')(r:aV T Y H x x')(e:ck h x=aA kvs):∃a us,x' = .ref a/\Rd H a (.dK us)/\gJ T Y H kvs us:=by
 cases r with
 |@ref n a q=>
  simp only[ck]at e;cases o:h.ob n with
  |none=>left|some u=>
   rw[o]at e;cases u with
   |dX b=>cases e;obtain⟨ob,f,g,c,rfl,d⟩:=R.obj n _ a o q;exact⟨a,_,rfl,.inr ⟨ob,c⟩,oe d⟩
   |_=>exact bU e
 |_=>exact bU e
def ua(e:H a=aA (.dK us))(r:gJ T Y H kvs us):oW T Y H a (.aP kvs):=by obtain⟨b,c,d⟩:=Pm r;subst c;exact⟨_,b,e,rfl,d⟩
def tQ{k:aN}(r:aV T Y H x x')(e:fV x=aA k):x'=kV k:=by cases r<;>simp[fV]at e<;>(subst e)<;>rfl
include hK in
theorem aDc(n:Bool):eA X T E (dM<|cond n .NotIn .In) (vF n):=by
 refine⟨_,aCc n,λi h H x y j k Q R a c w=>?_⟩;unfold vF at w;cases e:fI h y with
 |none=>rw[e]at w;cases w
 |some xs=>
  rw[e]at w;by_cases f:(jK x&&xs.all jK)=aB
  .simp only[if_pos f]at w;rw[bY]at f;obtain⟨p,d,g,l,b⟩:=xh R c e;refine⟨p,d,g,by left,Ke a f.1,Kf b f.2,?_⟩;rw[Lh a f.1 b f.2];exact w.here R<|.bl _
  .simp only[if_neg f]at w;exact w.elim
def TC(r:bF T Y H xs ys)(e:cZ xs i=aA v):∃v',cZ ys i=aA v'/\aV T Y H v v':=by
 unfold cZ at e ⊢;rw[<- r.length];cases q:iS (B3 xs) i with
 |none=>left|some j=>rw[q]at e;exact r.get e
include hK in
theorem V3:zx X T E uv:=by
 refine⟨_,U9.or V0,λl h H x y m n Q R f g w=>?_⟩;cases y with
 |int i=>
  cases g;simp only[uv]at w;cases a:(fI h x).bind λxs=>cZ xs i with
  |none=>rw[a]at w;cases w|some v=>
   rw[a]at w;obtain⟨xs,j,k⟩:=f'.1 a;obtain⟨p,b,rfl,hq,hr⟩:=xh R f j;obtain⟨c,d,e⟩:=TC hr k;rcases hq with hq|hq
   .exact .inl ⟨p,b,i,c,rfl,rfl,by left,d,w.here R e⟩
   .exact .inr ⟨p,b,i,c,rfl,rfl,by left,d,w.here R e⟩
 |_=>exact w.elim
include hK in
theorem aDb(n:Bool):eA X T E (dM<|cond n .NotIn .In) (qA n):=by
 obtain⟨r0,p0,e⟩:=(aDc hK n:eA X T E (dM<|cond n .NotIn .In) (vF n));refine⟨_,p0.or (aCb n),λf h H x y x' y' Q R b c w=>?_⟩;unfold qA at w;cases d:fO h y with
 |none=>simp only[d]at w;exact .inl<|e f h H _ _ _ _ Q R b c w|some i=>
  simp only[d]at w;cases k:fV x with
  |none=>simp only[k]at w;exact w.elim|some k'=>simp only[k]at w;obtain⟨n,a,us,rfl,_,_,rfl,g,r⟩:=tE R c d;refine .inr ⟨a,_,rfl,(tQ b k)▸mE.k g,?_⟩;rw[JR r];exact C0 w R<|.bl _
include hK in
theorem V2:zx X T E vG:=by
 obtain⟨r0,p0,q0⟩:=(V3 hK:zx X T E uv);refine⟨_,p0.or U8,λY h H x y x' y' Q R f i w=>?_⟩;unfold vG at w;cases d:fO h x with
 |none=>
  simp only[d]at w;unfold Bp at w;cases d2:ck h x with
  |none=>simp only[d2]at w;exact .inl<|q0 Y h H _ _ _ _ Q R f i w|some b=>
   simp only[d2]at w;cases k:fV y with
   |none=>simp only[k]at w;exact w.elim|some e=>
    simp only[k,oP]at w;cases l:bT b e with
    |none=>simp only[l]at w;exact w.elim|some v=>simp only[l]at w;obtain⟨a,us,rfl,g,r⟩:=p6 R f d2;obtain⟨j,l2,c⟩:=(gg r).1 v l;refine .inr ⟨a,j,rfl,?_,C0 w R c⟩;rw[tQ i k,<- l2];exact⟨us,e,g,rfl,rfl⟩
 |some b=>
  simp only[d]at w;cases k:fV y with
  |none=>simp only[k]at w;exact w.elim|some e=>
   simp only[k,oP]at w;cases l:bT b e with
   |none=>simp only[l]at w;exact w.elim|some v=>simp only[l]at w;obtain⟨n,a,us,rfl,_,_,rfl,g,r⟩:=tE R f d;obtain⟨j,l2,c⟩:=(gg r).1 v l;refine .inr ⟨a,j,rfl,?_,C0 w R c⟩;rw[tQ i k,<- l2];exact mE.k g
def aNa(K:bN):R2:=λx y H Q=>∃a b ys,x = .ref a/\y = .ref b/\fU K H a []/\fU K H b ys/\Q (.ref b) H
def aBv:cY X (fL .Add) (aNa X.K):=by
 intro ap s A H x y v u Q I l m h;obtain⟨a,b,B,rfl,rfl,ha,hb,q⟩:=h;cases l;cases m;obtain⟨o,p,r,_⟩:=I.tuple ha;obtain⟨i,C,t,_⟩:=I.tuple hb;cases p;obtain⟨⟨cls,dd,data,sl⟩,j,w,n,hd⟩:=id r;obtain⟨⟨k,d,data2,e⟩,c,f,z,g⟩:=id t;subst w hd f g;exact Vg ⟨_,j,rfl⟩ ⟨_,c,rfl⟩ Vl Vo Ul Ui (Uh _ _)
  (tuple_addW0 a b _ _ n z dd d sl e<|rfl) ⟨j,c,⟨.ref b,H,I,rfl,q⟩⟩
include hK in
theorem aCu:eA X T E (fL .Add) BV:=by
 refine⟨_,aBr.or (aBu.or<|aBv.or aBt),λY h H x y K L Q R t u w=>?_⟩;cases x with
 |int i=>
  cases y with
  |int j=>cases t;cases u;exact .inl ⟨i,j,rfl,rfl,C0 w R (.int _)⟩|_=>cases w
 |tup xs=>
  cases y with
  |tup f=>
   obtain⟨M,w⟩:=ki w;cases t with
   |@tup a _ c D hr=>
    cases u with
    |@tup b _ d v g=>
     have l1:=hr.length;have l2:=g.length;by_cases F:B3 xs=0
     .have r:=yj F;subst r;have r:=yj l1.symm;subst r;exact .inr<|.inr<|.inl ⟨a,b,d,rfl,rfl,by grind,by grind,C0 w R (.tup v g)⟩
     refine .inr<|.inl ⟨a,b,c,d,rfl,rfl,by grind,by grind,λz=>?_,'!',λz=>?_,λz p l=>?_⟩
     .simp_all
     .subst z;have r:f=[]:=by grind
      subst r;rw[nP]at w;exact C0 w R<|.tup D hr
     .exact W.ok w (.lX l) (R.D7 l)<|.tup (.of gG)<|((hr.append g).ext (.lX l))
  |_=>cases w
 |ref n=>
  cases y with
  |ref m=>
   cases t with
   |@ref _ a q=>
    cases u with
    |@ref _ b G=>
     have go:∀xs f,h.ob n=aA (.l aB xs)->h.ob m=aA (.l aB f)->W T (aV T) (if B3 xs+B3 f<=sizeLine then .ok (.ref h.nx) (h.C8<|.l aB<|xs++f) else .D0) Y H Q E->JD (.ref a) (.ref b) H Q:=λxs f o s w=>by
      by_cases A:B3 xs+B3 f<=sizeLine
      .rw[if_pos A]at w;obtain⟨c,g1,B⟩:=R.obj n _ a o q;obtain⟨d,g2,C⟩:=R.obj m _ b s G;have l1:=B.length;have l2:=C.length;refine⟨a,b,c,d,rfl,rfl,g1,g2,'!',λp l=>?_⟩;have I:oW T (Y++[p]) (D4 H p<|.l<|c++d) p (.l aB<|xs++f):=⟨_,gG,(B.append C).ext ⟨λk z e=>by rw[sS ((dk.1 e).1)];exact e,(E2.lX (Y:=Y) l).tup,(E2.lX (Y:=Y) l).dI⟩⟩
       obtain⟨J,ex⟩:=R.alloc l I;exact W.ok w ex J<|.ref (by rw[<- R.len];simp)
      .rw[if_neg A]at w;cases w
     refine .inr<|.inr<|.inr ?_;replace w:W T (aV T) (um n m h) Y H Q E:=w
     unfold um at w;cases o:fj h n with
     |none=>rw[o]at w;cases w|some xs=>
      cases s:fj h m with
      |none=>rw[o,s]at w;cases w|some f=>rw[o,s]at w;exact go xs f (FC o) (FC s) w
  |_=>cases w
 |_=>cases w
def LP(r:aV T Y H x x')(e:Fb x=aA b):x' = .bl b:=by
 cases r with
 |bl j=>cases e;rfl|_=>exact bU e
end
def yE(i:Nat):aF->M AV:=λZ h=>match Z[i]? with
 |some (aA v)=>.ok v h
 |_=>.D0
def Wy(m k:M AV):M AV:=m.bind λx=>(dJ x).bind λb=>if b=aB then k else B8 x
def GH(m k:M AV):M AV:=m.bind λx=>(dJ x).bind λb=>if b=aB then B8 x else k
def Wx(m k:M Bool):M Bool:=m.bind λb=>if b=aB then k else B8 aJ
def GG(m k:M Bool):M Bool:=m.bind λb=>if b=aB then B8 aB else k
def Ch{α:Type}(c:M Bool)(a b:M α):M α:=c.bind λt=>if t=aB then a else b
def sZ:AV->Option Bool
 |.bl b=>aA b
 |_=>aD
def js(g g':AV->AV->M AV)(a b c:M AV):M AV:=a.bind λx=>b.bind λy=>(g x y).bind λz h=>match sZ z with
 |some aB=>(c.bind λw=>g' y w) h
 |some aJ=>.ok (.bl aJ) h
 |none=>.D0
def Jc(a:M AV)(r:M '%'):M '%':=a.bind λx=>r.bind λxs=>B8 (x::xs)
def Qt(r:M '%'):M AV:=r.bind λxs=>C7 (B3 xs<=sizeLine) (B8<|.tup xs)
def kQ(xs:'%'):M AV:=λh=>.ok (.ref h.nx) (h.C8<|.l aB xs)
def tU(r:M '%'):M AV:=r.bind λxs=>C7 (B3 xs<=sizeLine) (kQ xs)
def vM(g:AV->AV->M AV)(a b:M AV):M AV:=a.bind λx=>b.bind λy=>g x y
def cF:aI->Bool
 |.Name ..=>aB | .Constant ..=>aB | .BinOp ..=>aB | .UnaryOp ..=>aB | .Compare ..=>aB | .BoolOp ..=>aB | .IfExp ..=>aB
 |.Tuple ..=>aB | .List ..=>aB | .Subscript ..=>aB | .Call ..=>aB | .Attribute ..=>aB | .ListComp ..=>aB
 |.Dict ..=>aB
 |_=>aJ
def vI:aI->Bool
 |.ListComp ..=>aB
 |_=>aJ
def Dt:aI->Bool
 |.Name ..=>aB | .Constant ..=>aB | .BinOp ..=>aB | .Subscript ..=>aB | .Call ..=>aB | .Attribute ..=>aB | .Tuple ..=>aB | .List ..=>aB | .ListComp ..=>aB
 |.Dict ..=>aB
 |_=>aJ
def gE(h:cF e=aB):eS (e::es) env=(aJ,eval e env)::eS es env:=by cases e<;>first|rfl|exact ff h
def aOq(h:cF e=aB):Ig e:=λo i=>by cases e<;>first|rfl|exact ff h
def KB{t:Option aI}(h:cF e=aB)(hl:vI e=aJ):xF e t n env=pure aJ:=by cases e<;>first|rfl|(cases hl;done)|(cases h;done)
def Pu{x:Value}(h:cF e=aB):Hn e env x=pure x:=by cases e<;>first|rfl|exact ff h
def En{op:rD}(h:cF e=aB):zb op e=aJ:=by cases e<;>first|rfl|exact ff h
def aFr(h:Dt e=aB):∀whole,isTrue e env whole=(do let v <- whole;standAt e.pos;ze [v] (truthy v)):=λ_=>by cases e<;>first|rfl|exact ff h
def uE(h:es.all cF=aB):(mD pos<|eS es env).any (·.1)=aJ:=by
 induction es with
 |nil=>rfl|cons e es a=>rw[lZ,bY]at h;rw[gE h.1];have:=a h.2;simp only[mD]at this ⊢;exact this
section
variable {a b c:aI}{mt mu:aF->M Bool}
def aIt{i:Nat}{x:Str} (hN:X.N[i]?=aA x) (hv:Ag X.env.scope x) (hd:'B'=aJ) (hcd:(x==("__classdict__":Str))=aJ):QE X T E (.Name x pos) (yE i):=by
 refine⟨_,aEv hN hv hd hcd,λe a b h H Q R S w=>?_⟩;unfold yE at w;cases q:a[i]? with
 |none=>rw[q]at w;exact w.elim|some o=>
  cases o with
  |none=>rw[q]at w;exact w.elim|some v=>rw[q]at w;obtain⟨c,d,r⟩:=S.2 i v q;exact⟨c,d,w.here R r⟩
def wy{v':V}(hp:PE X e (tC v'))(r:∀Y H,aV T Y H v v'):QE X T E e (λ_=>B8 v):=
 ⟨_,hp,λY _ _ h H Q R _ w=>C0 w R (r Y H)⟩
def HV:QE X T E e (λ_=>C5):=⟨λ_ _ _=>False,λ_ _ _ _ _ _ h=>h.elim,λ_ _ _ _ _ _ _ _ w=>w⟩
def Pe:QT X T E e (λ_=>C5):=⟨λ_ _ _=>False,λ_ _ _ _ _ _ h=>h.elim,λ_ _ _ _ _ _ _ _ w=>w⟩
def pM{α β:Type}{Rp:Rl α β}{ta:TE}(ra:∀ρ Z Z' h H Q,bP T ρ h H->cU T ρ H Z Z'->W T (aV T) (ma Z h) ρ H Q E->ta Z' H Q)(rb:∀ρ Z Z' h H Q,bP T ρ h H->cU T ρ H Z Z'->W T (aV T) (mb Z h) ρ H Q E->tb Z' H Q){g:AV->AV->M α}{Q:β->Hp->Prop}{F:V->V->Hp->Prop}(R:bP T ρ h H)(S:cU T ρ H Z Z')(w:W T Rp ((ma Z).bind (λx=>(mb Z).bind λy=>g x y) h) ρ H Q E)
  (f:∀ρ2 x y x' y' h2 H2,E2 ρ H ρ2 H2->bP T ρ2 h2 H2->aV T ρ2 H2 x x'->aV T ρ2 H2 y y'->cU T ρ2 H2 Z Z'->W T Rp (g x y h2) ρ2 H2 Q E->F x' y' H2):ta Z' H λx H1=>tb Z' H1 λy H2=>F x y H2:=
 ra ρ Z Z' h H _ R S (B9 w λa x x' d H1 b e i w1=>rb a Z Z' d H1 _ e (S.ext b) (B9 w1 λρ2 y y' h2 H2 c R2 j w2=>f ρ2 x y x' y' h2 H2 (b.trans c) R2 (i.ext c) j ((S.ext b).ext c) w2))
def aIk{op:pQ}{g:AV->AV->M AV}(ho:eA X T E (fL op) g)(ha:QE X T E a ma)(hb:QE X T E b mb):QE X T E (.BinOp a op b pos) (λZ=>vM g (ma Z) (mb Z)):=by obtain⟨r,hr,d⟩:=ho;obtain⟨ta,pa,e⟩:=ha;obtain⟨tb,f,i⟩:=hb;exact⟨_,aEp hr pa f,λq Z j h H Q R S w=>pM e i R S w λc x y k l m n _ R2 o p _ w2=>d c m n x y k l Q R2 o p w2⟩
def aIb{g:AV->AV->M AV}(ho:zx X T E g)(ha:QE X T E a ma)(hb:QE X T E b mb)(hs:Ig b):QE X T E (.Subscript a b pos) (λZ=>vM g (ma Z) (mb Z)):=by obtain⟨r,hr,d⟩:=ho;obtain⟨ta,pa,e⟩:=ha;obtain⟨tb,f,i⟩:=hb;exact⟨_,aEg hr pa f hs,λq Z j h H Q R S w=>pM e i R S w λc x y k l m n _ R2 o p _ w2=>d c m n x y k l Q R2 o p w2⟩
def aHt{op:rD}{g:AV->AV->M AV}(ho:eA X T E (dM op) g)(ha:QE X T E a ma)(hb:QE X T E b mb)(hm:zb op b=aJ):QE X T E (.Compare a [op] [b] pos) (λZ=>vM g (ma Z) (mb Z)):=by obtain⟨r,hr,d⟩:=ho;obtain⟨ta,pa,e⟩:=ha;obtain⟨tb,f,i⟩:=hb;exact⟨_,aDy hr pa f hm,λq Z j h H Q R S w=>pM e i R S w λc x y k l m n _ R2 o p _ w2=>d c m n x y k l Q R2 o p w2⟩
def aIs{op:PySem.UnaryOp}{g:AV->M AV}(ho:Ws X T E (Hr op) g)(ha:QE X T E a ma):QE X T E (.UnaryOp op a pos) (λZ=>(ma Z).bind g):=by obtain⟨r,hr,d⟩:=ho;obtain⟨ta,pa,e⟩:=ha;exact⟨_,aEu hr pa,λf Z b h H Q R S w=>e f Z b h H _ R S (B9 w λc x i j H1 m k l w1=>d c j H1 x i Q k l w1)⟩
def Ks{γ δ:Type}{Rq:Rl γ δ}{k:Bool->M γ}{Q:δ->Hp->Prop}(r:aV T Y H x x')(w:W T Rq ((dJ x).bind k h) Y H Q E) :
  ∃d,x' = .bl d/\W T Rq (k d h) Y H Q E:=by
 unfold C6 dJ at w;cases e:Fb x with
 |none=>rw[e]at w;cases w|some d=>rw[e]at w;exact⟨d,LP r e,w⟩
def aHz(hc:QT X T E c mt)(ha:QE X T E a ma)(hb:QE X T E b mb):QE X T E (.IfExp c a b pos) (λZ=>Ch (mt Z) (ma Z) (mb Z)):=by
 obtain⟨r,pc,rc⟩:=hc;obtain⟨ta,pa,l⟩:=ha;obtain⟨tb,m,n⟩:=hb;refine⟨_,aEe pc pa m,λo Z e h H Q R S w=>rc o Z e h H _ R S (B9 w λf d p i H1 j k q w1=>?_)⟩;have g:=q;subst g;cases d with
 |true=>exact l f Z e i H1 Q k (S.ext j) w1|false=>exact n f Z e i H1 Q k (S.ext j) w1
def aQp(ta tb:TE):TE:=λZ H Q=>ta Z H λx H1=>∃c,x = .bl c/\if c=aB then tb Z H1 Q else Q x H1
def aRg(ta tb:TE):TE:=λZ H Q=>ta Z H λx H1=>∃c,x = .bl c/\if c=aB then Q x H1 else tb Z H1 Q
def aRf(ta:TE):TE:=λZ H Q=>ta Z H λx H1=>∃c,x = .bl c/\Q (.bl<|!c) H1
variable {ta:TE}{rest:List aI}
def aDs(ha:PE X a ta)(hb:PE X (.BoolOp .And (b::rest) pos) tb):PE X (.BoolOp .And (a::b::rest) pos) (aQp ta tb):=by
 intro ap s d H Q I h;refine BoolOp_and<|bG (ha ap s d H _ I h) λv s1 g=>?_;obtain⟨x,H1,e,i,c,ht,f⟩:=g;subst ht;obtain rfl:v=sW c:=i;refine uR ?_;cases c with
 |true=>exact hb ap s1 d H1 Q e f|false=>exact⟨.bl aJ,H1,e,rfl,f⟩
def aEq(ha:PE X a ta)(hb:PE X (.BoolOp .Or (b::rest) pos) tb):PE X (.BoolOp .Or (a::b::rest) pos) (aRg ta tb):=by
 intro ap s d H Q I h;refine BoolOp_or<|bG (ha ap s d H _ I h) λv s1 g=>?_;obtain⟨x,H1,e,i,c,ht,f⟩:=g;subst ht;obtain rfl:v=sW c:=i;refine uR ?_;cases c with
 |false=>exact hb ap s1 d H1 Q e f|true=>exact⟨.bl aB,H1,e,rfl,f⟩
def aEn(ha:PE X a ta):PE X (.UnaryOp .Not a pos) (aRf ta):=by intro ap s b H Q I h;refine UnaryOp_<|bG (ha ap s b H _ I h) λv s1 d=>?_;obtain⟨x,H1,e,f,c,ht,g⟩:=d;subst ht;obtain rfl:v=sW c:=f;exact not_of<|uR ⟨.bl (!c),H1,e,rfl,g⟩
def HX{op:PySem.BoolOp}(ha:QE X T E a ma):QE X T E (.BoolOp op [a] pos) ma:=let ⟨t,p,r⟩:=ha;⟨t,aEo p,r⟩
def aHj(ha:QE X T E a ma)(hb:QE X T E (.BoolOp .And (b::rest) pos) mb):QE X T E (.BoolOp .And (a::b::rest) pos) (λZ=>Wy (ma Z) (mb Z)):=by
 obtain⟨ta,pa,i⟩:=ha;obtain⟨tb,j,k⟩:=hb;refine⟨_,aDs pa j,λl Z c h H Q R S w=>i l Z c h H _ R S (B9 w λe x o m H1 n f g w1=>?_)⟩;obtain⟨d,td,w2⟩:=Ks g w1;refine⟨d,td,?_⟩;cases d with
 |true=>exact k e Z c m H1 Q f (S.ext n) w2|false=>exact C0 w2 f g
def aIl(ha:QE X T E a ma)(hb:QE X T E (.BoolOp .Or (b::rest) pos) mb):QE X T E (.BoolOp .Or (a::b::rest) pos) (λZ=>GH (ma Z) (mb Z)):=by
 obtain⟨ta,pa,i⟩:=ha;obtain⟨tb,j,k⟩:=hb;refine⟨_,aEq pa j,λl Z c h H Q R S w=>i l Z c h H _ R S (B9 w λe x o m H1 n f g w1=>?_)⟩;obtain⟨d,td,w2⟩:=Ks g w1;refine⟨d,td,?_⟩;cases d with
 |false=>exact k e Z c m H1 Q f (S.ext n) w2|true=>exact C0 w2 f g
def aIj(ha:QE X T E a ma):QE X T E (.UnaryOp .Not a pos) (λZ=>(ma Z).bind λx=>(dJ x).bind λb=>B8 (.bl<|!b)):=by obtain⟨ta,pa,e⟩:=ha;refine⟨_,aEn pa,λf Z c h H Q R S w=>e f Z c h H _ R S (B9 w λg x k l H1 m i j w1=>?_)⟩;obtain⟨d,td,w2⟩:=Ks j w1;exact⟨d,td,C0 w2 i (.bl _)⟩
def Yp{r r':R2}{g:AV->AV->M AV}{tc:TE}
  (hg:∀Y h H x y x' y' Q,'3'->aV T Y H x x'->aV T Y H y y'->W T (aV T) (g x y h) Y H Q E->r x' y' H Q)
  (hg':∀Y h H x y x' y' Q,'3'->aV T Y H x x'->aV T Y H y y'->W T (aV T) (g' x y h) Y H Q E->r' x' y' H Q)
  (ra:∀Y Z Z' h H Q,'3'->cU T Y H Z Z'->W T (aV T) (ma Z h) Y H Q E->ta Z' H Q)(rb:∀Y Z Z' h H Q,'3'->cU T Y H Z Z'->W T (aV T) (mb Z h) Y H Q E->tb Z' H Q)
  (rc:∀Y Z Z' h H Q,'3'->cU T Y H Z Z'->W T (aV T) (mc Z h) Y H Q E->tc Z' H Q)(R:'3')(S:cU T Y H Z Z')
  (w:W T (aV T) (js g g' (ma Z) (mb Z) (mc Z) h) Y H Q E):Qj r r' ta tb tc Z' H Q:=by
 refine pM ra rb R S w λb x y x' y' m n _ R2 o i p w2=>?_;refine hg b m n x y x' y' _ R2 o i<|B9 w2 λa z F c j k l q w3=>?_;have e:W T (aV T) (match sZ z with
  |some aB=>((mc Z).bind λw=>g' y w) c
  |some aJ=>F3.ok (.bl aJ) c
  |none=>.D0) a j Q E:=w3
 cases z with
 |bl d=>
  cases q;refine⟨d,rfl,?_⟩;cases d with
  |true=>exact rc a Z Z' c j _ l (p.ext k)<|B9 e λf u s t v A B C D=>hg' f t v y u y' s Q B ((i.ext k).ext A) C D|false=>exact C0 e l<|.bl _
 |_=>exact e.elim
def aHq{op:rD}{g:AV->AV->M AV}(ho:eA X T E (dM op) g)(ho':eA X T E (dM op') g')(ha:QE X T E a ma)(hb:QE X T E b mb)(hc:QE X T E c mc)
  (hm:Hq [op,op'] [b,c]=aJ):QE X T E (.Compare a [op,op'] [b,c] pos) (λZ=>js g g' (ma Z) (mb Z) (mc Z)):=by
 obtain⟨r,hr,f⟩:=ho;obtain⟨m,d,e⟩:=ho';obtain⟨ta,pa,i⟩:=ha;obtain⟨tb,j,k⟩:=hb;obtain⟨n,pc,rc⟩:=hc;exact⟨_,aDx hr d pa j pc hm,λo Z l h H Q R S w=>Yp f e i k rc R S w⟩
def aMm(ha:QE X T E a ma)(he:Dt a=aB):QT X T E a (λZ=>(ma Z).bind dJ):=by
 obtain⟨ta,pa,f⟩:=ha;refine⟨λZ H Q=>ta Z H λx g=>∃k,x = .bl k/\Q k g,λap s Z H Q I h=>isTrue_plain (bG (pa ap s Z H _ I h) λv s1 ⟨x,H1,i,j,k,e,b⟩=>?_) (aFr he _),λl Z c h H Q R S w=>f l Z c h H _ R S (B9 w λm x o p H1 q n b w1=>?_)⟩
 .subst e;obtain rfl:v=sW k:=j;exact uR ⟨H1,i,b⟩
 unfold dJ at w1;cases e:Fb x with
 |none=>rw[e]at w1;cases w1|some d=>rw[e]at w1;exact⟨d,LP b e,w1.here n rfl⟩
def Yh{z:AV}{z':V}{Q:Bool->Hp->Prop}(R:'3')(r:aV T Y H z z')(w:W T RB (match sZ z with
  |some d=>F3.ok d h
  |none=>.D0) Y H Q E):∃k,z' = .bl k/\Q k H:=by
 cases z with
 |bl d=>cases r;exact⟨d,rfl,C0 w R rfl⟩|_=>exact w.elim
def Bn(z:AV):M Bool:=λh=>match sZ z with
 |some d=>.ok d h
 |none=>.D0
def aMk{op:rD}{g:AV->AV->M AV}(ho:eA X T E (dM op) g)(ha:QE X T E a ma)(hb:QE X T E b mb)(hm:zb op b=aJ):QT X T E (.Compare a [op] [b] pos) (λZ=>(vM g (ma Z)<|mb Z).bind Bn):=by obtain⟨r,hr,e⟩:=ho;obtain⟨ta,pa,f⟩:=ha;obtain⟨tb,i,j⟩:=hb;refine⟨_,aGx hr pa i hm,λl Z m h H Q R S w=>?_⟩;have n:W T (aV T) (vM g (ma Z) (mb Z) h) l H (λx o=>∃k,x = .bl k/\Q k o) E:=B9 w λp z B C H1 D q c w1=>Yh q c w1;exact pM f j R S n λd x y s t u v _ R2 c A _ w2=>e d u v x y s t _ R2 c A w2
def aMj{op:rD}{g:AV->AV->M AV}(ho:eA X T E (dM op) g)(ho':eA X T E (dM op') g')(ha:QE X T E a ma)(hb:QE X T E b mb)(hc:QE X T E c mc)
  (hm:Hq [op,op'] [b,c]=aJ):QT X T E (.Compare a [op,op'] [b,c] pos) (λZ=>(js g g' (ma Z) (mb Z)<|mc Z).bind Bn):=by
 obtain⟨r,hr,f⟩:=ho;obtain⟨u,d,e⟩:=ho';obtain⟨ta,pa,i⟩:=ha;obtain⟨tb,j,l⟩:=hb;obtain⟨v,pc,rc⟩:=hc;refine⟨_,aGw hr d pa j pc hm,λm Z n h H Q R S w=>?_⟩;have o:W T (aV T) (js g g' (ma Z) (mb Z) (mc Z) h) m H (λx p=>∃k,x = .bl k/\Q k p) E:=B9 w λq z y A H1 B s t w1=>Yh s t w1;exact Yp f e i l rc R S o
def aMl(ha:QT X T E a mt):QT X T E (.UnaryOp .Not a pos) (λZ=>(mt Z).bind λb=>B8 (!b)):=by obtain⟨ta,pa,e⟩:=ha;refine⟨_,aGy pa,λf Z c h H Q R S w=>e f Z c h H _ R S (B9 w λg x i l H1 m j k w1=>?_)⟩;have d:=k;subst d;exact C0 w1 j rfl
def aMo(ha:QT X T E a mt):QW X T E (.BoolOp .And [a] pos) mt:=let ⟨t,p,r⟩:=ha;⟨t,aHd p,r⟩
def aMq(ha:QT X T E a mt):QW X T E (.BoolOp .Or [a] pos) mt:=let ⟨t,p,r⟩:=ha;⟨t,aHg p,r⟩
def aMn(ha:QT X T E a mt)(hb:QW X T E (.BoolOp .And (b::rest) pos) mu):QW X T E (.BoolOp .And (a::b::rest) pos) (λZ=>Wx (mt Z) (mu Z)):=by
 obtain⟨ta,pa,g⟩:=ha;obtain⟨tb,i,j⟩:=hb;refine⟨_,aHc pa i,λk Z c h H Q R S w=>g k Z c h H _ R S (B9 w λd x l m H1 n f o w1=>?_)⟩;have e:=o;subst e;cases x with
 |true=>exact j d Z c m H1 Q f (S.ext n) w1|false=>exact C0 w1 f rfl
def aMp(ha:QT X T E a mt)(hb:QW X T E (.BoolOp .Or (b::rest) pos) mu):QW X T E (.BoolOp .Or (a::b::rest) pos) (λZ=>GG (mt Z) (mu Z)):=by
 obtain⟨ta,pa,g⟩:=ha;obtain⟨tb,i,j⟩:=hb;refine⟨_,aHf pa i,λk Z c h H Q R S w=>g k Z c h H _ R S (B9 w λd x l m H1 n f o w1=>?_)⟩;have e:=o;subst e;cases x with
 |true=>exact C0 w1 f rfl|false=>exact j d Z c m H1 Q f (S.ext n) w1
def aHi:QA X T E [] (λ_=>B8 []):=⟨_,fq,λY _ _ h H Q R _ w=>C0 w R .nil⟩
def aHh(ha:QE X T E e m)(hr:QA X T E es mr)(hs:cF e=aB):QA X T E (e::es) (λZ=>Jc (m Z) (mr Z)):=by obtain⟨ta,pa,c⟩:=ha;obtain⟨tr,pr,d⟩:=hr;exact⟨_,yO pa pr (gE hs),λf Z a h H Q R S w=>c f Z a h H _ R S (B9 w λb x q g H1 i j k w1=>d b Z a g H1 _ j (S.ext i) (B9 w1 λl xs n r s o R2 p w2=>C0 w2 R2 (.cons (k.ext o) p)))⟩
def aGa{p:Addr}(hp:H p=aD):E2 Y H (Y++[p]) (D4 H p O):=⟨λk z e=>by rw[sS ((dk.1 e).1)];exact e,(E2.lX (Y:=Y) hp).tup,(E2.lX (Y:=Y) hp).dI⟩
def yN{p:Addr}(R:'3')(r:bF T Y H xs gH)(hp:H p=aD)(w:W T (aV T) (kQ xs h) Y H Q E):Q (.ref p) (D4 H p<|.l gH):=by obtain⟨a,ex⟩:=R.alloc (o:=.l aB xs) hp ⟨_,gG,r.ext (aGa hp)⟩;exact W.ok w ex a<|.ref (by rw[<- R.len];simp)
def Dh{p:Addr}(R:'3')(r:bF T Y H xs gH)(hp:H p=aD)(w:W T (aV T) (.ok (.tup xs) h) Y H Q E):Q (.ref p) (D4 H p<|.tup gH):=
 W.ok w (.lX hp) (R.D7 hp) (.tup (.of gG)<|r.ext<|.lX hp)
def aIr{k:Nat}(h:QA X T E es mr):QE X T E (.Tuple es k pos) (λZ=>Qt (mr Z)):=by obtain⟨tr,pr,c⟩:=h;refine⟨_,aEt pr,λd Z a h H Q R S w=>c d Z a h H _ R S (B9 w λe xs f l H1 m g b w1=>?_)⟩;obtain⟨i,w1⟩:=ki w1;exact⟨b.length▸i,λp j=>Dh g b j w1⟩
def aIc(h:QA X T E es mr):QE X T E (.List es pos) (λZ=>tU (mr Z)):=by obtain⟨tr,pr,c⟩:=h;refine⟨_,aEh pr,λd Z a h H Q R S w=>c d Z a h H _ R S (B9 w λe xs f k H1 l g b w1=>?_)⟩;obtain⟨i,w1⟩:=ki w1;exact⟨b.length▸i,λp j=>yN g b j w1⟩
def uF(T:D8)(g:'%'->M AV):Sp:=λvs H Q E=>∃Y h args,'3'/\bF T Y H args vs/\W T (aV T) (g args h) Y H Q E
inductive Fn(X:Cx)(T:D8)(E:XK)(x:Str)(g:AY->M AV):Prop
 |mk (k:Nat) (f:Addr) (fd:fA) (ps:AK) (_:iQ X.prog X.w X.K X.mg X.base (lD X.prog X.w) k f fd ps (uF T g)) (_:fM (k+1) X.A) (_:X.mg x=aA (.ref f)) (_:uO X.K (.ref f)=aB) (_:E5 X.K fd ps []) (_:sY (lD X.prog X.w) X E):Fn X T E x g
def aHn{x:Str}{g:'%'->M AV}(F:Fn X T E x g)(hg:Gl X x)(hd:'B'=aJ):QE X T E (.Call (.Name x p) [] [] pos) (λ_=>g []):=by obtain⟨k,f,fd,ps,F,hr,hm,a,hb,b⟩:=F;exact⟨_,aDv F (hr.D2<|iG _) hg hm a hb .nil b hd,λc e d h H Q R S w=>⟨c,h,[],R,.nil,w⟩⟩
def aHm{x:Str}{g:'%'->M AV}(F:Fn X T E x g)(hg:Gl X x)(ha:QA X T E (e::es) mr)(hs:(e::es).all cF=aB)(hd:'B'=aJ):QE X T E (.Call (.Name x p) (e::es) [] pos) (λZ=>(mr Z).bind g):=by obtain⟨k,f,fd,ps,F,hr,hm,c,hb,d⟩:=F;obtain⟨tr,pr,i⟩:=ha;rw[lZ,bY]at hs;refine⟨_,aDu F (hr.D2<|iG _) hg hm c hb .nil d pr hd (gE hs.1) (uE hs.2),λj Z a h H Q R S w=>i j Z a h H _ R S (B9 w λb xs l m H1 q n o w1=>?_)⟩;rw[nP];exact⟨b,m,xs,n,o,w1⟩
theorem bF.flat{Y:AI}{H:Hp}{xs:'%'}{ys:AJ}(r:bF T Y H xs ys):∀(k:Nat),bF T Y H (fB k xs).flatten (fB k ys).flatten
 |0=>.nil
 |k+1=>by exact r.append<|bF.flat r k
def aDi:eA X T E (fL .Mult) uy:=by
 obtain⟨r,p0,f⟩:=(tX aCh λ_ _ h=>aAu h:eA X T E (fL .Mult) (mY sD (·*·)));refine⟨_,p0.or aCp,λg h H x y s t Q R c d w=>?_⟩;cases x with
 |ref n=>
  refine .inr ?_;cases y with
  |int k=>
   cases d;cases c with
   |@ref _ a q=>
    simp only[uy]at w;cases o:h.ob n with
    |none=>simp only[o]at w;cases w|some u=>
     simp only[o]at w;cases u with
     |l m xs=>
      cases m with
      |false=>cases w|true=>
       dsimp only at w;by_cases b:0<=k/\B3 xs*k.toNat<=sizeLine/\k<2 ^ 63
       .rw[if_pos b]at w;obtain⟨i,j,e⟩:=R.obj n _ a o q;refine⟨a,k,i,rfl,rfl,j,by lia,b.2.2,by simp_all[e.length],λp l=>?_⟩;exact yN R (e.flat _) l w
       .rw[if_neg b]at w;cases w
     |_=>cases w
  |_=>cases w
 |_=>exact .inl<|f g h H _ _ _ _ Q R c d w
end
inductive E3 where
 |nx (Z:aF)|ret (v:AV)|brk (Z:aF)|cnt (Z:aF)
variable {body ms:aF->M E3}
inductive jV where
 |nx (Z:L2.St)|ret (v:V)|brk (Z:L2.St)|cnt (Z:L2.St)
def RO(T:D8):Rl E3 jV:=λY H a b=>match a,b with
 |.nx Z,.nx Z'=>cU T Y H Z Z'
 |.ret v,.ret v'=>aV T Y H v v'
 |.brk Z,.brk Z'=>cU T Y H Z Z'
 |.cnt Z,.cnt Z'=>cU T Y H Z Z'
 |_,_=>False
def pL(D:Ends):jV->Hp->Prop
 |.nx Z=>D.nx Z
 |.ret v=>D.rt v
 |.brk Z=>D.bk Z
 |.cnt Z=>D.ct Z
def QS(X:Cx)(T:D8)(E:XK)(st:Stmt)(m:aF->M E3):Prop:=
 ∃t,PS X st t/\∀Y Z Z' h H D,'3'->cU T Y H Z Z'->W T (RO T) (m Z h) Y H (pL D) E->t D Z' H
def xK(X:Cx)(T:D8)(E:XK)(st:AN)(m:aF->M E3):Prop:=
 ∃t,sX X st t/\∀Y Z Z' h H D,'3'->cU T Y H Z Z'->W T (RO T) (m Z h) Y H (pL D) E->t D Z' H
def QG(X:Cx)(T:D8)(E:XK)(tg:aI)(g:AV->aF->M aF):Prop:=
 ∃t,PG X tg t/\∀Y v v' Z Z' h H Q,'3'->cU T Y H Z Z'->aV T Y H v v'->W T (cU T) (g v Z h) Y H Q E->t v' Z' H Q
def jh(X:Cx)(T:D8)(E:XK)(xp:List aI)(g:'%'->aF->M aF):Prop:=
 ∃t,sh X xp t/\∀Y vs vs' Z Z' h H Q,'3'->cU T Y H Z Z'->bF T Y H vs vs'->W T (cU T) (g vs Z h) Y H Q E->t vs' Z' H Q
def JX(m:M E3)(k:aF->M E3):M E3:=m.bind λo=>match o with
 |.nx Z=>k Z
 |.ret v=>B8 (.ret v)
 |.brk Z=>B8 (.brk Z)
 |.cnt Z=>B8 (.cnt Z)
section
variable {a b c tg:aI}{mt:aF->M Bool}{mk:aF->M E3}{st:Stmt}{rest:AN}{g:AV->aF->M aF}{gs:AY->aF->M aF}
def kW:QS X T E st (λ_=>C5):=⟨_,aGm,λ_ _ _ _ _ _ _ _ w=>w⟩
def aMi:xK X T E [] (λZ=>B8 (.nx Z)):=⟨_,aGv,λc Z a h H D R S w=>C0 (b:=jV.nx a) w R S⟩
def aMh(h1:QS X T E st ms)(h2:xK X T E rest mk):xK X T E (st::rest) (λZ=>JX (ms Z) mk):=by
 obtain⟨t,p,r⟩:=h1;obtain⟨u,q,s⟩:=h2;refine⟨_,aGu p q,λi Z f h H D R S w=>r i Z f h H _ R S (B9 w λg o d h1 H1 k e b w1=>?_)⟩;cases o with
 |nx c=>cases d with
  |nx a=>exact s g c a h1 H1 D e b w1|_=>exact b.elim
 |ret v=>cases d with
  |ret j=>exact(C0 (Q:=pL D) w1 e b:D.rt j H1)|_=>exact b.elim
 |brk c=>cases d with
  |brk a=>exact(C0 (Q:=pL D) w1 e b:D.bk a H1)|_=>exact b.elim
 |cnt c=>cases d with
  |cnt a=>exact(C0 (Q:=pL D) w1 e b:D.ct a H1)|_=>exact b.elim
def aMc:QS X T E (.Pass pos) (λZ=>B8 (.nx Z)):=⟨_,aGo,λc Z a h H D R S w=>C0 (b:=jV.nx a) w R S⟩
def aLu:QS X T E (.Break pos) (λZ=>B8 (.brk Z)):=⟨_,aGf,λc Z a h H D R S w=>C0 (b:=jV.brk a) w R S⟩
def aLv:QS X T E (.Continue pos) (λZ=>B8 (.cnt Z)):=⟨_,aGg,λc Z a h H D R S w=>C0 (b:=jV.cnt a) w R S⟩
def aLw(he:QE X T E e m)(hs:cF e=aB)(hlc:vI e=aJ):QS X T E (.Expr e pos) (λZ=>(m Z).bind λ_=>B8 (.nx Z)):=by obtain⟨t,p,r⟩:=he;exact⟨_,aGh p (KB hs hlc),λc Z a h H D R S w=>r c Z a h H _ R S (B9 w λd x i j H1 f g k w1=>C0 (b:=jV.nx a) w1 g (S.ext f))⟩
def aMd(he:QE X T E e m):QS X T E (.Return (aA e) pos) (λZ=>(m Z).bind λv=>B8 (.ret v)):=by obtain⟨t,p,r⟩:=he;exact⟨_,aGp p,λc Z a h H D R S w=>r c Z a h H _ R S (B9 w λd x f j H1 k g i w1=>C0 (b:=jV.ret f) w1 g i)⟩
def aMe:QS X T E (.Return aD pos) (λ_=>B8 (.ret .aG)):=⟨_,aGq,λc d a h H D R S w=>C0 (b:=jV.ret .aG) w R .aG⟩
def aMa(hc:QT X T E c mt)(ha:xK X T E sts ms)(hb:xK X T E rest mk):QS X T E (.If c sts rest pos) (λZ=>Ch (mt Z) (ms Z) (mk Z)):=by
 obtain⟨p,pc,rc⟩:=hc;obtain⟨ta,pa,j⟩:=ha;obtain⟨tb,k,l⟩:=hb;refine⟨_,aGl pc pa k,λm Z a h H D R S w=>rc m Z a h H _ R S (B9 w λb d n f H1 g i o w1=>?_)⟩;have e:=o;subst e;cases d with
 |true=>exact j b Z a f H1 D i (S.ext g) w1|false=>exact l b Z a f H1 D i (S.ext g) w1
def mv:QG X T E tg (λ_ _=>C5):=⟨λ_ _ _ _=>False,λ_ _ _ _ _ _ _ _ _ h=>h.elim,λ_ _ _ _ _ _ _ _ _ _ _ w=>w⟩
def IA{i:Nat}{x:Str}(hN:X.N.Nodup)(hi:X.N[i]?=aA x)(hx:aq X.env.scope x)(hf:X.fn x=aB\/X.env.scope.names.lookup x=aA .local):QG X T E (.Name x pos) (λv Z=>B8 (Z.set i<|aA v)):=
 ⟨_,aEw hN hi hx hf,λb v c Z a h H Q R S r w=>C0 w R (S.set r i)⟩
def Kz(vs:'%')(Z:aF):M aF:=match vs with
 |[]=>B8 Z
 |_=>C5
def Ky(g:AV->aF->M aF)(gs:'%'->aF->M aF)(vs:'%')(σ:aF):M aF:=match vs with
 |v::r=>(g v σ).bind λσ1=>gs r σ1
 |[]=>C5
def ID:jh X T E [] Kz:=⟨_,aFa,λc d a e b h H Q R S r w=>by
 cases r with
 |nil=>exact⟨rfl,C0 w R S⟩|cons _ _=>exact w.elim⟩
def sO:aI->Bool
 |.Name ..=>aB | .Tuple ..=>aB | .Subscript ..=>aB | .Attribute ..=>aB
 |_=>aJ
def Qn{t:aI}(h:sO t=aB):zW (t::ts) env=(aJ,rg t env)::zW ts env:=by cases t<;>first|rfl|exact ff h
def IC(h1:QG X T E tg g)(h2:jh X T E es gs)(ht:sO tg=aB):jh X T E (tg::es) (Ky g gs):=by
 obtain⟨t,p,r⟩:=h1;obtain⟨u,q,s⟩:=h2;refine⟨_,aEz p q (by rw[Qn ht];rfl),λe o f i b h H Q R S j w=>?_⟩;cases j with
 |nil=>cases w|cons k rs=>exact⟨_,_,rfl,r e _ _ i b h H _ R S k (B9 w λc d a h1 H1 l m n w1=>s c _ _ d a h1 H1 Q m n (rs.ext l) w1)⟩
def u5(h:ts.all sO=aB):B3 (zW ts env)=B3 ts/\(zW ts env).findIdx? (·.1)=aD:=by
 induction ts with
 |nil=>exact⟨rfl,rfl⟩|cons t ts a=>rw[lZ,bY]at h;rw[Qn h.1];obtain⟨c,b⟩:=a h.2;refine⟨by left,?_⟩;rw[List.findIdx?_cons,b];rfl
end
section
variable {a b c tg:aI}{mt:aF->M Bool}{mk:aF->M E3}{st:Stmt}{rest:AN}{g:AV->aF->M aF}{gs:AY->aF->M aF}
def N9(K:bN)(n:Nat)(t:az):TG:=λv Z H Q=>∃a xs,v = .ref a/\fU K H a xs/\B3 xs=n/\t xs Z H Q
def aEx{k:Nat}{t:az}(hc:X.calm=aB)(h:sh X es t)(hs:es.all sO=aB):PG X (.Tuple es k pos) (N9 X.K (B3 es) t):=by obtain⟨hn,c⟩:=u5 hs;intro ap s d H v u Q I r hw;obtain⟨a,xs,f,g,hl,hw⟩:=hw;subst f;cases r;obtain⟨i,j,ht,m⟩:=I.tuple g;refine assign_Tuple_tuple (I.ok.hd hc) ht (by simp[hn,<- hl,j.length]) c λn l=>?_;exact h ap _ d H xs _ Q (I.E6 λb o e=>l b o (bZ<|dG e) e) (by left) hw
def xr:AV->Option '%'
 |.tup xs=>aA xs
 |_=>aD
def yD(n:Nat)(gs:'%'->aF->M aF)(v:AV)(Z:aF):M aF:=λh=>match xr v with
 |some xs=>if B3 xs=n then gs xs Z h else .D0
 |none=>.D0
def IB(hK:X.K=T.K)(hc:X.calm=aB){k:Nat}(h:jh X T E es gs)(hs:es.all sO=aB):QG X T E (.Tuple es k pos) (yD (B3 es) gs):=by
 obtain⟨t,p,r⟩:=h;refine⟨_,aEx hc p hs,λd v g e b h H Q R S f w=>?_⟩;cases f with
 |@tup a xs c i hr=>
  by_cases hl:B3 xs=B3 es
  .simp only[yD,xr,if_pos hl]at w;exact⟨a,c,rfl,by left,by simp_all[hr.length],r d xs c e b h H Q R S hr w⟩
  .simp only[yD,xr,if_neg hl]at w;exact w.elim
 |_=>exact w.elim
def rV(o i v:AV):M Unit:=λh=>match o,i with
 |.ref n,.int k=>match h.ob n with
  |some (.l aB xs)=>match iS (B3 xs) k with
   |some j=>.ok () (h.C9 n<|.l aB<|xs.set j v)
   |none=>.D0
  |_=>.D0
 |_,_=>.D0
def pB(o i v:AV):M Unit:=λh=>match fO h o with
 |some kvs=>match o,fV i with
  |.ref n,aA k=>if B3 kvs<sizeLine then .ok () (h.C9 n<|.aP<|gM kvs k v) else .D0
  |_,_=>.D0
 |none=>rV o i v h
def aIu(ha:QE X T E a ma)(hb:QE X T E b mb)(hs:cF b=aB):QG X T E (.Subscript a b pos) (λv Z=>(ma Z).bind λo=>(mb Z).bind λi=>(pB o i v).bind λ_=>B8 Z):=by
 obtain⟨ta,pa,L⟩:=ha;obtain⟨tb,N,O⟩:=hb;refine⟨_,aEy pa N aOk (by intro v;cases b<;>first|rfl|exact ff hs),λDM v D Z P h H Q R S U w=>?_⟩;refine pM L O R S w λc x y x' y' f l V R2 F G I w2=>?_;have m:=U.ext V;cases d:fO f x with
 |some A=>
  refine .inr ?_;obtain⟨n,a,us,rfl,q,o,rfl,g,r⟩:=tE R2 F d;cases k:fV y with
  |none=>simp only[C6,pB,d,k]at w2;cases w2|some Y=>
   by_cases B:B3 A<sizeLine
   .simp only[C6,pB,d,k,if_pos B]at w2;have ex:E2 c l c (D4 l a<|.dK<|F2 us Y D):=⟨λ_ _ z=>z,λb xs z=>by
     rw[cB (sF z g nofun)];exact z,λb x u z=>by
     rw[cB (sF z g nofun)];exact z⟩
    obtain⟨C,s⟩:=R2.write o rfl rfl q g (nofun) (λ_ _ z=>by cases z) (ua gG<|(Pn r m).ext ex);refine⟨a,_,rfl,?_,W.ok w2 s C (I.ext s)⟩;rw[tQ G k];exact rq.k g (by rw[<- Ei r];exact B)
   .simp only[C6,pB,d,k,if_neg B]at w2;cases w2
 |none=>
 refine .inl ?_;have w2:W T (cU T) (((rV x y v).bind λ_=>B8 Z) f) c l Q E:=by
  have e:(pB x y v) f=rV x y v f:=by simp only[pB,d]
  simp only[C6,e]at w2 ⊢;exact w2
 cases x with
 |ref n=>
  cases y with
  |int k=>
   cases G;cases F with
   |@ref _ p q=>
    cases o:f.ob n with
    |none=>simp only[C6,rV,o]at w2;cases w2|some u=>
     cases u with
     |l mu xs=>
      cases mu with
      |true=>
       obtain⟨J,g1,K⟩:=R2.obj n _ p o q;cases j:iS (B3 xs) k with
       |none=>simp only[C6,rV,o,j]at w2;cases w2|some t=>
        simp only[C6,rV,o,j]at w2;obtain⟨C,s⟩:=R2.write (o':=.l aB (xs.set t v)) o rfl rfl q g1 (nofun) (λ_ _ z=>by cases z) ⟨_,gG,by
         have:E2 c l c (D4 l p<|.l<|J.set t D):=⟨λ_ _ z=>z,λb xs z=>by
          rw[cB (sF z g1 nofun)];exact z,λb x u z=>by
          rw[cB (sF z g1 nofun)];exact z⟩
         exact(bF.set m t K).ext this⟩
        exact⟨p,J,k,t,rfl,rfl,g1,by grind [K.length],W.ok w2 s C (I.ext s)⟩
      |false=>simp only[C6,rV,o]at w2;cases w2
     |aP _=>simp only[C6,rV,o]at w2;cases w2|dX _=>simp only[C6,rV,o]at w2;cases w2|ins _ _=>simp only[C6,rV,o]at w2;cases w2
  |_=>cases w2
 |_=>cases w2
def swE(ts:List aI)(e:aI)(sc:gI):Sem (Option<|AK):=rl ts e { (default:Env)with scope:=sc }
def Qi{α:Type}:Sem α->Option α
 |.pure x=>aA x
 |_=>aD
def KS{α:Type}{s:Sem α}{x:α}(h:Qi s=aA x):s=pure x:=by
 cases s with
 |pure a=>cases h;rfl|_=>exact bU h
def aLs(he:QE X T E e m)(hg:QG X T E tg g)(hs:cF e=aB)(hlc:vI e=aJ)(ht:sO tg=aB)(hw:rl [tg] e X.env=pure aD):QS X T E (.Assign [tg] e pos) (λσ=>(m σ).bind λv=>(g v σ).bind λσ1=>B8 (.nx σ1)):=by obtain⟨z,p,r⟩:=he;obtain⟨t,q,s⟩:=hg;refine⟨_,aGd p q (KB hs hlc) hw (by rw[Qn ht];rfl),λf σ a h H D R S w=>r f σ a h H _ R S (B9 w λd x i j H1 k l n w1=>?_)⟩;exact s d x i σ a j H1 _ l (S.ext k) n<|B9 w1 λo u c A B C R2 y w2=>C0 (b:=jV.nx c) w2 R2 y
abbrev eM:=Nat->AH->Option (Option AV)
def RI(T:D8):Rl eM It:=λρ H it J=>∀ρ' h' H' i,E2 ρ H ρ' H'->bP T ρ' h' H' ->
 (it i h'=aA aD->J.stop i H')/\∀v,it i h'=aA (aA v)->J.go i H'/\∀x H2,J.yf i H' x H2->∃ρ2,E2 ρ' H' ρ2 H2/\bP T ρ2 h' H2/\aV T ρ2 H2 v x
def QI(X:Cx)(T:D8)(E:XK)(tg iter:aI)(mi:aF->M eM):Prop:=
 ∃wi,PI X tg iter wi/\∀Y Z Z' h H R,'3'->cU T Y H Z Z'->W T (RI T) (mi Z h) Y H R E->wi Z' H R
def kM(it:eM)(g:AV->aF->M aF)(body:aF->M E3):Nat->Nat->aF->M E3
 |0,_,_=>C5
 |f+1,i,σ=>λh=>match it i h with
  |none=>.D0
  |some aD=>.ok (.nx σ) h
  |some (aA v)=>((g v σ).bind λσ1=>(body σ1).bind λo=>match o with
   |.nx σ2=>kM it g body f (i+1) σ2
   |.cnt σ2=>kM it g body f (i+1) σ2
   |.brk σ2=>B8 (.nx σ2)
   |.ret v=>B8 (.ret v)) h
def Wa:∃n:Nat,n=1000000:=⟨_,rfl⟩
def FU:Nat:=Wa.choose
theorem eN:FU=1000000:=Wa.choose_spec
def aLz{iter:aI}{mi:aF->M eM}(hp:yv '1' X.A X.env X.xe)(hc:X.calm=aB)(hi:QI X T E tg iter mi)(hg:QG X T E tg g)(hb:xK X T E sts ms)(hs:cF iter=aB) :
  QS X T E (.For tg iter sts [] pos) (λZ=>(mi Z).bind λit=>kM it g ms FU 0 Z):=by
 obtain⟨wi,pi,ri⟩:=hi;obtain⟨t,q,s⟩:=hg;obtain⟨u,pb,rb⟩:=hb;refine⟨_,aGk hp hc pi q pb (λx=>Pu hs),λO B C h0 H0 D R0 Y w0=>ri O B C h0 H0 _ R0 Y (B9 w0 λr it J h1 H1 e1 R1 JL w1=>?_)⟩;refine⟨λi m j H=>∃A Z h,E2 r H1 A H/\bP T A h H/\cU T A H Z j/\W T (RO T) (kM it g ms m i Z h) A H (pL D) E,⟨FU,r,B,h1,.refl,R1,Y.ext e1,w1⟩,?_⟩;rintro i m j H ⟨A,Z,h,e,R,S,w⟩
 cases m with
 |zero=>cases w|succ f=>
  simp only[kM]at w;cases d:it i h with
  |none=>rw[d]at w;cases w|some o=>
   cases o with
   |none=>rw[d]at w;exact .inl ⟨(JL A h H i e R).1 d,C0 (b:=jV.nx j) w R S⟩
   |some v=>
    rw[d]at w;obtain⟨go,yl⟩:=(JL A h H i e R).2 v d;refine .inr ⟨go,λl n=>∃c F h2,E2 r H1 c n/\bP T c h2 n/\cU T c n F l/\W T (RO T) (kM it g ms f (i+1) F h2) c n (pL D) E,λl n z=>⟨f,cD f,z⟩,λx n y=>?_⟩;obtain⟨c,P,R2,rv⟩:=yl x n y;refine s c v x Z j h n _ R2 (S.ext P) rv<|B9 (w.ext P) λU V G h3 H3 e3 R3 S3 w3=>?_;refine rb U V G h3 H3 _ R3 S3<|B9 w3 λI o K h4 H4 e4 L p N=>?_;have eE:=((e.trans P).trans e3).trans e4;cases o with
    |nx k=>cases K with
     |nx a=>exact⟨I,k,h4,eE,L,p,N⟩|_=>cases p
    |cnt k=>cases K with
     |cnt a=>exact⟨I,k,h4,eE,L,p,N⟩|_=>cases p
    |brk k=>cases K with
     |brk a=>exact(C0 (b:=jV.nx a) N L p:D.nx a H4)|_=>cases p
    |ret v=>cases K with
     |ret v'=>exact(C0 (Q:=pL D) N L p:D.rt v' H4)|_=>cases p
def wJ(c:aF->M Bool)(body:aF->M E3):Nat->aF->M E3
 |0,_=>C5
 |f+1,σ=>(c σ).bind λb=>if b=aB then((body σ).bind λo=>match o with
  |.nx σ2=>wJ c body f σ2
  |.cnt σ2=>wJ c body f σ2
  |.brk σ2=>B8 (.nx σ2)
  |.ret v=>B8 (.ret v)) else B8 (.nx σ)
def aMg(hp:yv '1' X.A X.env X.xe)(hc:QT X T E c mt)(hb:xK X T E sts ms):QS X T E (.While c sts [] pos) (λZ=>wJ mt ms FU Z):=by
 obtain⟨KT,pc,rc⟩:=hc;obtain⟨u,L,M⟩:=hb;refine⟨_,aGt hp pc L,λx y C h0 H0 D N O w0=>?_⟩;refine⟨λm e H=>∃l Z h,bP T l h H/\cU T l H Z e/\W T (RO T) (wJ mt ms m Z h) l H (pL D) E,⟨FU,x,y,h0,N,O,w0⟩,?_⟩;rintro m e H ⟨l,Z,h,R,S,w⟩
 cases m with
 |zero=>cases w|succ f=>
  refine rc l Z e h H _ R S<|B9 w λA d P U H1 F G V w1=>?_;have B:=V;subst B;cases d with
  |false=>exact(C0 (b:=jV.nx e) w1 G (S.ext F):D.nx e H1)|true=>
   refine⟨λi q=>∃k n I,bP T k I q/\cU T k q n i/\W T (RO T) (wJ mt ms f n I) k q (pL D) E,λi q z=>⟨f,cD f,z⟩,?_⟩;refine M A Z e U H1 _ G (S.ext F)<|B9 w1 λp o r J K e4 s j t=>?_;cases o with
   |nx g=>cases r with
    |nx a=>exact⟨p,g,J,s,j,t⟩|_=>exact j.elim
   |cnt g=>cases r with
    |cnt a=>exact⟨p,g,J,s,j,t⟩|_=>exact j.elim
   |brk g=>cases r with
    |brk a=>exact(C0 (b:=jV.nx a) t s j:D.nx a K)|_=>exact j.elim
   |ret v=>cases r with
    |ret Y=>exact(C0 (Q:=pL D) t s j:D.rt Y K)|_=>exact j.elim
end
section
variable {E:Value->aK->Prop}
def aGz{t:Addr}{i:Nat}{x:Value}{Q:Value->aK->Prop}(hit:s.heap.IsTupleIter it t i)(ht:s.heap.IsTuple t items)(hx:items[i]?=aA x)
  (hQ:∀h',h'.IsTupleIter it t (i+1)->gr it s.heap h'->Q x { s with heap:=h' }):aT (aZ prog w) A (wM<|.ref it) Q E s:=by
 obtain⟨o,a,d,hd⟩:=id hit;obtain⟨ol,b,_,nl,c⟩:=ht;refine aR<|ja hit.typeIs zK<|jb zK hit.typeIs Fx ?_<|Fw _;show aT _ _ (xC (.ref it) 0>>=_) _ _ s;refine aR<|lC a hd rfl ?_;refine aR<|lC a hd rfl ?_;refine aR<|oT b c ?_;simp only[uL,hx];exact aR<|Ht a hd (by simp)<|cH ⟨x,rfl,cH (hQ _ (⟨_,yh _ a (QC<|Ha hd _),(QB ..).trans d,by rw[Ha hd];simp[ag]⟩) (Ga ..))⟩
def aHa{t:Addr}{i:Nat}{Q:Value->aK->Prop}(hh:A.handled=aD)(hit:s.heap.IsTupleIter it t i)(ht:s.heap.IsTuple t items)(hx:items[i]?=aD)
  (hE:∀h' e,Fz it s.heap h'->(∃o,h'.get? e=aA o/\o.cls = .type "StopIteration")->E (.ref e) { s with heap:=h' }):aT (aZ prog w) A (wM<|.ref it) Q E s:=by
 obtain⟨o,a,d,hd⟩:=id hit;obtain⟨ol,b,_,nl,c⟩:=ht;refine aR<|ja hit.typeIs zK<|jb zK hit.typeIs Fx ?_<|Fw _;show aT _ _ (xC (.ref it) 0>>=_) _ _ s;refine aR<|lC a hd rfl ?_;refine aR<|lC a hd rfl ?_;refine aR<|oT b c ?_;simp only[uL,hx];refine aR<|ro<|aR<|Ht a hd (by simp) ?_;refine aR ?_;refine aR<|uQ ?_ (by size_fits);refine aR<|Vv (by first|rfl|(rfl)) ?_;refine uQ ?_ (by size_fits);refine aR<|RZ ?_;first|rw[show A.in1.handled=aD from hh] | rw[hh]
 exact aR<|cH<|wpAny_throw<|hE _ _ (((Ga ..).extBut.push _).push _) ⟨_,gS _ rfl,rfl⟩
end
structure jH(prog:cC)(w:bV)(A:cM)(it l:Addr)(S:Nat->bK->Prop)(items:AR):Prop where
 D7:∀k h h',S k h->(∀b,b=it\/b=l->∀o,h.get? b=aA o->h'.get? b=aA o)->S k h'
 live:∀k h,S k h->∃o,h.get? it=aA o/\o.cls ≠ .type "zip"/\(∀v,o.data ≠ .cell v)
 item:∀k x (s:aK) (Q:Value->aK->Prop) (E:Value->aK->Prop),S k s.heap->items[k]?=aA x->(∀h',S (k+1) h'->gr it s.heap h'->Q x { s with heap:=h' })->aT (aZ prog w) A (wM<|.ref it) Q E s
 done:∀k (s:aK) (Q:Value->aK->Prop) (E:Value->aK->Prop),S k s.heap->items[k]?=aD->(∀h' e,Fz it s.heap h'->(∃o,h'.get? e=aA o/\o.cls = .type "StopIteration")->E (.ref e) { s with heap:=h' })->aT (aZ prog w) A (wM<|.ref it) Q E s
def jH.list(hh:A.handled=aD)(hne:l≠it)(items:AR):jH prog w A it l (λk h=>h.IsListIter it l k/\h.IsList l items) items where
 D7:=λk h d st f=>⟨st.1.at λo e=>f it (.inl rfl) o e,st.2.at λo e=>f l (.inr rfl) o e⟩
 live:=λk h st=>let ⟨o,g,i,hd⟩:=st.1;⟨o,g,by rw[i];decide,λv z=>by grind⟩
 item:=λk x s Q E st c j=>wpAny_nextOf_list_item st.1 st.2 c λd a b=>j d ⟨a,st.2.extBut b.extBut hne⟩ b
 done:=λk s Q E st c m=>SG hh st.1 st.2 c m
def jH.tuple(hh:A.handled=aD)(hne:l≠it)(items:AR):jH prog w A it l (λk h=>h.IsTupleIter it l k/\h.IsTuple l items) items where
 D7:=λk h d st f=>⟨st.1.at λo e=>f it (.inl rfl) o e,let ⟨o,e,r⟩:=st.2;⟨o,f l (.inr rfl) o e,r⟩⟩
 live:=λk h st=>let ⟨o,g,i,hd⟩:=st.1;⟨o,g,by rw[i];decide,λv z=>by grind⟩
 item:=λk x s Q E st c j=>aGz st.1 st.2 c λd a b=>j d ⟨a,let ⟨o,e,r⟩:=st.2;⟨o,b.extBut _ _ hne e,r⟩⟩ b
 done:=λk s Q E st c m=>aHa hh st.1 st.2 c m
section
variable {E:Value->aK->Prop}{TI TO:Addr}{xs ys:AR}{k:Nat}{a b x y:Value}
def pT(P:jH prog w A i1 l1 S1 xs){h:bK}{c:Addr}(st:S1 k h)(e:Fz c h h')(n1:i1≠c)(n2:l1≠c):S1 k h':=P.D7 k h h' st λb hb o q=>e b o (by rcases hb with rfl|rfl<;>assumption) q
def aWs{Q:Value->aK->Prop}(D:za z TI TO i1 i2 l1 l2)(P1:jH prog w A i1 l1 S1 xs)(P2:jH prog w A i2 l2 S2 ys)(hz:nO s.heap z TI TO .none)(hTI:jU s.heap TI (.ref i1) (.ref i2))(hTO:jU s.heap TO a b)
  (h1:S1 k s.heap) (h2:S2 k s.heap) (hx:xs[k]?=aA x) (hy:ys[k]?=aA y)
  (hQ:∀h',nO h' z TI TO (ag s.heap.objs.size)->jU h' TO x y->S1 (k+1) h'->S2 (k+1) h'->jU h' s.heap.objs.size x y ->
   (∀c o,c≠z->c≠TO->c≠i1->c≠i2->s.heap.get? c=aA o->h'.get? c=aA o)->Q (.ref s.heap.objs.size) { s with heap:=h' }) :
  aT (aZ prog w) A (Builtin.«zip.__next__» ⟨[.ref z],[]⟩) (λfin s'=>∃v,fin = .done (.ret v)/\Q v s') E s:=by
 show aT _ _ (xC (.ref z) 2>>=_) _ _ _;refine aR<|lC hz rfl (x:=.bool aJ) rfl ?_;refine aR<|lC hz rfl rfl<|aR<|oT hTI rfl ?_;refine aR ?_;refine aR<|lC hz rfl rfl<|cH ?_;refine aR<|ro<|aR<|lC hz rfl rfl<|aR<|rp hz (by simp) λha n sa=>?_;replace n:nO ha z TI TO .ellipsis:=n
 refine aR ?_;simp only[PL,PM,Sz,OO];refine aR<|aR<|Hs ?_;refine aR<|P1.item k x _ _ _ (pT P1 h1 sa.extBut D.i1z D.l1z) hx λhb F sb=>cH ?_;have tb:=sb.extBut _ _ D.TOi1 (sa.extBut _ _ D.TOz hTO);refine aR<|oT tb rfl<|aR<|Vy tb λf p sc=>?_;replace p:jU f TO x b:=p
 refine aR<|jd<|cH<|aR<|aR<|Hs ?_;refine aR<|P2.item k y _ _ _ (pT P2 (pT P2 (pT P2 h2 sa.extBut D.i2z D.l2z) sb.extBut D.i12.symm D.l2i1) sc.extBut D.TOi2.symm D.l2TO) hy λhd G sd=>cH ?_;have td:=sd.extBut _ _ D.TOi2 p;refine aR<|oT td rfl<|aR<|Vy td λhe i g=>?_;replace i:jU he TO x y:=i
 refine aR<|jd<|cH<|cH<|aR<|oT i rfl<|aR<|wpAny_newTuple ?_;have size:he.objs.size=s.heap.objs.size:=by rw[g.1,sd.1,sc.1,sb.1,sa.1]
 have u:=g.extBut _ _ D.TOz.symm (sd.extBut _ _ D.i2z.symm<|sc.extBut _ _ D.TOz.symm<|sb.extBut _ _ D.i1z.symm n);have E6:∀c o,c≠z->c≠TO->c≠i1->c≠i2->s.heap.get? c=aA o->he.get? c=aA o:=λc o d j q r e=>g.extBut _ _ j (sd.extBut _ _ r<|sc.extBut _ _ j<|sb.extBut _ _ q<|sa.extBut _ _ d e);have H:=pT P1 (pT P1 (pT P1 F sc.extBut D.TOi1.symm D.l1TO) sd.extBut D.i12 D.l1i2) g.extBut D.TOi1.symm D.l1TO;have re:=pT P2 G g.extBut D.TOi2.symm D.l2TO;have h:=dG u;refine aR ?_;have I:nO (he.push { cls:=.type "tuple",data:=.seq #[x,y] }) z TI TO .ellipsis:=cX _ u;refine aR<|rp I (by simp) λJ t B=>?_;replace t:nO J z TI TO (ag he.objs.size):=t
 refine rp t (by simp) λl m C=>?_;replace m:nO l z TI TO (ag he.objs.size):=m
 have up:∀c o,c≠z->he.get? c=aA o->l.get? c=aA o:=λc o d e=>C.extBut _ _ d (B.extBut _ _ d<|cX _ e);have C8:=C.extBut _ _ (oO h) (B.extBut _ _ (oO h)<|gS _ rfl);rw[size]at m C8;refine cH ⟨_,rfl,?_⟩;rw[size];exact hQ l m (up _ _ D.TOz i) (P1.D7 _ _ _ H λc f o e=>up c o (by rcases f with rfl|rfl;exact D.i1z;exact D.l1z) e) (P2.D7 _ _ _ re λc f o e=>up c o (by rcases f with rfl|rfl;exact D.i2z;exact D.l2z) e) C8
  λc o d j q r e=>up c o d (E6 c o d j q r e)
def aWt{Q:Fin->aK->Prop}(D:za z TI TO i1 i2 l1 l2)(P1:jH prog w A i1 l1 S1 xs)(P2:jH prog w A i2 l2 S2 ys)(hz:nO s.heap z TI TO .none)(hTI:jU s.heap TI (.ref i1) (.ref i2))(hTO:jU s.heap TO a b)
  (h1:S1 k s.heap) (h2:S2 k s.heap) (By:xs[k]?=aD\/ys[k]?=aD)
  (hE:∀h' e,(∀c o,c≠z->c≠TO->c≠i1->c≠i2->s.heap.get? c=aA o->h'.get? c=aA o)->(∃o,h'.get? e=aA o/\o.cls = .type "StopIteration")->E (.ref e) { s with heap:=h' }) :
  aT (aZ prog w) A (Builtin.«zip.__next__» ⟨[.ref z],[]⟩) Q E s:=by
 show aT _ _ (xC (.ref z) 2>>=_) _ _ _;refine aR<|lC hz rfl (x:=.bool aJ) rfl ?_;show aT _ _ (xC (.ref z) 3>>=_) _ _ _;refine aR<|lC hz rfl (x:=.ref TI) rfl<|aR<|oT hTI rfl ?_;show aT _ _ (NL (.ref z)>>=_) _ _ _;refine aR ?_;unfold NL;refine aR<|lC hz rfl (x:=.none) rfl<|cH ?_;simp only[if_true];refine aR<|ro<|aR<|lC hz rfl (x:=.ref TO) rfl<|aR<|rp hz (by simp) λha i sa=>?_;replace i:nO ha z TI TO .ellipsis:=i
 refine aR ?_;simp only[PL,PM,Sz,OO];refine aR<|aR<|Hs ?_;show aT _ _ (wM (.ref i1)>>=_) _ _ _;have g:=pT P1 h1 sa.extBut D.i1z D.l1z;cases m:xs[k]? with
 |none=>
  refine aR<|P1.done k _ _ _ g m λhb e sb he=>?_;obtain⟨j,d,f⟩:=he;have r:nO hb z TI TO .ellipsis:=sb _ _ D.i1z.symm i;have ne:e≠z:=λq=>by grind
  exact rp r (by simp) λn _ sc=>hE n e (λc o h _ l _ q=>sc.extBut _ _ h (sb _ _ l<|sa.extBut _ _ h q)) ⟨j,sc.extBut _ _ ne d,f⟩
 |some x=>
  have t:ys[k]?=aD:=by grind
  refine aR<|P1.item k x _ _ _ g m λhb C sb=>cH ?_;have tb:=sb.extBut _ _ D.TOi1 (sa.extBut _ _ D.TOz hTO);refine aR<|oT tb rfl<|aR<|Vy tb λn F sc=>?_;refine aR<|jd<|cH<|aR<|aR<|Hs ?_;show aT _ _ (wM (.ref i2)>>=_) _ _ _;refine aR<|P2.done k _ _ _ (pT P2 (pT P2 (pT P2 h2 sa.extBut D.i2z D.l2z) sb.extBut D.i12.symm D.l2i1) sc.extBut D.TOi2.symm D.l2TO) t λhd e sd he=>?_;obtain⟨j,d,f⟩:=he;have u:nO hd z TI TO .ellipsis:=sd _ _ D.i2z.symm (sc.extBut _ _ D.TOz.symm<|sb.extBut _ _ D.i1z.symm i);have ne:e≠z:=λq=>by grind
  exact rp u (by simp) λv _ p=>hE v e (λc o h y l B q=>p.extBut _ _ h (sd _ _ B<|sc.extBut _ _ y<|sb.extBut _ _ l<|sa.extBut _ _ h q)) ⟨j,p.extBut _ _ ne d,f⟩
end
def lN(kd:Bool)(h:bK)(it l:Addr)(k:Nat):Prop:=if kd=aB then h.IsListIter it l k else h.IsTupleIter it l k
def jF(kd:Bool)(h:bK)(l:Addr)(items:AR):Prop:=if kd=aB then h.IsList l items else h.IsTuple l items
def iJ(kd:Bool)(K:bN)(H:Hp)(a:Addr)(xs:AJ):Prop:=if kd=aB then eB K H a xs else fU K H a xs
def Ja(kd:Bool):String:=if kd=aB then "list_iterator" else "tuple_iterator"
theorem lN.at{kd:Bool}{h h':bK}{it l:Addr}{k:Nat}(st:lN kd h it l k)(f:∀o,h.get? it=aA o->h'.get? it=aA o):lN kd h' it l k:=by
 cases kd with
 |true=>exact Heap.IsListIter.at st f|false=>exact Heap.IsTupleIter.at st f
def lN.live{kd:Bool}{h:bK}{k:Nat}(st:lN kd h it l k):∃o,h.get? it=aA o/\∀v,o.data ≠ .cell v:=by
 cases kd with
 |true=>obtain⟨o,a,b,hd⟩:=(st);exact⟨o,a,λv z=>by left⟩|false=>obtain⟨o,a,b,hd⟩:=(st);exact⟨o,a,λv z=>by left⟩
theorem jH.kd{prog:cC}{w:bV}{A:cM}(hh:A.handled=aD)(kd:Bool){it l:Addr}(hne:l≠it)(items:AR):jH prog w A it l (λk h=>lN kd h it l k/\jF kd h l items) items:=by
 cases kd with
 |true=>exact jH.list hh hne items|false=>exact jH.tuple hh hne items
def DL(kd:Bool)(h:bK)(l:Addr):lN kd (h.push { cls:=.type (Ja kd),data:=.fields #[.ref l,.int 0 0] }) h.objs.size l 0:=by
 cases kd with
 |true=>exact⟨_,gS _ rfl,rfl,rfl⟩|false=>exact⟨_,gS _ rfl,rfl,rfl⟩
def DN{E:Value->aK->Prop}(kd:Bool){Q:Value->aK->Prop}(hl:jF kd s.heap l items)
  (hQ:Q (.ref s.heap.objs.size) { s with heap:=s.heap.push { cls:=.type (Ja kd),data:=.fields #[.ref l,.int 0 0] } }):aT (aZ prog w) A (zg<|.ref l) Q E s:=by
 cases kd with
 |true=>exact zj hl hQ|false=>exact zm hl hQ
theorem jF.push{kd:Bool}{h:bK}{l:Addr}{items:AR}(hl:jF kd h l items)(o:Obj):jF kd (h.push o) l items:=by
 cases kd with
 |true=>exact Heap.IsList.push hl o|false=>obtain⟨ob,e,r⟩:=(hl);exact⟨ob,cX _ e,r⟩
noncomputable abbrev zA(kd:Bool)(h:bK)(l:Addr):bK:=h.push { cls:=.type (Ja kd),data:=.fields #[.ref l,.int 0 0] }
noncomputable abbrev zB(cW dC:Bool)(h:bK)(l1 l2:Addr):bK:=zA dC (zA cW h l1) l2
noncomputable abbrev zC(cW dC:Bool)(h:bK)(l1 l2:Addr):bK:=(zB cW dC h l1 l2).push { cls:=.type "tuple",data:=.seq #[.ref h.objs.size,.ref (zA cW h l1).objs.size] }
noncomputable abbrev zD(cW dC:Bool)(h:bK)(l1 l2:Addr):bK:=(zC cW dC h l1 l2).push { cls:=.type "tuple",data:=.seq #[.none,.none] }
noncomputable abbrev zE(cW dC:Bool)(h:bK)(l1 l2:Addr):bK:=(zD cW dC h l1 l2).push { cls:=.type "zip",data:=.fields #[.none,.bool aJ,.bool aJ,.ref (zB cW dC h l1 l2).objs.size,.ref (zC cW dC h l1 l2).objs.size] }
def aWu(cW dC:Bool)(l1 l2:Addr)(xs ys:AR) :
  Meets (Builtin.«zip.__new__» ⟨[.type "zip",.ref l1,.ref l2],[]⟩) (λ_ R s=>jF cW s.heap l1 xs/\jF dC s.heap l2 ys/\R (.ok<|.ret<|.ref (zD cW dC s.heap l1 l2).objs.size) { s with heap:=zE cW dC s.heap l1 l2 }):=
 .of_wp λprog w A R s h=>by
  obtain⟨f,g,d,tk,os⟩:=s;obtain⟨a,b,h⟩:=h;have i:=sub_zip;have c:=a;have e:jF dC (Shared.heap ⟨zA cW f l1,g,d,tk,os⟩) l2 ys:=jF.push b _;wp_walk using DN cW c,DN dC e
  exact⟨_,rfl,h⟩
section
variable {E:Value->aK->Prop}
def d9(cW dC:Bool){xs ys:AR}{Q:Value->aK->Prop}(hl1:jF cW s.heap l1 xs)(hl2:jF dC s.heap l2 ys)
  (h:∀h',nO h' (s.heap.objs.size+4) (s.heap.objs.size+2) (s.heap.objs.size+3) .none->jU h' (s.heap.objs.size+2) (.ref s.heap.objs.size) (.ref 'C') ->
   jU h' (s.heap.objs.size+3) .none .none->lN cW h' s.heap.objs.size l1 0->lN dC h' 'C' l2 0 ->
   (∀c o,s.heap.get? c=aA o->h'.get? c=aA o)->Q (.ref<|s.heap.objs.size+4) { s with heap:=h' }):aT (aZ prog w) A (call (.type "zip") [.ref l1,.ref l2]) Q E s:=by
 refine RL F.called_zip (rfl) (F.typeCall_zip_2 _ _) (F.newCall_zip_2 _ _) (λobj=>F.args_object_init_3 obj _ _) F.entry_zip_new (aWu cW dC l1 l2 xs ys) ⟨hl1,hl2,?_⟩;have z1:(zA cW s.heap l1).objs.size=s.heap.objs.size+1:=uK ..;have z2:(zB cW dC s.heap l1 l2).objs.size=s.heap.objs.size+2:=by left
 have z3:(zC cW dC s.heap l1 l2).objs.size=s.heap.objs.size+3:=by rw[uK,z2]
 have z4:(zD cW dC s.heap l1 l2).objs.size=s.heap.objs.size+4:=by rw[uK,z3]
 have g5:(zE cW dC s.heap l1 l2).get? (zD cW dC s.heap l1 l2).objs.size=aA _:=gS _ rfl;have g4:(zE cW dC s.heap l1 l2).get? (zC cW dC s.heap l1 l2).objs.size=aA _:=cX _ (gS _ rfl);have g3:(zE cW dC s.heap l1 l2).get? (zB cW dC s.heap l1 l2).objs.size=aA _:=cX _ (cX _<|gS _ rfl);have up:∀c o,(zB cW dC s.heap l1 l2).get? c=aA o->(zE cW dC s.heap l1 l2).get? c=aA o:=λc o e=>cX _ (cX _<|cX _ e);have i2:=(DL dC (zA cW s.heap l1) l2).at λo e=>up _ o e;have i1:=(DL cW s.heap l1).at λo e=>up _ o (cX _ e);rw[z2,z3,z4]at g5;rw[z1,z2]at g3;rw[z3]at g4;rw[z1]at i2;rw[z4];exact⟨⟨_,g5,rfl⟩,h _ g5 g3 g4 i1 i2 λc o e=>up c o (cX _<|cX _ e)⟩
variable {TI TO:Addr}{xs ys:AR}{k:Nat}{a b x y:Value}
def aBb{Q:'8'->aK->Prop}(D:za z TI TO i1 i2 l1 l2)(P1:jH prog w A.in1 i1 l1 S1 xs)(P2:jH prog w A.in1 i2 l2 S2 ys)(hz:nO s.heap z TI TO .none)(hTI:jU s.heap TI (.ref i1) (.ref i2))(hTO:jU s.heap TO a b)
  (h1:S1 k s.heap) (h2:S2 k s.heap) (hx:xs[k]?=aA x) (hy:ys[k]?=aA y)
  (hQ:∀h',nO h' z TI TO (ag s.heap.objs.size)->jU h' TO x y->S1 (k+1) h'->S2 (k+1) h'->jU h' s.heap.objs.size x y ->
   (∀c o,c≠z->c≠TO->c≠i1->c≠i2->s.heap.get? c=aA o->h'.get? c=aA o)->Q (aA<|.ref s.heap.objs.size) { s with heap:=h' }):aT (aZ prog w) A (xE<|.ref z) Q E s:=by
 have d:s.TypeIs (.ref z) "zip":=⟨_,hz,rfl⟩;exact aR (RX (ja d Fy
  (jb Fy d NR (aWs D P1 P2 hz hTI hTO h1 h2 hx hy λh' a1 a2 e f g h=>cH (hQ h' a1 a2 e f g h))<|NQ _)))
def u6{Q:'8'->aK->Prop}(D:za z TI TO i1 i2 l1 l2)(P1:jH prog w A.in1 i1 l1 S1 xs)(P2:jH prog w A.in1 i2 l2 S2 ys)(hz:nO s.heap z TI TO .none)(hTI:jU s.heap TI (.ref i1) (.ref i2))(hTO:jU s.heap TO a b)
  (h1:S1 k s.heap) (h2:S2 k s.heap) (By:xs[k]?=aD\/ys[k]?=aD)
  (hQ:∀h',(∀c o,c≠z->c≠TO->c≠i1->c≠i2->s.heap.get? c=aA o->h'.get? c=aA o)->Q aD { s with heap:=h' }):aT (aZ prog w) A (xE<|.ref z) Q E s:=by
 have d:s.TypeIs (.ref z) "zip":=⟨_,hz,rfl⟩;refine aR (RX (ja d Fy
  (jb Fy d NR (aWt D P1 P2 hz hTI hTO h1 h2 By λh' e f he=>?_)<|NQ _)))
 obtain⟨o,g,h⟩:=he;exact aR<|wpAny_isInstance ⟨o,g,h⟩ isSubtype_stop<|cH<|hQ _ f
end
def jZ(n:Nat):eM:=λi h=>match h.ob n with
 |some (.l _ xs)=>aA xs[i]?
 |_=>aD
def pN(xs:'%'):eM:=λi _=>aA xs[i]?
def sM(lo:Int)(n:Nat):eM:=λi _=>aA (if i<n then aA (.int<|lo+i) else aD)
def nU(it:eM):eM:=λi h=>match it i h with
 |some (aA v)=>aA (aA<|.tup [.int i,v])
 |some aD=>aA aD
 |none=>aD
def U5:bA->Bool
 |.l _ _=>aB
 |_=>aJ
def tN(h:AH):AV->Option eM
 |.tup xs=>aA (pN xs)
 |.ref n=>(h.ob n).bind λo=>if U5 o=aB then aA (jZ n) else aD
 |_=>aD
def Lr(e:h.ob n=aA (.l b xs)):tN h (.ref n)=aA (jZ n):=by simp only[tN,e];rfl
def CB(v:AV):M eM:=λh=>oM (tN h v) λit=>.ok it h
noncomputable abbrev yC:=CB
def yV(j:Int):Bool:=decide (-(2 ^ 62)<=j)&&decide (j<2 ^ 62)
def Bq(xs:'%'):M eM:=λh=>match xs with
 |[.int j]=>if yV j=aB then .ok (sM 0 j.toNat) h else .D0
 |_=>.D0
def Kn(v:AV):M eM:=λh=>oM (tN h v) λit=>.ok (nU it) h
section
variable {a b c tg l:aI}{tl:TE}
def aNt{lo:Int}:RI T Y H (sM lo n) (zw lo n):=by
 intro a g h i e R;unfold sM;by_cases b:i<n
 .rw[if_pos b];refine⟨λz=>(by cases z),λv z=>⟨b,λx j c=>?_⟩⟩;cases z;obtain⟨d,f⟩:=c;subst d;subst f;exact⟨a,.refl,R,.int _⟩
 .rw[if_neg b];exact⟨λ_=>(by show n<=i;lia),λv z=>(by cases z)⟩
def FE{i:Nat}{o:A4}(e:jZ n i h=aA o):∃m xs,h.ob n=aA (.l m xs)/\xs[i]?=o:=by
 unfold jZ at e;cases ob:h.ob n with
 |none=>left|some u=>
  rw[ob]at e;cases u with
  |l m xs=>exact⟨m,xs,rfl,cR e⟩|_=>exact bU e
def Wl(kd:Bool)(K:bN)(a:Addr):It:=
 ⟨λi H=>∃xs x,iJ kd K H a xs/\xs[i]?=aA x,λi H x H'=>H'=H/\∀xs,iJ kd K H a xs->xs[i]?=aA x,λi H=>∃xs,iJ kd K H a xs/\B3 xs<=i⟩
def ao(T:D8)(Y:AI)(H:Hp)(kd:Bool)(a:Addr)(it:eM):Prop:=∀Y' h' H' i,E2 Y H Y' H'->bP T Y' h' H' ->
 (it i h'=aA aD->∃ys,iJ kd T.K H' a ys/\ys[i]?=aD)/\∀v,it i h'=aA (aA v)->∃ys v',iJ kd T.K H' a ys/\ys[i]?=aA v'/\aV T Y' H' v v'
inductive Src(T:D8)(Y:AI)(H:Hp)(x':V)(it:eM):Prop
 |mk (a:Addr) (kd:Bool) (_:x' = .ref a) (_:∃xs,iJ kd T.K H a xs) (_:ao T Y H kd a it):Src T Y H x' it
def CP{i:Nat}(r:bF T Y H xs ys)(e:xs[i]?=aD):ys[i]?=aD:=by rw[aXa]at e ⊢;rw[<- r.length];exact e
def Cg{it:eM}(R:'3')(r:aV T Y H x x')(e:tN h x=aA it):Src T Y H x' it:=by
 cases r with
 |@tup a xs b c hr=>cases e;exact⟨a,aJ,rfl,⟨b,c⟩,λd o p i ex f=>⟨λz=>⟨b,ex.xl c,CP hr (cR z)⟩,λv z=>let ⟨g,g1,g2⟩:=(hr.ext ex).get (cR z);⟨b,g,ex.xl c,g1,g2⟩⟩⟩
 |@ref n a q=>
  obtain⟨u,ob,e⟩:=f'.1 e;obtain⟨hl,e⟩:=n8.1 e;cases e;cases u with
  |l mu xs=>
   obtain⟨b,g1,t⟩:=yM R ob q;refine⟨a,aB,rfl,⟨b,g1⟩,λd o p i ex f=>⟨λz=>?_,λv z=>?_⟩⟩
   .obtain⟨m,j,ob',k⟩:=FE z;obtain⟨zs,g2,l⟩:=yM f ob' (ex.pre n a q);exact⟨zs,g2,CP l k⟩
   .obtain⟨m,j,ob',k⟩:=FE z;obtain⟨zs,g2,l⟩:=yM f ob' (ex.pre n a q);obtain⟨g,g3,s⟩:=l.get k;exact⟨zs,g,g2,g3,s⟩
  |_=>exact ff hl
 |_=>exact bU e
def aNu{kd:Bool}{a:Addr}{it:eM}(f:ao T Y H kd a it):RI T Y H it (Wl kd T.K a):=λb d g i e R=>by have f:=f b d g i e R;refine⟨λz=>(f.1 z).imp λc z=>⟨z.1,x8.1 z.2⟩,λv z=>?_⟩;obtain⟨c,h,s,n,j⟩:=f.2 v z;refine⟨⟨c,h,s,n⟩,λx m l=>?_⟩;obtain⟨rfl,k⟩:=l;cases(k c s).symm.trans n;exact⟨b,.refl,R,j⟩
def S6(K:bN)(tl:TE):TI:=λZ H R=>tl Z H λx H1=>∃a kd,x = .ref a/\(∃xs,iJ kd K H1 a xs)/\R (Wl kd K a) H1
def aFe(hl:PE X l tl):PI X tg l (S6 X.K tl):=by
 intro ap s i H R I h;refine bG (hl ap s i H _ I h) λv s1 j=>?_;obtain⟨x,H1,c,k,m⟩:=j;obtain⟨a,kd,e,⟨xs,f⟩,q⟩:=m;subst e;cases k;have g:∀b∈[s1.heap.objs.size],kJ X ap H1 b:=λb hb=>by rw[a'.1 hb];exact c.xZ (aW _)<|c.bB.fresh<|aW _
 cases kd with
 |true=>obtain⟨d,n,p,r⟩:=c.list f;exact zj p.isList ⟨s1.heap.objs.size,_,_,_,H1,rfl,c.E6 λb o e=>cX _ e,aSo a _,⟨_,gS _ rfl,rfl,rfl⟩,g,q⟩
 |false=>obtain⟨d,n,p,r⟩:=c.tuple f;exact zm (p) ⟨s1.heap.objs.size,_,_,_,H1,rfl,c.E6 λb o e=>cX _ e,aSr a _,⟨_,gS _ rfl,rfl,rfl⟩,g,q⟩
def fw:QI X T E tg e (λ_=>C5):=⟨λ_ _ _=>False,λ_ _ _ _ _ _ h=>h.elim,λ_ _ _ _ _ _ _ _ w=>w⟩
def IE(hK:X.K=T.K)(ha:QE X T E l m):QI X T E tg l (λZ=>(m Z).bind yC):=by obtain⟨tl,pl,d⟩:=ha;refine⟨_,aFe pl,λg Z b h H Q R S w=>d g Z b h H _ R S (B9 w λi x k n H1 o c j w1=>?_)⟩;obtain⟨it,e,w2⟩:=w1.oM;obtain⟨a,kd,ex,sq,f⟩:=Cg c j e;rw[hK];exact⟨a,kd,ex,sq,C0 w2 c (aNu f)⟩
def aOa(h:yV j=aB):-(2 ^ 62)<=j/\j<2 ^ 62:=by simp only[yV,bY,decide_eq_true_eq]at h;exact h
def aIx(hg:Gl X "range") (hm:X.mg "range"=aD) (ha:QA X T E [a] mr) (hs:cF a=aB):QI X T E tg (.Call (.Name "range" p) [a] [] pos) (λZ=>(mr Z).bind Bq):=by
 obtain⟨tr,pr,f⟩:=ha;refine⟨_,aFd hg hm pr (by rw[gE hs];rfl),λg Z b h H Q R S w=>f g Z b h H _ R S (B9 w λi xs k d H1 q l m w1=>?_)⟩;cases m with
 |nil=>cases w1|cons e rs=>
  cases rs with
  |nil=>
   cases e with
   |int j=>
    simp only[Bq]at w1;by_cases c:yV j=aB
    .rw[if_pos c]at w1;obtain⟨d,n⟩:=aOa c;exact⟨j,rfl,d,n,C0 w1 l aNt⟩
    .rw[if_neg c]at w1;cases w1
   |_=>exact w1.elim
  |cons r o=>cases e<;>exact w1.elim
def Hz(kd:Bool)(K:bN)(a:Addr):It:=
 ⟨λi H=>∃xs x,iJ kd K H a xs/\xs[i]?=aA x,λi H x H'=>∃T y,H T=aD/\x = .ref T/\H'=D4 H T (.tup [.int i,y])/\∀xs,iJ kd K H a xs->xs[i]?=aA y,λi H=>∃xs,iJ kd K H a xs/\B3 xs<=i⟩
def LU{Z:L2.St}{ch:AI}{Tt:Addr}{its:'2'}(I:'&')(hf:∀b∈ch,kJ X ap H b)
  (k:∀b o,b∉ch->s.heap.get? b=aA o->h'.get? b=aA o)(th:∀b∈ch,∃o,h'.get? b=aA o)(hT:s.heap.objs.size<=Tt)(ht:IsTup h' Tt its.toArray)(rv:D5 ys its)(hz:B3 ys<=sizeLine) :
  D3 X ap Z (D4 H Tt<|.tup ys) { s with heap:=h',toks:=tk }:=by
 have hn:=I.bB.fresh hT;have a:∀b u,H b=aA u->b∉ch:=λb u e hb=>by rw[(hf b hb).1]at e;exact bU e
 have d:=λhb=>(hf _ hb).2.1 rfl;refine I.step (λb hb=>⟨(hf b hb).2.2.2.1,(hf b hb).2.1,(hf b hb).2.2.2.2.1,(hf b hb).2.2.2.2.2⟩) (λb o _ _ hc e _=>k b o hc e) (λb o _ _ hc e _=>⟨o.slots,k b o hc e⟩)
  (λb o _ e n=>by rw[cB (bZ<|bE (dG e) hT)];exact n) (λb o hc e=>⟨o,k b o hc e⟩)
  (λb xs e=>by rw[cB (kB e hn)];exact e) (λb o u e=>by rw[cB (kB e hn)];exact e) (λm hm=>?_) (λb u e=>?_) I.bare
 .obtain⟨o,f,g,h,r⟩:=hm;exact⟨o,f,g,k _ o d h,r⟩
 .by_cases hb:b=Tt
  .subst hb;rw[gG]at e;cases e;exact⟨hz,its,rv,ht⟩
  .rw[cB hb]at e;refine(I.bB b u e).vY (λc v hc q=>k c v ?_ q) λc q=>by rw[cB (kB q hn)];exact q
   rcases hc with rfl|hc
   .exact a _ _ e
   .exact a _ _ hc
def LS{Z:L2.St}{ch:AI}(I:'&')(hf:∀b∈ch,kJ X ap H b)
  (k:∀b o,b∉ch->s.heap.get? b=aA o->h'.get? b=aA o):D3 X ap Z H { s with heap:=h',toks:=tk }:=by
 have a:∀b u,H b=aA u->b∉ch:=λb u e hb=>by rw[(hf b hb).1]at e;exact bU e
 have d:=λhb=>(hf _ hb).2.1 rfl;refine I.step (λb hb=>⟨(hf b hb).2.2.2.1,(hf b hb).2.1,(hf b hb).2.2.2.2.1,(hf b hb).2.2.2.2.2⟩) (λb o _ _ hc e _=>k b o hc e) (λb o _ _ hc e _=>⟨o.slots,k b o hc e⟩)
  (λb o _ e n=>n) (λb o hc e=>⟨o,k b o hc e⟩) (λb xs e=>e) (λb o u e=>e) (λm hm=>?_) (λb u e=>?_) I.bare
 .obtain⟨o,f,g,h,r⟩:=hm;exact⟨o,f,g,k _ o d h,r⟩
 .refine(I.bB b u e).vY (λc v hc q=>k c v ?_ q) λc q=>q;rcases hc with rfl|hc
  .exact a _ _ e
  .exact a _ _ hc
def vX{Z:L2.St}{kd:Bool}{l:Addr}{xs:AJ}(I:'&')(h:iJ kd X.K H l xs):∃its:'2',D5 xs its/\jF kd s.heap l its.toArray:=by
 cases kd with
 |true=>obtain⟨its,a,p,_⟩:=I.list h;exact⟨its,a,p.isList⟩|false=>obtain⟨its,a,p,_⟩:=I.tuple h;exact⟨its,a,p⟩
def Qc{Z:L2.St}{kd:Bool}{l:Addr}{xs:AJ}(I:'&')(h:iJ kd X.K H l xs)(h':iJ kd X.K H l ys):xs=ys:=by
 cases kd with
 |true=>exact I.ES h h'|false=>exact I.LR h h'
theorem jF.at{kd:Bool}{h h':bK}{l:Addr}{items:AR}(st:jF kd h l items)(f:∀o,h.get? l=aA o->h'.get? l=aA o):jF kd h' l items:=by
 cases kd with
 |true=>exact Heap.IsList.at st f|false=>obtain⟨o,a,r⟩:=(st);exact⟨o,f _ a,r⟩
def t4(hh:A.handled=aD)(kd:Bool)(it l:Addr)(hne:l≠it)(items:AR):Draws prog w A it [it,l] items.size (λi v=>items[i]?=aA v) (λi h=>lN kd h it l i/\jF kd h l items):=by
 cases kd with
 |true=>exact Draws.list hh it l hne items|false=>exact t6 hh it l hne items
def t5(hh:A.handled=aD)(kd:Bool)(it l:Addr)(items:AR)(n:Nat)(hn:items[n]?=aD):Draws prog w A it [it,l] n (λ_ _=>True) (λi h=>i=n/\lN kd h it l n/\jF kd h l items) where
 live:=λ_ _ st=>st.2.1.live.elim λo e=>⟨o,e.1⟩
 frame:=λ_ _ _ st a=>⟨st.1,st.2.1.at λo e=>a it (.head _) o e,st.2.2.at λo e=>a l (.tail _<|.head _) o e⟩
 item:=λi s Q E c st d=>absurd c (by left)
 done:=λs Q E st b=>by
  cases kd with
  |true=>exact SG hh st.2.1 st.2.2 hn b|false=>exact FQ hh st.2.1 st.2.2 hn b
def aSn{K:bN}{k:Nat}{tp:Pos}(kd:Bool)(a en it:Addr)(h1:en≠it)(h2:a≠en)(h3:a≠it) :
  F5 P w K (.Tuple elts k tp) (Hz kd K a) [en,it] en (λi h=>(∃old,IsEnum h en it i old)/\lN kd h it a i) where
 mem:=.head _
 obj:=λi h st b hb=>by
  obtain⟨⟨old,he⟩,g⟩:=st;rcases dT.1 hb with rfl|hb
  .simp_all
  .cases a'.1 hb;exact g.live
 D7:=λi h C st k=>⟨st.1.elim λold he=>⟨old,k en (.head _) _ he⟩,st.2.at λo e=>k it (.tail _<|.head _) o e⟩
 item:=by
  intro X D hw F G i ap s U H E I y st J;subst D hw F;obtain⟨xs,x,B,L⟩:=J;obtain⟨c,M,p⟩:=vX I B;obtain⟨u,hu,V⟩:=M.get L;have m:c.toArray[i]?=aA u:=by left
  have W:=WalksT.enumerateD (t4 (prog:=X.prog) (w:=X.w) (A:=Around.in1 _) (I.ok.hd G) kd it a h3 c.toArray) en h1 (by simp[h1,h2.symm]) (.head _);refine W.item i s _ _ (Array.getElem?_eq_some_iff.1 m).1 ⟨st.1,st.2,p⟩ λj vals C tk Y N n d Z=>?_;obtain⟨t,x',O,rfl⟩:=Y;cases m.symm.trans O;refine⟨.ref j,rfl,?_⟩;refine W.go elts k tp i j { s with heap:=C,toks:=tk } _ _ d λq R r=>?_;obtain⟨v,f,hl2⟩:=R;have l:IsTup q j #[.int i t,u]:=n.elim λo e=>⟨o,r _ _ (W.apart i j _ d) e.1,e.2⟩;have I2:D3 X ap U (D4 H j<|.tup [.int i,x]) { s with heap:=q,toks:=tk }:=LU I y (λb o hb e=>r b o hb (Z b o hb e)) (λb hb=>by
   rcases dT.1 hb with rfl|hb
   .exact v.elim λ_ he=>⟨_,he⟩
   .cases a'.1 hb;exact f.live.elim λo e=>⟨o,e.1⟩) N l (.cons ⟨t,rfl⟩<|.cons V .nil) (by show 2<=sizeLine;decide)
  refine⟨.ref j,_,I2,rfl,⟨j,x,I.bB.fresh N,rfl,rfl,λzs S=>by rw[Qc I S B];exact L⟩,⟨v,f⟩,λb hb=>?_⟩;have T:b<s.heap.objs.size:=by
   rcases dT.1 hb with rfl|hb
   .exact st.1.elim λ_ he=>dG he
   .cases a'.1 hb;exact st.2.live.elim λ_ e=>dG e.1
  rw[cB (bZ<|bE T N)];exact(y b hb).1
 done:=by intro X D hw F G i ap s U H E I y st J;subst D hw F;obtain⟨xs,B,L⟩:=J;obtain⟨c,M,p⟩:=vX I B;obtain⟨⟨old,he⟩,g⟩:=st;exact wpAny_pyNext_enum_endD (t5 (A:=Around.in1 _) (I.ok.hd G) kd it a c.toArray i (by simp_all[M.length])) he ⟨rfl,g,p⟩ λC eb=>⟨rfl,LS I y λb o hb e=>eb b o (λz=>hb (z ▸ .tail _ (.head _))) e⟩
 self:=λA i s Q E st h=>st.1.elim λ_ he=>SH he h
def S0(K:bN)(ta:TA):TI:=λZ H R=>ta Z H λvs H1=>∃kd a,vs=[.ref a]/\(∃xs,iJ kd K H1 a xs)/\R (Hz kd K a) H1
def ZU{E:Value->aK->Prop}{kd:Bool}{l:Addr}{Q:Value->aK->Prop}(v1:jF kd s.heap l items)
  (h:∀h',IsEnum h' 'C' s.heap.objs.size 0 .none->lN kd h' s.heap.objs.size l 0->h'.objs.size=s.heap.objs.size+2->(∀b o,s.heap.get? b=aA o->h'.get? b=aA o)->Q (.ref 'C') { s with heap:=h' }):aT (aZ prog w) A (call (.type "enumerate") [.ref l]) Q E s:=by
 cases kd with
 |true=>exact call_enumerate_list v1 h|false=>exact ZV v1 h
def jF.lt{kd:Bool}{h:bK}{l:Addr}(v:jF kd h l items):l<h.objs.size:=by
 cases kd with
 |true=>obtain⟨o,e,_⟩:=(v);exact dG e|false=>obtain⟨o,e,_⟩:=(v);exact dG e
def aFc{k:Nat}{tp:Pos}{ta:TA}(hg:Gl X "enumerate")(hm:X.mg "enumerate"=aD)(ha:PA X [a] ta)(hs:eS [a] X.env=[(aJ,eval a X.env)]):PI X (.Tuple elts k tp) (.Call (.Name "enumerate" p) [a] [] pos) (S0 X.K ta):=by
 intro ap s f H R I h;refine Call_<|fc I hg hm boot_enumerate<|Hd (bG (ha pos ap s f H _ I h) λus s1 ⟨t,H1,c,g,i⟩=>?_) hs rfl;obtain⟨kd,a,e,⟨xs,j⟩,q⟩:=i;subst e;cases g with
 |cons r l=>
  cases l;cases r;obtain⟨m,u,p⟩:=vX c j;refine ZU p λv he d n o=>SH he ?_;refine⟨s1.heap.objs.size+1,[s1.heap.objs.size+1,s1.heap.objs.size],_,_,H1,rfl,c.E6 o,aSn kd a _ _ (oO<|cD _) (bZ<|kH p.lt) (bZ p.lt),⟨⟨_,he⟩,d⟩,λb hb=>?_,q⟩;rcases dT.1 hb with rfl|hb
  .exact c.xZ (iG _)<|c.bB.fresh<|iG _
  .cases a'.1 hb;exact c.xZ (aW _)<|c.bB.fresh<|aW _
def aNs{kd:Bool}{a:Addr}{it:eM}(f:ao T Y H kd a it):RI T Y H (nU it) (Hz kd T.K a):=λb d g i e R=>by
 have f:=f b d g i e R;unfold nU;cases o:it i d with
 |none=>left|some u=>
  cases u with
  |none=>exact⟨λ_=>(f.1 o).imp λc z=>⟨z.1,x8.1 z.2⟩,nofun⟩|some v=>refine⟨nofun,λl z=>?_⟩;cases z;obtain⟨c,y,s,n,h⟩:=f.2 v o;refine⟨⟨c,y,s,n⟩,λx m j=>?_⟩;obtain⟨p,q,hn,rfl,rfl,k⟩:=j;cases(k c s).symm.trans n;exact⟨b,.lX hn,R.D7 hn,.tup (.of gG) (.cons (.int _)<|.cons (h.ext<|.lX hn) .nil)⟩
def aIw{k:Nat}{tp:Pos}(hK:X.K=T.K)(hg:Gl X "enumerate")(hm:X.mg "enumerate"=aD)(ha:QE X T E a m)(hs:cF a=aB) :
  QI X T E (.Tuple elts k tp) (.Call (.Name "enumerate" p) [a] [] pos) (λZ=>(m Z).bind Kn):=by
 obtain⟨ta,pa,d⟩:=ha;refine⟨_,aFc hg hm (yO pa fq<|gE hs) (by rw[gE hs];rfl),λg Z b h H Q R S w=>d g Z b h H _ R S (B9 w λi x l n H1 o c j w1=>?_)⟩;obtain⟨it,e,w2⟩:=w1.oM;obtain⟨a,kd,ex,sq,f⟩:=Cg c j e;rw[hK];exact⟨kd,a,by rw[ex],sq,C0 w2 c (aNs f)⟩
def eU(xs:'%')(lo hi:'+'):'%':=(xs.drop<|HT.cA (B3 xs) 0 lo).take (HT.cA (B3 xs) (B3 xs) hi-HT.cA (B3 xs) 0 lo)
def Zh(r:bF T Y H xs ys)(lo hi:'+'):bF T Y H (eU xs lo hi) (jw ys lo hi):=by unfold eU jw;rw[<- r.length];exact(r.drop _).take _
def rW(x:AV)(lo hi:'+'):M AV:=λh=>match x with
 |.ref n=>match h.ob n with
  |some (.l _ xs)=>kQ (eU xs lo hi) h
  |_=>.D0
 |.tup xs=>if HT.cA (B3 xs) 0 lo=0/\HT.cA (B3 xs) (B3 xs) hi=B3 xs then .D0 else .ok (.tup<|eU xs lo hi) h
 |_=>.D0
def SR:Rl '+' '+':=λ_ _ a b=>a=b
def QO(X:Cx)(T:D8)(E:XK)(o:Option aI)(m:aF->M '+'):Prop:=
 ∃t,PO X o t/\∀Y Z Z' h H Q,'3'->cU T Y H Z Z'->W T SR (m Z h) Y H Q E->t Z' H Q
def Kr(v:AV):M '+':=λh=>match v with
 |.int i=>.ok (aA i) h
 |_=>.D0
def aLr:QO X T E aD (λ_=>B8 aD):=⟨_,aFu,λb c a h H Q R S w=>C0 w R rfl⟩
def IM(ha:QE X T E a m):QO X T E (aA a) (λZ=>(m Z).bind Kr):=by
 obtain⟨ta,pa,c⟩:=ha;refine⟨_,aFv pa,λd Z b h H Q R S w=>c d Z b h H _ R S (B9 w λe x j k H1 l f g w1=>?_)⟩;cases x with
 |int i=>cases g;exact⟨i,rfl,C0 w1 f rfl⟩|_=>exact w1.elim
def aIo(hK:X.K=T.K){lo hi:Option aI}{ml mh:aF->M '+'}(ha:QE X T E a m)(hl:QO X T E lo ml)(hh:QO X T E hi mh) :
  QE X T E (.Subscript a (.Slice lo hi aD p2) pos) (λZ=>(m Z).bind λx=>(ml Z).bind λl=>(mh Z).bind λu=>rW x l u):=by
 obtain⟨ta,pa,r⟩:=ha;obtain⟨tl,pl,s⟩:=hl;obtain⟨th,t,v⟩:=hh;refine⟨_,aEr (aOv.or aOw) pa pl t,λy Z b h H Q R S w=>r y Z b h H _ R S (B9 w λd x x' z H1 j A q1 w1=>?_)⟩;refine s d Z b z H1 _ A (S.ext j)<|B9 w1 λe l l' h2 H2 k R2 q2 w2=>?_;refine v e Z b h2 H2 _ R2 ((S.ext j).ext k)<|B9 w2 λρ3 u u' h3 H3 e3 f q3 w3=>?_;cases(q2);cases(q3);have c:=(q1.ext k).ext e3;cases x with
 |ref n=>
  cases c with
  |@ref _ a q=>
   simp only[rW]at w3;cases o:h3.ob n with
   |none=>rw[o]at w3;cases w3|some ob=>
    rw[o]at w3;cases ob with
    |l mu xs=>obtain⟨g,g1,r1⟩:=yM f o q;exact .inl ⟨a,g,rfl,by grind,λp i=>yN f (Zh r1 l u) i w3⟩
    |aP _=>cases w3|dX _=>cases w3|ins _ _=>cases w3
 |tup xs=>
  cases c with
  |@tup a _ g hq hr=>
   simp only[rW]at w3;by_cases hw:HT.cA (B3 xs) 0 l=0/\HT.cA (B3 xs) (B3 xs) u=B3 xs
   .rw[if_pos hw]at w3;cases w3
   .rw[if_neg hw]at w3;refine .inr ⟨a,g,rfl,by grind,by simp_all[hr.length],λp i=>Dh f (Zh hr l u) i w3⟩
 |_=>cases w3
def ux(xs:'%'):M AV:=λh=>match xs with
 |[x]=>match fI h x with
  |some ys=>.ok (.int (B3 ys)) h
  |none=>.D0
 |_=>.D0
def CA(xs:'%'):M AV:=λh=>match xs with
 |[.int i]=>.ok (.int i) h
 |[.bl k]=>.ok (.int<|if k then 1 else 0) h
 |_=>.D0
def yJ:'%'->Option (Int×Int)
 |[.int i,.int j]=>aA (i,j)
 |_=>aD
def pI:'%'->A4
 |[x]=>aA x
 |_=>aD
def CG(xs:'%'):M AV:=λh=>match yJ xs with
 |some (i,j)=>.ok (.int<|if j<i then j else i) h
 |none=>.D0
def CF(xs:'%'):M AV:=λh=>match yJ xs with
 |some (i,j)=>.ok (.int<|if j > i then j else i) h
 |none=>.D0
def Bo(xs:'%'):M AV:=λh=>match yJ xs with
 |some (i,j)=>if pA j=aB then .ok (.tup [.int (i / j),.int (i%j)]) h else .D0
 |none=>.D0
def tO:aN->AV
 |.inl i=>.int i
 |.inr x=>.str x
def DQ(k:aN):aV T Y H (tO k) (kV k):=by
 cases k with
 |inl i=>exact .int i|inr x=>exact .str x
theorem DT{T:D8}{Y:AI}{H:Hp}{ys:AJ}:∀{kvs:List (aN×AV)},bF T Y H (kvs.map (·.2)) ys->bF T Y H (kvs.map λp=>tO p.1) (((kvs.map (·.1)).zip ys).map λp=>kV p.1)
 |[],.nil=>.nil
 |p::r,.cons h t=>.cons (DQ p.1) (DT t)
def Ji(h:AH):AV->Option '%'
 |.ref n=>match h.ob n with
  |some (.aP kvs)=>aA (kvs.map λp=>tO p.1)
  |_=>aD
 |_=>aD
def Bs(xs:'%'):M AV:=λh=>match (pI xs).bind (fI h) with
 |some ys=>.ok (.tup ys) h
 |none=>.D0
def dj(xs:'%'):M AV:=λh=>match (pI xs).bind (fI h) with
 |some ys=>kQ ys h
 |none=>match (pI xs).bind (Ji h) with
  |some ys=>kQ ys h
  |none=>.D0
def T5(h:yJ xs=aA (i,j)):xs=[.int i,.int j]:=by
 unfold yJ at h;split at h
 .grind
 .exact bU h
def GD(h:pI xs=aA x):xs=[x]:=by
 unfold pI at h;split at h
 .grind
 .exact bU h
def j0(hK:X.K=T.K):pR X T E (.builtin "len") ux:=by
 refine⟨_,ZY,λd h H xs a Q R r w=>?_⟩;cases r with
 |nil=>cases w|@cons x f _ _ b rs=>
  cases rs with
  |nil=>
   simp only[ux]at w;cases o:fI h x with
   |none=>rw[o]at w;cases w|some g=>rw[o]at w;obtain⟨p,zs,e,i,hr⟩:=xh R b o;refine⟨p,zs,by rw[e],by left,?_⟩;rw[<- hr.length];exact w.here R<|.int _
  |cons j c=>cases w
def i9:pR X T E (.type "int") CA:=by
 refine⟨_,ZW,λd h H xs b Q R r w=>?_⟩;cases r with
 |nil=>cases w|cons a rs=>
  cases rs with
  |nil=>
   cases a with
   |int i=>exact .inl ⟨i,rfl,C0 w R (.int _)⟩
   |bl k=>exact .inr ⟨k,rfl,C0 w R (.int _)⟩
   |_=>exact w.elim
  |cons e c=>cases a<;>exact w.elim
def Jd{f:Value}{k:Int->Int->M AV}{r:AJ->Hp->VK->Prop}(hr:kI X f r)
  (hw:∀Y h H i j Q,'3'->W T (aV T) (k i j h) Y H Q E->r [.int i,.int j] H Q):pR X T E f (λxs h=>match yJ xs with
   |some (i,j)=>k i j h
   |none=>.D0):=by
 refine⟨_,hr,λY h H xs b Q R c w=>?_⟩;cases o:yJ xs with
 |none=>simp only[o]at w;exact w.elim|some q=>
  obtain⟨i,j⟩:=q;have e:=T5 o;subst e;cases c with
  |cons d rs=>
   cases d;cases rs with
   |cons g a=>cases g;cases a;exact hw Y h H i j Q R w
def j4(hc:X.calm=aB):pR X T E (.builtin "min") CG:=Jd (b9 hc) λY h H i j Q R w=>⟨i,j,rfl,C0 w R (.int _)⟩
def j3(hc:X.calm=aB):pR X T E (.builtin "max") CF:=Jd (b8 hc) λY h H i j Q R w=>⟨i,j,rfl,C0 w R (.int _)⟩
def ZT:kI X (.builtin "divmod") (λxs H Q=>∃i j,xs=[.int i,.int j]/\(0<j/\j<2 ^ 1000)/\∀p,H p=aD->Q (.ref p) (D4 H p<|.tup [.int (i / j),.int (i%j)])):=by intro ap s d H xs us Q I r h;obtain⟨i,j,rfl,⟨a,c⟩,q⟩:=h;obtain⟨u,f,rfl,⟨t,rfl⟩,⟨g,rfl⟩⟩:=yZ r;refine divmod_int (by lia) ?_<|.inl<|QL<|log2_lt c a;rw[Sq i '!',NT i '!'];have hn:=I.bB.fresh (aW _);refine⟨.ref s.heap.objs.size,_,?_,rfl,q _ hn⟩;refine I.F1 (λb o e=>cX _ e) (aW _) ⟨by simp only[zQ];decide,[.int (i / j) s.toks,.int (i%j) (s.toks+1)],.cons ⟨_,rfl⟩ (.cons ⟨_,rfl⟩ .nil),?_⟩;exact⟨_,gS s.heap rfl,rfl,0,rfl⟩
def i8:pR X T E (.builtin "divmod") Bo:=Jd ZT λc h H i j Q R w=>by
 by_cases a:pA j=aB
 .simp only[if_pos a]at w;exact⟨i,j,rfl,Zr a,λp b=>Dh R (.cons (.int _)<|.cons (.int _) .nil) b w⟩
 .simp only[if_neg a]at w;exact w.elim
def GF{k:'%'->M AV}(R:'3')(r:bF T Y H xs gH)(w:W T (aV T) ((match (pI xs).bind (fI h) with
  |some ys=>k ys h
  |none=>.D0:F3 AV)) Y H Q E):∃p ys zs,gH=[.ref p]/\(eB T.K H p zs\/fU T.K H p zs)/\bF T Y H ys zs/\W T (aV T) (k ys h) Y H Q E:=by
 cases a:pI xs with
 |none=>rw[a]at w;cases w|some x=>
  rw[a]at w;simp only[oP]at w;have e:=GD a;subst e;cases r with
  |cons b rs=>
   cases rs;cases o:fI h x with
   |none=>rw[o]at w;exact w.elim|some ys=>rw[o]at w;obtain⟨p,zs,e,c,hr⟩:=xh R b o;exact⟨p,ys,zs,by rw[e],c,hr,w⟩
def j5(hK:X.K=T.K):pR X T E (.type "tuple") Bs:=by
 refine⟨_,d8,λc h H xs b Q R r w=>?_⟩;obtain⟨p,d,zs,rfl,hq,hr,a⟩:=GF R r w;rcases hq with hq|hq
 .exact⟨p,zs,rfl,.inl ⟨by left,λl hl=>Dh R hr hl a⟩⟩
 .exact⟨p,zs,rfl,.inr ⟨by left,C0 a R (.tup hq hr)⟩⟩
def j2(hK:X.K=T.K)(hc:X.calm=aB):pR X T E (.type "list") dj:=by
 refine⟨_,b7.or (ZZ hc),λd h H xs f Q R r w=>?_⟩;unfold dj at w;cases o:(pI xs).bind (fI h) with
 |some b=>
  have w1:W T (aV T) ((match (pI xs).bind (fI h) with
   |some b=>kQ b h
   |none=>.D0:F3 AV)) d H Q E:=by left
  obtain⟨p,b,zs,rfl,m,hr,g⟩:=GF R r w1;exact .inl ⟨p,zs,rfl,by left,λl hl=>yN R hr hl g⟩
 |none=>
  rw[o]at w;refine .inr ?_;cases c:pI xs with
  |none=>rw[c]at w;cases w|some x=>
   rw[c]at w;simp only[oP]at w;have e:=GD c;subst e;cases r with
   |cons i rs=>
    cases rs;cases x with
    |ref n=>
     cases i with
     |@ref _ a q=>
      simp only[Ji]at w;cases ob:h.ob n with
      |none=>rw[ob]at w;cases w|some u=>
       rw[ob]at w;cases u with
       |aP j=>obtain⟨s,b,g1,rfl,k⟩:=R.obj n _ a ob q;exact⟨a,_,rfl,g1,λl hl=>yN R (DT k) hl w⟩
       |_=>cases w
    |_=>exact w.elim
def aHo{x:Str}{id:String}{g:'%'->M AV} (hc:pR X T E (.builtin id) g) (hg:Gl X x) (hm:X.mg x=aD) (hv:oS x=aA (.builtin id)) (ha:QA X T E (e::es) mr) (hs:(e::es).all cF=aB) (hn:x≠"__name__") (hd:'B'=aJ) :
  QE X T E (.Call (.Name x p) (e::es) [] pos) (λZ=>(mr Z).bind g):=by
 obtain⟨r,hr,a⟩:=hc;obtain⟨tr,pr,f⟩:=ha;rw[lZ,bY]at hs;exact⟨_,Dq hr hg hm hv pr hn hd (gE hs.1) (uE hs.2),λi Z b h H Q R S w=>f i Z b h H _ R S (B9 w λc xs d j H1 m k l w1=>a c j H1 xs d Q k l w1)⟩
def aHp{x:Str}{id:String}{g:'%'->M AV} (hc:pR X T E (.type id) g) (hg:Gl X x) (hm:X.mg x=aD) (hv:oS x=aA (.type id)) (ha:QA X T E (e::es) mr) (hs:(e::es).all cF=aB) (hn:x≠"__name__") (hd:'B'=aJ) :
  QE X T E (.Call (.Name x p) (e::es) [] pos) (λZ=>(mr Z).bind g):=by
 obtain⟨r,hr,a⟩:=hc;obtain⟨tr,pr,f⟩:=ha;rw[lZ,bY]at hs;exact⟨_,aDw hr hg hm hv pr hn hd (gE hs.1) (uE hs.2),λi Z b h H Q R S w=>f i Z b h H _ R S (B9 w λc xs d j H1 m k l w1=>a c j H1 xs d Q k l w1)⟩
end
def Ia(cW dC:Bool)(K:bN)(a b:Addr):It:=
  ⟨λi H=>∃xs ys x y,iJ cW K H a xs/\iJ dC K H b ys/\xs[i]?=aA x/\ys[i]?=aA y,
   λi H x H'=>∃T u v,H T=aD/\x = .ref T/\H'=D4 H T (.tup [u,v])/\(∀xs,iJ cW K H a xs->xs[i]?=aA u)/\∀ys,iJ dC K H b ys->ys[i]?=aA v,
   λi H=>∃xs ys,iJ cW K H a xs/\iJ dC K H b ys/\(xs[i]?=aD\/ys[i]?=aD)⟩
section
variable {a b c tg l:aI}
def aSt{K:bN}{k:Nat}{tp:Pos}(cW dC:Bool){TI TO:Addr}(D:za z TI TO i1 i2 l1 l2) :
  F5 P w K (.Tuple elts k tp) (Ia cW dC K l1 l2) [z,TI,TO,i1,i2] z (λi h=>nO h z TI TO .none/\jU h TI (.ref i1) (.ref i2)/\(∃a b,jU h TO a b)/\lN cW h i1 l1 i/\lN dC h i2 l2 i) where
 mem:=by simp
 obj:=λi h st b hb=>by
  obtain⟨hz,hTI,⟨a,b',hTO⟩,h1,h2⟩:=st;simp only[mS,lL,or_false]at hb;rcases hb with rfl|rfl|rfl|rfl|rfl
  .exact⟨_,hz,λv q=>by cases q⟩
  .exact⟨_,hTI,λv q=>by cases q⟩
  .exact⟨_,hTO,λv q=>by cases q⟩
  .exact h1.live
  .exact h2.live
 D7:=λi h h' st kk=>by obtain⟨hz,hTI,⟨a,b',hTO⟩,h1,h2⟩:=st;exact⟨kk z (by simp) _ hz,kk TI (by simp) _ hTI,⟨a,b',kk TO (by simp) _ hTO⟩,h1.at λo e=>kk i1 (by simp) o e,h2.at λo e=>kk i2 (by simp) o e⟩
 item:=by
  intro X hP hw hK hc i ap s Z H E I hf st hg;subst hP hw hK;obtain⟨xs,ys,x,y,hq1,hq2,hx,hy⟩:=hg;obtain⟨Ls,rv1,p1⟩:=vX I hq1;obtain⟨Lu,rv2,p2⟩:=vX I hq2;obtain⟨u1,hu1,ru1⟩:=rv1.get hx;obtain⟨u2,hu2,ru2⟩:=rv2.get hy;obtain⟨hz,hTI,⟨a,b',hTO⟩,h1,h2⟩:=id st;have hh:X.A.in1.handled=aD:=I.ok.hd hc;refine aBb D (jH.kd hh cW D.l1i1 Ls.toArray) (jH.kd hh dC D.l2i2 Lu.toArray) hz hTI hTO ⟨h1,p1⟩ ⟨h2,p2⟩ (x:=u1) (y:=u2) (by simpa using hu1) (by simpa using hu2) λh' z' t' s1 s2 C8 kk=>?_;refine⟨_,rfl,?_⟩;refine wpAny_letOwnedTupleGo_zip z' λh'' z'' sb=>?_;have lt:∀{c:Addr}{o:Obj},s.heap.get? c=aA o->s.heap.objs.size≠c:=λe=>oO (dG e);have keep2:∀c o,c∉[z,TI,TO,i1,i2]->s.heap.get? c=aA o->h''.get? c=aA o:=λc o hc e=>by simp only[mS,lL,or_false,not_or]at hc;exact sb.extBut _ _ hc.1<|kk c o hc.1 hc.2.2.1 hc.2.2.2.1 hc.2.2.2.2 e
  have hTI2:jU h'' TI (.ref i1) (.ref i2):=sb.extBut _ _ D.TIz (kk _ _ D.TIz D.TITO D.TIi1 D.TIi2 hTI);have hTO2:jU h'' TO u1 u2:=sb.extBut _ _ D.TOz t';have s1':lN cW h'' i1 l1 (i+1):=s1.1.at λo e=>sb.extBut _ _ D.i1z e;have s2':lN dC h'' i2 l2 (i+1):=s2.1.at λo e=>sb.extBut _ _ D.i2z e;have new2:jU h'' s.heap.objs.size u1 u2:=sb.extBut _ _ (lt hz) C8;have I2:D3 X ap Z (D4 H s.heap.objs.size<|.tup [x,y]) { s with heap:=h'' }:=LU (tk:=s.toks) (its:=[u1,u2]) I hf keep2 (λc hc=>by
   simp only[mS,lL,or_false]at hc;rcases hc with rfl|rfl|rfl|rfl|rfl
   .exact⟨_,z''⟩
   .exact⟨_,hTI2⟩
   .exact⟨_,hTO2⟩
   .exact let ⟨o,e,_⟩:=s1'.live;⟨o,e⟩
   .exact let ⟨o,e,_⟩:=s2'.live;⟨o,e⟩) (aW _) ⟨_,new2,rfl,_,rfl⟩ (.cons ru1<|.cons ru2 .nil) (by show 2<=sizeLine;decide)
  have hn:H s.heap.objs.size=aD:=I.bB.fresh (aW _);refine⟨.ref s.heap.objs.size,_,I2,rfl,⟨_,x,y,hn,rfl,rfl,λzs hzs=>by rw[Qc I hzs hq1];exact hx,λzs hzs=>by rw[Qc I hzs hq2];exact hy⟩,⟨z'',hTI2,⟨_,_,hTO2⟩,s1',s2'⟩,λc hc=>?_⟩;have hc':s.heap.objs.size≠c:=by
   simp only[mS,lL,or_false]at hc;rcases hc with rfl|rfl|rfl|rfl|rfl
   .exact lt hz
   .exact lt hTI
   .exact lt hTO
   .exact let ⟨o,e,_⟩:=h1.live;lt e
   .exact let ⟨o,e,_⟩:=h2.live;lt e
  rw[cB hc'.symm];exact(hf c hc).1
 done:=by
  intro X hP hw hK hc i ap s Z H E I hf st hg;subst hP hw hK;obtain⟨xs,ys,hq1,hq2,By⟩:=hg;obtain⟨Ls,rv1,p1⟩:=vX I hq1;obtain⟨Lu,rv2,p2⟩:=vX I hq2;obtain⟨hz,hTI,⟨a,b',hTO⟩,h1,h2⟩:=id st;have hh:X.A.in1.handled=aD:=I.ok.hd hc;refine u6 D (jH.kd hh cW D.l1i1 Ls.toArray) (jH.kd hh dC D.l2i2 Lu.toArray) hz hTI hTO ⟨h1,p1⟩ ⟨h2,p2⟩ ?_ λh' kk=>⟨rfl,LS (tk:=s.toks) I hf λc o hc e=>?_⟩
  .rcases By with q|q
   .exact .inl (by simpa using rv1.none_of q)
   .exact .inr (by simpa using rv2.none_of q)
  .simp only[mS,lL,or_false,not_or]at hc;exact kk c o hc.1 hc.2.2.1 hc.2.2.2.1 hc.2.2.2.2 e
 self:=λA i s Q E st h=>SJ st.1 h
def S7(K:bN)(ta:TA):TI:=λZ H R=>ta Z H λvs H1=>∃a b cW dC,vs=[.ref a,.ref b]/\(∃xs,iJ cW K H1 a xs)/\(∃ys,iJ dC K H1 b ys)/\R (Ia cW dC K a b) H1
def aFf{k:Nat}{tp:Pos}{ta:TA}(hg:Gl X "zip")(hm:X.mg "zip"=aD)(ha:PA X [a,b] ta)(hs:cF a=aB)(hs2:cF b=aB):PI X (.Tuple elts k tp) (.Call (.Name "zip" p) [a,b] [] pos) (S7 X.K ta):=by
 intro ap s v H R I h;refine Call_<|fc I hg hm boot_zip<|Hd (bG (ha pos ap s v H _ I h) λus s1 ⟨Q,H1,d,C,E⟩=>?_) (gE hs)<|uE (by simp[hs2]);obtain⟨a,b,f,g,e,⟨xs,j⟩,⟨S,m⟩,q⟩:=E;subst e;cases C with
 |cons r F=>
  cases r;cases F with
  |cons G n=>
   cases G;cases n;obtain⟨w,J,x⟩:=vX d j;obtain⟨y,K,z⟩:=vX d m;have i:∀{kd:Bool}{l:Addr}{items:AR},jF kd s1.heap l items->l<s1.heap.objs.size:=λ{kd l items} hl=>by
    cases kd with
    |true=>obtain⟨o,e,_⟩:=(hl);exact dG e|false=>obtain⟨o,e,_⟩:=(hl);exact dG e
   have la:=i x;have lb:=i z;refine d9 f g x z λL A t u M N O=>?_;have P:D3 X ap v H1 { s1 with heap:=L }:=d.E6 O;refine SJ A ?_;have D:=zipApart_new la lb;refine⟨s1.heap.objs.size+4,[s1.heap.objs.size+4,s1.heap.objs.size+2,s1.heap.objs.size+3,s1.heap.objs.size,s1.heap.objs.size+1],_,_,H1,rfl,P,aSt f g D,⟨A,t,⟨_,_,u⟩,M,N⟩,λc B=>?_,q⟩;have hle:s1.heap.objs.size<=c:=by
    simp only[mS,lL,or_false]at B;rcases B with rfl|rfl|rfl|rfl|rfl
    .exact oJ _ _
    .exact oJ _ _
    .exact oJ _ _
    .grind
    .exact oJ _ _
   exact d.xZ hle<|d.bB.fresh hle
def pO(it jt:eM):eM:=λi h=>match it i h,jt i h with
 |some (aA u),aA (aA v)=>aA (aA<|.tup [u,v])
 |some aD,aA _=>aA aD
 |some _,aA aD=>aA aD
 |_,_=>aD
def Kt(xs:'%'):M eM:=λh=>match xs with
 |[x,y]=>oM (tN h x) λit=>oM (tN h y) λjt=>.ok (pO it jt) h
 |_=>.D0
def ao.sq{kd:Bool}{a:Addr}{it:eM}{h':AH}{i:Nat}{o:A4}(f:ao T Y H kd a it)(e:E2 Y H Y' H')(R:bP T Y' h' H')(z:it i h'=aA o):∃ys,iJ kd T.K H' a ys:=by
 cases o with
 |none=>exact((f Y' h' H' i e R).1 z).imp λ_ z=>z.1|some v=>exact((f Y' h' H' i e R).2 v z).imp λ_ z=>z.elim λ_ z=>z.1
def aNv{cW dC:Bool}{a b:Addr}{it jt:eM}(f:ao T Y H cW a it)(g:ao T Y H dC b jt):RI T Y H (pO it jt) (Ia cW dC T.K a b):=λc h l i e R=>by
 have fi:=f c h l i e R;have m:=g c h l i e R;unfold pO;cases o:it i h with
 |none=>exact⟨nofun,nofun⟩|some u=>
  cases k:jt i h with
  |none=>cases u<;>exact⟨nofun,nofun⟩|some v=>
   cases u with
   |none=>obtain⟨d,s,n⟩:=fi.1 o;obtain⟨zs,s2⟩:=g.sq e R k;exact⟨λ_=>⟨d,zs,s,s2,.inl n⟩,nofun⟩
   |some u=>
    obtain⟨d,p,s,n,r⟩:=fi.2 u o;cases v with
    |none=>obtain⟨zs,s2,j⟩:=m.1 k;exact⟨λ_=>⟨d,zs,s,s2,.inr j⟩,nofun⟩
    |some v=>obtain⟨zs,t,s2,j,y⟩:=m.2 v k;refine⟨nofun,λw q=>⟨⟨d,zs,p,t,s,s2,n,j⟩,λx A z=>?_⟩⟩;cases q;obtain⟨B,C,D,hn,rfl,rfl,k1,k2⟩:=z;cases(k1 d s).symm.trans n;cases(k2 zs s2).symm.trans j;exact⟨c,.lX hn,R.D7 hn,.tup (.of gG) (.cons (r.ext<|.lX hn)<|.cons (y.ext<|.lX hn) .nil)⟩
def aIy{k:Nat}{tp:Pos}(hK:X.K=T.K)(hg:Gl X "zip")(hm:X.mg "zip"=aD)(ha:QA X T E [a,b] mr)(hs:cF a=aB)(hs2:cF b=aB) :
  QI X T E (.Tuple elts k tp) (.Call (.Name "zip" p) [a,b] [] pos) (λZ=>(mr Z).bind Kt):=by
 obtain⟨ta,pa,i⟩:=ha;refine⟨_,aFf hg hm pa hs hs2,λj Z c h H Q R S w=>i j Z c h H _ R S (B9 w λl xs m u H1 v d n w1=>?_)⟩;cases n with
 |nil=>cases w1|@cons x z _ _ o rs=>
  cases rs with
  |nil=>cases w1|@cons y A _ _ q e=>
   cases e with
   |cons _ _=>cases w1|nil=>obtain⟨it,g1,w2⟩:=w1.oM;obtain⟨B,g2,w3⟩:=w2.oM;obtain⟨pa,f,rfl,sa,r⟩:=Cg d o g1;obtain⟨s,g,rfl,sb,t⟩:=Cg d q g2;rw[hK];exact⟨pa,s,f,g,rfl,sa,sb,C0 w3 d (aNv r t)⟩
end
def sG{α:Type}(m:M α):M α:=λh=>match m h with
 |.ok a h1=>.ok a h1
 |_=>.D0
def FW{α β:Type}{Rp:Rl α β}{m:M α}{Q:β->Hp->Prop}{E':XK}(w:W T Rp (sG m h) Y H Q E):W T Rp (m h) Y H Q E':=by
 unfold sG at w;cases e:m h with
 |ok a h1=>rw[e]at w;exact w|D0=>rw[e]at w;exact w.elim
def M.bind_assoc{α β γ:Type}(m:M α)(k:α->M β)(l:β->M γ):(m.bind k).bind l=m.bind λx=>(k x).bind l:=by
 funext h
 unfold C6;cases m h<;>rfl
def eT(it:eM)(g:AV->aF->M aF)(mt:aF->M Bool)(me:aF->M AV):Nat->Nat->'%'->aF->M '%'
 |0,_,_,_=>C5
 |f+1,i,ys,σ=>λh=>match it i h with
  |none=>.D0
  |some aD=>.ok ys h
  |some (aA v)=>((sG<|g v σ).bind λσ1=>(sG<|mt σ1).bind λb=>if b=aB then(me σ1).bind λy=>C7 (B3 ys<sizeLine) (eT it g mt me f (i+1) (ys++[y]) σ1) else eT it g mt me f (i+1) ys σ1) h
def mZ{α:Type}(imp:AX)(Z:List (Option α)):List (Option α):=imp.map λo=>match o with
 |some j=>(Z[j]?).getD aD
 |none=>aD
def bz(mi:M eM)(g:AV->aF->M aF)(mt:aF->M Bool)(me:aF->M AV)(imp:AX)(Z:aF):M AV:=mi.bind λit=>(eT it g mt me FU 0 []<|mZ imp Z).bind kQ
def LF(T:D8)(E:XK)(m:aF->M AV):TE:=λZ' H Q=>∃Y Z h,'3'/\cU T Y H Z Z'/\W T (aV T) (m Z h) Y H Q E
def LD(T:D8)(m:aF->M Bool):TT:=λZ' H Q=>∃Y Z h,'3'/\cU T Y H Z Z'/\W T RB (m Z h) Y H Q E0
def LC(T:D8)(g:AV->aF->M aF):TG:=λv' Z' H Q=>∃Y v Z h,'3'/\cU T Y H Z Z'/\aV T Y H v v'/\W T (cU T) (g v Z h) Y H Q E0
section
variable {tg iter:aI}{ct:Option aI}{me:aF->M AV}{mt:aF->M Bool}{mi:aF->M eM}{g:AV->aF->M aF}{imp:AX}{N':AK}
def QE.canon(h:QE X T E e m):PE X e (LF T E m):=let ⟨t,p,r⟩:=h;λap s a H Q I ⟨b,c,h,R,S,w⟩=>p ap s a H Q I (r b c a h H Q R S w)
def QT.canon{m:aF->M Bool}(h:QT X T E0 e m):PT X e (LD T m):=let ⟨t,p,r⟩:=h;λap s a H Q I ⟨b,c,h,R,S,w⟩=>p ap s a H Q I (r b c a h H Q R S w)
def QG.canon{g:AV->aF->M aF}(h:QG X T E0 e g):PG X e (LC T g):=let ⟨t,p,r⟩:=h;λap s a H b u Q I c ⟨d,v,f,h,R,S,i,w⟩=>p ap s a H b u Q I c (r d v b f a h H Q R S i w)
def Bz{α:Type}(Z:List (Option α)):B3 (mZ imp Z)=B3 imp:=by simp[mZ]
def Lg{α:Type}{Z:List (Option α)}{i:Nat}{v:α}(h:(mZ imp Z)[i]?=aA (aA v)):∃j,imp[i]?=aA (aA j)/\Z[j]?=aA (aA v):=by
 unfold mZ at h;rw[eQ]at h;cases e:imp[i]? with
 |none=>left|some o=>
  rw[e]at h;cases o with
  |none=>cases h|some j=>
   refine⟨j,rfl,?_⟩;have a:(Z[j]?).getD aD=aA v:=cR h;cases q:Z[j]? with
   |none=>left|some w=>rw[q]at a;exact congrArg aA a
def cU.S8(S:cU T Y H Z Z'):cU T Y H (mZ imp Z) (mZ imp Z'):=by refine⟨by rw[Bz,Bz],λi v e=>?_⟩;obtain⟨j,a,b⟩:=Lg e;obtain⟨c,d,r⟩:=S.2 j v b;refine⟨c,?_,r⟩;unfold mZ;rw[eQ,a];show aA ((Z'[j]?).getD aD)=_;rw[d];rfl
def Yz{wi:TI}(ri:∀Y Z Z' h H R,'3'->cU T Y H Z Z'->W T (RI T) (mi Z h) Y H R E->wi Z' H R)(R:'3')(S:cU T Y H Z Z')
  (w:W T (aV T) (bz (mi Z) g mt me imp Z h) Y H Q E):Qk wi (mZ imp) (LC T g) (LD T mt) (LF T E me) Z' H Q:=by
 refine ri Y Z Z' h H _ R S<|B9 w λr it J Kq H1 O R1 P w1=>?_;refine⟨λi m s Z' H=>∃Y c Z h,E2 r H1 Y H/\'3'/\cU T Y H Z Z'/\bF T Y H c s/\W T (aV T) (((eT it g mt me m i c Z).bind kQ) h) Y H Q E,FU,⟨r,[],_,Kq,.refl,R1,(S.ext O).S8,.nil,w1⟩,?_⟩;rintro i m s Z' H ⟨Y,c,Z,h,e,R,S,k,w⟩
 cases m with
 |zero=>cases w|succ f=>
  cases j:it i h with
  |none=>
   have p:W T (aV T) F3.D0 Y H Q E:=by simp_all[eT,C6,j]
   cases p
  |some o=>
   cases o with
   |none=>
    have p:W T (aV T) (kQ c h) Y H Q E:=by simp_all[eT,C6,j]
    exact .inl ⟨(P Y h H i e R).1 j,λD hD=>yN R k hD p⟩
   |some v=>
    have p:W T (aV T) ((((sG<|g v Z).bind λl=>(sG<|mt l).bind λb=>if b=aB then(me l).bind λy=>C7 (B3 c<sizeLine) (eT it g mt me f (i+1) (c++[y]) l) else eT it g mt me f (i+1) c l).bind kQ) h) Y H Q E:=by simp_all[C6,eT,j,O]
    rw[M.bind_assoc]at p;obtain⟨go,yl⟩:=(P Y h H i e R).2 v j;refine .inr ⟨go,λx H2 y=>?_⟩;obtain⟨G,q,R2,rv⟩:=yl x H2 y;refine⟨G,v,Z,h,R2,S.ext q,rv,FW (B9 (p.ext q) λI a U h3 H3 A R3 B w3=>?_)⟩;rw[M.bind_assoc]at w3;refine⟨I,a,h3,R3,B,FW (B9 w3 λt d d' V H4 n X q4 C=>?_)⟩;have K:=q4;subst K;cases d with
    |true=>
     rw[if_pos rfl]at C ⊢;rw[M.bind_assoc]at C;refine⟨t,a,V,X,B.ext n,B9 C λu y y' z H5 L R5 q5 F=>?_⟩;by_cases cv:B3 c<sizeLine
     .have w6:W T (aV T) (((eT it g mt me f (i+1) (c++[y]) a).bind kQ) z) u H5 Q E:=by
       have N:((C7 (B3 c<sizeLine)<|eT it g mt me f (i+1) (c++[y]) a).bind kQ) z=((eT it g mt me f (i+1) (c++[y]) a).bind kQ) z:=by simp_all[C6,C7,cv]
       rw[N]at F;exact F
      have eE:=(((e.trans q).trans A).trans n).trans L;exact⟨by simp_all[k.length],f,cD f,u,c++[y],a,z,eE,R5,(B.ext n).ext L,(k.ext<|((q.trans A).trans n).trans L).append (.cons q5 .nil),w6⟩
     .have N:((C7 (B3 c<sizeLine)<|eT it g mt me f (i+1) (c++[y]) a).bind kQ) z = .D0:=by unfold C6 C7;rw[if_neg cv]
      rw[N]at F;cases F
    |false=>exact⟨f,cD f,t,c,a,V,((e.trans q).trans A).trans n,X,B.ext n,k.ext ((q.trans A).trans n),C⟩
def HW(hsc:pS X N' scope)(tJ:X.calm=aB)(hi:QI X T E tg iter mi)(hg:∀s H C fp,QG 'E' T E0 tg g)(hct:∀c,ct=aA c->∀s H C fp,QT 'E' T E0 c mt)
  (hct0:ct=aD->mt=λ_=>B8 aB) (he:∀s H C fp,QE 'E' T E0 elt me) (himp:B3 imp=B3 N')
  (hσ:∀(i j:Nat) x,N'[i]?=aA x->imp[i]?=aA (aA j)->scope.names.lookup x=aA .free/\(x,jC)∈scope.names/\X.N[j]?=aA x) (hs:cF iter=aB) :
  QE X T E 'J' (λZ=>bz (mi Z) g mt me imp Z):=by
 obtain⟨wi,pi,d⟩:=hi;refine⟨_,aDz hsc tJ pi (λs H C fp=>(hg s H C fp).canon) (λc e s H C fp=>(hct c e s H C fp).canon) (λe Z H Q=>?_) (λs H C fp=>(he s H C fp).canon) (λZ=>by rw[Bz,himp]) (λZ i x v f k=>?_) λx=>Pu hs,λl Z m h H Q R S w=>Yz d R S w⟩
 .rintro ⟨l,Z,h,R,S,w⟩
  rw[hct0 e]at w;exact C0 w R rfl
 .obtain⟨j,n,o⟩:=Lg k;obtain⟨a,b,c⟩:=hσ i j x f n;exact⟨a,b,j,c,o⟩
def IP{i:Nat}{y:Str}{sN:Pos}(hN:X.N.Nodup)(hi':X.N[i]?=aA y)(hy:X.env.scope.names.lookup y=aA .local)
  (hsw:xF 'J' (aA<|.Name y py) sN.line X.env=pure aB)(hsc:pS X N' scope)(tJ:X.calm=aB)(hi:QI X T E tg iter mi)(hg:∀s H C fp,QG 'E' T E0 tg g)(hct:∀c,ct=aA c->∀s H C fp,QT 'E' T E0 c mt)
  (hct0:ct=aD->mt=λ_=>B8 aB)(he:∀s H C fp,QE 'E' T E0 elt me)(himp:B3 imp=B3 N')
  (hσ:∀(i j:Nat) x,N'[i]?=aA x->imp[i]?=aA (aA j)->scope.names.lookup x=aA .free/\(x,jC)∈scope.names/\X.N[j]?=aA x)(hs:cF iter=aB) :
  QS X T E (.Assign [.Name y py] 'J' sN) (λσ=>(bz (mi σ) g mt me imp σ).bind λv=>(B8<|σ.set i<|aA v).bind λσ1=>B8 (.nx σ1)):=by
 obtain⟨wi,pi,l⟩:=hi;refine⟨_,aGr hN hi' hy hsw hsc tJ pi (λs H C fp=>(hg s H C fp).canon) (λc e s H C fp=>(hct c e s H C fp).canon) (λe σ H Q=>?_) (λs H C fp=>(he s H C fp).canon) (λσ=>by rw[Bz,himp]) (λσ i x v d m=>?_) λx=>Pu hs,
  λn σ f h H D R S w=>Yz l R S (B9 w λo x p k H1 d q r w1=>C0 (b:=jV.nx (f.set i<|aA p)) w1 q ((S.ext d).set r i))⟩
 .rintro ⟨n,σ,h,R,S,w⟩
  rw[hct0 e]at w;exact C0 w R rfl
 .obtain⟨j,k,t⟩:=Lg m;obtain⟨a,b,c⟩:=hσ i j x d k;exact⟨a,b,j,c,t⟩
end
section
variable {l tg:aI}{st:Stmt}
def mW(ks:List aN):eM:=λi _=>match ks[i]? with
 |some k=>aA (aA<|tO k)
 |none=>if i=B3 ks then aA aD else aD
def ui(v:AV):M eM:=λh=>match v with
 |.ref n=>match h.ob n with
  |some (.aP kvs)=>.ok (mW<|kvs.map (·.1)) (h.C9 n<|.dX kvs)
  |_=>.D0
 |_=>.D0
def xq{α:Type}(n:Nat)(r:F3 α):F3 α:=match r with
 |.ok a h=>match h.ob n with
  |some (.dX kvs)=>.ok a (h.C9 n<|.aP kvs)
  |_=>.D0
 |_=>.D0
def aNr{o:Obj}(hH:H a=aA (.dI o<|.dK<|(kvs.map (·.1)).zip ys))(hl:B3 ys=B3 kvs):RI T Y H (mW<|kvs.map (·.1)) (Hy a o<|(kvs.map (·.1)).zip ys):=by
 intro c j l i e R;have b:=e.dI _ _ _ hH;have hlen:B3 ((kvs.map (·.1)).zip ys)=B3 kvs:=by simp[hl]
 refine⟨λz=>?_,λv z=>?_⟩
 .unfold mW at z;cases q:(kvs.map (·.1))[i]? with
  |some k=>left|none=>
   rw[q]at z;by_cases g:i=B3 (kvs.map (·.1))
   .exact⟨b,by left⟩
   .rw[if_neg g]at z;exact bU z
 .unfold mW at z;cases q:(kvs.map (·.1))[i]? with
  |none=>left|some k=>
   rw[q]at z;cases z;have g:i<B3 kvs:=by simpa using (dk.1 q).1
   refine⟨⟨b,by left⟩,λx m y=>?_⟩;obtain⟨rfl,h,n,d,rfl⟩:=y;have f:h=k:=by rw[OQ]at d;rw[q]at d;exact(cR d.1).symm
   subst f;exact⟨c,.refl,R,DQ h⟩
def aIv(ha:QE X T E l m):QI X T E tg l (λZ=>(m Z).bind ui):=by
 obtain⟨tl,pl,k⟩:=ha;refine⟨_,aFb pl,λp Z f h H R r S w=>k p Z f h H _ r S (B9 w λc v C s H1 D g t w1=>?_)⟩;unfold ui at w1;cases v with
 |ref n=>
  cases t with
  |@ref _ a q=>
   dsimp only at w1;cases o:s.ob n with
   |none=>rw[o]at w1;cases w1|some u=>
    rw[o]at w1;cases u with
    |aP d=>
     obtain⟨F,i,e,y,j⟩:=g.obj n _ a o q;subst y;refine⟨a,_,rfl,e,λob=>?_⟩;have ex:E2 c H1 c (D4 H1 a<|.dI ob<|.dK<|(d.map (·.1)).zip i):=⟨λ_ _ z=>z,λb xs z=>by
      rw[cB (sF z e λw=>by cases w)];exact z,λb x u z=>by
      rw[cB (sF z e λw=>by cases w)];exact z⟩
     obtain⟨A,B⟩:=g.write (o':=.dX d) o rfl rfl q e (λ_ z=>by cases z) (λ_ _ z=>by cases z) ⟨ob,_,i,gG,rfl,j.ext ex⟩;exact w1 c _ _ B A<|aNr gG (by have:=j.length;simpa using this.symm)
    |_=>exact w1.elim
 |_=>exact w1.elim
def aSj{α β:Type}{Rp:Rl α β}(sb:∀Y H H' a b,xH Y H Y H'->Rp Y H a b->Rp Y H' a b){r:F3 α}{Q:β->Hp->Prop}(R:'3')(hn:h.ob n=aA (.aP kvs))
  (w:W T Rp (xq n r) Y H Q E):W T Rp r Y H (λb=>Tw H (Q b)) E:=by
 cases r with
 |ok a j=>
  intro d b H' e k q;unfold xq at w;dsimp only at w;cases o:j.ob n with
  |none=>rw[o]at w;exact w.elim|some u=>
   rw[o]at w;cases u with
   |dX f=>
    obtain⟨g,l,s,t,m,_,_⟩:=R.at hn;obtain⟨ob,p,i,R2⟩:=k.Qp o (e.pre n g l);refine⟨g,_,ob,p,m,i,w d b _ ⟨e.pre,λc xs z=>?_,λc x u z=>?_⟩ R2 (sb _ _ _ _ _ (AE i) q)⟩
    .have:=e.tup c xs z;rw[cB (λy=>by grind)];exact this
    .have:=e.dI c x u z;rw[cB (λy=>by grind)];exact this
   |_=>exact w.elim
 |D0=>cases w
def Ba(r:F3 AV):AS:=match r with
 |.ok (.ref n) _=>aA n
 |_=>aD
def mO{α:Type}(m0:aF->M AV)(ms:aF->M α):aF->M α:=λZ h=>match Ba (m0 Z h) with
 |some n=>match h.ob n with
  |some (.aP _)=>xq n (ms Z h)
  |_=>.D0
 |none=>.D0
def LM{α β:Type}{Rp:Rl α β}(sb:∀Y H H' a b,xH Y H Y H'->Rp Y H a b->Rp Y H' a b){ma:aF->M α}{Q:β->Hp->Prop}(R:'3')
  (w:W T Rp (mO m0 ma Z h) Y H Q E):W T Rp (ma Z h) Y H (λb=>Tw H (Q b)) E:=by
 unfold mO at w;cases d:Ba (m0 Z h) with
 |none=>rw[d]at w;exact w.elim|some n=>
  rw[d]at w;dsimp only at w;cases o:h.ob n with
  |none=>rw[o]at w;exact w.elim|some u=>
   rw[o]at w;cases u with
   |aP c=>exact aSj sb R o w|_=>exact w.elim
theorem cU.ext2{Y:AI}{H H':Hp}{Z:aF}{Z':L2.St}(S:cU T Y H Z Z')(e:xH Y H Y H'):cU T Y H' Z Z':=
 ⟨S.1,λi v q=>let ⟨c,a,b⟩:=S.2 i v q;⟨c,a,b.ext2 e⟩⟩
def aOb{a:E3}{b:jV}(e:xH Y H Y H')(r:RO T Y H a b):RO T Y H' a b:=by cases a<;>cases b<;>first|exact cU.ext2 r e|exact aV.ext2 e r|exact r
def IQ(m0:aF->M AV)(hq:QS X T E st ms):QS X T E st (mO m0 ms):=by
 obtain⟨t,p,r⟩:=hq;refine⟨_,aGs p,λd f c h H D R S w=>r d f c h H _ R S ?_⟩;have k:=LM (Rp:=RO T) (λd H g a b e q=>aOb e q) R w;have e:(λb=>Tw H (pL D b))=pL (Zw H D):=by funext b;cases b<;>rfl
 rw[e]at k;exact k
def aIq(m0:aF->M AV)(hq:QE X T E e m):QE X T E e (mO m0 m):=by obtain⟨t,p,r⟩:=hq;exact⟨_,aEs p,λd f c h H Q R S w=>r d f c h H _ R S (LM (Rp:=aV T) (λd H g a b e q=>aV.ext2 e q) R w)⟩
end
inductive Kc where
 |any|srt (b:Bool)|wb
 |sd
def xQ:'%'->Option (List Bool)
 |[]=>aA []
 |.bl b::r=>(xQ r).map (b::·)
 |_=>aD
def rX:'%'->Option '0'
 |[]=>aA []
 |.int b::r=>(rX r).map (b::·)
 |_=>aD
theorem Yg:∀bs:BC,xQ (bs.map AV.bl)=aA bs
 |[]=>rfl|b::bs=>by simp[xQ,Yg bs]
theorem Cc:∀bs:'0',rX (bs.map AV.int)=aA bs
 |[]=>rfl|b::bs=>by simp[rX,Cc bs]
def Kc.gl:Kc->'%'->M AV
 |.any,xs=>λh=>match xQ xs with
  |some bs=>.ok (.bl<|bs.any id) h
  |none=>.D0
 |.srt b,xs=>λh=>match rX xs with
  |some ns=>if B3 ns<64 then kQ ((lK b ns).map AV.int) h else .D0
  |none=>.D0
 |.wb,xs=>λh=>match rX xs with
  |some ns=>.ok (if ns.isEmpty then .aG else .int (sC ns)) h
  |none=>.D0
 |.sd,xs=>λh=>match rX xs with
  |some ns=>if B3 ns<64 then kQ ((lK aJ ns).map AV.int) h else .D0
  |none=>.D0
def Kc.g(k:Kc)(x:AV):M AV:=λh=>match x with
 |.ref n=>match h.ob n with
  |some (.l _ xs)=>k.gl xs h
  |_=>.D0
 |_=>.D0
section
variable {a:aI}
theorem Yf{Y:AI}{H:Hp}:∀{xs:'%'}{ys:AJ}{bs:BC},bF T Y H xs ys->xQ xs=aA bs->ys=bs.map V.bl
 |_,_,_,.nil,e=>by cases e;rfl
 |_,_,_,.cons (xs:=xs) h t,e=>by
  cases h with
  |bl b=>
   simp only[xQ]at e;cases q:xQ xs with
   |none=>rw[q]at e;cases e|some bs=>rw[q]at e;cases e;rw[Yf t q];rfl
  |_=>exact bU e
theorem Ll{Y:AI}{H:Hp}:∀{xs:'%'}{ys:AJ}{bs:'0'},bF T Y H xs ys->rX xs=aA bs->ys=bs.map V.int
 |_,_,_,.nil,e=>by cases e;rfl
 |_,_,_,.cons (xs:=xs) h t,e=>by
  cases h with
  |int b=>
   simp only[rX]at e;cases q:rX xs with
   |none=>rw[q]at e;cases e|some bs=>rw[q]at e;cases e;rw[Ll t q];rfl
  |_=>exact bU e
def Cj(hK:X.K=T.K){k:Kc}(R:'3')(r:aV T Y H x x')(w:W T (aV T) (k.g x h) Y H Q E) :
  ∃(l:Addr) (xs:'%') (ys:AJ),x' = .ref l/\eB X.K H l ys/\bF T Y H xs ys/\W T (aV T) (k.gl xs h) Y H Q E:=by
 unfold Kc.g at w;cases x with
 |ref n=>
  cases r with
  |@ref _ l q=>
   dsimp only at w;cases o:h.ob n with
   |none=>rw[o]at w;cases w|some u=>
    rw[o]at w;cases u with
    |l b xs=>obtain⟨ys,c,a⟩:=yM R o q;exact⟨l,xs,ys,rfl,by left,a,w⟩
    |_=>exact w.elim
 |_=>exact w.elim
def aHk(hK:X.K=T.K) (hc:X.calm=aB) (hg:Gl X "any") (hm:X.mg "any"=aD) (ha:QE X T E a m) (hs:cF a=aB):QE X T E (.Call (.Name "any" p) [a] [] pos) (λZ=>(m Z).bind (Kc.any.g)):=by
 obtain⟨ta,pa,d⟩:=ha;refine⟨_,Dq (ZS hc) hg hm (by decide +kernel) (yO pa fq<|gE hs) '#' (rfl) (gE hs) rfl,λf Z b h H Q R S w=>?_⟩;refine d f Z b h H _ R S<|B9 w λg x k n H1 o c i w1=>?_;obtain⟨l,xs,r,rfl,j,hr,w2⟩:=Cj hK c i w1;simp only[Kc.gl]at w2;cases q:xQ xs with
 |none=>rw[q]at w2;cases w2|some bs=>rw[q]at w2;have e:=Yf hr q;subst e;exact⟨l,bs,rfl,j,w2.here c (.bl _)⟩
def KN(hr:bF T Y H xs ys)(w:W T (aV T) ((Kc.srt b).gl xs h) Y H Q E):∃ns:'0',ys=ns.map V.int/\B3 ns<64/\W T (aV T) (kQ ((lK b ns).map AV.int) h) Y H Q E:=by
 simp only[Kc.gl]at w;cases q:rX xs with
 |none=>rw[q]at w;exact w.elim|some ns=>
  rw[q]at w;dsimp only at w;by_cases hn:B3 ns<64
  .rw[if_pos hn]at w;exact⟨ns,Ll hr q,hn,w⟩
  .rw[if_neg hn]at w;exact w.elim
def aIp(hK:X.K=T.K){k:Nat}{kp:Pos}(hg:Gl X "sorted")(hm:X.mg "sorted"=aD)(ha:QE X T E a m)(hs:cF a=aB) :
  QE X T E (.Call (.Name "sorted" p) [a] [⟨aA "reverse",.Constant (.bool b) k kq,kp⟩] pos) (λZ=>(m Z).bind ((Kc.srt b).g)):=by
 obtain⟨ta,pa,i⟩:=ha;refine⟨_,GX (r:=λv H Q=>∃l ns,v = .ref l/\eB X.K H l (ns.map V.int)/\B3 ns<64/\∀D,H D=aD->Q (.ref D) (D4 H D<|.l<|(lK b ns).map V.int)) ?_ hg hm boot_sorted pa GU (gE hs) '#' (rfl),λj Z c h H Q R S w=>?_⟩
 .intro ap s Z H v u n Q I o t ⟨l,ns,ev,d,hn,q⟩;subst ev;cases o;have e:=t;subst e;exact d6 b I d hn q
 refine i j Z c h H _ R S<|B9 w λy x B C H1 F f z w1=>?_;obtain⟨l,xs,G,rfl,d,hr,w2⟩:=Cj hK f z w1;obtain⟨ns,rfl,hn,w3⟩:=KN hr w2;exact⟨l,ns,rfl,d,hn,λD A=>yN f (bF.ints _) A w3⟩
def aIi(hK:X.K=T.K)(hc:X.calm=aB){k:Nat}{kp:Pos}(hg:Gl X "min")(hm:X.mg "min"=aD)(ha:QE X T E a m)(hs:cF a=aB) :
  QE X T E (.Call (.Name "min" p) [a] [⟨aA "default",.Constant .none k kq,kp⟩] pos) (λZ=>(m Z).bind (Kc.wb.g)):=by
 obtain⟨ta,pa,f⟩:=ha;refine⟨_,GX (r:=λv H Q=>∃l ns,v = .ref l/\eB X.K H l (ns.map V.int)/\Q (if ns.isEmpty then .aG else .int (sC ns)) H) ?_ hg hm (show oS "min"=aA (.builtin "min") from by decide +kernel) pa GZ (gE hs) '#' (rfl),λg Z c h H Q R S w=>?_⟩
 .intro ap s Z H v u y Q I i j ⟨l,ns,ev,b,q⟩;subst ev;cases i;cases ns with
  |nil=>exact c8 hc I b j q|cons n r=>exact c9 hc I b (by grind) q
 refine f g Z c h H _ R S<|B9 w λo x z A H1 B d t w1=>?_;obtain⟨l,xs,C,rfl,b,hr,w2⟩:=Cj hK d t w1;simp only[Kc.gl]at w2;cases q:rX xs with
 |none=>rw[q]at w2;cases w2|some ns=>
  rw[q]at w2;have e:=Ll hr q;subst e;refine⟨l,ns,rfl,b,?_⟩;cases ns with
  |nil=>exact C0 w2 d .aG|cons n r=>exact C0 w2 d<|.int _
def aIn(hK:X.K=T.K) (hc:X.calm=aB) (hg:Gl X "sorted") (hm:X.mg "sorted"=aD) (ha:QE X T E a m) (hs:cF a=aB):QE X T E (.Call (.Name "sorted" p) [a] [] pos) (λZ=>(m Z).bind (Kc.sd.g)):=by obtain⟨ta,pa,d⟩:=ha;refine⟨_,Dq d7 hg hm boot_sorted (yO pa fq<|gE hs) '#' (rfl) (gE hs) rfl,λe Z b h H Q R S w=>?_⟩;refine d e Z b h H _ R S<|B9 w λf x k n H1 o c g w1=>?_;obtain⟨l,xs,q,rfl,i,hr,w2⟩:=Cj hK c g w1;obtain⟨ns,rfl,hn,w3⟩:=KN hr w2;exact⟨l,ns,rfl,i,hn,λD j=>yN c (bF.ints _) j w3⟩
end
set_option genCtorIdx true in
inductive BT where
 |aG|bl|int|str|tup|l|aP
 deriving DecidableEq
def BT.nm:BT->String
 |.aG=>"NoneType" |.bl=>"bool" |.int=>"int" |.str=>"str" |.tup=>"tuple" |.l=>"list" |.aP=>"dict"
def BT.sub(s t:BT):Bool:=decide (s=t)||(decide (s = .bl)&&decide (t = .int))
def ez{K:bN}(s t:BT):Us K (.type s.nm) (.type t.nm)=aA (s.sub t):=by cases s<;>cases t<;>first|rfl|(with_unfolding_all rfl)|decide +kernel
inductive uT(K:bN)(H:Hp):V->BT->Prop where
 |aG:uT K H .aG .aG
 |bl (x:Bool):uT K H (.bl x) .bl
 |int (i:Int):uT K H (.int i) .int
 |str (x:Str):uT K H (.str x) .str
 |l {a:Addr}{xs:AJ} (e:eB K H a xs):uT K H (.ref a) .l
 |tup {a:Addr}{xs:AJ} (e:fU K H a xs):uT K H (.ref a) .tup
 |aP {a:Addr}{kvs:List (aN×V)} (e:H a=aA (.dK kvs)):uT K H (.ref a) .aP
def uV(h:AH):AV->Option BT
 |.aG=>aA .aG
 |.bl _=>aA .bl
 |.int _=>aA .int
 |.str _=>aA .str
 |.tup _=>aA .tup
 |.ref n=>match h.ob n with
  |some (.l _ _)=>aA .l
  |some (.aP _)=>aA .aP
  |_=>aD
 |_=>aD
def di(t:BT)(x:AV):M AV:=λh=>match uV h x with
 |some s=>.ok (.bl<|s.sub t) h
 |none=>.D0
section
variable {a b c tg l o:aI}
def ZX(t:BT):kI X (.builtin "isinstance") (λxs H Q=>∃x s,xs=[x,.ty t.nm]/\uT X.K H x s/\Q (.bl<|s.sub t) H):=by
 intro ap st j H xs us Q I r h;obtain⟨x,s,rfl,ty,q⟩:=h;obtain⟨u,k,rfl,b,f⟩:=yZ r;obtain rfl:k=Vb t.nm:=f;have fin:∀tk,EP X ap j Q (.bool<|s.sub t) { st with toks:=tk }:=λtk=>⟨.bl _,H,I.tok tk,rfl,q⟩;cases ty with
 |aG=>cases b;exact ik W.kitx_none I.fP mT (ez .aG t) (nofun) fin|bl y=>cases b;exact ik W.kitx_bool I.fP mT (ez .bl t) (nofun) fin|int i=>obtain⟨tk,rfl⟩:=b;exact ik W.kitx_int I.fP mT (ez .int t) (nofun) fin|str y=>obtain⟨tk,rfl⟩:=b;exact ik W.kitx_str I.fP mT (ez .str t) (nofun) fin|l e=>cases b;obtain⟨_,_,⟨ob,n,c,d,_⟩,_⟩:=I.list e;exact ik W.kitx_list I.fP ⟨ob,c,d⟩ (ez .l t) (nofun) fin
 |tup e=>cases b;obtain⟨_,_,⟨ob,c,d,_⟩,_⟩:=I.tuple e;exact ik W.kitx_tuple I.fP ⟨ob,c,d⟩ (ez .tup t) (nofun) fin
 |@aP a g e=>cases b;obtain⟨_,_,l,_,ob,m,o,c,d,_⟩:=(show iB X.prog X.w H st.heap a (.dK g) from I.bB a _ e);exact ik W.kitx_dict I.fP ⟨ob,c,d.1⟩ (ez .aP t) (nofun) fin
def ZF(hK:X.K=T.K){s:BT}(R:'3')(r:aV T Y H x x')(e:uV h x=aA s):uT X.K H x' s:=by
 cases r with
 |aG=>cases e;exact .aG|bl b=>cases e;exact .bl b|int i=>cases e;exact .int i|str y=>cases e;exact .str y|tup d hr=>cases e;exact .tup<|hK▸d|@ref n a q=>
  simp only[uV]at e;cases o:h.ob n with
  |none=>left|some u=>
   rw[o]at e;cases u with
   |l m xs=>cases e;obtain⟨f,c,_⟩:=yM R o q;exact .l<|hK▸c
   |aP g=>cases e;obtain⟨j,f,c,_⟩:=R.obj n _ a o q;exact .aP c
   |dX _=>cases e|ins _ _=>exact bU e
 |pC q=>cases e
def aIa(hK:X.K=T.K){y:Str}(t:BT)(hg:Gl X "isinstance")(hm:X.mg "isinstance"=aD)(hg2:Gl X y)(hm2:X.mg y=aD)(hv2:oS y=aA (.type t.nm))(hn2:y≠"__name__")(hd2:(y==("__debug__":Str))=aJ)
  (ha:QE X T E a m)(hs:cF a=aB):QE X T E (.Call (.Name "isinstance" p) [a,.Name y p2] [] pos) (λZ=>(m Z).bind (di t)):=by
 obtain⟨ta,pa,d⟩:=ha;refine⟨_,Dq (ZX t) hg hm boot_isinstance (yO pa (yO (aDt (v:=.ty t.nm) hg2 hm2 hv2 rfl hn2 hd2) fq)<|gE hs) '#' (rfl) (gE hs) rfl,λe Z b h H Q R S w=>?_⟩;refine d e Z b h H _ R S<|B9 w λf x g i H1 k c j w1=>?_;unfold di at w1;cases o:uV i x with
 |none=>rw[o]at w1;cases w1|some s=>rw[o]at w1;exact⟨g,s,rfl,ZF hK c j o,w1.here c (.bl _)⟩
def vE(x v:AV):M AV:=λh=>match x with
 |.ref n=>match h.ob n with
  |some (.l aB xs)=>if B3 xs<sizeLine then .ok .aG (h.C9 n<|.l aB<|xs++[v]) else .D0
  |_=>.D0
 |_=>.D0
def ec(h:AH):AV->Bool
 |.ref n=>match h.ob n with
  |some (.l _ _)=>aB
  |_=>aJ
 |_=>aJ
def Ij(a b:M AV):M AV:=a.bind λx h=>if ec h x=aB then(b.bind λy=>vE x y) h else .D0
theorem vv{α β:Type} [BEq α] [LawfulBEq α]:∀{l:List (α×β)}{x:α}{v:β},l.lookup x=aA v->(x,v)∈l
 |[],_,_,h=>by cases h
 | (k,u)::r,x,v,h=>by
  rw[jB]at h;cases hb:(x==k) with
  |true=>simp only[hb]at h;rw[eq_of_beq hb,cR h];exact eL ..
  |false=>simp only[hb]at h;exact eK _<|vv h
def lQ:aI->Bool
 |.Name ..=>aB | .Attribute ..=>aB | .Subscript ..=>aB
 |.Call (.Attribute ..) _ _ _=>aB
 |.Call (.Name ..) (_::_) _ _=>aB
 |_=>aJ
def uU{o:aI}{f:Str}{whole:Sem Value}(h:lQ o=aB):rh o f env whole=whole:=by
 cases o with
 |Name=>rfl|Attribute=>rfl|Subscript=>rfl|Call g a b p=>
  cases g with
  |Attribute=>rfl|Name=>
   cases a with
   |nil=>cases h|cons=>rfl
  |_=>exact ff h
 |_=>exact ff h
def gp{p:Addr}(g1:H p=aA O)(nt:∀xs,O ≠ .tup xs)(nf:∀x u,O ≠ .dI x u):E2 Y H Y (D4 H p O'):=⟨λ_ _ z=>z,λb xs z=>by
 rw[cB (sF z g1 λw=>nt xs w.symm)];exact z,λb x u z=>by
 rw[cB (sF z g1 λw=>nf x u w.symm)];exact z⟩
def aHl(hK:X.K=T.K)(ho:QE X T E o ma)(ha:QE X T E a mb)(hb:lQ o=aB)(hs:cF a=aB)(hl:(apos.endLine==pos.line)=aB) :
  QE X T E (.Call (.Attribute o "append" apos) [a] [] pos) (λZ=>Ij (ma Z) (mb Z)):=by
 obtain⟨ta,pa,B⟩:=ho;obtain⟨tb,C,D⟩:=ha;refine⟨_,GV Uj aYl aYp aAk pa (yO C fq<|gE hs) (uU hb) (by rw[gE hs];rfl) hl (gE hs) rfl,λF Z j h H Q R S w=>?_⟩;refine B F Z j h H _ R S<|B9 w λe x L k H1 G s I w1=>?_;have c:=w1;by_cases f:ec k x=aB
 case neg=>rw[if_neg f]at c;cases c
 rw[if_pos f]at c;cases x with
 |ref n=>
  cases I with
  |@ref _ p q=>
   have fin:∀b y g i d,E2 e H1 b d->bP T b i d->aV T b d y g->W T (aV T) (vE (.ref n) y i) b d Q E->JC (.ref p) [g] d Q:=λb y g i d l R2 m w2=>by
    have t:=l.pre n p q;simp only[vE]at w2;cases ob:i.ob n with
    |none=>rw[ob]at w2;cases w2|some u=>
     rw[ob]at w2;cases u with
     |l mu xs=>
      cases mu with
      |true=>
       obtain⟨r,g1,v⟩:=R2.obj n _ p ob t;by_cases A:B3 xs<sizeLine
       .simp only[if_pos A]at w2;obtain⟨J,K⟩:=R2.write (o':=.l aB (xs++[y])) ob rfl rfl t g1 (nofun) (λ_ _ z=>by cases z)
         ⟨_,gG,(v.append<|.cons m .nil).ext (gp g1 (nofun) (λ_ _ z=>by cases z))⟩
        exact⟨p,r,g,rfl,rfl,g1,by simp_all[v.length],W.ok w2 K J .aG⟩
       .simp only[if_neg A]at w2;cases w2
      |false=>cases w2
     |aP _=>cases w2|dX _=>cases w2|ins _ _=>cases w2
   refine⟨.inl ⟨rfl,?_⟩,D e Z j k H1 _ s (S.ext G) (B9 c λb y g i d l R2 m w2=>fin b y g i d l R2 m w2)⟩;simp only[ec]at f;cases ob:k.ob n with
   |none=>left|some u=>
    cases u with
    |l mu xs=>obtain⟨r,g1,_⟩:=yM s ob q;exact⟨r,by left⟩
    |aP _=>left|dX _=>left|ins _ _=>rw[ob]at f;exact ff f
 |_=>exact ff f
def sg(P:cC)(w:bV)(K:bN)(a:Addr)(kvs:AZ):Prop:=∀h:bK,K.In h->StrTab P w h a (kvs.map λp=>(Ue p.1,sV p.2))
def Y9(x:Str)(kvs:AZ):RC (.str x) (kvs.map λp=>(Ue p.1,sV p.2))=(kvs.lookup x).map sV:=by
 induction kvs with
 |nil=>rfl|cons p r a=>
  obtain⟨k,v⟩:=p;rw[jB];show(if(k==x)=aB then aA (sV v) else RC (.str x) (r.map λp=>(Ue p.1,sV p.2)))=_;by_cases h:k=x
  .simp_all
  .have b:=beq_eq_false_iff_ne.2 h;have c:=beq_eq_false_iff_ne.2 (lM h);rw[b,c,if_neg iA,a]
def getOf(kvs:AZ)(x:Str)(z:Int):Int:=(kvs.lookup x).getD z
def aQz(X:Cx)(to:TE)(t:TA):TE:=λZ H Q=>to Z H λx H1=>∃a kvs,x = .ref a/\sg X.prog X.w X.K a kvs/\t Z H1 λvs H2=>∃s z,vs=[.str s,.int z]/\Q (.int<|getOf kvs s z) H2
def aEd{to:TE}{t:TA}(ho:PE X o to)(ha:PA X [a,b] t)(hb:lQ o=aB)(hs:cF a=aB)(hs2:cF b=aB)(hl:(apos.endLine==pos.line)=aB):PE X (.Call (.Attribute o "get" apos) [a,b] [] pos) (aQz X to t):=by
 intro ap s l H Q I h;refine RV (uU hb) (by rw[gE hs,gE hs2];rfl) hl rfl<|bG (ho ap s l H _ I h) λv s1 j=>?_;obtain⟨x,H1,m,w,p,c,e,tab,y⟩:=j;subst e;cases w;obtain⟨hn,D,⟨ob,E,F,g1,g2,_⟩,_⟩:=id (tab _ m.fP);refine⟨"dict","dict.get",QV,qz,RA,⟨ob,g1,g2.1⟩,λG A=>?_,?_⟩
 .cases A;exact⟨ob,g1,g2.2.1⟩
 .have n:=ha pos ap s1 l H1 _ m y;rw[gE hs]at n ⊢;refine Sk (by show(aJ||(mD pos<|eS [b] X.env).any (·.1))=aJ;rw[gE hs2]<;>rfl)<|NN ?_;refine bG n λus s2 j=>?_;obtain⟨J,q,g,B,r,z,C,f⟩:=j;subst C;obtain⟨K,L,rfl,⟨t1,rfl⟩,⟨u,rfl⟩⟩:=yZ B;have i:=Y9 r c;unfold getOf at f;cases lk:c.lookup r with
  |some d=>
   rw[lk]at i f;exact W.kt_get2_thereS (tab _ g.fP) i (QK z u) λv k=>by obtain⟨t3,rfl⟩:=k.int_inv;exact⟨.int d,q,g.tok _,⟨_,rfl⟩,f⟩
  |none=>
   rw[lk]at i f;exact W.kt_get2_noneS (tab _ g.fP) i (QK z u) λv k=>by obtain⟨t3,rfl⟩:=k.int_inv;exact⟨.int z,q,g.tok _,⟨_,rfl⟩,f⟩
def LH:AV->Option (List<|Str×Int)
 |.pC kvs=>aA kvs
 |_=>aD
def oo:'%'->Option (Str×Int)
 |[.str s,.int z]=>aA (s,z)
 |_=>aD
def aQc{s:Str}{z:Int}(h:oo xs=aA (s,z)):xs=[.str s,.int z]:=by
 unfold oo at h;split at h
 .grind
 .exact bU h
def Kv(o:M AV)(r:M '%'):M AV:=o.bind λx h=>match LH x with
 |some kvs=>(r.bind λxs h2=>match oo xs with
  |some (s,z)=>.ok (.int<|getOf kvs s z) h2
  |none=>.D0) h
 |none=>.D0
def aHy(hT:∀kvs a,T.G kvs a->sg X.prog X.w X.K a kvs)(ho:QE X T E o ma)(ha:QA X T E [a,b] mr)(hb:lQ o=aB)(hs:cF a=aB)(hs2:cF b=aB)(hl:(apos.endLine==pos.line)=aB) :
  QE X T E (.Call (.Attribute o "get" apos) [a,b] [] pos) (λZ=>Kv (ma Z) (mr Z)):=by
 obtain⟨ta,pa,m⟩:=ho;obtain⟨tr,pr,n⟩:=ha;refine⟨_,aEd pa pr hb hs hs2 hl,λq Z c h H Q R S w=>m q Z c h H _ R S (B9 w λd x D k H1 r t u w1=>?_)⟩;have w2:W T (aV T) (match LH x with
  |some kvs=>((mr Z).bind λxs f=>match oo xs with
   |some (s,z)=>.ok (.int<|getOf kvs s z) f
   |none=>.D0) k
  |none=>F3.D0) d H1 Q E:=w1
 cases x with
 |pC kvs=>
  cases u with
  |@pC _ p e=>
   refine⟨p,kvs,rfl,hT kvs p e,n d Z c k H1 _ t (S.ext r) (B9 w2 λg xs v f y F R2 A w3=>?_)⟩;have i:W T (aV T) (match oo xs with
    |some (s,z)=>.ok (.int<|getOf kvs s z) f
    |none=>F3.D0) g y Q E:=w3
   cases l:oo xs with
   |none=>rw[l]at i;cases i|some p=>
    obtain⟨s,z⟩:=p;have ex:=aQc l;subst ex;cases A with
    |cons B rs=>
     cases B;cases rs with
     |cons C j=>cases C;cases j;exact⟨s,z,rfl,C0 i R2 (.int _)⟩
 |_=>exact w2.elim
end
section
variable {o v:aI}{f:Str}{pos':Pos}
theorem Kg{v:AV}:∀{fs:AL}{ys:AJ},bF T Y H (fs.map (·.2)) ys->fs.lookup f=aA v->∃y,((fs.map (·.1)).zip ys).lookup f=aA y/\aV T Y H v y
 |[],_,_,l=>by cases l
 | (k,x)::fs,_,.cons h a,l=>by
  rw[jB]at l;rw[fJ,qp,jB];cases hb:(f==k) with
  |true=>simp only[hb]at l ⊢;cases l;exact⟨_,rfl,h⟩
  |false=>simp only[hb]at l ⊢;exact Kg a l
def Cb:AV->AG
 |.int i=>aA i
 |_=>aD
def DH(r:aV T Y H x x')(e:Cb x=aA i):x' = .int i:=by
 cases r with
 |int j=>cases e;rfl|_=>exact bU e
def T3:bA->Option (Nat×AL)
 |.ins c fs=>aA (c,fs)
 |_=>aD
def yI(h:AH):AV->Option (Nat×Nat×AL)
 |.ref n=>((h.ob n).bind T3).map λq=>(n,q)
 |_=>aD
def km{fs:AL}(e:h.ob n=aA (.ins c fs)):yI h (.ref n)=aA (n,c,fs):=by simp only[yI,e];rfl
inductive Wj(T:D8)(Y:AI)(h:AH)(H:Hp)(x:AV)(x':V)(n c:Nat)(fs:AL):Prop
 |mk (p C dx:Addr) (ys:AJ) (_:x = .ref n) (_:x' = .ref p) (_:Y[n]?=aA p) (_:h.ob n=aA (.ins c fs)) (_:T.C c=aA C) (_:H p=aA (.ins C dx<|(fs.map (·.1)).zip ys)) (_:bF T Y H (fs.map (·.2)) ys):Wj T Y h H x x' n c fs
def ve{fs:AL}(R:'3')(r:aV T Y H x x')(e:yI h x=aA (n,c,fs)) :
  Wj T Y h H x x' n c fs:=by
 cases r with
 |@ref m p q=>
  obtain⟨⟨l,b⟩,d,f⟩:=gT.1 e;cases f;obtain⟨u,ob,a⟩:=f'.1 d;cases u with
  |ins c fs=>cases a;obtain⟨C,i,o,j,k,g,rfl,r⟩:=R.obj n _ p ob q;exact⟨p,C,i,j,rfl,rfl,q,ob,k,g,r⟩
  |_=>exact bU a
 |_=>exact bU e
def EN{α β:Type}{fs:List (α×AV)}{ys:List β}(h:B3 fs<n):B3 ((fs.map (·.1)).zip ys)<n:=by grind
def yB(cs:AU)(f:Str)(x:AV):M AV:=λh=>oM (yI h x) λq=>oM (if cs.contains q.2.1=aB then q.2.2.lookup f else aD) λv=>.ok v h
def jf(K:bN)(T:D8)(cs:AU)(f:Str):Prop:=∀c C,cs.contains c=aB->T.C c=aA C->nR K C/\xJ K C f
def aHx{cs:AU}(hC:jf X.K T cs f)(ho:QE X T E o ma)(hb:lQ o=aB):QE X T E (.Attribute o f pos) (λZ=>(ma Z).bind (yB cs f)):=by obtain⟨ta,pa,e⟩:=ho;refine⟨_,aEc pa (uU hb),λi Z a h H Q R S w=>e i Z a h H _ R S (B9 w λj x A b H1 B d k w1=>?_)⟩;obtain⟨⟨n,c,fs⟩,m,w2⟩:=w1.oM;obtain⟨v,ev,w3⟩:=w2.oM;obtain⟨hm,l⟩:=n8.1 ev;obtain⟨p,C,s,D,rfl,rfl,q,ob,t,g,r⟩:=ve d k m;obtain⟨y,l2,u⟩:=Kg r l;obtain⟨b,z⟩:=hC c C hm t;exact⟨p,C,s,_,y,rfl,g,b,z,l2,C0 w3 d u⟩
def iT(f:Str)(v:AV):AL->AL
 |[]=>[(f,v)]
 | (g,x)::r=>if g=f then(g,v)::r else(g,x)::iT f v r
theorem HS{v:AV}{y:V}(rv:aV T Y H v y):∀{fs:AL}{ys:AJ},bF T Y H (fs.map (·.2)) ys->∃ys',iU f y ((fs.map (·.1)).zip ys)=((iT f v fs).map (·.1)).zip ys'/\bF T Y H ((iT f v fs).map (·.2)) ys'
 |[],_,.nil=>⟨[y],rfl,.cons rv .nil⟩
 | (k,x)::fs,_,.cons (y:=z) (ys:=zs) h b=>by
  obtain⟨ys',e,r⟩:=HS rv b;by_cases a:k=f
  .refine⟨y::zs,?_,?_⟩
   .simp only[iT,if_pos a,fJ,qp,iU]
   .simp only[iT,if_pos a];exact .cons rv b
  .refine⟨z::ys',?_,?_⟩
   .simp_all[iT,a,iU,e]
   .simp only[iT,if_neg a];exact .cons h r
def DG{p C:Addr}{fs:AL}{v:AV}{y:V}(R:'3')(ob:h.ob n=aA (.ins c fs))(q:Y[n]?=aA p)(hc:T.C c=aA C)(g:H p=aA (.ins C dx<|(fs.map (·.1)).zip ys))(r:bF T Y H (fs.map (·.2)) ys)(rv:aV T Y H v y) :
  bP T Y (h.C9 n<|.ins c<|iT f v fs) (D4 H p<|.ins C dx<|iU f y<|(fs.map (·.1)).zip ys)/\E2 Y H Y (D4 H p<|.ins C dx<|iU f y<|(fs.map (·.1)).zip ys):=by
 obtain⟨a,b,d⟩:=HS rv r;rw[b];exact R.write ob rfl rfl q g (λ_ z=>nomatch z) (λ_ _ z=>nomatch z) ⟨C,dx,_,a,hc,gG,rfl,d.ext (gp g (λ_ z=>nomatch z) λ_ _ z=>nomatch z)⟩
def BL(cs:AU)(f:Str)(a b:M AV)(Z:aF):M E3:=b.bind λv=>a.bind λx h=>oM (yI h x) λq=>if cs.contains q.2.1=aB/\B3 q.2.2<1000 then .ok (.nx Z) (h.C9 q.1<|.ins q.2.1<|iT f v q.2.2) else .D0
def aLx{cs:AU}(hC:jf X.K T cs f)(ho:QE X T E o ma)(hv:QE X T E v mb)(hs:xF v (aA<|.Attribute o f pos') pos.line X.env=pure aJ) :
  QS X T E (.Assign [.Attribute o f pos'] v pos) (λZ=>BL cs f (ma Z) (mb Z) Z):=by
 obtain⟨ta,pa,l⟩:=ho;obtain⟨tb,m,s⟩:=hv;refine⟨_,aGi pa m hs,λt Z a h H D R S w=>s t Z a h H _ R S (B9 w λd y N u H1 e z A w1=>l d Z a u H1 _ z (S.ext e) (B9 w1 λB x O P Q i R2 F w2=>?_))⟩;obtain⟨⟨n,c,fs⟩,G,w3⟩:=w2.oM;obtain⟨hm,I⟩:=W.ite w3;obtain⟨p,C,J,U,rfl,rfl,q,ob,j,g,r⟩:=ve R2 F G;obtain⟨K,L⟩:=hC c C hm.1 j;obtain⟨M,k⟩:=DG R2 ob q j g r (A.ext i);exact⟨p,C,J,_,rfl,g,K,L,EN hm.2,W.ok (b:=jV.nx a) I k M ((S.ext e).ext (i.trans k))⟩
inductive au(X:Cx)(T:D8)(EE:L2.St->XK)(C:Addr)(m:Str)(g:AY->M AV):Prop
 |mk (k:Nat) (f:Addr) (fd:fA) (ps:AK) (_:iQ X.prog X.w X.K X.mg X.base (lD X.prog X.w) k f fd ps (uF T g)) (_:fM k X.A) (_:nR X.K C) (_:zy X.K C m f) (_:E5 X.K fd ps []) (_:Wo (lD X.prog X.w) X EE):au X T EE C m g
def LA(X:Cx)(T:D8)(m:Str)(EE:L2.St->XK)(ta:TE)(t:TA):TE:=λZ H Q=>ta Z H λx H1=>∃(a C dx:Addr) (fs:A2) (g:'%'->M AV),x = .ref a/\H1 a=aA (.ins C dx fs)/\fs.lookup m=aD/\au X T EE C m g /\
 t Z H1 λvs H2=>uF T g (x::vs) H2 Q (EE Z)
variable {EE:L2.St->XK}
variable {m:Str}{ta:TE}{t:TA}
def Iy{Xe:Value->aK->Prop}{Q:Value->aK->Prop}(h0:rh o m env (eval o env)=eval o env)
  (h1:Vk (B3 args+B3 ([]:List pP)) (mD pos<|eS args env) (zY pos<|af [] env)=aB)(h2:(apos.endLine==pos.line)=aB)
  (h:aT '1' A (eval o env) (λov s1=>∀pl,aT '1' A (Vh ov m pl) (λfx s2=>aT '1' A (callWith pos fx.1 fx.2 (mD pos<|eS args env)<|zY pos<|af [] env) Q Xe s2) Xe s1) Xe s) :
  aT '1' A (eval (.Call (.Attribute o m apos) args [] pos) env) Q Xe s:=by
 have a:RQ aB o env apos pos=pure pos:=by unfold RQ;simp[h2]
 rw[arm_eval_Call,h0];refine aR<|bG h λov s1 z=>aR (zo ?_);unfold methodCall;rw[h1];exact aR<|jc<|bG (z _) λfx s2 y=>aR (Vv a y)
def Ki(hs:args.all cF=aB)(hn:B3 args<30):Vk (B3 args+B3 ([]:List pP)) (mD pos<|eS args env) (zY pos<|af [] env)=aB:=by unfold Vk;rw[<- OZ,uE hs];simpa[af,zY]using hn
def aEk(he:PE X o ta)(ha:PA X (e::es) t)(hb:lQ o=aB)(hs:(e::es).all cF=aB)(hn:B3 (e::es)<30)(hl:(apos.endLine==pos.line)=aB):PE X (.Call (.Attribute o m apos) (e::es) [] pos) (LA X T m EE ta t):=by
 intro ap s i H Q I h;have b:=hs;rw[lZ,bY]at hs;refine Iy (uU hb) ?_ hl<|bG (he ap s i H _ I h) λu s1 ⟨x,H1,j,p,a,C,z,fs,g,ex,v,l,F,q⟩ pl=>?_
 .exact Ki b hn
 subst ex;obtain rfl:u=lA a:=p;obtain⟨k,f,fd,ps,F,hr,c,hm,d,w⟩:=F;refine CS j v c hm l ?_;refine Hg I.ok.mod.ky hm.kp (bG (ha pos ap s1 i H1 _ j q) λus s2 ⟨vs,A,n,r,y⟩=>⟨n.fP,?_⟩) (gE hs.1)<|uE hs.2;exact JS (vs:=.ref a::vs) F hr d w n (.cons rfl r) y
def aEm(he:PE X o ta)(hb:lQ o=aB)(hl:(apos.endLine==pos.line)=aB):PE X (.Call (.Attribute o m apos) [] [] pos) (LA X T m EE ta oq):=by intro ap s e H Q I h;refine Iy (uU hb) (Ki rfl '#') hl<|bG (he ap s e H _ I h) λu s1 ⟨x,H1,b,i,a,C,p,fs,g,ex,j,l,F,q⟩ pl=>?_;subst ex;obtain rfl:u=lA a:=i;obtain⟨k,f,fd,ps,F,hr,c,hm,d,n⟩:=F;refine CS b j c hm l ?_;exact Up b.fP hm.kp<|JS (vs:=[.ref a]) F hr d n b (.cons rfl .nil) q
def Dd(dp:Nat->Option ('%'->M AV))(m:Str)(r:M '%')(x:AV):M AV:=λh=>oM (yI h x) λq=>oM (dp q.2.1) λg=>if q.2.2.lookup m=aD then(r.bind λxs=>g (.ref q.1::xs)) h else .D0
def De(dp:Nat->Option ('%'->M AV))(m:Str)(a:M AV)(r:M '%'):M AV:=a.bind (Dd dp m r)
theorem BM:∀{fs:AL}{ys:AJ},bF T Y H (fs.map (·.2)) ys->fs.lookup f=aD->((fs.map (·.1)).zip ys).lookup f=aD
 |[],_,.nil,_=>rfl
 | (k,x)::fs,_,.cons h a,l=>by
  rw[jB]at l;rw[fJ,qp,jB];cases hb:(f==k) with
  |true=>simp only[hb]at l;cases l|false=>simp only[hb]at l ⊢;exact BM a l
def FK{r:M '%'}(hM:∀c C g,dp c=aA g->T.C c=aA C->au X T EE C m g)(R:'3')(q:aV T Y H x x')
  (w:W T (aV T) (Dd dp m r x h) Y H Q (EE Z'))(rr:∀Q',W T (bF T) (r h) Y H Q' (EE Z')->t Z' H Q') :
  ∃(a C dx:Addr) (fs:A2) (g:'%'->M AV),x' = .ref a/\H a=aA (.ins C dx fs)/\fs.lookup m=aD/\au X T EE C m g/\t Z' H λvs H2=>uF T g (x'::vs) H2 Q (EE Z'):=by
 obtain⟨⟨n,c,fs⟩,d,w2⟩:=w.oM;obtain⟨g,hd,w3⟩:=w2.oM;obtain⟨l,e⟩:=W.ite w3;obtain⟨p,C,dx,v,rfl,rfl,f,ob,i,g1,j⟩:=ve R q d;exact⟨p,C,dx,_,g,rfl,g1,BM j l,hM c C g hd i,rr _ (B9 e λb xs k o H2 s R2 u w2=>⟨b,o,.ref n::xs,R2,.cons (.ref<|s.pre n p f) u,w2⟩)⟩
def aIg(hM:∀c C g,dp c=aA g->T.C c=aA C->au X T (λ_=>E) C m g)(ho:QE X T E o ma)(ha:QA X T E (e::es) mr)(hb:lQ o=aB)(hs:(e::es).all cF=aB)
  (hn:B3 (e::es)<30)(hl:(apos.endLine==pos.line)=aB):QE X T E (.Call (.Attribute o m apos) (e::es) [] pos) (λZ=>De dp m (ma Z) (mr Z)):=by
 obtain⟨ta,pa,f⟩:=ho;obtain⟨tr,pr,i⟩:=ha;exact⟨_,aEk pa pr hb hs hn hl,λj Z a h H Q R S w=>f j Z a h H _ R S (B9 w λb x p k H1 l d n w1=>FK hM d n w1 λq w2=>i b Z a k H1 _ d (S.ext l) w2)⟩
def aIh(hM:∀c C g,dp c=aA g->T.C c=aA C->au X T (λ_=>E) C m g)(ho:QE X T E o ma)(hb:lQ o=aB)(hl:(apos.endLine==pos.line)=aB) :
  QE X T E (.Call (.Attribute o m apos) [] [] pos) (λZ=>De dp m (ma Z) (B8 [])):=by
 obtain⟨ta,pa,d⟩:=ho;exact⟨_,aEm pa hb hl,λe Z a h H Q R S w=>d e Z a h H _ R S (B9 w λf x j k H1 l b i w1=>FK hM b i w1 λn w2=>C0 w2 b .nil)⟩
inductive zt(X:Cx)(T:D8)(E:XK)(x:Str)(c:Nat)(dv:AY)(g:AY->M AV):Prop
 |mk (k:Nat) (C f:Addr) (fd:fA) (ps:AK) (ds:A5) (dvs:AJ) (_:T.C c=aA C) (_:Mk X.K C f) (_:iQ X.prog X.w X.K X.mg X.base (lD X.prog X.w) k f fd ps (uF T g)) (_:fM (k+1) X.A) (_:X.mg x=aA (.ref C)) (_:E5 X.K fd ps ds) (_:D5 dvs ds) (_:(∀Y H,bF T Y H dv dvs)) (_:sY (lD X.prog X.w) X E):zt X T E x c dv g
def isNone:AV->Bool
 |.aG=>aB
 |_=>aJ
def Cv(c:Nat)(dv:'%')(g:'%'->M AV)(r:M '%'):M AV:=r.bind λxs h=>((g<|.ref h.nx::(xs++dv)).bind λv=>if isNone v=aB then B8 (.ref h.nx) else C5) (h.C8<|.ins c [])
def FF{C:Addr}{g:'%'->M AV}(hc:T.C c=aA C)(R:'3')(r:bF T Y H xs ys)(h1:H a=aD)(h2:H dx=aD)(h3:dx≠a)
  (w:W T (aV T) (((g<|.ref h.nx::xs).bind λv=>if isNone v=aB then B8 (.ref h.nx) else C5)<|h.C8<|.ins c []) Y H Q E) :
  uF T g (.ref a::ys) (D4 (D4 H dx<|.own a) a<|.ins C dx []) (λv H2=>v = .aG/\Q (.ref a) H2) E:=by
 have d:E2 Y H Y (D4 H dx<|.own a):=.lX h2;have hn:(D4 H dx<|.own a) a=aD:=by rw[cB (lM h3)];exact h1
 obtain⟨R2,f⟩:=(R.D7 (a:=dx) (o:=.own a) h2).alloc (o:=.ins c []) hn ⟨C,dx,[],[],hc,gG,rfl,.nil⟩;have e:=d.trans f;have b:(Y++[a])[h.nx]?=aA a:=by simp_all[R.len]
 refine⟨Y++[a],h.C8 (.ins c []),.ref h.nx::xs,R2,.cons (.ref b) (r.ext e),B9 (w.ext e) λi v m h3 n j k l w3=>?_⟩;cases v with
 |aG=>cases l;exact⟨rfl,C0 w3 k (.ref<|j.pre _ _ b)⟩
 |_=>exact w3.elim
def aIe{x:Str}{g:'%'->M AV}(F:zt X T E x c dv g)(hg:Gl X x)(ha:QA X T E (e::es) mr)(hs:(e::es).all cF=aB)(hd:'B'=aJ) :
  QE X T E (.Call (.Name x p) (e::es) [] pos) (λZ=>Cv c dv g (mr Z)):=by
 obtain⟨k,C,f,fd,ps,ds,i,j,K,F,hr,hm,hb,l,b,m⟩:=F;obtain⟨tr,pr,n⟩:=ha;rw[lZ,bY]at hs;exact⟨_,aEi K F hr hg hm hb l m pr hd (gE hs.1) (uE hs.2),λo Z d h H Q R S w=>n o Z d h H _ R S (B9 w λq xs r z H1 A s t w1=>λa B u v y=>FF j s (t.append<|b _ _) u v y w1)⟩
def aIf{x:Str}{g:'%'->M AV}(F:zt X T E x c dv g)(hg:Gl X x)(hd:'B'=aJ) :
  QE X T E (.Call (.Name x p) [] [] pos) (λZ=>Cv c dv g (B8 [])):=by
 obtain⟨k,C,f,fd,ps,ds,d,e,K,F,hr,hm,hb,i,b,j⟩:=F;exact⟨_,aEj K F hr hg hm hb i j hd,λq Z l h H Q R S w=>λa r m n o=>FF e R (b _ _) m n o w⟩
def Xg(cs:AU)(f:Str)(a b:M AV)(Z:aF):M E3:=a.bind λx h=>oM (yI h x) λq=>oM (if cs.contains q.2.1=aB then(q.2.2.lookup f).bind Cb else aD) λi=>
 (b.bind λy h2=>oM (Cb y) λj=>oM (yI h2 x) λr=>if r.2.1=q.2.1/\B3 r.2.2<1000 then .ok (.nx Z) (h2.C9 r.1<|.ins r.2.1<|iT f (.int<|i+j) r.2.2) else .D0) h
def aLy{cs:AU}{tpos:Pos}(hC:jf X.K T cs f)(ho:QE X T E o ma)(hv:QE X T E v mb) :
  QS X T E (.AugAssign (.Attribute o f tpos) .Add v pos) (λZ=>Xg cs f (ma Z) (mb Z) Z):=by
 obtain⟨ta,pa,L⟩:=ho;obtain⟨tb,M,N⟩:=hv;refine⟨_,aGj pa M S9,λO Z a h H D R S w=>L O Z a h H _ R S (B9 w λe x x' P H1 B F G w1=>?_)⟩;obtain⟨⟨n,c,fs⟩,Q,w2⟩:=w1.oM;obtain⟨i,ev,w3⟩:=w2.oM;obtain⟨hm,U⟩:=n8.1 ev;obtain⟨v1,l,k⟩:=f'.1 U;obtain⟨p,C,V,ys,ex,d,q,ob,m,g,r⟩:=ve F G Q;obtain⟨y1,l2,Y⟩:=Kg r l;obtain⟨Lm,c2⟩:=hC c C hm m;refine⟨p,C,V,_,_,d,g,Lm,c2,l2,N e Z a P H1 _ F (S.ext B) (B9 w3 λρ2 y y' h2 H2 I R2 q2 w4=>?_)⟩;obtain⟨j,ej,w5⟩:=w4.oM;obtain⟨⟨n2,c',fs2⟩,s,w6⟩:=w5.oM;obtain⟨J,w7⟩:=W.ite w6;obtain⟨p2,C2,t,ys2,ey,u,q',z,A,g2,r2⟩:=ve R2 (G.ext I) s;obtain rfl:c'=c:=J.1;cases m.symm.trans A;cases d.symm.trans u;obtain⟨R3,K⟩:=DG R2 z q' m g2 r2 (.int<|i+j);exact⟨i,j,DH Y k,DH q2 ej,t,_,g2,EN J.2,W.ok (b:=jV.nx a) w7 K R3 ((S.ext B).ext (I.trans K))⟩
structure Wk(K:bN)(C:Addr):Prop where
 cl:nR K C
 ha:oQ K (.ref C) "__class__"=aA (aA<|.builtin "object.__class__")
 hn:Hk K (.builtin "object.__class__") "__get__"=aA (aA<|.builtin "getset_descriptor.__get__")
 ht:W.takesIn K (.builtin "object.__class__")=aA aB
 hm:W.mroIn K C (.type "object")=aA aB
def su(sub:Bool)(i:Nat)(b:M AV)(Z:aF):M E3:=match Z[i]? with
 |some (aA<|.int a)=>b.bind λy=>match y with
  |.int j=>B8 (.nx<|Z.set i<|aA<|.int<|if sub=aB then a-j else a+j)
  |_=>C5
 |_=>C5
def aLt{i:Nat}{x:Str}(sub:Bool)(hN:X.N.Nodup)(hi:X.N[i]?=aA x)(hx:aq X.env.scope x)(hf:X.fn x=aB\/X.env.scope.names.lookup x=aA .local)(hv:QE X T E v mb) :
  QS X T E (.AugAssign (.Name x pos') (if sub=aB then .Sub else .Add) v pos) (λZ=>su sub i (mb Z) Z):=by
 obtain⟨tb,d,e⟩:=hv;have f:Aa X (if sub=aB then .Sub else .Add) (Ln λa j=>if sub=aB then a-j else a+j):=by
  cases sub
  .exact U1
  .exact U2
 refine⟨_,aGe hN hi hx d f hf,λk Z c h H D R S w=>?_⟩;unfold su at w;cases l:Z[i]? with
 |none=>simp only[l]at w;cases w|some u=>
  cases u with
  |none=>simp only[l]at w;cases w|some a=>
   obtain⟨y,g,r⟩:=S.2 i a l;cases a with
   |int a=>
    simp only[l]at w;cases r;refine⟨_,g,e k Z c h H _ R S (B9 w λm z q s H1 n o p w1=>?_)⟩;cases z with
    |int j=>cases p;exact⟨a,j,rfl,rfl,C0 (b:=jV.nx (c.set i<|aA<|.int<|if sub=aB then a-j else a+j)) w1 o ((S.ext n).set (.int _) i)⟩
    |_=>exact w1.elim
   |_=>simp only[l]at w;exact w.elim
inductive Hu(X:Cx)(T:D8)(E:XK)(x m:Str)(g:AY->M AV):Prop
 |mk (k:Nat) (C f:Addr) (fd:fA) (ps:AK) (_:X.mg x=aA (.ref C)) (_:iQ X.prog X.w X.K X.mg X.base (lD X.prog X.w) k f fd ps (uF T g)) (_:fM k X.A) (_:uO X.K (.ref f)=aB) (_:Hk X.K (.ref C) "__getattribute__"=aA (aA<|.builtin "type.__getattribute__")) (_:Uw X.K C (.type "type")=aB) (_:Ur X.K (.ref C) (.type "type") m=aA (.val<|.ref f)) (_:Hh (.ref f)=aB) (_:E5 X.K fd ps []) (_:sY (lD X.prog X.w) X E):Hu X T E x m g
def aHs{x:Str}{g:'%'->M AV}(B:Hu X T E x m g)(hg:Gl X x)(hd:'B'=aJ)(ha:QA X T E (e::es) mr)(hs:(e::es).all cF=aB)(hn:B3 (e::es)<30)
  (hl:(apos.endLine==pos.line)=aB):QE X T E (.Call (.Attribute (.Name x p) m apos) (e::es) [] pos) (λZ=>(mr Z).bind g):=by
 obtain⟨k,C,f,fd,ps,hm,F,hr,kp,c,o,t,z,hb,A⟩:=B;obtain⟨tr,pr,D⟩:=ha;refine⟨λZ H Q=>tr Z H λa b=>uF T g a b Q E,?_,λG Z d h H Q R S w=>D G Z d h H _ R S (B9 w λi xs J c H1 P K L w1=>⟨i,c,xs,K,L,w1⟩)⟩;intro ap s Z H Q I h;have j:=hs;rw[lZ,bY]at hs;refine Iy (uU rfl) (Ki j hn) hl<|bG ((GY (v:=.ref C) hg hm rfl hd) ap s Z H (λy H1=>y = .ref C/\tr Z H1 λa b=>uF T g a b Q E) I ⟨rfl,h⟩) λu s1 ⟨y,H1,l,N,O,q⟩ pl=>?_;subst O;obtain rfl:u=lA C:=N;refine W.method_cls l.fP c<|W.cls_value l.fP o t z ?_;refine Hg I.ok.mod.ky kp (bG (pr pos ap _ Z H1 _ (l.tok _) q) λus s2 ⟨a,b,n,r,U⟩=>⟨n.fP,?_⟩) (gE hs.1)<|uE hs.2;exact Pp F hr hb .nil A n r (by left)
end
section
variable {o:aI}
def yA(x:AV):M AV:=λh=>match x with
 |.ref n=>match h.ob n with
  |some (.l aB _)=>.ok .aG (h.C9 n<|.l aB [])
  |_=>.D0
 |_=>.D0
def dq(x:AV):M AV:=λh=>match x with
 |.ref n=>match h.ob n with
  |some (.l aB xs)=>match xs[B3 xs-1]? with
   |some y=>.ok y (h.C9 n<|.l aB xs.dropLast)
   |none=>.D0
  |_=>.D0
 |_=>.D0
def aHr(hK:X.K=T.K)(ho:QE X T E o ma)(hb:lQ o=aB)(hl:(apos.endLine==pos.line)=aB):QE X T E (.Call (.Attribute o "clear" apos) [] [] pos) (λZ=>(ma Z).bind yA):=by
 obtain⟨ta,pa,d⟩:=ho;refine⟨_,GW Uj aYm aYq aAl pa (uU hb) hl,λe Z a h H Q R S w=>?_⟩;refine d e Z a h H _ R S<|B9 w λf x l g H1 m b i w1=>?_;cases x with
 |ref n=>
  cases i with
  |@ref _ p q=>
   simp only[yA]at w1;cases ob:g.ob n with
   |none=>rw[ob]at w1;cases w1|some u=>
    rw[ob]at w1;cases u with
    |l mu xs=>
     cases mu with
     |false=>cases w1|true=>obtain⟨c,g1,r⟩:=b.obj n _ p ob q;obtain⟨j,k⟩:=b.write (o':=.l aB []) ob rfl rfl q g1 (nofun) (λ_ _ z=>by cases z) ⟨_,gG,.nil⟩;exact⟨.inl ⟨rfl,⟨c,.inl (.inl g1)⟩⟩,p,c,rfl,rfl,g1,W.ok w1 k j .aG⟩
    |_=>cases w1
 |_=>cases w1
theorem bF.dropLast{Y:AI}{H:Hp}{xs:'%'}{ys:AJ}(r:bF T Y H xs ys):bF T Y H xs.dropLast ys.dropLast:=by rw[OB,OB,r.length];exact r.take _
def aIm(hK:X.K=T.K)(ho:QE X T E o ma)(hb:lQ o=aB)(hl:(apos.endLine==pos.line)=aB):QE X T E (.Call (.Attribute o "pop" apos) [] [] pos) (λZ=>(ma Z).bind dq):=by
 obtain⟨ta,pa,i⟩:=ho;refine⟨_,GW Uj PySem.F.slot_list_pop PySem.F.type_list_pop aAq pa (uU hb) hl,λY Z a h H Q R S w=>?_⟩;refine i Y Z a h H _ R S<|B9 w λb x s j H1 t f k w1=>?_;cases x with
 |ref n=>
  cases k with
  |@ref _ p q=>
   simp only[dq]at w1;cases ob:j.ob n with
   |none=>rw[ob]at w1;cases w1|some u=>
    rw[ob]at w1;cases u with
    |l mu xs=>
     cases mu with
     |false=>cases w1|true=>
      obtain⟨c,g1,d⟩:=f.obj n _ p ob q;dsimp only at w1;cases e:xs[B3 xs-1]? with
      |none=>rw[e]at w1;cases w1|some y=>rw[e]at w1;obtain⟨l,g2,m⟩:=d.get e;have ex:=gp (Y:=b) (O':=.l c.dropLast) g1 (λ_ z=>by cases z) (λ_ _ z=>by cases z);obtain⟨r,g⟩:=f.write (o':=.l aB xs.dropLast) ob rfl rfl q g1 (λ_ z=>by cases z) (λ_ _ z=>by cases z) ⟨_,gG,d.dropLast.ext ex⟩;exact⟨.inl ⟨rfl,⟨c,.inl (.inl g1)⟩⟩,p,c,l,rfl,rfl,g1,by simp_all[d.length],W.ok w1 g r (m.ext g)⟩
    |_=>cases w1
 |_=>exact w1.elim
def Jk:M AV:=λh=>.ok (.ref h.nx) (h.C8<|.aP [])
def aHw:QE X T E (.Dict [] [] pos) (λ_=>Jk):=by refine⟨_,aEb,λe f a h H Q R S w p b=>?_⟩;obtain⟨c,d⟩:=R.alloc (o:=.aP []) b ⟨[],[],gG,rfl,.nil⟩;refine W.ok w d c<|.ref ?_;rw[<- R.len];simp
def Bd(g:AV->'%'->M AV)(a:M AV)(r:M '%'):M AV:=a.bind λx h=>if(fO h x).isSome=aB then(r.bind λxs=>g x xs) h else .D0
def Dz{m:Str}{id:String}{r:V->AJ->Hp->VK->Prop}{g:AV->'%'->M AV} (D9:Slot "dict" m id) (hty:typeOf (.builtin id)=pure (.type "method_descriptor")) (hm:xI X id r)
  (hg:∀Y h H x x' xs gH Q,'3'->aV T Y H x x'->bF T Y H xs gH->W T (aV T) (g x xs h) Y H Q E->r x' gH H Q)
  (ho:QE X T E o ma) (ha:QA X T E (e::es) mr) (hb:lQ o=aB) (hs:(e::es).all cF=aB) (hn:B3 (e::es)<29) (hl:(apos.endLine==pos.line)=aB) :
  QE X T E (.Call (.Attribute o m apos) (e::es) [] pos) (λZ=>Bd g (ma Z) (mr Z)):=by
 obtain⟨ta,pa,l⟩:=ho;obtain⟨tr,pr,p⟩:=ha;have i:=hs;rw[lZ,bY]at hs;refine⟨_,GV QV D9 hty hm pa pr (uU hb) ?_ hl (gE hs.1) (uE hs.2),λY Z c h H Q R S w=>?_⟩
 .rw[<- OZ,(uE (env:=X.env) (pos:=pos) i)];simp only[af,zY,Th,List.all_nil,Tc,List.isEmpty_nil,if_true,Bool.not_false,Bool.true_and,decide_eq_true_eq];lia
 refine l Y Z c h H _ R S<|B9 w λd x x' f H1 s k t w1=>?_;have b:=w1;by_cases hd:qw (fO f x)=aB
 case neg=>rw[if_neg hd]at b;cases b
 rw[if_pos hd]at b;obtain⟨u,hd⟩:=i'.1 hd;obtain⟨n,a,us,rfl,q,ob,rfl,v,C⟩:=tE k t hd;exact⟨.inr (.inr ⟨rfl,us,v⟩),p d Z c f H1 _ k (S.ext s) (B9 b λj xs gH y z A R2 B w2=>hg j y z _ _ xs gH Q R2 (.ref<|A.pre n a q) B w2)⟩
def de(x:AV)(xs:'%'):M AV:=λh=>match fO h x with
 |some kvs=>match xs with
  |[y]=>match fV y with
   |some k=>.ok ((bT kvs k).getD .aG) h
   |none=>
    .D0
  |[y,z]=>match fV y with
   |some k=>.ok ((bT kvs k).getD z) h
   |none=>.D0
  |_=>.D0
 |none=>.D0
def yU:AV->Nat
 |.ref n=>n
 |_=>0
def uq(x:AV)(xs:'%'):M AV:=λh=>match fO h x with
 |some kvs=>match xs with
  |[y]=>match fV y with
   |some k=>match bT kvs k with
    |some v=>.ok v (h.C9 (yU x)<|.aP<|vA kvs k)
    |none=>.D0
   |none=>.D0
  |[y,z]=>match fV y with
   |some k=>match bT kvs k with
    |some v=>.ok v (h.C9 (yU x)<|.aP<|vA kvs k)
    |none=>.ok z h
   |none=>.D0
  |_=>.D0
 |none=>.D0
def ur(x:AV)(xs:'%'):M AV:=λh=>match fO h x with
 |some kvs=>match xs with
  |[y,z]=>match fV y with
   |some k=>if B3 kvs<sizeLine then match bT kvs k with
    |some v=>.ok v h
    |none=>.ok z (h.C9 (yU x)<|.aP<|gM kvs k z)
    else .D0
   |none=>.D0
  |_=>.D0
 |none=>.D0
def p7(Y:AI)(h:AH)(H:Hp)(x:AV)(x':V)(xs:'%')(gH:AJ)(Q:VK)(R:'3')(rx:aV T Y H x x')(rs:bF T Y H xs gH)(w:W T (aV T) (de x xs h) Y H Q E):JE x' gH H Q:=by
 unfold de at w;cases d:fO h x with
 |none=>simp only[d]at w;exact w.elim|some kvs=>
  simp only[d]at w;obtain⟨n,a,us,rfl,q,ob,rfl,gd,rk⟩:=tE R rx d;cases rs with
  |nil=>exact w.elim|@cons y y' ys ys' ry rs=>
   have fin:∀{k:aN}{z:AV} {z':V},aV T Y H z z'->aV T Y H ((bT kvs k).getD z) ((fR us k).getD z'):=λ{k z z'} rz=>by
    obtain⟨g1,g2⟩:=gg (k:=k) rk;cases l:bT kvs k with
    |none=>rw[g2 l];exact rz|some v=>obtain⟨y1,e1,r1⟩:=g1 v l;rw[e1];exact r1
   cases rs with
   |nil=>
    dsimp only at w;cases k:fV y with
    |none=>simp only[k]at w;exact w.elim
    |some k'=>simp only[k]at w;have ek:=tQ ry k;subst ek;exact⟨a,_,_,rfl,mE.k gd,.inl ⟨rfl,C0 w R (fin .aG)⟩⟩
   |@cons z z' zs zs' rz rs=>
    cases rs with
    |nil=>
     dsimp only at w;cases k:fV y with
     |none=>simp only[k]at w;exact w.elim|some k'=>simp only[k]at w;have ek:=tQ ry k;subst ek;exact⟨a,_,_,rfl,mE.k gd,.inr ⟨z',rfl,C0 w R (fin rz)⟩⟩
    |cons _ _=>exact w.elim
def t2(Y:AI)(h:AH)(H:Hp)(x:AV)(x':V)(xs:'%')(gH:AJ)(Q:VK)(R:'3')(rx:aV T Y H x x')(rs:bF T Y H xs gH)(w:W T (aV T) (uq x xs h) Y H Q E):JF x' gH H Q:=by
 unfold uq at w;cases d:fO h x with
 |none=>simp only[d]at w;exact w.elim|some kvs=>
  simp only[d]at w;obtain⟨n,a,us,rfl,q,ob,rfl,gd,rk⟩:=tE R rx d;have wr:∀{k:aN}{v:AV}{y:V},bT kvs k=aA v->aV T Y H v y->W T (aV T) (.ok v<|h.C9 n<|.aP<|vA kvs k) Y H Q E->Q y (D4 H a<|.dK<|rO us k):=λ{k v y} l rv w=>by have ex:=gp (Y:=Y) (p:=a) (O':=.dK (rO us k)) gd (λ_ z=>by cases z) (λ_ _ z=>by cases z);obtain⟨R3,e3⟩:=R.write (o':=.aP (vA kvs k)) (O':=.dK (rO us k)) ob rfl rfl q gd (λ_ z=>by cases z) (λ_ _ z=>by cases z) (ua gG<|(aNy rk).ext ex);exact W.ok w e3 R3<|rv.ext e3
  cases rs with
  |nil=>exact w.elim|@cons y y' ys ys' ry rs=>
   cases rs with
   |nil=>
    dsimp only at w;cases k:fV y with
    |none=>simp only[k]at w;exact w.elim|some k'=>
     simp only[k]at w;have ek:=tQ ry k;subst ek;obtain⟨g1,g2⟩:=gg (k:=k') rk;cases l:bT kvs k' with
     |none=>simp only[l]at w;exact w.elim|some v=>simp only[l]at w;obtain⟨y1,e1,r1⟩:=g1 v l;exact⟨a,us,k',rfl,gd,.inl ⟨rfl,y1,e1,wr l r1 w⟩⟩
   |@cons z z' zs zs' rz rs=>
    cases rs with
    |nil=>
     dsimp only at w;cases k:fV y with
     |none=>simp only[k]at w;exact w.elim|some k'=>
      simp only[k]at w;have ek:=tQ ry k;subst ek;obtain⟨g1,g2⟩:=gg (k:=k') rk;refine⟨a,us,k',rfl,gd,.inr ⟨z',rfl,λv1 e1=>?_,λe1=>?_⟩⟩
      .cases l:bT kvs k' with
       |none=>rw[g2 l]at e1;cases e1|some v=>simp only[l]at w;obtain⟨y1,e2,r1⟩:=g1 v l;rw[e1]at e2;cases e2;exact wr l r1 w
      .cases l:bT kvs k' with
       |none=>simp only[l]at w;exact C0 w R rz|some v=>obtain⟨y1,e2,r1⟩:=g1 v l;rw[e1]at e2;cases e2
    |cons _ _=>exact w.elim
def t8(Y:AI)(h:AH)(H:Hp)(x:AV)(x':V)(xs:'%')(gH:AJ)(Q:VK)(R:'3')(rx:aV T Y H x x')(rs:bF T Y H xs gH)(w:W T (aV T) (ur x xs h) Y H Q E):JG x' gH H Q:=by
 unfold ur at w;cases d:fO h x with
 |none=>simp only[d]at w;exact w.elim|some kvs=>
  simp only[d]at w;obtain⟨n,a,us,rfl,q,ob,rfl,gd,rk⟩:=tE R rx d;cases rs with
  |nil=>exact w.elim|@cons y y' ys ys' ry rs=>
   cases rs with
   |nil=>exact w.elim|@cons z z' zs zs' rz rs=>
    cases rs with
    |nil=>
     dsimp only at w;cases k:fV y with
     |none=>simp only[k]at w;exact w.elim|some k'=>
      simp only[k]at w;have ek:=tQ ry k;subst ek;by_cases hz:B3 kvs<sizeLine
      case neg=>rw[if_neg hz]at w;exact w.elim
      rw[if_pos hz]at w;obtain⟨g1,g2⟩:=gg (k:=k') rk;refine⟨a,us,k',z',rfl,gd,rfl,by rw[<- Ei rk];exact hz,λv1 e1=>?_,λe1=>?_⟩
      .cases l:bT kvs k' with
       |none=>rw[g2 l]at e1;cases e1|some v=>simp only[l]at w;obtain⟨y1,e2,r1⟩:=g1 v l;rw[e1]at e2;cases e2;exact C0 w R r1
      .cases l:bT kvs k' with
       |none=>simp only[l]at w;have ex:=gp (Y:=Y) (p:=a) (O':=.dK (F2 us k' z')) gd (λ_ z=>by cases z) (λ_ _ z=>by cases z);obtain⟨R3,e3⟩:=R.write (o':=.aP (gM kvs k' z)) (O':=.dK (F2 us k' z')) ob rfl rfl q gd (λ_ z=>by cases z) (λ_ _ z=>by cases z) (ua gG<|(Pn rk rz).ext ex);exact W.ok w e3 R3<|rz.ext e3
       |some v=>obtain⟨y1,e2,r1⟩:=g1 v l;rw[e1]at e2;cases e2
    |cons _ _=>exact w.elim
def kP(kvs more:List (aN×AV)):List (aN×AV):=more.foldl (λacc kv=>gM acc kv.1 kv.2) kvs
def JQ:∀{more:List (aN×AV)}{ms:List (aN×V)}{kvs:List (aN×AV)}{us:List (aN×V)},gJ T Y H more ms->gJ T Y H kvs us->gJ T Y H (kP kvs more) (vK us ms):=by
 intro more ms kvs us r;obtain⟨b,rfl,a⟩:=Pm r;clear r;induction more generalizing kvs us b with
 |nil=>intro q;cases a;exact q|cons p ps c=>
  intro q;cases a with
  |cons h t=>exact c _ t<|Pn q h
def uu(x:AV)(xs:'%'):M AV:=λh=>match fO h x with
 |some kvs=>match xs with
  |[y]=>match fO h y with
   |some more=>if yU x≠yU y/\B3 kvs+B3 more<=sizeLine then .ok .aG (h.C9 (yU x)<|.aP<|kP kvs more) else .D0
   |none=>.D0
  |_=>.D0
 |none=>.D0
def u4(Y:AI)(h:AH)(H:Hp)(x:AV)(x':V)(xs:'%')(gH:AJ)(Q:VK)(R:'3')(rx:aV T Y H x x')(rs:bF T Y H xs gH)(w:W T (aV T) (uu x xs h) Y H Q E):JH x' gH H Q:=by
 unfold uu at w;cases d:fO h x with
 |none=>simp only[d]at w;cases w|some g=>
  simp only[d]at w;obtain⟨n,a,us,rfl,q,ob,rfl,i,o⟩:=tE R rx d;cases rs with
  |nil=>cases w|@cons y u v p r rs=>
   cases rs with
   |cons _ _=>exact w.elim|nil=>
    cases d2:fO h y with
    |none=>simp only[d2]at w;cases w|some more=>
     simp only[d2]at w;obtain⟨m,b,ms,rfl,A,j,rfl,k,c⟩:=tE R r d2;by_cases f:yU (.ref n)≠yU (.ref m)/\B3 g+B3 more<=sizeLine
     case neg=>rw[if_neg f]at w;cases w
     rw[if_pos f]at w;have l:a≠b:=λe=>f.1 (R.inj n m a _ _ ob j rfl rfl q (by left));have ex:=gp (Y:=Y) (O':=.dK (vK us ms)) i (λ_ z=>by cases z) (λ_ _ z=>by cases z);obtain⟨s,t⟩:=R.write ob rfl rfl q i (λ_ z=>by cases z) (λ_ _ z=>by cases z) (ua gG<|(JQ c o).ext ex);exact⟨a,b,us,ms,rfl,rfl,l,i,k,by rw[<- Ei o,<- Ei c];exact f.2,W.ok w t s .aG⟩
def gF(ks:AK)(xs:'%'):List (aN×AV):=(ks.map mC).zip xs
def Jg(ks:AK)(n:Nat)(xs:'%'):M AV:=λh=>match h.ob n with
 |some (.aP [])=>if B3 xs=B3 ks/\B3 ks<=15 then .ok (.ref n) (h.C9 n<|.aP<|kP []<|gF ks xs) else .D0
 |_=>.D0
def Bc(ks:AK)(r:M '%'):M AV:=λh=>(r.bind<|Jg ks h.nx) (h.C8<|.aP [])
inductive ax(X:Cx)(T:D8)(E:XK):List (Option aI)->List aI->AK->(aF->M '%')->Prop
 |nil:ax X T E [] [] [] λ_=>B8 []
 |cons {k:Str}{n:Nat}{p:Pos}{e:aI}{m:aF->M AV}{keys:List (Option aI)}{es:List aI}{ks:AK}{mr:aF->M '%'} (h:QE X T E e m) (t:ax X T E keys es ks mr):ax X T E (aA (.Constant (.str k) n p)::keys) (e::es) (k::ks) λZ=>Jc (m Z) (mr Z)
theorem ax.ok{keys:List (Option aI)}{vs:List aI}{ks:AK}{mr:aF->M '%'}(q:ax X T E keys vs ks mr):(keys.all (·.isSome)=aB/\B3 keys=B3 vs/\B3 keys=B3 ks)/\∃trs,si X pos keys vs trs /\
  ∀Y Z Z' h H Q,'3'->cU T Y H Z Z'->W T (bF T) (mr Z h) Y H (λys H2=>Q ((ks.map V.str).zip ys) H2) E->Ew trs Z' H Q:=by
 induction q with
 |nil=>exact⟨⟨rfl,rfl,rfl⟩,[],aFz,λY Z Z' h H Q R S w=>(w:W T (bF T) (.ok [] h) Y H (λys H2=>Q (([]:AJ).zip ys) H2) E) Y [] H .refl R .nil⟩|@cons k n p e m keys A ks mr h t d=>obtain⟨⟨f,B,C⟩,trs,g,i⟩:=d;obtain⟨D,j,re⟩:=h;refine⟨⟨by rw[lZ,f];rfl,by left,by left⟩,_,aFy (HA) j g,λY Z Z' h H Q R S w=>?_⟩;exact re Y Z Z' h H _ R S<|B9 w λb x l o H1 r s u w1=>i b Z Z' o H1 _ s (S.ext r) (B9 w1 λa xs c v H2 y R2 z w2=>(w2:W T (bF T) (.ok (x::xs) v) a H2 _ E) a (l::c) H2 .refl R2 (.cons (u.ext y) z))
def aAr(hl:B3 ys=B3 ks):(ks.map V.str).zip ys=((ks.map mC).zip ys:List (aN×V)).map λkv=>(kV kv.1,kv.2):=by
 induction ks generalizing ys with
 |nil=>rfl|cons k ks a=>
  cases ys with
  |nil=>cases hl|cons y ys=>rw[fJ,fJ,qp,qp,a (by simpa using hl)];rfl
theorem KC{Y:AI}{H:Hp}:∀{ks:AK}{xs:'%'}{ys:AJ},bF T Y H xs ys->B3 xs=B3 ks->gJ T Y H (gF ks xs) ((ks.map mC).zip ys)
 |[],_,_,.nil,_=>oe .nil
 |k::ks,_,_,.cons h t,hl=>by have a:=KC (ks:=ks) t (by left);obtain⟨zs,e,r⟩:=Pm a;have:=oe (kvs:=(mC k,_)::gF ks _) (.cons h r);rw[fJ,qp,<- e]at this;exact this
def aHu{keys:List (Option aI)}{vs:List aI}(q:ax X T E keys vs ks mr)(h0:keys≠[])(h15:B3 keys<=15):QE X T E (.Dict keys vs pos) (λZ=>Bc ks (mr Z)):=by
 obtain⟨⟨i,j,B⟩,k,l,m⟩:=q.ok;refine⟨_,aEa l i j h0 h15,λY Z a h H Q R S w p n=>?_⟩;obtain⟨r,f⟩:=R.alloc (o:=.aP []) n ⟨[],[],gG,rfl,.nil⟩;have s:(Y++[p])[h.nx]?=aA p:=by rw[<- R.len];simp
 refine m _ Z a _ _ _ r (S.ext f)<|B9 (w.ext f) λb xs c t C v R2 g w2=>?_;have d:=v.pre _ _ s;unfold Jg at w2;cases ob:t.ob h.nx with
 |none=>rw[ob]at w2;cases w2|some u=>
  rw[ob]at w2;cases u with
  |aP kvs=>
   cases kvs with
   |cons _ _=>cases w2|nil=>
    obtain⟨us,x,g1,g2,g3⟩:=R2.obj _ _ p ob d;by_cases e:B3 xs=B3 ks/\B3 ks<=15
    case neg=>rw[if_neg e]at w2;cases w2
    rw[if_pos e]at w2;subst g2;have hl:B3 c=B3 ks:=by simp_all[g.length]
    refine⟨g1,(ks.map mC).zip c,aAr hl,by grind,?_⟩;have ex:=gp (Y:=b) (O':=.dK (vK []<|(ks.map mC).zip c)) g1 (nofun) (λ_ _ z=>by cases z);obtain⟨y,A⟩:=R2.write ob rfl rfl d g1 (nofun) (λ_ _ z=>by cases z) (ua gG<|(JQ (KC g e.1)<|oe (kvs:=[]) .nil).ext ex);exact W.ok w2 A y<|.ref d
  |_=>cases w2
set_option genCtorIdx true in
inductive Dm where
 |get
 |pop|setd
 |D4
def Dm.g:Dm->AV->'%'->M AV
 |.get=>de
 |.pop=>uq | .setd=>ur
 |.D4=>uu
def Jj(m:Str):Option Dm:=if m="get" then aA .get else
 if m="pop" then aA .pop else if m="setdefault" then aA .setd else
 if m="update" then aA .D4 else
 aD
def aHv{m:Str}{f:Dm}(hf:Jj m=aA f)(ho:QE X T E o ma)(ha:QA X T E (e::es) mr)(hb:lQ o=aB)(hs:(e::es).all cF=aB)(hn:B3 (e::es)<29)(hl:(apos.endLine==pos.line)=aB) :
  QE X T E (.Call (.Attribute o m apos) (e::es) [] pos) (λZ=>Bd f.g (ma Z) (mr Z)):=by
 unfold Jj at hf;split at hf
 case isTrue h=>cases hf;subst h;exact Dz qz RA aAm p7 ho ha hb hs hn hl
 split at hf
 case isTrue h=>cases hf;subst h;exact Dz Uk PySem.F.type_dict_pop aAn t2 ho ha hb hs hn hl
 split at hf
 case isTrue h=>cases hf;subst h;exact Dz QY aYn aAo t8 ho ha hb hs hn hl
 split at hf
 case isTrue h=>cases hf;subst h;exact Dz QZ aYo aAp u4 ho ha hb hs hn hl
 exact bU hf
end
set_option genCtorIdx true in
inductive Op where
 |add|sub|mul|fdiv|mod|pow|shl|shr|band|bor|bxor|ix
def Op.g:Op->AV->AV->M AV
 |.add=>BV | .sub=>Br | .mul=>uy | .fdiv=>BX | .mod=>CI | .pow=>CL | .shl=>CM | .shr=>CN | .band=>BW | .bor=>CK | .bxor=>CO | .ix=>vG
set_option genCtorIdx true in
inductive Cp where
 |eq|ne|lt|le|gt|ge|kr|isn|kj|nin
variable {o':Cp}
def Cp.g:Cp->AV->AV->M AV
 |.eq=>dh aJ | .ne=>dh aB | .lt=>CD | .le=>CC | .gt=>BZ | .ge=>BY | .kr=>Ko aJ | .isn=>Ko aB | .kj=>qA aJ | .nin=>qA aB
set_option genCtorIdx true in
inductive Bi where
 |len|int|min|max|divmod|tuple|list
def Bi.g:Bi->'%'->M AV
 |.len=>ux | .int=>CA | .min=>CG | .max=>CF | .divmod=>Bo | .tuple=>Bs | .list=>dj
inductive CT where
 |D0
 |nm (i:Nat)
 |tup (is:AU)
def Aj:AU->'%'->aF->M aF
 |[]=>Kz
 |i::is=>Ky (λv Z=>B8 (Z.set i<|aA v)) (Aj is)
def rJ:CT->AV->aF->M aF
 |.D0,_,_=>C5
 |.nm i,v,Z=>B8 (Z.set i<|aA v)
 |.tup is,v,Z=>yD (B3 is) (Aj is) v Z
mutual
inductive Ex where
 |uW (imp:AX) (t:CT) (it:Ir) (e:Ex)
 |uX (imp:AX) (t:CT) (it:Ir) (c e:Ex)
 |kD (d e:Ex)
 |D0|no
 |var (i:Nat)
 |val (v:AV)
 |op (o:Op) (a b:Ex)
 |cmp (o:Cp) (a b:Ex)
 |chain (o o':Cp) (a b c:Ex)
 |neg (a:Ex)
 |not (a:Ex)
 |and (a b:Ex)
 |or (a b:Ex)
 |ite (c a b:Ex)
 |tup (es:eF)
 |l (es:eF)
 |slice (a lo hi:Ex)
 |call (f:Nat) (es:eF)
 |bi (f:Bi) (es:eF)
 |tL (t:BT) (a:Ex)
 |kc (k:Kc) (a:Ex)
 |lR (cs:AU) (f:Str) (o:Ex)
 |sA (m:Str) (dp:AQ) (o:Ex) (es:eF)
 |make (c i:Nat) (dv:AY) (es:eF)
 |jv (i:Nat) (es:eF)
 |uf
 |dm (f:Dm) (o:Ex) (es:eF)
 |ud (ks:AK) (es:eF)
 |clear (o:Ex)|wu (o:Ex)
 |app (o a:Ex)
 |get (o:Ex) (es:eF)
inductive eF where
 |nil
 |cons (e:Ex) (es:eF)
inductive Ir where
 |D0
 |seq (e:Ex)
 |Ej (es:eF)
 |enum (e:Ex)
 |zip (es:eF)
 |aP (e:Ex)
end
variable {d:Ex}
abbrev E9:=Nat->'%'->M AV
variable {F:E9}
def DJ:Ex->Bool
 |.no=>aB
 |_=>aJ
def qD(e:Ex)(m:M AV):M '+':=if DJ e=aB then B8 aD else m.bind Kr
mutual
noncomputable def aM(F:E9):Ex->aF->M AV
 |.D0,_=>C5
 |.no,_=>C5
 |.var i,Z=>yE i Z
 |.val v,_=>B8 v
 |.op o a b,Z=>vM o.g (aM F a Z) (aM F b Z)
 |.cmp o a b,Z=>vM o.g (aM F a Z) (aM F b Z)
 |.chain o o' a b c,Z=>js o.g o'.g (aM F a Z) (aM F b Z) (aM F c Z)
 |.neg a,Z=>(aM F a Z).bind uz
 |.not a,Z=>(aM F a Z).bind λx=>(dJ x).bind λb=>B8 (.bl<|!b)
 |.and a b,Z=>Wy (aM F a Z) (aM F b Z)
 |.or a b,Z=>GH (aM F a Z) (aM F b Z)
 |.ite c a b,Z=>Ch (dW F c Z) (aM F a Z) (aM F b Z)
 |.tup es,Z=>Qt (dH F es Z)
 |.l es,Z=>tU (dH F es Z)
 |.slice a lo hi,Z=>(aM F a Z).bind λx=>(qD lo<|aM F lo Z).bind λl=>(qD hi<|aM F hi Z).bind λu=>rW x l u
 |.call f es,Z=>(dH F es Z).bind (F f)
 |.bi f es,Z=>(dH F es Z).bind f.g
 |.tL t a,Z=>(aM F a Z).bind (di t)
 |.kc k a,Z=>(aM F a Z).bind k.g
 |.lR cs f o,Z=>(aM F o Z).bind (yB cs f)
 |.sA m dp o es,Z=>De (λc=>(dp.lookup c).map F) m (aM F o Z) (dH F es Z)
 |.make c i dv es,Z=>Cv c dv (F i) (dH F es Z)
 |.jv i es,Z=>(dH F es Z).bind (F i)
 |.uf,_=>Jk
 |.dm f o es,Z=>Bd f.g (aM F o Z) (dH F es Z)
 |.ud ks es,Z=>Bc ks (dH F es Z)
 |.clear o,Z=>(aM F o Z).bind yA
 |.wu o,Z=>(aM F o Z).bind dq
 |.app o a,Z=>Ij (aM F o Z) (aM F a Z)
 |.get o es,Z=>Kv (aM F o Z) (dH F es Z)
 |.uW imp t it e,Z=>bz (iter F it Z) (rJ t) (λ_=>B8 aB) (aM F e) imp Z
 |.uX imp t it c e,Z=>bz (iter F it Z) (rJ t) (dW F c) (aM F e) imp Z
 |.kD d e,Z=>mO (aM F d) (aM F e) Z
noncomputable def dW(F:E9):Ex->aF->M Bool
 |.D0,_=>C5
 |.no,_=>C5
 |.ite _ _ _,_=>C5
 |.var i,Z=>(yE i Z).bind dJ
 |.val v,_=>dJ v
 |.op o a b,Z=>(vM o.g (aM F a Z)<|aM F b Z).bind dJ
 |.cmp o a b,Z=>(vM o.g (aM F a Z)<|aM F b Z).bind Bn
 |.chain o o' a b c,Z=>(js o.g o'.g (aM F a Z) (aM F b Z)<|aM F c Z).bind Bn
 |.neg a,_=>C5
 |.not a,Z=>(dW F a Z).bind λb=>B8 (!b)
 |.and a b,Z=>Wx (dW F a Z) (dW F b Z)
 |.or a b,Z=>GG (dW F a Z) (dW F b Z)
 |.tup es,Z=>(Qt<|dH F es Z).bind dJ
 |.l es,Z=>(tU<|dH F es Z).bind dJ
 |.slice a lo hi,Z=>((aM F a Z).bind λx=>(qD lo<|aM F lo Z).bind λl=>(qD hi<|aM F hi Z).bind λu=>rW x l u).bind dJ
 |.call f es,Z=>((dH F es Z).bind (F f)).bind dJ
 |.bi f es,Z=>((dH F es Z).bind f.g).bind dJ
 |.tL t a,Z=>((aM F a Z).bind (di t)).bind dJ
 |.kc k a,Z=>((aM F a Z).bind k.g).bind dJ
 |.lR cs f o,Z=>((aM F o Z).bind (yB cs f)).bind dJ
 |.sA m dp o es,Z=>(De (λc=>(dp.lookup c).map F) m (aM F o Z)<|dH F es Z).bind dJ
 |.make c i dv es,Z=>(Cv c dv (F i)<|dH F es Z).bind dJ
 |.jv i es,Z=>((dH F es Z).bind (F i)).bind dJ
 |.uf,_=>Jk.bind dJ
 |.dm f o es,Z=>(Bd f.g (aM F o Z)<|dH F es Z).bind dJ
 |.ud ks es,Z=>(Bc ks<|dH F es Z).bind dJ
 |.clear o,Z=>((aM F o Z).bind yA).bind dJ
 |.wu o,Z=>((aM F o Z).bind dq).bind dJ
 |.app o a,Z=>(Ij (aM F o Z)<|aM F a Z).bind dJ
 |.get o es,Z=>(Kv (aM F o Z)<|dH F es Z).bind dJ
 |.uW imp t it e,Z=>(bz (iter F it Z) (rJ t) (λ_=>B8 aB) (aM F e) imp Z).bind dJ
 |.uX imp t it c e,Z=>(bz (iter F it Z) (rJ t) (dW F c) (aM F e) imp Z).bind dJ
 |.kD d e,Z=>(mO (aM F d) (aM F e) Z).bind dJ
noncomputable def dH(F:E9):eF->aF->M '%'
 |.nil,_=>B8 []
 |.cons e es,Z=>Jc (aM F e Z) (dH F es Z)
noncomputable def iter(F:E9):Ir->aF->M eM
 |.D0,_=>C5
 |.seq e,Z=>(aM F e Z).bind yC
 |.Ej es,Z=>(dH F es Z).bind Bq
 |.enum e,Z=>(aM F e Z).bind Kn
 |.zip es,Z=>(dH F es Z).bind Kt
 |.aP e,Z=>(aM F e Z).bind ui
end
structure Cn where
 N:AK
 sc:gI
 fns:AK
 vc:AL
 pU:AK
 NK:List (Str×Nat)
 cat:List (Str×BB)
 DK:List (Str×BB)
 top:Bool:=aB
 lG:List (Str×AU):=[]
 nY:List (Str×AQ):=[]
 nE:List ((Str×Nat)×(Nat×Nat×AY)):=[]
 tM:List (Str×BB):=[]
 pX:List (Str×List (Str×Nat)):=[]
 Jn:AK:=[]
variable {C:Cn}
def Cn.gl(C:Cn)(x:Str):Bool:=decide (C.sc.names.lookup x=aA .globalImplicit)
def mf(x:Str):Bool:=! 'B' && !(x==("__classdict__":Str)) && !(x==("__name__":Str))
def Cn.loc(C:Cn)(x:Str):Bool:=decide (C.sc.names.lookup x=aA .local)||decide (C.sc.names.lookup x=aA .cell)
def Cn.name(C:Cn)(x:Str):Ex:=if mf x then(if C.loc x then(C.N.idxOf? x).elim .D0 .var else if C.gl x then(C.vc.lookup x).elim .D0 .val else .D0) else .D0
def Zd:Const->Ex
 |.none=>.val .aG
 |.bool b=>.val (.bl b)
 |.int i=>.val (.int i)
 |.str x=>.val (.str x)
 |_=>.D0
def Xy:pQ->Option Op
 |.Add=>aA .add | .Sub=>aA .sub | .Mult=>aA .mul | .FloorDiv=>aA .fdiv | .Mod=>aA .mod | .Pow=>aA .pow
 |.LShift=>aA .shl | .RShift=>aA .shr | .BitAnd=>aA .band | .BitOr=>aA .bor | .BitXor=>aA .bxor
 |_=>aD
def Av:rD->Cp
 |.Eq=>.eq | .NotEq=>.ne | .Lt=>.lt | .LtE=>.le | .Gt=>.gt | .GtE=>.ge | .Is=>.kr | .IsNot=>.isn | .In=>.kj | .NotIn=>.nin
def ZK(op:pQ)(a b:Ex):Ex:=(Xy op).elim .D0 λo=>.op o a b
def bo(k:Ex->Ex->Ex):List Ex->Ex
 |[]=>.D0
 |[a]=>a
 |a::r=>k a (bo k r)
def lF:List Ex->eF
 |[]=>.nil
 |e::es=>.cons e (lF es)
def Yi:List (Str×BT):=[("int",.int),("bool",.bl),("str",.str),("tuple",.tup),("list",.l)]
def ZI(x:Str):Option BT:=Yi.lookup x
def Xx:List (Str×Bi):=[("len",.len),("int",.int),("min",.min),("max",.max),("divmod",.divmod),("tuple",.tuple),("list",.list)]
def YW(x:Str):Option Bi:=Xx.lookup x
def Cn.bl(C:Cn)(x:Str):Bool:=C.gl x&&C.pU.contains x&&mf x
set_option genCtorIdx true in
inductive Vw where
 |no
 |nm (x:Str)
 |sm (o:aI) (f:Str) (p:Pos)
 |tp (es:List aI)
 |sb (a b:aI)
 |sl (lo hi st:Option aI)
 |cs (c:Const)
 |ca (g:aI) (es:List aI) (ks:List pP)
def vw:aI->Vw
 |.Name x _=>.nm x
 |.Attribute o f p=>.sm o f p
 |.Tuple es _ _=>.tp es
 |.Subscript a b _=>.sb a b
 |.Slice lo hi st _=>.sl lo hi st
 |.Constant c _ _=>.cs c
 |.Call g es ks _=>.ca g es ks
 |_=>.no
def Vw.ok(e:aI):Vw->Prop
 |.no=>True
 |.nm x=>∃p,e = .Name x p
 |.sm o f p=>e = .Attribute o f p
 |.tp es=>∃k p,e = .Tuple es k p
 |.sb a b=>∃p,e = .Subscript a b p
 |.sl lo hi st=>∃p,e = .Slice lo hi st p
 |.cs c=>∃k p,e = .Constant c k p
 |.ca g es ks=>∃p,e = .Call g es ks p
def zF(e:aI):(vw e).ok e:=by cases e<;>first|exact trivial|exact⟨_,rfl⟩|exact⟨_,_,rfl⟩|exact rfl
def tV(e:aI):Option Str:=match vw e with
 |.nm x=>aA x
 |_=>aD
def Ak(e:aI):Option (aI×Str×Pos):=match vw e with
 |.sm o f p=>aA (o,f,p)
 |_=>aD
def wC(e:aI):Option (List aI):=match vw e with
 |.tp es=>aA es
 |_=>aD
def Pw(e:aI):Option (Option aI×Option aI):=match vw e with
 |.sl lo hi st=>if st.isNone then aA (lo,hi) else aD
 |_=>aD
def tq(e:aI):Option Const:=match vw e with
 |.cs c=>aA c
 |_=>aD
def Mq(e:aI):Option (Str×List aI):=match vw e with
 |.ca g es ks=>if ks.isEmpty then(tV g).map λx=>(x,es) else aD
 |_=>aD
def lz{x:Str}(h:tV e=aA x):∃p,e = .Name x p:=by have k:=zF e;unfold tV at h;generalize vw e=v at h k;cases v<;>cases h;exact k
def Xd{q:aI×Str×Pos}(h:Ak e=aA q):e = .Attribute q.1 q.2.1 q.2.2:=by have k:=zF e;unfold Ak at h;generalize vw e=v at h k;cases v<;>cases h;exact k
def Ez(h:wC e=aA es):∃k p,e = .Tuple es k p:=by have k:=zF e;unfold wC at h;generalize vw e=v at h k;cases v<;>cases h;exact k
def Zc{c:Const}(h:tq e=aA c):∃k p,e = .Constant c k p:=by have k:=zF e;unfold tq at h;generalize vw e=v at h k;cases v<;>cases h;exact k
def aOu{q:Option aI×Option aI}(h:Pw e=aA q):∃p,e = .Slice q.1 q.2 aD p:=by
 have k:=zF e;unfold Pw at h;generalize vw e=v at h k;cases v with
 |sl lo hi st=>cases st<;>cases h;exact k
 |_=>exact bU h
def vL{α:Type}{l:List α}(h:l.isEmpty=aB):l=[]:=z9.1 h
def aAy{q:Str×List aI}(h:Mq e=aA q):∃p pos,e = .Call (.Name q.1 p) q.2 [] pos:=by
 have k:=zF e;unfold Mq at h;generalize vw e=v at h k;cases v with
 |ca g i j=>obtain⟨a,b⟩:=n8.1 h;obtain⟨x,c,d⟩:=gT.1 b;obtain⟨pos,k⟩:=k;obtain⟨p,f⟩:=lz c;rw[k,f,vL a,<- d];exact⟨_,_,rfl⟩
 |_=>exact bU h
def oA{α:Type}:List α->Option α
 |[a]=>aA a
 |_=>aD
def pd{α:Type}:List α->Option (α×α)
 |a::r=>(oA r).map λb=>(a,b)
 |_=>aD
def qC{α:Type}{l:List α}{a:α}(h:oA l=aA a):l=[a]:=by
 cases l with
 |nil=>cases h|cons b r=>cases r<;>cases h;rfl
def pf{α:Type}{l:List α}{q:α×α}(h:pd l=aA q):l=[q.1,q.2]:=by
 cases l with
 |nil=>cases h|cons b r=>obtain⟨c,a,rfl⟩:=gT.1 h;rw[qC a]
def Cn.Yl(C:Cn)(f:aI->Ex)(x:Str)(es:List aI):Ex:=if mf x&&es.all cF then
    (C.fns.idxOf? x).elim ((C.nE.lookup (x,B3 es)).elim ((YW x).elim (if decide (x="isinstance")&&C.bl x then
          (pd es).elim .D0 λq=>((tV q.2).bind λy=>if C.bl y then ZI y else aD).elim .D0 λbt=>.tL bt (f q.1)
        else .D0)
      λb=>if C.bl x && !es.isEmpty then .bi b (lF<|es.map f) else .D0)
     λm=>if C.gl x then .make m.1 m.2.1 m.2.2 (lF<|es.map f) else .D0)
    λi=>if C.gl x then .call i (lF<|es.map f) else .D0
  else .D0
def EF:Nat:=40
def Cn.D9(C:Cn)(x:Str):AS:=if C.loc x then C.N.idxOf? x else aD
def Cn.Lq(C:Cn):aI->Bool
 |.Attribute _ f _=>C.Jn.contains f
 |_=>aJ
def Cn.kD(C:Cn)(it:aI)(d e:Ex):Ex:=if C.Lq it then .kD d e else e
def cI(C:Cn)(f:aI->Ex)(tg:aI)(e:aI):Ir:=(Mq e).elim (if cF e then(if C.Lq e then .aP (f e) else .seq (f e)) else .D0) λq=>
 if decide (q.1="range")&&C.bl q.1 then(oA q.2).elim .D0 λa=>if cF a then .Ej (lF<|[a].map f) else .D0
 else if decide (q.1="enumerate")&&C.bl q.1&&qw (wC tg) then(oA q.2).elim .D0 λa=>if cF a then .enum (f a) else .D0
 else if decide (q.1="zip")&&C.bl q.1&&qw (wC tg) then(pd q.2).elim .D0 λp=>if cF p.1&&cF p.2 then .zip (lF<|[p.1,p.2].map f) else .D0
 else .seq (f e)
def cc(scope:gI):AK:=(scope.names.filter λx=>(x.2==NameKind.local&&x.1 != (".0":Str))||x.2==jC).map (·.1)
def JO(scope sc:gI):gI:=
 { scope with names:=scope.names.map λ(n,k)=>if(k == .free&&sc.kind == .function&&sc.names.lookup n==aA .cell) then(n,.cell) else(n,k) }
def Cn.comp(C:Cn)(scope:gI):Cn:={ C with N:=cc scope,sc:=JO scope C.sc,top:=aJ }
def Cn.imp(C:Cn)(scope:gI):AX:=(cc scope).map λx=>if decide (scope.names.lookup x=aA .free) then C.N.idxOf? x else aD
def Cn.uZ(C:Cn)(scope:gI):Bool:=decide (scope.kind = .function)&&scope.names.all (λy=>decide (y.2 ≠ .cell))&&scope.names.all (λy=>decide (y.2 = .local->scope.names.lookup y.1=aA .local)) &&
 scope.names.all (λy=>decide (y.2 = .free->C.sc.names.lookup y.1=aA .cell))&&decide (cc scope).Nodup&&C.top
def Cn.lo(C:Cn)(e:aI):AS:=(tV e).bind λx=>if decide (C.sc.names.lookup x=aA .local) then C.N.idxOf? x else aD
def Ax(C:Cn):List aI->Option (List Nat)
 |[]=>aA []
 |e::r=>(C.lo e).bind λi=>(Ax C r).map (i::·)
def jq(C:Cn)(e:aI):CT:=(C.lo e).elim (((wC e).bind (Ax C)).elim .D0 .tup) .nm
def aAs(m:Str)(eo:Ex):Ex:=if decide (m="clear") then .clear eo else if decide (m="pop") then .wu eo else .D0
def Mn(m:Str)(eo:Ex)(cs:eF):Ex:=(Jj m).elim .D0 λf=>.dm f eo cs
def ZB(o:aI)(m:Str)(eo:Ex)(f:aI->Ex)(es:List aI):Ex:=if lQ o then
    (oA es).elim ((pd es).elim (if es.isEmpty then aAs m eo else .D0) λq=>if decide (m="get")&&qw (tV o) then .get eo (lF<|[q.1,q.2].map f) else Mn m eo (lF<|[q.1,q.2].map f))
     λa=>if decide (m="append") then .app eo (f a) else Mn m eo (lF<|[a].map f)
  else .D0
def Cn.f9(C:Cn)(o:aI)(m:Str):AS:=(tV o).bind λx=>if mf x&&C.gl x then(C.pX.lookup x).bind (·.lookup m) else aD
def Cn.FJ(C:Cn)(f:aI->Ex)(o:aI)(m:Str)(apos pos:Pos)(es:List aI):Ex:=
  if es.all cF&&(apos.endLine==pos.line)&&decide (B3 es<30) then
    (C.f9 o m).elim ((C.nY.lookup m).elim (ZB o m (f o) f es) λdp=>if lQ o then .sA m dp (f o) (lF<|es.map f) else .D0)
     λi=>if !es.isEmpty then .jv i (lF<|es.map f) else .D0
  else .D0
def ZQ(op:UnaryOp)(a:Ex):Ex:=match op with
 |.USub=>.neg a
 |.Not=>.not a
 |_=>.D0
def ZN(f:aI->Ex)(a:aI)(os:List rD)(bs:List aI):Ex:=(oA os).elim
 ((pd os).elim .D0 λo=>(pd bs).elim .D0 λb=>if cF b.2 then .chain (Av o.1) (Av o.2) (f a) (f b.1) (f b.2) else .D0)
 λo=>(oA bs).elim .D0 λb=>if cF b then .cmp (Av o) (f a) (f b) else .D0
def ZL(op:BoolOp)(vs:List Ex):Ex:=match op with
 |.And=>bo .and vs
 |.Or=>bo .or vs
def nN:Ex->Ex
 |.no=>.D0
 |x=>x
def ZP(f:aI->Ex)(a s:aI):Ex:=(Pw s).elim (if cF s then .op .ix (f a) (f s) else .D0) λq=>.slice (f a) (q.1.elim .no λe=>nN (f e)) (q.2.elim .no λe=>nN (f e))
def ZM(C:Cn)(f:aI->Ex)(g:aI)(es:List aI)(ks:List pP)(pos:Pos):Ex:=if ks.isEmpty then(tV g).elim ((Ak g).elim .D0 λq=>C.FJ f q.1 q.2.1 q.2.2 pos es) λx=>C.Yl f x es else .D0
def tj(C:Cn)(r:Cn->aI->Ex)(elt:aI)(gs:List NP)(scope:gI):Ex:=(oA gs).elim .D0 λg=>if C.uZ scope&&cF g.iter&&decide (g.is_async=0) then
    (oA g.ifs).elim (if g.ifs.isEmpty then C.kD g.iter (r C g.iter) (.uW (C.imp scope) (jq (C.comp scope) g.target) (cI C (r C) g.target g.iter)<|r (C.comp scope) elt) else .D0)
     λc=>C.kD g.iter (r C g.iter) (.uX (C.imp scope) (jq (C.comp scope) g.target) (cI C (r C) g.target g.iter) (r (C.comp scope) c)<|r (C.comp scope) elt)
  else .D0
def GN{α:Type}{P:α->Prop}{c:Bool}{a b:α}(h1:c=aB->P a)(h2:P b):P (if c=aB then a else b):=by
 cases c with
 |false=>exact h2|true=>exact h1 rfl
def EH{P:Ex->Prop}{r:Cn->aI->Ex}{gs:List NP}(hb:P .D0)
  (h0:∀t it,gs=[⟨t,it,[],0⟩]->C.uZ scope=aB->cF it=aB->P (C.kD it (r C it)<|.uW (C.imp scope) (jq (C.comp scope) t) (cI C (r C) t it)<|r (C.comp scope) elt))
  (h1:∀t it c,gs=[⟨t,it,[c],0⟩]->C.uZ scope=aB->cF it=aB->P (C.kD it (r C it)<|.uX (C.imp scope) (jq (C.comp scope) t) (cI C (r C) t it) (r (C.comp scope) c)<|r (C.comp scope) elt)):P (tj C r elt gs scope):=by
 unfold tj;cases d:oA gs with
 |none=>exact hb|some g=>
  obtain⟨t,it,cs,a⟩:=g;rw[qC d]at h0 h1;refine GN (λb=>?_) hb;rw[bY,bY]at b;obtain rfl:a=0:=of_decide_eq_true b.2;cases f:oA cs with
  |none=>exact GN (λe=>h0 t it (by rw[show cs=[] from vL e]) b.1.1 b.1.2) hb|some c=>exact h1 t it c (by rw[qC f]) b.1.1 b.1.2
def ZJ(C:Cn)(o:aI)(f:Str)(eo:Ex):Ex:=if lQ o then(C.lG.lookup f).elim .D0 λcs=>.lR cs f eo else .D0
def JW(c:Const):Option Str:=match c with
 |.str k=>aA k
 |_=>aD
def Qg:List (Option aI)->Option (List Str)
 |[]=>aA []
 |k::r=>((k.bind tq).bind JW).bind λs=>(Qg r).map (s::·)
def ZO(f:aI->Ex)(ks:List (Option aI))(vs:List aI):Ex:=if ks.isEmpty&&vs.isEmpty then .uf else
 (Qg ks).elim .D0 λss=>if decide (B3 ss=B3 vs)&&decide (B3 ss<=15) && !ss.isEmpty then .ud ss (lF<|vs.map f) else .D0
def V4(x nm:Str)(c:Const):Option Kc:=match c with
 |.bool b=>if x="sorted"/\nm="reverse" then aA (.srt b) else aD
 |.none=>if x="min"/\nm="default" then aA .wb else aD
 |_=>aD
def Lv(x:Str)(ks:List pP):Option Kc:=if ks.isEmpty then(if x="any" then aA .any else if x="sorted" then aA .sd else aD) else
 (oA ks).bind λk=>k.arg.bind λnm=>(tq k.value).bind (V4 x nm)
def Yk(C:Cn)(f:aI->Ex)(g:aI)(es:List aI)(ks:List pP):Option Ex:=(tV g).bind λx=>(oA es).bind λa=>(Lv x ks).bind λk=>if C.bl x&&cF a then aA (.kc k<|f a) else aD
def cE:Cn->Nat->aI->Ex
 |_,0,_=>.D0
 |C,n+1,e=>match e with
  |.Name x _=>C.name x
  |.Constant c _ _=>Zd c
  |.BinOp a op b _=>ZK op (cE C n a) (cE C n b)
  |.UnaryOp op a _=>ZQ op (cE C n a)
  |.Compare a os bs _=>ZN (cE C n) a os bs
  |.BoolOp op vs _=>ZL op (vs.map<|cE C n)
  |.IfExp c a b _=>.ite (cE C n c) (cE C n a) (cE C n b)
  |.Tuple es _ _=>if es.all cF then .tup (lF<|es.map<|cE C n) else .D0
  |.List es _=>if es.all cF then .l (lF<|es.map<|cE C n) else .D0
  |.Subscript a s _=>ZP (cE C n) a s
  |.Call g es ks pos=>(Yk C (cE C n) g es ks).elim (ZM C (cE C n) g es ks pos) id
  |.Dict ks vs _=>ZO (cE C n) ks vs
  |.Attribute o f _=>ZJ C o f (cE C n o)
  |.ListComp elt gs scope _=>tj C (λC' e'=>cE C' n e') elt gs scope
  |_=>.D0
theorem Cu{α:Type}{x:Str}{v:α}:∀{l:List (Str×α)},l.lookup x=aA v->(x,v)∈l
 |[],h=>by cases h
 | (k,u)::r,h=>by
  rw[jB]at h;split at h
  .simp_all
  .exact eK _<|Cu h
def ZG:∀q∈Yi,oS q.1=aA (.type q.2.nm):=by decide +kernel
structure Lk(X:Cx)(T:D8)(E:XK)(C:Cn)(F:E9):Prop where
 K:X.K=T.K
 N:X.N=C.N
 sc:X.env.scope=C.sc
 nd:C.N.Nodup
 fn:C.top=aB->∀x,X.fn x=aB
 calm:X.calm=aB
 po:C.top=aB->yv '1' X.A X.env X.xe
 gv:∀x v,C.vc.lookup x=aA v->∃u v',X.mg x=aA u/\D6 v' u/\∀Y H,aV T Y H v v'
 fns:∀(i:Nat) x,C.fns[i]?=aA x->Fn X T E x (F i)
 pU:∀x,C.pU.contains x=aB->X.mg x=aD
 tab:∀kvs a,T.G kvs a->sg X.prog X.w X.K a kvs
 un:X.A.units+64<cLine
 lG:∀f cs,C.lG.lookup f=aA cs->jf X.K T cs f
 nY:∀m dp,C.nY.lookup m=aA dp->∀c D g,(dp.lookup c).map F=aA g->T.C c=aA D->au X T (λ_=>E) D m g
 nE:∀x n c i dv,C.nE.lookup (x,n)=aA (c,i,dv)->zt X T E x c dv (F i)
 tM:∀y cs,C.tM.lookup y=aA cs->∃D:Addr,X.mg y=aA (.ref D)/\∀k b,cs.lookup k=aA b->∃D':Addr,T.C k=aA D'/\Wk X.K D'/\Us X.K (.ref D') (.ref D)=aA b
 pX:∀x m i,(C.pX.lookup x).bind (·.lookup m)=aA i->Hu X T E x m (F i)
section
variable (L:Lk X T E C F)
def Dk{x:Str}(h:mf x=aB):'B'=aJ/\(x==("__classdict__":Str))=aJ/\x≠"__name__":=by simp only[mf,bY,Sh,beq_eq_false_iff_ne]at h;exact⟨beq_eq_false_iff_ne.2 h.1.1,beq_eq_false_iff_ne.2 h.1.2,h.2⟩
def vd{x:Str}{l:AK}{i:Nat}(h:l.idxOf? x=aA i):l[i]?=aA x:=by obtain⟨a,b,_⟩:=List.findIdx?_eq_some_iff_getElem.1 h;rw[eD a];exact congrArg aA<|eq_of_beq b
include L in
theorem Lk.gl{x:Str}(h:C.gl x=aB):Gl X x:=by have a:=of_decide_eq_true h;rw[<- L.sc]at a;exact a
def Q2(X:Cx)(T:D8)(E:XK)(F:E9)(e:aI)(x:Ex):Prop:=QE X T E e (aM F x)/\QT X T E e (dW F x)
def dS:Q2 X T E F e .D0:=⟨HV,Pe⟩
def gN{c:Bool}{x y:Ex}(h1:c=aB->Q2 X T E F e x)(h2:Q2 X T E F e y):Q2 X T E F e (if c=aB then x else y):=by
 cases c with
 |false=>exact h2|true=>exact h1 rfl
def iL{α:Type}{o:Option α}{f:α->Ex}{y:Ex}(h1:∀a,o=aA a->Q2 X T E F e (f a))(h2:Q2 X T E F e y):Q2 X T E F e (o.elim y f):=by
 cases o with
 |none=>exact h2|some a=>exact h1 a rfl
include L in
theorem Lk.tr{y:Ex}(q:QE X T E e (aM F y))(pl:autoParam (Dt e=aB) aGh._auto_1)(e1:∀Z,dW F y Z=(aM F y Z).bind dJ:=by exact λ_=>rfl):Q2 X T E F e y:=by refine⟨q,?_⟩;rw[show dW F y=λZ=>(aM F y Z).bind dJ from funext e1];exact aMm q pl
include L in
theorem Lk.bl{x:Str}(h:C.bl x=aB):Gl X x/\X.mg x=aD/\'B'=aJ/\x≠"__name__":=by unfold Cn.bl at h;rw[bY,bY]at h;obtain⟨a,_,b⟩:=Dk h.2;exact⟨L.gl h.1.1,L.pU x h.1.2,a,b⟩
include L in
theorem Lk.Ap{x y:Str}(h:(decide (x=y)&&C.bl x)=aB):x=y/\Gl X y/\X.mg y=aD:=by rw[bY,decide_eq_true_eq]at h;obtain⟨rfl,h⟩:=h;obtain⟨a,b,_⟩:=L.bl h;exact⟨rfl,a,b⟩
include L in
theorem HU{it:aI}{y:Ex}(pl:Dt e=aB)(h:Q2 X T E F e y):Q2 X T E F e (C.kD it d y):=gN (λ_=>L.tr (aIq (aM F d) h.1) pl) h
include L in
theorem aPk(x:Str)(pos:Pos):Q2 X T E F (.Name x pos) (C.name x):=by
 refine gN (λok=>?_) dS;obtain⟨a,b,h⟩:=Dk ok;refine gN (λhl=>iL (λi c=>L.tr (aIt (by rw[L.N];exact vd c) ?_ a b)) dS)<|gN (λd=>iL (λv e=>?_) dS) dS
 .rw[L.sc];simp only[Cn.loc,yg,decide_eq_true_eq]at hl;exact hl.imp id .inl
 .obtain⟨u,j,f,r,g⟩:=L.gv x v e;exact L.tr<|wy (GY (L.gl d) f r a) g
include L in
theorem aPh(c:Const)(k:Nat)(pos:Pos):Q2 X T E F (.Constant c k pos) (Zd c):=by
 cases c with
 |none=>exact L.tr<|wy GZ λ_ _=>.aG|bool b=>exact L.tr<|wy GU λ_ _=>.bl b|int i=>exact L.tr<|wy aEf λ_ _=>.int i|str x=>exact L.tr<|wy HA λ_ _=>.str x|_=>exact dS
include L in
theorem aCw{op:pQ}{o:Op}(h:Xy op=aA o):eA X T E (fL op) o.g:=by
 cases op<;>cases h
 .exact aCu L.K
 .exact aDq
 .exact aDi
 .exact aDh
 .exact aDn
 .exact aDo
 .exact aDp
 .exact aDm
 .exact aDr
 .exact aCv
 .exact aCy
include L in
theorem mm(op:rD):eA X T E (dM op) (Av op).g:=by
 cases op
 .exact aCx L.K (by have:=L.un;omega) aJ
 .exact aCx L.K (by have:=L.un;omega) aB
 .exact aDg
 .exact aDf
 .exact aDa
 .exact aCz
 .exact aDd aJ
 .exact aDd aB
 .exact aDb L.K aJ
 .exact aDb L.K aB
def tH{f:aI->Ex}(hs:es.all cF=aB)(h:∀e,Q2 X T E F e (f e)):QA X T E es (dH F<|lF<|es.map f):=by
 induction es with
 |nil=>exact aHi|cons e es a=>rw[lZ,bY]at hs;exact aHh (h e).1 (a hs.2) hs.1
include L in
theorem Xa{pos:Pos}{f:aI->Ex}(h:∀e,Q2 X T E F e (f e)):∀(e:aI) (es:List aI),QE X T E (.BoolOp .And (e::es) pos) (aM F<|bo .and<|(e::es).map f)/\QW X T E (.BoolOp .And (e::es) pos) (dW F<|bo .and<|(e::es).map f)
 |e,[]=>⟨HX (h e).1,aMo (h e).2⟩
 |e,b::rest=>by obtain⟨a,c⟩:=Xa h b rest;exact⟨aHj (h e).1 a,aMn (h e).2 c⟩
include L in
theorem GJ{pos:Pos}{f:aI->Ex}(h:∀e,Q2 X T E F e (f e)):∀(e:aI) (es:List aI),QE X T E (.BoolOp .Or (e::es) pos) (aM F<|bo .or<|(e::es).map f)/\QW X T E (.BoolOp .Or (e::es) pos) (dW F<|bo .or<|(e::es).map f)
 |e,[]=>⟨HX (h e).1,aMq (h e).2⟩
 |e,b::rest=>by obtain⟨a,c⟩:=GJ h b rest;exact⟨aIl (h e).1 a,aMp (h e).2 c⟩
def aAw{x:Ex}(q:QE X T E e (aM F x)):QO X T E (aA e) (λZ=>qD (nN x) (aM F (nN x) Z)):=by cases x<;>first|exact IM q|exact IM HV
def GR{o:Option aI}{f:aI->Ex}(h:∀e,Q2 X T E F e (f e)):QO X T E o (λZ=>qD (o.elim .no λe=>nN (f e)) (aM F (o.elim .no λe=>nN (f e)) Z)):=by
 cases o with
 |none=>exact aLr|some e=>exact aAw (h e).1
def V5{P:Str->List pP->Kc->Prop}{x:Str}{ks:List pP}{k:Kc} (h1:P "any" [] .any) (h2:P "sorted" [] .sd) (h3:∀b a c p,P "sorted" [⟨aA "reverse",.Constant (.bool b) a c,p⟩] (.srt b)) (h4:∀a c p,P "min" [⟨aA "default",.Constant .none a c,p⟩] .wb) (h:Lv x ks=aA k):P x ks k:=by
 unfold Lv at h;by_cases e:ks.isEmpty=aB
 .rw[if_pos e]at h;rw[vL e];by_cases d:x="any"
  .simp_all
  .simp_all
 .rw[if_neg e]at h;obtain⟨⟨m,v,p⟩,g,h⟩:=f'.1 h;obtain⟨nm,i,h⟩:=f'.1 h;obtain⟨c,j,h⟩:=f'.1 h;obtain⟨_,_,l⟩:=Zc j;rw[qC g,show m=aA nm from i,show v=_ from l];clear g i j l;cases c with
  |bool b=>obtain⟨⟨d,f⟩,h⟩:=n8.1 h;rw[d,f,<- cR h];exact h3 _ _ _ _
  |none=>obtain⟨⟨d,f⟩,h⟩:=n8.1 h;rw[d,f,<- cR h];exact h4 _ _ _
  |_=>exact bU h
include L in
theorem aPi{f:aI->Ex}(ih:∀e,Q2 X T E F e (f e)){g:aI}{ks:List pP}{y:Ex}(h:Yk C f g es ks=aA y):Q2 X T E F (.Call g es ks pos) y:=by obtain⟨x,d,h⟩:=f'.1 h;obtain⟨a,ha,h⟩:=f'.1 h;obtain⟨k,i,h⟩:=f'.1 h;obtain⟨hb,h⟩:=n8.1 h;cases h;obtain⟨p,rfl⟩:=lz d;obtain rfl:=qC ha;rw[bY]at hb;obtain⟨⟨b,hm,_⟩,c⟩:=hb.imp L.bl id;exact V5 (P:=λx ks k=>Gl X x->X.mg x=aD->Q2 X T E F (.Call (.Name x p) [a] ks pos) (.kc k<|f a)) (λb hm=>L.tr (aHk L.K L.calm b hm (ih a).1 c)) (λb hm=>L.tr (aIn L.K L.calm b hm (ih a).1 c)) (λ_ _ _ _ b hm=>L.tr (aIp L.K b hm (ih a).1 c)) (λ_ _ _ b hm=>L.tr (aIi L.K L.calm b hm (ih a).1 c)) i b hm
include L in
theorem YX:∀q∈Xx,(∃id,pR X T E (.builtin id) q.2.g/\oS q.1=aA (.builtin id))\/∃id,pR X T E (.type id) q.2.g/\oS q.1=aA (.type id):=
 t9.2 ⟨.inl ⟨_,j0 L.K,boot_len⟩,t9.2 ⟨.inr ⟨_,i9,boot_int⟩,t9.2 ⟨.inl ⟨_,j4 L.calm,boot_min⟩,t9.2 ⟨.inl ⟨_,j3 L.calm,boot_max⟩,t9.2 ⟨.inl ⟨_,i8,boot_divmod⟩,t9.2 ⟨.inr ⟨_,j5 L.K,boot_tuple⟩,t9.2 ⟨.inr ⟨_,j2 L.K L.calm,boot_list⟩,λ_ h=>nomatch h⟩⟩⟩⟩⟩⟩⟩
include L in
theorem aPg{f:aI->Ex}(ih:∀e,Q2 X T E F e (f e))(x:Str)(p:Pos)(es:List aI)(pos:Pos):Q2 X T E F (.Call (.Name x p) es [] pos) (C.Yl f x es):=by
 refine gN (λok=>?_) dS;rw[bY]at ok;obtain⟨g,G,n⟩:=Dk ok.1;have q:=tH ok.2 ih;refine iL (λi h=>gN (λd=>L.tr ?_) dS)<|iL (λm u=>gN (λd=>L.tr ?_) dS)<|iL (λb v=>gN (λhb=>L.tr ?_) dS)<|gN (λh=>iL (λr hr=>iL (λbt j=>L.tr ?_) dS) dS) dS
 .have o:=L.fns i x (vd h);cases es with
  |nil=>exact aHn o (L.gl d) g|cons e es=>exact aHm o (L.gl d) q ok.2 g
 .have s:=L.nE x _ _ _ _ u;cases es with
  |nil=>exact aIf s (L.gl d) g|cons e es=>exact aIe s (L.gl d) q ok.2 g
 .rw[bY]at hb;obtain⟨d,hm,_⟩:=L.bl hb.1;cases es with
  |nil=>cases hb.2|cons e es=>
   rcases YX L _ (Cu v)with⟨_,c,b⟩|⟨_,c,b⟩
   .exact aHo c d hm b q ok.2 n g
   .exact aHp c d hm b q ok.2 n g
 .obtain⟨rfl,d,hm⟩:=L.Ap h;obtain rfl:=pf hr;obtain⟨y,w,z⟩:=f'.1 j;obtain⟨hb,A⟩:=n8.1 z;obtain⟨H,B⟩:=lz w;obtain⟨a,t⟩:=r;cases B;obtain⟨k,l,k1,D⟩:=L.bl hb;exact aIa L.K bt d hm k l (ZG _<|Cu A) D k1 (ih a).1 (jX.1 ok.2 a<|.head _)
def yS{c:Bool}{tg:aI}{x y:Ir}(h1:c=aB->QI X T E tg e (iter F x))(h2:QI X T E tg e (iter F y)):QI X T E tg e (iter F<|if c=aB then x else y):=by
 cases c with
 |false=>exact h2|true=>exact h1 rfl
def Ea{α:Type}{o:Option α}{tg:aI}{f:α->Ir}{y:Ir}(h1:∀a,o=aA a->QI X T E tg e (iter F<|f a))(h2:QI X T E tg e (iter F y)):QI X T E tg e (iter F<|o.elim y f):=by
 cases o with
 |none=>exact h2|some a=>exact h1 a rfl
def LQ(h:qw (wC e)=aB):∃es k p,e = .Tuple es k p:=by obtain⟨es,h⟩:=i'.1 h;obtain⟨k,p,h⟩:=Ez h;exact⟨es,k,p,h⟩
include L in
theorem xj{f:aI->Ex}(ih:∀e,Q2 X T E F e (f e))(tg e:aI):QI X T E tg e (iter F<|cI C f tg e):=by
 refine Ea (λq d=>?_)<|yS (λ_=>yS (λ_=>aIv (ih _).1) (IE L.K (ih _).1)) fw;obtain⟨p,pos,rfl⟩:=aAy d;obtain⟨x,g⟩:=q;refine yS (λh=>Ea (λa ha=>yS (λb=>?_) fw) fw)<|yS (λh=>Ea (λa ha=>yS (λb=>?_) fw) fw)<|yS (λh=>Ea (λq d=>yS (λb=>?_) fw) fw)<|IE L.K (ih _).1
 .obtain⟨rfl,c,hm⟩:=L.Ap h;obtain rfl:=qC ha;exact aIx c hm (tH (by simp[b]) ih) b
 .rw[bY]at h;obtain⟨rfl,c,hm⟩:=L.Ap h.1;obtain rfl:=qC ha;obtain⟨_,_,_,rfl⟩:=LQ h.2;exact aIw L.K c hm (ih _).1 b
 .rw[bY]at h b;obtain⟨rfl,c,hm⟩:=L.Ap h.1;obtain rfl:=pf d;obtain⟨_,_,_,rfl⟩:=LQ h.2;exact aIy L.K c hm (tH (by left) ih) b.1 b.2
def vy{i:Nat}(h:C.lo e=aA i):∃x p,e = .Name x p/\C.sc.names.lookup x=aA .local/\C.N[i]?=aA x:=by obtain⟨x,a,b⟩:=f'.1 h;obtain⟨hl,c⟩:=n8.1 b;obtain⟨p,rfl⟩:=lz a;exact⟨x,p,rfl,of_decide_eq_true hl,vd c⟩
include L in
theorem HZ{i:Nat}(h:C.lo e=aA i):QG X T E e (λv Z=>B8 (Z.set i<|aA v))/\sO e=aB:=by obtain⟨x,p,rfl,hl,a⟩:=vy h;rw[<- L.sc]at hl;rw[<- L.N]at a;exact⟨IA (L.N▸L.nd) a (.inl hl) (.inr hl),rfl⟩
include L in
theorem KJ:∀{es:List aI}{l:AU},Ax C es=aA l->jh X T E es (Aj l)/\es.all sO=aB/\B3 l=B3 es
 |[],l,h=>by cases h;exact⟨ID,rfl,rfl⟩
 |e::es,l,h=>by obtain⟨i,b,h⟩:=f'.1 h;obtain⟨l,hl,rfl⟩:=gT.1 h;obtain⟨c,d,f⟩:=KJ hl;obtain⟨q,a⟩:=HZ L b;exact⟨IC q c a,by rw[lZ,a,d];rfl,congrArg (·+1) f⟩
include L in
theorem Es(e:aI):QG X T E e (rJ<|jq C e):=by
 unfold jq;cases a:C.lo e with
 |some i=>exact(HZ L a).1|none=>
  cases hl:(wC e).bind (Ax C) with
  |none=>exact mv|some l=>obtain⟨f,he,hl⟩:=f'.1 hl;obtain⟨k,p,rfl⟩:=Ez he;obtain⟨b,c,d⟩:=KJ L hl;show QG X T E _ (yD (B3 l)<|Aj l);rw[d];exact IB L.K L.calm b c
end
def Yw(ok:C.uZ scope=aB):scope.kind = .function/\(∀y∈scope.names,y.2 ≠ .cell)/\(∀y∈scope.names,y.2 = .local->scope.names.lookup y.1=aA .local)/\(∀y∈scope.names,y.2 = .free->C.sc.names.lookup y.1=aA .cell)/\(cc scope).Nodup/\C.top=aB:=by simp only[Cn.uZ,bY,decide_eq_true_eq,NX]at ok;exact⟨ok.1.1.1.1.1,ok.1.1.1.1.2,ok.1.1.1.2,ok.1.1.2,ok.1.2,ok.2⟩
def Lk.Aw(L:Lk X T E C F)(ok:C.uZ scope=aB):pS X (cc scope) scope:=by obtain⟨a,b,c,d,_⟩:=Yw ok;exact⟨a,b,c,λy e f=>by rw[L.sc];exact d y e f⟩
theorem Lk.imp(L:Lk X T E C F){i j:Nat}{x:Str}(e1:(cc scope)[i]?=aA x)(e2:(C.imp scope)[i]?=aA (aA j)):scope.names.lookup x=aA .free/\(x,jC)∈scope.names/\X.N[j]?=aA x:=by
 unfold Cn.imp at e2;rw[eQ,e1]at e2;have a:(if decide (scope.names.lookup x=aA .free) then C.N.idxOf? x else aD)=aA j:=cR e2;split at a
 .rename_i h;have h:=of_decide_eq_true h;exact⟨h,Cu h,by rw[L.N];exact vd a⟩
 .exact bU a
theorem Lk.comp(L:Lk X T E C F)(ok:C.uZ scope=aB)(s:aK)(H:Hp)(a:Addr)(fp:AI):Lk (X.comp (cc scope) scope s H a fp) T E0 (C.comp scope) F where
 K:=L.K
 N:=rfl
 sc:=by show relabel scope X.env=JO scope C.sc;rw[<- L.sc];rfl
 nd:=(Yw ok).2.2.2.2.1
 fn:=λz=>by cases z
 calm:=L.calm
 po:=λz=>by cases z
 gv:=L.gv
 fns:=λi x h=>let ⟨k,f,fd,ps,F,hr,hm,l,hb,_⟩:=(L.fns i x h);⟨k,f,fd,ps,F,hr,hm,l,hb,λ_ _ _ _ _ _ _ z=>(tw z).elim⟩
 pU:=L.pU
 tab:=L.tab
 un:=L.un
 lG:=L.lG
 nY:=λm dp h c D g b d=>let ⟨k,f,fd,ps,F,hr,c,hm,hb,_⟩:=(L.nY m dp h c D g b d);⟨k,f,fd,ps,F,hr,c,hm,hb,λ_ _ _ _ _ _ _ z=>(tw z).elim⟩
 nE:=λx n c i o h=>let ⟨k,C,f,fd,ps,ds,e,p,K,F,hr,hm,hb,q,j,_⟩:=(L.nE x n c i o h);⟨k,C,f,fd,ps,ds,e,p,K,F,hr,hm,hb,q,j,λ_ _ _ _ _ _ _ z=>(tw z).elim⟩
 tM:=L.tM
 pX:=λx m i h=>let ⟨k,C,f,fd,ps,hm,F,hr,kp,b,d,r,t,hb,_⟩:=(L.pX x m i h);⟨k,C,f,fd,ps,hm,F,hr,kp,b,d,r,t,hb,λ_ _ _ _ _ _ _ z=>(tw z).elim⟩
def aPj(L:Lk X T E C F){f:aI->Ex}(ih:∀e,Q2 X T E F e (f e))(o:aI)(m:Str)(apos pos:Pos)(es:List aI):Q2 X T E F (.Call (.Attribute o m apos) es [] pos) (C.FJ f o m apos pos es):=by
 refine gN (λhb=>?_) dS;rw[bY,bY,decide_eq_true_eq]at hb;obtain⟨⟨h,hl⟩,hn⟩:=hb;have un:X.A.units+1<cLine:=by have:=L.un;lia
 have dm:∀e r,es=e::r->B3 r<28->lQ o=aB->Q2 X T E F (.Call (.Attribute o m apos) es [] pos) (Mn m (f o)<|lF<|es.map f):=λe r n hr b=>iL (λd hd=>by subst n;exact L.tr<|aHv hd (ih _).1 (tH h ih) b h (zS hr) hl) dS
 refine iL (λi s=>gN (λt=>?_) dS)<|iL (λdp j=>gN (λb=>?_) dS)<|gN (λb=>iL (λa ha=>gN (λhm=>?_) ?_) (iL (λq k=>gN (λhm=>?_) ?_)<|gN (λhe=>gN (λhm=>?_) (gN (λhm=>?_) dS)) dS)) dS
 .obtain⟨x,u,v⟩:=f'.1 s;obtain⟨b,w⟩:=n8.1 v;obtain⟨p,rfl⟩:=lz u;rw[bY]at b;cases es with
  |nil=>cases t|cons e es=>exact L.tr<|aHs (L.pX _ _ _ w) (L.gl b.2) (Dk b.1).1 (tH h ih) h hn hl
 .have l:=λc D g y z=>L.nY m dp j c D g y z;cases es with
  |nil=>exact L.tr<|aIh l (ih _).1 b hl|cons e es=>exact L.tr<|aIg l (ih _).1 (tH h ih) b h hn hl
 .obtain rfl:=qC ha;cases of_decide_eq_true hm;exact L.tr<|aHl L.K (ih _).1 (ih _).1 b (jX.1 h a<|.head _) hl
 .obtain rfl:=qC ha;exact dm _ _ rfl '#' b
 .obtain rfl:=pf k;rw[bY]at hm;cases of_decide_eq_true hm.1;exact L.tr<|aHy L.tab (ih _).1 (tH h ih) b (jX.1 h _<|.head _) (jX.1 h _<|.tail _<|.head _) hl
 .obtain rfl:=pf k;exact dm _ _ rfl (show 1<28 by decide) b
 .obtain rfl:=vL he;cases of_decide_eq_true hm;exact L.tr<|aHr L.K (ih _).1 b hl
 .obtain rfl:=vL he;cases of_decide_eq_true hm;exact L.tr<|aIm L.K (ih _).1 b hl
def aOs{k:Option aI}{s:Str}(h:(k.bind tq).bind JW=aA s):∃a p,k=aA (.Constant (.str s) a p):=by obtain⟨c,b,d⟩:=f'.1 h;obtain⟨e,he,b⟩:=f'.1 b;obtain⟨a,p,f⟩:=Zc b;rw[he,f];cases c<;>cases d;exact⟨a,p,rfl⟩
theorem HN{X:Cx}{T:D8}{E:XK}{F:E9}{f:aI->Ex}(ih:∀e,Q2 X T E F e (f e)):∀{ks:List (Option aI)}{ss:AK}{vs:List aI},Qg ks=aA ss->B3 ss=B3 vs->ax X T E ks vs ss (dH F<|lF<|vs.map f)/\B3 ss=B3 ks
 |[],ss,vs,h,hl=>by cases h;obtain rfl:=BF.1 hl.symm;exact⟨.nil,rfl⟩
 |k::r,ss,vs,h,hl=>by
  obtain⟨s,a,h⟩:=f'.1 h;obtain⟨c,b,rfl⟩:=gT.1 h;obtain⟨_,_,rfl⟩:=aOs a;cases vs with
  |nil=>cases hl|cons v vs=>obtain⟨q,l⟩:=HN ih b (Nat.succ.inj hl);exact⟨.cons (ih v).1 q,congrArg (·+1) l⟩
theorem iO{T:D8}{F:E9}:∀(n:Nat) {X:Cx}{E:XK}{C:Cn} (L:Lk X T E C F) (e:aI),Q2 X T E F e (cE C n e)
 |0,X,E,C,L,e=>dS
 |n+1,X,E,C,L,e=>by
  have d:=λe=>iO n L e;cases e
  case Name=>exact aPk L _ _
  case Constant=>exact aPh L _ _ _
  case BinOp=>exact iL (λo r=>L.tr (aIk (aCw L r) (d _).1 (d _).1)) dS
  case UnaryOp op a p=>
   cases op with
   |USub=>exact⟨aIs aSz (d _).1,Pe⟩|Not=>exact⟨aIj (d _).1,aMl (d _).2⟩|_=>exact dS
  case Compare a os bs p=>
   refine iL (λo r=>iL (λb hb=>gN (λk=>?_) dS) dS)<|iL (λo r=>iL (λb hb=>gN (λk=>?_) dS) dS) dS
   .obtain rfl:=qC r;obtain rfl:=qC hb;exact⟨aHt (mm L _) (d _).1 (d _).1 (En k),aMk (mm L _) (d _).1 (d _).1 (En k)⟩
   .obtain rfl:=pf r;obtain rfl:=pf hb;exact⟨aHq (mm L _) (mm L _) (d _).1 (d _).1 (d _).1 (En k),aMj (mm L _) (mm L _) (d _).1 (d _).1 (d _).1 (En k)⟩
  case BoolOp op u p=>
   cases u with
   |nil=>cases op<;>exact dS|cons v u=>
    cases op with
    |And=>exact(Xa L d v u).imp id QW.qt|Or=>exact(GJ L d v u).imp id QW.qt
  case IfExp=>exact⟨aHz (d _).2 (d _).1 (d _).1,Pe⟩
  case Tuple=>exact gN (λk=>L.tr (aIr<|tH k d)) dS
  case List=>exact gN (λk=>L.tr (aIc<|tH k d)) dS
  case Subscript a s p=>refine iL (λq A=>?_)<|gN (λhb=>L.tr (aIb (V2 L.K) (d _).1 (d _).1 (aOq hb))) dS;obtain⟨_,rfl⟩:=aOu A;exact L.tr<|aIo L.K (d _).1 (GR d) (GR d)
  case Call g Q K p=>
   refine iL (λy h=>aPi L d h)<|gN (λl=>?_) dS;obtain rfl:=vL l;refine iL (λx M=>?_)<|iL (λq A=>?_) dS
   .obtain⟨_,rfl⟩:=lz M;exact aPg L d _ _ _ _
   .obtain rfl:=Xd A;exact aPj L d _ _ _ _ _
  case Dict K u p=>
   refine gN (λh=>?_)<|iL (λss B=>gN (λw=>?_) dS) dS
   .rw[bY]at h;obtain rfl:=vL h.1;exact L.tr aHw
   .simp only[bY,decide_eq_true_eq,Sh]at w;obtain⟨q,hl⟩:=HN d B w.1.1;exact L.tr<|aHu q (λe=>by rw[e]at hl;rw[aXd]at w;exact w.2<|yj hl)<|hl▸w.1.2
  case Attribute=>exact gN (λhb=>iL (λcs N=>L.tr (aHx (L.lG _ _ N) (d _).1 hb)) dS) dS
  case ListComp elt gs scope p=>
   show Q2 X T E F _ (tj C (λO P=>cE O n P) elt gs scope);refine EH dS (λt it D l G=>HU L rfl ?_) λt it c D l G=>HU L rfl ?_
   .subst D;have m:=λs H a f=>L.comp l s H a f;exact L.tr<|HW (ct:=aD) (L.Aw l) L.calm (xj L d _ _) (λs H a f=>Es (m s H a f) _) (λc z=>bU z) (λ_=>rfl) (λs H a f=>(iO n (m s H a f) _).1) (by simp[Cn.imp]) (λi j x I J=>L.imp I J) G
   .subst D;have m:=λs H a f=>L.comp l s H a f;exact L.tr<|HW (ct:=aA _) (L.Aw l) L.calm (xj L d _ _) (λs H a f=>Es (m s H a f) _) (λc z s H a f=>by cases z;exact(iO n (m s H a f) _).2) (nofun) (λs H a f=>(iO n (m s H a f) _).1) (by simp[Cn.imp]) (λi j x I J=>L.imp I J) G
  all_goals exact dS
def Em:AU->'%'->aF->aF
 |i::is,v::vs,Z=>Em is vs (Z.set i<|aA v)
 |_,_,Z=>Z
def GO(is:AU)(mr:M '%')(Z:aF):M E3:=mr.bind λvs=>C7 (B3 vs=B3 is) (B8<|.nx<|Em is vs Z)
def aRh(i j k:Nat)(ta:TA):TS:=λD Z H=>ta Z H λvs H1=>∃v w z,vs=[v,w,z]/\D.nx (((Z.set i<|aA v).set j (aA w)).set k (aA z)) H1
section
variable {a b c:aI}{x y z:Str}{px pz pt:Pos}{kt k2:Nat}{pt2:Pos}{i j k:Nat}
def aGn{ta:TA}(hc:X.calm=aB)(hN:X.N.Nodup)(hi:X.N[i]?=aA x)(hj:X.N[j]?=aA y)(hk:X.N[k]?=aA z)(hij:i≠j)(hik:i≠k)(hjk:j≠k)
  (hx:X.env.scope.names.lookup x=aA .local) (hy:X.env.scope.names.lookup y=aA .local) (hz:X.env.scope.names.lookup z=aA .local) (ha:PA X [a,b,c] ta)
  (hw:rl [.Tuple [.Name x px,.Name y py,.Name z pz] kt pt] (.Tuple [a,b,c] k2 pt2) X.env=pure (aA [x,y,z])) :
  PS X (.Assign [.Tuple [.Name x px,.Name y py,.Name z pz] kt pt] (.Tuple [a,b,c] k2 pt2) pos) (aRh i j k ta):=by
 have hs:RU [.Tuple [.Name x px,.Name y py,.Name z pz] kt pt] (.Tuple [a,b,c] k2 pt2) pos.line X.env=pure aJ:=by rfl
 intro ap s Z H D I h;rw[exec_Assign_arm];refine aR<|zo ?_;rw[hs];refine aR<|cH ?_;rw[if_neg '#'];refine aR<|Tuple_<|bG (ha _ ap s Z H _ I h) λus s1 ⟨vs,H1,I1,r1,q1⟩=>?_;obtain⟨v,w,z',e1,q1⟩:=q1;subst e1;obtain⟨u1,u2,u3,rfl,rv,rw',rz⟩:∃u1 u2 u3,us=[u1,u2,u3]/\D6 v u1/\D6 w u2/\D6 z' u3:=by
  cases r1 with
  |cons p q=>
   cases q with
   |cons p' q'=>
    cases q' with
    |cons p2 q2=>cases q2;exact⟨_,_,_,rfl,p,p',p2⟩
 refine uQ ?_ (by show 3<=sizeLine;decide);have I2:D3 X ap Z H1 { s1 with heap:=s1.heap.push { cls:=.type "tuple",data:=.seq [u1,u2,u3].toArray } }:=I1.E6 (t':=s1.toks) λb o e=>cX _ e;rw[hw];refine aR<|cH ?_;show aT '1' X.A (do rule "assign.swapped-stores";let items <- unpackItems (.ref s1.heap.objs.size) 3 aD;Vc [λv=>rj X.env z v,λv=>rj X.env y v,λv=>rj X.env x v] items.reverse;pure Flow.next) _ _ _;refine aR<|ro<|aR<|unpackItems_tuple (items:=#[u1,u2,u3]) (I.ok.hd hc) (Ge s1.heap _) λh' hx'=>?_;have I3:=I2.E6 (h':=h') (t':=s1.toks) λb o e=>hx' b o (bZ<|dG e) e;show aT _ _ (Vc [λv=>rj X.env z v,λv=>rj X.env y v,λv=>rj X.env x v] [u3,u2,u1]>>=λ_=>pure Flow.next) _ _ _;refine aR<|Hl<|Vt<|oj I3 hN hk (.inl hz) rz (λs2 I4=>?_)<|.inr hz;refine Hl<|Vt<|oj I4 hN hj (.inl hy) rw' (λs3 I5=>?_)<|.inr hy;refine Hl<|Vt<|oj I5 hN hi (.inl hx) rv (λs4 I6=>RK (cH ?_))<|.inr hx;rw[Tq _ _ (lM hjk),Tq _ _ (lM hik),Tq _ _ (lM hij)]at I6;exact⟨_,H1,I6,q1⟩
def aMb(hc:X.calm=aB)(hN:X.N.Nodup)(hi:X.N[i]?=aA x)(hj:X.N[j]?=aA y)(hk:X.N[k]?=aA z)(hij:i≠j)(hik:i≠k)(hjk:j≠k)
  (hx:X.env.scope.names.lookup x=aA .local) (hy:X.env.scope.names.lookup y=aA .local) (hz:X.env.scope.names.lookup z=aA .local) (ha:QA X T E [a,b,c] mr)
  (hw:rl [.Tuple [.Name x px,.Name y py,.Name z pz] kt pt] (.Tuple [a,b,c] k2 pt2) X.env=pure (aA [x,y,z])) :
  QS X T E (.Assign [.Tuple [.Name x px,.Name y py,.Name z pz] kt pt] (.Tuple [a,b,c] k2 pt2) pos) (λZ=>GO [i,j,k] (mr Z) Z):=by
 obtain⟨t,pr,f⟩:=ha;refine⟨_,aGn hc hN hi hj hk hij hik hjk hx hy hz pr hw,λg Z d h H D R S w=>f g Z d h H _ R S (B9 w λl xs m h1 H1 n o p e=>?_)⟩;obtain⟨hz,e⟩:=ki e;cases p with
 |nil=>cases hz|cons q rs=>
  cases rs with
  |nil=>cases hz|cons r rs=>
   cases rs with
   |nil=>cases hz|cons s rs=>
    cases rs with
    |nil=>exact⟨_,_,_,rfl,C0 (b:=jV.nx _) e o ((((S.ext n).set q i).set r j).set s k)⟩|cons _ _=>cases hz
end
mutual
inductive Tg where
 |D0
 |nm (i:Nat)
 |tup (n:Nat) (ts:xN)
 |sub (o i:Ex)
inductive xN where
 |nil
 |cons (t:Tg) (ts:xN)
end
mutual
inductive Sx where
 |D0|pass|brk|cnt|Eh
 |expr (e:Ex)
 |ret (e:Ex)
 |asg (t:Tg) (e:Ex)
 |ite (c:Ex) (a b:aQ)
 |xY (t:Tg) (it:Ir) (b:aQ)
 |kD (d:Ex) (s:Sx)
 |Fl (c:Ex) (b:aQ)
 |par (is:AU) (es:eF)
 |kg (cs:AU) (f:Str) (o e:Ex)
 |uh (cs:AU) (f:Str) (o e:Ex)
 |aug (sub:Bool) (i:Nat) (e:Ex)
inductive aQ where
 |nil
 |cons (s:Sx) (ss:aQ)
end
mutual
noncomputable def mG(F:E9):Tg->AV->aF->M aF
 |.D0,_,_=>C5
 |.nm i,v,Z=>B8 (Z.set i<|aA v)
 |.tup n ts,v,Z=>yD n (xO F ts) v Z
 |.sub o i,v,Z=>(aM F o Z).bind λx=>(aM F i Z).bind λy=>(pB x y v).bind λ_=>B8 Z
noncomputable def xO(F:E9):xN->'%'->aF->M aF
 |.nil,vs,Z=>Kz vs Z
 |.cons t ts,vs,Z=>Ky (mG F t) (xO F ts) vs Z
end
mutual
noncomputable def dR(F:E9):Sx->aF->M E3
 |.D0,_=>C5
 |.pass,σ=>B8 (.nx σ)
 |.brk,σ=>B8 (.brk σ)
 |.cnt,σ=>B8 (.cnt σ)
 |.Eh,_=>B8 (.ret .aG)
 |.expr e,σ=>(aM F e σ).bind λ_=>B8 (.nx σ)
 |.ret e,σ=>(aM F e σ).bind λv=>B8 (.ret v)
 |.asg t e,σ=>(aM F e σ).bind λv=>(mG F t v σ).bind λσ1=>B8 (.nx σ1)
 |.ite c a b,σ=>Ch (dW F c σ) (jY F a σ) (jY F b σ)
 |.xY t it b,σ=>(iter F it σ).bind λi=>kM i (mG F t) (jY F b) FU 0 σ
 |.kD d s,σ=>mO (aM F d) (dR F s) σ
 |.Fl c b,σ=>wJ (dW F c) (jY F b) FU σ
 |.par is es,σ=>GO is (dH F es σ) σ
 |.kg cs f o e,σ=>BL cs f (aM F o σ) (aM F e σ) σ
 |.uh cs f o e,σ=>Xg cs f (aM F o σ) (aM F e σ) σ
 |.aug sub i e,σ=>su sub i (aM F e σ) σ
noncomputable def jY(F:E9):aQ->aF->M E3
 |.nil,Z=>B8 (.nx Z)
 |.cons s ss,Z=>JX (dR F s Z) (jY F ss)
end
def xp:List Tg->xN
 |[]=>.nil
 |t::ts=>.cons t (xp ts)
def cG(C:Cn):Nat->aI->Tg
 |0,_=>.D0
 |n+1,e=>match vw e with
  |.nm x=>(C.D9 x).elim .D0 .nm
  |.tp es=>if es.all sO then .tup (B3 es) (xp<|es.map<|cG C n) else .D0
  |.sb a b=>if cF b then .sub (cE C EF a) (cE C EF b) else .D0
  |_=>.D0
def gh:List Sx->aQ
 |[]=>.nil
 |s::ss=>.cons s (gh ss)
def swL(C:Cn)(t e:aI):Bool:=decide (Qi (xF e (aA t) 0 { (default:Env)with scope:=C.sc })=aA aB)
def cL(C:Cn)(t e:aI):Sx:=(C.lo t).elim .D0 λi=>if swL C t e then .asg (.nm i) (cE C EF e) else .D0
def Qh(C:Cn)(t e:aI)(o:Option (List Str)):Bool:=decide (Qi (swE [t] e C.sc)=aA o)
def GQ(C:Cn)(t e:aI)(ts vs:List aI):Bool:=B3 ts==3&&B3 vs==3&&ts.all (λt=>qw (C.lo t))&&decide ((ts.filterMap C.lo).Nodup)&&vs.all cF&&Qh C t e (aA<|ts.filterMap tV)
def cP(C:Cn)(t e:aI):Sx:=(wC t).elim .D0 λts=>(wC e).elim .D0 λvs=>if GQ C t e ts vs then .par (ts.filterMap C.lo) (lF<|vs.map<|cE C EF) else .D0
def JZ:pQ->Option Bool
 |.Add=>aA aJ
 |.Sub=>aA aB
 |_=>aD
def Yj(C:Cn)(t:aI)(op:pQ)(e:aI):Sx:=(JZ op).elim .D0 λs=>match vw t with
 |.nm x=>(C.D9 x).elim .D0 λi=>.aug s i (cE C EF e)
 |.sm o f _=>if !s then(C.lG.lookup f).elim .D0 λcs=>.uh cs f (cE C EF o) (cE C EF e) else .D0
 |_=>.D0
def tf(C:Cn)(t e:aI):Sx:=if vI e then cL C t e else
  (Ak t).elim (if cF e&&sO t&&Qh C t e aD then .asg (cG C 4 t) (cE C EF e) else cP C t e)
   λq=>(C.lG.lookup q.2.1).elim .D0 λcs=>if cF e then .kg cs q.2.1 (cE C EF q.1) (cE C EF e) else .D0
def Cn.LN(C:Cn)(it:aI)(d:Ex)(s:Sx):Sx:=if C.Lq it then .kD d s else s
def cS(C:Cn):Nat->Stmt->Sx
 |0,_=>.D0
 |n+1,s=>match s with
  |.Pass _=>.pass
  |.Break _=>.brk
  |.Continue _=>.cnt
  |.Return o _=>o.elim .Eh λe=>.ret (cE C EF e)
  |.Expr e _=>if cF e && !vI e then .expr (cE C EF e) else .D0
  |.Assign ts e _=>(oA ts).elim .D0 λt=>tf C t e
  |.AugAssign t op e _=>Yj C t op e
  |.If c a b _=>.ite (cE C EF c) (gh<|a.map<|cS C n) (gh<|b.map<|cS C n)
  |.For t it b els _=>if els.isEmpty&&cF it then C.LN it (cE C EF it) (.xY (cG C 4 t) (cI C (cE C EF) t it)<|gh<|b.map<|cS C n) else .D0
  |.While c b els _=>if els.isEmpty then .Fl (cE C EF c) (gh<|b.map<|cS C n) else .D0
  |_=>.D0
section
variable (L:Lk X T E C F)(ht:C.top=aB)
def aSi{k:aF->AV->aF}(σ:aF):mO m0 (λσ=>(ma σ).bind λv=>(B8<|k σ v).bind λσ1=>B8 (E3.nx σ1)) σ=(mO m0 ma σ).bind λv=>(B8<|k σ v).bind λσ1=>B8 (E3.nx σ1):=by
 funext h
 simp only[C6,B8,mO];cases Ba (m0 σ h) with
 |none=>rfl|some n=>
  dsimp only;cases h.ob n with
  |none=>rfl|some u=>
   cases u with
   |aP b=>
    cases ma σ h with
    |ok a c=>
     dsimp only[xq];cases c.ob n with
     |none=>rfl|some w=>cases w<;>rfl
    |D0=>rfl
   |_=>rfl
def e5{P:Prop}(h1:b=aB->P)(h2:b=aJ->P):P:=by
 cases b with
 |false=>exact h2 rfl|true=>exact h1 rfl
def vR{c:Bool}{st:Stmt}{x y:Sx}(h1:c=aB->QS X T E st (dR F x))(h2:QS X T E st (dR F y)):QS X T E st (dR F<|if c=aB then x else y):=by
 cases c with
 |false=>exact h2|true=>exact h1 rfl
def vQ{α:Type}{o:Option α}{st:Stmt}{f:α->Sx}{y:Sx}(h1:∀a,o=aA a->QS X T E st (dR F<|f a))(h2:QS X T E st (dR F y)):QS X T E st (dR F<|o.elim y f):=by
 cases o with
 |none=>exact h2|some a=>exact h1 a rfl
def HY{c:Bool}{x y:Tg}(h1:c=aB->QG X T E e (mG F x))(h2:QG X T E e (mG F y)):QG X T E e (mG F<|if c=aB then x else y):=by
 cases c with
 |false=>exact h2|true=>exact h1 rfl
def IS{st:Stmt}{it:aI}{y:Ex}{i:Nat}(h:QS X T E st (dR F<|.asg (.nm i) y)):QS X T E st (dR F<|.asg (.nm i)<|C.kD it d y):=by
 unfold Cn.kD;split
 .have q:=IQ (aM F d) h;have e:mO (aM F d) (dR F<|.asg (.nm i) y)=dR F (.asg (.nm i)<|.kD d y):=funext λa=>aSi a;rw[e]at q;exact q
 .exact h
def aMf{st:Stmt}{it:aI}{s:Sx}(h:QS X T E st (dR F s)):QS X T E st (dR F<|C.LN it d s):=vR (λ_=>IQ (aM F d) h) h
def aSh{f:aI->Tg}(hs:es.all sO=aB)(h:∀e,QG X T E e (mG F<|f e)):jh X T E es (xO F<|xp<|es.map f):=by
 induction es with
 |nil=>exact ID|cons e es a=>rw[lZ,bY]at hs;exact IC (h e) (a hs.2) hs.1
include L in
theorem Lk.D9{x:Str}{i:Nat}(h:C.D9 x=aA i):X.N[i]?=aA x/\aq X.env.scope x:=by obtain⟨hl,h⟩:=n8.1 h;rw[L.N,L.sc];simp only[Cn.loc,yg,decide_eq_true_eq]at hl;exact⟨vd h,hl⟩
include L ht in
theorem Py:∀(n:Nat) (e:aI),QG X T E e (mG F<|cG C n e)
 |0,e=>mv
 |n+1,e=>by
  have k:=zF e;unfold cG;generalize vw e=v at k ⊢;cases v with
  |nm x=>
   obtain⟨p,rfl⟩:=k;show QG X T E _ (mG F<|(C.D9 x).elim .D0 .nm);cases d:C.D9 x with
   |none=>exact mv|some i=>exact IA (by rw[L.N];exact L.nd) (L.D9 d).1 (L.D9 d).2 (.inl<|L.fn ht _)
  |tp f=>obtain⟨_,_,rfl⟩:=k;exact HY (λc=>IB L.K L.calm (aSh c<|Py n) c) mv
  |sb a b=>obtain⟨_,rfl⟩:=k;exact HY (λc=>aIu (iO EF L _).1 (iO EF L _).1 c) mv
  |_=>exact mv
def xm{ss:AN}{f:Stmt->Sx}(h:∀s,QS X T E s (dR F<|f s)):xK X T E ss (jY F<|gh<|ss.map f):=by
 induction ss with
 |nil=>exact aMi|cons s ss a=>exact aMh (h s) a
def EL{α:Type}{l:List α}(h:B3 l=3):∃a b c,l=[a,b,c]:=by
 match l,h with
 |[a,b,c],_=>exact⟨a,b,c,rfl⟩
def KR{t:aI}{o:Option (List Str)}(hs:X.env.scope=C.sc)(h:Qh C t e o=aB):rl [t] e X.env=pure o:=by have h:=KS (of_decide_eq_true h);rw[<- hs]at h;exact h
include L ht in
theorem aPf(t e:aI)(sN:Pos):QS X T E (.Assign [t] e sN) (dR F<|cP C t e):=by refine vQ (λB u=>vQ (λD v=>vR (λok=>?_) kW) kW) kW;obtain⟨kt,pt,rfl⟩:=Ez u;obtain⟨k2,G,rfl⟩:=Ez v;unfold GQ at ok;rw[bY,bY,bY,bY,bY]at ok;obtain⟨⟨⟨⟨⟨w,A⟩,f⟩,g⟩,d⟩,h⟩:=ok;obtain⟨t1,m,t3,rfl⟩:=EL (eq_of_beq w);obtain⟨a,b,c,rfl⟩:=EL (eq_of_beq A);have sl:=λt ht=>i'.1 (jX.1 f t ht);obtain⟨i,n⟩:=sl t1 (.head _);obtain⟨j,o⟩:=sl m (.tail _<|.head _);obtain⟨k,p⟩:=sl t3 (.tail _<|.tail _<|.head _);have nd:=of_decide_eq_true g;rw[Sw n,Sw o,Sw p]at nd ⊢;obtain⟨x,H,rfl,q,g1⟩:=vy n;obtain⟨y,py,rfl,r,g2⟩:=vy o;obtain⟨z,I,rfl,s,g3⟩:=vy p;rw[<- L.sc]at q r s;rw[<- L.N]at g1 g2 g3;have l:=tx.1 nd;exact aMb L.calm (by rw[L.N];exact L.nd) g1 g2 g3 (λe=>l.1 (e ▸ .head _)) (λe=>l.1 (e ▸ .tail _ (.head _))) (λe=>(tx.1 l.2).1 (e ▸ .head _)) q r s (tH d<|iO EF L)<|KR L.sc h
def X5(h:vI e=aB):∃elt gs scope p,e = .ListComp elt gs scope p:=by cases e<;>first|exact⟨_,_,_,_,rfl⟩|exact ff h
include L in
theorem aPe(t e:aI)(sN:Pos)(hlc:vI e=aB):QS X T E (.Assign [t] e sN) (dR F<|cL C t e):=by
 refine vQ (λi g=>vR (λm=>?_) kW) kW;obtain⟨elt,gs,scope,pos,rfl⟩:=X5 hlc;obtain⟨y,py,rfl,n,d⟩:=vy g;rw[<- L.N]at d;rw[<- L.sc]at n;have r:=L.N▸L.nd;have k:xF (.ListComp elt gs scope pos) (aA<|.Name y py) sN.line X.env=pure aB:=by have h:=KS (of_decide_eq_true m);rw[<- L.sc]at h;exact h
 show QS X T E _ (dR F<|.asg (.nm i)<|tj C (λu v=>cE u 39 v) elt gs scope);refine EH (P:=λz=>QS X T E (.Assign [.Name y py] (.ListComp elt gs scope pos) sN) (dR F<|.asg (.nm i) z)) kW (λt it o l g=>IS ?_) λt it c o l g=>IS ?_
 .subst o;have f:=λs H a b=>L.comp l s H a b;exact IP (ct:=aD) r d n k (L.Aw l) L.calm (xj L (iO 39 L) _ _) (λs H a b=>Es (f s H a b) _) (λc z=>bU z) (λ_=>rfl) (λs H a b=>(iO 39 (f s H a b) _).1) (by simp[Cn.imp]) (λi j x p q=>L.imp p q) g
 .subst o;have f:=λs H a b=>L.comp l s H a b;exact IP (ct:=aA _) r d n k (L.Aw l) L.calm (xj L (iO 39 L) _ _) (λs H a b=>Es (f s H a b) _) (λc z s H a b=>by cases z;exact(iO 39 (f s H a b) _).2) (λz=>by cases z) (λs H a b=>(iO 39 (f s H a b) _).1) (by simp[Cn.imp]) (λi j x p q=>L.imp p q) g
def aQd{v o:aI}{f:Str}{l:Nat}(h:cF v=aB)(hn:vI v=aJ):xF v (aA<|.Attribute o f p) l env=pure aJ:=by cases v<;>first|rfl|cases h|cases hn
def aOo{op:pQ}{s:Bool}(h:JZ op=aA s):op=if s=aB then .Sub else .Add:=by cases op<;>cases h<;>rfl
include L ht in
theorem aPd(t:aI)(op:pQ)(e:aI)(pos:Pos):QS X T E (.AugAssign t op e pos) (dR F<|Yj C t op e):=by
 refine vQ (λs b=>?_) kW;obtain rfl:=aOo b;have k:=zF t;generalize vw t=v at k ⊢;cases v with
 |nm x=>obtain⟨p,rfl⟩:=k;exact vQ (λi a=>aLt s (L.N▸L.nd) (L.D9 a).1 (L.D9 a).2 (.inl<|L.fn ht _) (iO EF L _).1) kW
 |sm o f p=>
  obtain rfl:=k;refine vR (λh=>vQ (λcs c=>?_) kW) kW;cases s with
  |false=>exact aLy (L.lG _ _ c) (iO EF L _).1 (iO EF L _).1|true=>exact ff h
 |_=>exact kW
include L ht in
theorem KL:∀(n:Nat) (s:Stmt),QS X T E s (dR F<|cS C n s)
 |0,s=>kW
 |n+1,s=>by
  have f:=KL n;cases s
  case Pass=>exact aMc
  case Break=>exact aLu
  case Continue=>exact aLv
  case Return o p=>
   cases o with
   |none=>exact aMe|some e=>exact aMd (iO EF L _).1
  case Expr e p=>refine vR (λa=>?_) kW;rw[bY,Sh]at a;exact aLw (iO EF L _).1 a.1 a.2
  case Assign l e d=>
   refine vQ (λt g=>?_) kW;obtain rfl:=qC g;refine e5 (b:=vI e) (λh=>?_) λh=>?_
   .show QS X T E _ (dR F<|tf C t e);unfold tf;rw[if_pos h];exact aPe L t e d h
   .show QS X T E _ (dR F<|tf C t e);unfold tf;rw[if_neg (by grind)];refine vQ (λq j=>vQ (λcs k=>vR (λa=>?_) kW) kW) (vR (λa=>?_)<|aPf L ht t e d)
    .obtain rfl:=Xd j;exact aLx (L.lG _ _ k) (iO EF L _).1 (iO EF L _).1 (aQd a h)
    .rw[bY,bY]at a;exact aLs (iO EF L _).1 (Py L ht 4 _) a.1.1 h a.1.2 (KR L.sc a.2)
  case AugAssign=>exact aPd L ht _ _ _ _
  case If=>exact aMa (iO EF L _).2 (xm f) (xm f)
  case For t it b i p=>refine vR (λa=>?_) kW;rw[bY]at a;obtain rfl:=vL a.1;exact aMf<|aLz (L.po ht) L.calm (xj L (iO EF L) _ _) (Py L ht 4 _) (xm f) a.2
  case While c b i p=>refine vR (λa=>?_) kW;obtain rfl:=vL a;exact aMg (L.po ht) (iO EF L _).2 (xm f)
  all_goals exact kW
end
abbrev Pg:=Nat->Option (Nat×Nat×aQ)
def GL:E3->M AV
 |.nx _=>B8 .aG
 |.ret v=>B8 v
 |_=>C5
def D1(P:Pg):Nat->E9
 |0,_,_=>C5
 |k+1,f,args=>match P f with
  |none=>C5
  |some (np,nn,b)=>C7 (B3 args=np) ((jY (D1 P k) b<|args.map aA++fB (nn-np) aD).bind GL)
def f7:Stmt->AN
 |.ClassDef _ _ _ body ..=>body
 |_=>[]
structure Df where
 name:Str
 qual:Str
 st:Stmt
 N:AK
 ps:AK
def EW(s:Stmt):AK:=((pY s).names.filter λy=>decide (y.2 = .local)||decide (y.2 = .cell)).map (·.1)
def GP(s:Stmt):AK:=(uc s).args.map (·.arg)
structure Pr where
 defs:List Df
 cz:Nat
 vc:AL
 pU:AK
 NK:List (Str×Nat):=[]
 cat:List (Str×BB):=[]
 DK:List (Str×BB):=[]
 lG:List (Str×AU):=[]
 nY:List (Str×AQ):=[]
 nE:List ((Str×Nat)×(Nat×Nat×AY)):=[]
 tM:List (Str×BB):=[]
 pX:List (Str×List (Str×Nat)):=[]
 Jn:AK:=[]
def SF:Nat:=30
def Pr.cn(p:Pr)(d:Df):Cn:=⟨d.N,pY d.st,(p.defs.take p.cz).map (·.name),p.vc,p.pU,p.NK,p.cat,p.DK,aB
 ,p.lG,p.nY,p.nE,p.tM,p.pX
 ,p.Jn
 ⟩
def Pr.bodyOf(p:Pr)(d:Df):Nat×Nat×aQ:=(B3 d.ps,B3 d.N,gh ((jy d.st).map (cS (p.cn d) SF)))
def Pr.ir(p:Pr):Pg:=λi=>(p.defs[i]?).map p.bodyOf
structure Wd(K:bN)(x qual:Str)(st:Stmt)(f:Addr)(fd:fA):Prop where
 ex:∃(oc:Value) (od:BD) (dV kV doc pm:Value) (an:BD) (cdv ct:Value) (osl:Array '8'),
  fd=rf x qual (uc st) (jy st) (pY st) dV kV doc pm an cdv ct/\K.lookup f=aA ⟨oc,od,.func fd,osl⟩/\Uq K cdv qual=aB
 kp:uO K (.ref f)=aB
def An{K:bN}{ds:'2'}{D:Addr}{o:Obj}(hd:fd.defaults = .ref D)(l:K.lookup D=aA o)(hs:o.data = .seq items n)
  (h:∀us:'2',B3 (us++ds)=B3 ps->∃k,bindArgs fd ⟨us,[]⟩=iq fd.defaults>>=k/\k (aA items)=pure (ps.zip<|us++ds)):E5 K fd ps ds:=λs us X hl=>
 let ⟨_,a,b⟩:=h us hl;BindsTo.of_defaults hd (X _ _ l) hs a b
structure Hw(K:bN)(d:Df)(f:Addr)(fd:fA):Prop where
 fn:Wd K d.name d.qual d.st f fd
 bd:E5 K fd d.ps []
 sc:se d.N d.ps (pY d.st)
inductive jG(K:bN):List Df->AI->List fA->Prop
 |nil:jG K [] [] []
 |cons {d:Df}{a:Addr}{f:fA}{ds:List Df}{as:AI}{fs:List fA} (h:Hw K d a f) (t:jG K ds as fs):jG K (d::ds) (a::as) (f::fs)
def jG.get{K:bN}{ds:List Df}{as:AI}{fs:List fA}(h:jG K ds as fs){f0:fA}:∀(i:Nat) d,ds[i]?=aA d->Hw K d (as.getD i 0) (fs.getD i f0):=by
 induction h with
 |nil=>intro i d e;simp at e|cons h t a=>
  intro i d e;cases i with
  |zero=>cases(e);exact h|succ i=>exact a i d e
def aTd{α:Type}{us:List α}(h:B3 us=0):us=[]:=yj h
def Qy{α:Type}{us:List α}(h:B3 us=1):∃a0,us=[a0]:=by obtain⟨a,r,rfl⟩:=zO h;obtain rfl:=aTd (by simpa using h);exact⟨a,rfl⟩
def pj{α:Type}{us:List α}(h:B3 us=2):∃a0 a1,us=[a0,a1]:=by obtain⟨a,r,rfl⟩:=zO h;obtain⟨b,rfl⟩:=Qy (by simpa using h);exact⟨a,b,rfl⟩
def Qz{α:Type}{us:List α}(h:B3 us=3):∃a0 a1 a2,us=[a0,a1,a2]:=by obtain⟨a,r,rfl⟩:=zO h;obtain⟨b,b1,rfl⟩:=pj (by simpa using h);exact⟨a,b,b1,rfl⟩
def Ra{α:Type}{us:List α}(h:B3 us=4):∃a0 a1 a2 a3,us=[a0,a1,a2,a3]:=by obtain⟨a,r,rfl⟩:=zO h;obtain⟨b,b1,b2,rfl⟩:=Qz (by simpa using h);exact⟨a,b,b1,b2,rfl⟩
def MB{α:Type}{us:List α}(h:B3 us=5):∃a0 a1 a2 a3 a4,us=[a0,a1,a2,a3,a4]:=by obtain⟨a,r,rfl⟩:=zO h;obtain⟨b,b1,b2,c,rfl⟩:=Ra (by simpa using h);exact⟨a,b,b1,b2,c,rfl⟩
def MC{α:Type}{us:List α}(h:B3 us=6):∃a0 a1 a2 a3 a4 a5,us=[a0,a1,a2,a3,a4,a5]:=by obtain⟨a,r,rfl⟩:=zO h;obtain⟨b,b1,b2,c,d,rfl⟩:=MB (by simpa using h);exact⟨a,b,b1,b2,c,d,rfl⟩
def aTe{α:Type}{us:List α}(h:B3 us=7):∃a0 a1 a2 a3 a4 a5 a6,us=[a0,a1,a2,a3,a4,a5,a6]:=by obtain⟨a,r,rfl⟩:=zO h;obtain⟨b,b1,b2,c,d,e,rfl⟩:=MC (by simpa using h);exact⟨a,b,b1,b2,c,d,e,rfl⟩
def MD{α:Type}{us:List α}(h:B3 us=8):∃a0 a1 a2 a3 a4 a5 a6 a7,us=[a0,a1,a2,a3,a4,a5,a6,a7]:=by obtain⟨a,r,rfl⟩:=zO h;obtain⟨b,b1,b2,c,d,e,f,rfl⟩:=aTe (by simpa using h);exact⟨a,b,b1,b2,c,d,e,f,rfl⟩
structure Ih(P:cC)(w:bV)(p:Pr)(T:D8)(mg:Str->A6)(ad:Nat->Addr)(fds:Nat->fA):Prop where
 df:∀(i:Nat) d,p.defs[i]?=aA d->Hw T.K d (ad i) (fds i)
 gn:∀(i:Nat) d,(p.defs.take p.cz)[i]?=aA d->mg d.name=aA (.ref<|ad i)
 gv:∀x v,p.vc.lookup x=aA v->∃u v',mg x=aA u/\D6 v' u/\∀Y H,aV T Y H v v'
 bl:∀x,p.pU.contains x=aB->mg x=aD
 tab:∀(kvs:AZ) a,T.G kvs a->sg P w T.K a kvs
 lG:∀f cs,p.lG.lookup f=aA cs->jf T.K T cs f
 nY:∀m dp,p.nY.lookup m=aA dp->∀c i,dp.lookup c=aA i->∃d D,p.defs[i]?=aA d/\T.C c=aA D/\nR T.K D/\zy T.K D m (ad i)
 nE:∀x n c i dv,p.nE.lookup (x,n)=aA (c,i,dv)->∃d D ds dvs,p.defs[i]?=aA d/\T.C c=aA D/\Mk T.K D (ad i)/\mg x=aA (.ref D)/\E5 T.K (fds i) d.ps ds/\D5 dvs ds/\∀Y H,bF T Y H dv dvs
 tM:∀y cs,p.tM.lookup y=aA cs->∃D:Addr,mg y=aA (.ref D)/\∀k b,cs.lookup k=aA b->∃D':Addr,T.C k=aA D'/\Wk T.K D'/\Us T.K (.ref D') (.ref D)=aA b
 pX:∀x m i,(p.pX.lookup x).bind (·.lookup m)=aA i->∃d D,p.defs[i]?=aA d/\mg x=aA (.ref D)/\uO T.K (.ref<|ad i)=aB /\
  Hk T.K (.ref D) "__getattribute__"=aA (aA<|.builtin "type.__getattribute__")/\Uw T.K D (.type "type")=aB/\Ur T.K (.ref D) (.type "type") m=aA (.val<|.ref<|ad i)/\Hh (.ref<|ad i)=aB
def W8{K:bN}{o:Obj}{kvs:AZ}(l:K.lookup a=aA o)(e:Hc Ug (λ_=>aA o) a (kvs.map λp=>(p.1,sV p.2))=aB)
  (n:(kvs.map (·.1)).Nodup)(q:Hb (λ_=>aA o) a=(kvs.map λp=>(p.1,sV p.2)).map λp=>(Va P w).hash p.1):sg P w K a kvs:=λh x=>by
 have c:Hc Ug (λb=>K.lookup b) a (kvs.map λp=>(p.1,sV p.2))=aB:=by rw[<- e];simp only[Hc,l]
 have d:Hb (λb=>K.lookup b) a=(kvs.map λp=>(p.1,sV p.2)).map λp=>(Va P w).hash p.1:=by simp_all[q,Hb,l]
 have:=W.kt_tab_in P w x c (by rw[iP];exact n) d;rw[iP]at this;exact this
section
variable {mg:Str->A6}{base:bK}{p:Pr}{ad:Nat->Addr}{fds:Nat->fA}
def aPw{args:'%'}{vs:AJ}{N:AK}(r:bF T Y H args vs)(hn:B3 N=n):cU T Y H (args.map aA++fB (n-B3 args) aD) (L2.start N vs):=by
 subst hn;unfold L2.start;have hl:=r.length;refine⟨by simp[hl],λi v e=>?_⟩;by_cases b:i<B3 args
 .rw[sS (by simpa),eQ]at e;cases q:args[i]? with
  |none=>left|some a=>rw[q]at e;cases e;obtain⟨y,c,d⟩:=r.get q;exact⟨y,by rw[sS (by left),eQ,c];rfl,d⟩
 .rw[ym (by simpa using b),yo]at e;split at e<;>cases e
def N3{K:bN}{x qual:Str}{st:Stmt}{f:Addr}{N:AK}{k:Nat}(F:Wd K x qual st f fd)(S:se N ps (pY st))(len:∀vs H Q E,sp vs H Q E->B3 vs=B3 ps)
  (Lb:∀(cdv:Value) (A:cM) (outer:A8) (s:aK) (H:Hp) (vs:AJ) (Q:VK) (E:XK),fM k (A.deeper<|xB qual (pY st) s.heap.objs.size f cdv)->sp vs H Q E ->
   ∃t,sX (xV (lD P w) P w K mg base N qual (pY st) f cdv A outer s H E) (jy st) t/\t { nx:=λ_ H'=>Q .aG H',rt:=Q } (L2.start N vs) H):iQ P w K mg base (lD P w) (k+1) f fd ps sp:=by
 obtain⟨d,od,e,kV,doc,pm,an,cdv,ct,c,rfl,lk,a⟩:=F.ex;exact M4 lk a S len λA outer s H vs Q E hr b=>Lb cdv A outer s H vs Q E hr b
theorem JU(O:Ih P w p T mg ad fds):∀(k i:Nat) (d:Df),p.defs[i]?=aA d->iQ P w T.K mg base (lD P w) (2*k+2) (ad i) (fds i) d.ps (uF T<|D1 p.ir k i)
 |0,i,d,hd=>⟨λy H Q E ⟨z,h,args,_,_,w⟩=>w.elim,λA outer s H args us y Q E _ _ _ _ ⟨z,h,ar,_,_,w⟩=>w.elim⟩
 |k+1,i,d,hd=>by
  have B:=JU O k;have D:=O.df i d hd;have u:p.ir i=aA (p.bodyOf d):=by simp_all[Pr.ir,hd]
  refine N3 D.fn D.sc (λy H Q E h=>?_)<|λI A outer s H y Q E hr h=>?_
  .obtain⟨z,h,args,R,r,w⟩:=h;simp only[D1,u,Pr.bodyOf]at w;obtain⟨hl,_⟩:=ki w;rw[<- r.length,hl]
  .obtain⟨z,h,args,R,r,C⟩:=h;simp only[D1,u]at C;obtain⟨hl,C⟩:=ki C;have L:Lk (xV (lD P w) P w T.K mg base d.N d.qual (pY d.st) (ad i) I A outer s H E) T E (p.cn d) (D1 p.ir k):={
    K:=rfl
    N:=rfl
    sc:=rfl
    nd:=D.sc.nd
    fn:=λ_ _=>rfl
    calm:=rfl
    po:=λ_=>PassesOwn.leaving
    gv:=O.gv
    fns:=λj x hx=>by
     have b:((p.defs.take p.cz).map (·.name))[j]?=aA x:=hx;rw[eQ]at b;cases q:(p.defs.take p.cz)[j]? with
     |none=>rw[q]at b;cases b|some a=>
      rw[q]at b;cases b;have f:p.defs[j]?=aA a:=by
       rw[Gk]at q;split at q
       .exact q
       .exact bU q
      have l:=O.df j a f;exact⟨2*k+2,ad j,fds j,a.ps,B j a f,hr,O.gn j a q,l.fn.kp,l.bd,Dp⟩
    pU:=O.bl
    tab:=O.tab
    un:=hr.units
    lG:=O.lG
    nY:=λm dp h c D g F J=>by obtain⟨j,hj,e⟩:=gT.1 F;subst e;obtain⟨a,l,f,G,M,S⟩:=O.nY m dp h c j hj;rw[J]at G;cases G;exact⟨2*k+2,ad j,fds j,a.ps,B j a f,hr.D2 (iG _),M,S,(O.df j a f).bd,Dp⟩
    nE:=λx n c j dv h=>by obtain⟨a,l,ds,U,f,G,M,S,c3,c4,c5⟩:=O.nE x n c j dv h;exact⟨2*k+2,l,ad j,fds j,a.ps,ds,U,G,M,B j a f,hr,S,c3,c4,c5,Dp⟩
    tM:=O.tM
    pX:=λx m j h=>by obtain⟨a,l,f,hm,kp,F,J,h3,h4⟩:=O.pX x m j h;exact⟨2*k+2,l,ad j,fds j,a.ps,hm,B j a f,hr.D2 (iG _),kp,F,J,h3,h4,(O.df j a f).bd,Dp⟩
   }
   obtain⟨t,ps,rs⟩:=xm (KL L rfl SF);refine⟨t,ps,rs z _ (L2.start d.N y) h H _ R ?_ (B9 C λρ1 o Y F H1 e1 Zk X w1=>?_)⟩
   .rw[<- hl];exact aPw r rfl
   .cases o with
    |nx Z=>cases Y with
     |nx Z'=>exact(C0 w1 Zk aV.aG:Q V.aG H1)|_=>cases X
    |ret v=>cases Y with
     |ret v'=>exact(C0 w1 Zk X:Q v' H1)|_=>cases X
    |brk Z=>cases w1|cnt Z=>cases w1
def Qb(K:bN):Sp:=λvs H Q _=>∃(a:Addr) (ns:'0'),vs=[.ref a]/\rF K H a (ns.map V.int)/\B3 ns<=63/\∀H',Q (.bl aB) H'
def h0(ns:'0'):AH:=⟨1,λm=>if m=0 then aA (.l aJ<|ns.map AV.int) else aD⟩
def Keeps(P:Pg)(k i:Nat):Prop:=∀ns:'0',B3 ns<=63->∃h',D1 P k i [.ref 0] (h0 ns) = .ok (.bl aB) h'
def Q0(h:rF T.K H a (ns.map V.int)):bP T [a] (h0 ns) H:=by
 have z:∀{n:Nat}{o:bA},(h0 ns).ob n=aA o->n=0/\o = .l aJ (ns.map AV.int):=λ{n o} e=>by
  have c:(if n=0 then aA (bA.l aJ<|ns.map AV.int) else aD)=aA o:=e;by_cases hn:n=0
  .rw[if_pos hn]at c;exact⟨hn,(cR c).symm⟩
  .rw[if_neg hn]at c;exact bU c
 refine⟨rfl,λn o e=>?_,λn o b e q=>?_,λn m b o u d f g i _ _=>?_⟩
 .rw[(z e).1];exact PZ
 .obtain⟨rfl,rfl⟩:=z e;cases q;exact⟨_,h,bF.ints ns⟩
 .rw[(z d).1,(z f).1]
def X3(O:Ih P w p T mg ad fds){k i:Nat}{d:Df}(hd:p.defs[i]?=aA d)(h:Keeps p.ir k i):iQ P w T.K mg base (lD P w) (2*k+2) (ad i) (fds i) d.ps (Qb T.K):=by refine(JU O k i d hd).imp λl H Q E c=>?_;obtain⟨a,ns,e,f,hl,q⟩:=c;subst e;obtain⟨m,e⟩:=h ns hl;refine⟨[a],h0 ns,[.ref 0],Q0 f,.cons (.ref rfl) .nil,?_⟩;rw[e];intro g b j _ _ r;cases r;exact q j
def N6{K:bN}{xs:AJ}(ho:zz H)(h:eB K H a xs):rF K H a xs:=by
 rcases h with(h|h)|h
 .rcases ho a with z|⟨o,ys,z⟩
  .grind
  .grind
 .exact .inl h
 .exact .inr h
end
def walk{l:Uo}{q:cC}{loose:AK}{XP:(Str->'8')->bK->Prop}{YP:bV->bK->Prop}{d:DefRec}{K:bW->bN}{k:Nat}{x:Str}(hn:l.most=aA 63)(hdf:d.params.defaults=[])(hr:fM k ae)
  (hY:∀(w:bV) (h:bK),YP w h->(K w.params).In h)
  (F:∀(w:bV) (mg:Str->'8') (fa:Addr) (h:bK),(K w.params).In h->h.Ns jE mg->mg d.name=aA (.ref fa) ->
   ∃fd:fA,(∀(s:aK) (u:Value),qc s fd ⟨[u],[]⟩ [(x,u)])/\∀base:bK,(K w.params).In base->base.Ns jE mg->iQ l.prog w (K w.params) mg base (lD l.prog w) k fa fd [x] (Qb<|K w.params)) :
  RD q loose XP YP l.row.toRowW d [] (λf vs=>Uz f vs):=
 L2.aTl hn '#' hdf hr hY F (λ_ _ a ns hl b c=>⟨a,ns,rfl,N6 b c,hl,λ_=>rfl⟩) λ_ _ _ _ _ z=>tw z
def We{α:Type}(m:M α)(h:AH)(Q:α->AH->Prop):Prop:=match m h with
 |.ok a h'=>Q a h'
 |.D0=>False
abbrev Wp{α:Type}(m:M α)(h:AH)(Q:α->AH->Prop):Prop:=We m h Q
section
variable {α β:Type}{m:M α}{k:α->M β}{h':AH}{Q:α->AH->Prop}{Q2:β->AH->Prop}
def bM(w:We m h λa h1=>We (k a) h1 Q2):We (C6 m k) h Q2:=by
 unfold We at w ⊢;unfold C6;cases e:m h with
 |ok a h1=>rw[e]at w;exact w|D0=>left
def We.D2{Q':α->AH->Prop}(w:We m h Q)(f:∀a h1,Q a h1->Q' a h1):We m h Q':=by
 unfold We at w ⊢;cases e:m h with
 |ok a h1=>left|D0=>left
def We.eq{a:α}(e:m h = .ok a h')(q:Q a h'):We m h Q:=by unfold We;rw[e];exact q
def We.ex(w:We m h Q):∃a h',m h = .ok a h'/\Q a h':=by
 unfold We at w;cases e:m h with
 |ok a b=>rw[e]at w;exact⟨a,b,rfl,w⟩|D0=>left
def qa{p:Prop} [Decidable p] (hp:p)(w:We m h Q):We (C7 p m) h Q:=by unfold We at w ⊢;unfold C7;rw[if_pos hp];exact w
variable {V1:AV->AH->Prop}{B1:Bool->AH->Prop}{L1:AY->AH->Prop}
def Ft{i:Nat}(e:Z[i]?=aA (aA v))(q:V1 v h):We (aM F (.var i) Z) h V1:=by show We (yE i Z) h V1;unfold We yE;rw[e];exact q
def aVn{o:Op}{a b:Ex}(w:We (aM F a Z) h λx h1=>We (aM F b Z) h1 λy h2=>We (o.g x y) h2 V1):We (aM F (.op o a b) Z) h V1:=bM (w.D2 λ_ _ z=>bM z)
def aVd{o:Cp}{a b:Ex}(w:We (aM F a Z) h λx h1=>We (aM F b Z) h1 λy h2=>We (o.g x y) h2 V1):We (aM F (.cmp o a b) Z) h V1:=bM (w.D2 λ_ _ z=>bM z)
def aVl{a:Ex}(w:We (aM F a Z) h λx h1=>We (uz x) h1 V1):We (aM F (.neg a) Z) h V1:=bM w
def aVm{a:Ex}(w:We (aM F a Z) h λx h1=>We (dJ x) h1 λb h2=>V1 (.bl<|!b) h2):We (aM F (.not a) Z) h V1:=bM (w.D2 λ_ _ z=>bM z)
def aUy{a b:Ex}(w:We (aM F a Z) h λx h1=>We (dJ x) h1 λt h2=>if t=aB then We (aM F b Z) h2 V1 else V1 x h2):We (aM F (.and a b) Z) h V1:=
 bM (w.D2 λx _ z=>bM (z.D2 λt _ y=>by
  cases t with
  |true=>exact y|false=>exact y))
def aVo{a b:Ex}(w:We (aM F a Z) h λx h1=>We (dJ x) h1 λt h2=>if t=aB then V1 x h2 else We (aM F b Z) h2 V1):We (aM F (.or a b) Z) h V1:=
 bM (w.D2 λx _ z=>bM (z.D2 λt _ y=>by
  cases t with
  |true=>exact y|false=>exact y))
def aVi{c a b:Ex}(w:We (dW F c Z) h λt h1=>if t=aB then We (aM F a Z) h1 V1 else We (aM F b Z) h1 V1):We (aM F (.ite c a b) Z) h V1:=bM (w.D2 λt _ y=>by
 cases t with
 |true=>exact y|false=>exact y)
def NC{o:Cp}{a b c:Ex}(w:We (aM F a Z) h λx h1=>We (aM F b Z) h1 λy h2=>We (o.g x y) h2 λz h3=>∃t,z = .bl t/\if t=aB then We (aM F c Z) h3 λu h4=>We (o'.g y u) h4 V1 else V1 (.bl aJ) h3) :
 We (aM F (.chain o o' a b c) Z) h V1:=bM (w.D2 λx _ z=>bM (z.D2 λy _ z=>bM (z.D2 λu h3 ⟨t,e,q⟩=>by
 subst e;cases t with
 |true=>exact bM q|false=>exact q)))
def aVw{es:eF}(w:We (dH F es Z) h λxs h1=>B3 xs<=sizeLine/\V1 (.tup xs) h1):We (aM F (.tup es) Z) h V1:=bM (w.D2 λxs _ z=>qa z.1 z.2)
def aVj{es:eF}(w:We (dH F es Z) h λxs h1=>B3 xs<=sizeLine/\V1 (.ref h1.nx) (h1.C8<|.l aB xs)):We (aM F (.l es) Z) h V1:=bM (w.D2 λxs _ z=>qa z.1 z.2)
def aVt{a lo hi:Ex}(w:We (aM F a Z) h λx h1=>We (qD lo<|aM F lo Z) h1 λl h2=>We (qD hi<|aM F hi Z) h2 λu h3=>We (rW x l u) h3 V1):We (aM F (.slice a lo hi) Z) h V1:=
 bM (w.D2 λ_ _ z=>bM (z.D2 λ_ _ z=>bM z))
def NB{f:Nat}{es:eF}(w:We (dH F es Z) h λxs h1=>We (F f xs) h1 V1):We (aM F (.call f es) Z) h V1:=bM w
def aVa{f:Bi}{es:eF}(w:We (dH F es Z) h λxs h1=>We (f.g xs) h1 V1):We (aM F (.bi f es) Z) h V1:=bM w
def NG{t:BT}{a:Ex}(w:We (aM F a Z) h λx h1=>We (di t x) h1 V1):We (aM F (.tL t a) Z) h V1:=bM w
def aUz{o a:Ex}(w:We (aM F o Z) h λx h1=>ec h1 x=aB/\We (aM F a Z) h1 λy h2=>We (vE x y) h2 V1):We (aM F (.app o a) Z) h V1:=bM (w.D2 λx h1 ⟨b,c⟩=>by unfold We;simp only[if_pos b];exact bM c)
def aVh{o:Ex}{es:eF}(w:We (aM F o Z) h λx h1=>∃kvs,x = .pC kvs/\We (dH F es Z) h1 λxs h2=>∃s z,xs=[.str s,.int z]/\V1 (.int<|getOf kvs s z) h2):We (aM F (.get o es) Z) h V1:=bM (w.D2 λx h1 ⟨kvs,e,w2⟩=>by subst e;exact bM (w2.D2 λxs h2 ⟨s,z,a,q⟩=>by subst a;exact q))
def aVx(q:L1 [] h):We (dH F .nil Z) h L1:=q
def NJ{e:Ex}{es:eF}(w:We (aM F e Z) h λx h1=>We (dH F es Z) h1 λxs h2=>L1 (x::xs) h2):We (dH F (.cons e es) Z) h L1:=bM (w.D2 λ_ _ z=>bM z)
def aWl{o:Cp}{a b:Ex}(w:We (aM F a Z) h λx h1=>We (aM F b Z) h1 λy h2=>We (o.g x y) h2 λz h3=>∃t,z = .bl t/\B1 t h3):We (dW F (.cmp o a b) Z) h B1:=
 bM (bM<|w.D2 λ_ _ z=>bM (z.D2 λ_ _ z=>z.D2 λu h3 ⟨t,e,q⟩=>by subst e;exact q))
def aWk{o:Cp}{a b c:Ex}(w:We (aM F (.chain o o' a b c) Z) h λz h3=>∃t,z = .bl t/\B1 t h3):We (dW F (.chain o o' a b c) Z) h B1:=
 bM (w.D2 λu h3 ⟨t,e,q⟩=>by subst e;exact q)
def aWp{a:Ex}(w:We (dW F a Z) h λt h1=>B1 (!t) h1):We (dW F (.not a) Z) h B1:=bM w
def aWi{a b:Ex}(w:We (dW F a Z) h λt h1=>if t=aB then We (dW F b Z) h1 B1 else B1 aJ h1):We (dW F (.and a b) Z) h B1:=bM (w.D2 λt _ y=>by
 cases t with
 |true=>exact y|false=>exact y)
def aWq{a b:Ex}(w:We (dW F a Z) h λt h1=>if t=aB then B1 aB h1 else We (dW F b Z) h1 B1):We (dW F (.or a b) Z) h B1:=bM (w.D2 λt _ y=>by
 cases t with
 |true=>exact y|false=>exact y)
def aWr{i:Nat}(w:We (aM F (.var i) Z) h λx h1=>We (dJ x) h1 B1):We (dW F (.var i) Z) h B1:=bM w
def aWj{f:Nat}{es:eF}(w:We (aM F (.call f es) Z) h λx h1=>We (dJ x) h1 B1):We (dW F (.call f es) Z) h B1:=bM w
def aWn{t:BT}{a:Ex}(w:We (aM F (.tL t a) Z) h λx h1=>We (dJ x) h1 B1):We (dW F (.tL t a) Z) h B1:=bM w
def aTp(q:V1 (.int<|i+j) h):We (Op.g .add (.int i)<|.int j) h V1:=q
def aUm(q:V1 (.int<|i-j) h):We (Op.g .sub (.int i)<|.int j) h V1:=q
def wI{p:Int->Int->Bool}{f:Int->Int->Int}(hp:p i j=aB)(q:V1 (.int<|f i j) h):We (mY p f (.int i)<|.int j) h V1:=by simp_all[We,mY,hp]
def aUe(hp:sD i j=aB)(q:V1 (.int<|i*j) h):We (Op.g .mul (.int i)<|.int j) h V1:=wI hp q
def aTu(hp:pA j=aB)(q:V1 (.int<|i / j) h):We (Op.g .fdiv (.int i)<|.int j) h V1:=wI (p:=λ_ j=>pA j) hp q
def aUd(hp:0<j)(q:V1 (.int<|i%j) h):We (Op.g .mod (.int i)<|.int j) h V1:=wI (p:=λ_ j=>decide (0<j)) (decide_eq_true hp) q
def xx(hp:yP i j=aB)(q:V1 (.int<|i ^ j.toNat) h):We (Op.g .pow (.int i)<|.int j) h V1:=wI (f:=λi j=>i ^ j.toNat) hp q
def Rk(hp:yP i j=aB)(q:V1 (.int<|i*2 ^ j.toNat) h):We (Op.g .shl (.int i)<|.int j) h V1:=wI (f:=λi j=>i*2 ^ j.toNat) hp q
def MX(hp:0<=j)(q:V1 (.int<|i / 2 ^ j.toNat) h):We (Op.g .shr (.int i)<|.int j) h V1:=wI (p:=λ_ j=>decide (0<=j)) (f:=λi j=>i / 2 ^ j.toNat) (decide_eq_true hp) q
def ML(q:V1 (.int<|kX i j) h):We (Op.g .band (.int i)<|.int j) h V1:=wI (p:=λ_ _=>aB) rfl q
def MM(q:V1 (.int<|nL i j) h):We (Op.g .bor (.int i)<|.int j) h V1:=wI (p:=λ_ _=>aB) rfl q
def Ff(q:V1 (.int<|nM i j) h):We (Op.g .bxor (.int i)<|.int j) h V1:=wI (p:=λ_ _=>aB) rfl q
def aUa(q:V1 (.bl<|decide<|i<j) h):We (Cp.g .lt (.int i)<|.int j) h V1:=q
def aTz(q:V1 (.bl<|decide<|i<=j) h):We (Cp.g .le (.int i)<|.int j) h V1:=q
def aTw(q:V1 (.bl<|decide<|j<i) h):We (Cp.g .gt (.int i)<|.int j) h V1:=q
def aTv(q:V1 (.bl<|decide<|j<=i) h):We (Cp.g .ge (.int i)<|.int j) h V1:=q
def aTs(q:V1 (.bl<|decide<|i=j) h):We (Cp.g .eq (.int i)<|.int j) h V1:=q
def aUg(q:V1 (.bl<|!decide (i=j)) h):We (Cp.g .ne (.int i)<|.int j) h V1:=q
def aTt{i j:Str}(q:V1 (.bl<|decide<|i=j) h):We (Cp.g .eq (.str i)<|.str j) h V1:=q
def aUh{i j:Str}(q:V1 (.bl<|!decide (i=j)) h):We (Cp.g .ne (.str i)<|.str j) h V1:=q
def Fi(e:vB x y=aA b)(q:V1 (.bl b) h):We (Cp.g .eq x y) h V1:=by show We (dh aJ x y) h V1;unfold We dh;rw[e];exact q
def aUf(e:vB x y=aA b)(q:V1 (.bl<|!b) h):We (Cp.g .ne x y) h V1:=by show We (dh aB x y) h V1;unfold We dh;rw[e];exact q
def aTx(q:V1 (.bl<|nV x) h):We (Cp.g .kr x .aG) h V1:=q
def aTy(q:V1 (.bl<|!nV x) h):We (Cp.g .isn x .aG) h V1:=q
def El(e:fI h x=aA xs):fO h x=aD:=by
 cases x with
 |ref n=>
  simp only[fI]at e;simp only[fO];cases o:h.ob n with
  |none=>rfl|some u=>
   rw[o]at e;cases u with
   |l m ys=>rfl|_=>exact bU e
 |_=>rfl
def aOj(e:fI h x=aA xs):ck h x=aD:=by
 cases x with
 |ref n=>
  simp only[fI]at e;simp only[ck];cases o:h.ob n with
  |none=>rfl|some u=>
   rw[o]at e;cases u with
   |l m ys=>rfl|_=>exact bU e
 |_=>rfl
def Rj(e:fI h y=aA xs)(f:(jK x&&xs.all jK)=aB)(q:V1 (.bl<|hV x xs) h):We (Cp.g .kj x y) h V1:=by show We (qA aJ x y) h V1;have a:=El e;unfold We qA;simp only[a];unfold vF;rw[e];simp only[if_pos f];exact q
def aUi(e:fI h y=aA xs)(f:(jK x&&xs.all jK)=aB)(q:V1 (.bl<|!hV x xs) h):We (Cp.g .nin x y) h V1:=by show We (qA aB x y) h V1;have a:=El e;unfold We qA;simp only[a];unfold vF;rw[e];simp only[if_pos f];exact q
def dZ(e:fI h x=aA xs)(e2:cZ xs i=aA v)(q:V1 v h):We (Op.g .ix x<|.int i) h V1:=by show We (vG x<|.int i) h V1;have a:=El e;unfold We vG;simp only[a];unfold Bp;simp only[aOj e];unfold uv;simp only[e,oP,e2];exact q
def MT{t s:BT}(e:uV h x=aA s)(q:V1 (.bl<|s.sub t) h):We (di t x) h V1:=by unfold We di;rw[e];exact q
def eP(e:fI h x=aA xs)(q:V1 (.int (B3 xs)) h):We (Bi.g .len [x]) h V1:=by show We (ux [x]) h V1;unfold We ux;simp only[e];exact q
def MP(hp:pA j=aB)(q:V1 (.tup [.int (i / j),.int (i%j)]) h):We (Bi.g .divmod [.int i,.int j]) h V1:=by show We (Bo [.int i,.int j]) h V1;unfold We Bo yJ;simp only[if_pos hp];exact q
def qX(e:fI h x=aA xs)(q:V1 (.tup xs) h):We (Bi.g .tuple [x]) h V1:=by show We (Bs [x]) h V1;unfold We Bs pI;simp only[oP,e];exact q
def pv(e:fI h x=aA xs)(q:V1 (.ref h.nx) (h.C8<|.l aB xs)):We (Bi.g .list [x]) h V1:=by show We (dj [x]) h V1;unfold We dj pI kQ;simp only[oP,e];exact q
def sP(e:h.ob n=aA (.l aB xs))(hz:B3 xs<sizeLine)(q:V1 .aG (h.C9 n<|.l aB<|xs++[v])):We (vE (.ref n) v) h V1:=by simp_all[We,vE,e,hz]
def Fg{k:Nat}{ys:'%'}(e:h.ob n=aA (.l aB xs))(e2:h.ob k=aA (.l aB ys))(hz:B3 xs+B3 ys<=sizeLine)(q:V1 (.ref h.nx) (h.C8<|.l aB<|xs++ys)):We (Op.g .add (.ref n)<|.ref k) h V1:=by show We (um n k) h V1;unfold We um fj;simp only[e,e2,if_pos hz];exact q
def uJ{lo hi:'+'}(e:h.ob n=aA (.l b xs))(q:V1 (.ref h.nx) (h.C8<|.l aB<|eU xs lo hi)):We (rW (.ref n) lo hi) h V1:=by unfold We rW;simp only[e];exact q
variable {P1:AG->AH->Prop}
def aVp{e:Ex}(he:∀m,qD e m=m.bind Kr)(w:We (aM F e Z) h λx h1=>∃i,x = .int i/\P1 (aA i) h1):We (qD e<|aM F e Z) h P1:=by rw[he];exact bM (w.D2 λx h1 ⟨i,e,q⟩=>by subst e;exact q)
end
def Wt(m:M E3)(h:AH)(N:aF->AH->Prop)(R:AV->AH->Prop)(B C:aF->AH->Prop):Prop:=We m h λo h1=>match o with
 |.nx Z=>N Z h1
 |.ret v=>R v h1
 |.brk Z=>B Z h1
 |.cnt Z=>C Z h1
section
variable {C:aF->AH->Prop}
def aWa{s:Sx}{ss:aQ}(w:Wt (dR F s σ) h (λσ1 h1=>Wt (jY F ss σ1) h1 N R B C) R B C):Wt (jY F (.cons s ss) σ) h N R B C:=
 bM (We.D2 w λo h1 z=>by
  cases o with
  |nx σ1=>exact z|ret v=>exact z|brk σ1=>exact z|cnt σ1=>exact z)
def aWg{e:Ex}(w:We (aM F e Z) h R):Wt (dR F (.ret e) Z) h N R B C:=bM w
def aWb{e:Ex}(w:We (aM F e Z) h λ_ h1=>N Z h1):Wt (dR F (.expr e) Z) h N R B C:=bM w
def aVy{t:Tg}{e:Ex}(w:We (aM F e Z) h λv h1=>We (mG F t v Z) h1 N):Wt (dR F (.asg t e) Z) h N R B C:=bM (w.D2 λ_ _ z=>bM z)
def aTk{ts:xN}{Q:aF->AH->Prop}(e:xr v=aA xs)(hl:B3 xs=n)(w:We (xO F ts xs Z) h Q):We (mG F (.tup n ts) v Z) h Q:=by show We (yD n (xO F ts) v Z) h Q;unfold We yD;simp only[e,if_pos hl];exact w
def aTj{t:Tg}{ts:xN}{vs:'%'}{Q:aF->AH->Prop}(w:We (mG F t v σ) h λσ1 h1=>We (xO F ts vs σ1) h1 Q):We (xO F (.cons t ts) (v::vs) σ) h Q:=bM w
def aWe{c:Ex}{a b:aQ}(w:We (dW F c Z) h λt h1=>if t=aB then Wt (jY F a Z) h1 N R B C else Wt (jY F b Z) h1 N R B C):Wt (dR F (.ite c a b) Z) h N R B C:=bM (w.D2 λt _ y=>by
 cases t with
 |true=>exact y|false=>exact y)
theorem xX{it:eM}{g:AV->aF->M aF}{body:aF->M E3}(I:Nat->aF->AH->Prop)(n:Nat)
  (turn:∀i σ h,i<n->I i σ h->∃v,it i h=aA (aA v)/\We (g v σ) h λσ1 h1=>Wt (body σ1) h1 (I<|i+1) R N (I<|i+1))
  (done:∀σ h,I n σ h->it n h=aA aD/\N σ h):∀(f i:Nat) (σ:aF) (h:AH),i<=n->n-i<f->I i σ h->Wt (kM it g body f i σ) h N R B C
 |0,i,σ,h,j,k,_=>by lia
 |f+1,i,σ,h,j,k,b=>by
  have c:=xX I n turn done f;by_cases hn:i<n
  .obtain⟨v,e,w⟩:=turn i σ h hn b;unfold Wt We kM;simp only[e];refine bM<|w.D2 λσ1 h1 w1=>bM (We.D2 w1 λo d z=>?_);cases o with
   |nx a=>exact c (i+1) a d hn '!' z|cnt a=>exact c (i+1) a d hn '!' z|brk a=>exact z|ret v=>exact z
  .have l:i=n:=by lia
   subst l;obtain⟨e,q⟩:=done σ h b;unfold Wt We kM;simp only[e];exact q
def mQ{t:Tg}{it:Ir}{b:aQ}(w:We (iter F it Z) h λi h1=>Wt (kM i (mG F t) (jY F b) FU 0 Z) h1 N R B C):Wt (dR F (.xY t it b) Z) h N R B C:=bM w
variable {Q:eM->AH->Prop}
def aUp{e:Ex}(w:We (aM F e Z) h λx h1=>We (yC x) h1 Q):We (iter F (.seq e) Z) h Q:=bM w
def aUo{es:eF}(w:We (dH F es Z) h λxs h1=>∃j,xs=[.int j]/\yV j=aB/\Q (sM 0 j.toNat) h1):We (iter F (.Ej es) Z) h Q:=bM (w.D2 λxs h1 ⟨j,e,r,q⟩=>by subst e;unfold We Bq;simp only[if_pos r];exact q)
def Rm{e:Ex}(w:We (aM F e Z) h λx h1=>∃n b xs,x = .ref n/\h1.ob n=aA (.l b xs)/\Q (nU<|jZ n) h1):We (iter F (.enum e) Z) h Q:=bM (w.D2 λx h1 ⟨n,b,xs,e,r,q⟩=>by subst e;unfold We Kn;simp only[Lr r];exact q)
def aUn{e:Ex}(w:We (aM F e Z) h λx h1=>∃xs,x = .tup xs/\Q (nU<|pN xs) h1):We (iter F (.enum e) Z) h Q:=bM (w.D2 λx h1 ⟨xs,e,q⟩=>by subst e;exact q)
def Fm{es:eF}(w:We (dH F es Z) h λxs h1=>∃x y it jt,xs=[x,y]/\tN h1 x=aA it/\tN h1 y=aA jt/\Q (pO it jt) h1):We (iter F (.zip es) Z) h Q:=bM (w.D2 λxs h1 ⟨x,y,it,jt,e,a,b,q⟩=>by subst e;unfold We Kt;simp only[a,b];exact q)
def aUq(q:Q (pN xs) h):We (yC<|.tup xs) h Q:=q
def sQ(e:h.ob n=aA (.l b xs))(q:Q (jZ n) h):We (yC<|.ref n) h Q:=by unfold We yC CB;simp only[Lr e];exact q
def aVr{P:Pg}{k f np nn:Nat}{b:aQ}{args:'%'}(e:P f=aA (np,nn,b))(hl:B3 args=np)(w:Wt (jY (D1 P k) b<|args.map aA++fB (nn-np) aD) h (λ_ h1=>R .aG h1) R '6' '6'):We (D1 P (k+1) f args) h R:=by
 show We (match P f with
  |none=>C5
  |some (np,nn,b)=>C7 (B3 args=np) ((jY (D1 P k) b<|args.map aA++fB (nn-np) aD).bind GL)) h R
 rw[e];refine qa hl<|bM<|We.D2 w λo h1 z=>?_;cases o with
 |nx a=>exact z|ret v=>exact z|brk a=>exact z.elim|cnt a=>exact z.elim
end
def Keeps.of{P:Pg}{k i:Nat}(h:∀ns:'0',B3 ns<=63->Wp (D1 P k i [.ref 0]) (h0 ns) λv _=>v = .bl aB):Keeps P k i:=λns hl=>by obtain⟨a,b,e,q⟩:=(h ns hl).ex;subst q;exact⟨b,e⟩
def ly(h1:-18446744073709551616<i)(h2:i<18446744073709551616):sD i j=aB:=by simp only[sD,yg,decide_eq_true_eq];exact .inl<|.inl (by lia)
def aAv(h1:-18446744073709551616<j)(h2:j<18446744073709551616):sD i j=aB:=by simp only[sD,yg,decide_eq_true_eq];exact .inl<|.inr '!'
def bR(e:h.ob n=aA (.l b xs)):fI h (.ref n)=aA xs:=by simp only[fI,e]
def cell(ns:'0')(i:Int):Int:=ns.getD i.toNat 0
def bc(h0:0<=i)(h1:i<B3 (ns.map AV.int)):cZ (ns.map AV.int) i=aA (.int<|cell ns i):=by
 have hl:i.toNat<B3 ns:=by grind
 unfold cZ iS;rw[if_pos h0,if_pos h1];simp only[oP,eQ,cell,List.getD,eD hl,qx,Option.getD_some]
def rM{α:Type}(xs:List α)(lo hi:'+'):List α:=(xs.drop<|HT.cA (B3 xs) 0 lo).take (HT.cA (B3 xs) (B3 xs) hi-HT.cA (B3 xs) 0 lo)
def Ay{α:Type}(xs:List α)(f:α->AV)(lo hi:'+'):eU (xs.map f) lo hi=(rM xs lo hi).map f:=by unfold eU rM;rw[aU,<- Tf,<- yr]
def bC:(h.C8 o).ob h.nx=aA o:=by simp_all[AH.C8]
def dO(hn:n≠h.nx):(h.C8 o).ob n=h.ob n:=by simp_all[AH.C8,hn]
def bO:(h.C9 n o).ob n=aA o:=by simp_all[AH.C9]
def bD{k:Nat}(hn:k≠n):(h.C9 n o).ob k=h.ob k:=by simp_all[AH.C9,hn]
def mI{i:Nat}(e:h.ob n=aA (.l b xs)):jZ n i h=aA xs[i]?:=by simp only[jZ,e]
def Zz{i:Nat}(e:h.ob n=aA (.l b xs))(hv:xs[i]?=aA v):nU (jZ n) i h=aA (aA<|.tup [.int i,v]):=by simp only[nU,mI e,hv]
def Zy{i:Nat}(e:h.ob n=aA (.l b xs))(hv:xs[i]?=aD):nU (jZ n) i h=aA aD:=by simp only[nU,mI e,hv]
def BP{g:AV->aF->M aF}{C:aF->AH->Prop}(I:Nat->aF->AH->Prop)(hn:B3 xs<FU)(i0:I 0 σ h)(il:∀i σ h,I i σ h->h.ob n=aA (.l bb xs))
  (turn:∀(i:Nat) x σ h,xs[i]?=aA x->I i σ h->We (g (.tup [.int i,x]) σ) h λσ1 h1=>Wt (body σ1) h1 (I<|i+1) R N (I<|i+1))
  (done:∀σ h,I (B3 xs) σ h->N σ h):Wt (kM (nU<|jZ n) g body FU 0 σ) h N R B C:=by
 exact xX I (B3 xs) (λi σ h b a=>⟨_,Zz (il _ _ _ a) (eD b),turn i _ σ h (eD b) a⟩) (λσ h a=>⟨Zy (il _ _ _ a) (by simp),done σ h a⟩) FU 0 σ h (jD _) '!' i0
def M7{g:AV->aF->M aF}{C:aF->AH->Prop}(I:Nat->aF->AH->Prop)(hn:B3 xs<FU)(i0:I 0 σ h)
  (turn:∀(i:Nat) x σ h,xs[i]?=aA x->I i σ h->We (g (.tup [.int i,x]) σ) h λσ1 h1=>Wt (body σ1) h1 (I<|i+1) R N (I<|i+1))
  (done:∀σ h,I (B3 xs) σ h->N σ h):Wt (kM (nU<|pN xs) g body FU 0 σ) h N R B C:=by
 refine xX I (B3 xs) (λi σ h b a=>?_) (λσ h a=>⟨by simp[nU,pN],done σ h a⟩) FU 0 σ h (jD _) '!' i0;exact⟨_,by simp_all[nU,pN,b],turn i _ σ h (eD b) a⟩
def da{g:AV->aF->M aF}{C:aF->AH->Prop}(I:Nat->aF->AH->Prop)(hn:B3 xs<FU)(i0:I 0 σ h)(il:∀i σ h,I i σ h->h.ob n=aA (.l bb xs))
  (turn:∀(i:Nat) x σ h,xs[i]?=aA x->I i σ h->We (g x σ) h λσ1 h1=>Wt (body σ1) h1 (I<|i+1) R N (I<|i+1))
  (done:∀σ h,I (B3 xs) σ h->N σ h):Wt (kM (jZ n) g body FU 0 σ) h N R B C:=by
 exact xX I (B3 xs) (λi σ h b a=>⟨_,by rw[mI (il _ _ _ a),eD b],turn i _ σ h (eD b) a⟩) (λσ h a=>⟨by rw[mI (il _ _ _ a)];simp,done σ h a⟩) FU 0 σ h (jD _) '!' i0
def Kh{lo:Int}{g:AV->aF->M aF}{C:aF->AH->Prop}(I:Nat->aF->AH->Prop)(hn:n<FU)(i0:I 0 σ h)
  (turn:∀(i:Nat) σ h,i<n->I i σ h->We (g (.int<|lo+i) σ) h λσ1 h1=>Wt (body σ1) h1 (I<|i+1) R N (I<|i+1))
  (done:∀σ h,I n σ h->N σ h):Wt (kM (sM lo n) g body FU 0 σ) h N R B C:=by
 refine xX I n (λi σ h b a=>?_) (λσ h a=>⟨by simp[sM],done σ h a⟩) FU 0 σ h (jD _) '!' i0;exact⟨_,by simp_all[sM,b],turn i σ h b a⟩
def xg(h1:-4611686018427387904<=j)(h2:j<4611686018427387904):yV j=aB:=by simp_all[yV,bY,decide_eq_true_eq]
end AM
namespace AM
variable {h:AH}
structure Kp(h h':AH):Prop where
 nx:h.nx<=h'.nx
 ob:∀n,n<h.nx->h'.ob n=h.ob n
def Kp.refl:Kp h h:=⟨aW _,λ_ _=>rfl⟩
open AM.Kp renaming refl->B6
theorem Kp.trans{a b c:AH}(x:Kp a b)(y:Kp b c):Kp a c:=⟨dF x.nx y.nx,λn hn=>(y.ob n<|bE hn x.nx).trans (x.ob n hn)⟩
theorem Kp.C8{a b:AH}{o:bA}(x:Kp a b):Kp a (b.C8 o):=⟨PQ x.nx,λn hn=>(dO<|bZ<|bE hn x.nx).trans (x.ob n hn)⟩
theorem Kp.C9{a b:AH}{o:bA}{k:Nat}(x:Kp a b)(hk:a.nx<=k):Kp a (b.C9 k o):=⟨x.nx,λn hn=>(bD<|bZ<|bE hn hk).trans (x.ob n hn)⟩
def M8{xs ys:'%'}{g:AV->aF->M aF}{body:aF->M E3}{N B C:aF->AH->Prop}{R:AV->AH->Prop}{σ:aF}(I:Nat->aF->AH->Prop)(hl:B3 xs=B3 ys)(hn:B3 xs<FU)(i0:I 0 σ h)
  (turn:∀(i:Nat) x y σ h,xs[i]?=aA x->ys[i]?=aA y->I i σ h->We (g (.tup [x,y]) σ) h λσ1 h1=>Wt (body σ1) h1 (I<|i+1) R N (I<|i+1))
  (done:∀σ h,I (B3 xs) σ h->N σ h):Wt (kM (pO (pN xs)<|pN ys) g body FU 0 σ) h N R B C:=by
 refine xX I (B3 xs) (λi σ h d a=>?_) (λσ h a=>⟨by simp[pO,pN],done σ h a⟩) FU 0 σ h (jD _) '!' i0;have b:=eD d;have c:=eD (show i<B3 ys by lia);exact⟨_,by simp only[pO,pN,b,c],turn i _ _ σ h b c a⟩
end AM
namespace AM
open PySem PySem.Spec PyProof.Rows L2
variable {B C N:aF->AH->Prop}{B1:Bool->AH->Prop}{F:E9}{L1:AY->AH->Prop}{Q R V1:AV->AH->Prop}{a:Int}{as:AI}{b b1 b2 bb:Bool}{body:aF->M E3}{c i j n:Nat}{d e o:Ex}{dp:AQ}{ds:List Df}{es:eF}{h h':AH}{it:Ir}{ks:List aN}{kvs:List (aN×AV)}{m:Str}{ns ws:AW}{v x y z:AV}{xs ys:AY}{Z:aF}
set_option genCtorIdx true in
inductive dQ where
 |sum|less|times|share|rest|both|some_|odd|up|down|below|same
def dQ.nm:dQ->Str
 |.sum=>"sum" |.less=>"less" |.times=>"times" |.share=>"share" |.rest=>"rest" |.both=>"both" |.some_=>"some" |.odd=>"odd" |.up=>"up" |.down=>"down" |.below=>"below" |.same=>"same"
set_option genCtorIdx true in
inductive aH where
 |way (w:dQ) (x y z:Int)|set (x v:Int)|move (x y:Int)|load (x y s:Int)|store (x y s:Int)|dA (x t:Int)|go (t:Int)|fault (v:Int)
def aH.av:aH->AV
 |.way w x y z=>.tup [.str w.nm,.int x,.int y,.int z] | .set x v=>.tup [.str "set",.int x,.int v] | .move x y=>.tup [.str "move",.int x,.int y]
 |.load x y s=>.tup [.str "load",.int x,.int y,.int s] | .store x y s=>.tup [.str "store",.int x,.int y,.int s] | .dA x t=>.tup [.str "jump",.int x,.int t]
 |.go t=>.tup [.str "go",.int t] | .fault v=>.tup [.str "fault",.int v]
def aH.nw:aH->Nat
 |.way _ _ _ _=>2 | .set _ _=>0 | .move _ _=>1 | .load _ _ _=>1 | .store _ _ _=>2 | .dA _ _=>1 | .go _=>0 | .fault _=>0
def aH.pl(ws:'0'):aH->AV
 |.load _ _ s=>.int (cell ws 0+s) | .store _ _ s=>.int (cell ws 1+s)
 |_=>.aG
def aH.gs(a:Int)(ws:'0'):aH->Int
 |.go t=>t
 |.dA _ t=>if cell ws 0≠0 then t else a+1
 |_=>a+1
def vr(h:B3 ws=1):∃a,ws=[a]:=by
 match ws,h with
 |[a],_=>exact⟨a,rfl⟩
def vt(h:B3 ws=2):∃a b,ws=[a,b]:=by
 match ws,h with
 |[a,b],_=>exact⟨a,b,rfl⟩
def dQ.jL:dQ->Int
 |.times=>1 | .share=>2 | .rest=>2
 |_=>0
def aH.cQ:aH->AW
 |.way _ _ y z=>[y,z] | .move _ y=>[y] | .load _ y _=>[y] | .store x y _=>[x,y] | .dA x _=>[x]
 |_=>[]
def aH.fl:aH->AV
 |.way _ x _ _=>.int x | .set x _=>.int x | .move x _=>.int x | .load x _ _=>.int x
 |_=>.aG
def aH.jL:aH->Int
 |.way w _ _ _=>w.jL | .set _ _=>0 | .move _ _=>0 | .load _ _ _=>3 | .store _ _ _=>3
 |_=>4
def Pl(st:Bool):Nat->AV->Prop
 |0,v=>v = .aG\/(∃i,v = .int i)\/∃s,st=aB/\v = .str s
 |n+1,v=>(v = .aG\/(∃i,v = .int i)\/∃s,st=aB/\v = .str s)\/∃xs,v = .tup xs/\B3 xs<=1000/\∀x∈xs,Pl st n x
def lH(b:Int):Int:=if 64<b then 64 else b
def dQ.wk(a b:Int):dQ->Int
 |.sum=>(a+b)%18446744073709551616 | .less=>(a-b)%18446744073709551616 | .times=>a*b%18446744073709551616
 |.share=>a / b | .rest=>a%b
 |.both=>kX a b | .some_=>nL a b | .odd=>nM a b
 |.up=>a*2 ^ (lH b).toNat%18446744073709551616 | .down=>a / 2 ^ (lH b).toNat
 |.below=>if a<b then 1 else 0 | .same=>if a=b then 1 else 0
def dQ.sr:dQ->Bool
 |.share=>aB | .rest=>aB
 |_=>aJ
def aH.Nn(ws:'0'):aH->AG
 |.load _ _ s=>aA (cell ws 0+s) | .store _ _ s=>aA (cell ws 1+s)
 |_=>aD
def aH.ft(ws:'0')(room:Int):aH->A4
 |.fault v=>aA (.tup [.str "told",.int v])
 |.way w _ _ _=>cond w.sr (if cell ws 1=0 then aA (.tup [.str "nought",.int (cell ws 0)]) else aD) aD
 |.load _ _ s=>if 0<=cell ws 0+s/\cell ws 0+s<room then aD else aA (.tup [.str "place",.int (cell ws 0+s)])
 |.store _ _ s=>if 0<=cell ws 1+s/\cell ws 1+s<room then aD else aA (.tup [.str "place",.int (cell ws 1+s)])
 |_=>aD
def aH.br(ws:'0')(held:AV):aH->AV
 |.way w _ _ _=>.int (w.wk (cell ws 0)<|cell ws 1) | .set _ v=>.int v | .move _ _=>.int (cell ws 0) | .store _ _ _=>.int (cell ws 0) | .load _ _ _=>held
 |_=>.aG
def aH.fZ(a:Int)(ws:'0')(room:Int)(held:AV)(r:aH):AV:=match r.ft ws room with
 |some f=>.tup [.int a,.aG,.aG,.aG,.aG,f]
 |none=>.tup [.int a,r.fl,r.pl ws,r.br ws held,.int (r.gs a ws),.aG]
def jS(ws:'0'):Prop:=∀w∈ws,0<=w/\w<18446744073709551616
def aSx{b:Int}(h:¬b<64):a*2 ^ (lH b).toNat%18446744073709551616=0:=by
 have e:lH b=64:=by grind [lH]
 rw[e];exact Int.mul_emod_left ..
def q9{b:Int}(h:¬b<64)(a0:0<=a)(a1:a<18446744073709551616):a / 2 ^ (lH b).toNat=0:=by
 have e:lH b=64:=by grind [lH]
 rw[e];exact Int.ediv_eq_zero_of_lt a0 a1
def FO{b:Int}(h:b<64):lH b=b:=by grind [lH]
def Nq{b:Int}(a0:0<=a)(a1:a<18446744073709551616)(b0:0<=b)(b1:b<=64):yP a b=aB:=by simp only[yP,bY,decide_eq_true_eq];exact⟨⟨b0,by lia⟩,by lia⟩
def Zs{b:Int}(b0:0<b)(b1:b<18446744073709551616):pA b=aB:=by
 have e:(18446744073709551616:Int)<2 ^ 1000:=by decide
 simp only[pA,bY,decide_eq_true_eq];exact⟨b0,kY b1 e⟩
section
variable {α:Type}{m:M α}{Q:α->AH->Prop}
def MK(w:Wp m h Q):We (sG m) h Q:=by obtain⟨a,b,e,q⟩:=w.ex;exact We.eq (show sG m h = .ok a b by unfold sG;rw[e]) q
def zI{imp:AX}{t:CT}(w:We (iter F it Z) h λi h1=>We (eT i (rJ t) (λ_=>M.ret aB) (aM F e) FU 0 []<|mZ imp Z) h1 λys h2=>V1 (.ref h2.nx) (h2.C8<|.l aB ys)):We (aM F (.uW imp t it e) Z) h V1:=
 bM (w.D2 λ_ _ z=>bM (z.D2 λ_ _ y=>y))
def aVe{imp:AX}{t:CT}{c:Ex}(w:We (iter F it Z) h λi h1=>We (eT i (rJ t) (dW F c) (aM F e) FU 0 []<|mZ imp Z) h1 λys h2=>V1 (.ref h2.nx) (h2.C8<|.l aB ys)):We (aM F (.uX imp t it c e) Z) h V1:=
 bM (w.D2 λ_ _ z=>bM (z.D2 λ_ _ y=>y))
def xv{Q:aF->AH->Prop}(q:Q (Z.set i<|aA v) h):We (rJ (.nm i) v Z) h Q:=q
def MH{a b:AV}{Q:aF->AH->Prop}(q:Q ((Z.set i<|aA a).set j (aA b)) h):We (rJ (.tup [i,j]) (.tup [a,b]) Z) h Q:=q
theorem uY{it:eM}{g:AV->aF->M aF}{mt:aF->M Bool}{me:aF->M AV}(I:Nat->'%'->aF->AH->Prop)(n:Nat)
  (turn:∀i ys σ h,i<n->I i ys σ h->∃v,it i h=aA (aA v)/\Wp (g v σ) h λσ1 h1=>Wp (mt σ1) h1 λb h2=>if b=aB then We (me σ1) h2 λy h3=>B3 ys<sizeLine/\I (i+1) (ys++[y]) σ1 h3 else I (i+1) ys σ1 h2)
  (done:∀ys σ h,I n ys σ h->it n h=aA aD/\L1 ys h):∀(f i:Nat) (ys:'%') (σ:aF) (h:AH),i<=n->n-i<f->I i ys σ h->We (eT it g mt me f i ys σ) h L1
 |0,i,ys,σ,h,_,d,_=>absurd d (Gy _)
 |f+1,i,ys,σ,h,k,d,j=>by
  by_cases a:i<n
  .obtain⟨v,e,w⟩:=turn i ys σ h a j;have c:eT it g mt me (f+1) i ys σ h=((sG<|g v σ).bind λσ1=>(sG<|mt σ1).bind λb=>if b=aB then(me σ1).bind λy=>M.guard (B3 ys<sizeLine) (eT it g mt me f (i+1) (ys++[y]) σ1) else eT it g mt me f (i+1) ys σ1) h:=by simp_all[eT,e]
   unfold We;rw[c];refine bM<|MK<|w.D2 λσ1 h1 w1=>bM (MK<|w1.D2 λb h2 w2=>?_);cases b with
   |true=>exact bM<|w2.D2 λy h3 w3=>qa w3.1 (uY I n turn done f (i+1) _ σ1 h3 a (by lia) w3.2)
   |false=>exact uY I n turn done f (i+1) ys σ1 h2 a '!' w2
  .have:i=n:=by omega
   subst this;obtain⟨e,q⟩:=done ys σ h j;unfold We;have c:eT it g mt me (f+1) i ys σ h = .ok ys h:=by simp only[eT,e]
   rw[c];exact q
variable {g:AV->aF->M aF}{mt:aF->M Bool}{me:aF->M AV}
def oy{A B:AH->Prop}(q:A h):Wp (M.ret aB) h λb h2=>if b=aB then A h2 else B h2:=by
 show if aB=aB then A h else B h
 exact q
def Za{lo:Int}(I:Nat->'%'->aF->AH->Prop)(hn:n<FU)(i0:I 0 [] σ h)
  (turn:∀(i:Nat) ys σ h,i<n->I i ys σ h->Wp (g (.int<|lo+i) σ) h λσ1 h1=>We (me σ1) h1 λy h3=>B3 ys<sizeLine/\I (i+1) (ys++[y]) σ1 h3)
  (done:∀ys σ h,I n ys σ h->L1 ys h):We (eT (sM lo n) g (λ_=>M.ret aB) me FU 0 [] σ) h L1:=by
 refine uY I n (λi ys σ h b a=>?_) (λys σ h a=>⟨by simp[sM],done ys σ h a⟩) FU 0 [] σ h (jD _) '!' i0;exact⟨_,by simp_all[sM,b],(turn i ys σ h b a).D2 λσ1 h1 w=>oy w⟩
def i5(I:Nat->'%'->aF->AH->Prop)(hn:B3 xs<FU)(i0:I 0 [] σ h)
  (turn:∀(i:Nat) x ys σ h,xs[i]?=aA x->I i ys σ h->Wp (g x σ) h λσ1 h1=>We (me σ1) h1 λy h3=>B3 ys<sizeLine/\I (i+1) (ys++[y]) σ1 h3)
  (done:∀ys σ h,I (B3 xs) ys σ h->L1 ys h):We (eT (pN xs) g (λ_=>M.ret aB) me FU 0 [] σ) h L1:=by
 refine uY I (B3 xs) (λi ys σ h b a=>?_) (λys σ h a=>⟨by simp[pN],done ys σ h a⟩) FU 0 [] σ h (jD _) '!' i0;exact⟨xs[i],by simp_all[pN,b],(turn i _ ys σ h (eD b) a).D2 λσ1 h1 w=>oy w⟩
def Jb(I:Nat->'%'->aF->AH->Prop)(hn:B3 xs<FU)(i0:I 0 [] σ h)(il:∀i ys σ h,I i ys σ h->h.ob n=aA (.l bb xs))
  (turn:∀(i:Nat) x ys σ h,xs[i]?=aA x->I i ys σ h->Wp (g x σ) h λσ1 h1=>We (me σ1) h1 λy h3=>B3 ys<sizeLine/\I (i+1) (ys++[y]) σ1 h3)
  (done:∀ys σ h,I (B3 xs) ys σ h->L1 ys h):We (eT (jZ n) g (λ_=>M.ret aB) me FU 0 [] σ) h L1:=by
 exact uY I (B3 xs) (λi ys σ h b a=>⟨_,by rw[mI (il _ _ _ _ a),eD b],(turn i _ ys σ h (eD b) a).D2 λσ1 h1 w=>oy w⟩) (λys σ h a=>⟨by rw[mI (il _ _ _ _ a)];simp,done ys σ h a⟩) FU 0 [] σ h (jD _) '!' i0
def i3(I:Nat->'%'->aF->AH->Prop)(hn:B3 xs<FU)(i0:I 0 [] σ h)(il:∀i ys σ h,I i ys σ h->h.ob n=aA (.l bb xs))
  (turn:∀(i:Nat) x ys σ h,xs[i]?=aA x->I i ys σ h->Wp (g (.tup [.int i,x]) σ) h λσ1 h1=>We (me σ1) h1 λy h3=>B3 ys<sizeLine/\I (i+1) (ys++[y]) σ1 h3)
  (done:∀ys σ h,I (B3 xs) ys σ h->L1 ys h):We (eT (nU<|jZ n) g (λ_=>M.ret aB) me FU 0 [] σ) h L1:=by
 exact uY I (B3 xs) (λi ys σ h b a=>⟨_,Zz (il _ _ _ _ a) (eD b),(turn i _ ys σ h (eD b) a).D2 λσ1 h1 w=>oy w⟩) (λys σ h a=>⟨Zy (il _ _ _ _ a) (by simp),done ys σ h a⟩) FU 0 [] σ h (jD _) '!' i0
def aWf{is:AU}(w:We (dH F es Z) h λvs h1=>B3 vs=B3 is/\N (Em is vs Z) h1):Wt (dR F (.par is es) Z) h N R B C:=
 bM (w.D2 λvs h1 z=>qa z.1 z.2)
end
def BQ{n1 n2:Nat}{g:AV->aF->M aF}(I:Nat->aF->AH->Prop)(hl:B3 xs=B3 ys)(hn:B3 xs<FU)(i0:I 0 σ h)
  (il:∀i σ h,I i σ h->h.ob n1=aA (.l b1 xs)/\h.ob n2=aA (.l b2 ys))
  (turn:∀(i:Nat) x y σ h,xs[i]?=aA x->ys[i]?=aA y->I i σ h->We (g (.tup [x,y]) σ) h λσ1 h1=>Wt (body σ1) h1 (I<|i+1) R N (I<|i+1))
  (done:∀σ h,I (B3 xs) σ h->N σ h):Wt (kM (pO (jZ n1)<|jZ n2) g body FU 0 σ) h N R B C:=by
 refine xX I (B3 xs) (λi σ h d a=>?_) (λσ h a=>⟨?_,done σ h a⟩) FU 0 σ h (jD _) '!' i0
 .obtain⟨g1,g2⟩:=il _ _ _ a;have b:=eD d;have c:=eD (show i<B3 ys by lia);exact⟨_,by simp only[pO,mI g1,mI g2,b,c],turn i _ _ σ h b c a⟩
 .obtain⟨g1,g2⟩:=il _ _ _ a;simp[pO,mI g1,mI g2]
def kh(e:h.ob n=aA (.l b xs)):tN h (.ref n)=aA (jZ n):=Lr e
def Ci(h:i<n):iS n (i:Int)=aA i:=by unfold iS;rw[if_pos (by lia),if_pos (by lia)];simp
def MN(hz:B3 xs+B3 ys<=sizeLine)(q:V1 (.tup<|xs++ys) h):We (Op.g .add (.tup xs)<|.tup ys) h V1:=qa hz q
def MY{lo hi:'+'}(hz:¬(HT.cA (B3 xs) 0 lo=0/\HT.cA (B3 xs) (B3 xs) hi=B3 xs))(q:V1 (.tup<|eU xs lo hi) h):We (rW (.tup xs) lo hi) h V1:=by unfold We rW;simp only[if_neg hz];exact q
def ND{cs:AU}{f:Str}(w:We (aM F o Z) h λx h1=>We (yB cs f x) h1 V1):We (aM F (.lR cs f o) Z) h V1:=bM w
def MS{cs:AU}{f:Str}{fs:AL}(e:h.ob n=aA (.ins c fs))(hc:cs.contains c=aB)(l:fs.lookup f=aA v)(q:V1 v h):We (yB cs f<|.ref n) h V1:=by unfold We yB;simp only[km e,oM,yu,if_pos hc,l];exact q
def aUb{dp:Nat->Option ('%'->M AV)}{r:M '%'}{fs:AL}{g:'%'->M AV}(e2:h.ob n=aA (.ins c fs))(e3:dp c=aA g)(e4:fs.lookup m=aD)(q:We r h λxs h2=>We (g<|.ref n::xs) h2 V1):We (Dd dp m r<|.ref n) h V1:=by unfold We Dd;simp only[km e2,oM,yu,e3,e4];exact bM q
def NH(w:We (aM F o Z) h λx h1=>∃(n c:Nat) (fs:AL) (i:Nat),x = .ref n/\h1.ob n=aA (.ins c fs)/\dp.lookup c=aA i/\fs.lookup m=aD/\We (dH F es Z) h1 λxs h2=>We (F i<|.ref n::xs) h2 V1) :
  We (aM F (.sA m dp o es) Z) h V1:=bM (w.D2 λx h1 ⟨n,c,fs,i,a,b,d,e,q⟩=>by
 subst a;exact aUb b (by rw[d];rfl) e q)
def aVk{dv:'%'}(w:We (dH F es Z) h λxs h1=>We (F i<|.ref h1.nx::(xs++dv)) (h1.C8<|.ins c []) λv h2=>v = .aG/\V1 (.ref h1.nx) h2):We (aM F (.make c i dv es) Z) h V1:=
 bM (w.D2 λxs h1 z=>by exact bM (z.D2 λv h2 ⟨e,q⟩=>by subst e;exact q))
def aVc(w:We (dH F es Z) h λxs h1=>We (F i xs) h1 V1):We (aM F (.jv i es) Z) h V1:=bM w
def aWm{cs:AU}{f:Str}(w:We (aM F (.lR cs f o) Z) h λx h1=>We (dJ x) h1 B1):We (dW F (.lR cs f o) Z) h B1:=bM w
def aWo(w:We (aM F (.sA m dp o es) Z) h λx h1=>We (dJ x) h1 B1):We (dW F (.sA m dp o es) Z) h B1:=bM w
def aWd{cs:AU}{f:Str}(w:We (aM F e Z) h λv h1=>We (aM F o Z) h1 λx h2=>∃(n c:Nat) (fs:AL),x = .ref n/\h2.ob n=aA (.ins c fs)/\cs.contains c=aB/\B3 fs<1000/\N Z (h2.C9 n<|.ins c<|iT f v fs)) :
  Wt (dR F (.kg cs f o e) Z) h N R B C:=bM (w.D2 λv h1 z=>bM (z.D2 λx h2 ⟨n,c,fs,a,b,d,g,q⟩=>by
 subst a;unfold We;simp only[km b,oM,yu];rw[if_pos ⟨d,g⟩];exact q))
def aWc{cs:AU}{f:Str}(w:We (aM F o Z) h λx h1=>∃(n c:Nat) (fs:AL) (i:Int),x = .ref n/\h1.ob n=aA (.ins c fs)/\cs.contains c=aB/\fs.lookup f=aA (.int i) /\
  We (aM F e Z) h1 λy h2=>∃(j:Int) (fs2:AL),y = .int j/\h2.ob n=aA (.ins c fs2)/\B3 fs2<1000/\N Z (h2.C9 n<|.ins c<|iT f (.int<|i+j) fs2)) :
  Wt (dR F (.uh cs f o e) Z) h N R B C:=bM (w.D2 λx h1 ⟨n,c,fs,i,a,b,d,g,z⟩=>by
 subst a;unfold We;simp only[km b,oM,yu,if_pos d,g];refine bM<|z.D2 λy h2 k=>?_;obtain⟨j,fs2,l,m,p,q⟩:=k;subst l;unfold We;simp only[km m,Cb];rw[if_pos ⟨trivial,p⟩];exact q)
def aVz{sub:Bool}(l:Z[i]?=aA (aA<|.int a))(w:We (aM F e Z) h λy h1=>∃j:Int,y = .int j/\N (Z.set i<|aA<|.int<|if sub=aB then a-j else a+j) h1):Wt (dR F (.aug sub i e) Z) h N R B C:=by show We (su sub i (aM F e Z) Z) h _;unfold su;simp only[l];exact bM (w.D2 λy h1 ⟨j,b,q⟩=>by subst b;exact q)
def aVg{f:Dm}(w:We (aM F o Z) h λx h1=>qw (fO h1 x)=aB/\We (dH F es Z) h1 λxs h2=>We (f.g x xs) h2 V1):We (aM F (.dm f o es) Z) h V1:=bM (w.D2 λx h1 ⟨a,b⟩=>by unfold We;simp only[if_pos a];exact bM b)
def aVf{ks:AK}(w:We (dH F es Z) (h.C8<|.aP []) λxs h2=>h2.ob h.nx=aA (.aP [])/\B3 xs=B3 ks/\B3 ks<=15/\V1 (.ref h.nx) (h2.C9 h.nx<|.aP<|kP []<|gF ks xs)):We (aM F (.ud ks es) Z) h V1:=by show We (Bc ks<|dH F es Z) h V1;refine bM<|w.D2 λxs h2 ⟨a,b,c,q⟩=>?_;unfold We Jg;simp only[a];rw[if_pos ⟨b,c⟩];exact q
def tF(e:h.ob n=aA (.aP kvs)):fO h (.ref n)=aA kvs:=by simp only[fO,e]
def MO{k:aN}(e:h.ob n=aA (.aP kvs))(hk:fV y=aA k)(q:V1 ((bT kvs k).getD z) h):We (Dm.g .get (.ref n) [y,z]) h V1:=by show We (de (.ref n) [y,z]) h V1;unfold We de;simp only[tF e,hk];exact q
def Rh{k:aN}(e:h.ob n=aA (.aP kvs))(hk:fV y=aA k)(q:V1 ((bT kvs k).getD .aG) h):We (Dm.g .get (.ref n) [y]) h V1:=by show We (de (.ref n) [y]) h V1;unfold We de;simp only[tF e,hk];exact q
def Ri{k:aN}(e:h.ob n=aA (.aP kvs))(hk:fV y=aA k)(l:bT kvs k=aA v)(q:V1 v (h.C9 n<|.aP<|vA kvs k)):We (Dm.g .pop (.ref n) [y]) h V1:=by show We (uq (.ref n) [y]) h V1;unfold We uq;simp only[tF e,hk,l];exact q
def aTr{k:aN}(e:h.ob n=aA (.aP kvs))(hk:fV y=aA k)(hz:B3 kvs<sizeLine)(q1:∀v,bT kvs k=aA v->V1 v h)(q2:bT kvs k=aD->V1 z (h.C9 n<|.aP<|gM kvs k z)):We (Dm.g .setd (.ref n) [y,z]) h V1:=by
 show We (ur (.ref n) [y,z]) h V1;unfold We ur;simp only[tF e,hk,if_pos hz];cases l:bT kvs k with
 |none=>exact q2 l|some v=>exact q1 v l
def MQ{m:Nat}{more:List (aN×AV)}(e:h.ob n=aA (.aP kvs))(e2:h.ob m=aA (.aP more))(hn:n≠m)(hz:B3 kvs+B3 more<=sizeLine)(q:V1 .aG (h.C9 n<|.aP<|kP kvs more)):We (Dm.g .D4 (.ref n) [.ref m]) h V1:=by show We (uu (.ref n) [.ref m]) h V1;unfold We uu;simp only[tF e,tF e2];rw[if_pos ⟨hn,hz⟩];exact q
def xw{k:aN}(e:h.ob n=aA (.aP kvs))(hk:fV y=aA k)(l:bT kvs k=aA v)(q:V1 v h):We (Op.g .ix (.ref n) y) h V1:=by show We (vG (.ref n) y) h V1;unfold We vG;simp only[tF e,hk,oP,l];exact q
def Fj{k:aN}(e:h.ob n=aA (.dX kvs))(hk:fV y=aA k)(l:bT kvs k=aA v)(q:V1 v h):We (Op.g .ix (.ref n) y) h V1:=by show We (vG (.ref n) y) h V1;unfold We vG;simp only[fO,e];unfold Bp;simp only[ck,e,hk,oP,l];exact q
def gm{k:aN}(e:h.ob n=aA (.aP kvs))(hk:fV y=aA k)(q:V1 (.bl (qw<|bT kvs k)) h):We (Cp.g .kj y<|.ref n) h V1:=by show We (qA aJ y<|.ref n) h V1;unfold We qA;simp only[tF e,hk];exact q
def aTa{k k':aN}:bT (gM kvs k v) k'=if k=k' then aA v else bT kvs k':=by
 induction kvs with
 |nil=>
  by_cases e:k=k'
  .simp[bT,gM]
  .simp[bT,gM]
 |cons p r h=>
  obtain⟨b,v0⟩:=p;by_cases f:b=k
  .subst f;have g:gM ((b,v0)::r) b v=(b,v)::r.map (λa=>if a.1=b then(a.1,v) else a):=by simp[gM]
   rw[g];by_cases e:b=k'
   .subst e;simp[bT]
   .have:bT (r.map λa=>if a.1=b then(a.1,v) else a) k'=bT r k':=by
     clear h g;induction r with
     |nil=>rfl|cons q s d=>
      obtain⟨k2,v2⟩:=q;by_cases i:k2=b
      .subst i;simp only[fJ,if_true];have l1:bT ((k2,v)::s.map λa=>if a.1=k2 then(a.1,v) else a) k'=bT (s.map λa=>if a.1=k2 then(a.1,v) else a) k':=by simp[bT,e]
       have l2:bT ((k2,v2)::s) k'=bT s k':=by simp[bT,e]
       rw[l1,l2,d]
      .simp only[fJ,i,if_false];by_cases c:k2=k'
       .simp[bT,c]
       .have l1:bT ((k2,v2)::s.map λa=>if a.1=b then(a.1,v) else a) k'=bT (s.map λa=>if a.1=b then(a.1,v) else a) k':=by simp[bT,c]
        have l2:bT ((k2,v2)::s) k'=bT s k':=by simp[bT,c]
        rw[l1,l2,d]
    have l1:bT ((b,v)::r.map λa=>if a.1=b then(a.1,v) else a) k'=bT (r.map λa=>if a.1=b then(a.1,v) else a) k':=by simp[bT,e]
    have l2:bT ((b,v0)::r) k'=bT r k':=by simp[bT,e]
    rw[l1,this,if_neg e,l2]
  .have g:gM ((b,v0)::r) k v=(b,v0)::gM r k v:=by unfold gM;simp only[ia,f,decide_false,Bool.false_or];split<;>simp[f]
   rw[g];by_cases c:b=k'
   .have ne:k≠k':=λz=>f (c.trans z.symm);simp[bT,c,ne]
   .have l1:bT ((b,v0)::gM r k v) k'=bT (gM r k v) k':=by simp[bT,c]
    have l2:bT ((b,v0)::r) k'=bT r k':=by simp[bT,c]
    rw[l1,l2,h]
def HP{k:aN}:B3 (gM kvs k v)<=B3 kvs+1:=by
 unfold gM;split
 .grind
 .simp_all
def MW{k:Int}(e:h.ob n=aA (.l aB xs))(h0:0<=k)(hz:B3 xs*k.toNat<=sizeLine)(h1:k<2 ^ 63)(q:V1 (.ref h.nx) (h.C8<|.l aB (fB k.toNat xs).flatten)):We (Op.g .mul (.ref n)<|.int k) h V1:=by show We (uy (.ref n)<|.int k) h V1;unfold We uy;simp only[e,if_pos (show 0<=k/\B3 xs*k.toNat<=sizeLine/\k<2 ^ 63 from⟨h0,hz,h1⟩)];exact q
def aVb(w:We (aM F o Z) h λx h1=>We (yA x) h1 V1):We (aM F (.clear o) Z) h V1:=bM w
def Fh(e:h.ob n=aA (.l aB xs))(q:V1 .aG (h.C9 n<|.l aB [])):We (yA<|.ref n) h V1:=by unfold We yA;simp only[e];exact q
def aVq(w:We (aM F o Z) h λx h1=>We (dq x) h1 V1):We (aM F (.wu o) Z) h V1:=bM w
def aUj(e:h.ob n=aA (.l aB<|xs++[y]))(q:V1 y (h.C9 n<|.l aB xs)):We (dq<|.ref n) h V1:=by
 unfold We dq;have a:(xs++[y])[B3 (xs++[y])-1]?=aA y:=by simp
 have b:(xs++[y]).dropLast=xs:=by simp
 simp only[e,a,b];exact q
def MR(e:vB x y=aD)(e2:tG h x y=aA b)(q:V1 (.bl b) h):We (Cp.g .eq x y) h V1:=by show We (dh aJ x y) h V1;unfold We dh;simp only[e,e2];exact q
def MV(e:vB x y=aD)(e2:tG h x y=aA b)(q:V1 (.bl<|!b) h):We (Cp.g .ne x y) h V1:=by show We (dh aB x y) h V1;unfold We dh;simp only[e,e2];exact q
def Bg{m:Nat}(e1:h.ob n=aA (.l b1 xs))(e2:h.ob m=aA (.l b2 [])):tG h (.ref n) (.ref m)=aA (decide<|xs=[]):=by simp only[tG,xk,e1,e2];cases xs<;>rfl
def Kp.get(g:Kp h h'){o:Option bA}(hn:n<h.nx)(e:h.ob n=o):h'.ob n=o:=(g.ob n hn).trans e
def bAa{o:bA}:(h.C9 n o).nx=h.nx:=rfl
def aZz{o:bA}:(h.C8 o).nx=h.nx+1:=rfl
def i4{g:AV->aF->M aF}{mt:aF->M Bool}{me:aF->M AV}(I:Nat->'%'->aF->AH->Prop)(hn:B3 xs<FU)(i0:I 0 [] σ h)(il:∀i ys σ h,I i ys σ h->h.ob n=aA (.l bb xs))
  (turn:∀(i:Nat) x ys σ h,xs[i]?=aA x->I i ys σ h->Wp (g x σ) h λσ1 h1=>Wp (mt σ1) h1 λb h2=>if b=aB then We (me σ1) h2 λy h3=>B3 ys<sizeLine/\I (i+1) (ys++[y]) σ1 h3 else I (i+1) ys σ1 h2)
  (done:∀ys σ h,I (B3 xs) ys σ h->L1 ys h):We (eT (jZ n) g mt me FU 0 [] σ) h L1:=by
 exact uY I (B3 xs) (λi ys σ h c a=>⟨_,by rw[mI (il _ _ _ _ a),eD c],turn i _ ys σ h (eD c) a⟩) (λys σ h a=>⟨by rw[mI (il _ _ _ _ a)];simp,done ys σ h a⟩) FU 0 [] σ h (jD _) '!' i0
def lU:(1000:Nat)<sizeLine:=by decide
def kO{α:Type}{f:α->AV}{ws:List α}(h:(ws.map f)[i]?=aA x):∃w,ws[i]?=aA w/\x=f w:=by rw[eQ]at h;obtain⟨w,a,b⟩:=gT.1 h;exact⟨w,a,b.symm⟩
def j9:eU xs aD (aA (n:Int))=xs.take n:=by simp_all[eU,HT.Ek,HT.yW,Nat.sub_zero]
def Zf:eU xs (aA (n:Int)) aD=xs.drop n:=by
 unfold eU;rw[HT.Ek,HT.yW];rcases PR n (B3 xs) with h|h
 .rw[qv h,List.take_of_length_le (by left)]
 .simp_all
def Xb(h0:0<n)(h1:n<=B3 xs):cZ xs (-(n:Int))=xs[B3 xs-n]?:=by
 unfold cZ iS;rw[if_neg (by lia)];first
  |rw[if_pos (by lia)]|skip
 have:(-n+(B3 xs:Int)).toNat=B3 xs-n:=by lia
 simp[this]
def yc{c:Ex}{b:aQ}(w:Wt (wJ (dW F c) (jY F b) FU Z) h N R B C):Wt (dR F (.Fl c b) Z) h N R B C:=w
theorem pw{c:aF->M Bool}{body:aF->M E3}(I:Nat->aF->AH->Prop)(n:Nat)(hb:∀i Z h,I i Z h->i<=n)
  (turn:∀i Z h,I i Z h->We (c Z) h λb h1=>if b=aB then Wt (body Z) h1 (I<|i+1) R N (I<|i+1) else N Z h1):∀(f i:Nat) (Z:aF) (h:AH),n-i<f->I i Z h->Wt (wJ c body f Z) h N R B C
 |0,i,Z,h,d,_=>absurd d (Gy _)
 |f+1,i,Z,h,d,j=>by
  have e:=pw I n hb turn f;refine bM<|(turn i Z h j).D2 λb h1 w=>?_;cases b with
  |false=>exact w|true=>
   refine bM<|We.D2 w λo g z=>?_;cases o with
   |nx a=>have:=hb _ _ _ z;exact e (i+1) a g '!' z
   |cnt a=>have:=hb _ _ _ z;exact e (i+1) a g '!' z
   |brk a=>exact z|ret v=>exact z
def Zq{k:aN}(e:ks[i]?=aA k):mW ks i h=aA (aA<|tO k):=by simp only[mW,e]
def Zp:mW ks (B3 ks) h=aA aD:=by simp[mW]
def Yy{g:AV->aF->M aF}{mt:aF->M Bool}{me:aF->M AV}(I:Nat->'%'->aF->AH->Prop)(hn:B3 ks<FU)(i0:I 0 [] σ h)
  (turn:∀(i:Nat) k ys σ h,ks[i]?=aA k->I i ys σ h->Wp (g (tO k) σ) h λσ1 h1=>Wp (mt σ1) h1 λb h2=>if b=aB then We (me σ1) h2 λy h3=>B3 ys<sizeLine/\I (i+1) (ys++[y]) σ1 h3 else I (i+1) ys σ1 h2)
  (done:∀ys σ h,I (B3 ks) ys σ h->L1 ys h):We (eT (mW ks) g mt me FU 0 [] σ) h L1:=by
 exact uY I (B3 ks) (λi ys σ h c a=>⟨_,Zq (eD c),turn i _ ys σ h (eD c) a⟩) (λys σ h a=>⟨Zp,done ys σ h a⟩) FU 0 [] σ h (jD _) '!' i0
def g9{g:AV->aF->M aF}{me:aF->M AV}(I:Nat->'%'->aF->AH->Prop)(hn:B3 ks<FU)(i0:I 0 [] σ h)
  (turn:∀(i:Nat) k ys σ h,ks[i]?=aA k->I i ys σ h->Wp (g (tO k) σ) h λσ1 h1=>We (me σ1) h1 λy h3=>B3 ys<sizeLine/\I (i+1) (ys++[y]) σ1 h3)
  (done:∀ys σ h,I (B3 ks) ys σ h->L1 ys h):We (eT (mW ks) g (λ_=>M.ret aB) me FU 0 [] σ) h L1:=
 Yy I hn i0 (λi k ys σ h e a=>(turn i k ys σ h e a).D2 λσ1 h1 w=>oy w) done
def LO{L:bA}(ho:h.ob n=aA (.aP kvs))(hn:n<h.nx):((h.C9 n<|.dX kvs).C8 L).C9 n (.aP kvs)=h.C8 L:=by
 unfold AH.C9 AH.C8;congr 1
 funext m
 dsimp only;by_cases e:m=n
 .simp_all[bZ,hn,ho]
 .simp_all
def Qo{α:Type}{m0:aF->M AV}{ma:aF->M α}{kv':List (aN×AV)}{a:α}(hd:m0 Z h = .ok (.ref n) h)(ho:h.ob n=aA (.aP kvs))(hm:ma Z h = .ok a h')(h2:h'.ob n=aA (.dX kv')):mO m0 ma Z h = .ok a (h'.C9 n<|.aP kv'):=by unfold mO;simp only[hd,Ba,ho,hm,xq,h2]
def Kj(hd:aM F d Z h = .ok (.ref n) h)(ho:h.ob n=aA (.aP kvs)):iter F (.aP d) Z h = .ok (mW<|kvs.map (·.1)) (h.C9 n<|.dX kvs):=by show M.bind (aM F d Z) ui h=_;simp only[M.bind,hd,ui,ho]
def aVv{c:Ex}{imp:AX}{t:CT}(hd:aM F d Z h = .ok (.ref n) h)(ho:h.ob n=aA (.aP kvs))(hn:n<h.nx)
  (w:Wp (eT (mW<|kvs.map (·.1)) (rJ t) (dW F c) (aM F e) FU 0 []<|mZ imp Z) (h.C9 n<|.dX kvs) λys h2=>h2=h.C9 n (.dX kvs)/\V1 (.ref h.nx) (h.C8<|.l aB ys)):We (aM F (.kD d<|.uX imp t (.aP d) c e) Z) h V1:=by
 obtain⟨ys,h2,a,rfl,q⟩:=w.ex;have b:aM F (.uX imp t (.aP d) c e) Z h = .ok (.ref h.nx) ((h.C9 n<|.dX kvs).C8 (.l aB ys)):=by show M.bind (iter F (.aP d) Z) _ h=_;simp only[M.bind,Kj hd ho,a];rfl
 show We (mO (aM F d) (aM F<|.uX imp t (.aP d) c e) Z) h V1;unfold We;rw[(Qo (kv':=kvs) hd ho b (by simp[AH.C8,AH.C9,bZ hn])),LO ho hn];exact q
def aVu{imp:AX}{t:CT}(hd:aM F d Z h = .ok (.ref n) h)(ho:h.ob n=aA (.aP kvs))(hn:n<h.nx)
  (w:Wp (eT (mW<|kvs.map (·.1)) (rJ t) (λ_=>M.ret aB) (aM F e) FU 0 []<|mZ imp Z) (h.C9 n<|.dX kvs) λys h2=>h2=h.C9 n (.dX kvs)/\V1 (.ref h.nx) (h.C8<|.l aB ys)):We (aM F (.kD d<|.uW imp t (.aP d) e) Z) h V1:=by
 obtain⟨ys,h2,a,rfl,q⟩:=w.ex;have b:aM F (.uW imp t (.aP d) e) Z h = .ok (.ref h.nx) ((h.C9 n<|.dX kvs).C8 (.l aB ys)):=by show M.bind (iter F (.aP d) Z) _ h=_;simp only[M.bind,Kj hd ho,a];rfl
 show We (mO (aM F d) (aM F<|.uW imp t (.aP d) e) Z) h V1;unfold We;rw[(Qo (kv':=kvs) hd ho b (by simp[AH.C8,AH.C9,bZ hn])),LO ho hn];exact q
def M6{g:AV->aF->M aF}(I:Nat->aF->AH->Prop)(hn:B3 ks<FU)(i0:I 0 σ h)
  (turn:∀(i:Nat) k σ h,ks[i]?=aA k->I i σ h->We (g (tO k) σ) h λσ1 h1=>Wt (body σ1) h1 (I<|i+1) R N (I<|i+1))
  (done:∀σ h,I (B3 ks) σ h->N σ h):Wt (kM (mW ks) g body FU 0 σ) h N R B C:=by
 exact xX I (B3 ks) (λi σ h b a=>⟨_,Zq (eD b),turn i _ σ h (eD b) a⟩) (λσ h a=>⟨Zp,done σ h a⟩) FU 0 σ h (jD _) '!' i0
def aWh{t:Tg}{b:aQ}(hd:aM F d Z h = .ok (.ref n) h)(ho:h.ob n=aA (.aP kvs))
  (w:Wt (kM (mW<|kvs.map (·.1)) (mG F t) (jY F b) FU 0 Z) (h.C9 n<|.dX kvs) (λZ' h'=>h'.ob n=aA (.dX kvs)/\N Z' (h'.C9 n<|.aP kvs)) '6' '6' '6'):Wt (dR F (.kD d<|.xY t (.aP d) b) Z) h N R B C:=by
 have a:=w;obtain⟨o,h',e,q⟩:=a.ex;cases o with
 |nx Z'=>
  obtain⟨c,f⟩:=(q:h'.ob n=aA (.dX kvs)/\N Z' (h'.C9 n<|.aP kvs));have g:dR F (.xY t (.aP d) b) Z h = .ok (.nx Z') h':=by show M.bind (iter F (.aP d) Z) _ h=_;simp only[M.bind,Kj hd ho];exact e
  show Wt (mO (aM F d) (dR F<|.xY t (.aP d) b) Z) h N R B C;unfold Wt We;rw[(Qo (kv':=kvs) hd ho g c)];exact f
 |_=>exact(q).elim
def kb{cs:AU}{f:Str}{fs:AL}(ho:aM F o Z h = .ok (.ref n) h)(e:h.ob n=aA (.ins c fs))(hc:cs.contains c=aB)(l:fs.lookup f=aA v):aM F (.lR cs f o) Z h = .ok v h:=by show M.bind (aM F o Z) (yB cs f) h=_;simp only[M.bind,ho,yB,km e,oM,yu,hc,l,if_true]
def ph(e:Z[i]?=aA (aA v)):aM F (.var i) Z h = .ok v h:=by show yE i Z h=_;simp only[yE,e]
def aTq{bs:BC}(e:h.ob n=aA (.l b<|bs.map AV.bl))(q:V1 (.bl<|bs.any id) h):We (Kc.any.g<|.ref n) h V1:=by unfold We Kc.g;simp only[e,Kc.gl,Yg];exact q
def aUl{r:Bool}(e:h.ob n=aA (.l b<|ns.map AV.int))(hn:B3 ns<64)(q:V1 (.ref h.nx) (h.C8<|.l aB<|(lK r ns).map AV.int)):We ((Kc.srt r).g (.ref n)) h V1:=by unfold We Kc.g;simp only[e,Kc.gl,Cc,if_pos hn];exact q
def aPm(hi:ns.Pairwise (·<·)):lK aB ns=ns.reverse:=by refine(Pz (List.reverse_perm ns) ?_).symm;show NW (λa b=>a ≥ b) ns.reverse;rw[y9];exact hi.imp λh=>by lia
def aUc(e:h.ob n=aA (.l b<|ns.map AV.int))(q:V1 (if ns.isEmpty then .aG else .int (sC ns)) h):We (Kc.wb.g<|.ref n) h V1:=by unfold We Kc.g;simp only[e,Kc.gl,Cc];exact q
def aUk(e:h.ob n=aA (.l b<|ns.map AV.int))(hn:B3 ns<64)(q:V1 (.ref h.nx) (h.C8<|.l aB<|(lK aJ ns).map AV.int)):We (Kc.sd.g<|.ref n) h V1:=by unfold We Kc.g;simp only[e,Kc.gl,Cc,if_pos hn];exact q
def aE(b:Bool)(A B:Prop):Prop:=match b with
 |true=>A
 |false=>B
def aE.ite{A B:Prop}(w:aE b A B):if b=aB then A else B:=by
 cases b with
 |true=>exact w|false=>exact w
def aE.mp{A B A' B':Prop}(w:aE b A B)(f:A->A')(g:B->B'):aE b A' B':=by
 cases b with
 |true=>exact f w|false=>exact g w
def aE.t{A B:Prop}(e:b=aB)(q:A):aE b A B:=by rw[e];exact q
open AM.aE renaming t->B7
def aE.f{A B:Prop}(e:b=aJ)(q:B):aE b A B:=by rw[e];exact q
def aE.dt{c:Prop} [Decidable c] {A B:Prop}(e:c)(q:A):aE (decide c) A B:=B7 (decide_eq_true e) q
def aE.df{c:Prop} [Decidable c] {A B:Prop}(e:¬c)(q:B):aE (decide c) A B:=aE.f (decide_eq_false e) q
open AM.aE renaming df->C4
def aE.nt{c:Prop} [Decidable c] {A B:Prop}(e:c)(q:B):aE (!decide c) A B:=aE.f (by rw[decide_eq_true e];rfl) q
def aE.nf{c:Prop} [Decidable c] {A B:Prop}(e:¬c)(q:A):aE (!decide c) A B:=B7 (by rw[decide_eq_false e];rfl) q
def aE.dc{c:Prop} [Decidable c] {A B:Prop}(t:c->A)(f:¬c->B):aE (decide c) A B:=by
 by_cases z:c
 .exact aE.dt z<|t z
 .exact C4 z<|f z
open AM.aE renaming dc->C1
def aE.nd{c:Prop} [Decidable c] {A B:Prop}(t:¬c->A)(f:c->B):aE (!decide c) A B:=by
 by_cases z:c
 .exact aE.nt z<|f z
 .exact aE.nf z<|t z
theorem aE.by{b:Bool}{A B:Prop}(t:b=aB->A)(f:b=aJ->B):aE b A B:=by
 cases b with
 |true=>exact t rfl|false=>exact f rfl
@[irreducible] def WC {α:Type} (m:M α) (h:AH) (Q:α->AH->Prop):Prop:=We m h Q
def WC.of{α:Type}{m:M α}{Q:α->AH->Prop}(w:We m h Q):WC m h Q:=by unfold WC;exact w
open AM.WC renaming of->B5
def WC.we{α:Type}{m:M α}{Q:α->AH->Prop}(w:WC m h Q):We m h Q:=by unfold WC at w;exact w
open AM.WC renaming we->C3
@[irreducible] def WB (m:M E3) (h:AH) (N:aF->AH->Prop) (R:AV->AH->Prop) (B C:aF->AH->Prop):Prop:=Wt m h N R B C
def WB.of{m:M E3}(w:Wt m h N R B C):WB m h N R B C:=by unfold WB;exact w
def WB.wt{m:M E3}(w:WB m h N R B C):Wt m h N R B C:=by unfold WB at w;exact w
def aC{α:Type}(o:Option α)(K:α->Prop):Prop:=match o with
 |some v=>K v
 |none=>False
def aC.of{α:Type}{o:Option α}{K:α->Prop}{v:α}(e:o=aA v)(q:K v):aC o K:=by rw[e];exact q
open AM.aC renaming of->B4
def dz:AV->AG
 |.int i=>aA i
 |_=>aD
def Rf(o:Op)(x y:AV)(h:AH)(Q:AV->AH->Prop):Prop:=match o with
 |.add=>match x,y with
  |.int i,.int j=>Q (.int<|i+j) h
  |x,y=>WC (Op.g .add x y) h Q
 |.sub=>match x,y with
  |.int i,.int j=>Q (.int<|i-j) h
  |x,y=>WC (Op.g .sub x y) h Q
 |.mod=>match x,y with
  |.int i,.int j=>aE (decide<|0<j) (Q (.int<|i%j) h) False
  |x,y=>WC (Op.g .mod x y) h Q
 |.fdiv=>match x,y with
  |.int i,.int j=>aE (pA j) (Q (.int<|i / j) h) False
  |x,y=>WC (Op.g .fdiv x y) h Q
 |.mul=>match x,y with
  |.int i,.int j=>aE (sD i j) (Q (.int<|i*j) h) False
  |x,y=>WC (Op.g .mul x y) h Q
 |.ix=>match x,y with
  |.tup xs,.int i=>aC (cZ xs i) λv=>Q v h
  |x,y=>WC (Op.g .ix x y) h Q
 |o=>WC (o.g x y) h Q
def gj(o:Cp)(x y:AV)(h:AH)(Q:AV->AH->Prop):Prop:=match o with
 |.lt=>match x,y with
  |.int i,.int j=>Q (.bl<|decide<|i<j) h
  |x,y=>WC (Cp.g .lt x y) h Q
 |.le=>match x,y with
  |.int i,.int j=>Q (.bl<|decide<|i<=j) h
  |x,y=>WC (Cp.g .le x y) h Q
 |.gt=>match x,y with
  |.int i,.int j=>Q (.bl<|decide<|j<i) h
  |x,y=>WC (Cp.g .gt x y) h Q
 |.ge=>match x,y with
  |.int i,.int j=>Q (.bl<|decide<|j<=i) h
  |x,y=>WC (Cp.g .ge x y) h Q
 |.eq=>match x,y with
  |.int i,.int j=>Q (.bl<|decide<|i=j) h
  |.str i,.str j=>Q (.bl<|decide<|i=j) h
  |x,y=>WC (Cp.g .eq x y) h Q
 |.ne=>match x,y with
  |.int i,.int j=>Q (.bl<|!decide (i=j)) h
  |.str i,.str j=>Q (.bl<|!decide (i=j)) h
  |x,y=>WC (Cp.g .ne x y) h Q
 |.kr=>match y with
  |.aG=>Q (.bl<|nV x) h
  |y=>WC (Cp.g .kr x y) h Q
 |.isn=>match y with
  |.aG=>Q (.bl<|!nV x) h
  |y=>WC (Cp.g .isn x y) h Q
 |o=>WC (o.g x y) h Q
def wG(x:AV)(h:AH)(Q:Bool->AH->Prop):Prop:=match x with
 |.bl b=>Q b h
 |_=>False
def Rc(f:Bi)(xs:'%')(h:AH)(Q:AV->AH->Prop):Prop:=match f with
 |.len=>match xs with
  |[.tup ys]=>Q (.int (B3 ys)) h
  |xs=>WC (Bi.g .len xs) h Q
 |.int=>match xs with
  |[.int i]=>Q (.int i) h
  |[.bl b]=>Q (.int<|if b then 1 else 0) h
  |xs=>WC (Bi.g .int xs) h Q
 |.min=>match xs with
  |[.int i,.int j]=>Q (.int<|if j<i then j else i) h
  |xs=>WC (Bi.g .min xs) h Q
 |.max=>match xs with
  |[.int i,.int j]=>Q (.int<|if j > i then j else i) h
  |xs=>WC (Bi.g .max xs) h Q
 |.tuple=>match xs with
  |[.tup ys]=>Q (.tup ys) h
  |xs=>WC (Bi.g .tuple xs) h Q
 |f=>WC (f.g xs) h Q
def MF(x:AV)(h:AH)(Q:AV->AH->Prop):Prop:=match x with
 |.int i=>Q (.int<|-i) h
 |x=>WC (uz x) h Q
def hX(x:AV)(h:AH)(K:Nat->Nat->AL->Prop):Prop:=match x with
 |.ref n=>aC (h.ob n) λo=>match o with
  |.ins c fs=>K n c fs
  |_=>False
 |_=>False
mutual
noncomputable def wE(F:E9):Ex->aF->AH->(AV->AH->Prop)->Prop
 |.var i,Z,h,Q=>aC Z[i]? λo=>aC o λv=>Q v h
 |.val v,_,h,Q=>Q v h
 |.op o a b,Z,h,Q=>wE F a Z h λx h1=>wE F b Z h1 λy h2=>Rf o x y h2 Q
 |.cmp o a b,Z,h,Q=>wE F a Z h λx h1=>wE F b Z h1 λy h2=>gj o x y h2 Q
 |.neg a,Z,h,Q=>wE F a Z h λx h1=>MF x h1 Q
 |.not a,Z,h,Q=>wE F a Z h λx h1=>wG x h1 λb h2=>Q (.bl<|!b) h2
 |.and a b,Z,h,Q=>wE F a Z h λx h1=>wG x h1 λt h2=>aE t (wE F b Z h2 Q) (Q x h2)
 |.or a b,Z,h,Q=>wE F a Z h λx h1=>wG x h1 λt h2=>aE t (Q x h2) (wE F b Z h2 Q)
 |.ite c a b,Z,h,Q=>wT F c Z h λt h1=>aE t (wE F a Z h1 Q) (wE F b Z h1 Q)
 |.tup es,Z,h,Q=>oC F es Z h λxs h1=>aE (Tx (B3 xs) 64) (Q (.tup xs) h1) False
 |.l es,Z,h,Q=>oC F es Z h λxs h1=>aE (Tx (B3 xs) 64) (Q (.ref h1.nx)<|h1.C8<|.l aB xs) False
 |.call f es,Z,h,Q=>oC F es Z h λxs h1=>WC (F f xs) h1 Q
 |.bi f es,Z,h,Q=>oC F es Z h λxs h1=>Rc f xs h1 Q
 |.tL t a,Z,h,Q=>wE F a Z h λx h1=>aC (uV h1 x) λs=>Q (.bl<|s.sub t) h1
 |.chain o o' a b c,Z,h,Q=>wE F a Z h λx h1=>wE F b Z h1 λy h2=>gj o x y h2 λz h3=>aC (sZ z) λt=>aE t (wE F c Z h3 λu h4=>gj o' y u h4 Q) (Q (.bl aJ) h3)
 |.app o a,Z,h,Q=>wE F o Z h λx h1=>aE (ec h1 x) (wE F a Z h1 λy h2=>WC (vE x y) h2 Q) False
 |.lR cs f o,Z,h,Q=>wE F o Z h λx h1=>hX x h1 λ_ c fs=>aE (cs.contains c) (aC (fs.lookup f) λv=>Q v h1) False
 |.sA m dp o es,Z,h,Q=>wE F o Z h λx h1=>hX x h1 λn c fs=>aC (dp.lookup c) λi=>aE (fs.lookup m).isNone (oC F es Z h1 λxs h2=>WC (F i<|.ref n::xs) h2 Q) False
 |.make c i dv es,Z,h,Q=>oC F es Z h λxs h1=>WC (F i<|.ref h1.nx::(xs++dv)) (h1.C8<|.ins c []) λv h2=>v = .aG/\Q (.ref h1.nx) h2
 |.jv i es,Z,h,Q=>oC F es Z h λxs h1=>WC (F i xs) h1 Q
 |.uf,_,h,Q=>Q (.ref h.nx) (h.C8<|.aP [])
 |.dm f o es,Z,h,Q=>wE F o Z h λx h1=>aE (qw<|fO h1 x) (oC F es Z h1 λxs h2=>WC (f.g x xs) h2 Q) False
 |.kc k a,Z,h,Q=>wE F a Z h λx h1=>WC (k.g x) h1 Q
 |e,Z,h,Q=>WC (aM F e Z) h Q
noncomputable def wT(F:E9):Ex->aF->AH->(Bool->AH->Prop)->Prop
 |.var i,Z,h,Q=>aC Z[i]? λo=>aC o λv=>wG v h Q
 |.cmp o a b,Z,h,Q=>wE F a Z h λx h1=>wE F b Z h1 λy h2=>gj o x y h2 λz h3=>aC (sZ z) λt=>Q t h3
 |.not a,Z,h,Q=>wT F a Z h λb h1=>Q (!b) h1
 |.and a b,Z,h,Q=>wT F a Z h λt h1=>aE t (wT F b Z h1 Q) (Q aJ h1)
 |.or a b,Z,h,Q=>wT F a Z h λt h1=>aE t (Q aB h1) (wT F b Z h1 Q)
 |.chain o o' a b c,Z,h,Q=>wE F a Z h λx h1=>wE F b Z h1 λy h2=>gj o x y h2 λz h3=>aC (sZ z) λt=>aE t (wE F c Z h3 λu h4=>gj o' y u h4 λz h5=>aC (sZ z) λt=>Q t h5) (Q aJ h3)
 |.call f es,Z,h,Q=>oC F es Z h λxs h1=>WC (F f xs) h1 λv h2=>wG v h2 Q
 |.tL t a,Z,h,Q=>wE F a Z h λx h1=>aC (uV h1 x) λs=>Q (s.sub t) h1
 |.lR cs f o,Z,h,Q=>wE F o Z h λx h1=>hX x h1 λ_ c fs=>aE (cs.contains c) (aC (fs.lookup f) λv=>wG v h1 Q) False
 |.sA m dp o es,Z,h,Q=>wE F o Z h λx h1=>hX x h1 λn c fs=>aC (dp.lookup c) λi=>aE (fs.lookup m).isNone (oC F es Z h1 λxs h2=>WC (F i<|.ref n::xs) h2 λv h3=>wG v h3 Q) False
 |.kc k a,Z,h,Q=>wE F a Z h λx h1=>WC (k.g x) h1 λv h3=>wG v h3 Q
 |e,Z,h,Q=>WC (dW F e Z) h Q
noncomputable def oC(F:E9):eF->aF->AH->('%'->AH->Prop)->Prop
 |.nil,_,h,Q=>Q [] h
 |.cons e es,Z,h,Q=>wE F e Z h λx h1=>oC F es Z h1 λxs h2=>Q (x::xs) h2
end
mutual
noncomputable def wA(F:E9):Tg->AV->aF->AH->(aF->AH->Prop)->Prop
 |.nm i,v,Z,h,K=>K (Z.set i<|aA v) h
 |.tup n ts,v,Z,h,K=>aC (xr v) λxs=>aE (decide<|B3 xs=n) (Rb F ts xs Z h K) False
 |.sub o i,v,Z,h,K=>wE F o Z h λx h1=>wE F i Z h1 λy h2=>WC (pB x y v) h2 λ_ h3=>K Z h3
 |t,v,Z,h,K=>WC (mG F t v Z) h K
noncomputable def Rb(F:E9):xN->'%'->aF->AH->(aF->AH->Prop)->Prop
 |.nil,[],σ,h,K=>K σ h
 |.nil,_::_,_,_,_=>False
 |.cons _ _,[],_,_,_=>False
 |.cons t ts,v::vs,σ,h,K=>wA F t v σ h λσ1 h1=>Rb F ts vs σ1 h1 K
end
mutual
noncomputable def wS(F:E9):Sx->aF->AH->(aF->AH->Prop)->(AV->AH->Prop)->(aF->AH->Prop)->(aF->AH->Prop)->Prop
 |.pass,Z,h,N,_,_,_=>N Z h
 |.brk,Z,h,_,_,B,_=>B Z h
 |.cnt,Z,h,_,_,_,C=>C Z h
 |.Eh,_,h,_,R,_,_=>R .aG h
 |.expr e,Z,h,N,_,_,_=>wE F e Z h λ_ h1=>N Z h1
 |.ret e,Z,h,_,R,_,_=>wE F e Z h R
 |.asg t e,Z,h,N,_,_,_=>wE F e Z h λv h1=>wA F t v Z h1 N
 |.ite c a b,Z,h,N,R,B,C=>wT F c Z h λt h1=>aE t (dY F a Z h1 N R B C) (dY F b Z h1 N R B C)
 |.kg cs f o e,Z,h,N,_,_,_=>wE F e Z h λv h1=>wE F o Z h1 λx h2=>hX x h2 λn c fs=>aE (cs.contains c) (aE (decide<|B3 fs<1000) (N Z<|h2.C9 n<|.ins c<|iT f v fs) False) False
 |.uh cs f o e,Z,h,N,_,_,_=>wE F o Z h λx h1=>hX x h1 λn c fs=>aE (cs.contains c) (aC (fs.lookup f) λv=>aC (dz v) λi=>wE F e Z h1 λy h2=>aC (dz y) λj=>hX (.ref n) h2 λ_ c' fs2=>aE (decide<|c'=c) (aE (decide<|B3 fs2<1000) (N Z<|h2.C9 n<|.ins c<|iT f (.int<|i+j) fs2) False) False) False
 |.aug sub i e,Z,h,N,_,_,_=>aC Z[i]? λo=>aC o λv=>aC (dz v) λa=>wE F e Z h λy h1=>aC (dz y) λj=>N (Z.set i<|aA<|.int<|if sub=aB then a-j else a+j) h1
 |.par is es,Z,h,N,_,_,_=>oC F es Z h λvs h1=>aE (decide<|B3 vs=B3 is) (N (Em is vs Z) h1) False
 |s,Z,h,N,R,B,C=>WB (dR F s Z) h N R B C
noncomputable def dY(F:E9):aQ->aF->AH->(aF->AH->Prop)->(AV->AH->Prop)->(aF->AH->Prop)->(aF->AH->Prop)->Prop
 |.nil,σ,h,N,_,_,_=>N σ h
 |.cons s ss,σ,h,N,R,B,C=>wS F s σ h (λσ1 h1=>dY F ss σ1 h1 N R B C) R B C
end
def ye{i:Int}{Q:Unit->AH->Prop}(e:h.ob n=aA (.l aB xs))(hi:iS (B3 xs) i=aA j)(q:Q () (h.C9 n<|.l aB<|xs.set j v)):WC (pB (.ref n) (.int i) v) h Q:=by refine B5 ?_;have a:fO h (.ref n)=aD:=El (xs:=xs) (by simp only[fI,e]);unfold We pB;simp only[a];unfold rV;simp only[e,hi];exact q
def zJ{k:aN}{Q:Unit->AH->Prop}(e:h.ob n=aA (.aP kvs))(hk:fV y=aA k)(hl:B3 kvs<sizeLine)(q:Q () (h.C9 n<|.aP<|gM kvs k v)):WC (pB (.ref n) y v) h Q:=by refine B5 ?_;unfold We pB;simp only[tF e,hk,if_pos hl];exact q
def rY(e:h.ob n=aA (.aP kvs)):qw (fO h<|.ref n)=aB:=by rw[tF e];rfl
def aC.ex{α:Type}{o:Option α}{K:α->Prop}(w:aC o K):∃v,o=aA v/\K v:=by
 cases o with
 |some v=>exact⟨v,rfl,w⟩|none=>cases w
def aE.an{A:Prop}(w:aE b A False):b=aB/\A:=by
 cases b with
 |true=>exact⟨rfl,w⟩|false=>cases w
def aE.len{c:Prop} [Decidable c] {A:Prop}(w:aE (decide c) A False):c/\A:=⟨of_decide_eq_true (aE.an w).1,(aE.an w).2⟩
def EM(h:Tx n 64=aB):n<=sizeLine:=dF (wV h) '#'
def aTh{o:Op}(w:Rf o x y h Q):We (o.g x y) h Q:=by
 cases o with
 |add=>cases x<;>first|exact C3 w|(cases y<;>first|exact C3 w|exact aTp w)
 |sub=>cases x<;>first|exact C3 w|(cases y<;>first|exact C3 w|exact aUm w)
 |mod=>cases x<;>first|exact C3 w|(cases y<;>first|exact C3 w|exact aUd (aE.len w).1 (aE.len w).2)
 |fdiv=>cases x<;>first|exact C3 w|(cases y<;>first|exact C3 w|exact aTu (aE.an w).1 (aE.an w).2)
 |mul=>cases x<;>first|exact C3 w|(cases y<;>first|exact C3 w|exact aUe (aE.an w).1 (aE.an w).2)
 |ix=>cases x<;>first|exact C3 w|(cases y<;>first|exact C3 w|(obtain⟨v,e,q⟩:=aC.ex w;exact dZ rfl e q))
 |_=>exact C3 w
def pk{o:Cp}(w:gj o x y h Q):We (o.g x y) h Q:=by
 cases o with
 |lt=>cases x<;>first|exact C3 w|(cases y<;>first|exact C3 w|exact aUa w)
 |le=>cases x<;>first|exact C3 w|(cases y<;>first|exact C3 w|exact aTz w)
 |gt=>cases x<;>first|exact C3 w|(cases y<;>first|exact C3 w|exact aTw w)
 |ge=>cases x<;>first|exact C3 w|(cases y<;>first|exact C3 w|exact aTv w)
 |eq=>cases x<;>first|exact C3 w|(cases y<;>first|exact C3 w|exact aTs w|exact aTt w)
 |ne=>cases x<;>first|exact C3 w|(cases y<;>first|exact C3 w|exact aUg w|exact aUh w)
 |kr=>cases y<;>first|exact C3 w|exact aTx w
 |isn=>cases y<;>first|exact C3 w|exact aTy w
 |_=>exact C3 w
def zG{Q:Bool->AH->Prop}(w:wG x h Q):We (dJ x) h Q:=by cases x<;>exact w
def aTg(w:MF x h Q):We (uz x) h Q:=by cases x<;>first|exact C3 w|exact w
def aTf{f:Bi}(w:Rc f xs h Q):We (f.g xs) h Q:=by
 unfold Rc at w;split at w
 .split at w
  .exact eP rfl w
  .exact C3 w
 .split at w
  .exact w
  .exact w
  .exact C3 w
 .split at w
  .exact w
  .exact C3 w
 .split at w
  .exact w
  .exact C3 w
 .split at w
  .exact qX rfl w
  .exact C3 w
 .exact C3 w
def Ao{m:M AV}{Q:Bool->AH->Prop}(w:We m h λz h1=>aC (sZ z) λt=>Q t h1):We m h λz h1=>∃t,z = .bl t/\Q t h1:=w.D2 λz h1 w=>by obtain⟨t,e,q⟩:=aC.ex w;cases z<;>cases e;exact⟨_,rfl,q⟩
theorem hX.ex{x:AV}{h:AH}{K:Nat->Nat->AL->Prop}(w:hX x h K):∃n c fs,x = .ref n/\h.ob n=aA (.ins c fs)/\K n c fs:=by
 unfold hX at w;split at w
 .obtain⟨o,e,w⟩:=aC.ex w;split at w
  .exact⟨_,_,_,rfl,e,w⟩
  .cases w
 .cases w
def ET{fs:AL}(h:(fs.lookup m).isNone=aB):fs.lookup m=aD:=by
 cases e:fs.lookup m with
 |none=>rfl|some v=>rw[e]at h;exact ff h
mutual
theorem cK(e:Ex):∀{Z:aF}{h:AH}{Q:AV->AH->Prop},wE F e Z h Q->We (aM F e Z) h Q:=by
 intro Z h Q w;cases e with
 |var i=>obtain⟨o,p,w⟩:=aC.ex w;obtain⟨v,q,w⟩:=aC.ex w;subst q;exact Ft p w
 |val v=>exact w|op o a b=>exact aVn<|(cK a w).D2 λx d w=>(cK b w).D2 λy j w=>aTh w|cmp o a b=>exact aVd<|(cK a w).D2 λx d w=>(cK b w).D2 λy j w=>pk w|neg a=>exact aVl<|(cK a w).D2 λx d w=>aTg w|not a=>exact aVm<|(cK a w).D2 λx d w=>zG w|and a b=>exact aUy<|(cK a w).D2 λx d w=>(zG w).D2 λt j w=>aE.ite (w.mp (cK b) id)|or a b=>exact aVo<|(cK a w).D2 λx d w=>(zG w).D2 λt j w=>aE.ite (w.mp id<|cK b)|ite c a b=>exact aVi<|(oD c w).D2 λt d w=>aE.ite (w.mp (cK a)<|cK b)|tup g=>exact aVw<|(mP g w).D2 λxs d w=>⟨EM (aE.an w).1,(aE.an w).2⟩|l g=>exact aVj<|(mP g w).D2 λxs d w=>⟨EM (aE.an w).1,(aE.an w).2⟩|call f g=>exact NB<|(mP g w).D2 λxs d w=>w.we|bi f g=>exact aVa<|(mP g w).D2 λxs d w=>aTf w|tL t a=>exact NG ((cK a w).D2 λx d w=>by obtain⟨s,e,w⟩:=aC.ex w;exact MT e w)
 |chain o A a b c=>exact NC<|(cK a w).D2 λx d w=>(cK b w).D2 λy j w=>Ao ((pk w).D2 λz B w=>by obtain⟨t,e,w⟩:=aC.ex w;exact B4 e<|aE.ite<|w.mp (λw=>(cK c w).D2 λu C w=>pk w) id)
 |app o a=>exact aUz<|(cK o w).D2 λx d w=>⟨(aE.an w).1,(cK a (aE.an w).2).D2 λy j w=>w.we⟩|lR cs f o=>exact ND ((cK o w).D2 λx d w=>by obtain⟨n,c,fs,rfl,e,w⟩:=hX.ex w;obtain⟨r,w⟩:=aE.an w;obtain⟨v,l,w⟩:=aC.ex w;exact MS e r l w)
 |sA m dp o g=>exact NH ((cK o w).D2 λx d w=>by obtain⟨n,c,fs,rfl,e,w⟩:=hX.ex w;obtain⟨i,l,w⟩:=aC.ex w;obtain⟨hm,w⟩:=aE.an w;exact⟨n,c,fs,i,rfl,e,l,ET hm,(mP g w).D2 λxs j w=>w.we⟩)
 |make c i D g=>exact aVk<|(mP g w).D2 λxs d w=>w.we|jv i g=>exact aVc<|(mP g w).D2 λxs d w=>w.we|uf=>exact w|dm f o g=>exact aVg<|(cK o w).D2 λx d w=>⟨(aE.an w).1,(mP g (aE.an w).2).D2 λxs j w=>w.we⟩|kc k a=>exact bM<|(cK a w).D2 λx d w=>w.we|_=>exact C3 w
theorem oD(e:Ex):∀{Z:aF}{h:AH}{Q:Bool->AH->Prop},wT F e Z h Q->We (dW F e Z) h Q:=by
 intro Z h Q w;cases e with
 |var i=>obtain⟨o,q,w⟩:=aC.ex w;obtain⟨v,r,w⟩:=aC.ex w;subst r;exact aWr<|Ft q<|zG w
 |cmp o a b=>exact aWl<|(cK a w).D2 λx d w=>(cK b w).D2 λy g w=>Ao (pk w)|not a=>exact aWp<|oD a w|and a b=>exact aWi<|(oD a w).D2 λt d w=>aE.ite (w.mp (oD b) id)|or a b=>exact aWq<|(oD a w).D2 λt d w=>aE.ite (w.mp id<|oD b)|chain o B a b c=>exact aWk<|NC<|(cK a w).D2 λx d w=>(cK b w).D2 λy g w=>Ao ((pk w).D2 λz p w=>by obtain⟨t,e,w⟩:=aC.ex w;exact B4 e<|aE.ite<|w.mp (λw=>(cK c w).D2 λu C w=>Ao (pk w)) λw=>⟨_,rfl,w⟩)
 |call f j=>exact aWj<|NB<|(mP j w).D2 λxs d w=>w.we.D2 λv g w=>zG w|tL t a=>exact aWn<|NG ((cK a w).D2 λx d w=>by obtain⟨s,e,w⟩:=aC.ex w;exact MT e w)
 |lR cs f o=>exact aWm<|ND ((cK o w).D2 λx d w=>by obtain⟨n,c,fs,rfl,e,w⟩:=hX.ex w;obtain⟨A,w⟩:=aE.an w;obtain⟨v,l,w⟩:=aC.ex w;exact MS e A l<|zG w)
 |sA m dp o j=>exact aWo<|NH ((cK o w).D2 λx d w=>by obtain⟨n,c,fs,rfl,e,w⟩:=hX.ex w;obtain⟨i,l,w⟩:=aC.ex w;obtain⟨hm,w⟩:=aE.an w;exact⟨n,c,fs,i,rfl,e,l,ET hm,(mP j w).D2 λxs g w=>w.we.D2 λv p w=>zG w⟩)
 |kc k a=>exact bM<|bM<|(cK a w).D2 λx d w=>w.we.D2 λv p w=>zG w|_=>exact C3 w
theorem mP(es:eF):∀{Z:aF}{h:AH}{Q:'%'->AH->Prop},oC F es Z h Q->We (dH F es Z) h Q:=by
 intro Z h Q w;cases es with
 |nil=>exact w|cons e es=>exact NJ<|(cK e w).D2 λx h1 w=>mP es w
end
mutual
theorem kE(t:Tg):∀{v:AV}{Z:aF}{h:AH}{K:aF->AH->Prop},wA F t v Z h K->We (mG F t v Z) h K:=by
 intro v Z h K w;cases t with
 |nm i=>exact w|tup n a=>obtain⟨xs,e,w⟩:=aC.ex w;exact aTk e (aE.len w).1 (ME a (aE.len w).2)
 |sub o i=>exact bM<|(cK o w).D2 λx b w=>bM ((cK i w).D2 λy c w=>bM (w.we.D2 λ_ d q=>q))|_=>exact C3 w
theorem ME(ts:xN):∀{vs:'%'}{Z:aF}{h:AH}{K:aF->AH->Prop},Rb F ts vs Z h K->We (xO F ts vs Z) h K:=by
 intro vs Z h K w;cases ts with
 |nil=>
  cases vs with
  |nil=>exact w|cons=>exact w.elim
 |cons t ts=>
  cases vs with
  |nil=>exact w.elim|cons v vs=>exact aTj<|(kE t w).D2 λa b w=>ME ts w
end
mutual
theorem aTi(s:Sx):∀{Z:aF}{h:AH}{N:aF->AH->Prop}{R:AV->AH->Prop}{B C:aF->AH->Prop},wS F s Z h N R B C->Wt (dR F s Z) h N R B C:=by
 intro Z h N R B C w;cases s with
 |pass=>exact w|brk=>exact w|cnt=>exact w|Eh=>exact w|expr e=>exact aWb<|cK e w|ret e=>exact aWg<|cK e w|asg t e=>exact aVy<|(cK e w).D2 λv d w=>kE t w|ite c a b=>exact aWe<|(oD c w).D2 λt d w=>aE.ite (w.mp (gR a)<|gR b)|kg cs f o e=>exact aWd ((cK e w).D2 λv d w=>(cK o w).D2 λx r w=>by obtain⟨n,c,fs,rfl,e,w⟩:=hX.ex w;obtain⟨g,w⟩:=aE.an w;obtain⟨hl,w⟩:=aE.len w;exact⟨n,c,fs,rfl,e,g,hl,w⟩)
 |uh cs f o e=>exact aWc ((cK o w).D2 λx d w=>by
   obtain⟨n,c,fs,rfl,k,w1⟩:=hX.ex w;obtain⟨g,w2⟩:=aE.an w1;obtain⟨v,l,w3⟩:=aC.ex w2;obtain⟨i,m,u⟩:=aC.ex w3;have ev:v = .int i:=by cases v<;>cases m;rfl
   refine⟨n,c,fs,i,rfl,k,g,by rw[l,ev],(cK e u).D2 λy r z=>?_⟩;obtain⟨j,p,A⟩:=aC.ex z;have D:y = .int j:=by cases y<;>cases p;rfl
   obtain⟨J,K,q,en,E,G⟩:=hX.ex A;cases en;obtain⟨H,w8⟩:=aE.len G;obtain⟨hl,w⟩:=aE.len w8;subst H;exact⟨j,q,D,E,hl,w⟩)
 |aug sub i e=>
  obtain⟨o,k,w⟩:=aC.ex w;obtain⟨v,l,w⟩:=aC.ex w;obtain⟨a,m,w⟩:=aC.ex w;subst l;cases v<;>cases m;exact aVz k ((cK e w).D2 λy d w=>by obtain⟨j,p,w⟩:=aC.ex w;cases y<;>cases p;exact⟨_,rfl,w⟩)
 |par is I=>exact aWf<|(mP I w).D2 λL d w=>aE.len w|_=>exact WB.wt w
theorem gR(ss:aQ):∀{Z:aF}{h:AH}{N:aF->AH->Prop}{R:AV->AH->Prop}{B C:aF->AH->Prop},dY F ss Z h N R B C->Wt (jY F ss Z) h N R B C:=by
 intro Z h N R B C w;cases ss with
 |nil=>exact w|cons s ss=>
  refine aWa<|(aTi s w).D2 λo h1 w=>?_;cases o with
  |nx Z=>exact gR ss w|ret v=>exact w|brk Z=>exact w|cnt Z=>exact w
end
def Fd(F:E9)(e:Ex)(Z:aF)(h:AH)(K:'+'->AH->Prop):Prop:=if DJ e=aB then K aD h else wE F e Z h λx h1=>aC (dz x) λi=>K (aA i) h1
def MG{K:'+'->AH->Prop}(w:Fd F e Z h K):We (qD e<|aM F e Z) h K:=by
 unfold Fd at w;split at w
 .rename_i hn;unfold qD;rw[if_pos hn];exact w
 .rename_i hn;have key:We (aM F e Z) h λx a=>∃i,x = .int i/\K (aA i) a:=(cK e w).D2 λx a w=>by obtain⟨i,e,q⟩:=aC.ex w;cases x<;>cases e;exact⟨_,rfl,q⟩
  exact aVp (λm=>if_neg hn) key
def rC{a lo hi:Ex}(w:wE F a Z h λx h1=>Fd F lo Z h1 λl h2=>Fd F hi Z h2 λu h3=>WC (rW x l u) h3 Q):WC (aM F (.slice a lo hi) Z) h Q:=
 B5 (aVt<|(cK a w).D2 λ_ _ w=>(MG w).D2 λ_ _ w=>(MG w).D2 λ_ _ w=>w.we)
def aVs{P:Pg}{k f np nn:Nat}{b:aQ}{args:'%'}(e:P f=aA (np,nn,b))(hl:B3 args=np)(w:dY (D1 P k) b (args.map aA++fB (nn-np) aD) h (λ_ h1=>R .aG h1) R '6' '6'):We (D1 P (k+1) f args) h R:=aVr e hl (gR b w)
section
variable {Q:eM->AH->Prop}
def S4{K:Int->Prop}(w:aC (dz x) K):∃i,x = .int i/\K i:=by obtain⟨i,e,q⟩:=aC.ex w;cases x<;>cases e;exact⟨_,rfl,q⟩
def xy{a:Ex}(w:wE F a Z h λx h1=>aC (dz x) λj=>yV j=aB/\Q (sM 0 j.toNat) h1):We (iter F (.Ej<|.cons a .nil) Z) h Q:=
 aUo (NJ<|(cK a w).D2 λx h1 w=>aVx (by obtain⟨j,rfl,w⟩:=S4 w;exact⟨j,rfl,w⟩))
def qZ{a:Ex}(w:wE F a Z h λx h1=>We (yC x) h1 Q):We (iter F (.seq a) Z) h Q:=aUp (cK a w)
end
def ko:Option '8'->Addr->Bool
 |some (aA<|.ref a),f=>a==f
 |_,_=>aJ
def Cd:Option '8'->Bool
 |some aD=>aB
 |_=>aJ
def Lp:Option '8'->String->Bool
 |some (aA<|.builtin b),s=>b==s
 |_,_=>aJ
def vh{o:Option '8'}{f:Addr}(h:ko o f=aB):o=aA (aA<|.ref f):=by
 unfold ko at h;split at h
 .simp_all
 .exact ff h
def DI{o:Option '8'}(h:Cd o=aB):o=aA aD:=by
 unfold Cd at h;split at h
 .rfl
 .exact ff h
def U4{o:Option '8'}{s:String}(h:Lp o s=aB):o=aA (aA<|.builtin s):=by
 unfold Lp at h;split at h
 .simp_all
 .exact ff h
def Au(K:bN)(C:Addr):Bool:=yx K C Str.empty&&Hi K C&&Uv K C&&Lp (oQ K (.ref C) "__setattr__") "object.__setattr__"
def Yv{K:bN}{C:Addr}(h:Au K C=aB):nR K C:=by unfold Au at h;rw[bY,bY,bY]at h;exact⟨h.1.1.1,h.1.1.2,h.1.2,U4 h.2⟩
def rH(cs:A9)(c:Nat):Addr:=(cs.lookup c).getD 0
def wh(K:bN)(p:Pr)(fN:AI):Bool:=((p.defs.take p.cz).zip fN).all (λx=>ko (wX K jE x.1.name) x.2)&&p.pU.all λx=>Cd (wX K jE x)
def FZ(K:bN)(p:Pr)(cs:A9):Bool:=p.lG.all λx=>x.2.all λc=>qw (cs.lookup c)&&Au K (rH cs c)&&Cd (oQ K (.ref<|rH cs c) x.1)
def GB(K:bN)(p:Pr)(fN:AI)(cs:A9):Bool:=p.nY.all λx=>x.2.all λy=>qw (cs.lookup y.1)&&qw (p.defs[y.2]?)&&Au K (rH cs y.1)&&ko (oQ K (.ref<|rH cs y.1) x.1) (fN.getD y.2 0)&&yw K (.ref<|fN.getD y.2 0)
def GA(K:bN)(p:Pr)(fN:AI)(cs:A9):Bool:=p.nE.all λx=>qw (cs.lookup x.2.1)&&qw (p.defs[x.2.2.1]?)&&ko (wX K jE x.1.1) (rH cs x.2.1)&&Ut K (rH cs x.2.1) &&
 ko (oQ K (.ref<|rH cs x.2.1) "__init__") (fN.getD x.2.2.1 0)&&yw K (.ref<|fN.getD x.2.2.1 0)&&uO K (.ref<|rH cs x.2.1)
def Ah{cs:A9}(h:qw (cs.lookup c)=aB):cs.lookup c=aA (rH cs c):=by
 unfold rH;cases e:cs.lookup c with
 |none=>left|some a=>rfl
def jG.len{K:bN}{fs:List fA}(h:jG K ds as fs):B3 ds=B3 as:=by induction h<;>left
def jG.one{K:bN}{nm qu:Str}{st:Stmt}{N ps:AK}{f:Addr}{oc dV kV doc pm cd ct:Value}{od an:BD}{sl:Array '8'}{fs:List fA}
  (l:K.lookup f=aA ⟨oc,od,.func (rf nm qu (uc st) (jy st) (pY st) dV kV doc pm an cd ct),sl⟩)(c:Uq K cd qu=aB)(k:uO K (.ref f)=aB)
  (b:E5 K (rf nm qu (uc st) (jy st) (pY st) dV kV doc pm an cd ct) ps [])(s:se N ps (pY st))(t:jG K ds as fs):jG K (⟨nm,qu,st,N,ps⟩::ds) (f::as) (rf nm qu (uc st) (jy st) (pY st) dV kV doc pm an cd ct::fs):=
 .cons ⟨⟨⟨_,_,_,_,_,_,_,_,_,_,rfl,l,c⟩,k⟩,b,s⟩ t
section
variable {P:cC}{w:bV}{K:bN}{h:bK}{mg:Str->A6}{p:Pr}{fN:AI}{fds:List fA}{cs:A9}{G:AZ->Addr->Prop}{f0:fA}
def GC(X:K.In h)(N:h.Ns jE mg)(D:jG K p.defs fN fds)(ok:wh K p fN=aB):∀(i:Nat) d,(p.defs.take p.cz)[i]?=aA d->mg d.name=aA (.ref<|fN.getD i 0):=λi d hd=>by
 unfold wh at ok;rw[bY]at ok;have a:=(dk.1 hd).1;rw[oH,D.len]at a;have ha:fN[i]?=aA (fN.getD i 0):=by rw[ib,eD (by lia)];rfl
 have hm:(d,fN.getD i 0)∈(p.defs.take p.cz).zip fN:=bJ (by rw[OQ];exact⟨hd,ha⟩);exact wW X N<|vh<|jX.1 ok.1 _ hm
def aBq(X:K.In h)(N:h.Ns jE mg)(ok:wh K p fN=aB):∀x,p.pU.contains x=aB->mg x=aD:=λx a=>by unfold wh at ok;rw[bY]at ok;exact W.mg_none_of X N<|DI<|jX.1 ok.2 x<|y8.1 a
def aBn(ok:FZ K p cs=aB):∀f c,p.lG.lookup f=aA c->jf K ⟨K,G,λi=>cs.lookup i⟩ c f:=λf c a k C b d=>by have:=jX.1 (jX.1 ok _<|vv a) k (y8.1 b);rw[bY,bY]at this;have e:=Ah this.1.1;have g:cs.lookup k=aA C:=d;rw[g]at e;rw[(cR e)];exact⟨Yv this.1.2,DI this.2⟩
def aBp(D:jG K p.defs fN fds)(ok:GB K p fN cs=aB):∀m dp,p.nY.lookup m=aA dp->∀c i,dp.lookup c=aA i->∃d C,p.defs[i]?=aA d/\cs.lookup c=aA C/\nR K C/\zy K C m (fN.getD i 0):=λm dp a c i b=>by have:=jX.1 (jX.1 ok _<|vv a) _ (vv b);rw[bY,bY,bY,bY]at this;obtain⟨⟨⟨⟨e,f⟩,g⟩,h⟩,j⟩:=this;obtain⟨d,hd⟩:=i'.1 f;exact⟨d,_,hd,Ah e,Yv g,vh h,j,(jG.get D (f0:=default) i d hd).fn.kp⟩
def aBo(X:K.In h)(N:h.Ns jE mg)(D:jG K p.defs fN fds)(ok:GA K p fN cs=aB)
  (dv:∀x n c i dv,p.nE.lookup (x,n)=aA (c,i,dv)->dv≠[]->∃d ds dvs,p.defs[i]?=aA d/\E5 K (fds.getD i f0) d.ps ds/\D5 dvs ds/\∀Y H,bF ⟨K,G,λi=>cs.lookup i⟩ Y H dv dvs) :
  ∀x n c i dv,p.nE.lookup (x,n)=aA (c,i,dv)->∃d C ds dvs,p.defs[i]?=aA d/\cs.lookup c=aA C/\Mk K C (fN.getD i 0)/\mg x=aA (.ref C)/\E5 K (fds.getD i f0) d.ps ds/\D5 dvs ds/\∀Y H,bF ⟨K,G,λi=>cs.lookup i⟩ Y H dv dvs:=λx n c i v e=>by
 have:=jX.1 ok _ (vv e);rw[bY,bY,bY,bY,bY,bY]at this;obtain⟨⟨⟨⟨⟨⟨f,k⟩,g⟩,l⟩,m⟩,o⟩,q⟩:=this;obtain⟨d,hd⟩:=i'.1 k;have mk:Mk K (rH cs c) (fN.getD i 0):=⟨l,vh m,o,q⟩;by_cases j:v=[]
 .subst j;exact⟨d,_,[],[],hd,Ah f,mk,wW X N (vh g),(jG.get D i d hd).bd,.nil,λ_ _=>.nil⟩
 .obtain⟨s,ds,dvs,a,b,t,r⟩:=dv x n c i v e j;exact⟨s,_,ds,dvs,a,Ah f,mk,wW X N (vh g),b,t,r⟩
end
end AM
namespace AMx
open AM.Kp renaming refl->B6
open AM.M renaming ret->B8,D0->C5,bind->C6,guard->C7
open AM.W renaming bind->B9,here->C0
open AM.WC renaming of->B5,we->C3
open AM.aC renaming of->B4
open AM.aE renaming t->B7,dc->C1,df->C4
open PySem PySem.Spec PyProof.Rows L2 AM
def top(i:Nat):Stmt:=PySem.Challenge.pw_aheadmill_k43_whole_beginning_of_the_pla.main.body.getD i (.Pass ⟨0,0,0,0⟩)
def df(n:Str)(s:Stmt):Df:=⟨n,n,s,EW s,GP s⟩
def dg(n q:Str)(s:Stmt):Df:=⟨n,q,s,EW s,GP s⟩
def cb(i j:Nat):Stmt:=(f7<|top i).getD j (.Pass ⟨0,0,0,0⟩)
def Jf:List Df:=[df "_wall" (top 0),df "word_of" (top 11),df "shared" (top 12),df "leaves_some" (top 13),df "moved_up" (top 14),df "moved_down" (top 15),df "worked" (top 16),df "wants" (top 19),df "fills" (top 20),df "group_of" (top 21),df "place_of" (top 22),df "goes" (top 23),df "fault_of" (top 24),df "brought" (top 25),df "made" (top 26),df "fetch_all" (top 28),df "fetch" (top 29),df "give_known" (top 30),df "known_word" (top 31),df "row_behind" (top 32),df "in_memory" (top 54),df "replaced" (top 55),df "behind" (top 56),df "take_off" (top 59),df "take" (top 60),df "note_memory" (top 61),df "teach" (top 62),df "was_near" (top 63),df "finish_all" (top 65),df "finish" (top 66),df "give_word" (top 67),df "start_all" (top 68),df "start" (top 69),df "take_word" (top 70),df "or_plain" (top 74),df "_law_cell_at" (top 76),df "_law_number" (top 77),df "_law_word_by" (top 78),df "_law_way_row" (top 79),df "_law_place_row" (top 80),df "_law_turn_row" (top 81),df "_law_row" (top 82),df "_law_late" (top 83),⟨"_law_program","_law_program",top 84,["_law_cells","_law_calm","_law_rows","_law_k","_law_cell"],["_law_cells","_law_calm"]⟩,df "_law_stand" (top 85),df "_law_any_row" (top 86),df "_law_digits" (top 87),df "_law_any_stand" (top 88),df "_law_worked" (top 89),df "_law_place_deed" (top 90),df "_law_deed" (top 91),df "_law_plain_run" (top 92),df "_law_alike" (top 93),df "_law_table" (top 94),df "_law_guesser" (top 95),df "_law_sizes" (top 96),df "_law_halted" (top 97),df "_law_slips" (top 98),df "law" (top 99),dg "__init__" "Tally.__init__" (cb 35 0),dg "likely" "Tally.likely" (cb 35 1),dg "move" "Tally.move" (cb 35 2),dg "__init__" "Guesser.__init__" (cb 36 0),dg "guess" "Guesser.guess" (cb 36 1),dg "heed" "Guesser.heed" (cb 36 2),dg "learn" "Guesser.learn" (cb 36 3),dg "lessons" "Guesser.lessons" (cb 36 4),dg "guess" "Always.guess" (cb 37 0),dg "__init__" "Last.__init__" (cb 38 0),dg "guess" "Last.guess" (cb 38 1),dg "heed" "Last.heed" (cb 38 2),dg "__init__" "Counts.__init__" (cb 39 0),dg "guess" "Counts.guess" (cb 39 1),dg "heed" "Counts.heed" (cb 39 2),dg "__init__" "Paths.__init__" (cb 40 0),dg "guess" "Paths.guess" (cb 40 1),dg "heed" "Paths.heed" (cb 40 2),dg "__init__" "Listed.__init__" (cb 41 0),dg "guess" "Listed.guess" (cb 41 1),dg "__init__" "Turned.__init__" (cb 42 0),dg "guess" "Turned.guess" (cb 42 1),dg "heed" "Turned.heed" (cb 42 2),dg "__init__" "Chosen.__init__" (cb 43 0),dg "guess" "Chosen.guess" (cb 43 1),dg "heed" "Chosen.heed" (cb 43 2),dg "__init__" "Benches.__init__" (cb 45 0),dg "free" "Benches.free" (cb 45 1),dg "start" "Benches.start" (cb 45 2),⟨"done","Benches.done",cb 45 3,["self","turn","tickets","ticket"],["self","turn"]⟩,dg "busy" "Benches.busy" (cb 45 4),⟨"throw","Benches.throw",cb 45 5,["self","ticket","tickets","other"],["self","ticket"]⟩,dg "__init__" "Names.__init__" (cb 47 0),dg "fill" "Names.fill" (cb 47 1),dg "giver" "Names.giver" (cb 47 2),dg "givers" "Names.givers" (cb 47 3),dg "throw" "Names.throw" (cb 47 4),dg "__init__" "Shelf.__init__" (cb 49 0),dg "store" "Shelf.store" (cb 49 1),dg "placed" "Shelf.placed" (cb 49 2),dg "bitten" "Shelf.bitten" (cb 49 3),dg "worded" "Shelf.worded" (cb 49 4),⟨"look","Shelf.look",cb 49 5,["self","ticket","place","dares","elder","other","spot","word"],["self","ticket","place","dares"]⟩,dg "loaded" "Shelf.loaded" (cb 49 6),dg "leave" "Shelf.leave" (cb 49 7),⟨"throw","Shelf.throw",cb 49 8,["self","ticket","stores","loads","other"],["self","ticket"]⟩,dg "stores" "Shelf.stores" (cb 49 9),dg "loads" "Shelf.loads" (cb 49 10),dg "__init__" "Slot.__init__" (cb 51 0),dg "ready" "Slot.ready" (cb 51 1),dg "spot" "Slot.spot" (cb 51 2),dg "slip" "Slot.slip" (cb 51 3),dg "__init__" "Window.__init__" (cb 52 0),dg "at_end" "Window.at_end" (cb 52 1),dg "slot_of" "Window.slot_of" (cb 52 2),dg "enter" "Window.enter" (cb 52 3),dg "give" "Window.give" (cb 52 4),dg "place" "Window.place" (cb 52 5),dg "throw" "Window.throw" (cb 52 6),dg "__init__" "Ledger.__init__" (cb 58 0),dg "poke" "Ledger.poke" (cb 58 1),dg "__init__" "Mill.__init__" (cb 73 0),dg "turn" "Mill.turn" (cb 73 1),dg "turns" "Mill.turns" (cb 73 2),dg "taken" "Mill.taken" (cb 73 3),dg "inside" "Mill.inside" (cb 73 4),dg "stand" "Mill.stand" (cb 73 5),dg "halted" "Mill.halted" (cb 73 6),dg "refuse_halted" "Mill.refuse_halted" (cb 73 7),dg "counts" "Mill.counts" (cb 73 8),dg "poke" "Mill.poke" (cb 73 9)]
def pr:Pr:=⟨Jf,59,[("BITS",.int 64),("BEYOND",.int 18446744073709551616),("WAYS",.tup [.str "sum",.str "less",.str "times",.str "share",.str "rest",.str "both",.str "some",.str "odd",.str "up",.str "down",.str "below",.str "same"]),("GROUPS",.pC [("times",1),("share",2),("rest",2),("load",3),("store",3),("jump",4),("go",4),("fault",4)]),("GREATEST_COUNT",.int 3)],["len","int","min","max","divmod","tuple","list","str","any","sorted","isinstance","bool","range","enumerate","zip"],[],[],[],[(("slots":Str),[18]),(("size":Str),[18]),(("wide":Str),[18]),(("ahead":Str),[18]),(("chosen":Str),[17]),(("guesser":Str),[19]),(("row":Str),[17]),(("dares":Str),[17]),(("nerve":Str),[19]),(("at":Str),[17]),(("state":Str),[19]),(("names":Str),[17,18]),(("finished":Str),[17]),(("deed":Str),[17]),(("ticket":Str),[17]),(("broken":Str),[19]),(("slips":Str),[19]),(("off":Str),[17]),(("now":Str),[18]),(("shelf":Str),[18]),(("gone":Str),[19]),(("storers":Str),[19]),(("words":Str),[17]),(("source":Str),[17]),(("put":Str),[17]),(("benches":Str),[18]),(("held":Str),[17]),(("started":Str),[17]),(("levels":Str),[5]),(("learned":Str),[6,7,8,9,10,11,12,13]),(("lately":Str),[8]),(("first":Str),[8]),(("tally":Str),[9,10,13]),(("trail":Str),[10]),(("length":Str),[10]),(("truths":Str),[11]),(("one":Str),[12,13]),(("other":Str),[13]),(("working":Str),[14]),(("table":Str),[14]),(("filled":Str),[15]),(("begun":Str),[16]),(("kept":Str),[16]),(("thrown":Str),[18]),(("tickets":Str),[18]),(("program":Str),[18]),(("ledger":Str),[20]),(("window":Str),[20])],[(("at_end":Str),[(18,112)]),(("guess":Str),[(6,63),(7,67),(8,69),(9,72),(10,75),(11,78),(12,80),(13,83)]),(("enter":Str),[(18,114)]),(("give":Str),[(18,115)]),(("slot_of":Str),[(18,113)]),(("slip":Str),[(17,110)]),(("throw":Str),[(14,90),(15,95),(16,104),(18,117)]),(("leave":Str),[(16,103)]),(("learn":Str),[(6,65),(7,65),(8,65),(9,65),(10,65),(11,65),(12,65),(13,65)]),(("done":Str),[(14,88)]),(("ready":Str),[(17,108)]),(("free":Str),[(14,86)]),(("start":Str),[(14,87)]),(("loaded":Str),[(16,102)]),(("look":Str),[(16,101)]),(("spot":Str),[(17,109)]),(("taken":Str),[(20,123)]),(("stand":Str),[(20,125)]),(("inside":Str),[(20,124)]),(("turn":Str),[(20,121)]),(("halted":Str),[(20,126)]),(("heed":Str),[(6,64),(7,64),(8,70),(9,73),(10,76),(11,64),(12,81),(13,84)]),(("likely":Str),[(5,60)]),(("move":Str),[(5,61)]),(("giver":Str),[(15,93)]),(("bitten":Str),[(16,99)]),(("store":Str),[(16,97)]),(("fill":Str),[(15,92)]),(("givers":Str),[(15,94)]),(("place":Str),[(18,116)]),(("worded":Str),[(16,100)]),(("placed":Str),[(16,98)]),(("refuse_halted":Str),[(20,127)])],[(("Guesser",0),(6,62,[])),(("Chosen",3),(13,82,[])),(("Paths",1),(10,74,[.int 4])),(("Last",0),(8,68,[.bl aJ])),(("Turned",1),(12,79,[])),(("Counts",1),(9,71,[.int 1])),(("Listed",1),(11,77,[])),(("Paths",2),(10,74,[])),(("Counts",2),(9,71,[])),(("Last",1),(8,68,[])),(("Always",0),(7,62,[])),(("Mill",7),(20,120,[])),(("Tally",2),(5,59,[])),(("Shelf",0),(16,96,[])),(("Benches",1),(14,85,[])),(("Names",0),(15,91,[])),(("Slot",5),(17,107,[])),(("Ledger",3),(19,118,[])),(("Window",5),(18,111,[]))],[],[("Guesser",[("__init__",62)])],["begun","filled","gone","kept","lately","storers","working"]⟩
def oi(n:Nat):Int.ofNat (no_index (QD n):Nat)=(QD n:Int):=rfl
def bq(i:Nat):aQ:=((pr.defs.map pr.bodyOf).getD i (0,0,.nil)).2.2
section
local macro_rules | `(!$n:num)=>`(fK (p:=λt=>t=bq $n) ⟨_,by refine(?f:(_=bq $n)->_) ?e;(case e=>conv=>rhs;reduce;dsimp only[oi]);(case f=>intro h;show type_of% h;kernel_rfl)⟩)
def YL:aQ:=!0
def YN:aQ:=!1
def YG:aQ:=!2
def XX:aQ:=!3
def YA:aQ:=!4
def XZ:aQ:=!5
def YO:aQ:=!6
def Xs:aQ:=!7
def WT:aQ:=!8
def WZ:aQ:=!9
def YD:aQ:=!10
def WY:aQ:=!11
def WQ:aQ:=!12
def Xk:aQ:=!13
def XY:aQ:=!14
def WR:aQ:=!15
def Xl:aQ:=!16
def WW:aQ:=!17
def XB:aQ:=!18
def YF:aQ:=!19
def XA:aQ:=!20
def YE:aQ:=!21
def WO:aQ:=!22
def YJ:aQ:=!23
def sv:aQ:=!24
def YB:aQ:=!25
def YK:aQ:=!26
def YM:aQ:=!27
def WU:aQ:=!28
def Xm:aQ:=!29
def WX:aQ:=!30
def YI:aQ:=!31
def YH:aQ:=!32
def sx:aQ:=!33
def YC:aQ:=!34
def XF:aQ:=!35
def XM:aQ:=!36
def XV:aQ:=!37
def XU:aQ:=!38
def XO:aQ:=!39
def Xr:aQ:=!40
def XR:aQ:=!41
def XJ:aQ:=!42
def XQ:aQ:=!43
def Xq:aQ:=!44
def XD:aQ:=!45
def XH:aQ:=!46
def XE:aQ:=!47
def XW:aQ:=!48
def XN:aQ:=!49
def XG:aQ:=!50
def Xo:aQ:=!51
def XC:aQ:=!52
def XT:aQ:=!53
def XI:aQ:=!54
def Xp:aQ:=!55
def Xn:aQ:=!56
def XS:aQ:=!57
def Am:aQ:=!58
def WD:aQ:=!59
def WE:aQ:=!60
def WG:aQ:=!61
def UE:aQ:=!62
def UG:aQ:=!63
def UH:aQ:=!64
def UI:aQ:=!65
def UJ:aQ:=!66
def TM:aQ:=!67
def UK:aQ:=!68
def UL:aQ:=!69
def UM:aQ:=!70
def UB:aQ:=!71
def UC:aQ:=!72
def UD:aQ:=!73
def VH:aQ:=!74
def VI:aQ:=!75
def VJ:aQ:=!76
def UP:aQ:=!77
def UQ:aQ:=!78
def WH:aQ:=!79
def WI:aQ:=!80
def WJ:aQ:=!81
def TY:aQ:=!82
def TZ:aQ:=!83
def UA:aQ:=!84
def TN:aQ:=!85
def TU:aQ:=!86
def TV:aQ:=!87
def TR:aQ:=!88
def TQ:aQ:=!89
def TX:aQ:=!90
def VC:aQ:=!91
def VD:aQ:=!92
def VE:aQ:=!93
def VF:aQ:=!94
def VG:aQ:=!95
def VL:aQ:=!96
def VS:aQ:=!97
def VR:aQ:=!98
def VM:aQ:=!99
def VW:aQ:=!100
def VQ:aQ:=!101
def VO:aQ:=!102
def VN:aQ:=!103
def VU:aQ:=!104
def VT:aQ:=!105
def VP:aQ:=!106
def VX:aQ:=!107
def VY:aQ:=!108
def WA:aQ:=!109
def VZ:aQ:=!110
def Xi:aQ:=!111
def WK:aQ:=!112
def WM:aQ:=!113
def Al:aQ:=!114
def Xj:aQ:=!115
def WL:aQ:=!116
def WN:aQ:=!117
def UN:aQ:=!118
def UO:aQ:=!119
def UR:aQ:=!120
def VA:aQ:=!121
def VB:aQ:=!122
def UZ:aQ:=!123
def UU:aQ:=!124
def UY:aQ:=!125
def UT:aQ:=!126
def UX:aQ:=!127
def US:aQ:=!128
def UW:aQ:=!129
end
def Lo:List (Nat×Nat×aQ):=[(1,1,YL),(1,1,YN),(2,2,YG),(1,1,XX),(2,2,YA),(2,2,XZ),(3,3,YO),(1,2,Xs),(1,2,WT),(1,1,WZ),(2,2,YD),(3,3,WY),(3,5,WQ),(3,4,Xk),(5,6,XY),(2,3,WR),(2,3,Xl),(3,6,WW),(2,2,XB),(2,2,YF),(2,2,XA),(3,3,YE),(2,6,WO),(2,4,YJ),(3,3,sv),(3,3,YB),(2,2,YK),(2,2,YM),(2,4,WU),(3,3,Xm),(3,6,WX),(2,3,YI),(3,4,YH),(3,5,sx),(1,1,YC),(2,2,XF),(2,3,XM),(1,3,XV),(3,8,XU),(4,7,XO),(5,11,Xr),(4,8,XR),(2,3,XJ),(2,5,XQ),(3,7,Xq),(2,8,XD),(3,6,XH),(3,5,XE),(3,4,XW),(4,5,XN),(4,7,XG),(3,9,Xo),(2,4,XC),(2,6,XT),(2,6,XI),(1,4,Xp),(5,5,Xn),(3,5,XS),(1,15,Am),(3,3,WD),(2,2,WE),(3,5,WG),(1,1,UE),(2,2,UG),(3,3,UH),(3,3,UI),(1,1,UJ),(2,2,TM),(2,2,UK),(2,2,UL),(3,3,UM),(3,3,UB),(2,2,UC),(3,3,UD),(3,3,VH),(2,2,VI),(3,4,VJ),(2,2,UP),(2,2,UQ),(2,2,WH),(2,2,WI),(3,3,WJ),(4,4,TY),(2,2,TZ),(3,4,UA),(2,2,TN),(2,3,TU),(4,5,TV),(2,4,TR),(1,1,TQ),(2,4,TX),(1,1,VC),(3,5,VD),(2,3,VE),(2,2,VF),(2,5,VG),(1,1,VL),(2,2,VS),(3,4,VR),(3,6,VM),(3,4,VW),(4,8,VQ),(4,4,VO),(2,2,VN),(2,5,VU),(1,1,VT),(1,1,VP),(6,6,VX),(1,1,VY),(1,1,WA),(1,2,VZ),(6,6,Xi),(1,1,WK),(2,3,WM),(1,3,Al),(4,4,Xj),(2,3,WL),(2,3,WN),(4,4,UN),(3,3,UO),(8,8,UR),(1,3,VA),(2,2,VB),(1,1,UZ),(1,1,UU),(1,1,UY),(1,1,UT),(1,1,UX),(1,1,US),(3,3,UW)]
noncomputable abbrev pg:Pg:=λi=>Lo[i]?
def U3:pr.ir=pg:=by
 have e:pr.defs.map pr.bodyOf=Lo:=by kernel_rfl
 funext i
 show(pr.defs[i]?).map pr.bodyOf=Lo[i]?;rw[<- e,eQ]
end AMx
open AM
namespace AMx
open AM.Kp renaming refl->B6
open AM.M renaming ret->B8,D0->C5,bind->C6,guard->C7
open AM.W renaming bind->B9,here->C0
open AM.WC renaming of->B5,we->C3
open AM.aC renaming of->B4
open AM.aE renaming t->B7,dc->C1,df->C4
open PySem PySem.Spec PyProof.Rows L2 AM
variable {B B' a aY b e now p pc am tk u v w w1 x y:Int}{C N:aF->AH->Prop}{F:AM.E9}{G G':Nat->Nat->Int->Prop}{K':Nat->AS}{L d gu i j n n1 n2 nb np nr nv:Nat}{Q R V1:AV->AH->Prop}{S:AU}{b1 b2 bb calm dr:Bool}{fnd held:AV}{h h' h2:AH}{ks:AK}{kvs m1:List (aN×AV)}{ls mem ns ts ws:AW}{o o':bA}{r row:aH}{rs:List aH}{ss:aQ}{tb:A7}{w0:AG}{xs:AY}{Z:aF}
def aS{k f nn:Nat}{b:aQ}{args:'%'}(e:pg f=aA (np,nn,b))(hl:B3 args=np)(w:dY (D1 pg k) b (args.map aA++fB (nn-np) aD) h (λ_ h1=>R .aG h1) R '6' '6'):WC (D1 pg (k+1) f args) h R:=B5 (aVs e hl w)
def oI:'+'->AV
 |none=>.aG
 |some i=>.int i
structure iI where
 tk:Int
 pc:Int
 row:aH
 bI:List '+'
 ch:Int
 dr:Bool
 src:'+'
 eG:'+'
 dd:AV
 C9:Int
 st:'+'
 fi:'+'
 of:'+'
def iI.fs(s:iI)(w:Nat):AL:=[("ticket",.int s.tk),("at",.int s.pc),("row",s.row.av),("names",.tup (s.bI.map oI)),("words",.ref w),("chosen",.int s.ch),("dares",.bl s.dr),("source",oI s.src),("held",oI s.eG),("deed",s.dd),("put",.int s.C9),("started",oI s.st),("finished",oI s.fi),("off",oI s.of)]
def iI.iD(s:iI):AV:=.tup [.int s.tk,.int s.pc,.tup (s.bI.map oI),oI s.src,s.dd,.tup [.int s.C9,oI s.st,oI s.fi,oI s.of]]
def Px{k w:Nat}{s:iI}(o:h.ob n=aA (.ins 17<|s.fs w))(q:R s.iD h):WC (D1 pg (k+1) 110 [.ref n]) h R:=by
 refine aS rfl rfl ?_;repeat refine B4 o ?_
 exact q
section
variable {k:Nat}
def Fq{z:Int}(q:R (.int<|z%18446744073709551616) h):WC (D1 pg (k+1) 1 [.int z]) h R:=aS rfl rfl q
def EK{z:Int}(z0:0<=z)(q:R (.bl<|decide<|z<64) h):WC (D1 pg (k+1) 3 [.int z]) h R:=aS rfl rfl (aE.dt z0 q)
def aSy(a0:0<=a)(a1:a<18446744073709551616)(b0:0<=b)(q:R (.int<|dQ.wk a b .up) h):WC (D1 pg (k+2) 4 [.int a,.int b]) h R:=by
 refine aS rfl rfl<|EK b0<|C1 (λc=>?_) λc=>?_
 .unfold dQ.wk at q;simp only[FO c]at q;exact B5<|Rk (Nq a0 a1 b0 (by lia))<|Fq q
 .unfold dQ.wk at q;simp only[aSx c]at q;exact q
def r9(a0:0<=a)(a1:a<18446744073709551616)(b0:0<=b)(q:R (.int<|dQ.wk a b .down) h):WC (D1 pg (k+2) 5 [.int a,.int b]) h R:=by
 refine aS rfl rfl<|EK b0<|C1 (λc=>?_) λc=>?_
 .unfold dQ.wk at q;simp only[FO c]at q;exact B5<|MX b0 q
 .unfold dQ.wk at q;simp only[q9 c a0 a1]at q;exact q
def KA(b0:0<b)(b1:b<18446744073709551616)(q:R (.tup [.int (a / b),.int (a%b)]) h):WC (D1 pg (k+1) 2 [.int a,.int b]) h R:=
 aS rfl rfl (C4 (by lia)<|B5<|MP (Zs b0 b1) q)
def aUx{w:dQ}(a0:0<=a)(a1:a<18446744073709551616)(b0:0<=b)(b1:b<18446744073709551616)(hz:¬(w.sr=aB/\b=0))(q:R (.int<|w.wk a b) h):WC (D1 pg (k+3) 6 [.str w.nm,.int a,.int b]) h R:=by
 refine aS rfl rfl ?_;cases w with
 |sum=>exact Fq q|less=>exact Fq q|times=>exact B7 (by unfold sD;rw[decide_eq_true (show a.natAbs<2 ^ 64 by lia)];rfl)<|Fq q|share=>exact KA (by rcases Gd b0 with e|e;exact e;exact absurd ⟨rfl,e.symm⟩ hz) b1 q|rest=>exact KA (by rcases Gd b0 with e|e;exact e;exact absurd ⟨rfl,e.symm⟩ hz) b1 q|both=>exact B5<|ML q|some_=>exact B5<|MM q|odd=>exact B5<|Ff q|up=>exact aSy a0 a1 b0 q|down=>exact r9 a0 a1 b0 q|below=>exact C1 (λc=>by rw[show dQ.wk a b .below=1 from if_pos c]at q;exact q) λc=>by rw[show dQ.wk a b .below=0 from if_neg c]at q;exact q
 |same=>exact C1 (λc=>by rw[show dQ.wk a b .same=1 from if_pos c]at q;exact q) λc=>by rw[show dQ.wk a b .same=0 from if_neg c]at q;exact q
def Mu(w:dQ):¬(w.nm=("load":cT)):=by cases w<;>decide
def Mx(w:dQ):¬(w.nm=("store":cT)):=by cases w<;>decide
def aBe(w:dQ):¬(w.nm=("set":cT)):=by cases w<;>decide
def aBd(w:dQ):¬(w.nm=("move":cT)):=by cases w<;>decide
def Di(w:dQ):¬(w.nm=("jump":cT)):=by cases w<;>decide
def FV(w:dQ):¬(w.nm=("go":cT)):=by cases w<;>decide
def FT(w:dQ):¬(w.nm=("fault":cT)):=by cases w<;>decide
def Fo{x y:AV}(e:fI h y=aA xs)(f:(jK x&&xs.all jK)=aB)(n:hV x xs=aB)(q:V1 (.bl aB) h):WC (Cp.g .kj x y) h V1:=B5 (Rj e f<|n.symm▸q)
def ya{x y:AV}(e:fI h y=aA xs)(f:(jK x&&xs.all jK)=aB)(n:hV x xs=aJ)(q:V1 (.bl aJ) h):WC (Cp.g .kj x y) h V1:=B5 (Rj e f<|n.symm▸q)
abbrev qP:'%':=[.str "sum",.str "less",.str "times",.str "share",.str "rest",.str "both",.str "some",.str "odd",.str "up",.str "down",.str "below",.str "same"]
def Mt(w:dQ):hV (.str w.nm) qP=aB:=by cases w<;>rfl
def Nf:hV (.str "set") qP=aJ:=by decide +kernel
def Nd:hV (.str "move") qP=aJ:=by decide +kernel
def Nc:hV (.str "load") qP=aJ:=by decide +kernel
def Ng:hV (.str "store") qP=aJ:=by decide +kernel
def Nb:hV (.str "jump") qP=aJ:=by decide +kernel
def Na:hV (.str "go") qP=aJ:=by decide +kernel
def Mz:hV (.str "fault") qP=aJ:=by decide +kernel
def bH:aQ->aQ
 |.cons _ t=>t
 |.nil=>.nil
def gk{z:Str}{l:'%'}(e:cZ l 0=aA (.str z))(n:hV (.str z) qP=aJ)(q:dY (D1 pg k) (bH<|bH Xs) [aA (.tup l),aA (.str z)] h (λ_ h1=>R .aG h1) R '6' '6'):WC (D1 pg (k+1) 7 [.tup l]) h R:=aS rfl rfl (B4 e<|ya rfl rfl n q)
def MJ(q:R (.tup<|r.cQ.map .int) h):WC (D1 pg (k+1) 7 [r.av]) h R:=by
 cases r with
 |way w x y z=>exact aS rfl rfl<|Fo rfl rfl (Mt w) q|set=>exact gk rfl Nf q|move=>exact gk rfl Nd q|load=>exact gk rfl Nc q|store=>exact gk rfl Ng q|dA=>exact gk rfl Nb q|go=>exact gk rfl Na q|fault=>exact gk rfl Mz q
abbrev KI:'%':=[.str "set",.str "move",.str "load"]
def Ka{z:Str}{v:AV}{l:'%'}(e:cZ l 0=aA (.str z))(n:hV (.str z) qP=aJ)(m:hV (.str z) KI=aB)(d:cZ l 1=aA v)(q:R v h):WC (D1 pg (k+1) 8 [.tup l]) h R:=aS rfl rfl (B4 e<|ya rfl rfl n<|Fo rfl rfl m<|B4 rfl<|B4 d q)
def Bl{z:Str}{l:'%'}(e:cZ l 0=aA (.str z))(n:hV (.str z) qP=aJ)(m:hV (.str z) KI=aJ)(q:R .aG h):WC (D1 pg (k+1) 8 [.tup l]) h R:=aS rfl rfl (B4 e<|ya rfl rfl n<|ya rfl rfl m q)
def Kb(q:R r.fl h):WC (D1 pg (k+1) 8 [r.av]) h R:=by
 cases r with
 |way w x y z=>exact aS rfl rfl<|Fo rfl rfl (Mt w) q|set=>exact Ka rfl Nf rfl rfl q|move=>exact Ka rfl Nd rfl rfl q|load=>exact Ka rfl Nc rfl rfl q|store=>exact Bl rfl Ng rfl q|dA=>exact Bl rfl Nb rfl q|go=>exact Bl rfl Na rfl q|fault=>exact Bl rfl Mz rfl q
end
section
variable {k:Nat}
def Np(hl:B3 ws=r.nw)(q:R (r.pl ws) h):WC (D1 pg (k+1) 10 [r.av,.tup (ws.map .int)]) h R:=by
 refine aS rfl rfl ?_;cases r with
 |way w x y z=>exact C4 (Mu w)<|C4 (Mx w) q|load x y s=>obtain⟨a,rfl⟩:=vr hl;exact q|store x y s=>obtain⟨a,b,rfl⟩:=vt hl;exact q|_=>exact q
def P4(q:R (.int r.jL) h):WC (D1 pg (k+1) 9 [r.av]) h R:=by
 refine aS rfl rfl<|B5<|aVh<|cK _ ⟨_,rfl,mP _ ?_⟩;cases r with
 |way w x y z=>exact⟨_,_,rfl,by cases w<;>exact q⟩|_=>exact⟨_,_,rfl,q⟩
def T2(q:R (.bl<|decide<|0<=p/\p<B3 mem) h):WC (D1 pg (k+1) 20 [.int p,.tup (mem.map .int)]) h R:=by
 refine aS rfl rfl<|C1 (λa=>?_) λa=>?_
 .have e:decide (0<=p/\p<(B3 mem:Int))=decide (p<(B3 (mem.map AV.int):Int)):=by rw[aU];exact decide_eq_decide.2 ⟨λz=>z.2,λz=>⟨a,z⟩⟩
  rw[e]at q;exact q
 .rw[decide_eq_false λz=>a z.1]at q;exact q
end
section
variable {k:Nat}
def Mw{w:dQ}(h:w.sr=aJ):¬(w.nm=("share":cT)):=by cases w<;>first|decide|cases h
def Mv{w:dQ}(h:w.sr=aJ):¬(w.nm=("rest":cT)):=by cases w<;>first|decide|cases h
def Qd(w:dQ):w = .share\/w = .rest\/w.sr=aJ:=by grind [dQ.sr]
def K2(hl:B3 ws=r.nw)(q:R ((r.ft ws am).getD .aG) h):WC (D1 pg (k+2) 12 [r.av,.tup (ws.map .int),.int am]) h R:=by
 have c:∀{R:AV->AH->Prop},R (r.pl ws) h->WC (D1 pg (k+1) 10 [r.av,.tup (ws.map .int)]) h R:=λq=>Np hl q;refine aS rfl rfl ?_;cases r with
 |load x y s=>
  obtain⟨a,rfl⟩:=vr hl;refine c<|C1 (λh0=>aE.nd (λd=>?_) λd=>?_) λh0=>?_
  .rw[show aH.ft [a] am (.load x y s)=aA _ from if_neg λz=>d z.2]at q;exact q
  .rw[show aH.ft [a] am (.load x y s)=aD from if_pos ⟨h0,d⟩]at q;exact q
  .rw[show aH.ft [a] am (.load x y s)=aA _ from if_neg λz=>h0 z.1]at q;exact q
 |store x y s=>
  obtain⟨a,b,rfl⟩:=vt hl;refine c<|C1 (λh0=>aE.nd (λd=>?_) λd=>?_) λh0=>?_
  .rw[show aH.ft [a,b] am (.store x y s)=aA _ from if_neg λz=>d z.2]at q;exact q
  .rw[show aH.ft [a,b] am (.store x y s)=aD from if_pos ⟨h0,d⟩]at q;exact q
  .rw[show aH.ft [a,b] am (.store x y s)=aA _ from if_neg λz=>h0 z.1]at q;exact q
 |way w x y z=>
  obtain⟨a,b,rfl⟩:=vt hl;refine C4 (FT w) ?_;rcases Qd w with rfl|rfl|hs
  .refine C1 (λhc=>?_) λhc=>c ?_
   .rw[show aH.ft [a,b] am (.way .share x y z)=aA _ from if_pos hc]at q;exact q
   .rw[show aH.ft [a,b] am (.way .share x y z)=aD from if_neg hc]at q;exact q
  .refine C1 (λhc=>?_) λhc=>c ?_
   .rw[show aH.ft [a,b] am (.way .rest x y z)=aA _ from if_pos hc]at q;exact q
   .rw[show aH.ft [a,b] am (.way .rest x y z)=aD from if_neg hc]at q;exact q
  .simp only[aH.ft,hs,cond]at q;exact C4 (Mw hs)<|C4 (Mv hs)<|c q
 |fault v=>exact q|_=>exact c q
end
section
variable {k:Nat}
def CW(hl:∀x t,r = .dA x t->B3 ws=1)(q:R (.int<|r.gs a ws) h):WC (D1 pg (k+1) 11 [r.av,.int a,.tup (ws.map .int)]) h R:=by
 refine aS rfl rfl ?_;cases r with
 |way w x y z=>exact C4 (FV w)<|C4 (Di w) q|dA x t=>obtain⟨b,rfl⟩:=vr (hl _ _ rfl);exact aE.nd (λc=>by rw[show aH.gs a [b] (.dA x t)=t from if_pos c]at q;exact q) λc=>by rw[show aH.gs a [b] (.dA x t)=a+1 from if_neg λz=>z c]at q;exact q
 |_=>exact q
end
section
variable {k:Nat}
def bh{z:Str}{l:'%'}{u v:AV}(e:cZ l 0=aA (.str z))(n:hV (.str z) qP=aJ)(q:dY (D1 pg k) (bH<|bH Xk) [aA (.tup l),aA u,aA v,aA (.str z)] h (λ_ h1=>R .aG h1) R '6' '6'):WC (D1 pg (k+1) 13 [.tup l,u,v]) h R:=aS rfl rfl (B4 e<|ya rfl rfl n q)
def ZE(hl:B3 ws=r.nw)(hw:jS ws)(hf:∀w x y z,r = .way w x y z->¬(w.sr=aB/\cell ws 1=0))(q:R (r.br ws held) h):WC (D1 pg (k+4) 13 [r.av,.tup (ws.map .int),held]) h R:=by
 cases r with
 |way w x y z=>obtain⟨a,b,rfl⟩:=vt hl;have c:=hw a (.head _);have d:=hw b (.tail _<|.head _);exact aS rfl rfl<|Fo rfl rfl (Mt w)<|aUx c.1 c.2 d.1 d.2 (hf w x y z rfl) q
 |set=>exact bh rfl Nf q|move=>obtain⟨a,rfl⟩:=vr hl;exact bh rfl Nd q|load=>exact bh rfl Nc q|store=>obtain⟨a,b,rfl⟩:=vt hl;exact bh rfl Ng q|dA=>exact bh rfl Nb q|go=>exact bh rfl Na q|fault=>exact bh rfl Mz q
def N2{w:dQ}{z:Int}(h:(aH.way w x y z).ft ws am=aD):¬(w.sr=aB/\cell ws 1=0):=by
 rintro ⟨a,b⟩
 simp[aH.ft,a,b]at h
def uk{f:AV}(e:r.ft ws am=aA f):∃xs,f = .tup xs:=by
 cases r<;>simp only[aH.ft]at e<;>first
  | (cases e;done)
  | (cases e;exact⟨_,rfl⟩)
  | (split at e<;>cases e<;>exact⟨_,rfl⟩)
  |skip
 rename_i w x y z;cases a:w.sr with
 |true=>grind
 |false=>rw[a]at e;exact bU e
def Z4(hl:B3 ws=r.nw)(hw:jS ws)(q:R (r.fZ a ws am held) h):WC (D1 pg (k+5) 14 [r.av,.int a,.tup (ws.map .int),.int am,held]) h R:=by
 refine aS rfl rfl<|K2 hl ?_;unfold aH.fZ at q;cases e:r.ft ws am with
 |some f=>rw[e]at q;obtain⟨xs,rfl⟩:=uk e;exact q
 |none=>rw[e]at q;exact Kb<|Np hl<|ZE hl hw (λw x y z b=>by subst b;exact N2 e)<|CW (λx t b=>by subst b;exact hl) q
end
section
variable {k:Nat}
def aPo{w:Nat}{s:iI}(o:h.ob n=aA (.ins 17<|s.fs w))(ow:h.ob w=aA (.l aB<|ws.map AV.int))(hl:B3 ws=s.row.nw)(q:R (s.row.pl ws) h):WC (D1 pg (k+2) 109 [.ref n]) h R:=by refine aS rfl rfl ?_;exact B4 o<|B4 o<|B5<|qX (bR ow)<|Np (k:=k) hl q
def aOd{w g:Nat}{s:iI}(o:h.ob n=aA (.ins 17<|s.fs w))(hj:∀x t,s.row ≠ .dA x t)(q:R (.int<|s.row.gs s.pc []) h):WC (D1 pg (k+2) 19 [.ref n,.ref g]) h R:=by
 obtain⟨tk,pc,r,bI,ch,dr,src,eG,dd,pt,st,fi,of⟩:=s;have a:WC (D1 pg (k+1) 11 [r.av,.int pc,.tup []]) h R:=CW (ws:=[]) (λx t e=>absurd e (hj x t)) q;refine aS rfl rfl ?_;refine B4 o ?_;cases r with
 |dA x t=>exact absurd rfl<|hj x t|way ww x y z=>refine C4 (Di ww) ?_;refine B4 o ?_;refine B4 o ?_;exact a|_=>refine B4 o ?_;refine B4 o ?_;exact a
def TJ{fs:List (cT×AV)}(o:h.ob n=aA (.ins 18 fs))(e1:fs.lookup ("ahead":cT)=aA (AV.int a))(e2:fs.lookup ("program":cT)=aA (AV.ref np))(op:h.ob np=aA (.l aB xs))(q:R (.bl<|decide<|(B3 xs:Int)<=a) h):WC (D1 pg (k+1) 112 [.ref n]) h R:=by refine aS rfl rfl ?_;refine B4 o ?_;refine B4 e1 ?_;refine B4 o ?_;exact B4 e2<|B5<|eP (bR op) q
end
section
variable {k:Nat}
def aPc{pt:Int}{bI:List '+'}(o:h.ob n=aA (.ins 17 []))(hn:n<h.nx)(hl:B3 bI<=2)
  (q:∀h',h'.nx=h.nx+2->h'.ob n=aA (.ins 17<|iI.fs ⟨tk,pc,r,bI,pc+1,aJ,aD,aD,.aG,pt,aD,aD,aD⟩<|h.nx+1)->h'.ob (h.nx+1)=aA (.l aB<|fB (B3 bI) .aG)->(∀m,m≠n->m<h.nx->h'.ob m=h.ob m)->R .aG h') :
  WC (D1 pg (k+1) 107 [.ref n,.int tk,.int pc,r.av,.tup (bI.map oI),.int pt]) h R:=by
 have l1:(0:Int)<=(B3 (bI.map oI):Int):=by omega
 have l2:[AV.aG].length*(B3 (bI.map oI):Int).toNat<=sizeLine:=by
  have e:(sizeLine:Nat) > 1000:=by decide
  rw[aU];simp only[zQ,Tc,uL];omega
 have l3:(B3 (bI.map oI):Int)<2 ^ 63:=by rw[aU];omega
 refine aS rfl rfl ?_;refine B4 o ?_;refine B4 bO ?_;refine B4 bO ?_;refine B4 bO ?_;refine B5<|MW bC l1 l2 l3 ?_;refine B4 rfl ?_;refine B4 rfl ?_;refine B4 (Eq.trans (dO<|show n≠_ from λe=>?a)<|Eq.trans (dO<|show n≠_ from λe=>?b) bO) ?_
 case a=>have:n=h.nx+1:=e;omega
 case b=>have:n=h.nx:=e;omega
 refine B4 bO ?_;refine B4 bO ?_;refine B4 bO ?_;refine B4 bO ?_;refine B4 bO ?_;refine B4 bO ?_;refine B4 bO ?_;refine B4 bO ?_;refine B4 bO ?_;refine q _ rfl bO ?_ λm hm hx=>?_
 .repeat rw[bD (show h.nx+1≠n by omega)]
  refine bC.trans ?_;rw[aU,uL,OL]
 .repeat rw[bD hm]
  rw[dO (show m≠_ from λe=>by have:m=h.nx+1:=e;omega),dO (show m≠_ from λe=>by have:m=h.nx:=e;omega)];repeat rw[bD hm]
end
section
variable {k:Nat}
def M3(vs:List '+'):(vs.map oI).all jK=aB:=by rw[List.all_map,NX];intro v _;cases v<;>rfl
def aBc(vs:List '+'):(!hV .aG (vs.map oI))=vs.all qw:=by
 induction vs with
 |nil=>rfl|cons v vs a=>have e:hV .aG ((v::vs).map oI)=(Jr (oI v) .aG||hV .aG (vs.map oI)):=rfl;rw[e,Bool.not_or,a];cases v<;>rfl
def aNp{w:Nat}{s:iI}{vs:List '+'}(o:h.ob n=aA (.ins 17<|s.fs w))(ow:h.ob w=aA (.l aB<|vs.map oI))(q:R (.bl<|vs.all qw) h):WC (D1 pg (k+1) 108 [.ref n]) h R:=by rw[<- aBc]at q;refine aS rfl rfl ?_;exact B4 o<|B5<|aUi (bR ow) (by rw[M3];rfl) q
end
section
variable {k:Nat}
def U7{i:Int}(hn:0<n):∃j,iS n (i%(n:Int))=aA j/\j<n:=by have h0:0<=i%n:=jA _ (by lia);have a:i%n<n:=jT _ (by lia);refine⟨(i%n).toNat,?_,by lia⟩;unfold iS;simp only[h0,a,if_true]
structure xM(h:AH)(t l:Nat)(ls:AW):Prop where
 ob:h.ob t=aA (.ins 5 [("levels",.ref l)])
 lv:h.ob l=aA (.l aB<|ls.map AV.int)
 pos:0<B3 ls
def xM.len{t l:Nat}(T:xM h t l ls):(0:Int)<(B3 (ls.map AV.int):Int):=by rw[aU];have:=T.pos;omega
def xM.at{t l:Nat}(T:xM h t l ls){i:Int}:cZ (ls.map AV.int) (i%(B3 (ls.map AV.int):Int))=aA (.int<|cell ls<|i%(B3 (ls.map AV.int):Int)):=
 bc (jA _ (by have:=T.len;lia)) (jT _ T.len)
def Mb{t l:Nat}{i:Int}(T:xM h t l ls)(q:∀b,R (.bl b) h):WC (D1 pg (k+1) 60 [.ref t,.int i]) h R:=by refine aS rfl rfl ?_;refine B4 T.ob<|B4 T.ob ?_;refine B5<|eP (bR T.lv) ?_;refine aE.dt T.len ?_;exact B5<|dZ (bR T.lv) T.at<|B5<|Rj rfl rfl<|q _
def Mm{t l:Nat}{i:Int}{b:Bool}(T:xM h t l ls)(q:∀FA:'0',0<B3 FA->R .aG (h.C9 l<|.l aB<|FA.map AV.int)):WC (D1 pg (k+1) 61 [.ref t,.int i,.bl b]) h R:=by
 obtain⟨j,a,_⟩:=U7 (i:=i) (n:=B3 (ls.map AV.int)) (by rw[aU];exact T.pos);have fin:∀c:Int,WC (pB (.ref l) (.int<|i%(B3 (ls.map AV.int):Int))<|.int c) h λ_ d=>R .aG d:=λc=>by refine ye T.lv a ?_;have:=q (ls.set j c) (by rw[sT];exact T.pos);left
 refine aS rfl rfl ?_;refine B4 T.ob ?_;refine B5<|eP (bR T.lv) ?_;refine aE.dt T.len ?_;refine B4 T.ob ?_;refine B5<|dZ (bR T.lv) T.at ?_;refine aE.by (λe=>?_) λe=>?_
 .exact B4 T.ob<|fin _
 .exact B4 T.ob<|fin _
end
section
variable {K:Nat->AS}{c c':Nat}
inductive Go(K:Nat->AS)(c:Nat):Nat->bA->Prop
 |ta {l:Nat} (e:K l=aA 1):Go K c 0 (.ins 5 [("levels",.ref l)])
 |lv {ls:AW} (p:0<B3 ls):Go K c 1 (.l aB<|ls.map AV.int)
 |tr {bs:BC}:Go K c 2 (.l aB<|bs.map AV.bl)
 |dc {kvs:List (aN×AV)} (hb:∀j v,bT kvs j=aA v->∃b,v = .bl b) (hc:B3 kvs<=c):Go K c 3 (.aP kvs)
 |pl {d:Nat}{i:Int}:Go K c (d+4) (.ins 6 [("learned",.int i)])
 |al {d:Nat}{i:Int}:Go K c (d+4) (.ins 7 [("learned",.int i)])
 |la {d m:Nat}{i:Int}{f:Bool} (e:K m=aA 3):Go K c (d+4) (.ins 8 [("learned",.int i),("first",.bl f),("lately",.ref m)])
 |co {d t:Nat}{i:Int} (e:K t=aA 0):Go K c (d+4) (.ins 9 [("learned",.int i),("tally",.ref t)])
 |pa {d t:Nat}{i g x:Int} (e:K t=aA 0) (g0:0<=g/\g<16) (x0:0<=x/\x<65536):Go K c (d+4) (.ins 10 [("learned",.int i),("tally",.ref t),("length",.int g),("trail",.int x)])
 |li {d l:Nat}{i:Int} (e:K l=aA 2):Go K c (d+4) (.ins 11 [("learned",.int i),("truths",.ref l)])
 |tu {d m:Nat}{i:Int} (e:K m=aA (d+4)):Go K c (d+5) (.ins 12 [("learned",.int i),("one",.ref m)])
 |ch {d m m' t:Nat}{i:Int} (e:K m=aA (d+4)) (e':K m'=aA (d+4)) (f:K t=aA 0):Go K c (d+5) (.ins 13 [("learned",.int i),("one",.ref m),("other",.ref m'),("tally",.ref t)])
def Go.up{t:Nat}(z:Go K c t o)(hc':c<=c')(hk:∀m s,K m=aA s->K' m=aA s):Go K' c' t o:=by
 cases z with
 |ta e=>exact .ta<|hk _ _ e|lv p=>exact .lv p|tr=>exact .tr|dc hb a=>exact .dc hb<|dF a hc'|pl=>exact .pl|al=>exact .al|la e=>exact .la<|hk _ _ e|co e=>exact .co<|hk _ _ e|pa e b x0=>exact .pa (hk _ _ e) b x0|li e=>exact .li<|hk _ _ e|tu e=>exact .tu<|hk _ _ e|ch e d f=>exact .ch (hk _ _ e) (hk _ _ d)<|hk _ _ f
noncomputable abbrev Be:AQ:=[(6,63),(7,67),(8,69),(9,72),(10,75),(11,78),(12,80),(13,83)]
noncomputable abbrev s9:AQ:=[(6,64),(7,64),(8,70),(9,73),(10,76),(11,64),(12,81),(13,84)]
noncomputable abbrev Bf:AQ:=[(6,65),(7,65),(8,65),(9,65),(10,65),(11,65),(12,65),(13,65)]
inductive Wg(K:Nat->AS)(c t:Nat):bA->Prop
 |mk {cl:Nat}{i:Int}{fs:AL} (a:[6,7,8,9,10,11,12,13].contains cl=aB) (b:Bf.lookup cl=aA 65) (e:(sU ("learn":Str)<|("learned",.int i)::fs).isNone=aB) (l:decide (B3 ((("learned",.int i):Str×AV)::fs)<1000)=aB) (g:∀j,Go K c t (.ins cl<|("learned",.int j)::fs)):Wg K c t (.ins cl<|("learned",.int i)::fs)
def Go.top(z:Go K c (d+4) o):Wg K c (d+4) o:=by
 cases z with
 |pl=>exact⟨rfl,rfl,rfl,rfl,λ_=>.pl⟩|al=>exact⟨rfl,rfl,rfl,rfl,λ_=>.al⟩|la e=>exact⟨rfl,rfl,rfl,rfl,λ_=>.la e⟩|co e=>exact⟨rfl,rfl,rfl,rfl,λ_=>.co e⟩|pa e a x0=>exact⟨rfl,rfl,rfl,rfl,λ_=>.pa e a x0⟩|li e=>exact⟨rfl,rfl,rfl,rfl,λ_=>.li e⟩|tu e=>exact⟨rfl,rfl,rfl,rfl,λ_=>.tu e⟩|ch e b f=>exact⟨rfl,rfl,rfl,rfl,λ_=>.ch e b f⟩
def TH(K:Nat->AS)(c:Nat)(h:AH):Prop:=∀n t,K n=aA t->∃o,h.ob n=aA o/\Go K c t o
def Kl(K:Nat->AS)(h:AH):Prop:=∀n t,K n=aA t->n<h.nx
def Kl.up(l:Kl K h)(e:h.nx<=h'.nx):Kl K h':=λn t z=>bE (l n t z) e
def Kl.no(l:Kl K h)(e:h.nx<=n):K n=aD:=by
 cases z:K n with
 |none=>rfl|some t=>exact absurd (l n t z)<|y2.2 e
def TH.kp(T:TH K c h)(l:Kl K h)(k:Kp h h'):TH K c h':=λn t e=>(T n t e).imp λ_ z=>⟨k.get (l n t e) z.1,z.2⟩
def TH.le(T:TH K c h)(z:c<=c'):TH K c' h:=λn t e=>(T n t e).imp λ_ y=>⟨y.1,y.2.up z λ_ _ w=>w⟩
theorem TH.C9(T:TH K c h){n t:Nat}{o:bA}(e:K n=aA t)(z:Go K c t o):TH K c (h.C9 n o):=λm u f=>by
 by_cases hm:m=n
 .subst hm;cases e.symm.trans f;exact⟨_,bO,z⟩
 .rw[bD hm];exact T m u f
def TH.ou(T:TH K c h){t:Nat}(e:K t=aA 0):∃l ls,xM h t l ls/\K l=aA 1:=by
 obtain⟨_,o,z⟩:=T t 0 e;cases z with
 |ta f=>
  obtain⟨_,p,z⟩:=T _ 1 f;cases z with
  |lv w=>exact⟨_,_,⟨o,p,w⟩,f⟩
def SO{m t u:Nat}(e:K n=aA t)(f:K m=aA u)(z:t≠u):n≠m:=λw=>z (cR<|(w▸e).symm.trans f)
structure Kk(K:Nat->AS)(b:Nat)(h h':AH):Prop where
 nx:h.nx<=h'.nx
 ob:∀m,m<h.nx->(∀t,K m=aA t->b<t)->h'.ob m=h.ob m
def Kk.of{b:Nat}(k:Kp h h'):Kk K b h h':=⟨k.nx,λm hm _=>k.ob m hm⟩
theorem Kk.trans{b:Nat}{x y z:AH}(p:Kk K b x y)(q:Kk K b y z):Kk K b x z:=⟨dF p.nx q.nx,λm hm z=>(q.ob m (bE hm p.nx) z).trans (p.ob m hm z)⟩
theorem Kk.C9{b n t:Nat}{o:bA}{x y:AH}(p:Kk K b x y)(e:K n=aA t)(z:t<=b):Kk K b x (y.C9 n o):=⟨p.nx,λm hm w=>(bD λv=>absurd (w t (by left)) (y2.2 z)).trans (p.ob m hm w)⟩
def Kk.le{b b':Nat}(p:Kk K b h h')(z:b<=b'):Kk K b' h h':=⟨p.nx,λm hm w=>p.ob m hm λt e=>ie z (w t e)⟩
def TB{bs:BC}{i:Int}(h0:0<=i)(h1:i<B3 (bs.map AV.bl)):∃b,cZ (bs.map AV.bl) i=aA (.bl b):=by simp_all[cZ,iS,h0,h1]
def Wh(L n:Nat)(a:Int)(h:AH)(R:AV->AH->Prop):Prop:=hX (.ref n) h λn c fs=>aC (Be.lookup c) λi=>aE (fs.lookup ("guess":cT)).isNone (WC (D1 pg L i [.ref n,.int a]) h R) False
def Hx(K:Nat->AS)(d:Nat):Prop:=∀{h:AH}{c n:Nat},TH K c h->Kl K h->K n=aA (d+4)->∀{L:Nat}{a:Int}{R:AV->AH->Prop},d+2<=L->(∀b h',Kp h h'->R (.bl b) h')->Wh L n a h R
def DB(IH:∀d',d'+1=d->Hx K d'):Hx K d:=by
 intro h c n T l e L a R w q;obtain⟨L,rfl⟩:∃p,L=p+2:=⟨L-2,by lia⟩;obtain⟨_,o,z⟩:=T _ _ e;cases z with
 |pl=>exact B4 o<|aS rfl rfl<|q _ _ B6|al=>exact B4 o<|aS rfl rfl<|q _ _ B6|la f=>
  obtain⟨_,od,z⟩:=T _ _ f;cases z with
  |dc hb x=>
   rename_i k;refine B4 o<|aS rfl rfl<|B4 o<|B7 rfl<|B4 rfl<|B7 (rY od)<|B4 o<|B7 rfl<|B4 rfl<|B5<|MO od rfl ?_;cases e:bT k (.inl a) with
   |none=>exact q _ _ B6|some v=>obtain⟨b,rfl⟩:=hb _ _ e;exact q _ _ B6
 |co f=>obtain⟨_,_,t,_⟩:=T.ou f;exact B4 o<|aS rfl rfl<|B4 o<|B7 rfl<|B4 rfl<|B4 t.ob<|Mb t λb=>q _ _ B6
 |pa f y x0=>obtain⟨_,_,t,_⟩:=T.ou f;exact B4 o<|aS rfl rfl<|B4 o<|B7 rfl<|B4 rfl<|B4 t.ob<|B4 rfl<|B7 rfl<|B4 o<|B7 rfl<|B4 rfl<|B5<|Ff<|Mb t λb=>q _ _ B6
 |li f=>
  obtain⟨_,ol,z⟩:=T _ _ f;cases z with
  |tr=>
   rename_i i bs;have m:=(dO (o:=.l aB [])<|bZ<|l _ _ e).trans o;have j:=(dO (o:=.l aB [])<|bZ<|l _ _ f).trans ol;refine B4 o<|aS rfl rfl<|B4 o<|B7 rfl<|B4 rfl<|B5<|MR rfl (Bg j bC) ?_;cases bs with
   |nil=>exact q _ _ B6.C8|cons r bs=>
    have hl:0<(B3 ((r::bs).map AV.bl):Int):=by grind
    obtain⟨b,s⟩:=TB (jA i (by lia)) (jT i hl);exact B4 rfl<|C4 (by simp)<|B4 m<|B7 rfl<|B4 rfl<|B4 m<|B7 rfl<|B4 rfl<|B4 m<|B7 rfl<|B4 rfl<|B5<|eP (bR j)<|aE.dt hl<|B5<|dZ (bR j) s<|q _ _ B6.C8
 |tu f=>exact B4 o<|aS rfl rfl<|B4 o<|B7 rfl<|B4 rfl<|IH _ rfl T l f '!' λb A kp=>q _ _ kp|ch f u g=>
  obtain⟨_,_,t,_⟩:=T.ou g;refine B4 o<|aS rfl rfl<|B4 o<|B7 rfl<|B4 rfl<|B4 t.ob<|Mb t λb=>aE.by (λ_=>?_) λ_=>?_
  .exact B4 o<|B7 rfl<|B4 rfl<|IH _ rfl T l u '!' q
  .exact B4 o<|B7 rfl<|B4 rfl<|IH _ rfl T l f '!' q
theorem va:∀d,Hx K d
 |0=>DB λa e=>by lia
 |d+1=>DB λa e=>by exact va a
def zv(L n:Nat)(a:Int)(b:Bool)(h:AH)(R:AV->AH->Prop):Prop:=hX (.ref n) h λn c fs=>aC (s9.lookup c) λi=>aE (fs.lookup ("heed":cT)).isNone (WC (D1 pg L i [.ref n,.int a,.bl b]) h R) False
def Ib(L n:Nat)(a:Int)(b:Bool)(h:AH)(R:AV->AH->Prop):Prop:=hX (.ref n) h λn c fs=>aC (Bf.lookup c) λi=>aE (fs.lookup ("learn":cT)).isNone (WC (D1 pg L i [.ref n,.int a,.bl b]) h R) False
def sf(K:Nat->AS)(W:Nat->Nat->Int->Bool->AH->(AV->AH->Prop)->Prop)(d l:Nat):Prop:=∀{h:AH}{c n:Nat},TH K c h->Kl K h->K n=aA (d+4)->c+2 ^ d<=2000->∀{L:Nat}{a:Int}{b:Bool}{R:AV->AH->Prop},l<=L->(∀h',Kk K (d+4) h h'->TH K (c+2 ^ d) h'->R .aG h')->W L n a b h R
def vq(H:sf K zv d (2*d+2)):sf K Ib d (2*d+3):=by
 intro h c n T l e g L a b R t q;obtain⟨L,rfl⟩:∃i,L=i+1:=⟨L-1,by lia⟩;obtain⟨_,o,z⟩:=T _ _ e;cases z.top with
 |mk _ j k _ _=>
  refine B4 o<|B4 j<|B7 k<|aS rfl rfl<|H T l e g (by lia) λu m f=>?_;obtain⟨_,o,z⟩:=f _ _ e;cases z.top with
  |mk p _ _ r s=>exact B4 o<|B7 p<|B4 rfl<|B4 rfl<|B4 o<|aE.dt rfl<|B7 r<|q _ (m.C9 e<|aW _)<|f.C9 e<|s _
def LW(d:Nat):1<=2 ^ d:=Nat.one_le_two_pow
def DC(IH:∀d',d'+1=d->sf K zv d' (2*d'+2)):sf K zv d (2*d+2):=by
 intro h c n T l e Z L a b R hL q;have E4:=lB;have hp:=LW d;have w:∀{C},Kk K (d+4) h C->TH K c C->R .aG C:=λr T=>q _ r (T.le<|oJ _ _);obtain⟨L,rfl⟩:∃Q,L=Q+2:=⟨L-2,by lia⟩;obtain⟨_,o,z⟩:=T _ _ e;cases z with
 |pl=>exact B4 o<|aS rfl rfl<|w (Kk.of B6) T|al=>exact B4 o<|aS rfl rfl<|w (Kk.of B6) T|li f=>exact B4 o<|aS rfl rfl<|w (Kk.of B6) T|la f=>
  obtain⟨_,od,z⟩:=T _ _ f;cases z with
  |dc hb E=>
   refine B4 o<|aS rfl rfl<|B4 o<|B7 rfl<|B4 rfl<|zJ (k:=.inl a) od rfl (by lia) ?_;refine q _ ((Kk.of B6).C9 f (by lia))<|(T.le<|oJ _ _).C9 f (.dc (λj v e=>?_)<|dF HP<|Nat.add_le_add E<|LW d);rw[aTa]at e;split at e
   .grind
   .grind
 |co f=>obtain⟨_,_,t,g⟩:=T.ou f;exact B4 o<|aS rfl rfl<|B4 o<|B7 rfl<|B4 rfl<|B4 t.ob<|Mm (k:=L) t λp z=>w ((Kk.of B6).C9 g (by lia)) (T.C9 g<|.lv z)
 |pa f G x0=>
  rename_i g x;obtain⟨H,_,t,u⟩:=T.ou f;refine B4 o<|aS rfl rfl<|B4 o<|B7 rfl<|B4 rfl<|B4 t.ob<|B4 rfl<|B7 rfl<|B4 o<|B7 rfl<|B4 rfl<|B5<|Ff<|Mm (k:=L) t λp z=>?_;have A:=(bD (o:=.l aB (p.map AV.int))<|SO e u (by lia)).trans o;have I:=T.C9 u (.lv z);have r:Kk K (d+4) h (h.C9 H<|.l aB<|p.map AV.int):=(Kk.of B6).C9 u (by lia);generalize h.C9 H (.l aB<|p.map AV.int)=J at A I r ⊢;have p0:(0:Int)<1*2 ^ g.toNat:=by rw[Int.one_mul];exact NU '#'
  have S:(1:Int)*2 ^ g.toNat<=65536:=by
   have:g.toNat<=16:=by lia
   have:=Nat.pow_le_pow_right (n:=2) '#' this;have e:((2 ^ g.toNat:Nat):Int)=2 ^ g.toNat:=by grind
   lia
  refine B4 A<|B7 rfl<|B4 rfl<|B7 (ly (by lia) (by lia)) ?_;have fin:∀y:Int,WC (Op.g .shl (.int 1)<|.int g) J λz M=>Rf .mod (.int y) z M λv s=>hX (.ref n) s λn c fs=>aE ([10].contains c) (aE (decide<|B3 fs<1000) (R .aG<|s.C9 n<|.ins c<|iT "trail" v fs) False) False:=λy=>by refine B5<|Rk (Nq '#' '#' G.1 (by lia))<|aE.dt p0<|B4 A ?_;exact w (r.C9 e<|aW _)<|I.C9 e<|.pa f G ⟨jA _ (by lia),zM (jT _ p0) S⟩
  cases b with
  |true=>exact B4 A<|B7 rfl<|B4 rfl<|fin _|false=>exact B4 A<|B7 rfl<|B4 rfl<|fin _
 |tu f=>rename_i d' _ _;refine B4 o<|aS rfl rfl<|B4 o<|B7 rfl<|B4 rfl ?_;exact vq (IH d' rfl) T l f '!' (by lia) λC r U=>q _ (r.le (by lia)) (U.le (by lia))
 |ch f N g=>
  rename_i d' m _ _ _;have p2:2 ^ (d'+1)=2 ^ d'+2 ^ d':=by omega
  refine B4 o<|aS rfl rfl<|B4 o<|B7 rfl<|B4 rfl<|va d' T l N '!' λb1 J k1=>?_;refine B4 (k1.get (l _ _ e) o)<|B7 rfl<|B4 rfl<|va d' (T.kp l k1) (l.up k1.nx) f '!' λb2 M k2=>?_;have k2:=k1.trans k2;have D7:∀{s},Kk K (d'+4) h s->s.ob n=h.ob n:=λr=>r.ob n (l _ _ e) λt z=>by grind
  have F:=T.kp l k2;obtain⟨_,_,t,u⟩:=F.ou g;have rest:∀s,Kk K (d'+4) h s->TH K c s->Ib (L+1) m a b s λ_ D=>hX (.ref n) D λ_ c fs=>aE ([13].contains c) (aC (fs.lookup ("other":cT)) λv=>hX v D λn c fs=>aC (Bf.lookup c) λi=>aE (fs.lookup ("learn":cT)).isNone (WC (D1 pg (L+1) i [.ref n,.int a,.bl b]) D λ_ O=>R .aG O) False) False:=λs r V=>by refine vq (IH d' rfl) V (l.up r.nx) f '!' '!' λD B W=>?_;have B:=r.trans B;refine B4 ((D7 B).trans o)<|B7 rfl<|B4 rfl<|vq (IH d' rfl) W (l.up B.nx) N '!' '!' λO X Y=>?_;exact q _ ((B.trans X).le '!')<|Y.le '!'
  refine B4 rfl<|B4 rfl<|B5<|aUf rfl<|B4 rfl<|aE.nd (λ_=>?_) λ_=>?_
  .refine B4 (k2.get (l _ _ e) o)<|B7 rfl<|B4 rfl<|B4 t.ob<|B4 rfl<|B7 rfl<|B4 rfl<|B4 rfl<|B5<|Fi rfl<|Mm (k:=L) t λp z=>?_;have P:=(Kk.of (K:=K) (b:=d'+4) k2).C9 (o:=.l aB (p.map AV.int)) u '!';exact B4 ((D7 P).trans o)<|B7 rfl<|B4 rfl<|rest _ P<|F.C9 u<|.lv z
  .exact B4 (k2.get (l _ _ e) o)<|B7 rfl<|B4 rfl<|rest _ (Kk.of k2) F
theorem Ld:∀d,sf K zv d (2*d+2)
 |0=>DC λa e=>by omega
 |d+1=>DC λa e=>by
  obtain rfl:a=d:=by lia
  exact Ld a
end
structure Kx(S:AU)(h h':AH):Prop where
 nx:h.nx<=h'.nx
 ob:∀m,m<h.nx->m∉S->h'.ob m=h.ob m
def Kx.refl:Kx S h h:=⟨aW _,λ_ _ _=>rfl⟩
theorem Kx.trans{S:AU}{a b c:AH}(x:Kx S a b)(y:Kx S b c):Kx S a c:=⟨dF x.nx y.nx,λm hm d=>(y.ob m (bE hm x.nx) d).trans (x.ob m hm d)⟩
theorem Kx.C9{S:AU}{a b:AH}{n:Nat}{o:bA}(x:Kx S a b)(hn:n∈S):Kx S a (b.C9 n o):=⟨x.nx,λm hm c=>(bD λe=>c (by left)).trans (x.ob m hm c)⟩
def Kx.of{a b:AH}(x:Kp a b):Kx S a b:=⟨x.nx,λm hm _=>x.ob m hm⟩
def Kx.sub{S':AU}{a b:AH}(x:Kx S a b)(hs:∀m∈S,m∈S'):Kx S' a b:=⟨x.nx,λm hm hn=>x.ob m hm λz=>hn (hs m z)⟩
section
variable {k:Nat}{K:Nat->AS}{c:Nat}
def rG(L c i:Nat)(as:'%')(h:AH)(Q:AV->AH->Prop):Prop:=WC (D1 pg L i<|.ref h.nx::as) (h.C8<|.ins c []) λv h2=>v = .aG/\Q (.ref h.nx) h2
def xt(K:Nat->AS)(n t:Nat):Nat->AS:=λm=>if m=n then aA t else K m
def wF{t m:Nat}(e:m≠n):xt K n t m=K m:=if_neg e
def LY{t:Nat}(e:K n=aD)(m s:Nat)(z:K m=aA s):xt K n t m=aA s:=(wF λw=>by rw[w,e]at z;exact bU z).trans z
def TH.add{t:Nat}(T:TH K c h)(e:K n=aD)(ho:h.ob n=aA o)(z:Go K c t o):TH (xt K n t) c h:=λm u f=>by
 by_cases hm:m=n
 .subst hm;cases(if_pos rfl).symm.trans f;exact⟨o,ho,z.up (aW _) (LY e)⟩
 .exact(T m u<|(wF hm).symm.trans f).imp λ_ y=>⟨y.1,y.2.up (aW _) (LY e)⟩
def Kl.add{t:Nat}(l:Kl K h)(e:n<h.nx):Kl (xt K n t) h:=λm u f=>by
 by_cases hm:m=n
 .simp_all
 .exact l m u<|(wF hm).symm.trans f
def Gn(K:Nat->AS)(c:Nat)(h:AH)(d:Nat)(Q:AV->AH->Prop):Prop:=∀h' n K',Kp h h'->TH K' c h'->Kl K' h'->(∀m,m<h.nx->K' m=K m)->K' n=aA (d+4)->Q (.ref n) h'
def TH.putN(T:TH K c h)(e:K n=aD):TH K c (h.C9 n o):=λm u f=>by rw[bD λw=>by grind];exact T m u f
def Gn.at(q:Gn K c h d R)(l:Kl K h)(kp:Kp h h')(T:TH K' c h')(l':Kl K' h')(a:∀m,m<=h.nx->K' m=K m)(lt:h.nx<h'.nx)(z:Go K' c (d+4) o):R (.ref h.nx) (h'.C9 h.nx o):=
 have e:=(a _<|aW _).trans (l.no<|aW _);q _ _ (xt K' h.nx<|d+4) (kp.C9<|aW _) ((T.putN e).add e bO z) (l'.add lt) (λm hm=>(wF<|bZ hm).trans (a m<|kG hm)) (if_pos rfl)
def yH{c:Nat}(o:h.ob n=aA (.ins c []))(hc:[6,7,8,9,10,11,12,13].contains c=aB)(q:R .aG (h.C9 n<|.ins c [("learned",.int 0)])):WC (D1 pg (k+1) 62 [.ref n]) h R:=aS rfl rfl (B4 o<|B7 hc q)
def aFs(T:TH K c h)(l:Kl K h)(q:Gn K c h d R):rG (k+1) 6 62 [] h R:=
 yH bC rfl ⟨rfl,q.at l B6.C8 (T.kp l B6.C8) (l.up<|iG _) (λ_ _=>rfl) (cD _) .pl⟩
def SX(T:TH K c h)(l:Kl K h)(q:Gn K c h d R):rG (k+1) 7 62 [] h R:=
 yH bC rfl ⟨rfl,q.at l B6.C8 (T.kp l B6.C8) (l.up<|iG _) (λ_ _=>rfl) (cD _) .al⟩
def EB{f:Bool}(T:TH K c h)(l:Kl K h)(q:Gn K c h d R):rG (k+2) 8 68 [.bl f] h R:=by have a:h.nx≠h.nx+1:=bZ (cD _);refine aS rfl rfl<|yH bC rfl<|B4 bO<|B4 ((dO a).trans bO) ⟨rfl,?_⟩;have kp:=((((B6 (h:=h)).C8 (o:=.ins 8 [])).C9 (o:=.ins 8 [("learned",.int 0)]) (aW _)).C9 (o:=.ins 8 [("learned",.int 0),("first",.bl f)]) (aW _)).C8 (o:=.aP []);exact q.at l kp ((T.kp l kp).add (l.no<|iG _) bC (.dc (λj v e=>nomatch e)<|jD _)) ((l.up kp.nx).add (cD _)) (λm hm=>wF (bZ<|PU hm)) (kH<|cD _)<|.la<|if_pos rfl
def aSe{t:Nat}{m:Int}(o:h.ob t=aA (.ins 5 []))(ht:t<h.nx)(m0:0<m)(m1:m<=64)(q:∀h' l ls,xM h' t l ls->h.nx<=l->l<h'.nx->(∀j,j<h.nx->j≠t->h'.ob j=h.ob j)->R .aG h'):WC (D1 pg (k+1) 59 [.ref t,.int m,.int b]) h R:=by have E4:=lB;refine aS rfl rfl<|B5<|MW bC (by lia) (by simp;lia) (by lia) ?_;have k1:Kp h ((h.C8<|.l aB [.int b]).C8 (.l aB (fB m.toNat [AV.int b]).flatten)):=B6.C8.C8;have a:((h.C8<|.l aB [.int b]).C8 (.l aB (fB m.toNat [AV.int b]).flatten)).ob (h.C8<|.l aB [.int b]).nx=aA (.l aB (fB m.toNat [AV.int b]).flatten):=bC;have c:(h.C8<|.l aB [.int b]).nx<((h.C8<|.l aB [.int b]).C8 (.l aB (fB m.toNat [AV.int b]).flatten)).nx:=cD _;have d:h.nx<=(h.C8<|.l aB [.int b]).nx:=iG _;generalize (h.C8<|.l aB [.int b]).C8 (.l aB (fB m.toNat [AV.int b]).flatten)=f at k1 a c ⊢;generalize (h.C8<|.l aB [.int b]).nx=l at a c d ⊢;rw[OL]at a;refine B4 rfl<|B4 rfl<|B4 (k1.get ht o) ?_;refine q _ l (fB m.toNat b) ⟨bO,(bD (by lia)).trans (a.trans (by rw[OV])),by grind⟩ d c λj e hn=>(bD hn).trans (k1.ob j e)
def Qm{h1:AH}{m:Int}(T:TH K c h)(l:Kl K h)(kp:Kp h h1)(lt:h.nx<h1.nx)(m0:0<m)(m1:m<=64)(q:∀h2 K',Kp h h2->h1.nx<=h2.nx->h2.ob h.nx=h1.ob h.nx->TH K' c h2->Kl K' h2->(∀m,m<=h.nx->K' m=K m)->K' h1.nx=aA 0->Q .aG h2) :
  WC (D1 pg (k+1) 59 [.ref h1.nx,.int m,.int b]) (h1.C8<|.ins 5 []) Q:=
 aSe bC (cD _) m0 m1 λh2 d ls t l1 l2 kx=>by have l1:h1.nx+1<=d:=l1;have e:=λj a=>(kx j (kH a)<|bZ a).trans (dO<|bZ a);have k2:Kp h h2:=⟨by grind,λj a=>(e j (by lia)).trans (kp.ob j a)⟩;have f:=(T.kp l k2).add (l.no (by lia)) t.lv (.lv t.pos);exact q h2 _ k2 '!' (e _ lt) (f.add ((wF<|bZ ‹_›).trans (l.no<|kG ‹_›)) t.ob<|.ta<|if_pos rfl) (((l.up k2.nx).add l2).add '!') (λm hm=>(wF '!').trans (wF '!'))<|if_pos rfl
def Zb{m:Int}(T:TH K c h)(l:Kl K h)(m0:0<m)(m1:m<=64)(q:Gn K c h d R):rG (k+2) 9 71 [.int m,.int b] h R:=
 aS rfl rfl (yH bC rfl<|Qm T l (B6.C8.C9<|aW _) (cD _) m0 m1 λi j k2 a e f l2 a2 g=>⟨rfl,B4 rfl (B4 rfl<|B4 (e.trans bO) ⟨rfl,q.at l k2 f l2 a2 a (.co g)⟩)⟩)
def GS{m g:Int}(T:TH K c h)(l:Kl K h)(m0:0<m)(m1:m<=64)(g0:0<=g/\g<16)(q:Gn K c h d R):rG (k+2) 10 74 [.int m,.int g] h R:=
 aS rfl rfl (yH bC rfl (Qm T l (B6.C8.C9<|aW _) (cD _) m0 m1 λn a k2 b f i l2 a2 j=>⟨rfl,B4 rfl (B4 rfl (B4 (f.trans bO) (B4 bO (B4 bO ⟨rfl,
  have e:=(a2 _<|aW _).trans (l.no<|aW _);q.at l ((k2.C9<|aW _).C9 (aW _)) ((i.putN e).putN e) l2 a2 b (.pa j g0 ⟨gZ _,'#'⟩)⟩))))⟩))
def Y1{l':Nat}{bs:BC}(T:TH K c h)(l:Kl K h)(ol:h.ob l'=aA (.l aB<|bs.map AV.bl))(hl:l'<h.nx)(q:Gn K c h d R):rG (k+2) 11 77 [.ref l'] h R:=by refine aS rfl rfl<|yH bC rfl ?_;have k1:Kp h ((h.C8<|.ins 11 []).C9 h.nx (.ins 11 [("learned",.int 0)])):=B6.C8.C9 (aW _);refine B5<|pv (bR<|k1.get hl ol)<|B4 rfl<|B4 rfl<|B4 ((dO<|bZ<|cD _).trans bO) ⟨rfl,?_⟩;exact q.at l k1.C8 ((T.kp l k1.C8).add (l.no<|iG _) bC .tr) ((l.up k1.C8.nx).add (cD _)) (λm hm=>wF (bZ<|PU hm)) (kH<|cD _)<|.li<|if_pos rfl
def aSu(T:TH K c h)(l:Kl K h)(e:K n1=aA (d+4))(q:Gn K c h (d+1) R):rG (k+2) 12 79 [.ref n1] h R:=
 have kp:=B6.C8.C9 (aW _);aS rfl rfl (yH bC rfl<|B4 bO ⟨rfl,q.at l kp (T.kp l kp) (l.up kp.nx) (λ_ _=>rfl) (cD _) (.tu e)⟩)
def e9{m:Int}(T:TH K c h)(l:Kl K h)(m0:0<m)(m1:m<=64)(e:K n1=aA (d+4))(e':K n2=aA (d+4))(q:Gn K c h (d+1) R):rG (k+2) 13 82 [.ref n1,.ref n2,.int m] h R:=
 aS rfl rfl (yH bC rfl<|B4 bO<|B4 bO<|Qm T l (((B6.C8.C9<|aW _).C9 (aW _)).C9 (aW _)) (cD _) m0 m1 λg i k2 n2 a b l2 a2 f=>⟨rfl,B4 rfl (B4 rfl<|B4 (a.trans bO) ⟨rfl,q.at l k2 b l2 a2 n2 (.ch ((a2 _<|kG<|l _ _ e).trans e) ((a2 _<|kG<|l _ _ e').trans e') f)⟩)⟩)
end
section
variable {k:Nat}
def tW{c i:Int}(h0:0<=i)(h1:i<1000)(q:∀z,0<=z->z<2147483647->R (.int z) h):WC (D1 pg (k+1) 36 [.int c,.int i]) h R:=by refine aS rfl rfl<|B5<|xx rfl<|B7 (ly '!' '!')<|B7 (aAv (by lia) (by lia)) ?_;exact B7 (ly '!' '!')<|B7 (ly '!' '!')<|q _ (jA _ '#')<|kY (jT _ '#') '#'
end
section
variable {k:Nat}
def pE(e:h.ob n=aA (.l aB xs)):ec h (.ref n)=aB:=by simp only[ec,e]
def Bb{c N:Int}(b0:1<B)(dB:pA B=aB)(hN:N=(n:Int))(hn:n<=64)(q:∀(ws:'0') z m h',Kp h h'->h'.ob m=aA (.l aB<|(ws++[z]).map AV.int)->h.nx<=m->m<h'.nx->(∀w∈ws,0<=w/\w<B)->B3 ws=n->R (.ref m) h'):WC (D1 pg (k+1) 46 [.int c,.int B,.int N]) h R:=by
 have E4:=lB;refine aS rfl rfl<|WB.of ?_;with_reducible refine mQ<|xy ?_
 refine⟨xg (by lia) (by lia),?_⟩;have k1:Kp h (h.C8<|.l aB []):=B6.C8;have e:(h.C8<|.l aB []).ob h.nx=aA (.l aB<|([]:'0').map AV.int):=bC;have l1:h.nx<(h.C8<|.l aB []).nx:=cD _;rw[show N.toNat=n by lia];refine Kh (λj a h'=>∃ws c v4 b,a=[aA (.int c),aA (.int B),aA (.int N),aA (.ref h.nx),v4,b]/\Kp h h'/\h.nx<h'.nx/\h'.ob h.nx=aA (.l aB<|ws.map AV.int)/\(∀w∈ws,0<=w/\w<B)/\B3 ws=j) (by rw[eN];omega) ⟨[],c,_,_,rfl,k1,l1,e,(nofun),rfl⟩ ?_ ?_
 .rintro j a h' f ⟨ws,c,v4,b,rfl,kp,nx,ol,hw,hl⟩
  refine kE _<|gR _<|B5<|MP dB<|B7 (pE ol)<|B5<|sP ol (by rw[aU];omega) ?_;refine⟨ws++[c%B],_,_,_,rfl,kp.C9 (aW _),nx,eR▸bO,λw d=>?_,by rw[dU,hl];rfl⟩;rcases eh.1 d with z|z
  .exact hw w z
  .rw[a'.1 z];exact⟨jA _ '!',jT _ '!'⟩
 .rintro a h' ⟨ws,c,v4,b,rfl,kp,nx,ol,hw,hl⟩
  have k2:Kp h' (h'.C8<|.l aB [.int c]):=B6.C8;refine B5<|Fg (k2.get nx ol) bC (by rw[aU];show _+1<=_;omega) ?_;rw[show ws.map AV.int++[.int c]=(ws++[c]).map AV.int by rw[eR];rfl];exact q ws c _ _ (kp.trans k2).C8 bC (dF kp.nx<|iG _) (cD _) hw hl
end
section
def wd(v:Int):Prop:=0<=v/\v<18446744073709551616
def cV(b:Int):Prop:=0<=b/\b<8
def nZ:aH->Prop
 |.way _ x y z=>cV x/\cV y/\cV z
 |.set x v=>cV x/\wd v
 |.move x y=>cV x/\cV y
 |.load x y _=>cV x/\cV y
 |.store x y _=>cV x/\cV y
 |.dA x t=>cV x/\0<=t
 |.go t=>0<=t
 |.fault _=>True
variable {k:Nat}
def aH.tg:aH->Int
 |.dA _ t=>t | .go t=>t
 |_=>0
def sH(M:Int)(r:aH):Prop:=nZ r/\aH.tg r<=M
def ji(h:AH)(M:Int)(R:AV->AH->Prop):Prop:=∀r h',Kp h h'->sH M r->R r.av h'
def oZ{i:Int}(h0:0<=i)(hn:h.ob n=aA (.l bb<|ns.map AV.int))(q:∀z,R (.int z) h):WC (D1 pg (k+1) 35 [.ref n,.int i]) h R:=by exact aS rfl rfl<|B5<|eP (bR hn)<|C1 (λa=>B5 (dZ (bR hn) (bc h0 a)<|q _)) λ_=>q _
def yb{z:Int}(z0:0<=z)(z1:z<2147483647)(q:∀w,wd w->R (.int w) h):WC (D1 pg (k+1) 37 [.int z]) h R:=by
 have e:(2:Int) ^ Int.toNat 64=18446744073709551616:=rfl;refine aS rfl rfl<|C1 (λ_=>B7 (ly (by lia) (by lia)) (B5<|xx rfl ?_)) λ_=>C1 (λ_=>B5 (xx rfl ?_)) λ_=>q _ ⟨by lia,by lia⟩
 .exact(q _ ⟨jA _ '#',jT _ '#'⟩)
 .rw[e];exact q _ ⟨by lia,by lia⟩
def wH:'%':=[.str "sum",.str "less",.str "times",.str "share",.str "rest",.str "both",.str "some",.str "odd",.str "up",.str "down",.str "below",.str "same"]
def zH:List dQ:=[.sum,.less,.times,.share,.rest,.both,.some_,.odd,.up,.down,.below,.same]
def aTn{i:Int}(h0:0<=i)(h1:i<12):∃w:dQ,cZ wH i=aA (.str w.nm):=by
 obtain⟨n,rfl⟩:=zL h0;have e:wH=zH.map λw=>.str w.nm:=rfl;have hl:n<B3 zH:=by show n<12;lia
 unfold cZ;rw[e,Ci (by left)];exact⟨zH[n],by left⟩
def aTo{z m:Int}{b:Bool}(hx:cV x)(hy:cV y)(hz:cV z)(m0:0<=m)(q:ji h m R):WC (D1 pg (k+1) 38 [.tup [.int x,.int y,.int z],.int p,.bl b]) h R:=by
 obtain⟨w,ew⟩:=aTn (i:=p%12) '!' '!';refine aS rfl rfl<|B5<|dZ (bR (xs:=wH) bC) ew ?_;have fin:∀x' z',cV x'->cV z'->R (.tup [.str w.nm,.int x',.int y,.int z']) (h.C8<|.l aB wH):=λx' z' h1 h2=>q (.way w x' y z') _ B6.C8 ⟨⟨h1,hy,h2⟩,m0⟩;have b4:cV (x%4):=by unfold cV;omega
 have b2:cV (6+x%2):=by unfold cV;omega
 have b5:cV 5:=⟨'#','#'⟩;have b6:cV 4:=⟨'#','#'⟩;cases b with
 |false=>exact fin _ _ hx hz|true=>refine C1 (λ_=>fin _ _ b4 b5) λ_=>C1 (λ_=>fin _ _ b2 b5) λ_=>C1 (λ_=>fin _ _ b6 hz) λ_=>C1 (λ_=>fin _ _ b6 hz) λ_=>fin _ _ b4 hz
def HF{kd:Bool}{z m:Int}{b:Bool}(hx:cV x)(hy:cV y)(m0:0<=m)(q:ji h m R):WC (D1 pg (k+1) 39 [.str (if kd then "load" else "store"),.tup [.int x,.int y,.int z],.int p,.bl b]) h R:=by
 have b2:cV (6+y%2):=by unfold cV;omega
 have b5:cV (x%5):=by unfold cV;omega
 refine aS rfl rfl ?_;cases b with
 |true=>
  cases kd with
  |true=>exact q (.load _ _ _) _ B6 ⟨⟨b5,b2⟩,m0⟩|false=>exact q (.store _ _ _) _ B6 ⟨⟨hx,b2⟩,m0⟩
 |false=>
  cases kd with
  |true=>exact C1 (λ_=>q (.load _ _ _) _ B6 ⟨⟨hx,hy⟩,m0⟩) λ_=>q (.load _ _ _) _ B6 ⟨⟨hx,hy⟩,m0⟩|false=>exact C1 (λ_=>q (.store _ _ _) _ B6 ⟨⟨hx,hy⟩,m0⟩) λ_=>q (.store _ _ _) _ B6 ⟨⟨hx,hy⟩,m0⟩
noncomputable abbrev aSl:aQ:=bH (bH<|bH<|bH Xr)
def Nm{i:Int}(h0:0<=i)(h1:i<2)(q:∀v,v=a\/v=b->Q (.int v) h)(e:h.ob n=aA (.l aB [.int a,.int b])):WC (Op.g .ix (.ref n)<|.int i) h Q:=by
 have:i=0\/i=1:=by lia
 rcases this with rfl|rfl
 .exact B5<|dZ (bR e) rfl<|q _<|.inl rfl
 .exact B5<|dZ (bR e) rfl<|q _<|.inr rfl
def aSq{kd z i m:Int}{b:Bool}(hx:cV x)(hy:cV y)(hz:cV z)(hi:0<=i)(m0:0<=m)(p0:0<=p)(p1:p<2147483647)(q:ji h m R):WC (D1 pg (k+2) 40 [.int kd,.tup [.int x,.int y,.int z],.int p,.tup [.int i,.int m],.bl b]) h R:=by
 have b5:cV (x%5):=by unfold cV;omega
 have tail:∀t:Int,0<=t->t<=m->dY (D1 pg<|k+1) aSl [aA (.int kd),aA (.tup [.int x,.int y,.int z]),aA (.int p),aA (.tup [.int i,.int m]),aA (.bl b),aA (.int x),aA (.int y),aA (.int z),aA (.int i),aA (.int m),aA (.int t)] h (λ_ h1=>R .aG h1) R '6' λ_ _=>False:=λt ht tm=>by
  refine C1 (λ_=>?_) λ_=>?_
  .cases b with
   |false=>exact q (.dA x t) _ B6 ⟨⟨hx,ht⟩,tm⟩|true=>exact Nm '!' '!' (λv hv=>q (.dA v t) _ B6.C8 ⟨⟨by unfold cV;omega,ht⟩,tm⟩) bC
  refine C1 (λ_=>?_) λ_=>?_
  .exact q (.go _) _ B6 ⟨by show 0<=ite _ _ _;split<;>omega,by show ite _ _ _<=m;split<;>omega⟩
  cases b with
  |true=>exact q (.move _ _) _ B6 ⟨⟨b5,hz⟩,m0⟩|false=>exact yb (k:=k) p0 p1 λw hw=>q (.fault w) _ B6 ⟨trivial,m0⟩
 refine aS rfl rfl<|C1 (λ_=>?_) λ_=>?_
 .exact aE.dt '!'<|tail _ (jA _ '!')<|Gb<|jT _ '!'
 .refine tail _ ?_ ?_
  .show 0<=ite _ _ _;split<;>omega
  .show ite _ _ _<=m;split<;>split<;>omega
def aOe{c i m:Int}{b:Bool}(h0:0<=i)(h1:i<100)(m0:0<=m)(q:ji h m R):WC (D1 pg (k+3) 41 [.int c,.int i,.int m,.bl b]) h R:=by
 refine aS rfl rfl<|tW h0 (by lia) λz l o=>?_;have bx:∀d:Int,0<d->cV (z / d%8):=λd hd=>⟨jA _ '#',jT _ '#'⟩;have x0:=bx 20 '#';have g:=bx 160 '#';have w0:=bx 1280 '#';have p0:0<=z / 10240:=Sn l '#';have j:z / 10240<2147483647:=by lia
 refine C1 (λ_=>aTo (k:=k+1) x0 g w0 m0 q) λ_=>?_;refine C1 (λ_=>?_) λ_=>?_
 .cases b with
  |true=>exact B5<|dZ (bR bC) rfl<|yb (k:=k+1) p0 j λw hw=>q (.set _ w) _ B6.C8 ⟨⟨by unfold cV;lia,hw⟩,m0⟩|false=>exact B5<|dZ (bR bC) rfl<|yb (k:=k+1) p0 j λw hw=>q (.set _ w) _ B6.C8 ⟨⟨by grind,hw⟩,m0⟩
 have rest:WC (D1 pg (k+2) 39 [.str "load",.tup [.int (z / 20%8),.int (z / 160%8),.int (z / 1280%8)],.int (z / 10240),.bl b]) h R:=HF (k:=k+1) (kd:=aB) x0 g m0 q;have a:WC (D1 pg (k+2) 39 [.str "store",.tup [.int (z / 20%8),.int (z / 160%8),.int (z / 1280%8)],.int (z / 10240),.bl b]) h R:=HF (k:=k+1) (kd:=aJ) x0 g m0 q;have f:WC (D1 pg (k+2) 40 [.int (z%20),.tup [.int (z / 20%8),.int (z / 160%8),.int (z / 1280%8)],.int (z / 10240),.tup [.int i,.int m],.bl b]) h R:=aSq (k:=k) x0 g w0 h0 m0 p0 j q;have n:cV 5:=⟨'#','#'⟩;refine C1 (λe=>?_) λe=>?_
 .cases b with
  |true=>exact q (.way .rest _ _ _) _ B6 ⟨⟨by unfold cV;lia,g,n⟩,m0⟩|false=>exact aE.dt e<|q (.move _ _) _ B6 ⟨⟨x0,g⟩,m0⟩
 .exact C4 e<|C1 (λ_=>rest) λ_=>C1 (λ_=>a) λ_=>f
def W9{c i m:Int}(h0:0<=i)(h1:i<100)(m0:0<=m)(q:ji h m R):WC (D1 pg (k+2) 42 [.int c,.int i]) h R:=by
 refine aS rfl rfl<|tW (by lia) (by lia) λz e f=>?_;have a:cV (z%5):=by grind [cV]
 have b:cV 6:=⟨'#','#'⟩;have d:cV 7:=⟨'#','#'⟩;refine C1 (λ_=>q (.way .rest _ _ _) _ B6 ⟨⟨b,by grind [cV],⟨'#','#'⟩⟩,m0⟩) λ_=>?_;refine C1 (λ_=>?_) λ_=>C1 (λ_=>q (.store _ _ _) _ B6 ⟨⟨a,b⟩,m0⟩) λ_=>q (.load _ _ _) _ B6 ⟨⟨a,d⟩,m0⟩;exact Nm (by lia) (by lia) (λv g=>q (.store _ v _) _ B6.C8 ⟨⟨a,by grind⟩,m0⟩) bC
end
section
variable {k:Nat}
def sj(h:AH)(m:Nat)(rs:List aH):Prop:=h.ob m=aA 'D'/\∀r∈rs,sH (B3 rs) r
def aGc{b:Bool}(os:h.ob n=aA (.l bb<|ns.map AV.int))(hn:n<h.nx)(hl:B3 ns<=60)(q:∀h' m rs,Kp h h'->m<h'.nx->sj h' m rs->B3 rs=B3 ns->R (.ref m) h'):WC (D1 pg (k+4) 43 [.ref n,.bl b]) h R:=by
 have E4:=lB;refine aS rfl rfl<|B5<|zI<|Rm<|Ft rfl ?_;refine⟨_,_,_,rfl,os,?_⟩;refine i3 (λi p e h'=>Kp h h'/\(∃a c,e=[a,c,aA (.bl b),aA (.ref n)])/\∃rs:List aH,p=rs.map aH.av/\B3 rs=i/\∀r∈rs,sH (B3 ns) r) (by rw[aU,eN];lia) ⟨B6,⟨_,_,rfl⟩,[],rfl,rfl,λr hr=>by cases hr⟩ (λi p e h' y=>y.1.get hn os) ?_ ?_
 .rintro i x p e h' s ⟨kp,⟨a,c,rfl⟩,rs,rfl,d,hr⟩
  obtain⟨y,t,rfl⟩:=kO s;have A:=(dk.1 t).1;refine MH<|cK _<|B5<|eP (bR<|kp.get hn os)<|aOe (by lia) (by lia) (gy _) λr B l f=>⟨by rw[aU];lia,kp.trans l,⟨_,_,rfl⟩,rs++[r],by rw[eR];rfl,by rw[dU,d];rfl,λu g=>?_⟩;rcases eh.1 g with z|z
  .exact hr u z
  .rw[a'.1 z];rw[aU]at f;exact f
 rintro p e j ⟨k1,⟨a,c,rfl⟩,rs,rfl,d,hr⟩
 have k2:Kp h (j.C8 'D'):=k1.C8;have o:(j.C8 'D').ob j.nx=aA 'D':=bC;have l2:j.nx<(j.C8 'D').nx:=cD _;have v:=k1.nx;rw[aU]at d;generalize j.nx=m at o l2 v ⊢;have s2:=k2.get hn os;cases b with
 |false=>exact q _ _ rs k2 l2 ⟨o,d▸hr⟩ d|true=>
  refine B5<|eP (bR s2)<|C1 (λD=>?_) λ_=>q _ _ rs k2 l2 ⟨o,d▸hr⟩ d;refine B5<|dZ (bR s2) (bc '#' '!')<|B4 rfl<|C1 (λ_=>?_) λ_=>q _ _ rs k2 l2 ⟨o,d▸hr⟩ d;refine WB.of ?_;with_reducible refine mQ<|Rm<|Ft rfl ?_
  refine⟨_,_,_,rfl,s2,?_⟩;refine BP (λi e h'=>(∃a c,e=[aA (.ref n),aA (.bl aB),aA (.ref m),a,c])/\Kp h h'/\m<h'.nx/\∃rs:List aH,sj h' m rs/\B3 rs=B3 ns) (by rw[aU,eN];lia) ⟨⟨_,_,rfl⟩,k2,l2,rs,⟨o,d▸hr⟩,d⟩ (λi e h' y=>y.2.1.get hn os) ?_ ?_
  .rintro i x e h' s ⟨⟨a,c,rfl⟩,kp,lm,rs,⟨w,hr⟩,d⟩
   obtain⟨y,t,rfl⟩:=kO s;have A:=(dk.1 t).1;refine kE _<|gR _<|C1 (λ_=>?_) λ_=>⟨⟨_,_,rfl⟩,kp,lm,rs,⟨w,hr⟩,d⟩;refine W9 (m:=B3 rs) (by lia) (by lia) (gy _) λr B l f=>?_;refine ye (l.get lm w) (Ci (by rw[aU];lia)) ⟨⟨_,_,rfl⟩,(kp.trans l).C9 v,bE lm l.nx,rs.set i r,⟨?_,λu g=>?_⟩,by rw[sT];exact d⟩
   .rw[bO,yq]
   .rw[sT];rcases Gr g with z|z
    .exact hr u z
    .rw[z];exact f
  rintro e h' ⟨⟨a,c,rfl⟩,kp,lm,rs,C,d⟩
  exact q _ _ rs kp lm C d
end
section
variable {L1:AY->AH->Prop}
def i6{ys:'%'}{g:AV->aF->M aF}{me:aF->M AV}(I:Nat->'%'->aF->AH->Prop)(hl:B3 xs<=B3 ys)(hn:B3 xs<FU)(i0:I 0 [] σ h)(il:∀i zs σ h,I i zs σ h->h.ob n1=aA (.l b1 xs)/\h.ob n2=aA (.l b2 ys))
  (turn:∀(i:Nat) x y zs σ h,xs[i]?=aA x->ys[i]?=aA y->I i zs σ h->Wp (g (.tup [x,y]) σ) h λσ1 h1=>We (me σ1) h1 λz h3=>B3 zs<sizeLine/\I (i+1) (zs++[z]) σ1 h3)
  (done:∀zs σ h,I (B3 xs) zs σ h->L1 zs h):We (eT (pO (jZ n1)<|jZ n2) g (λ_=>B8 aB) me FU 0 [] σ) h L1:=by
 refine uY I (B3 xs) (λi zs σ h d a=>?_) (λzs σ h a=>⟨?_,done zs σ h a⟩) FU 0 [] σ h (jD _) '!' i0
 .obtain⟨g1,g2⟩:=il _ _ _ _ a;have b:=eD d;have c:=eD (show i<B3 ys by lia);exact⟨_,by simp only[pO,mI g1,mI g2,b,c],(turn i _ _ zs σ h b c a).D2 λσ1 h1 w=>oy w⟩
 .obtain⟨g1,g2⟩:=il _ _ _ _ a;cases e:ys[B3 xs]?<;>simp[pO,mI g1,mI g2]
end
section
variable {k:Nat}{K:Nat->AS}{b:Nat}
def j6:B3 (rM ns aD<|aA 60)<=60:=by unfold rM;rw[oH];show min (min 60 _-0) _<=60;lia
def EG{c:Int}{ps:Nat}(os:h.ob ps=aA (.l bb<|ns.map AV.int))(lps:ps<h.nx)(hn:B3 ns<=63)(T:TH K b h)(l:Kl K h)(q:Gn K b h 1 R):WC (D1 pg (k+4) 54 [.int c,.ref ps]) h R:=by
 have E4:=lB;refine aS rfl rfl<|tW (k:=k+2) '#' '#' λz G S=>?_;have p0:0<=z / 8:=Sn G '#';have g:0<1+z / 8%64:=by lia
 have a1:1+z / 8%64<=64:=by lia
 refine C1 (λ_=>?_) λ_=>?_
 .exact aFs (k:=k+2) T l q
 refine C1 (λ_=>?_) λ_=>?_
 .exact SX (k:=k+2) T l q
 refine C1 (λ_=>?_) λ_=>?_
 .exact EB (k:=k+1) T l q
 refine C1 (λ_=>?_) λ_=>?_
 .exact Zb (k:=k+1) T l g a1 q
 refine C1 (λ_=>?_) λ_=>?_
 .exact GS (k:=k+1) T l g a1 (by lia) q
 refine C1 (λ_=>?_) λ_=>?_
 .refine B5<|xx rfl ?_;rw[show(2:Int) ^ Int.toNat 64=18446744073709551616 by decide];refine B7 (B:=False) (show pA 18446744073709551616=aB by decide)<|Bb (k:=k+2) (n:=60) '#' '#' rfl '#' λws x m0 h0 F o0 U H hw wl=>?_;have t:=F.get lps os;refine B5<|zI<|Fm ?_;refine mP _ ?_;refine rC<|B5<|uJ t ?_;have k1:Kp h0 (h0.C8<|.l aB<|eU (ns.map AV.int) aD<|aA 60):=B6.C8;have f:(h0.C8<|.l aB<|eU (ns.map AV.int) aD<|aA 60).ob h0.nx=aA (.l aB<|(rM ns aD<|aA 60).map AV.int):=by rw[<- Ay];exact bC
  have u:=k1.get H o0;have hl:B3 (rM ns aD<|aA 60)<=60:=j6;generalize h0.C8 (.l aB<|eU (ns.map AV.int) aD<|aA 60)=e at k1 f u ⊢;generalize h0.nx=V at f ⊢;generalize rM ns aD (aA 60)=ms at f hl ⊢;refine⟨_,_,_,_,rfl,kh f,kh u,?_⟩;refine i6 (xs:=ms.map AV.int) (ys:=(ws++[x]).map AV.int) (λi zs j p=>p=e/\(∃a b,j=[a,b])/\∃bs:BC,zs=bs.map AV.bl/\B3 bs=i) (by rw[aU,aU,dU,wl];lia) (by rw[aU,eN];lia) ⟨rfl,⟨_,_,rfl⟩,[],rfl,rfl⟩ (λi zs j p y=>by rw[y.1];exact⟨f,u⟩) ?_ ?_
  .rintro i x y zs j p I J ⟨rfl,⟨a,b,rfl⟩,bs,rfl,rfl⟩
   obtain⟨x,ex,rfl⟩:=kO I;obtain⟨y,W,rfl⟩:=kO J;have X:=(dk.1 ex).1;refine MH<|cK _ ⟨by grind,rfl,⟨_,_,rfl⟩,bs++[decide ((x+y)%2=1)],by rw[eR];rfl,by simp⟩
  rintro zs j p ⟨rfl,⟨a,b,rfl⟩,bs,rfl,_⟩
  have k2:=(F.trans k1).C8 (o:=.l aB (bs.map AV.bl));exact Y1 (k:=k+1) (d:=1) (T.kp l k2) (l.up k2.nx) bC (cD _) λr n Y w A C L=>q _ _ _ (k2.trans w) A C λm hm=>L m (bE hm k2.nx)
 refine C1 (λ_=>?_) λ_=>?_
 .refine Zb (k:=k+1) (d:=0) (R:=λv e=>rG (k+3) 12 79 [v] e R) T l g a1 λe n M k1 D l1 a1 s=>?_;exact aSu (k:=k+1) D l1 s λr N O k2 E l2 a2=>q _ _ _ (k1.trans k2) E l2 λm hm=>(a2 m<|bE hm k1.nx).trans (a1 m hm)
 .refine EB (k:=k+1) (d:=0) (R:=λv1 e=>rG (k+3) 10 74 [.int (1+z / 8%64),.int 4] e λv2 r=>rG (k+3) 13 82 [v1,v2,.int (1+z / 8 / 64%64)] r R) T l λe Z M k1 D l1 b1 s=>?_;refine GS (k:=k+1) (d:=0) D l1 g a1 '#' λr N O k2 E l2 b2 P=>?_;exact e9 (k:=k+1) E l2 (by lia) (by lia) ((b2 _<|l1 _ _ s).trans s) P λh3 n3 K3 w A C Q=>q _ _ _ ((k1.trans k2).trans w) A C λm hm=>(Q m<|bE hm (k1.trans k2).nx).trans ((b2 m<|bE hm k1.nx).trans (b1 m hm))
end
section
variable {k:Nat}
def eZ(p:Int×Int):AV:=.tup [.int p.1,.int p.2]
def Wr(tb:A7):Prop:=B3 tb=5/\∀p∈tb,1<=p.1/\1<=p.2/\p.2<=16
def Zg{n:Int}(h:(B3 ws:Int)=n):rM (ws++[x]) aD (aA n)=ws:=by subst h;unfold rM;simp[HT.cA,vD.2 (gy (B3 ws))]
def aRs{c:Int}(q:∀h' tb,Kp h h'->Wr tb->R (.tup<|tb.map eZ) h'):WC (D1 pg (k+2) 53 [.int c,.int 16]) h R:=by
 have E4:=lB;refine aS rfl rfl<|WB.of ?_;have k1:Kp h (h.C8<|.l aB []):=B6.C8;have o1:(h.C8<|.l aB []).ob h.nx=aA (.l aB []):=bC;have l1:h.nx<(h.C8<|.l aB []).nx:=cD _;generalize h.C8 (.l aB [])=h1 at k1 o1 l1 ⊢;have l0:h.nx<=h.nx:=aW _;generalize em:h.nx=m at o1 l1 ⊢;with_reducible refine mQ<|Rm ?_
 refine cK _<|rC<|Bb (k:=k) (n:=5) '#' '#' rfl '#' λws x m0 h0 k0 o0 n0 l0 hw wl=>B5 (uJ o0 ?_);have o3:(h0.C8<|.l aB<|eU ((ws++[x]).map AV.int) aD<|aA 5).ob h0.nx=aA (.l aB<|ws.map AV.int):=by rw[Ay,Zg (by rw[wl];rfl)];exact bC
 have k3:Kp h1 (h0.C8<|.l aB<|eU ((ws++[x]).map AV.int) aD<|aA 5):=k0.C8;generalize h0.C8 (.l aB<|eU ((ws++[x]).map AV.int) aD<|aA 5)=h3 at k3 o3 ⊢;have l3:=k0.nx;refine⟨_,_,_,rfl,o3,?_⟩;generalize h0.nx=n3 at o3 l3 ⊢;refine BP (xs:=ws.map AV.int) (λi Z h'=>(∃a b d,Z=[aA (.int c),aA (.int 16),aA (.ref m),a,b,d])/\Kp h h'/\h'.ob n3=aA (.l aB<|ws.map AV.int)/\∃tb:A7,h'.ob m=aA (.l aB<|tb.map eZ)/\B3 tb=i/\∀p∈tb,1<=p.1/\1<=p.2/\p.2<=16) (by rw[aU,eN,wl];decide) ⟨⟨_,_,_,rfl⟩,k1.trans k3,o3,[],k3.get l1 o1,rfl,λp hp=>by cases hp⟩ (λi Z h' y=>y.2.2.1) ?_ ?_
 .rintro i v Z h' hx ⟨⟨a,b,d,rfl⟩,kp,on,tb,om,tl,ht⟩
  obtain⟨y,hy,rfl⟩:=kO hx;have hi:i<5:=by rw[<- wl];exact(dk.1 hy).1
  have app:∀p:Int×Int,1<=p.1/\1<=p.2/\p.2<=16->∀{Q:AV->AH->Prop},(∀h'',(Kp h h''/\h''.ob n3=aA (.l aB<|ws.map AV.int)/\∃tb:A7,h''.ob m=aA (.l aB<|tb.map eZ)/\B3 tb=i+1/\∀p∈tb,1<=p.1/\1<=p.2/\p.2<=16)->Q .aG h'')->WC (vE (.ref m)<|eZ p) h' Q:=λp hp Q q=>by
   refine B5<|sP om (by rw[aU];lia)<|q _ ⟨kp.C9 (by lia),(bD '!').trans on,tb++[p],by rw[bO,eR];rfl,by rw[dU,tl];rfl,λp' hp'=>?_⟩;rcases eh.1 hp' with z|z
   .exact ht p' z
   .rw[a'.1 z];exact hp
  refine kE _<|gR _<|tW (k:=k) '!' '!' λz z0 z1=>C1 (λ_=>?_) λ_=>?_
  .exact B7 (pE om)<|app (1+z / 4%8,1+z / 32%16) ⟨'!','!','!'⟩ λh'' y=>⟨⟨_,_,_,rfl⟩,y⟩
  .exact B7 (pE om)<|app (1+z / 4%2,1+z / 8%4) ⟨'!','!','!'⟩ λh'' y=>⟨⟨_,_,_,rfl⟩,y⟩
 rintro Z h' ⟨⟨a,b,d,rfl⟩,kp,on,tb,om,tl,ht⟩
 exact B5<|qX (bR om)<|q _ tb kp ⟨tl.trans ((aU ..).trans wl),ht⟩
end
section
variable {k:Nat}
def NA(hw:jS ws)(w0:wd w):jS (ws++[w]):=λx a=>by
 rcases eh.1 a with z|z
 .exact hw x z
 .rw[a'.1 z];exact w0
noncomputable abbrev aPs:aQ:=bH (bH<|bH<|bH Xq)
def KO{c o:Int}{b:Bool}{m am:Nat}{bx:'0'}(om:h.ob m=aA (.l aB<|bx.map AV.int))(hm:m<h.nx)(r1:am<=80)(q:∀h' mem,Kp h h'->jS mem->B3 mem=am->R (.tup [.int 0,.tup (bx.map AV.int),.tup (mem.map AV.int)]) h') :
  dY (D1 pg<|k+1) aPs [aA (.int c),aA (.int o),aA (.bl b),aA (.ref m),aA (.int v),aA (.int am),aD] h (λ_ h1=>R .aG h1) R '6' λ_ _=>False:=by
 have E4:sizeLine=16777216:=lB;refine B5 ?_;with_reducible refine zI ?_
 with_reducible refine xy ?_
 refine⟨xg '!' '!',?_⟩;refine Za (λi d e h'=>h'=h/\(∃a,e=[a,aA (.int o)])/\∃ws:'0',d=ws.map AV.int/\B3 ws=i/\jS ws) (by rw[eN];omega) ⟨rfl,⟨_,rfl⟩,[],rfl,rfl,nofun⟩ ?_ ?_
 .rintro i d e h' l ⟨rfl,⟨a,rfl⟩,ws,rfl,wl,hw⟩
  refine xv<|cK _<|tW '!' '!' λz g j=>yb g j λw f=>⟨by rw[aU];omega,rfl,⟨_,rfl⟩,ws++[w],by rw[eR];rfl,by rw[dU,wl];rfl,NA hw f⟩
 rintro d e h' ⟨rfl,⟨a,rfl⟩,ws,rfl,wl,hw⟩
 exact B5<|qX (bR<|(B6.C8 (a:=h')).get hm om)<|B5<|qX (bR bC)<|q _ ws B6.C8 hw (by rw[wl];omega)
def aPt{c o:Int}{b:Bool}(q:∀h' bx mem,Kp h h'->jS bx->B3 bx=8->jS mem->0<B3 mem->B3 mem<=80->R (.tup [.int 0,.tup (bx.map AV.int),.tup (mem.map AV.int)]) h'):WC (D1 pg (k+2) 44 [.int c,.int o,.bl b]) h R:=by
 have E4:=lB;refine aS rfl rfl<|B5<|zI<|xy ?_;refine⟨xg (by lia) (by lia),?_⟩;refine Za (λi y A h'=>h'=h/\(∃a,A=[a,aA (.int c)])/\∃ws:'0',y=ws.map AV.int/\B3 ws=i/\jS ws) (by rw[eN];decide) ⟨rfl,⟨_,rfl⟩,[],rfl,rfl,λw hw=>by cases hw⟩ ?_ ?_
 .rintro i y A h' E ⟨rfl,⟨a,rfl⟩,ws,rfl,wl,hw⟩
  have E:=E;refine xv<|cK _<|tW (k:=k) (by lia) (by lia) λz p s=>yb (k:=k) p s λw d=>⟨by grind,rfl,⟨_,rfl⟩,ws++[w],by grind,by grind,NA hw d⟩
 rintro y A h' ⟨rfl,⟨a,rfl⟩,ws,rfl,wl,hw⟩
 have k1:Kp h' (h'.C8<|.l aB<|ws.map AV.int):=B6.C8;have B:(h'.C8<|.l aB<|ws.map AV.int).ob h'.nx=aA (.l aB<|ws.map AV.int):=bC;have l1:h'.nx<(h'.C8<|.l aB<|ws.map AV.int).nx:=cD _;generalize h'.C8 (.l aB<|ws.map AV.int)=t at k1 B l1 ⊢;generalize h'.nx=J at B l1 ⊢;refine tW (k:=k) '#' '#' λz p s=>?_;have k2:Kp h' (t.C8<|.l aB [.int 16,.int 64]):=k1.C8;have u:=(B6.C8 (a:=t) (o:=.l aB [.int 16,.int 64])).get l1 B;have l2:J<(t.C8<|.l aB [.int 16,.int 64]).nx:=kH l1;refine Nm (by split<;>decide) (by split<;>decide) (λv N=>?_) bC;generalize t.C8 (.l aB [.int 16,.int 64])=n at k2 u l2 ⊢;refine tW (k:=k) '#' '#' λz p s=>aE.dt (by lia) ?_;cases b with
 |false=>have C:0<=z%v:=jA _ (by lia);have K:z%v<v:=jT _ (by lia);obtain⟨r,hr⟩:=zL C;have:=KO (k:=k) (c:=c) (o:=o) (v:=v) (b:=aJ) (R:=R) u l2 (am:=1+r) (by lia) λD mem kp hm hl=>q _ ws mem (k2.trans kp) hw wl hm (by lia) '!';rw[show((1+r:Nat):Int)=1+z%v by omega]at this;exact this
 |true=>
  obtain⟨e,a1,a2,f,g,j,l,m,rfl⟩:=MD wl;refine tW (k:=k) '#' '#' λz p s=>aE.dt '!' ?_;refine rC<|B5<|uJ u ?_;have x:=(B6.C8 (a:=n) (o:=.l aB (eU ([e,a1,a2,f,g,j,l,m].map AV.int) aD<|aA 5))).get l2 u;have F:(n.C8<|.l aB<|eU ([e,a1,a2,f,g,j,l,m].map AV.int) aD<|aA 5).ob n.nx=aA (.l aB [.int e,.int a1,.int a2,.int f,.int g]):=bC;have G:Kp h' (n.C8<|.l aB<|eU ([e,a1,a2,f,g,j,l,m].map AV.int) aD<|aA 5):=k2.C8;have H:n.nx<(n.C8<|.l aB<|eU ([e,a1,a2,f,g,j,l,m].map AV.int) aD<|aA 5).nx:=cD _;generalize n.C8 (.l aB<|eU ([e,a1,a2,f,g,j,l,m].map AV.int) aD<|aA 5)=I at x F G H ⊢;refine B5<|dZ (bR x) rfl<|B5<|dZ (bR x) rfl<|B5<|dZ (bR x) rfl ?_;refine B5<|Fg ((B6.C8 (a:=I)).get H F) bC (by simp;omega) ?_;have C:0<=z%(v-6):=jA _ '!';have K:z%(v-6)<v-6:=jT _ '!';obtain⟨r,hr⟩:=zL C;have L:Kp h' ((I.C8<|.l aB [.int (1+j%4),.int (l%4),.int (m%4)]).C8 (.l aB<|[.int e,.int a1,.int a2,.int f,.int g]++[.int (1+j%4),.int (l%4),.int (m%4)])):=G.C8.C8;have M:jS [e,a1,a2,f,g,1+j%4,l%4,m%4]:=λw d=>by
   simp only[mS,lL,or_false]at d;rcases d with rfl|rfl|rfl|rfl|rfl|rfl|rfl|rfl
   .exact hw _ (by simp)
   .exact hw _ (by simp)
   .exact hw _ (by simp)
   .exact hw _ (by simp)
   .exact hw _ (by simp)
   .omega
   .omega
   .omega
  have:=KO (k:=k) (c:=c) (o:=o) (v:=v) (b:=aB) (R:=R) bC (cD _) (am:=7+r) '!' λD mem kp hm hl=>q _ _ mem (L.trans kp) M rfl hm '!' '!';rw[show((7+r:Nat):Int)=7+z%(v-6) by omega]at this;exact this
end
section
variable {k:Nat}
def wm(q:V1 (.int 18446744073709551616) h):WC (Op.g .pow (.int 2)<|.int 64) h V1:=by refine B5<|xx rfl ?_;exact q
def Eg{M:Int}{r1 r2:List aH}{V:AV->AH->Prop}(o:h.ob n=aA (.l aB<|r1.map aH.av))(ln:n<h.nx)(l1:B3 r1+B3 r2<=20)(a1:∀r∈r1,sH M r)(a2:∀r∈r2,sH M r)(q:∀h' n (r3:List aH),Kp h h'->n<h'.nx->h'.ob n=aA (.l aB<|r3.map aH.av)->(∀r∈r3,sH M r)->B3 r3=B3 r1+B3 r2->V (.ref n) h'):WC (Op.g .add (.ref n)<|.ref h.nx) (h.C8<|.l aB<|r2.map aH.av) V:=by have E4:=lB;have a:Kp h (h.C8<|.l aB<|r2.map aH.av):=B6.C8;refine B5<|Fg (a.get ln o) bC (by grind) ?_;rw[<- eR];exact q _ _ (r1++r2) a.C8 (cD _) bC (λr hr=>(eh.1 hr).elim (a1 r) (a2 r)) dU
def SY{c M:Int}(m0:0<=M)(q:ji h M R):WC (D1 pg (k+1) 45 [.int c,.int M]) h R:=by
 have E4:sizeLine=16777216:=lB;have hx:cV (c / 19%8):=⟨'!','!'⟩;have hy:cV (c / 152%8):=⟨'!','!'⟩;have hz:cV (c / 1216%8):=⟨'!','!'⟩;have t0:=jA (c / 9728) (b:=M+1) '!';have t1:=jT (c / 9728) (b:=M+1) '!';have v0:wd (c / 9728%18446744073709551616):=⟨jA _ '#',jT _ '#'⟩;refine aS rfl rfl<|B5<|zI<|qZ ?_;show We (yC<|.ref h.nx) (h.C8<|.l aB wH) _;refine sQ (xs:=wH) bC ?_;have k1:Kp h (h.C8<|.l aB wH):=B6.C8;have o1:(h.C8<|.l aB wH).ob h.nx=aA (.l aB<|zH.map λw=>.str w.nm):=bC;generalize h.C8 (.l aB wH)=h1 at k1 o1 ⊢;refine Jb (bb:=aB) (xs:=zH.map λw=>.str w.nm) (λj ys Z h'=>(∃a,Z=[a,aA (.int<|c / 19%8),aA (.int<|c / 152%8),aA (.int<|c / 1216%8)])/\ys=((zH.take j).map λw=>aH.way w (c / 19%8) (c / 152%8) (c / 1216%8)).map aH.av/\h'=h1) (by rw[aU,eN];decide) ⟨⟨_,rfl⟩,rfl,rfl⟩ (λj ys Z h' y=>by rw[y.2.2];exact o1) (λj v ys Z h' hv y=>?_) λys Z h' y=>?_
 .obtain⟨⟨a,rfl⟩,rfl,rfl⟩:=y;obtain⟨w,hw,rfl⟩:=kO hv;have hl:B3 (zH.take j)<=12:=by rw[oH];exact Tz _ _
  refine xv<|cK _ ⟨by rw[aU,aU];omega,⟨_,rfl⟩,by rw[wU,hw,eR,eR];rfl,rfl⟩
 .obtain⟨⟨a,rfl⟩,rfl,rfl⟩:=y;rw[aU,ic];generalize c / 19%8=x at *;generalize c / 152%8=y at *;generalize c / 1216%8=z at *;generalize c / 9728=p at *;generalize er:zH.map (λw=>aH.way w x y z)=r1;have a1:∀r∈r1,sH M r:=λr hr=>by rw[<- er]at hr;obtain⟨w,_,rfl⟩:=bp.1 hr;exact⟨⟨hx,hy,hz⟩,m0⟩
  have l1:B3 r1=12:=by rw[<- er];rfl
  clear er;have k2:Kp h (h'.C8<|.l aB<|r1.map aH.av):=k1.C8;have o2:(h'.C8<|.l aB<|r1.map aH.av).ob h'.nx=aA (.l aB<|r1.map aH.av):=bC;have n2:h'.nx<(h'.C8<|.l aB<|r1.map aH.av).nx:=cD _;generalize h'.C8 (.l aB<|r1.map aH.av)=h2 at k2 o2 n2 ⊢;generalize h'.nx=m2 at o2 n2 ⊢;have pM:∀{a b:aH},sH M a->sH M b->∀r∈[a,b],sH M r:=λh1 h2 r hr=>by
   rcases dT.1 hr with rfl|hr
   .exact h1
   .rw[a'.1 hr];exact h2
  refine wm<|Eg (r2:=[.set x (p%18446744073709551616),.move x y]) o2 n2 (by rw[l1];exact wV rfl) a1 (pM ⟨⟨hx,v0⟩,m0⟩ ⟨⟨hx,hy⟩,m0⟩) λh3 m3 r3 k3 n3 o3 a3 l3=>?_;refine Eg (r2:=[.load x y (p%1999-999),.store x y (p%1999-999)]) o3 n3 (by rw[l3,l1];exact wV rfl) a3 (pM ⟨⟨hx,hy⟩,m0⟩ ⟨⟨hx,hy⟩,m0⟩) λh4 m4 r4 k4 n4 o4 a4 l4=>?_;refine aE.dt '!'<|aE.dt '!'<|Eg (r2:=[.dA x (p%(M+1)),.go (p%(M+1))]) o4 n4 (by rw[l4,l3,l1];exact wV rfl) a4 (pM ⟨⟨hx,t0⟩,Gb t1⟩ ⟨t0,Gb t1⟩) λh5 m5 r5 k5 n5 o5 a5 l5=>?_;refine wm<|Eg (r2:=[.fault (p%18446744073709551616)]) o5 n5 (by rw[l5,l4,l3,l1];exact wV rfl) a5 (λr hr=>by rw[a'.1 hr];exact⟨trivial,m0⟩) λh6 m6 r6 k6 n6 o6 a6 l6=>?_;have c0:=jA c (b:=19) '#';have c1:=jT c (b:=19) '#';obtain⟨j,hj⟩:=zL c0;have hjl:j<B3 r6:=by rw[l6,l5,l4,l3,l1];show j<19;omega
  have:=q _ _ ((((k2.trans k3).trans k4).trans k5).trans k6) (a6 _<|Ta hjl);refine B5<|dZ (v:=r6[j].av) (bR o6) ?_ this;rw[hj];exact L2.xP (by rw[eQ,eD hjl];rfl)
def j8:rM (ws++[x]) aD (aA<|-1)=ws:=by
 unfold rM;have:HT.cA (B3<|ws++[x]) (B3<|ws++[x]) (aA<|-1)=B3 ws:=by simp[HT.cA];lia
 rw[this];simp[HT.cA]
def SZ{c o M:Int}(m0:0<=M)(q:∀h' pc bx mem,Kp h h'->0<=pc->pc<=M->jS bx->B3 bx=8->jS mem->0<B3 mem->B3 mem<=80->R (.tup [.int pc,.tup (bx.map AV.int),.tup (mem.map AV.int)]) h'):WC (D1 pg (k+2) 47 [.int c,.int o,.int M]) h R:=by
 have e0:=jA o (b:=64) '#';obtain⟨d,hd⟩:∃d:Nat,1+o%64=d:=⟨(1+o%64).toNat,by lia⟩;refine aS rfl rfl<|wm<|Bb (n:=8) '#' (rfl) rfl '#' λbs z m h1 k1 l n1 l1 hb bl=>?_;refine wm<|Bb '#' (rfl) hd (by lia) λms i m2 a k2 p n2 l2 hm ml=>?_;have e:=k2.get l1 l;refine B5<|dZ (v:=.int z) (bR e) ?_<|aE.dt '!' ?_
 .rw[show 8=((8:Nat):Int) from rfl];exact L2.xP (by left)
 refine rC<|B5<|uJ e ?_;have j:(a.C8<|.l aB<|eU ((bs++[z]).map AV.int) aD<|aA 8).ob a.nx=aA (.l aB<|bs.map AV.int):=by rw[Ay,Zg (by grind)];exact bC
 have g:Kp a (a.C8<|.l aB<|eU ((bs++[z]).map AV.int) aD<|aA 8):=B6.C8;generalize a.C8 (.l aB<|eU ((bs++[z]).map AV.int) aD<|aA 8)=f at j g ⊢;refine B5<|qX (bR j)<|rC<|B5<|uJ (g.get l2 p) ?_;have o4:(f.C8<|.l aB<|eU ((ms++[i]).map AV.int) aD<|aA<|-1).ob f.nx=aA (.l aB<|ms.map AV.int):=by rw[Ay,j8];exact bC
 have k4:Kp f (f.C8<|.l aB<|eU ((ms++[i]).map AV.int) aD<|aA<|-1):=B6.C8;exact B5<|qX (bR o4)<|q _ _ bs ms (((k1.trans k2).trans g).trans k4) (jA _ '!') (Gb<|jT _ '!') hb bl hm '!' '!'
end
def iF(bx:'0')(r:aH):'0':=r.cQ.map (cell bx)
def Bx(bx mem:'0'):aH->AV
 |.load _ y s=>.int (cell mem<|cell bx y+s)
 |_=>.aG
def iK(a:Int)(bx mem:'0')(r:aH):AV:=r.fZ a (iF bx r) (B3 mem) (Bx bx mem r)
def bj{bx:'0'}(hl:B3 bx=8)(hx:cV x):cZ (bx.map AV.int) x=aA (.int<|cell bx x):=bc hx.1 (by rw[aU,hl];exact hx.2)
def nS{bx:'0'}(hw:jS bx){i:Int}:wd (cell bx i):=by
 unfold cell;rw[ib];cases e:bx[i.toNat]? with
 |none=>exact⟨'#','#'⟩|some v=>exact hw v<|bJ e
def Wz(a0:0<=a)(b0:0<=b):0<=kX a b/\kX a b<=a/\kX a b<=b:=by have e1:=PyProof.Rows.bitAnd_pp a0 b0;have l1:a.toNat &&& b.toNat<=a.toNat:=Nat.and_le_left;have l2:a.toNat &&& b.toNat<=b.toNat:=Nat.and_le_right;lia
theorem GI:∀(n:Nat) {x y:Int},0<=x->0<=y->x<2 ^ n->y<2 ^ n->x+y-kX x y<2 ^ n
 |0,x,y,x0,a,b,c=>by have e:2 ^ 0=1:=rfl;have:=Wz x0 a;lia
 |n+1,x,y,x0,a,b,c=>by
  have e:(2:Int) ^ (n+1)=2*2 ^ n:=by grind
  have f:=GI n (x:=x / 2) (y:=y / 2) (by lia) (by lia) (by lia) (by lia);have d:=W.kbt_halves x y;split at d<;>lia
def Rr{w:dQ}(a0:0<=a)(a1:a<18446744073709551616)(b0:0<=b)(b1:b<18446744073709551616)(hz:¬(w.sr=aB/\b=0)):0<=w.wk a b/\w.wk a b<18446744073709551616:=by
 have f:=PyProof.Rows.bitOr_and a b;have g:=bitXor_and a b;have l1:=Wz a0 b0;have h:2 ^ 64=18446744073709551616:=rfl;have l2:=GI 64 a0 b0 (by left) (by left);have hb:=λe=>(Gd b0).resolve_right λz=>hz ⟨e,z.symm⟩;have c:∀d:Int,0<d->0<=a / d/\a / d<18446744073709551616:=λd hd=>⟨Sn a0 (qj hd),Int.lt_of_le_of_lt (Int.ediv_le_self d a0) a1⟩;cases w with
 |sum=>exact⟨jA _ '#',jT _ '#'⟩|less=>exact⟨jA _ '#',jT _ '#'⟩|times=>exact⟨jA _ '#',jT _ '#'⟩|share=>exact c b<|hb rfl|rest=>exact⟨jA _ (by have:=hb rfl;lia),kY (jT _<|hb rfl) b1⟩|both=>show 0<=kX a b/\kX a b<_;lia|some_=>show 0<=nL a b/\nL a b<_;lia|odd=>show 0<=nM a b/\nM a b<_;omega|up=>exact⟨jA _ '#',jT _ '#'⟩|down=>exact c _<|NU '#'|below=>show 0<=(if a<b then 1 else 0)/\(if a<b then 1 else 0)<_;split<;>omega|same=>show 0<=(if a=b then 1 else 0)/\(if a=b then 1 else 0)<_;split<;>omega
structure Sd where
 pc:Int
 bx:'0'
 mem:'0'
def Sd.av(s:Sd):AV:=.tup [.int s.pc,.tup (s.bx.map AV.int),.tup (s.mem.map AV.int)]
structure Sd.ok(s:Sd):Prop where
 pc:0<=s.pc
 bl:B3 s.bx=8
 bw:jS s.bx
 mw:jS s.mem
def jn(s:Sd):aH->Int
 |.way w _ y z=>w.wk (cell s.bx y) (cell s.bx z) | .set _ v=>v | .move _ y=>cell s.bx y | .load _ y d=>cell s.mem (cell s.bx y+d) | .store x _ _=>cell s.bx x
 |_=>0
def sy(s:Sd)(r:aH):'0':=match r with
 |.way _ x _ _=>s.bx.set x.toNat (jn s r) | .set x _=>s.bx.set x.toNat (jn s r) | .move x _=>s.bx.set x.toNat (jn s r) | .load x _ _=>s.bx.set x.toNat (jn s r)
 |_=>s.bx
def vz(s:Sd)(r:aH):'0':=match r with
 |.store _ y d=>s.mem.set (cell s.bx y+d).toNat (jn s r)
 |_=>s.mem
def kN(s:Sd)(r:aH):A4:=r.ft (iF s.bx r) (B3 s.mem)
def qO(s:Sd)(r:aH):Sd:=⟨r.gs s.pc (iF s.bx r),sy s r,vz s r⟩
def Sd.fZ(s:Sd)(r:aH):AV:=iK s.pc s.bx s.mem r
def gA(rows:List aH):Nat->Sd->List (aH×Sd)
 |0,_=>[]
 |n+1,s=>match rows[s.pc.toNat]? with
  |none=>[]
  |some r=>(r,s)::match kN s r with
   |some _=>[]
   |none=>gA rows n (qO s r)
def Fs(hw:jS ws)(hv:wd v):jS (ws.set i v):=λx a=>by
 rcases Gr a with z|z
 .exact hw x z
 .rw[z];exact hv
def ZC{s:Sd}(hs:s.ok)(hr:nZ r)(hf:kN s r=aD):wd (jn s r):=by
 cases r with
 |way w x y z=>
  have a:=nS hs.bw (i:=y);have b:=nS hs.bw (i:=z);exact Rr a.1 a.2 b.1 b.2 λe=>by have:kN s (.way w x y z)=cond w.sr (if cell s.bx z=0 then aA (.tup [.str "nought",.int (cell s.bx y)]) else aD) aD:=rfl;grind
 |set x v=>exact hr.2|move x y=>exact nS hs.bw|load x y d=>exact nS hs.mw|store x y d=>exact nS hs.bw|_=>exact(⟨'#','#'⟩:wd 0)
def aPy{s:Sd}(hs:s.ok)(hr:nZ r)(hf:kN s r=aD):(qO s r).ok:=by
 have hb:=ZC hs hr hf;refine⟨?_,?_,?_,?_⟩
 .have:=hs.pc;cases r with
  |go t=>exact hr|dA x t=>show 0<=ite _ _ _;split;exact hr.2;lia|_=>show 0<=s.pc+1;lia
 .cases r<;>first|exact hs.bl|(show(fE _ _ _).length=8;rw[sT];exact hs.bl)
 .cases r<;>first|exact hs.bw|exact Fs hs.bw hb
 .cases r<;>first|exact hs.mw|exact Fs hs.mw hb
variable {ps:List (aH×Sd)}{s0 sd' sd0:Sd}
def vZ(tb:A7)(r:aH):Int:=(tb.getD r.jL.toNat (1,1)).2
def eJ(ps:List (aH×Sd)):'%':=ps.map λp=>p.2.fZ p.1
def HL{s:Sd}(h:n=0\/¬s.pc<(B3 rs:Int))(h0:0<=s.pc):gA rs n s=[]:=by
 cases n with
 |zero=>rfl|succ n=>have:rs[s.pc.toNat]?=aD:=Gj (by grind);unfold gA;rw[this]
def Nr{s:Sd}(e:rs[s.pc.toNat]?=aA r):gA rs (n+1) s=(r,s)::(match kN s r with|some _=>[] | none=>gA rs n (qO s r)):=by show(match rs[s.pc.toNat]? with|none=>[] | some r=>(r,s)::match kN s r with|some _=>[] | none=>gA rs n (qO s r))=_;rw[e]
def DF{c:Prop} [Decidable c]:(if decide c=aB then(1:Int) else 0)=if c then 1 else 0:=by grind
def Rn(a b:Int):dQ->Int
 |.sum=>a+b | .less=>a-b | .times=>a*b | .both=>kX a b | .some_=>nL a b | .odd=>nM a b
 |.below=>if decide (a<b)=aB then 1 else 0 | .same=>if decide (a=b)=aB then 1 else 0
 |.up=>a*2 ^ (if 64<b then(64:Int) else b).toNat | .down=>a / 2 ^ (if 64<b then(64:Int) else b).toNat
 |_=>0
def aHb{k:aN}{v:AV}(h:k∉kvs.map (·.1)):gM kvs k v=kvs++[(k,v)]:=by unfold gM;rw[if_neg];intro z;rw[Su]at z;obtain⟨a,b,e⟩:=z;exact h<|bp.2 ⟨a,b,of_decide_eq_true e⟩
theorem Cz:∀{more kvs:List (aN×AV)},((kvs++more).map (·.1)).Nodup->kP kvs more=kvs++more
 |[],kvs,_=>(nP kvs).symm
 |p::r,kvs,nd=>by
  have hn:=λz=>by rw[eR,Gs]at nd;exact nd.2.2 _ z _ (.head _) rfl
  show kP (gM kvs p.1 p.2) r=_;rw[aHb hn,Cz (by rw[wO];exact nd),wO];rfl
def uI{k:aN}{v:AV}(nd:(kvs.map (·.1)).Nodup)(e:kvs[i]?=aA (k,v)):bT kvs k=aA v:=by
 induction kvs generalizing i with
 |nil=>simp at e|cons p r c=>
  rw[fJ,OY]at nd;unfold bT;rw[oG];cases i with
  |zero=>left|succ i=>
   have b:r[i]?=aA (k,v):=by simpa
   have a:decide (p.1=k)=aJ:=decide_eq_false λz=>nd.1 (by rw[z];exact bp.2 ⟨_,bJ b,rfl⟩);rw[a];exact c nd.2 b
def tR:AK:=["sum","less","times","both"]
def tS:AK:=["some","odd","below","same"]
def vo:AK:=["up","down"]
def aAz:((tR++tS++vo).map (mC:Str->aN)).Nodup:=by decide +kernel
def nd1:(tR.map (mC:Str->aN)).Nodup:=by decide +kernel
def Mr:(tS.map (mC:Str->aN)).Nodup:=by decide +kernel
def nd3:(vo.map (mC:Str->aN)).Nodup:=by decide +kernel
def aUt{w:dQ}(a0:0<=a)(a1:a<18446744073709551616)(b0:0<=b)(b1:b<18446744073709551616)(hs:w.sr=aJ):Rn a b w%18446744073709551616=w.wk a b:=by
 have hw:=Rr a0 a1 b0 b1 (λz=>by rw[hs]at z;exact ff z.1);cases w<;>dsimp only[Rn]at hw ⊢
 case share=>cases hs
 case rest=>cases hs
 case below=>rw[DF];exact So hw.1 hw.2
 case same=>rw[DF];exact So hw.1 hw.2
 all_goals first
  |rfl|exact So hw.1 hw.2
def aOt(h:B3 xs=B3 ks):(gF ks xs).map (·.1)=ks.map mC:=by unfold gF;rw[<- List.unzip_fst,List.unzip_zip (by left)]
def Jh(h:B3 xs=B3 ks)(nd:(ks.map (mC:Str->aN)).Nodup):kP [] (gF ks xs)=gF ks xs:=Cz (by simp_all[aOt,h])
def aUu{w:dQ}{m2 m3:List (aN×AV)}(hs:w.sr=aJ)(e1:m1=gF tR [.int (a+b),.int (a-b),.int (a*b),.int (kX a b)])(e2:m2=gF tS 'H')
  (e3:m3=gF vo [.int (a*2 ^ (if 64<b then(64:Int) else b).toNat),.int (a / 2 ^ (if 64<b then(64:Int) else b).toNat)]):bT (kP (kP m1 m2) m3) (.inr w.nm)=aA (.int<|Rn a b w):=by
 have nd:((m1++m2++m3).map (·.1)).Nodup:=by subst e1 e2 e3;exact aAz
 have Mr:((m1++m2).map (·.1)).Nodup:=by rw[eR,Gs]at nd;exact nd.1
 rw[Cz Mr,Cz nd];subst e1 e2 e3;cases w
 case share=>cases hs
 case rest=>cases hs
 case sum=>exact uI nd (i:=0) rfl
 case less=>exact uI nd (i:=1) rfl
 case times=>exact uI nd (i:=2) rfl
 case both=>exact uI nd (i:=3) rfl
 case some_=>exact uI nd (i:=4) rfl
 case odd=>exact uI nd (i:=5) rfl
 case below=>exact uI nd (i:=6) rfl
 case same=>exact uI nd (i:=7) rfl
 case up=>exact uI nd (i:=8) rfl
 case down=>exact uI nd (i:=9) rfl
theorem FI:∀{more kvs:List (aN×AV)},B3 (kP kvs more)<=B3 kvs+B3 more
 |[],kvs=>aW _
 |p::r,kvs=>by have a:=FI (more:=r) (kvs:=gM kvs p.1 p.2);have b:=HP (kvs:=kvs) (k:=p.1) (v:=p.2);show(kP (gM kvs p.1 p.2) r).length<=_;grind
section
variable {k:Nat}
def Rg{ks:List cT}{es:eF}(e:kP [] (gF ks xs)=m1)(w:oC F es Z (h.C8<|.aP []) λys h2=>ys=xs/\h2=h.C8 (.aP [])/\B3 xs=B3 ks/\B3 ks<=15)(q:∀h',Kp h h'->h'.nx=h.nx+1->h'.ob h.nx=aA (.aP m1)->Q (.ref h.nx) h'):WC (aM F (.ud ks es) Z) h Q:=
 B5 (aVf ((mP _ w).D2 λys h2 ⟨a,b,c,d⟩=>by subst a b;exact⟨bC,c,d,by rw[e];exact q _ (B6.C8.C9<|aW _) rfl bO⟩))
def X4{w:dQ}(a0:wd a)(b0:wd b)(hz:¬(w.sr=aB/\b=0))(q:∀h',Kp h h'->R (.int<|w.wk a b) h'):WC (D1 pg (k+1) 48 [.str w.nm,.int a,.int b]) h R:=by
 have E4:=lB;have i:=q _ B6;obtain⟨a0,a1⟩:=a0;obtain⟨b0,b1⟩:=b0;have hb:=λe=>(Gd b0).resolve_right λz=>hz ⟨e,z.symm⟩;refine aS rfl rfl ?_;rcases Qd w with rfl|rfl|hs
 .exact B7 (Zs (hb rfl) b1) i
 .exact aE.dt (hb rfl) i
 refine C4 (Mw hs)<|C4 (Mv hs)<|Rg (m1:='K') (Jh rfl nd1) ?_ λp k1 u j=>?_
 .exact B7 (ly (by lia) '!')<|B5<|ML<|⟨rfl,rfl,rfl,'#'⟩
 have l:0<=lH b:=by unfold lH;split<;>lia
 have r:lH b<=64:=by grind [lH]
 have c:h.nx<p.nx:=by lia
 refine B7 (rY j)<|Rg (m1:=gF tS 'H') (Jh rfl Mr) ?_ λf k2 v s=>?_
 .exact B5<|MM<|B5<|Ff ⟨rfl,rfl,rfl,'#'⟩
 refine B5<|MQ (k2.get c j) s (bZ ‹_›) (by exact wV rfl) ?_;have g:(f.C9 h.nx<|.aP<|kP 'K'<|gF tS 'H').ob h.nx=_:=bO;have m:Kp h (f.C9 h.nx<|.aP<|kP 'K'<|gF tS 'H'):=(k1.trans k2).C9 (aW _);have d:h.nx<(f.C9 h.nx<|.aP<|kP 'K'<|gF tS 'H').nx:=bE c k2.nx;generalize f.C9 h.nx (.aP<|kP 'K'<|gF tS 'H')=x at g m d ⊢;refine B7 (rY g)<|Rg (m1:=gF vo [.int (a*2 ^ (lH b).toNat),.int (a / 2 ^ (lH b).toNat)]) (Jh rfl nd3) ?_ λy n A t=>?_
 .exact B5<|Rk (Nq a0 a1 l r)<|B5<|MX l ⟨rfl,rfl,rfl,'#'⟩
 refine B5<|MQ (n.get d g) t (bZ ‹_›) (by have:=FI (more:=gF tS 'H') (kvs:='K');exact dF (Nat.add_le_add_right this _)<|wV rfl) ?_;refine B5<|xw bO rfl (aUu hs rfl rfl rfl)<|wm ?_;have:=q _ ((m.trans n).C9 (o:=.aP (kP (kP 'K'<|gF tS 'H')<|gF vo [.int (a*2 ^ (lH b).toNat),.int (a / 2 ^ (lH b).toNat)])) (aW h.nx));rw[<- aUt a0 a1 b0 b1 hs]at this;exact this
end
section
variable {k:Nat}
def HE{ld:Bool}{s:Int}{nm:Nat}{bx:'0'}(ob:h.ob nb=aA (.l aB<|bx.map AV.int))(om:h.ob nm=aA (.l aB<|mem.map AV.int))(hl:B3 bx=8)(hx:cV x)(hy:cV y)(q:R (iK a bx mem<|if ld then .load x y s else .store x y s) h) :
  WC (D1 pg (k+1) 49 [aH.av (if ld then .load x y s else .store x y s),.int a,.ref nb,.ref nm]) h R:=by
 have ml:(B3 (mem.map AV.int):Int)=B3 mem:=by left
 cases ld with
 |true=>
  have e:iK a bx mem (.load x y s)=if 0<=cell bx y+s/\cell bx y+s<(B3 mem:Int) then .tup [.int a,.int x,.int (cell bx y+s),.int (cell mem<|cell bx y+s),.int (a+1),.aG] else .tup [.int a,.aG,.aG,.aG,.aG,.tup [.str "place",.int (cell bx y+s)]]:=by unfold iK aH.fZ aH.ft;show(match (if 0<=cell bx y+s/\cell bx y+s<(B3 mem:Int) then aD else aA (AV.tup [.str "place",.int (cell bx y+s)]))with|some f=>_|none=>_)=_;split<;>split<;>first|rfl|(rename_i b c;left)
  simp only[if_true]at q ⊢;rw[e]at q;refine aS rfl rfl<|B5<|dZ (bR ob) (bj hl hy)<|C1 (λh0=>?_) λh0=>B5 (eP (bR om)<|C1 (λb=>?_) λb=>?_)
  .rw[if_neg λz=>'!']at q;exact q
  .rw[ml]at b;rw[if_neg λz=>'!']at q;exact q
  .rw[ml]at b;rw[if_pos ⟨'!','!'⟩]at q;exact B5<|dZ (bR om) (bc '!' '!') q
 |false=>
  have e:iK a bx mem (.store x y s)=if 0<=cell bx y+s/\cell bx y+s<(B3 mem:Int) then .tup [.int a,.aG,.int (cell bx y+s),.int (cell bx x),.int (a+1),.aG] else .tup [.int a,.aG,.aG,.aG,.aG,.tup [.str "place",.int (cell bx y+s)]]:=by unfold iK aH.fZ aH.ft;show(match (if 0<=cell bx y+s/\cell bx y+s<(B3 mem:Int) then aD else aA (AV.tup [.str "place",.int (cell bx y+s)]))with|some f=>_|none=>_)=_;split<;>split<;>first|rfl|(rename_i b c;left)
  simp only[Sg,if_false]at q ⊢;rw[e]at q;refine aS rfl rfl<|B5<|dZ (bR ob) (bj hl hy)<|C1 (λh0=>?_) λh0=>B5 (eP (bR om)<|C1 (λb=>?_) λb=>?_)
  .rw[if_neg λz=>'!']at q;exact q
  .rw[ml]at b;rw[if_neg λz=>'!']at q;exact q
  .rw[ml]at b;rw[if_pos ⟨'!','!'⟩]at q;exact B5<|dZ (bR ob) (bj hl hx) q
def HB{u v:AV}{b:Bool}(e:h.ob n=aA (.l aB [u,v]))(q:Q (if b=aB then v else u) h):WC (Op.g .ix (.ref n)<|.int<|if b=aB then 1 else 0) h Q:=by
 cases b with
 |true=>exact B5<|dZ (bR e) rfl q|false=>exact B5<|dZ (bR e) rfl q
def X2{nm:Nat}{bx:'0'}(hr:nZ r)(ob:h.ob nb=aA (.l aB<|bx.map AV.int))(om:h.ob nm=aA (.l aB<|mem.map AV.int))(lb:nb<h.nx)(hl:B3 bx=8)(hw:jS bx)(q:∀h',Kp h h'->R (iK a bx mem r) h') :
  WC (D1 pg (k+2) 50 [r.av,.int a,.ref nb,.ref nm]) h R:=by
 have b:=q _ B6;refine aS rfl rfl ?_;cases r with
 |load x y s=>exact HE (k:=k) (ld:=aB) ob om hl hr.1 hr.2 b|store x y s=>exact HE (k:=k) (ld:=aJ) ob om hl hr.1 hr.2 b|fault v=>exact b|go t=>exact b|set x v=>exact b|move x y=>exact B5<|dZ (bR ob) (bj hl hr.2) b|dA x t=>
  have f:=q (h.C8<|.l aB [.int (a+1),.int t]) B6.C8;refine B5<|dZ (bR<|(B6.C8 (a:=h)).get lb ob) (bj hl hr.1) ?_;refine HB bC ?_;have e:iK a bx mem (.dA x t) = .tup [.int a,.aG,.aG,.aG,if(!decide (cell bx x=0))=aB then .int t else .int (a+1),.aG]:=by
   show AV.tup [.int a,.aG,.aG,.aG,.int (if cell bx x≠0 then t else a+1),.aG]=_;by_cases c:cell bx x=0
   .rw[if_neg λz=>z c,decide_eq_true c];rfl
   .rw[if_pos c,decide_eq_false c];rfl
  rw[e]at f;exact f
 |way w x y z=>
  refine C4 (Mu w)<|C4 (Mx w)<|C4 (FT w)<|C4 (FV w)<|C4 (Di w)<|C4 (aBe w)<|C4 (aBd w)<|B5<|dZ (bR ob) (bj hl hr.2.1)<|B5<|dZ (bR ob) (bj hl hr.2.2) ?_;have wk:¬(w.sr=aB/\cell bx z=0)->iK a bx mem (.way w x y z) = .tup [.int a,.int x,.aG,.int (w.wk (cell bx y)<|cell bx z),.int (a+1),.aG]:=λhn=>by
   have:aH.ft [cell bx y,cell bx z] (B3 mem) (.way w x y z)=aD:=by
    show cond w.sr (if cell bx z=0 then _ else aD) aD=aD;cases hs:w.sr with
    |false=>rfl|true=>exact if_neg λz=>hn ⟨hs,z⟩
   show aH.fZ a [cell bx y,cell bx z] (B3 mem) _ (.way w x y z)=_;unfold aH.fZ;rw[this];rfl
  have go:¬(w.sr=aB/\cell bx z=0)->WC (D1 pg (k+1) 48 [.str w.nm,.int (cell bx y),.int (cell bx z)]) h λv d=>R (.tup [.int a,.int x,.aG,v,.int (a+1),.aG]) d:=λhn=>X4 (k:=k) (nS hw) (nS hw) hn λh' i=>by have:=q h' i;rw[wk hn]at this;exact this
  have g:w.sr=aB->cell bx z=0->R (.tup [.int a,.aG,.aG,.aG,.aG,.tup [.str "nought",.int (cell bx y)]]) h:=λd j=>by
   have:iK a bx mem (.way w x y z) = .tup [.int a,.aG,.aG,.aG,.aG,.tup [.str "nought",.int (cell bx y)]]:=by
    have:aH.ft [cell bx y,cell bx z] (B3 mem) (.way w x y z)=aA (.tup [.str "nought",.int (cell bx y)]):=by show cond w.sr (if cell bx z=0 then _ else aD) aD=_;rw[d,if_pos j];rfl
    show aH.fZ a [cell bx y,cell bx z] (B3 mem) _ (.way w x y z)=_;unfold aH.fZ;rw[this]
   rw[this]at b;exact b
  refine C1 (λh0=>?_) λh0=>go λz=>h0 z.2;rcases Qd w with rfl|rfl|hs
  .exact g rfl h0
  .exact g rfl h0
  .exact C4 (Mw hs)<|C4 (Mv hs) (go λz=>by rw[hs]at z;cases z.1)
end
section
variable {k:Nat}
def nK(s:Sd)(ps:List (aH×Sd)):'%':=s.av::ps.map λp=>Sd.av (match kN p.2 p.1 with|some _=>p.2|none=>qO p.2 p.1)
inductive Ab(h:AH)(nr b:Nat)(s:Sd)(rs:List aH)(i:Nat)(Z:aF)(h':AH):Prop
 |mk (s':Sd) (done:List (aH×Sd)) (v8:A4) (zs:AY) (_:Kp h h') (_:b+4<=h'.nx) (_:Z=[aA (.ref nr),aA s.av,aA (.int 150),aA (.int s'.pc),aA (.ref b),aA (.ref<|b+1),aA (.ref<|b+2),aA (.ref<|b+3),v8]) (_:h'.ob b=aA (.l aB<|s'.bx.map AV.int)) (_:h'.ob (b+1)=aA (.l aB<|s'.mem.map AV.int)) (_:h'.ob (b+2)=aA (.l aB<|eJ done)) (_:h'.ob (b+3)=aA (.l aB<|zs++[s'.av])) (_:zs++[s'.av]=nK s done) (_:B3 zs=i) (_:B3 done=i) (_:i<=150) (_:s'.ok) (_:gA rs 150 s=done++gA rs (150-i) s'):Ab h nr b s rs i Z h'
def whB:aQ->aQ
 |.cons (.Fl _ b) _=>b
 |_=>.nil
noncomputable abbrev aOf:aQ:=bH (bH<|bH<|bH<|bH<|whB<|bH<|bH<|bH Xo)
def TF{i:Int}(h0:0<=i)(h1:i<B3 (rs.map aH.av)):∃r,rs[i.toNat]?=aA r/\cZ (rs.map aH.av) i=aA r.av:=by simp_all[cZ,iS,h0,h1]
inductive SS(s:Sd)(r:aH):Prop
 |bx (x v:Int) (_:r.fl = .int x) (_:r.br (iF s.bx r) (Bx s.bx s.mem r) = .int v) (_:cV x) (_:sy s r=s.bx.set x.toNat v) (_:vz s r=s.mem)
 |me (x v:Int) (_:r.fl = .aG) (_:r.pl (iF s.bx r) = .int x) (_:r.br (iF s.bx r) (Bx s.bx s.mem r) = .int v) (_:0<=x/\x<(B3 s.mem:Int)) (_:sy s r=s.bx) (_:vz s r=s.mem.set x.toNat v)
 |no (_:r.fl = .aG) (_:r.pl (iF s.bx r) = .aG) (_:sy s r=s.bx) (_:vz s r=s.mem)
def stC{s:Sd}(hr:nZ r)(f:kN s r=aD):SS s r:=by
 cases r with
 |store x y d=>
  have f:(if 0<=cell s.bx y+d/\cell s.bx y+d<(B3 s.mem:Int) then aD else aA (AV.tup [.str "place",.int (cell s.bx y+d)]))=aD:=f;by_cases a:0<=cell s.bx y+d/\cell s.bx y+d<(B3 s.mem:Int)
  .exact .me _ _ rfl rfl rfl a rfl rfl
  .simp_all
 |way w x y z=>exact .bx _ _ rfl rfl hr.1 rfl rfl|set x v=>exact .bx _ _ rfl rfl hr.1 rfl rfl|move x y=>exact .bx _ _ rfl rfl hr.1 rfl rfl|load x y d=>exact .bx _ _ rfl rfl hr.1 rfl rfl|fault v=>cases f|_=>exact .no rfl rfl rfl rfl
def aFt{s:Sd}(Rw:sj h nr rs)(lr:nr<h.nx)(hs:s.ok)(hl:B3 rs<=60)(q:∀h' nd ns,Kp h h'->h.nx<=nd->nd<h'.nx->h.nx<=ns->ns<h'.nx->h'.ob nd=aA (.l aB<|eJ<|gA rs 150 s)->h'.ob ns=aA (.l aB<|nK s<|gA rs 150 s)->R (.tup [.ref nd,.ref ns]) h'):WC (D1 pg (k+3) 51 [.ref nr,s.av,.int 150]) h R:=by
 have E4:=lB;refine aS rfl rfl<|B5<|pv rfl<|B5<|pv rfl ?_;refine WB.of ?_;with_reducible refine yc ?_
 refine pw (Ab h nr h.nx s rs) 150 (λi Z h' y=>by obtain⟨_,_,_,_,_,_,_,_,_,_,_,_,_,_,y,_⟩:=y;exact y) ?_ FU 0 _ _ (by rw[eN];lia) ?_
 .rintro i Z h' ⟨a,done,D,zs,kp,nx,rfl,o4,o5,E,o7,F,zl,dl,hi,ok,pr⟩
  have orr:=kp.get lr Rw.1;have fin:gA rs (150-i) a=[]->R (.tup [.ref (h.nx+2),.ref (h.nx+3)]) h':=λe=>by rw[e,nP]at pr;exact q _ _ _ kp (oJ _ _) (kG ‹_›) (oJ _ _) ‹_› (by rw[pr];exact E) (by rw[pr,<- F];exact o7)
  refine oD _<|B5<|eP (bR E)<|B4 rfl<|C1 (λt=>B5 (eP (bR orr)<|B4 rfl<|aE.ite<|C1 (λz=>?_) λz=>?_)) λt=>?_
  .have G:i<150:=by unfold eJ at t;rw[aU,dl]at t;lia
   obtain⟨r,er,ea⟩:=TF ok.pc z;have hr:=(Rw.2 r<|bJ er).1;obtain⟨n,hn⟩:∃n,150-i=n+1:=⟨149-i,Nat.succ_sub (PN G)⟩;rw[hn,Nr er]at pr;refine gR _<|B5<|dZ (bR orr) ea<|X2 (k:=k) hr o4 o5 (by lia) ok.bl ok.bw λg k2=>?_;have u:=k2.get (by lia) E;have H:=dF nx k2.nx;refine B7 (pE u)<|B5<|sP u (by unfold eJ;rw[aU];omega) ?_;have c:Kp h (g.C9 (h.nx+2)<|.l aB<|eJ done++[iK a.pc a.bx a.mem r]):=(kp.trans k2).C9 '!';have A:=(bD (o:=.l aB (eJ done++[iK a.pc a.bx a.mem r])) (show h.nx≠h.nx+2 by omega)).trans (k2.get '!' o4);have C:=(bD (o:=.l aB (eJ done++[iK a.pc a.bx a.mem r])) (show h.nx+1≠h.nx+2 by omega)).trans (k2.get '!' o5);have l:=(bD (o:=.l aB (eJ done++[iK a.pc a.bx a.mem r])) (show h.nx+3≠h.nx+2 by omega)).trans (k2.get '!' o7);have w:(g.C9 (h.nx+2)<|.l aB<|eJ done++[iK a.pc a.bx a.mem r]).ob (h.nx+2)=aA (.l aB<|eJ<|done++[(r,a)]):=by rw[bO];unfold eJ;rw[eR];rfl
   have b:h.nx+4<=(g.C9 (h.nx+2)<|.l aB<|eJ done++[iK a.pc a.bx a.mem r]).nx:=H;generalize g.C9 (h.nx+2) (.l aB<|eJ done++[iK a.pc a.bx a.mem r])=h3 at c A C w l b ⊢;cases e:kN a r with
   |some f=>
    rw[e]at pr;have I:iK a.pc a.bx a.mem r = .tup [.int a.pc,.aG,.aG,.aG,.aG,f]:=by unfold iK aH.fZ;rw[show r.ft (iF a.bx r) (B3 a.mem:Int)=aA f from e]
    rw[I];obtain⟨xs,rfl⟩:=uk e;refine B7 (pE l)<|B5<|dZ (bR l) (v:=a.av) ((Xb (n:=1) '#' (by simp)).trans (by simp)) ?_;refine B5<|sP l (by simp;omega) ?_;exact q _ _ _ (c.C9 '!') '!' (bE '!' b) '!' (bE '!' b) ((bD '!').trans (by rw[w,pr]))<|bO.trans (by rw[pr,F];unfold nK;rw[eR,eI,fJ,e];rfl)
   |none=>
    rw[e]at pr;have so:=aPy ok hr e;have I:iK a.pc a.bx a.mem r = .tup [.int a.pc,r.fl,r.pl (iF a.bx r),r.br (iF a.bx r) (Bx a.bx a.mem r),.int (qO a r).pc,.aG]:=by unfold iK aH.fZ;rw[show r.ft (iF a.bx r) (B3 a.mem:Int)=aD from e];rfl
    rw[I];have tail:∀{B:aF->AH->Prop}{D:AV}{bx me:'0'} (d:AH),sy a r=bx->vz a r=me->Kp h d->h.nx+4<=d.nx->d.ob h.nx=aA (.l aB<|bx.map AV.int)->d.ob (h.nx+1)=aA (.l aB<|me.map AV.int)->d.ob (h.nx+2)=aA (.l aB<|eJ<|done++[(r,a)])->d.ob (h.nx+3)=aA (.l aB<|zs++[a.av]) ->
      dY (D1 pg<|k+2) aOf [aA (.ref nr),aA s.av,aA (.int 150),aA (.int (qO a r).pc),aA (.ref h.nx),aA (.ref<|h.nx+1),aA (.ref<|h.nx+2),aA (.ref<|h.nx+3),aA D] d (Ab h nr h.nx s rs<|i+1) R B (Ab h nr h.nx s rs<|i+1):=λ{B D bx me} d m p J nx4 q4 q5 q6 q7=>by
     refine B7 (pE q7)<|B5<|qX (bR q4)<|B5<|qX (bR q5)<|B5<|sP q7 (by simp;omega) ?_;subst m p;refine⟨qO a r,done++[(r,a)],_,zs++[a.av],J.C9 '!',nx4,rfl,(bD '!').trans q4,(bD '!').trans q5,(bD '!').trans q6,bO,by rw[F];unfold nK;rw[eR,eI,fJ,e];rfl,by simp[zl],by simp[dl],'!',so,?_⟩;rw[pr,wO,show 150-(i+1)=n from congrArg Nat.pred hn];rfl
    obtain⟨x,v,a1,a2,hx,m,p⟩|⟨x,v,a1,a2,a3,hp,m,p⟩|⟨a1,a2,m,p⟩:=stC hr e
    .rw[a1,a2];obtain⟨xn,rfl⟩:=zL hx.1;have hx2:=hx.2;exact ye A (Ci (by rw[aU,ok.bl];omega))<|tail _ m p (c.C9<|aW _) b (bO.trans (by rw[yq];rfl)) ((bD '!').trans C) ((bD '!').trans w)<|(bD '!').trans l
    .rw[a1,a2,a3];exact ye C (j:=x.toNat) (by unfold iS;rw[if_pos hp.1,if_pos (by rw[aU];exact hp.2)])<|tail _ m p (c.C9 '!') b ((bD '!').trans A) (bO.trans (by rw[yq])) ((bD '!').trans w)<|(bD '!').trans l
    .rw[a1,a2];exact tail _ m p c b A C w l
  .rw[aU]at z;exact fin<|HL (.inr z) ok.pc
  .unfold eJ at t;rw[aU,dl]at t;exact fin<|HL (.inl '!') ok.pc
 .refine⟨s,[],_,[],B6.C8.C8.C8.C8,aW _,rfl,?_,?_,?_,bC,rfl,rfl,rfl,'#',hs,rfl⟩
  .exact(dO (show h.nx≠h.nx+3 by omega)).trans ((dO (show h.nx≠h.nx+2 by omega)).trans ((dO (show h.nx≠h.nx+1 by omega)).trans bC))
  .exact(dO (show h.nx+1≠h.nx+3 by omega)).trans ((dO (show h.nx+1≠h.nx+2 by omega)).trans bC)
  .exact(dO (show h.nx+2≠h.nx+3 by omega)).trans bC
end
section
abbrev Dc(β:Type):=List (Int×β)
variable {β:Type}{e:β->AV}{l:Dc β}{v:β}
def dE(e:β->AV)(l:Dc β):List (aN×AV):=l.map λp=>(.inl p.1,e p.2)
def aX(l:Dc β)(x:Int):Option β:=(l.find? λp=>decide (p.1=x)).map (·.2)
def eW(l:Dc β)(x:Int)(v:β):Dc β:=if(l.any λp=>decide (p.1=x))=aB then l.map (λp=>if p.1=x then(p.1,v) else p) else l++[(x,v)]
def pZ(l:Dc β)(x:Int):Dc β:=l.filter λp=>decide (p.1≠x)
def Li:((wZ a:aN)=wZ b)=(a=b):=propext ⟨Sum.inl.inj,congrArg _⟩
def jR:bT (dE e l) (.inl x)=(aX l x).map e:=by unfold bT aX dE;rw[List.find?_map,QH,QH];simp only[qi,Li]
def yQ:gM (dE e l) (.inl x) (e v)=dE e (eW l x v):=by
 unfold gM eW dE;rw[NZ];simp only[qi,Li];split
 .rw[iP,iP];refine qo λp _=>?_;by_cases a:p.1=x
  .simp only[qi,a,if_true]
  .simp only[qi,if_neg a,if_neg (show¬(wZ p.1:aN)=wZ x by left)]
 .simp_all
def Jm:vA (dE e l) (.inl x)=dE e (pZ l x):=by unfold vA pZ dE;rw[OI];simp only[qi,ne_eq,Li]
theorem nT:B3 (dE e l)=B3 l:=aU ..
def HQ:B3 (eW l x v)<=B3 l+1:=by unfold eW;split<;>simp
def Dw(h:aX l x=aD):eW l x v=l++[(x,v)]:=by unfold eW;rw[if_neg];intro z;obtain⟨p,a,e⟩:=xd.1 z;exact y6.1 (B0.1 h) p a e
def lx(h:aX l x=aA v):(x,v)∈l:=by obtain⟨p,a,rfl⟩:=gT.1 h;have b:=yk a;simp only[decide_eq_true_eq]at b;subst b;exact(wQ a)
def nW(nd:(l.map (·.1)).Nodup)(h:(x,v)∈l):aX l x=aA v:=by
 unfold aX;induction l with
 |nil=>cases h|cons p l a=>
  rw[fJ,OY]at nd;rw[oG];rcases dT.1 h with rfl|h'
  .simp
  .have:decide (p.1=x)=aJ:=decide_eq_false λz=>nd.1 (bp.2 ⟨_,h',z.symm⟩);rw[this];exact a nd.2 h'
def jz{d c:Ex}{imp:AX}{rest:List (Option AV)}{f:Int×β->Bool}(hd:aM F d Z h = .ok (.ref n) h)(ho:h.ob n=aA (.aP<|dE e l))(hn:n<h.nx)(hl:B3 l<1000)(hs:mZ imp Z=aD::rest)
  (hc:∀p∈l,wT F c (aA (.int p.1)::rest) (h.C9 n<|.dX<|dE e l) λb h'=>b=f p/\h'=h.C9 n (.dX<|dE e l))
  (q:V1 (.ref h.nx) (h.C8<|.l aB<|(l.filter f).map λp=>AV.int p.1)):WC (aM F (.kD d<|.uX imp (.nm 0) (.aP d) c<|.var 0) Z) h V1:=by
 have E4:=lU;refine B5<|aVv hd ho hn ?_;rw[hs];refine Yy (λj a Z h'=>(∃v0,Z=v0::rest)/\a=(((l.take j).filter f).map λp=>AV.int p.1)/\h'=h.C9 n (.dX<|dE e l)) (by rw[aU,nT,eN];lia) ⟨⟨aD,rfl⟩,rfl,rfl⟩ (λj x a Z h' g y=>?_)<|λa Z h' y=>?_
 .obtain⟨⟨v0,rfl⟩,rfl,rfl⟩:=y;unfold dE at g;rw[iP,eQ]at g;obtain⟨p,hr,rfl⟩:=gT.1 g;have i:l.take (j+1)=l.take j++[p]:=by rw[wU,hr];rfl
  refine(oD c<|hc p<|bJ hr).D2 λb k z=>?_;obtain⟨rfl,rfl⟩:=z;split
  .rename_i hb;refine⟨?_,⟨_,rfl⟩,?_,rfl⟩
   .have m:B3 ((l.take j).filter f)<=B3 (l.take j):=zR _ _;grind
   .rw[i,Gg,eR,kF,if_pos hb];rfl
  .rename_i hb;refine⟨⟨_,rfl⟩,?_,rfl⟩;rw[i,Gg,kF,if_neg hb];simp
 .obtain⟨⟨v0,rfl⟩,rfl,rfl⟩:=y;refine⟨rfl,?_⟩;rw[aU,nT,ic];exact q
def p9{d c:Ex}{imp:AX}{rest:List (Option AV)}{f:Int×β->AV}(hd:aM F d Z h = .ok (.ref n) h)(ho:h.ob n=aA (.aP<|dE e l))(hn:n<h.nx)(hl:B3 l<1000)(hs:mZ imp Z=aD::rest)
  (hc:∀p∈l,wE F c (aA (.int p.1)::rest) (h.C9 n<|.dX<|dE e l) λv h'=>v=f p/\h'=h.C9 n (.dX<|dE e l))
  (q:V1 (.ref h.nx) (h.C8<|.l aB<|l.map f)):WC (aM F (.kD d<|.uW imp (.nm 0) (.aP d) c) Z) h V1:=by
 have E4:=lU;refine B5<|aVu hd ho hn ?_;rw[hs];refine g9 (λj a Z h'=>(∃v0,Z=v0::rest)/\a=(l.take j).map f/\h'=h.C9 n (.dX<|dE e l)) (by rw[aU,nT,eN];omega) ⟨⟨aD,rfl⟩,rfl,rfl⟩ (λj x a Z h' g y=>?_)<|λa Z h' y=>?_
 .obtain⟨⟨v0,rfl⟩,rfl,rfl⟩:=y;unfold dE at g;rw[iP,eQ]at g;obtain⟨p,hr,rfl⟩:=gT.1 g;refine(cK c<|hc p<|bJ hr).D2 λb i z=>?_;obtain⟨rfl,rfl⟩:=z;refine⟨?_,⟨_,rfl⟩,?_,rfl⟩
  .rw[aU,oH];lia
  .rw[wU,hr,eR];rfl
 .simp_all[nT]
end
variable {bg bg':Dc (Int×AG)}{eC gon' sto':Dc Int}{kf:Dc Nat}{kp':Dc (AG×AG)}
section
variable {β:Type}{e:β->AV}{l:Dc β}
def sE{a b:Nat}{x y:bA}(e1:h.ob a=aA x)(e2:h.ob b=aA y)(n:x≠y):a≠b:=λz=>n (by rw[z,e2]at e1;exact(cR e1).symm)
def Kx.get(g:Kx S h h'){o:Option bA}(hn:n<h.nx)(ns:n∉S)(e:h.ob n=o):h'.ob n=o:=(g.ob n hn ns).trans e
def Kx.kp{a b c:AH}(x:Kp a b)(y:Kx S b c):Kx S a c:=(Kx.of x).trans y
theorem Kx.C8{S:AU}{a b:AH}{o:bA}(x:Kx S a b):Kx S a (b.C8 o):=x.trans (Kx.of B6.C8)
def p5{t:Int}:pZ (l.filter λp=>!ts.contains p.1) t=l.filter λp=>!(ts++[t]).contains p.1:=by unfold pZ;rw[List.filter_filter];refine Sy λp _=>?_;by_cases z:p.1=t<;>simp[z]
def Y3{f:Int->Bool}{t:Int}(hf:f t=aB):aX (l.filter λp=>f p.1) t=aX l t:=by
 unfold aX;induction l with
 |nil=>rfl|cons p l a=>
  rw[kF];by_cases z:p.1=t
  .simp_all
  .have:decide (p.1=t)=aJ:=decide_eq_false z;split
   .rw[oG,oG,this];exact a
   .rw[oG,this];exact a
variable {B:aF->AH->Prop}
def Du{cs:AU}{f:cT}{fs:List (cT×AV)}{a c:Nat}(ha:Z[0]?=aA (aA<|.ref a))(hj:Z[j]?=aA (aA<|.ref n))(i0:i≠0)(il:i<B3 Z)
  (o:h.ob a=aA (.ins c fs))(hc:cs.contains c=aB)(hf:fs.lookup f=aA (.ref d))(od:h.ob d=aA (.aP<|dE e l))(on:h.ob n=aA (.l aB<|ts.map .int))(hd:d<h.nx)
  (ht:∀t∈ts,qw (aX l t))(nd:ts.Nodup)(hl:B3 ts<1000)
  (q:∀o' h',Kx [d] h h'->h'.nx=h.nx->h'.ob d=aA (.aP<|dE e<|l.filter λp=>!ts.contains p.1)->N (Z.set i o') h') :
  WB (dR F (.xY (.nm i) (.seq<|.var j)<|.cons (.expr<|.dm .pop (.lR cs f<|.var 0)<|.cons (.var i) .nil) .nil) Z) h N R B C:=by
 have ad:=sE o od (nofun);have r:=sE on od (nofun);refine WB.of<|mQ<|qZ<|B4 hj<|sQ on ?_;refine da (λk b h'=>(∃o',b=Z.set i o')/\Kx [d] h h'/\h'.nx=h.nx/\h'.ob d=aA (.aP<|dE e<|l.filter λp=>!(ts.take k).contains p.1)/\h'.ob n=aA (.l aB<|ts.map .int)/\h'.ob a=aA (.ins c fs)) (by rw[aU,eN];lia) ?_ (λ_ _ _ y=>y.2.2.2.2.1) (λk x b h' D y=>?_)<|λb h' y=>?_
 .refine⟨⟨Z[i],by simp⟩,Kx.refl,rfl,?_,on,o⟩;rw[od,List.take_zero,show(λp:Int×β=>!([]:'0').contains p.1)=λ_=>aB from rfl,xT.2 λ_ _=>rfl]
 .obtain⟨⟨o',rfl⟩,kx,nx,g,A,s⟩:=y;obtain⟨t,u,rfl⟩:=kO D;have tk:t∉ts.take k:=by rw[<- (dk.1 u).2];intro z;obtain⟨m,hm,e⟩:=Tb z;rw[oH]at hm;rw[OS]at e;have:=(Gm nd).1 e;lia
  have E:(aX (l.filter λp=>!(ts.take k).contains p.1) t)=aX l t:=Y3 (f:=λx=>!(ts.take k).contains x) (by simp[tk]);have v:=ht t (bJ u);rw[<- E]at v;obtain⟨w,hw⟩:=i'.1 v;have s0:((Z.set i o').set i (aA<|.int t))[0]?=aA (aA<|.ref a):=by left
  have s1:((Z.set i o').set i (aA<|.int t))[i]?=aA (aA<|.int t):=by left
  refine kE _ ?_;refine gR _ ?_;refine B4 s0<|B4 rfl ?_;refine B4 s<|B7 hc<|B4 hf ?_;refine B7 (rY g) ?_;refine B4 s1<|B4 rfl ?_;refine(B5<|Ri g rfl (by rw[jR,hw];rfl) ?_);rw[Jm,p5];refine⟨⟨_,by rw[Tu]⟩,kx.C9 (.head _),nx,?_,(bD r).trans A,(bD ad).trans s⟩;rw[bO,wU,u];rfl
 .obtain⟨⟨o',rfl⟩,kx,nx,g,A,s⟩:=y;rw[aU,ic]at g;exact q _ _ kx nx g
end
section
variable {k:Nat}{a:Nat}{wk:Dc (Int×Int)}
def jm(tb:A7)(d:Nat):List (cT×AV):=[("table",.tup (tb.map eZ)),("working",.ref d)]
structure rE(h:AH)(a d:Nat)(tb:A7)(wk:Dc (Int×Int)):Prop where
 o:h.ob a=aA (.ins 14<|jm tb d)
 od:h.ob d=aA (.aP<|dE eZ wk)
 ha:a<h.nx
 hd:d<h.nx
 hl:B3 wk<1000
 nd:(wk.map (·.1)).Nodup
def rE.Ro(B:rE h a d tb wk)(e:Z[i]?=aA (aA<|.ref a)):aM F (.lR [14] "working"<|.var i) Z h = .ok (.ref d) h:=kb (ph e) B.o rfl rfl
def rE.oz(B:rE h a d tb wk):(h.C9 d o).ob a=aA (.ins 14<|jm tb d):=(bD<|sE B.o B.od<|nofun).trans B.o
def rE.at{p:Int×Int×Int}(B:rE h a d tb wk)(hp:p∈wk):bT (dE eZ wk) (.inl p.1)=aA (eZ p.2):=by rw[jR,nW B.nd hp];rfl
def pD(wk:Dc (Int×Int))(g:Int):Int:=B3 (wk.filter λp=>decide (p.2.1=g))
def BR{g:Int}{t:Int×Int}(B:rE h a d tb wk)(hg:cZ (tb.map eZ) g=aA (eZ t))(q:∀h',Kp h h'->R (.int<|t.1-pD wk g) h'):WC (D1 pg (k+1) 86 [.ref a,.int g]) h R:=by
 refine aS rfl rfl<|jz (f:=λp=>decide (p.2.1=g)) (B.Ro rfl) B.od B.hd B.hl rfl (λp b=>?_) ?_
 .exact B4 B.oz<|B5<|Fj bO rfl (B.at b) ⟨rfl,rfl⟩
 .refine B4 (B6.C8.get B.ha B.o)<|B4 hg ?_;refine B5<|eP (bR bC) ?_;rw[aU];exact q _ B6.C8
def aPx{t g:Int}{c:Int×Int}(B:rE h a d tb wk)(hg:cZ (tb.map eZ) g=aA (eZ c))(hn:aX wk t=aD)(hf:pD wk g<c.1)(q:∀v h',Kx [d] h h'->h'.ob d=aA (.aP<|dE eZ<|wk++[(t,g,now+c.2)])->R v h'):WC (D1 pg (k+2) 87 [.ref a,.int t,.int g,.int now]) h R:=by refine aS rfl rfl<|B4 B.o<|B5<|gm B.od rfl ?_;rw[jR,hn];refine B4 rfl<|B4 B.o<|BR B hg λe k1=>C4 (by lia) ?_;have b:=k1.get B.ha B.o;refine B4 b<|B4 hg<|B4 b<|zJ (k1.get B.hd B.od) rfl (by have:=B.hl;have:=lU;rw[nT];lia) ?_;refine q _ _ ((Kx.of k1).C9 (.head _)) ?_;rw[bO,show AV.tup [.int g,.int (now+c.2)]=eZ (g,now+c.2) from rfl,yQ,Dw hn]
def rP(wk:Dc (Int×Int))(now:Int):'0':=(wk.filter λp=>decide (p.2.2<=now)).map (·.1)
def Bk{β:Type}{wk:Dc β}{f:Int×β->Bool}(nd:(wk.map (·.1)).Nodup)(ht:∀x,x∈ts↔x∈(wk.filter f).map (·.1)):(wk.filter λp=>!ts.contains p.1)=wk.filter λp=>!f p:=by
 refine Sy λp b=>?_;congr 1
 rw[qf,y8,ht,bp];constructor
 .rintro ⟨d,a,e⟩
  obtain⟨a,g⟩:=gi.1 a;have c:=nW nd a;rw[e,nW nd b]at c;have:d=p:=Ud e (cR c).symm;rw[<- this];exact g
 .exact λz=>⟨p,gi.2 ⟨b,z⟩,rfl⟩
def Bj{β:Type}{wk:Dc β}{f:Int×β->Bool}(nd:(wk.map (·.1)).Nodup):∀t∈(wk.filter f).map (·.1),qw (aX wk t):=λt ht=>by obtain⟨p,a,rfl⟩:=bp.1 ht;rw[nW nd (gi.1 a).1];rfl
def pH{β:Type}{l:Dc β}{f:Int×β->Bool}(nd:(l.map (·.1)).Nodup):((l.filter f).map (·.1)).Nodup:=wN (pV.map _) nd
def Qa(r:Bool)(ns:'0'):(lK r ns).Perm ns:=OX ..
def q8(B:rE h a d tb wk)(hl:B3 wk<64)(q:∀n h',Kx [d] h h'->h'.ob d=aA (.aP<|dE eZ<|wk.filter λp=>!decide (p.2.2<=now))->h.nx<=n->n<h'.nx->h'.ob n=aA (.l aB<|(lK aJ<|rP wk now).map .int)->R (.ref n) h'):WC (D1 pg (k+1) 88 [.ref a,.int now]) h R:=by
 have pm:=Qa aJ (rP wk now);refine aS rfl rfl<|jz (f:=λp=>decide (p.2.2<=now)) (B.Ro rfl) B.od B.hd B.hl rfl (λp c=>?_) ?_
 .exact B4 B.oz<|B5<|Fj bO rfl (B.at c) ⟨rfl,rfl⟩
 have lf:B3 (rP wk now)<=B3 wk:=by unfold rP;rw[aU];exact zR ..
 refine B5<|aUk (ns:=rP wk now) (by rw[bC];unfold rP;rw[iP];rfl) (ie ‹_› ‹_›) ?_;refine Du rfl rfl '#' (show 3<4 by decide) (B6.C8.C8.get B.ha B.o) rfl rfl (B6.C8.C8.get B.hd B.od) bC (kH<|kH B.hd) (λt ht=>Bj B.nd t (pm.mem_iff.1 ht)) (pm.nodup_iff.2<|pH B.nd) (by rw[pm.length_eq];lia) λe h' kx nx b=>?_;rw[Bk B.nd λx=>pm.mem_iff]at b;exact q (h.nx+1) h' (Kx.kp B6.C8.C8 kx) b (iG _) (by rw[nx];exact cD _)<|kx.get (cD _) (by simp;have:=B.hd;lia) bC
def ZH{t:Int}(B:rE h a d tb wk)(q:∀v h',Kx [d] h h'->h'.ob d=aA (.aP<|dE eZ<|wk.filter λp=>!decide (t<=p.1))->R v h'):WC (D1 pg (k+1) 90 [.ref a,.int t]) h R:=by refine aS rfl rfl<|jz (B.Ro rfl) B.od B.hd B.hl rfl (λp c=>⟨rfl,rfl⟩) ?_;refine Du rfl rfl '#' (show 3<4 by decide) (B6.C8.get B.ha B.o) rfl rfl (B6.C8.get B.hd B.od) (by rw[bC,iP];rfl) (kH B.hd) (Bj B.nd) (pH B.nd) (by rw[aU];exact ie (zR ..) B.hl) λe h' kx nx b=>?_;rw[Bk B.nd λx=>Sm]at b;refine B5<|eP (bR<|kx.get (cD _) (by simp;have:=B.hd;lia) bC)<|q _ h' (Kx.kp B6.C8 kx) b
end
section
variable {k:Nat}{a b:Nat}{kp:Dc (AG×AG)}
def lS(p:AG×AG):AV:=.tup [oI p.1,oI p.2]
def mU(p:Int×AG):AV:=.tup [.int p.1,oI p.2]
structure lP(h:AH)(a d b:Nat)(kp:Dc (AG×AG))(bg:Dc (Int×AG)):Prop where
 o:h.ob a=aA (.ins 16 [("kept",.ref d),("begun",.ref b)])
 od:h.ob d=aA (.aP<|dE lS kp)
 ob:h.ob b=aA (.aP<|dE mU bg)
 ha:a<h.nx
 hd:d<h.nx
 hb:b<h.nx
 ne:d≠b
 lk:B3 kp<64
 lb:B3 bg<64
 nk:(kp.map (·.1)).Pairwise (·<·)
 nb:(bg.map (·.1)).Nodup
def lP.nd(S:lP h a d b kp bg):(kp.map (·.1)).Nodup:=S.nk.imp λh=>by lia
def lP.oz(S:lP h a d b kp bg):(h.C9 d o).ob a=aA (.ins 16 [("kept",.ref d),("begun",.ref b)]):=(bD<|sE S.o S.od<|nofun).trans S.o
def aQb{t:Int}(S:lP h a d b kp bg)(hb:aX bg t=aD)(hk:∀p∈kp,p.1<t)(q:∀v h',Kx [d] h h'->h'.ob d=aA (.aP<|dE lS<|kp++[(t,aD,aD)])->R v h'):WC (D1 pg (k+1) 97 [.ref a,.int t]) h R:=by
 have hn:aX kp t=aD:=B2.2 λv e=>by have:=hk _ (lx e);lia
 refine aS rfl rfl<|B4 S.o<|B5<|gm S.ob rfl ?_;rw[jR,hb];refine B4 rfl<|p9 (kb (ph rfl) S.o rfl rfl) S.od S.hd (by have:=S.lk;lia) rfl (λp c=>⟨rfl,rfl⟩) ?_;refine B5<|aTq (by rw[bC,iP];rfl) ?_;rw[show(kp.map λp=>decide (t<=p.1)).any id=aJ from by
  rw[NZ,NY];intro p c;have:=hk p c;simp;omega]
 have k1:Kp h (h.C8<|.l aB<|kp.map λp=>AV.bl (decide<|t<=p.1)):=B6.C8;refine B4 (k1.get S.ha S.o)<|zJ (k1.get S.hd S.od) rfl (by have:=S.lk;have:=lU;rw[nT];lia) ?_;refine q _ _ ((Kx.of k1).C9 (.head _)) ?_;rw[bO,show AV.tup [.aG,.aG]=lS (aD,aD) from rfl,yQ,Dw hn]
def aUw{t:Int}{p:'+'}(S:lP h a d b kp bg)(hk:aX kp t=aA (p,aD))(q:∀v,R v (h.C9 d<|.aP<|dE lS<|eW kp t (p,aA w))):WC (D1 pg (k+1) 100 [.ref a,.int t,.int w]) h R:=by refine aS rfl rfl<|B4 S.o<|B7 rfl<|B4 rfl<|B7 (rY S.od)<|B5<|Rh S.od rfl ?_;rw[jR,hk];refine B4 S.o<|zJ S.od rfl (by have:=S.lk;have:=lU;rw[nT];omega) ?_;rw[show AV.tup [oI p,.int w]=lS (p,aA w) from rfl,yQ];exact q _
def Y4{t:Int}{g:'+'}(S:lP h a d b kp bg)(hb:aX bg t=aD)(hk:aX kp t=aD)(q:∀v,R v (h.C9 b<|.aP<|dE mU<|bg++[(t,p,g)])):WC (D1 pg (k+1) 102 [.ref a,.int t,.int p,oI g]) h R:=by refine aS rfl rfl<|B4 S.o<|B5<|gm S.ob rfl ?_;rw[jR,hb];refine B4 rfl<|B4 S.o<|B5<|gm S.od rfl ?_;rw[jR,hk];refine B4 rfl<|B4 S.o<|zJ S.ob rfl (by have:=S.lb;have:=lU;rw[nT];lia) ?_;rw[show AV.tup [.int p,oI g]=mU (p,g) from rfl,yQ,Dw hb];exact q _
def X7{t:Int}{v:AG×AG}(S:lP h a d b kp bg)(hk:aX kp t=aA v)(q:∀v,R v (h.C9 d<|.aP<|dE lS<|pZ kp t)):WC (D1 pg (k+1) 103 [.ref a,.int t]) h R:=by refine aS rfl rfl<|B4 S.o<|B5<|gm S.od rfl ?_;rw[jR,hk];refine B4 rfl<|B4 S.o<|B7 rfl<|B4 rfl<|B7 (rY S.od)<|B5<|Ri S.od rfl (by rw[jR,hk];rfl) ?_;rw[Jm];exact q _
def X6{t:Int}{v:Int×AG}(S:lP h a d b kp bg)(hk:aX kp t=aD)(hb:aX bg t=aA v)(q:∀v,R v (h.C9 b<|.aP<|dE mU<|pZ bg t)):WC (D1 pg (k+1) 103 [.ref a,.int t]) h R:=by refine aS rfl rfl<|B4 S.o<|B5<|gm S.od rfl ?_;rw[jR,hk];refine B4 rfl<|B4 S.o<|B5<|gm S.ob rfl ?_;rw[jR,hb];refine B4 rfl<|B4 S.o<|B7 rfl<|B4 rfl<|B7 (rY S.ob)<|B5<|Ri S.ob rfl (by rw[jR,hb];rfl) ?_;rw[Jm];exact q _
end
section
variable {k:Nat}{a b:Nat}{kp:Dc (AG×AG)}
def Kx.putN{x y:AH}(g:Kx S x y)(hn:x.nx<=n):Kx S x (y.C9 n o):=⟨g.nx,λm hm a=>(bD<|bZ<|bE hm hn).trans (g.ob m hm a)⟩
def Kx.Qp{x y:AH}(g:Kx [n] x y)(e:x.ob n=aA o):Kp x (y.C9 n o):=⟨g.nx,λm hm=>by
 by_cases z:m=n
 .rw[z,bO,e]
 .exact(bD z).trans (g.ob m hm (by simpa))⟩
def lE(t p:Int)(q:Int×Int×AG):Bool:=decide (t<q.1)&&(decide (q.2.1=p)&&match q.2.2 with|none=>aB|some g=>decide (g<t))
def ZA{t:Int}(S:lP h a d b kp bg)(q:∀n h',Kp h h'->h'.ob n=aA (.l aB<|(bg.filter<|lE t p).map λq=>.int q.1)->R (.ref n) h'):WC (D1 pg (k+1) 99 [.ref a,.int t,.int p]) h R:=by
 have E4:=lU;have lb:=S.lb;have hb:=S.hb;have s:Kp h (h.C8<|.l aB []):=B6.C8;refine aS rfl rfl<|WB.of<|aWh (kb (ph rfl) (s.get S.ha S.o) rfl rfl) (s.get hb S.ob) ?_;refine M6 (λj u h'=>(∃v4 f,u=[aA (.ref a),aA (.int t),aA (.int p),aA (.ref h.nx),v4,f])/\Kx [b] h h'/\h'.ob b=aA (.dX<|dE mU bg)/\h'.ob h.nx=aA (.l aB<|((bg.take j).filter (lE t p)).map λq=>.int q.1)/\h.nx<h'.nx) (by rw[aU,nT,eN];lia) ?_ (λj x u h' w y=>?_)<|λu h' y=>?_
 .exact⟨⟨_,_,rfl⟩,(Kx.of s).C9 (by simp),bO,(bD<|oO hb).trans bC,cD _⟩
 .obtain⟨⟨v4,f,rfl⟩,kx,c,r,lt⟩:=y;unfold dE at w;rw[iP,eQ]at w;obtain⟨⟨o,pl,g⟩,hr,rfl⟩:=gT.1 w;have A:=kx.get S.ha (by simpa using sE S.o S.ob (nofun)) S.o;have B:bT (dE mU bg) (.inl o)=aA (.tup [.int pl,oI g]):=by rw[jR,nW S.nb (bJ hr)];rfl
  have D:bg.take (j+1)=bg.take j++[(o,pl,g)]:=by rw[wU,hr];rfl
  have no:lE t p (o,pl,g)=aJ->h'.ob h.nx=aA (.l aB<|((bg.take<|j+1).filter (lE t p)).map λq=>.int q.1):=λe=>by left
  have yes:lE t p (o,pl,g)=aB->WC (vE (.ref h.nx)<|.int o) h' λ_ i=>Kx [b] h i/\i.ob b=aA (.dX<|dE mU bg)/\i.ob h.nx=aA (.l aB<|((bg.take<|j+1).filter (lE t p)).map λq=>.int q.1)/\h.nx<i.nx:=λe=>by
   have l1:B3 ((bg.take j).filter (lE t p))<=B3 (bg.take j):=zR ..;have l2:B3 (bg.take j)<=B3 bg:=by rw[oH];lia
   refine B5<|sP r (by grind) ⟨kx.putN (aW _),(bD<|bZ hb).trans c,?_,lt⟩;simp_all[bO,D,e]
  refine kE _<|gR _<|B4 A<|B5<|Fj c rfl B ?_;refine C1 (λl=>?_) λl=>⟨⟨_,_,rfl⟩,kx,c,no (by unfold lE;rw[decide_eq_false l];rfl),lt⟩;refine B4 A<|B5<|Fj c rfl B<|C1 (λm=>?_) λm=>⟨⟨_,_,rfl⟩,kx,c,no (by unfold lE;rw[decide_eq_false m,Bool.false_and,Bool.and_false]),lt⟩;have fin:=λe=>B5 ((yes e).we.D2 λv i z=>(show(∃v4 f,[aA (.ref a),aA (.int t),aA (.int p),aA (.ref h.nx),aA (.int o),aA (oI g)]=[aA (.ref a),aA (.int t),aA (.int p),aA (.ref h.nx),v4,f])/\_ from⟨⟨_,_,rfl⟩,z⟩));cases g with
  |none=>exact B7 (pE r)<|fin (by unfold lE;rw[decide_eq_true l,decide_eq_true m];rfl)|some g=>exact C1 (λC=>B7 (pE r) (fin (by unfold lE;rw[decide_eq_true l,decide_eq_true m];exact decide_eq_true C))) λC=>⟨⟨_,_,rfl⟩,kx,c,no (by simp_all[lE,decide_eq_true,l,m]),lt⟩
 .obtain⟨⟨v4,f,rfl⟩,kx,c,r,lt⟩:=y;refine⟨c,q _ _ (kx.Qp S.ob) ((bD<|oO hb).trans ?_)⟩;simp_all[nT]
end
section
variable {k:Nat}{a b:Nat}{kp:Dc (AG×AG)}
def wc(l:'0'):'+':=if l.isEmpty then aD else aA (sC l)
def mV(bg:Dc (Int×AG))(t p:Int):'+':=wc ((bg.filter<|lE t p).map (·.1))
def FR(h:d<n):n∉[d]:=λz=>by rw[a'.1 z]at h;exact nQ _ h
def Dv{β:Type}{l:Dc β}{v w:β}(h:aX l x=aA w):(eW l x v).map (·.1)=l.map (·.1):=by unfold eW;rw[if_pos (xd.2 ⟨_,lx h,by simp⟩),iP];refine qo λp _=>?_;simp only[qi];split<;>rfl
def lP.F2{t:Int}{v w:AG×AG}(S:lP h a d b kp bg)(hk:aX kp t=aA w):lP (h.C9 d<|.aP<|dE lS<|eW kp t v) a d b (eW kp t v) bg:=
 ⟨S.oz,bO,(bD S.ne.symm).trans S.ob,S.ha,S.hd,S.hb,S.ne,by rw[<- aU,Dv hk,aU];exact S.lk,S.lb,by rw[Dv hk];exact S.nk,S.nb⟩
def aFp{t:Int}{w:'+'}(S:lP h a d b kp bg)(hk:aX kp t=aA (aD,w))(q:∀h',Kp (h.C9 d<|.aP<|dE lS<|eW kp t (aA p,w)) h'->R (oI<|mV bg t p) h'):WC (D1 pg (k+2) 98 [.ref a,.int t,.int p]) h R:=by
 refine aS rfl rfl<|B4 S.o<|B7 rfl<|B4 rfl<|B7 (rY S.od)<|B5<|Rh S.od rfl ?_;rw[jR,hk];refine B4 S.o<|zJ S.od rfl (by have:=S.lk;have:=lU;rw[nT];lia) ?_;rw[show AV.tup [.int p,oI w]=lS (aA p,w) from rfl,yQ];have e:=S.F2 (v:=(aA p,w)) hk;refine B4 e.o<|ZA e λn h' c on=>?_;refine B5<|aUc (by rw[on,iP];rfl) ?_;have:=q h' c;unfold mV wc at this;split at this<;>rename_i z
 .rw[if_pos z];exact this
 .rw[if_neg z];exact this
def pG(p:Int)(dr:Bool):List (Int×AG×AG)->Option (Option<|Int×Int)
 |[]=>aA aD
 | (t,sp,w)::l=>if sp=aD/\dr=aJ then aD else if sp=aA p then w.map λw=>aA (t,w) else pG p dr l
def Y6:Option (Option<|Int×Int)->AV
 |none=>.aG
 |some aD=>.tup [.aG,.aG]
 |some (aA (t,w))=>.tup [.int t,.int w]
def Z0{t:Int}(S:lP h a d b kp bg)(q:∀h',Kp h h'->R (Y6<|pG p dr (kp.filter λq=>decide (q.1<t)).reverse) h'):WC (D1 pg (k+1) 101 [.ref a,.int t,.int p,.bl dr]) h R:=by
 have lk:=S.lk;have lf:B3 (kp.filter λq=>decide (q.1<t))<=B3 kp:=zR ..;refine aS rfl rfl<|jz (kb (ph rfl) S.o rfl rfl) S.od S.hd (by lia) rfl (λp D=>⟨rfl,rfl⟩) ?_;have g:lK aB ((kp.filter λq=>decide (q.1<t)).map (·.1))=((kp.filter λq=>decide (q.1<t)).reverse.map (·.1)):=by rw[OW];exact aPm<|wN (pV.map _) S.nk
 refine WB.of<|mQ<|qZ<|B5<|aUl (by rw[bC,iP];rfl) (by rw[aU];omega) ?_;rw[g];generalize r:(kp.filter λq=>decide (q.1<t)).reverse=l at q ⊢;have E:B3 l<64:=by rw[<- r,OT];omega
 have hm:∀q∈l,q∈kp:=λq s=>by rw[<- r]at s;exact(gi.1<|xS.1 s).1
 refine sQ bC ?_;have k2:∀{A B:bA},Kp h ((h.C8 A).C8 B):=B6.C8.C8;refine da (λj i h'=>(∃m v6 n,i=[aA (.ref a),aA (.int t),aA (.int p),aA (.bl dr),aA (.ref h.nx),m,v6,n])/\Kp h h'/\pG p dr l=pG p dr (l.drop j)/\h'.ob (h.nx+1)=aA (.l aB<|(l.map (·.1)).map .int)) (by rw[aU,aU,eN];lia) ⟨⟨_,_,_,rfl⟩,k2,rfl,bC⟩ (λ_ _ _ y=>y.2.2.2) (λj x i h' u y=>?_)<|λi h' y=>?_
 .obtain⟨⟨m,v6,n,rfl⟩,kx,e,on⟩:=y;rw[iP]at u;obtain⟨⟨o,sp,w⟩,hr,rfl⟩:=kO u;have C:l.drop j=(o,sp,w)::l.drop (j+1):=by rw[OE ((dk.1 hr).1),(dk.1 hr).2]
  rw[C]at e;have v:=kx.get S.ha S.o;have od:=kx.get S.hd S.od;have z:bT (dE lS kp) (.inl o)=aA (.tup [oI sp,oI w]):=by rw[jR,nW S.nd (hm _<|bJ hr)];rfl
  have f:=q h' kx;rw[e]at f;refine kE _<|gR _<|B4 v<|B5<|xw od rfl z<|B4 v<|B5<|xw od rfl z ?_;cases sp with
  |none=>
   cases dr with
   |false=>exact f|true=>exact B5<|Fi rfl ⟨⟨_,_,_,rfl⟩,kx,e,on⟩
  |some sp=>
   refine C1 (λc=>?_) λc=>⟨⟨_,_,_,rfl⟩,kx,?_,on⟩
   .subst c;unfold pG at f;rw[if_pos rfl]at f;cases w<;>exact f
   .rw[e];show(if aA sp=aD/\dr=aJ then aD else if aA sp=aA p then _ else _)=_;left
 .obtain⟨⟨m,v6,n,rfl⟩,kx,e,on⟩:=y;rw[aU,aU,Gf]at e;have f:=q h' kx;rw[e]at f;exact f
def aPz{t:Int}(S:lP h a d b kp bg)(q:∀v h',Kx [d,b] h h'->h'.ob d=aA (.aP<|dE lS<|kp.filter λp=>!decide (t<=p.1))->h'.ob b=aA (.aP<|dE mU<|bg.filter λp=>!decide (t<=p.1))->R v h'):WC (D1 pg (k+1) 104 [.ref a,.int t]) h R:=by
 have lk:=S.lk;have lb:=S.lb;have k1:∀{o:bA},Kp h (h.C8 o):=B6.C8;refine aS rfl rfl<|jz (f:=λq=>decide (t<=q.1)) (kb (ph rfl) S.o rfl rfl) S.od S.hd (by lia) rfl (λp w=>⟨rfl,rfl⟩) ?_;refine(jz (f:=λq=>decide (t<=q.1)) (kb (ph rfl) (k1.get S.ha S.o) rfl rfl) (k1.get S.hb S.ob) (kH S.hb) (by lia) rfl (λp w=>⟨rfl,rfl⟩) ?_);have k2:∀{y A:bA},Kp h ((h.C8 y).C8 A):=B6.C8.C8;have hd:=S.hd;have hb:=S.hb;refine Du (e:=lS) (l:=kp) (ts:=(kp.filter λp=>decide (t<=p.1)).map (·.1)) (j:=2) (n:=h.nx) rfl rfl '#' (show 4<5 by decide) (k2.get S.ha S.o) rfl rfl (k2.get S.hd S.od) (by rw[dO (bZ<|cD h.nx),bC,iP];rfl) (bE hd k2.nx) (Bj S.nd) (pH S.nd) (by grind) λE B kx nx s=>?_;have g:=Kx.kp k2 kx;refine Du (e:=mU) (l:=bg) (ts:=(bg.filter λp=>decide (t<=p.1)).map (·.1)) (j:=3) (n:=h.nx+1) rfl rfl '#' (show 4<5 by decide) (g.get S.ha (by simpa using sE S.o S.od (λz=>nomatch z)) S.o) rfl rfl (g.get hb (by simpa using S.ne.symm) S.ob) ((kx.get (cD _) (FR<|kH hd) bC).trans (by rw[iP];rfl)) (bE hb g.nx) (Bj S.nb) (pH S.nb) (by grind) λC i c D u=>?_;rw[Bk S.nd λx=>Sm]at s;rw[Bk S.nb λx=>Sm]at u;have F:h.nx+2<=B.nx:=by rw[nx];exact aW _
 have m:∃xs,i.ob h.nx=aA (.l aB xs):=⟨_,c.get (kG ‹_›) (by simp;lia) (kx.get (kH<|cD _) (by simp;lia)<|(dO<|bZ<|cD h.nx).trans bC)⟩;have r:∃xs,i.ob (h.nx+1)=aA (.l aB xs):=⟨_,c.get ‹_› (by simp;lia) (kx.get (cD _) (FR<|kH hd) bC)⟩;obtain⟨G,m⟩:=m;obtain⟨H,r⟩:=r;refine B5<|eP (bR m)<|B5<|eP (bR r)<|q _ i ?_ ?_ u
 .exact(g.sub (by simp)).trans (c.sub (by simp))
 .exact c.get (bE hd g.nx) (by simpa using S.ne) s
end
section
variable {k:Nat}{a:Nat}{fl:Int->AW}
structure lO(h:AH)(a d:Nat)(kf:Dc Nat)(fl:Int->AW):Prop where
 o:h.ob a=aA (.ins 15 [("filled",.ref d)])
 od:h.ob d=aA (.aP<|dE AV.ref kf)
 ha:a<h.nx
 hd:d<h.nx
 nd:(kf.map (·.1)).Nodup
 lk:B3 kf<64
 ls:∀x f,aX kf x=aA f->f<h.nx/\h.ob f=aA (.l aB<|(fl x).map .int)
 no:∀x,aX kf x=aD->fl x=[]
 inj:∀x y f,aX kf x=aA f->aX kf y=aA f->x=y
 lf:∀x,B3 (fl x)<100000
def lO.D7(S:lO h a d kf fl)(g:Kp h h'):lO h' a d kf fl:=⟨g.get S.ha S.o,g.get S.hd S.od,bE S.ha g.nx,bE S.hd g.nx,S.nd,S.lk,λx f e=>⟨bE (S.ls x f e).1 g.nx,g.get (S.ls x f e).1 (S.ls x f e).2⟩,S.no,S.inj,S.lf⟩
def lO.ld(S:lO h a d kf fl){f:Nat}(e:aX kf x=aA f):f≠d:=sE (S.ls x f e).2 S.od (nofun)
def lO.la(S:lO h a d kf fl){f:Nat}(e:aX kf x=aA f):f≠a:=sE (S.ls x f e).2 S.o (nofun)
def EA{l:'0'}{t:Int}(e:l.getLast?=aA t):cZ (l.map AV.int) (-1)=aA (.int t):=by
 have hl:l≠[]:=λz=>by rw[z]at e;exact bU e
 have:=List.length_pos_iff.2 hl;rw[show -1 = -((1:Nat):Int) from rfl,Xb '#' (by rw[aU];exact this),aU,eQ];rw[aXc]at e;rw[e];rfl
def CV(S:lO h a d kf fl)(q:∀h',Kp h h'->R (oI (fl x).getLast?) h'):WC (D1 pg (k+1) 93 [.ref a,.int x]) h R:=by
 have k1:∀{o:bA},Kp h (h.C8 o):=B6.C8;have k2:∀{i j:bA},Kp h ((h.C8 i).C8 j):=B6.C8.C8;have fin:∀{n:Nat} {h':AH}{o:bA},Kp h (h'.C8<|.l aB [])->n≠h'.nx->h'.ob n=aA (.l aB<|(fl x).map .int)->WC (Cp.g .ne (.ref n)<|.ref h'.nx) (h'.C8<|.l aB []) λz g=>aC (sZ z) λb=>aE b (WC (Op.g .ix (.ref n)<|.int<|-1) g R) (R .aG g):=λ{n h' o} kp hn on=>by
  have c:=(dO (o:=.l aB []) hn).trans on;refine B5<|MV rfl (Bg c bC) ?_;cases e:(fl x).getLast? with
  |none=>have:=q _ kp;rw[e]at this;rw[(List.getLast?_eq_none_iff.1 e)];exact this
  |some t=>
   have hl:¬((fl x).map AV.int=[]):=λz=>by rw[BE.1 z]at e;exact bU e
   rw[decide_eq_false hl];have:=q _ kp;rw[e]at this;exact B5<|dZ (bR c) (EA e) this
 refine aS rfl rfl<|B4 S.o<|B7 rfl<|B4 rfl<|B7 (rY S.od)<|B5<|MO (k1.get S.hd S.od) rfl ?_;rw[jR];cases e:aX kf x with
 |none=>exact fin (o:=.l aB []) k2 (bZ<|cD _) (by rw[S.no x e];exact bC)|some f=>have lf:=S.ls x f e;exact fin (o:=.l aB []) k2 (bZ<|kH lf.1)<|k1.get lf.1 lf.2
def O8{xs:'0'}(S:lO h a d kf fl)(hx:B3 xs<64)(q:∀h',Kp h h'->R (.tup<|xs.map λx=>oI (fl x).getLast?) h'):WC (D1 pg (k+2) 94 [.ref a,.tup (xs.map .int)]) h R:=by
 have E4:=lU;refine aS rfl rfl ?_;refine B5<|zI ?_;refine qZ<|B4 rfl<|B4 rfl<|aUq ?_;refine i5 (λj b c h'=>(∃v0,c=[v0,aA (.ref a)])/\b=(xs.take j).map (λx=>oI (fl x).getLast?)/\Kp h h') (by rw[aU,eN];lia) ⟨⟨_,rfl⟩,rfl,B6⟩ (λj x b c h' hx y=>?_)<|λb c h' y=>?_
 .obtain⟨⟨v0,rfl⟩,rfl,kp⟩:=y;obtain⟨x,hr,rfl⟩:=kO hx;refine cK _ (B4 (kp.get S.ha S.o)<|CV (S.D7 kp) λe k2=>⟨?_,⟨_,rfl⟩,?_,kp.trans k2⟩)
  .rw[aU,oH];lia
  .rw[wU,hr,eR];rfl
 .obtain⟨⟨v0,rfl⟩,rfl,kp⟩:=y;rw[aU,ic];exact B5<|qX (bR bC)<|q _ kp.C8
end
section
variable {k:Nat}{a:Nat}{fl:Int->AW}
def MU(e:h.ob n=aA (.aP kvs))(q:V1 (.ref h.nx) (h.C8<|.l aB<|kvs.map λp=>tO p.1)):We (Bi.g .list [.ref n]) h V1:=by show We (dj [.ref n]) h V1;unfold We dj pI kQ;simp_all[fI,Ji,e]
def lW(fl:Int->'0')(x:Int)(l:'0'):Int->'0':=λy=>if y=x then l else fl y
def DU:(dE AV.ref kf).map (λp=>tO p.1)=kf.map λp=>AV.int p.1:=by unfold dE;rw[iP];rfl
structure Wb(h h':AH)(d x:Nat)(kf kf':Dc Nat)(b:Int):Prop where
 kx:Kx (d::(aX kf b).toList) h h'
 old:∀y,y≠b->aX kf' y=aX kf y
 C8:∃f,aX kf' b=aA f/\(aX kf b=aA f\/aX kf b=aD/\h.nx<=f)
def vx{β:Type}{l:Dc β}{v:β}:aX (l++[(x,v)]) y=(aX l y).or (if x=y then aA v else aD):=by unfold aX;rw[OK,Option.map_or];by_cases z:x=y<;>simp[z]
def L4{t:Int}(S:lO h a d kf fl)(hk:B3 kf<60)(hf:∀y u,(fl y).getLast?=aA u->u<t)(hl:B3 (fl x)<99999)(q:∀v kf' h',lO h' a d kf' (lW fl x<|fl x++[t])->Wb h h' d 0 kf kf' x->B3 kf'<=B3 kf+1->R v h'):WC (D1 pg (k+2) 92 [.ref a,.int t,.int x]) h R:=by
 have E4:=lU;have K:B3 (kf.map λp=>AV.int p.1)=B3 kf:=aU ..;refine aS rfl rfl<|WB.of<|mQ<|qZ<|B4 S.o<|B5<|MU S.od ?_;rw[DU];refine sQ bC ?_;generalize D:h.C8 (.l aB<|kf.map λp=>AV.int p.1)=h0;have H:=D▸B6.C8;have L:h.nx<h0.nx:=by rw[<- D];exact cD _
 have on:=D▸bC;refine da (n:=h.nx) (λj E h'=>(∃F v4,E=[aA (.ref a),aA (.int t),aA (.int x),F,v4])/\Kp h0 h') (by rw[K,eN];lia) ⟨⟨_,_,rfl⟩,B6⟩ (λ_ _ _ y=>y.2.get L on) (λj y E h' M z=>?_)<|λE h' z=>?_
 .obtain⟨⟨F,v4,rfl⟩,kp⟩:=z;obtain⟨p,hr,rfl⟩:=kO M;have i:=S.D7 (H.trans kp);refine kE _<|gR _<|B4 i.o<|CV (k:=k) i λQ k2=>?_;have m:=kp.trans k2;cases e:(fl p.1).getLast? with
  |none=>exact⟨⟨_,_,rfl⟩,m⟩|some u=>exact C4 (by have:=hf _ _ e;lia) ⟨⟨_,_,rfl⟩,m⟩
 .obtain⟨⟨F,v4,rfl⟩,kp⟩:=z;have m:=H.trans kp;have i:=S.D7 m;have k1:∀{o:bA},Kp h' (h'.C8 o):=B6.C8;have b:=i.D7 (k1 (o:=.l aB []));have nx:=m.nx;refine B4 i.o (B7 rfl<|B4 rfl<|B7 (rY i.od)<|B5<|aTr b.od rfl (by rw[nT];lia) (λv e=>?_) λe=>?_)
  .rw[jR]at e;obtain⟨f,l,rfl⟩:=gT.1 e;obtain⟨f1,f2⟩:=b.ls x f l;refine B7 (pE f2)<|B5<|sP f2 (by rw[aU];have:sizeLine=16777216:=lB;lia) ?_;refine q _ kf _ ⟨(bD (b.la l).symm).trans b.o,(bD (b.ld l).symm).trans b.od,b.ha,b.hd,S.nd,S.lk,λy g c=>?_,λy r=>?_,S.inj,λy=>?_⟩ ⟨((Kx.of<|m.trans k1).C9 (by rw[l];simp)),λ_ _=>rfl,f,l,.inl l⟩ (iG _)
   .refine⟨(b.ls y g c).1,?_⟩;unfold lW;by_cases z:y=x
    .simp_all[l,bO]
    .rw[if_neg z,bD (show g≠f from λw=>z (S.inj y x f (w▸c) l))];exact(b.ls y g c).2
   .unfold lW;rw[if_neg λz=>by rw[z,l]at r;cases r];exact S.no y r
   .unfold lW;split
    .rw[dU];exact zS hl
    .exact S.lf y
  .rw[jR,B0]at e;have f0:=S.no x e;rw[yQ,Dw e];have I:=oO i.hd;have J:((h'.C8<|.l aB []).C9 d (.aP<|dE AV.ref<|kf++[(x,h'.nx)])).ob h'.nx=aA (.l aB []):=(bD I).trans bC;refine B7 (pE J)<|B5<|sP J (bE '#'<|kG E4) ?_;have lo:∀{y g},aX kf y=aA g->g<h'.nx:=λc=>(i.ls _ _ c).1;refine q _ (kf++[(x,h'.nx)]) _ ⟨(bD<|bZ i.ha).trans ((bD<|sE b.o b.od<|nofun).trans b.o),(bD I.symm).trans bO,b.ha,b.hd,?_,by rw[dU];exact bE (zS hk) '#',λy g c=>?_,λy r=>?_,λy z g s A=>?_,λy=>?_⟩ ⟨((Kx.of<|m.trans k1).C9 (by simp)).putN nx,λy G=>?_,h'.nx,?_,.inr ⟨e,nx⟩⟩ (by left)
   .rw[eR,Gs];refine⟨S.nd,by simp,λy G z N=>?_⟩;obtain⟨p,O,rfl⟩:=bp.1 G;rw[a'.1 N];intro w;have P:=w;have:=nW S.nd O;rw[P,e]at this;exact bU this
   .rw[vx]at c;unfold lW;by_cases z:y=x
    .subst z;rw[e,if_pos rfl]at c;cases c;refine⟨cD _,?_⟩;rw[bO,if_pos rfl,f0];rfl
    .rw[if_neg λw=>z w.symm,ig]at c;refine⟨kH (lo c),?_⟩;rw[if_neg z,bD (bZ<|lo c),bD (b.ld c)];exact(b.ls y g c).2
   .rw[vx]at r;unfold lW;by_cases z:y=x
    .grind
    .rw[if_neg λw=>z w.symm,ig]at r;rw[if_neg z];exact S.no y r
   .rw[vx]at s A;by_cases B:y=x<;>by_cases C:z=x
    .rw[B,C]
    .subst B;rw[e,if_pos rfl]at s;cases s;rw[if_neg λw=>C w.symm,ig]at A;exact absurd (lo A)<|nQ _
    .subst C;rw[e,if_pos rfl]at A;cases A;rw[if_neg λw=>B w.symm,ig]at s;exact absurd (lo s)<|nQ _
    .rw[if_neg λw=>B w.symm,ig]at s;rw[if_neg λw=>C w.symm,ig]at A;exact S.inj y z g s A
   .unfold lW;split
    .simp_all
    .exact S.lf y
   .rw[vx,if_neg λw=>G w.symm,ig]
   .rw[vx,e,if_pos rfl];rfl
end
section
variable {k:Nat}{a:Nat}{fl:Int->AW}
def kR(t:Int)(l:'0'):'0':=(l.reverse.dropWhile λu=>decide (t<=u)).reverse
def HH{t:Int}{l:'0'}:kR t (l++[u])=if t<=u then kR t l else l++[u]:=by
 unfold kR;rw[List.reverse_append];show(List.dropWhile _<|u::l.reverse).reverse=_;by_cases z:t<=u
 .simp[z]
 .simp[z]
def HG(t:Int)(l:'0'):B3 (kR t l)<=B3 l:=by unfold kR;rw[OT];have:=(OC (λu=>decide (t<=u)) (l:=l.reverse)).length_le;left
def aPl{l:'0'}(h:l≠[]):∃m u,l=m++[u]:=⟨l.dropLast,l.getLast h,(aWx h).symm⟩
def aFw{f:Nat}{t z:Int}{l:'0'}{v3:AV}{B:aF->AH->Prop}(of:h.ob f=aA (.l aB<|l.map .int))(hf:f<h.nx)(hl:B3 l<100000)
  (q:∀z' h',Kx [f] h h'->h'.ob f=aA (.l aB<|(kR t l).map .int)->N [aA (.ref a),aA (.int t),aA (.int z'),aA v3,aA (.ref f)] h') :
  Wt (wJ (dW F<|.and (.cmp .ne (.var 4)<|.l .nil)<|.cmp .ge (.op .ix (.var 4)<|.neg<|.val<|.int 1)<|.var 1) (jY F<|.cons (.expr<|.wu<|.var 4)<|.cons (.aug aJ 2<|.val<|.int 1) .nil) FU [aA (.ref a),aA (.int t),aA (.int z),aA v3,aA (.ref f)]) h N R B C:=by
 refine pw (λi g h'=>i<=B3 l/\∃(z':Int) (m:'0'),B3 m+i=B3 l/\g=[aA (.ref a),aA (.int t),aA (.int z'),aA v3,aA (.ref f)]/\Kx [f] h h'/\h'.ob f=aA (.l aB<|m.map .int)/\kR t l=kR t m) (B3 l) (λi g h' y=>y.1) (λi g h' y=>?_) FU 0 _ h (by rw[eN];lia) ⟨jD _,z,l,rfl,rfl,Kx.refl,of,rfl⟩;obtain⟨_,z',m,em,rfl,kx,k,e⟩:=y;have b:=(dO (o:=.l aB [])<|bZ<|bE hf kx.nx).trans k;refine oD _<|B5<|MV rfl (Bg b bC) ?_;by_cases c:m=[]
 .subst c;exact q z' _ kx.C8<|e▸b
 .have n:¬(m.map AV.int=[]):=λw=>c (BE.1 w);rw[decide_eq_false n];obtain⟨d,u,rfl⟩:=aPl c;rw[dU]at em;have p:((d++[u]).map AV.int)=d.map AV.int++[.int u]:=eR ..;refine B4 rfl<|B5<|dZ (bR b) (EA (by rw[List.getLast?_concat])) ?_;show if decide (t<=u)=aB then _ else _
  by_cases j:t<=u
  .rw[if_pos (decide_eq_true j)];rw[p]at b;rw[HH,if_pos j]at e;refine gR _<|B5<|aVq<|cK _<|B4 rfl<|B4 rfl<|aUj b ?_;have r:B3 d+1+i=B3 l:=em;exact⟨by lia,_,d,by lia,rfl,kx.C8.C9 (.head _),bO,e⟩
  .rw[if_neg (by left)];rw[HH,if_neg j]at e;exact q z' _ kx.C8 (by grind)
def aBl{t:Int}(S:lO h a d kf fl)(q:∀v h',lO h' a d kf (λx=>kR t (fl x))->Kx (kf.map (·.2)) h h'->R v h'):WC (D1 pg (k+1) 95 [.ref a,.int t]) h R:=by
 have s:B3 (kf.map λp=>AV.int p.1)=B3 kf:=aU ..;have lk:=S.lk;refine aS rfl rfl<|WB.of<|mQ<|qZ<|B4 S.o<|B5<|MU S.od ?_;rw[DU];refine sQ bC ?_;have u:∀p∈kf,aX kf p.1=aA p.2:=λp n=>nW S.nd n;have A:∀{x f},aX kf x=aA f->f∈kf.map (·.2):=λe=>bp.2 ⟨_,lx e,rfl⟩;refine da (λj o h'=>(∃z r v4,o=[aA (.ref a),aA (.int t),aA (.int z),r,v4])/\lO h' a d kf (λx=>if x∈(kf.take j).map (·.1) then kR t (fl x) else fl x)/\Kx (kf.map (·.2)) h h'/\h'.ob h.nx=aA (.l aB<|kf.map λp=>AV.int p.1)/\h.nx<h'.nx) (by rw[eN];lia) ⟨⟨_,_,_,rfl⟩,?_,Kx.of B6.C8,bC,cD _⟩ (λ_ _ _ y=>y.2.2.2.1) (λj y o h' B w=>?_)<|λo h' w=>?_
 .have:(λx=>if x∈(kf.take 0).map (·.1) then kR t (fl x) else fl x)=fl:=by funext x;simp
  exact S.D7 B6.C8
 .obtain⟨⟨z,r,v4,rfl⟩,b,kx,on,lt⟩:=w;obtain⟨⟨x,f⟩,hr,rfl⟩:=kO B;have i:=u _ (bJ hr);obtain⟨f1,f2⟩:=b.ls x f i;have fo:=(S.ls x f i).1;refine kE _<|gR _<|B4 b.o<|B5<|xw (k:=.inl x) b.od rfl (by rw[jR,i];rfl)<|WB.of<|yc<|aFw f2 f1 (b.lf x) λH I k2 J=>?_;have ne:∀{m:Nat},m≠f->m∉[f]:=λhm w=>hm (a'.1 w);have C:x∉(kf.take j).map (·.1):=by
   intro w;obtain⟨p,n,e⟩:=bp.1 w;obtain⟨m,hm,D⟩:=Tb n;rw[oH]at hm;rw[OS]at D;have K:=(dk.1 hr).1;have E:(kf.map (·.1))[m]'(by grind)=(kf.map (·.1))[j]'(by rw[aU];omega):=by left
   have:=(Gm S.nd).1 E;omega
  have tk:kf.take (j+1)=kf.take j++[(x,f)]:=by rw[wU,hr];rfl
  refine⟨⟨_,_,_,rfl⟩,⟨k2.get b.ha (ne (b.la i).symm) b.o,k2.get b.hd (ne (b.ld i).symm) b.od,bE b.ha k2.nx,bE b.hd k2.nx,S.nd,S.lk,λy g l=>⟨bE (b.ls y g l).1 k2.nx,?_⟩,λy F=>?_,S.inj,λy=>?_⟩,kx.trans (k2.sub λm hm=>by rw[a'.1 hm];exact A i),k2.get lt (ne<|oO fo) on,bE lt k2.nx⟩
  .rw[tk,eR];by_cases c:y=x
   .subst c;left
   .have G:y∈(kf.take j).map (·.1)++[(x,f)].map (·.1)↔y∈(kf.take j).map (·.1):=by simp[c]
    have:=k2.get (b.ls y g l).1 (ne λw=>c (S.inj y x f (w▸l) i)) (b.ls y g l).2;rw[this];simp only[G]
  .rw[S.no y F];split<;>rfl
  .have:=HG t (fl y);have:=S.lf y;split<;>omega
 .obtain⟨⟨z,r,v4,rfl⟩,b,kx,on,lt⟩:=w;refine q _ h' ?_ kx;have:(λx=>if x∈(kf.take (B3 (kf.map λp=>AV.int p.1))).map (·.1) then kR t (fl x) else fl x)=λx=>kR t (fl x):=by
   funext x
   rw[s,ic];split
   .rfl
   .rename_i c;rw[S.no x (B2.2 λf e=>c (bp.2 ⟨_,lx e,rfl⟩))];rfl
  rw[this]at b;exact b
end
section
structure Sl where
 a:Nat
 tk:Int
 pc:Int
 row:aH
 bI:List '+'
 ws:List '+'
 ch:Int
 dr:Bool
 src:'+'
 eG:'+'
 C9:Int
 st:'+'
 fi:'+'
 of:'+'
def Sl.wi(s:Sl):'0':=s.ws.map λw=>w.getD 0
def Sl.ft(am:Int)(s:Sl):A4:=s.row.ft s.wi am
def Sl.dd(am:Int)(s:Sl):AV:=match s.fi with
 |none=>.aG
 |some _=>s.row.fZ s.pc s.wi am (oI s.eG)
def Sl.lt(am:Int)(s:Sl):iI:=⟨s.tk,s.pc,s.row,s.bI,s.ch,s.dr,s.src,s.eG,s.dd am,s.C9,s.st,s.fi,s.of⟩
structure Cf where
 b:Nat
 rs:List aH
 sz:Int
 wd:Int
 tb:A7
 gu:Nat
 nv:Nat
 am:Int
 lo:List (Nat×bA)
structure Gh where
 sl:Nat
 kf:Dc Nat
 kd:Nat->Nat
structure Mo where
 ac:List Sl
 ah:Int
 nw:Int
 aY:Int
 jQ:Int
 fl:Int->'0'
 wk:Dc (Int×Int)
 kp:Dc (AG×AG)
 bg:Dc (Int×AG)
 sd:Sd
 bS:'%'
 iE:Dc Int
 eC:Dc Int
 brk:Bool
def Mo.wf(m:Mo)(c:Cf)(sl:Nat):List (cT×AV):=[("program",.ref (c.b+2)),("ahead",.int m.ah),("size",.int c.sz),("wide",.int c.wd),("slots",.ref sl),("names",.ref (c.b+4)),("benches",.ref (c.b+6)),("shelf",.ref (c.b+8)),("tickets",.int m.aY),("thrown",.int m.jQ),("now",.int m.nw)]
def Mo.lf(m:Mo)(c:Cf):List (cT×AV):=[("state",m.sd.av),("guesser",.ref c.gu),("nerve",.ref c.nv),("slips",.ref (c.b+12)),("storers",.ref (c.b+13)),("gone",.ref (c.b+14)),("broken",.bl m.brk)]
def Mo.fX(m:Mo)(c:Cf)(g:Gh):List (Option bA):=[
 aA (.ins 20 [("window",'4'),("ledger",'?')]),aA (.ins 18<|m.wf c g.sl),aA (.l aB<|c.rs.map aH.av),aD,
 aA (.ins 15 [("filled",.ref (c.b+5))]),aA (.aP<|dE AV.ref g.kf),aA (.ins 14<|jm c.tb<|c.b+7),aA (.aP<|dE eZ m.wk),
 aA (.ins 16 [("kept",.ref (c.b+9)),("begun",.ref (c.b+10))]),aA (.aP<|dE lS m.kp),aA (.aP<|dE mU m.bg),
 aA (.ins 19<|m.lf c),aA (.l aB m.bS),aA (.aP<|dE AV.int m.iE),aA (.aP<|dE AV.int m.eC)]
def Mo.E8(m:Mo)(c:Cf)(g:Gh)(k:Nat):Option (Nat×bA):=
 if k=15 then aA (g.sl,.l aB (m.ac.map λs=>.ref s.a))
 else if k<30 then(aX g.kf<|(k:Int)-16).map λf=>(f,.l aB ((m.fl<|(k:Int)-16).map .int))
 else(m.ac.find? λs=>decide (s.tk=((k:Int)-30) / 2)).map λs=>if k%2=0 then(s.a,.ins 17 ((s.lt c.am).fs (s.a+2))) else(s.a+2,.l aB (s.ws.map oI))
structure jI(b:Nat)(kd:Nat->Nat)(l:List (Option bA))(r:Nat->Option (Nat×bA))(h:AH):Prop where
 st:∀i o,l[i]?=aA (aA o)->kd (b+i)=i/\b+i<h.nx/\h.ob (b+i)=aA o
 dy:∀k n o,15<=k->r k=aA (n,o)->kd n=k/\b<=n/\n<h.nx/\h.ob n=aA o
variable {b:Nat}{kd:Nat->Nat}{l:List (Option bA)}{r r':Nat->Option (Nat×bA)}
def jI.D7(x:jI b kd l r h)(g:Kp h h'):jI b kd l r h':=
 ⟨λi o e=>⟨(x.st i o e).1,bE (x.st i o e).2.1 g.nx,g.get (x.st i o e).2.1 (x.st i o e).2.2⟩,λk n o a e=>have z:=x.dy k n o a e;⟨z.1,z.2.1,bE z.2.2.1 g.nx,g.get z.2.2.1 z.2.2.2⟩⟩
def jI.low(x:jI b kd l r h)(nx:h.nx<=h'.nx)(e:∀i,i<h.nx->b<=i->h'.ob i=h.ob i):jI b kd l r h':=
 ⟨λi o f=>have z:=x.st i o f;⟨z.1,bE z.2.1 nx,(e _ z.2.1 (oJ ..)).trans z.2.2⟩,λk n o a f=>have z:=x.dy k n o a f;⟨z.1,z.2.1,bE z.2.2.1 nx,(e _ z.2.2.1 z.2.1).trans z.2.2.2⟩⟩
def DS(x:jI b kd l r h){k:Nat}(e:l[i]?=aA (aA o))(hn:kd n=k)(hk:k≠i):b+i≠n:=λz=>hk (by rw[<- hn,<- z];exact(x.st i o e).1)
def jI.yK(x:jI b kd l r h)(hi:i<15)(e:l[i]?=aA (aA o))(g:Kx [b+i] h h')(e':h'.ob (b+i)=aA o'):jI b kd (l.set i<|aA o') r h':=by
 refine⟨λj d a=>?_,λk n on f m=>?_⟩
 .by_cases c:j=i
  .subst c;rw[mB (dk.1 e).1]at a;cases a;have z:=x.st j o e;exact⟨z.1,bE z.2.1 g.nx,e'⟩
  .rw[kZ λw=>c w.symm]at a;have z:=x.st j d a;exact⟨z.1,bE z.2.1 g.nx,g.get z.2.1 (by simp;omega) z.2.2⟩
 .have z:=x.dy k n on f m;exact⟨z.1,z.2.1,bE z.2.2.1 g.nx,g.get z.2.2.1 (λw=>DS x e z.1 (by lia) (a'.1 w).symm) z.2.2.2⟩
def jI.tY(x:jI b kd l r h)(hi:i<15)(e:l[i]?=aA (aA o)):jI b kd (l.set i<|aA o') r (h.C9 (b+i) o'):=x.yK hi e (Kx.refl.C9<|.head _) bO
def jI.DZ{k:Nat}(x:jI b kd l r h)(hk:15<=k)(hl:B3 l<=15)(e:r k=aA (n,o))(g:Kx [n] h h')(e':h'.ob n=aA o')(er:r' k=aA (n,o'))(hs:∀j p,15<=j->j≠k->r' j=aA p->r j=aA p):jI b kd l r' h':=by
 have y:=x.dy k n o hk e;refine⟨λj d a=>?_,λj i d f a=>?_⟩
 .have z:=x.st j d a;have m:=(dk.1 a).1;exact⟨z.1,bE z.2.1 g.nx,g.get z.2.1 (λw=>DS x a y.1 (by lia) (a'.1 w)) z.2.2⟩
 .by_cases c:j=k
  .subst c;rw[er]at a;cases a;exact⟨y.1,y.2.1,bE y.2.2.1 g.nx,e'⟩
  .have z:=x.dy j i d f (hs j _ f c a);exact⟨z.1,z.2.1,bE z.2.2.1 g.nx,g.get z.2.2.1 (λw=>c (by rw[<- z.1,<- y.1,a'.1 w])) z.2.2.2⟩
def jI.newD{k:Nat}(x:jI b kd l r h)(hk:15<=k)(g:Kp h h')(hn:h.nx<=n)(hn':n<h'.nx)(hb:b<=h.nx)(e':h'.ob n=aA o)(er:r' k=aA (n,o))(hs:∀j p,15<=j->j≠k->r' j=aA p->r j=aA p):jI b (λi=>if i=n then k else kd i) l r' h':=by
 refine⟨λj d a=>?_,λj f d e a=>?_⟩
 .have z:=x.st j d a;exact⟨by grind,bE z.2.1 g.nx,g.get z.2.1 z.2.2⟩
 .by_cases c:j=k
  .subst c;rw[er]at a;cases a;exact⟨if_pos rfl,(dF ‹_› ‹_›),hn',e'⟩
  .have z:=x.dy j f d e (hs j _ e c a);exact⟨by grind,z.2.1,bE z.2.2.1 g.nx,g.get z.2.2.1 z.2.2.2⟩
end
abbrev _root_.A0:=List Sl
variable {c:Cf}{g':Gh}{l:A0}{m m':Mo}{s s' z:Sl}
section
structure Wf(g:Gh)(m:Mo):Prop where
 tk:(m.ac.map (·.tk)).Pairwise (·<·)
 t0:∀s∈m.ac,0<=s.tk
 sn:B3 m.ac<64
 sw:∀s∈m.ac,B3 s.ws=s.row.nw/\B3 s.bI=s.row.nw
 wn:(m.wk.map (·.1)).Nodup
 wl:B3 m.wk<64
 kn:(m.kp.map (·.1)).Pairwise (·<·)
 kl:B3 m.kp<64
 bn:(m.bg.map (·.1)).Nodup
 bl:B3 m.bg<64
 fn:(g.kf.map (·.1)).Nodup
 fk:∀x f,aX g.kf x=aA f->0<=x/\x<8
 fo:∀x,aX g.kf x=aD->m.fl x=[]
 ff:∀x,B3 (m.fl x)<99999
structure mF(c:Cf)(L:Nat)(K:Nat->AS)(h:AH):Prop where
 T:TH K L h
 g:K c.gu=aA 5
 n:K c.nv=aA 5
 lt:∀j t,K j=aA t->j<c.b
 lo:∀p∈c.lo,K p.1=aD/\p.1<c.b/\h.ob p.1=aA p.2
def mF.kl{K:Nat->AS}(z:mF c L K h)(bx:c.b<=h.nx):Kl K h:=λj t e=>bE (z.lt j t e) bx
structure aL(c:Cf)(g:Gh)(m:Mo)(h:AH):Prop where
 X:jI c.b g.kd (m.fX c g) (m.E8 c g) h
 G:∃K,mF c (2*B3 m.bS+10) K h
 W:Wf g m
variable {g:Gh}
def aL.at(r:'*')(i:Nat)(e:autoParam ((m.fX c g)[i]?=aA (aA o)) aGh._auto_1):h.ob (c.b+i)=aA o:=(r.X.st i o e).2.2
def aL.lt(r:'*')(i:Nat)(e:autoParam ((m.fX c g)[i]?=aA (aA o)) aGh._auto_1):c.b+i<h.nx:=(r.X.st i o e).2.1
def aL.bx(r:'*'):c.b<=h.nx:=kG (ie (oJ ..)<|r.lt 0)
def aL.lJ(r:'*'):h.ob g.sl=aA (.l aB<|m.ac.map λs=>.ref s.a)/\g.sl<h.nx/\g.kd g.sl=15:=have z:=r.X.dy 15 g.sl _ (aW _) rfl;⟨z.2.2.2,z.2.2.1,z.1⟩
def uH(hs:s∈l)(hp:(l.map (·.tk)).Pairwise (·<·)):l.find? (λz=>decide (z.tk=s.tk))=aA s:=by
 induction l with
 |nil=>cases hs|cons z l a=>
  rw[fJ,To]at hp;rw[oG];rcases dT.1 hs with rfl|hs
  .simp
  .have:decide (z.tk=s.tk)=aJ:=decide_eq_false λw=>by have:=hp.1 s.tk (bp.2 ⟨s,hs,rfl⟩);lia
   rw[this];exact a hs hp.2
def kK(t:Int):Nat:=30+2*t.toNat
def rK{t:Int}(h:0<=t):(((kK t:Nat):Int)-30) / 2=t/\(((kK t+1:Nat):Int)-30) / 2=t/\kK t%2=0/\(kK t+1)%2=1/\30<=kK t:=by obtain⟨n,rfl⟩:=zL h;show((30+2*n:Nat)-30:Int) / 2=n/\((30+2*n+1:Nat)-30:Int) / 2=n/\(30+2*n)%2=0/\(30+2*n+1)%2=1/\30<=30+2*n;lia
def As{t:Int}{k:Nat}(h:0<=t)(e:((k:Int)-30) / 2=t):k=kK t\/k=kK t+1:=by obtain⟨n,rfl⟩:=zL h;show k=30+2*n\/k=30+2*n+1;lia
def cw(w:Wf g m)(hs:s∈m.ac):m.E8 c g (kK s.tk)=aA (s.a,.ins 17 ((s.lt c.am).fs (s.a+2))):=by have z:=rK (w.t0 s hs);unfold Mo.E8;rw[if_neg (by lia),if_neg (by lia),z.1,uH hs w.tk,qx,if_pos z.2.2.1]
def cx(w:Wf g m)(hs:s∈m.ac):m.E8 c g (kK s.tk+1)=aA (s.a+2,.l aB (s.ws.map oI)):=by have z:=rK (w.t0 s hs);unfold Mo.E8;rw[if_neg (by lia),if_neg (by lia),z.2.1,uH hs w.tk,qx,if_neg (by lia)]
def aL.dD(r:'*')(hs:s∈m.ac):h.ob s.a=aA (.ins 17<|(s.lt c.am).fs (s.a+2)):=(r.X.dy _ _ _ (by have:=rK (r.W.t0 s hs);lia)<|cw r.W hs).2.2.2
def aL.pq(r:'*')(hs:s∈m.ac):h.ob (s.a+2)=aA (.l aB<|s.ws.map oI):=(r.X.dy _ _ _ (by have:=rK (r.W.t0 s hs);lia)<|cx r.W hs).2.2.2
def aL.JV(r:'*')(hs:s∈m.ac):s.a+2<h.nx:=(r.X.dy _ _ _ (by have:=rK (r.W.t0 s hs);omega)<|cx r.W hs).2.2.1
def aL.Aq(r:'*'):rE h (c.b+6) (c.b+7) c.tb m.wk:=⟨r.at 6,r.at 7,r.lt 6,r.lt 7,by have:=r.W.wl;lia,r.W.wn⟩
def aL.shr(r:'*'):lP h (c.b+8) (c.b+9) (c.b+10) m.kp m.bg:=⟨r.at 8,r.at 9,r.at 10,r.lt 8,r.lt 9,r.lt 10,(bZ<|cD _),r.W.kl,r.W.bl,r.W.kn,r.W.bn⟩
def DV(w:Wf g m):B3 g.kf<=8:=by
 have:=NV w.fn λx a=>by obtain⟨p,b,rfl⟩:=bp.1 a;have:=w.fk _ _ (nW w.fn b);obtain⟨n,e⟩:=zL this.1;rw[e]at this ⊢;exact(by decide +kernel:∀n:Nat,n<8->(n:Int)∈([0,1,2,3,4,5,6,7]:'0')) n<|Int.ofNat_lt.1 this.2
 rw[aU]at this;exact this
def xW{f:Nat}(w:Wf g m)(e:aX g.kf x=aA f):m.E8 c g (16+x.toNat)=aA (f,.l aB ((m.fl x).map .int)):=by have:=w.fk x f e;unfold Mo.E8;grind
def aL.My(r:'*'):lO h (c.b+4) (c.b+5) g.kf m.fl:=⟨r.at 4,r.at 5,r.lt 4,r.lt 5,r.W.fn,by have:=DV r.W;lia,λx f e=>have z:=r.X.dy _ _ _ '!' (xW r.W e);⟨z.2.2.1,z.2.2.2⟩,r.W.fo,λx y f a b=>by have d:=(r.X.dy _ _ _ '!'<|xW r.W b).1;rw[<- Ss (r.W.fk x f a).1,Nat.add_left_cancel (((r.X.dy _ _ _ (by lia)<|xW r.W a).1).symm.trans d),Ss (r.W.fk y f b).1],λx=>by have:=r.W.ff x;lia⟩
def mF.low{L':Nat}{K:Nat->AS}(z:mF c L K h)(hl:L<=L')(e:∀n,n<c.b->h'.ob n=h.ob n):mF c L' K h':=⟨λn t f=>((z.T.le hl) n t f).imp λ_ y=>⟨(e n<|z.lt n t f).trans y.1,y.2⟩,z.g,z.n,z.lt,λp a=>have y:=z.lo p a;⟨y.1,y.2.1,(e _ y.2.1).trans y.2.2⟩⟩
def Kx.lowG(x:Kx S h h')(hb:c.b<=h.nx)(hs:∀n∈S,c.b<=n):∀n,n<c.b->h'.ob n=h.ob n:=λn hn=>x.ob n (bE hn hb) λz=>nQ _ (bE hn<|hs n z)
theorem aL.D7(r:'*')(k:Kp h h'):aL c g m h':=⟨r.X.D7 k,r.G.imp λ_ z=>z.low (aW _) λn hn=>k.ob n (bE hn r.bx),r.W⟩
theorem aL.yK(r:'*')(i:Nat){o o':bA}(kx:Kx [c.b+i] h h')(e':h'.ob (c.b+i)=aA o')(w:Wf g m')(hs:m'.fX c g=(m.fX c g).set i (aA o'))(hd:m'.E8 c g=m.E8 c g)(hl:B3 m.bS<=B3 m'.bS)(hi:autoParam (i<15) aEv._auto_1)(e:autoParam ((m.fX c g)[i]?=aA (aA o)) aGh._auto_1):aL c g m' h':=
 ⟨by rw[hs,hd];exact r.X.yK hi e kx e',r.G.imp λ_ z=>z.low (by lia) (kx.lowG r.bx λn hn=>by left),w⟩
def aL.tY(r:'*')(i:Nat)(w:Wf g m')(hs:m'.fX c g=(m.fX c g).set i (aA o'))(hd:m'.E8 c g=m.E8 c g)(hl:B3 m.bS<=B3 m'.bS)(hi:autoParam (i<15) aEv._auto_1)(e:autoParam ((m.fX c g)[i]?=aA (aA o)) aGh._auto_1):aL c g m' (h.C9 (c.b+i) o'):=r.yK i (Kx.refl.C9<|.head _) bO w hs hd hl hi e
end
section
variable {k:Nat}{g:Gh}
def Mo.D9(m:Mo)(t:Int):Option Sl:=m.ac.find? λs=>decide (s.tk=t)
def aO:Option Sl->AV
 |some s=>.ref s.a
 |none=>.aG
def Jl{α:Type}{l:List α}{x:α}(e:l[i]?=aA x):l.drop i=x::l.drop (i+1):=by rw[OE ((dk.1 e).1),(dk.1 e).2]
def KG{t:'+'}(r:'*')(q:R (aO<|t.bind m.D9) h):WC (D1 pg (k+1) 113 ['4',oI t]) h R:=by
 have sn:=r.W.sn;refine aS rfl rfl<|WB.of<|mQ<|qZ<|B4 (r.at 1)<|sQ r.lJ.1 ?_;refine da (λj a b=>b=h/\(∃v2,a=[aA '4',aA (oI t),v2])/\t.bind m.D9=t.bind λt=>(m.ac.drop j).find? λs=>decide (s.tk=t)) (by rw[aU,eN];lia) ⟨rfl,⟨_,rfl⟩,rfl⟩ (λ_ _ _ y=>y.1▸r.lJ.1) (λj x a b d y=>?_)<|λa b y=>?_
 .obtain⟨rfl,⟨v2,rfl⟩,e⟩:=y;obtain⟨s,hr,rfl⟩:=kO d;rw[Jl hr]at e;cases t with
  |none=>exact kE _<|gR _<|B4 (r.dD<|bJ hr)<|B5<|Fi rfl ⟨rfl,⟨_,rfl⟩,rfl⟩|some t=>
   rw[oP,oP,oG]at e;refine kE _<|gR _<|B4 (r.dD<|bJ hr)<|C1 (λz=>?_) λz=>?_
   .rw[show(decide<|s.tk=t)=aB from decide_eq_true z]at e;rw[oP,e]at q;exact q
   .rw[show(decide<|s.tk=t)=aJ from decide_eq_false z]at e;exact⟨rfl,⟨_,rfl⟩,e⟩
 .obtain⟨rfl,⟨v2,rfl⟩,e⟩:=y;rw[aU,Gf]at e;rw[e]at q;cases t<;>exact q
def KH{t:Int}(r:'*')(q:R (aO<|m.D9 t) h):WC (D1 pg (k+1) 113 ['4',.int t]) h R:=KG (t:=aA t) r q
def Mo.E7(m:Mo)(t:Int):Mo:={ m with ac:=m.ac.filter λs=>decide (s.tk<t),jQ:=m.jQ+((B3 m.ac:Int)-(B3 (m.ac.filter λs=>decide (s.tk<t)):Int)),fl:=λx=>kR t (m.fl x),wk:=m.wk.filter λp=>!decide (t<=p.1),kp:=m.kp.filter λp=>!decide (t<=p.1),bg:=m.bg.filter λp=>!decide (t<=p.1) }
def L9{l':A0}(hl:l'.Sublist l)(hp:(l.map (·.tk)).Pairwise (·<·))(e:l'.find? (λs=>decide (s.tk=u))=aA s):l.find? (λs=>decide (s.tk=u))=aA s:=by have a:=yk e;simp only[decide_eq_true_eq]at a;subst a;exact uH (hl.subset<|wQ e) hp
def HR{x y:bA}:(h.C9 n x).C9 n y=h.C9 n y:=by unfold AH.C9;left
def Wf.Eo{sl':A0}{th a1:Int}(w:Wf g m)(hs:sl'.Sublist m.ac)(eg:g'.kf=g.kf):Wf g' { m with ac:=sl',jQ:=th,ah:=a1 }:=
 ⟨wN (hs.map _) w.tk,λs hm=>w.t0 s (hs.subset hm),ie hs.length_le w.sn,λs hm=>w.sw s (hs.subset hm),w.wn,w.wl,w.kn,w.kl,w.bn,w.bl,eg▸w.fn,eg▸w.fk,eg▸w.fo,w.ff⟩
theorem aL.Eo{sl':A0}{n:Nat}{th:Int}(r:'*')(k1:Kp h h')(hn:h.nx<=n)(hn':n<h'.nx)(on:h'.ob n=aA (.l aB<|sl'.map λs=>.ref s.a))(hs:sl'.Sublist m.ac) :
  aL c { g with sl:=n,kd:=λi=>if i=n then 15 else g.kd i } { m with ac:=sl',jQ:=th } (h'.C9 (c.b+1)<|.ins 18<|{ m with ac:=sl',jQ:=th }.wf c n):=by
 have a:=r.D7 k1;have w:=r.W.Eo (th:=th) (a1:=m.ah) (g':={ g with sl:=n,kd:=λi=>if i=n then 15 else g.kd i }) hs rfl;have b:jI c.b (λi=>if i=n then 15 else g.kd i) (m.fX c g) ({ m with ac:=sl',jQ:=th }.E8 c { g with sl:=n,kd:=λi=>if i=n then 15 else g.kd i }) h':=by
  refine r.X.newD (aW _) k1 hn hn' r.bx on rfl λj p k d e=>?_;unfold Mo.E8 at e ⊢;rw[if_neg d]at e ⊢;split
  .simp_all
  .rename_i z;rw[if_neg z]at e;obtain⟨s,f,rfl⟩:=gT.1 e;rw[L9 hs r.W.tk f];rfl
 exact⟨b.tY (i:=1) '#' rfl,a.G.imp λ_ z=>z.low (aW _) ((Kx.refl.C9 (.head _):Kx [c.b+1] h' _).lowG a.bx λn hn=>by left),w⟩
end
section
variable {k:Nat}{g:Gh}
def aL.nf(r:'*'){k:Nat}(hk:g.kd n=k)(hn:k<16\/24<=k):n∉g.kf.map (·.2):=λz=>by obtain⟨p,a,rfl⟩:=bp.1 z;have e:=nW r.W.fn a;have:=r.W.fk _ _ e;have:=(r.X.dy _ _ _ (by lia)<|xW r.W e).1;lia
def aL.nmT{fl':Int->'0'}(r:'*')(N:lO h' (c.b+4) (c.b+5) g.kf fl')(kx:Kx (g.kf.map (·.2)) h h')(hf:∀x,B3 (fl' x)<=B3 (m.fl x)):aL c g { m with fl:=fl' } h':=by
 refine⟨⟨λi o e=>?_,λk n o d e=>?_⟩,r.G.imp λ_ z=>z.low (aW _) (kx.lowG r.bx λn hn=>?_),⟨r.W.tk,r.W.t0,r.W.sn,r.W.sw,r.W.wn,r.W.wl,r.W.kn,r.W.kl,r.W.bn,r.W.bl,r.W.fn,r.W.fk,N.no,λx=>ie (hf x) (r.W.ff x)⟩⟩
 .have z:=r.X.st i o e;have b:=(dk.1 e).1;have b:i<15:=b;exact⟨z.1,bE z.2.1 kx.nx,kx.get z.2.1 (r.nf z.1 (by lia)) z.2.2⟩
 .by_cases j:16<=k/\k<30
  .unfold Mo.E8 at e;rw[if_neg (by lia),if_pos j.2]at e;obtain⟨f,a,l⟩:=gT.1 e;cases l;have z:=r.X.dy _ _ _ (by lia) (xW r.W a);exact⟨by lia,z.2.1,(N.ls _ _ a).1,(N.ls _ _ a).2⟩
  .have q:m.E8 c g k=aA (n,o):=by
    unfold Mo.E8 at e ⊢;split
    .simp_all
    .rename_i z;rw[if_neg z,if_neg '!']at e;rw[if_neg '!'];exact e
   have z:=r.X.dy k n o d q;exact⟨z.1,z.2.1,bE z.2.2.1 kx.nx,kx.get z.2.2.1 (r.nf z.1 (by lia)) z.2.2.2⟩
 .obtain⟨p,s,rfl⟩:=bp.1 hn;exact(r.X.dy _ _ _ (by lia)<|xW r.W<|nW r.W.fn s).2.1
def aL.sh2(r:'*')(kx:Kx [c.b+9,c.b+10] h h')(e1:h'.ob (c.b+9)=aA (.aP<|dE lS kp'))(e2:h'.ob (c.b+10)=aA (.aP<|dE mU bg'))(kn:(kp'.map (·.1)).Pairwise (·<·))(kl:B3 kp'<64)(bn:(bg'.map (·.1)).Nodup)(bl:B3 bg'<64):aL c g { m with kp:=kp',bg:=bg' } h':=by
 refine⟨⟨λi o e=>?_,λk n o d e=>?_⟩,r.G.imp λ_ z=>z.low (aW _) (kx.lowG r.bx λn hn=>?_),⟨r.W.tk,r.W.t0,r.W.sn,r.W.sw,r.W.wn,r.W.wl,kn,kl,bn,bl,r.W.fn,r.W.fk,r.W.fo,r.W.ff⟩⟩
 .by_cases b:i=9
  .subst b;cases e;have z:=r.X.st 9 _ rfl;exact⟨z.1,bE z.2.1 kx.nx,e1⟩
  .by_cases a:i=10
   .subst a;cases e;have z:=r.X.st 10 _ rfl;exact⟨z.1,bE z.2.1 kx.nx,e2⟩
   .have f:(m.fX c g)[i]?=aA (aA o):=by rw[show Mo.fX { m with kp:=kp',bg:=bg' } c g=((m.fX c g).set 9 (aA<|.aP<|dE lS kp')).set 10 (aA<|.aP<|dE mU bg') from rfl,kZ λw=>a w.symm,kZ λw=>b w.symm]at e;exact e
    have z:=r.X.st i o f;exact⟨z.1,bE z.2.1 kx.nx,kx.get z.2.1 (by simp;lia) z.2.2⟩
 .have z:=r.X.dy k n o d e;have j:=(r.X.st 9 _ rfl).1;have l:=(r.X.st 10 _ rfl).1;refine⟨z.1,z.2.1,bE z.2.2.1 kx.nx,kx.get z.2.2.1 (λw=>?_) z.2.2.2⟩;rcases dT.1 w with w|w
  .rw[w,j]at z;lia
  .grind
 .rcases dT.1 hn with w|w
  .rw[w];exact oJ ..
  .simp_all
def cy{β:Type}{l:List β}{f:β->Bool}(h:B3 l<n):B3 (l.filter f)<n:=ie (zR ..) h
def Qq{t:Int}(r:'*')(q:∀v g' h',aL c g' (m.E7 t) h'->h.nx<=h'.nx->(∀n,n<h.nx->28<=g.kd n->h'.ob n=h.ob n/\g'.kd n=g.kd n)->R v h'):WC (D1 pg (k+2) 117 ['4',.int t]) h R:=by
 have sn:=r.W.sn;have E4:=lU;refine aS rfl rfl<|B5<|aVe<|qZ<|B4 (r.at 1)<|sQ r.lJ.1 ?_;refine i4 (n:=g.sl) (λj B C h'=>h'=h/\(∃v0,C=[v0,aA (.int t)])/\B=(((m.ac.take j).filter λs:Sl=>decide (s.tk<t)).map λs=>.ref s.a)) (by rw[aU,eN];omega) ⟨rfl,⟨_,rfl⟩,rfl⟩ (λ_ _ _ _ y=>y.1▸r.lJ.1) (λj x B C h' G y=>?_)<|λB C h' y=>?_
 .obtain⟨rfl,⟨v0,rfl⟩,rfl⟩:=y;obtain⟨s,hr,rfl⟩:=kO G;have M:m.ac.take (j+1)=m.ac.take j++[s]:=by rw[wU,hr];rfl
  refine oD _<|B4 (r.dD<|bJ hr) ?_;show if decide (s.tk<t)=aB then _ else _
  split
  .rename_i z;refine⟨?_,rfl,⟨_,rfl⟩,?_⟩
   .grind
   .simp_all
  .simp_all
 .obtain⟨rfl,⟨v0,rfl⟩,rfl⟩:=y;rw[aU,ic];have k1:∀{o:bA},Kp h' (h'.C8 o):=B6.C8;have u:=r.D7 (k1 (o:=.l aB (((m.ac.filter λs:Sl=>decide (s.tk<t)).map λs=>.ref s.a))));have key:∀{X Y:bA},Y = .ins 18 ({ m with ac:=m.ac.filter λs:Sl=>decide (s.tk<t),jQ:=m.jQ+((B3 (m.ac.map λs:Sl=>AV.ref s.a):Int)-(B3 ((m.ac.filter λs:Sl=>decide (s.tk<t)).map λs:Sl=>AV.ref s.a):Int)) }.wf c h'.nx)->aL c _ _ (((h'.C8<|.l aB<|((m.ac.filter λs:Sl=>decide (s.tk<t)).map λs=>.ref s.a)).C9 (c.b+1) X).C9 (c.b+1) Y):=λ{X Y} e=>by rw[HR,e];exact r.Eo k1 (aW _) (cD _) bC OJ
  refine B4 (u.at 1)<|B4 (u.at 1)<|B5<|eP (bR u.lJ.1)<|B5<|eP (bR bC)<|B4 (u.at 1)<|B4 bO ?_;have A:=key (X:=.ins 18 (iT "thrown" (.int<|m.jQ+((B3 (m.ac.map λs:Sl=>AV.ref s.a):Int)-(B3 ((m.ac.filter λs:Sl=>decide (s.tk<t)).map λs:Sl=>AV.ref s.a):Int)))<|m.wf c g.sl)) rfl;refine B4 (A.at 1)<|B4 (A.at 4)<|aBl (k:=k) A.My λN O H b=>?_;have a:=A.nmT H b λx=>HG _ _;refine B4 (a.at 1)<|B4 (a.at 6)<|ZH (k:=k) a.Aq λv4 P d I=>?_;have f:=a.yK (m':={ m with ac:=m.ac.filter λs:Sl=>decide (s.tk<t),jQ:=m.jQ+((B3 (m.ac.map λs:Sl=>AV.ref s.a):Int)-(B3 ((m.ac.filter λs:Sl=>decide (s.tk<t)).map λs:Sl=>AV.ref s.a):Int)),fl:=λx=>kR t (m.fl x),wk:=m.wk.filter λp=>!decide (t<=p.1) }) 7 d I ⟨a.W.tk,a.W.t0,a.W.sn,a.W.sw,pH a.W.wn,cy a.W.wl,a.W.kn,a.W.kl,a.W.bn,a.W.bl,a.W.fn,a.W.fk,a.W.fo,a.W.ff⟩ rfl rfl (aW _);refine B4 (f.at 1)<|B4 (f.at 8)<|aPz (k:=k) f.shr λQ S l J K=>?_;have D:=f.sh2 l J K (wN (pV.map _) f.W.kn) (cy f.W.kl) (pH f.W.bn) (cy f.W.bl);rw[aU,aU]at D;refine q _ _ _ D (dF (iG _)<|dF b.nx<|dF d.nx l.nx) λn hn L=>?_;have nb:∀i o,i<15->(m.fX c g)[i]?=aA (aA o)->n≠c.b+i:=λi o T e w=>by rw[w,(r.X.st i o e).1]at L;omega
  have E:=kH hn;have F:=bE E b.nx;refine⟨?_,if_neg (bZ hn)⟩;rw[l.ob n (bE F d.nx) (by simp only[mS,lL,or_false];exact λw=>w.elim (nb 9 _ '#' rfl) (nb 10 _ '#' rfl)),d.ob n F (by simp only[mS,lL,or_false];exact nb 7 _ '#' rfl),b.ob n E (r.nf rfl '!'),bD (nb 1 _ '#' rfl),bD (nb 1 _ '#' rfl),dO (bZ hn)]
structure iR(c:Cf)(g:Gh)(h:AH)(g':Gh)(h':AH):Prop where
 nx:h.nx<=h'.nx
 ob:∀n,n<h.nx->28<=g.kd n->c.b<=n->h'.ob n=h.ob n/\g'.kd n=g.kd n
def iR.refl:iR c g h g h:=⟨aW _,λ_ _ _ _=>⟨rfl,rfl⟩⟩
theorem iR.trans{g2:Gh}{h2:AH}(x:iR c g h g' h')(y:iR c g' h' g2 h2):iR c g h g2 h2:=⟨dF x.nx y.nx,λn hn d hb=>by have a:=x.ob n hn d hb;have b:=y.ob n (bE hn x.nx) (by left) hb;exact⟨b.1.trans a.1,b.2.trans a.2⟩⟩
theorem iR.C9{i:Nat}{o o':bA}(r:'*')(hi:i<15)(e:(m.fX c g)[i]?=aA (aA o)):iR c g h g (h.C9 (c.b+i) o'):=⟨aW _,λn _ a _=>⟨bD λw=>by rw[w,(r.X.st i o e).1]at a;lia,rfl⟩⟩
end
section
variable {k:Nat}{g g2:Gh}
structure bL(c:Cf)(g:Gh)(h:AH)(g':Gh)(h':AH):Prop where
 nx:h.nx<=h'.nx
 ob:∀n,n<h.nx->g.kd n=28->c.b<=n->h'.ob n=h.ob n/\g'.kd n=28
def bL.refl:bL c g h g h:=⟨aW _,λ_ _ e _=>⟨rfl,e⟩⟩
theorem bL.trans(x:bL c g h g' h')(y:bL c g' h' g2 h2):bL c g h g2 h2:=⟨dF x.nx y.nx,λn hn d hb=>by have a:=x.ob n hn d hb;have b:=y.ob n (bE hn x.nx) a.2 hb;exact⟨b.1.trans a.1,b.2⟩⟩
def bL.D7(k:Kp h h'):bL c g h g h':=⟨k.nx,λn hn a _=>⟨k.ob n hn,a⟩⟩
theorem bL.C9{n:Nat}{o:bA}(hk:g.kd n≠28):bL c g h g (h.C9 n o):=⟨aW _,λi _ e _=>⟨bD λz=>hk (by left),e⟩⟩
theorem bL.st{i:Nat}{o:bA}(r:'*')(hi:i<15)(e:∃o,(m.fX c g)[i]?=aA (aA o)):bL c g h g (h.C9 (c.b+i) o):=bL.C9 (by obtain⟨o,e⟩:=e;rw[(r.X.st i o e).1];lia)
def bL.of(n:h.nx<=h'.nx)(f:∀n,n<h.nx->28<=g.kd n->h'.ob n=h.ob n/\g'.kd n=g.kd n):bL c g h g' h':=⟨n,λi a e _=>have z:=f i a (by lia);⟨z.1,z.2.trans e⟩⟩
def aL.ku(r:'*')(hs:s∈m.ac):g.kd s.a≠28/\g.kd (s.a+2)≠28:=by have z:=rK (r.W.t0 s hs);have a:=(r.X.dy _ _ _ (by lia)<|cw r.W hs).1;have b:=(r.X.dy _ _ _ (by lia)<|cx r.W hs).1;lia
def bL.M9(f:iR c g h g' h'):bL c g h g' h':=⟨f.nx,λn hn a hb=>have z:=f.ob n hn (by lia) hb;⟨z.1,z.2.trans a⟩⟩
theorem bL.kx{i:Nat}(r:'*')(hi:i<15)(e:∃o,(m.fX c g)[i]?=aA (aA o))(kx:Kx [c.b+i] h h'):bL c g h g h':=⟨kx.nx,λn hn a _=>⟨kx.ob n hn λz=>by obtain⟨o,e⟩:=e;rw[a'.1 z,(r.X.st i o e).1]at a;lia,a⟩⟩
end
section
variable {k:Nat}{g:Gh}
def BJ(hs:l[i]?=aA s)(ht:s'.tk=s.tk)(hp:(l.map (·.tk)).Pairwise (·<·)):(l.set i s').find? (λz=>decide (z.tk=u))=if u=s.tk then aA s' else l.find? λz=>decide (z.tk=u):=by
 induction l generalizing i with
 |nil=>cases hs|cons z l ih=>
  rw[fJ,To]at hp;cases i with
  |zero=>
   cases hs;rw[Ts,oG,oG,ht];by_cases e:u=s.tk
   .simp_all
   .rw[if_neg e,decide_eq_false λw=>e w.symm]
  |succ i=>
   have hs':=hs;rw[Tr,oG,oG,ih hs' hp.2];by_cases e:z.tk=u
   .have:=hp.1 s.tk (bp.2 ⟨s,bJ hs',rfl⟩);rw[decide_eq_true e];show aA z=if u=s.tk then aA s' else aA z
    rw[if_neg (by lia)]
   .simp_all
def nC{α β:Type}{f:α->β}{l:List α}{s s':α}(hs:l[i]?=aA s)(e:f s'=f s):(l.set i s').map f=l.map f:=by
 rw[yq,e];refine Sv λj=>?_;rw[OP];split
 .rename_i z;subst z;rw[eQ,hs,aU,if_pos (dk.1 hs).1];rfl
 .rfl
def FH(hz:z∈l.set i s'):z∈l\/z=s':=by
 rcases Gr hz with h|h
 .exact .inl h
 .exact .inr h
def Wf.cO(w:Wf g m)(hs:'5')(ht:s'.tk=s.tk)(hw:B3 s'.ws=B3 s.ws)(hn:s'.bI=s.bI)(hr:s'.row=s.row):Wf g { m with ac:=m.ac.set i s' }:=
 have hm:=bJ hs
 ⟨by rw[nC hs ht];exact w.tk,λz hz=>(FH hz).elim (w.t0 z) λe=>by rw[e,ht];exact w.t0 s hm,by rw[sT];exact w.sn,λz hz=>(FH hz).elim (w.sw z) λe=>by rw[e,hw,hn,hr];exact w.sw s hm,w.wn,w.wl,w.kn,w.kl,w.bn,w.bl,w.fn,w.fk,w.fo,w.ff⟩
def Zu(hs:'5')(w:Wf g m)(ha:s'.a=s.a)(ht:s'.tk=s.tk){p:Nat×bA}(h1:15<=j)(e:({ m with ac:=m.ac.set i s' }:Mo).E8 c g j=aA p):m.E8 c g j=aA p\/((j:Int)-30) / 2=s.tk/\30<=j/\p=if j%2=0 then(s.a,.ins 17 ((s'.lt c.am).fs (s.a+2))) else(s.a+2,.l aB (s'.ws.map oI)):=by
 unfold Mo.E8 at e ⊢;split
 .rename_i z;rw[if_pos z]at e;rw[<- e,nC hs (by rw[ha])];exact .inl rfl
 .rename_i z;rw[if_neg z]at e;split
  .rename_i z2;rw[if_pos z2]at e;exact .inl e
  .rename_i z2;rw[if_neg z2,BJ hs ht w.tk]at e;by_cases z3:(j-30) / 2=s.tk
   .rw[if_pos z3,qx,ha]at e;left
   .rw[if_neg z3]at e;exact .inl e
def aL.Mg(r:'*')(hs:s∈m.ac):c.b<=s.a:=(r.X.dy _ _ _ (by have:=rK (r.W.t0 s hs);lia)<|cw r.W hs).2.1
def aL.EZ(r:'*')(hb:c.b<=n):∃K,mF c (2*B3 m.bS+10) K (h.C9 n o):=r.G.imp λ_ z=>z.low (aW _) ((Kx.refl.C9 (.head _):Kx [n] h _).lowG r.bx λn hn=>by left)
def aL.aPb(r:'*')(hs:'5')(ha:s'.a=s.a)(ht:s'.tk=s.tk)(hw:s'.ws=s.ws)(hn:s'.bI=s.bI)(hr:s'.row=s.row):aL c g { m with ac:=m.ac.set i s' } (h.C9 s.a<|.ins 17<|(s'.lt c.am).fs (s.a+2)):=by
 have hm:=bJ hs;have w:=r.W.cO hs ht (by rw[hw]) hn hr;have z:=rK (r.W.t0 s hm);have hm':s'∈m.ac.set i s':=bJ (mB (dk.1 hs).1);have d':=cw (c:=c) w hm';rw[ht,ha]at d';refine⟨r.X.DZ (by lia) (aW _) (cw r.W hm) (Kx.refl.C9<|.head _) bO d' λj p h1 h2 e=>?_,r.EZ (r.Mg hm),w⟩;rcases Zu hs r.W ha ht h1 e with e|⟨e1,e2,e3⟩
 .exact e
 .have:j=kK s.tk+1:=(As (r.W.t0 s hm) ‹_›).resolve_left h2;simp_all[cx,r.W,hm,e3]
def aL.aUv{ws':List '+'}(r:'*')(hs:'5')(hf:s.fi=aD)(hl:B3 ws'=B3 s.ws):aL c g { m with ac:=m.ac.set i { s with ws:=ws' } } (h.C9 (s.a+2)<|.l aB<|ws'.map oI):=by
 have hm:=bJ hs;have w:=r.W.cO (s':={ s with ws:=ws' }) hs rfl hl rfl rfl;have z:=rK (r.W.t0 s hm);have hm':{ s with ws:=ws' }∈m.ac.set i { s with ws:=ws' }:=bJ (mB (dk.1 hs).1);have d':=cx (c:=c) w hm';refine⟨r.X.DZ (by lia) (aW _) (cx r.W hm) (Kx.refl.C9<|.head _) bO d' λj p h1 h2 e=>?_,r.EZ (by have:=r.Mg hm;lia),w⟩;rcases Zu (s':={ s with ws:=ws' }) hs r.W rfl rfl h1 e with e|⟨e1,e2,e3⟩
 .exact e
 .have:j=kK s.tk:=(As (r.W.t0 s hm) ‹_›).resolve_right h2;subst this;rw[cw r.W hm,e3,if_pos (by lia)];unfold Sl.lt Sl.dd;rw[hf]
end
section
variable {k:Nat}{g:Gh}
def aH.kn:aH->cT
 |.way w _ _ _=>w.nm | .set _ _=>"set" |.move _ _=>"move" |.load _ _ _=>"load" |.store _ _ _=>"store" |.dA _ _=>"jump" |.go _=>"go" |.fault _=>"fault"
def aH.tl:aH->AY
 |.way _ x y z=>[.int x,.int y,.int z] | .set x v=>[.int x,.int v] | .move x y=>[.int x,.int y] | .load x y s=>[.int x,.int y,.int s] | .store x y s=>[.int x,.int y,.int s] | .dA x t=>[.int x,.int t] | .go t=>[.int t] | .fault v=>[.int v]
def Xh:r.av = .tup (.str (aH.kn r)::aH.tl r):=by cases r<;>rfl
def gK{x:AV}:cZ (x::xs) 0=aA x:=by unfold cZ iS;rw[if_pos '#',if_pos (by left)];rfl
def iI.fk(s:iI)(w:Nat):List (cT×AV):=[("ticket",.int s.tk),("at",.int s.pc),("row",.tup (.str (aH.kn s.row)::aH.tl s.row)),("names",.tup (s.bI.map oI)),("words",.ref w),("chosen",.int s.ch),("dares",.bl s.dr),("source",oI s.src),("held",oI s.eG),("deed",s.dd),("put",.int s.C9),("started",oI s.st),("finished",oI s.fi),("off",oI s.of)]
def BU{s:iI}{w:Nat}:s.fs w=s.fk w:=by unfold iI.fs iI.fk;rw[Xh]
def aL.lV(r:'*')(hs:s∈m.ac):h.ob s.a=aA (.ins 17<|(s.lt c.am).fk (s.a+2)):=by rw[<- BU];exact r.dD hs
def lj:aH.kn r=("store":cT)↔∃x y d,r = .store x y d:=by
 constructor
 .intro e;cases r with
  |store x y d=>exact⟨x,y,d,rfl⟩|way w=>exact absurd e<|Mx w|_=>simp only[aH.kn]at e;exact absurd e (by decide +kernel)
 .rintro ⟨x,y,d,rfl⟩;rfl
def lg:aH.kn r=("load":cT)↔∃x y d,r = .load x y d:=by
 constructor
 .intro e;cases r with
  |load x y d=>exact⟨x,y,d,rfl⟩|way w=>exact absurd e<|Mu w|_=>simp only[aH.kn]at e;exact absurd e (by decide +kernel)
 .rintro ⟨x,y,d,rfl⟩;rfl
def vk:aH.kn r=("jump":cT)↔∃x t,r = .dA x t:=by
 constructor
 .intro e;cases r with
  |dA x t=>exact⟨x,t,rfl⟩|way w=>exact absurd e<|Di w|_=>simp only[aH.kn]at e;exact absurd e (by decide +kernel)
 .rintro ⟨x,t,rfl⟩;rfl
def Mo.cO(m:Mo)(i:Nat)(s:Sl):Mo:={ m with ac:=m.ac.set i s }
def wq:Option Sl->Int
 |some s=>s.pc
 |none=>0
def Mo.F4(m:Mo)(t p:Int)(w:'+'):Mo:=match mV m.bg t p with
 |none=>{ m with kp:=eW m.kp t (aA p,w) }
 |some b=>({ m with kp:=eW m.kp t (aA p,w),ah:=wq (m.D9 b) }:Mo).E7 b
def Mo.E1(m:Mo)(i j:Nat)(w:Int):Mo:=match m.ac[i]? with
 |none=>m
 |some s=>match s.row,aX m.kp s.tk with
  |.store _ _ d,aA e=>if j=0 then { m.cO i { s with ws:='A' }with kp:=eW m.kp s.tk (e.1,aA w) } else(m.cO i { s with ws:='A' }).F4 s.tk (w+d) e.2
  |_,_=>m.cO i { s with ws:='A' }
structure ak(m:Mo)(s:Sl)(j:Nat):Prop where
 fi:s.fi=aD
 jl:j<B3 s.ws
 kp:∀x y d,s.row = .store x y d->∃e,aX m.kp s.tk=aA e/\(j=0->e.2=aD)/\(j=1->e.1=aD)
 bt:∀t p b,mV m.bg t p=aA b->∃s,m.D9 b=aA s
def aPn{w:Nat}{s:iI}{d:Int}(o:h.ob n=aA (.ins 17<|s.fs w))(er:s.row = .store x y d)(ow:h.ob w=aA (.l aB [oI w0,.int w1]))(q:R (.int<|w1+d) h):WC (D1 pg (k+2) 109 [.ref n]) h R:=by obtain⟨tk,pc,r,bI,ch,dr,src,eG,dd,pt,st,fi,of⟩:=s;cases er;exact aS rfl rfl<|B4 o<|B4 o<|B5<|qX (bR ow)<|aS rfl rfl q
def aL.DX(r:'*')(kn:(kp'.map (·.1)).Pairwise (·<·))(kl:B3 kp'<64):aL c g { m with kp:=kp' } (h.C9 (c.b+9)<|.aP<|dE lS kp'):=
 r.tY 9 ⟨r.W.tk,r.W.t0,r.W.sn,r.W.sw,r.W.wn,r.W.wl,kn,kl,r.W.bn,r.W.bl,r.W.fn,r.W.fk,r.W.fo,r.W.ff⟩ rfl rfl (aW _)
def aL.DW{t:Int}{e v:AG×AG}(r:'*')(hk:aX m.kp t=aA e):aL c g { m with kp:=eW m.kp t v } (h.C9 (c.b+9)<|.aP<|dE lS<|eW m.kp t v):=
 r.DX (by rw[Dv hk];exact r.W.kn) (by rw[<- aU,Dv hk,aU];exact r.W.kl)
def aL.jj(r:'*'):aL c g { m with ah:=a } (h.C9 (c.b+1)<|.ins 18<|{ m with ah:=a }.wf c g.sl):=
 r.tY 1 ⟨r.W.tk,r.W.t0,r.W.sn,r.W.sw,r.W.wn,r.W.wl,r.W.kn,r.W.kl,r.W.bn,r.W.bl,r.W.fn,r.W.fk,r.W.fo,r.W.ff⟩ rfl rfl (aW _)
end
section
variable {k:Nat}{g:Gh}
def aFo{d:Int}{e2:'+'}(r:'*')(hs:s∈m.ac)(er:s.row = .store x y d)(ew:s.ws=[w0,aA w1])(hk:aX m.kp s.tk=aA (aD,e2))(bt:∀b,mV m.bg s.tk (w1+d)=aA b->∃s,m.D9 b=aA s)(q:∀v g' h',aL c g' (m.F4 s.tk (w1+d) e2) h'->bL c g h g' h'->R v h'):WC (D1 pg (k+3) 116 ['4',.ref s.a]) h R:=by
 have ow:h.ob (s.a+2)=aA (.l aB [oI w0,.int w1]):=by rw[r.pq hs,ew];rfl
 refine aS rfl rfl<|B4 (r.at 1)<|B4 (r.at 8)<|B4 (r.dD hs)<|B4 (r.dD hs)<|aPn (r.dD hs) er ow ?_;refine aFp (t:=s.tk) r.shr hk λh1 k1=>?_;have r1:=(r.DW hk).D7 k1;unfold Mo.F4 at q;have nx:=(bL.st r '#' ⟨_,rfl⟩).trans (bL.D7 k1);cases eb:mV m.bg s.tk (w1+d) with
 |none=>rw[eb]at q;exact q _ _ _ r1 nx
 |some b=>obtain⟨sb,e⟩:=bt b eb;rw[eb]at q;dsimp only at q;rw[e]at q;refine B4 (r1.at 1)<|KH r1 ?_;rw[show Mo.D9 { m with kp:=eW m.kp s.tk (aA (w1+d),e2) } b=m.D9 b from rfl,e];have hb:=wQ e;refine B4 (r1.dD hb)<|B4 (r1.at 1) ?_;have r2:=r1.jj (a:=sb.pc);exact B4 (r2.at 1)<|Qq r2 λv g' h' r3 n3 f3=>q _ _ _ r3 ((nx.trans<|bL.st r1 '#' ⟨_,rfl⟩).trans (bL.of n3 f3))
def O3{j:Int}{w:AV}(r:'*')(hs:s∈m.ac)(cs:¬aH.kn s.row=("store":cT))(q:R .aG h):dY (D1 pg<|k+3) (bH Xj) [aA '4',aA (.ref s.a),aA (.int j),aA w] h (λ_ h1=>R .aG h1) R '6' λ_ _=>False:=
 B4 (r.lV hs) (B4 gK<|C4 cs<|B4 (r.lV hs)<|B4 gK<|C4 cs q)
def CU(r:'*')(hs:'5')(ea:s.a=n)(G:ak m s j)(q:∀v g' h',aL c g' (m.E1 i j w) h'->bL c g h g' h'->R v h'):WC (D1 pg (k+4) 115 ['4',.ref n,.int (j:Int),.int w]) h R:=by
 subst ea;have hm:=bJ hs;have jl:=G.jl;refine aS rfl rfl<|B4 (r.dD hm)<|ye (r.pq hm) (by rw[aU];exact Ci jl) ?_;rw[show((s.ws.map oI).set j (.int w))='A'.map oI by rw[yq];rfl];have r1:=r.aUv (ws':='A') hs G.fi (sT ..);have nx:bL c g h g (h.C9 (s.a+2)<|.l aB<|'A'.map oI):=bL.C9 (r.ku hm).2;revert r1 nx
 generalize h.C9 (s.a+2) (.l aB<|'A'.map oI)=h1;intro r1 nx;obtain⟨s1,e1⟩:∃s1:Sl,s1={ s with ws:=s.ws.set j (aA w) }:=⟨_,rfl⟩;have ha:s1.a=s.a:=by rw[e1]
 have ht:s1.tk=s.tk:=by rw[e1]
 have hr:s1.row=s.row:=by rw[e1]
 unfold Mo.E1 at q;rw[hs]at q;dsimp only at q;rw[<- e1]at r1 q;have hm':s1∈(m.cO i s1).ac:=bJ (mB<|(dk.1 hs).1);rw[<- ha];by_cases cs:aH.kn s.row=("store":cT)
 .obtain⟨x,y,d,er⟩:=lj.1 cs;obtain⟨⟨p0,e2⟩,ek,z0,z1⟩:=G.kp x y d er;rw[er,ek]at q;dsimp only at q;rw[<- ht]at ek q;have cs':=hr▸cs;by_cases cj:j=0
  .subst cj;cases z0 rfl;refine B4 (r1.lV hm')<|B4 gK<|aE.dt cs'<|B4 (r1.at 1)<|B4 (r1.at 8)<|B4 (r1.lV hm')<|aUw r1.shr ek λv=>?_;have r2:=r1.DW (v:=(p0,aA w)) ek;exact B4 (r2.lV hm')<|B4 gK<|aE.dt cs'<|q _ _ _ r2<|nx.trans<|bL.st r1 '#' ⟨_,rfl⟩
  .rw[if_neg cj]at q;have nw:=(r.W.sw s hm).1;rw[er]at nw;have nw:B3 s.ws=2:=nw;have j1:j=1:=by lia
   subst j1;cases z1 rfl;obtain⟨w0,w1,ew⟩:=pj nw;refine B4 (r1.lV hm')<|B4 gK<|aE.dt cs'<|B4 (r1.lV hm')<|B4 gK<|aE.dt cs'<|B4 (r1.at 1)<|aFo r1 hm' (hr.trans er) (by rw[e1,ew];rfl) ek (λb eb=>?_) λv g' h' r2 n2=>q _ _ _ r2 (nx.trans n2);obtain⟨sb,e⟩:=G.bt _ _ _ eb;refine⟨if b=s.tk then s1 else sb,?_⟩;show(m.ac.set i _).find? _=_;rw[BJ hs ht r.W.tk];split
   .rfl
   .exact e
 .have nst:=λx y d e=>cs (lj.2 ⟨x,y,d,e⟩);have q':aL c g (m.cO i s1) h1->R .aG h1:=λz=>q _ _ _ (by
   split
   .simp_all
   .exact z) nx
  exact O3 r1 hm' (hr▸cs)<|q' r1
end
section
variable {k:Nat}{g:Gh}
def L7:(l++[s]).find? (λz=>decide (z.tk=u))=(l.find? λz=>decide (z.tk=u)).or (if s.tk=u then aA s else aD):=by left
def aL.SV{o1:bA}(r:'*')(k1:Kp h h')(en:n=s.a)(ha:h.nx<=n)(hl:n+2<h'.nx)(os:h'.ob n=aA (.ins 17<|(s.lt c.am).fs (n+2)))(ow:h'.ob (n+2)=aA (.l aB<|s.ws.map oI))
  (ht:s.tk=m.aY)(h0:0<=m.aY)(hp:∀z∈m.ac,z.tk<m.aY)(hn:B3 m.ac<63)(hw:B3 s.ws=s.row.nw/\B3 s.bI=s.row.nw) :
  ∃g',g'.sl=g.sl/\(∀n,n<h.nx->g'.kd n=g.kd n)/\aL c g' { m with ac:=m.ac++[s],aY:=m.aY+1 } ((h'.C9 (c.b+1)<|.ins 18<|{ m with aY:=m.aY+1 }.wf c g.sl).C9 g.sl (.l aB<|(m.ac.map λs=>AV.ref s.a)++[.ref n])):=by
 subst en;have z:=rK (ht▸h0:0<=s.tk);have r1:=r.D7 k1;obtain⟨o15,l15,k15⟩:=r.lJ;have x1:=r.X.st 1 _ rfl;refine⟨⟨g.sl,g.kf,λi=>if i=s.a then kK s.tk else if i=s.a+2 then kK s.tk+1 else g.kd i⟩,rfl,λn hn=>(if_neg (by lia)).trans (if_neg (by lia)),⟨λi o e=>?_,λk n o h1 e=>?_⟩,?_,?_⟩
 .have e0:i=1\/i≠1/\(m.fX c g)[i]?=aA (aA o):=by
   by_cases c1:i=1
   .exact .inl c1
   .refine .inr ⟨c1,?_⟩;rw[show Mo.fX { m with ac:=m.ac++[s],aY:=m.aY+1 } c ⟨g.sl,g.kf,λi=>if i=s.a then kK s.tk else if i=s.a+2 then kK s.tk+1 else g.kd i⟩=(m.fX c g).set 1 (aA<|.ins 18<|{ m with aY:=m.aY+1 }.wf c g.sl) from rfl,kZ λw=>c1 w.symm]at e;exact e
  have main:∀o',(m.fX c g)[i]?=aA (aA o')->(if c.b+i=s.a then kK s.tk else if c.b+i=s.a+2 then kK s.tk+1 else g.kd (c.b+i))=i/\c.b+i<h'.nx/\c.b+i≠g.sl:=λo' e'=>by have y:=r.X.st i o' e';have hi:i<15:=(dk.1 e').1;refine⟨?_,bE y.2.1 k1.nx,λw=>by rw[<- w,y.1]at k15;lia⟩;rw[if_neg (by lia),if_neg (by lia)];exact y.1
  rcases e0 with rfl|⟨c1,e0⟩
  .cases e;have y:=main _ rfl;exact⟨y.1,y.2.1,(bD y.2.2).trans bO⟩
  .have y:=main _ e0;exact⟨y.1,y.2.1,(bD y.2.2).trans ((bD (by lia)).trans (r1.X.st i o e0).2.2)⟩
 .have old:∀{k n o},15<=k->k≠15->m.E8 c g k=aA (n,o)->(if n=s.a then kK s.tk else if n=s.a+2 then kK s.tk+1 else g.kd n)=k/\c.b<=n/\n<h'.nx/\((h'.C9 (c.b+1)<|.ins 18<|{ m with aY:=m.aY+1 }.wf c g.sl).C9 g.sl (.l aB<|(m.ac.map λs=>AV.ref s.a)++[.ref s.a])).ob n=aA o:=λ{k n o} h1 h2 e=>by
   have y:=r.X.dy k n o h1 e;refine⟨?_,y.2.1,bE y.2.2.1 k1.nx,?_⟩
   .rw[if_neg (by lia),if_neg (by lia)];exact y.1
   .rw[bD λw=>h2 (by rw[<- y.1,w,k15]),bD λw=>by rw[w,x1.1]at y;lia];exact k1.get y.2.2.1 y.2.2.2
  by_cases c15:k=15
  .subst c15;cases e;refine⟨?_,(r.X.dy 15 _ _ (aW _) rfl).2.1,bE l15 k1.nx,?_⟩
   .show(if g.sl=s.a then _ else if g.sl=s.a+2 then _ else _)=_;rw[if_neg (by lia),if_neg (by lia)];exact k15
   .rw[bO,eR];rfl
  .by_cases c30:k<30
   .exact old h1 c15 (by unfold Mo.E8 at e ⊢;rw[if_neg c15,if_pos c30]at e ⊢;exact e)
   .unfold Mo.E8 at e;rw[if_neg c15,if_neg c30,L7]at e;cases ef:m.ac.find? (λz=>decide (z.tk=((k:Int)-30) / 2)) with
    |some s'=>rw[ef]at e;exact old h1 c15 (by unfold Mo.E8;rw[if_neg c15,if_neg c30,ef];exact e)
    |none=>
     rw[ef,Option.none_or]at e;by_cases ct:s.tk=((k:Int)-30) / 2
     .rw[if_pos ct,qx]at e;have lo:=dF r.bx ha;have n1:s.a≠g.sl:=by lia
      have n2:s.a+2≠g.sl:=by omega
      by_cases c2:k%2=0
      .rw[if_pos c2]at e;cases e;refine⟨?_,lo,by show s.a<h'.nx;omega,?_⟩
       .show(if s.a=s.a then _ else _)=_;rw[if_pos rfl];exact((As (ht▸h0) ct.symm).resolve_right λw=>by rw[w,z.2.2.2.1]at c2;cases c2).symm
       .rw[bD n1,bD '!'];exact os
      .rw[if_neg c2]at e;cases e;refine⟨?_,'!',hl,?_⟩
       .show(if s.a+2=s.a then _ else if s.a+2=s.a+2 then _ else _)=_;rw[if_neg '!',if_pos rfl];exact((As (ht▸h0) ct.symm).resolve_left λw=>c2 (w▸z.2.2.1)).symm
       .rw[bD n2,bD '!'];exact ow
     .rw[if_neg ct]at e;exact bU e
 .have lb:=(r.X.dy 15 _ _ (aW _) rfl).2.1;refine r1.G.imp λ_ z=>z.low (aW _) λn hn=>?_;rw[bD (by lia),bD (by lia)]
 .have w:=r.W;refine⟨?_,λz hz=>?_,by rw[dU];exact zS hn,λz hz=>?_,w.wn,w.wl,w.kn,w.kl,w.bn,w.bl,w.fn,w.fk,w.fo,w.ff⟩
  .rw[eR,Tn];refine⟨w.tk,Gu ..,λa ha b hb=>?_⟩;obtain⟨z,hz,rfl⟩:=bp.1 ha;rw[a'.1 hb];show z.tk<s.tk;rw[ht];exact hp z hz
  .rcases eh.1 hz with hz|hz
   .exact w.t0 z hz
   .rw[a'.1 hz,ht];exact h0
  .rcases eh.1 hz with hz|hz
   .exact w.sw z hz
   .rw[a'.1 hz];exact hw
end
section
variable {k:Nat}{g:Gh}
def aL.nmF{kf':Dc Nat}{l:'0'}(r:'*')(N:lO h' (c.b+4) (c.b+5) kf' (lW m.fl x l))(F:Wb h h' (c.b+5) 0 g.kf kf' x)(hx:0<=x/\x<8)(hl:B3 l<99999):∃g',bL c g h g' h'/\aL c g' { m with fl:=lW m.fl x l } h':=by
 obtain⟨f,E,en⟩:=F.C8;have kx:=F.kx;have v:∀{k:Nat},k-16=x->16+x.toNat=k:=λe=>Int.ofNat.inj ((congrArg (λz=>16+z)<|Ss hx.1).trans (Int.sub_eq_iff_eq_add'.1 e).symm);have bn:∀n∈(c.b+5)::(aX g.kf x).toList,n=c.b+5\/aX g.kf x=aA n:=λn hn=>by grind
 have fx:∀n,aX g.kf x=aA n->g.kd n=16+x.toNat/\c.b<=n:=λn e=>have y:=r.X.dy _ _ _ (by lia) (xW r.W e);⟨y.1,y.2.1⟩;have d:∀{n k},g.kd n=k->k≠5->k≠16+x.toNat->n∉(c.b+5)::(aX g.kf x).toList:=λ{n k} e s G w=>by
  rcases bn n w with w|w
  .rw[w,((r.X.st 5 _ rfl).1)]at e;exact s e.symm
  .rw[(fx n w).1]at e;exact G e.symm
 have a:∀{n},n<h.nx->(aX g.kf x=aD->h.nx<=f)->(if aX g.kf x=aD/\n=f then 16+x.toNat else g.kd n)=g.kd n:=λ{n} hn j=>if_neg λw=>by have:=j w.1;lia
 have j:aX g.kf x=aD->h.nx<=f:=λe=>en.elim (λw=>by rw[e]at w;cases w) λw=>w.2;refine⟨⟨g.sl,kf',λi=>if aX g.kf x=aD/\i=f then 16+x.toNat else g.kd i⟩,⟨kx.nx,λn hn A _=>⟨kx.ob n hn (d A '#' (by lia)),(a hn j).trans A⟩⟩,⟨λi o e=>?_,λk n o s e=>?_⟩,?_,?_⟩
 .by_cases t:i=5
  .subst t;cases e;have y:=r.X.st 5 _ rfl;exact⟨(a y.2.1 j).trans y.1,N.hd,N.od⟩
  .have p:(m.fX c g)[i]?=aA (aA o):=by rw[show Mo.fX { m with fl:=lW m.fl x l } c ⟨g.sl,kf',λi=>if aX g.kf x=aD/\i=f then 16+x.toNat else g.kd i⟩=(m.fX c g).set 5 (aA<|.aP<|dE AV.ref kf') from rfl,kZ λw=>t w.symm]at e;exact e
   have y:=r.X.st i o p;have J:i<15:=(dk.1 p).1;exact⟨(a y.2.1 j).trans y.1,bE y.2.1 kx.nx,kx.get y.2.1 (d y.1 t '!') y.2.2⟩
 .by_cases H:16<=k/\k<30
  .unfold Mo.E8 at e;rw[if_neg '!',if_pos H.2]at e;obtain⟨u,b,I⟩:=gT.1 e;cases I;have y:=N.ls _ _ b;by_cases q:k-16=x
   .have ff:f=n:=by rw[q,E]at b;exact cR b
    subst ff;rcases en with w|w
    .exact⟨(if_neg λz=>by rw[w]at z;cases z.1).trans ((fx f w).1.trans (v q)),(fx f w).2,y.1,y.2⟩
    .exact⟨(if_pos ⟨w.1,rfl⟩).trans (v q),dF r.bx w.2,y.1,y.2⟩
   .have B:=b;rw[F.old _ q]at B;have z:=r.X.dy _ _ _ '!' (xW r.W B);exact⟨(a z.2.2.1 j).trans '!',z.2.1,y.1,y.2⟩
  .have p:m.E8 c g k=aA (n,o):=by
    unfold Mo.E8 at e ⊢;split
    .rename_i z;rw[if_pos z]at e;exact e
    .rename_i z;rw[if_neg z,if_neg '!']at e;rw[if_neg '!'];exact e
   have z:=r.X.dy k n o s p;exact⟨(a z.2.2.1 j).trans z.1,z.2.1,bE z.2.2.1 kx.nx,kx.get z.2.2.1 (d z.1 '!' '!') z.2.2.2⟩
 .refine r.G.imp λ_ z=>z.low (aW _) (kx.lowG r.bx λn hn=>?_);rcases bn n hn with w|w
  .rw[w];exact oJ ..
  .exact(fx n w).2
 .have w:=r.W;refine⟨w.tk,w.t0,w.sn,w.sw,w.wn,w.wl,w.kn,w.kl,w.bn,w.bl,N.nd,λy u e=>?_,N.no,λy=>?_⟩
  .by_cases C:y=x
   .rw[C];exact hx
   .have D:=e;rw[F.old y C]at D;exact w.fk y u D
  .show(lW m.fl x l y).length<99999;unfold lW;split
   .exact hl
   .exact w.ff y
end
section
variable {k:Nat}{g:Gh}
def aH.fx:aH->AG
 |.way _ x _ _=>aA x | .set x _=>aA x | .move x _=>aA x | .load x _ _=>aA x
 |_=>aD
def Kd:r.fl=oI (aH.fx r):=by cases r<;>rfl
def Km(hr:nZ r)(e:aH.fx r=aA x):0<=x/\x<8:=by
 cases r<;>cases e
 .exact hr.1
 .exact hr.1
 .exact hr.1
 .exact hr.1
def Mo.mN(m:Mo)(row:aH)(a:Nat):Sl:=⟨a,m.aY,m.ah,row,row.cQ.map λx=>(m.fl x).getLast?,fB row.nw aD,m.ah+1,aJ,aD,aD,m.nw,aD,aD,aD⟩
def mH(fl:Int->'0')(row:aH)(t:Int):Int->'0':=match aH.fx row with
 |some x=>lW fl x (fl x++[t])
 |none=>fl
def lq(kp:Dc (AG×AG))(row:aH)(t:Int):Dc (AG×AG):=match row with
 |.store _ _ _=>kp++[(t,aD,aD)]
 |_=>kp
def Mo.F0(m:Mo)(row:aH)(a:Nat):Mo:={ m with ac:=m.ac++[m.mN row a],aY:=m.aY+1,fl:=mH m.fl row m.aY,kp:=lq m.kp row m.aY }
structure ru(c:Cf)(m:Mo)(row:aH):Prop where
 hr:c.rs[m.ah.toNat]?=aA row
 ah:0<=m.ah
 ok:nZ row
 t0:0<=m.aY
 sl:∀s∈m.ac,s.tk<m.aY
 fl:∀y u,(m.fl y).getLast?=aA u->u<m.aY
 kp:∀p∈m.kp,p.1<m.aY
 bg:aX m.bg m.aY=aD
 sn:B3 m.ac<63
 kl:B3 m.kp<63
 ff:∀x,B3 (m.fl x)<99998
theorem wK{r:aH}:B3 r.cQ=r.nw:=by cases r<;>rfl
def wg{r:aH}:r.nw<=2:=by cases r<;>exact wV rfl
def Zx(r:'*')(hs:s∈m.ac)(er:s.row=row)(hk:∀p∈m.kp,p.1<s.tk)(hb:aX m.bg s.tk=aD)(kl:B3 m.kp<63)(q:∀g' h',aL c g' { m with kp:=lq m.kp row s.tk } h'->bL c g h g' h'->R (.ref s.a) h') :
  dY (D1 pg<|k+3) (bH<|bH<|bH<|bH<|bH Al) [aA '4',aA row.av,aA (.ref s.a)] h (λ_ h1=>R .aG h1) R '6' λ_ _=>False:=by
 have f:'*'->(∀x y d,row ≠ .store x y d)->R (.ref s.a) h:=λi hn=>q g h (by rw[show lq m.kp row s.tk=m.kp by simp_all[lq]];exact i) bL.refl;by_cases cs:aH.kn row=("store":cT)
 .obtain⟨x,y,d,rfl⟩:=lj.1 cs;refine B4 (r.at 1)<|B4 (r.at 8)<|B4 (r.dD hs)<|aQb r.shr hb hk λv j kx e=>?_;refine q g j (r.yK (m':={ m with kp:=m.kp++[(s.tk,aD,aD)] }) 9 kx e ⟨r.W.tk,r.W.t0,r.W.sn,r.W.sw,r.W.wn,r.W.wl,?_,by rw[dU];exact zS kl,r.W.bn,r.W.bl,r.W.fn,r.W.fk,r.W.fo,r.W.ff⟩ rfl rfl<|aW _)<|bL.kx r '#' ⟨_,rfl⟩ kx;rw[eR,Tn];refine⟨r.W.kn,Gu ..,λa ha b hb=>?_⟩;obtain⟨z,l,rfl⟩:=bp.1 ha;rw[a'.1 hb];exact hk z l
 .have n:=f r λx y d e=>cs (lj.2 ⟨x,y,d,e⟩);rw[Xh];exact B4 gK<|C4 cs n
def u7(r:'*')(et:s.tk=tk)(hs:s∈m.ac)(er:s.row=row)(ok:nZ row)(hk:∀p∈m.kp,p.1<tk)(hb:aX m.bg tk=aD)(kl:B3 m.kp<63)(hf:∀y u,(m.fl y).getLast?=aA u->u<tk)(ff:∀x,B3 (m.fl x)<99998)(q:∀g' h',aL c g' { m with fl:=mH m.fl row tk,kp:=lq m.kp row tk } h'->bL c g h g' h'->R (.ref s.a) h') :
  dY (D1 pg<|k+3) (bH<|bH<|bH<|bH Al) [aA '4',aA row.av,aA (.ref s.a)] h (λ_ h1=>R .aG h1) R '6' λ_ _=>False:=by
 subst et;refine Kb ?_;rw[Kd];cases a:aH.fx row with
 |none=>refine Zx r hs er hk hb kl λg' h' b d=>q g' h' ?_ d;rw[show mH m.fl row s.tk=m.fl by unfold mH;rw[a]];exact b
 |some x=>have e:=Km ok a;refine B4 (r.at 1)<|B4 (r.at 4)<|B4 (r.dD hs)<|Kb (k:=k+2) ?_;rw[Kd,a];refine L4 (k:=k+1) r.My (by have:=DV r.W;lia) hf (by grind) λv f n N F i=>?_;obtain⟨g',j,l⟩:=r.nmF N F e (by rw[dU];exact zS<|ff x);refine Zx l hs er hk hb kl λg' h' b d=>q g' h' ?_ (j.trans d);rw[show mH m.fl row s.tk=lW m.fl x (m.fl x++[s.tk]) by unfold mH;rw[a]];exact b
def u9(r:'*')(E:ru c m row)(q:∀a g' h',aL c g' (m.F0 row a) h'->bL c g h g' h'->R (.ref a) h'):WC (D1 pg (k+4) 114 ['4']) h R:=by
 have y:cZ (c.rs.map aH.av) m.ah=aA row.av:=by have hl:=(dk.1 E.hr).1;have:=E.ah;unfold cZ iS;rw[if_pos this,if_pos (by rw[aU];lia)];simp only[oP,eQ,E.hr,qx]
 refine aS rfl rfl<|B4 (r.at 1)<|B4 (r.at 1)<|B5<|dZ (bR<|r.at 2) y ?_;refine B4 (r.at 1)<|B4 (r.at 1)<|B4 (r.at 1)<|B4 (r.at 4)<|MJ (k:=k+2) ?_;refine O8 (k:=k+1) r.My (by have:=@wK row;have:=@wg row;lia) λb k1=>?_;have z:=r.D7 k1;refine B4 (z.at 1) ?_;have en:(row.cQ.map λx=>oI (m.fl x).getLast?)=(row.cQ.map λx=>(m.fl x).getLast?).map oI:=by rw[iP];rfl
 rw[en];have nl:B3 (row.cQ.map λx=>(m.fl x).getLast?)=row.nw:=by rw[aU];exact wK
 refine aPc (k:=k+2) bC (cD _) (by rw[nl];exact wg) λl u A w2 f2=>⟨rfl,?_⟩;have k2:Kp h l:=⟨by have:=k1.nx;rw[u];show h.nx<=b.nx+1+2;lia,λi B=>by have:=k1.nx;rw[f2 i '!' (by show i<b.nx+1;lia),dO '!',k1.ob i B]⟩
 have o:=r.D7 k2;refine B4 (o.at 1)<|B4 (o.at 1) ?_;obtain⟨s,d⟩:∃s,s=m.mN row b.nx:=⟨_,rfl⟩;rw[nl]at w2;obtain⟨C,_,p,t⟩:=r.SV (s:=s) (o1:=.l aB []) (n:=b.nx) k2 (by rw[d];rfl) k1.nx (by rw[u];show b.nx+2<b.nx+1+2;lia) (by rw[A,d];rfl) (by rw[show b.nx+2=(b.C8<|.ins 17 []).nx+1 from rfl,w2,d];unfold Mo.mN;rw[OV];rfl) (by rw[d];rfl) E.t0 E.sl E.sn (by rw[d];exact⟨Td ..,nl⟩);have f:(l.C9 (c.b+1)<|.ins 18<|{ m with aY:=m.aY+1 }.wf c g.sl).ob g.sl=aA (.l aB<|m.ac.map λs=>.ref s.a):=(bD λw=>by have a:=r.lJ.2.2;rw[w,(r.X.st 1 _ rfl).1]at a;cases a).trans o.lJ.1
 refine B4 bO<|B7 rfl<|B4 rfl<|B7 (pE f)<|B5<|sP f (by rw[aU];have:=E.sn;have:=lU;lia) ?_;have e:bL c g h C ((l.C9 (c.b+1)<|.ins 18<|{ m with aY:=m.aY+1 }.wf c g.sl).C9 g.sl (.l aB<|(m.ac.map λs=>AV.ref s.a)++[.ref b.nx])):=⟨k2.nx,λn hn j _=>⟨(bD λw=>by rw[w,r.lJ.2.2]at j;cases j).trans ((bD λw=>by rw[w,(r.X.st 1 _ rfl).1]at j;cases j).trans (k2.ob n hn)),(p n hn).trans j⟩⟩;change dY (D1 pg<|k+3) (bH<|bH<|bH<|bH Al) [aA '4',aA row.av,aA (.ref b.nx)] ((l.C9 (c.b+1)<|.ins 18<|{ m with aY:=m.aY+1 }.wf c g.sl).C9 g.sl (.l aB<|(m.ac.map λs=>AV.ref s.a)++[.ref b.nx])) (λ_ b=>R .aG b) R '6' λ_ _=>False;revert t e
 intro t e;have:=u7 (k:=k) (R:=R) (s:=s) (row:=row) (tk:=m.aY) t (by rw[d];rfl) (hJ _<|a'.2 rfl) (by rw[d];rfl) E.ok E.kp E.bg E.kl E.fl E.ff λg' h' v D=>by rw[d];refine q b.nx g' h' ?_<|e.trans D;rw[d]at v;exact v
 rw[d]at this;exact this
end
section
variable {k:Nat}{g:Gh}
def aH.Iq(ws:'0')(held:'+'):aH->AG
 |.way w _ _ _=>aA (w.wk (cell ws 0)<|cell ws 1) | .set _ v=>aA v | .move _ _=>aA (cell ws 0) | .store _ _ _=>aA (cell ws 0) | .load _ _ _=>held
 |_=>aD
def ZD{held:'+'}:r.br ws (oI held)=oI (aH.Iq ws held r):=by cases r<;>rfl
def aFj:r.pl ws=oI (r.Nn ws):=by cases r<;>rfl
def nF(f:A4)(o:'+'):'+':=match f with
 |none=>o
 |some _=>aD
def Sl.d1(am:Int)(s:Sl):'+':=nF (s.ft am) (aH.fx s.row)
def Sl.d2(am:Int)(s:Sl):'+':=nF (s.ft am) (s.row.Nn s.wi)
def Sl.d3(am:Int)(s:Sl):'+':=nF (s.ft am) (aH.Iq s.wi s.eG s.row)
def Sl.d4(am:Int)(s:Sl):'+':=nF (s.ft am) (aA<|s.row.gs s.pc s.wi)
def Sl.dt(am:Int)(s:Sl):'%':=[.int s.pc,oI (s.d1 am),oI (s.d2 am),oI (s.d3 am),oI (s.d4 am),(s.ft am).getD .aG]
def Zo:s.row.fZ s.pc s.wi am (oI s.eG) = .tup (s.dt am):=by
 unfold aH.fZ Sl.dt Sl.d1 Sl.d2 Sl.d3 Sl.d4 Sl.ft;cases s.row.ft s.wi am with
 |none=>rw[Kd,aFj,ZD];rfl
 |some f=>rfl
def ub(e:qw s.fi=aB):s.dd am = .tup (s.dt am):=by
 unfold Sl.dd;cases h:s.fi with
 |none=>left|some φ=>exact Zo
def iI.ff(s:iI)(w:Nat)(d:'%'):List (cT×AV):=[("ticket",.int s.tk),("at",.int s.pc),("row",.tup (.str (aH.kn s.row)::aH.tl s.row)),("names",.tup (s.bI.map oI)),("words",.ref w),("chosen",.int s.ch),("dares",.bl s.dr),("source",oI s.src),("held",oI s.eG),("deed",.tup d),("put",.int s.C9),("started",oI s.st),("finished",oI s.fi),("off",oI s.of)]
def aL.Er(r:'*')(hs:s∈m.ac)(e:qw s.fi=aB):h.ob s.a=aA (.ins 17<|(s.lt c.am).ff (s.a+2) (s.dt c.am)):=by rw[r.lV hs];unfold iI.fk iI.ff;rw[show(s.lt c.am).dd=s.dd c.am from rfl,ub e]
def pF(am:Int)(o:Option Sl)(v:Int):'+':=match o with
 |none=>aA v
 |some s=>if qw s.fi=aB then s.d3 am else aD
def W4{o:Option Sl}(r:'*')(ho:∀s,o=aA s->s∈m.ac)(q:R (oI<|pF c.am o v) h):WC (D1 pg (k+1) 18 [aO o,.int v]) h R:=by
 cases o with
 |none=>exact aS rfl rfl q|some s=>
  have b:=ho s rfl;unfold pF at q;cases e:s.fi with
  |none=>
   dsimp only at q;rw[e]at q;have a:h.ob s.a=aA (.ins 17<|{ s.lt c.am with fi:=aD }.fk (s.a+2)):=by rw[r.lV b];unfold Sl.lt;rw[e]
   exact aS rfl rfl<|B4 a q
  |some f=>
   have d:qw s.fi=aB:=by rw[e];rfl
   dsimp only at q;rw[if_pos d]at q;have a:h.ob s.a=aA (.ins 17<|{ s.lt c.am with fi:=aA f }.ff (s.a+2) (s.dt c.am)):=by rw[r.Er b d];unfold Sl.lt;rw[e]
   exact aS rfl rfl<|B4 a<|B4 a q
end
section
variable {k:Nat}{g:Gh}
def JP{i:Int}(h0:0<=i)(h1:i<B3 ws)(hl:B3 ws<=80)(q:R (.tup<|(ws.set i.toNat w).map .int) h):WC (D1 pg (k+1) 21 [.tup (ws.map .int),.int i,.int w]) h R:=by
 have E4:=lU;obtain⟨n,rfl⟩:∃n:Nat,i=n:=⟨i.toNat,by lia⟩;have hn:n<B3 ws:=by lia
 rw[uL,aXg,if_pos hn]at q;refine aS rfl rfl<|rC<|B5<|MY ?_ ?_
 .grind [HT.Ek,HT.yW]
 rw[j9];refine B5<|MN (by grind) ?_;refine rC<|B5<|MY (lo:=aA ((n+1:Nat):Int)) ?_ ?_
 .rw[HT.Ek,HT.yW,aU];lia
 rw[Zf];refine B5<|MN (by rw[dU,oH,Gp,aU];rw[qv (kG hn)];show n+1+(B3 ws-(n+1))<=_;rw[Nat.add_sub_cancel' (hn)];exact dF hl<|dF '#'<|kG E4) ?_;rw[<- yr,<- Tf,wO];rw[eR]at q;exact q
def Sd.oY(sd:Sd)(d1 d2 d3 d4:'+'):Sd:=match d1,d2 with
 |some x,_=>⟨d4.getD 0,sd.bx.set x.toNat (d3.getD 0),sd.mem⟩
 |none,aA p=>⟨d4.getD 0,sd.bx,sd.mem.set p.toNat (d3.getD 0)⟩
 |none,aD=>⟨d4.getD 0,sd.bx,sd.mem⟩
def YT{sd:Sd}(q:R sd.av h):WC (D1 pg (k+2) 22 [sd.av,.tup [.int pc,.aG,.aG,.aG,.aG,.tup xs]]) h R:=aS rfl rfl q
def YU{sd:Sd}{d1 d2 d3:'+'}(bl:B3 sd.bx=8)(ml:B3 sd.mem<=80)(h1:∀x,d1=aA x->(0<=x/\x<8)/\∃w,d3=aA w)(h2:∀p,d1=aD->d2=aA p->(0<=p/\p<B3 sd.mem)/\∃w,d3=aA w)(q:R (sd.oY d1 d2 d3<|aA a).av h):WC (D1 pg (k+2) 22 [sd.av,.tup [.int pc,oI d1,oI d2,oI d3,.int a,.aG]]) h R:=by
 cases d1 with
 |some x=>obtain⟨b,w,rfl⟩:=h1 x rfl;exact aS rfl rfl<|JP (k:=k) b.1 '!' '!' q
 |none=>
  cases d2 with
  |some p=>obtain⟨b,w,rfl⟩:=h2 p rfl rfl;exact aS rfl rfl<|JP (k:=k) b.1 b.2 ml q
  |none=>exact aS rfl rfl q
def Mo.dN(m:Mo)(am:Int)(i:Nat):Nat->'0'->Mo
 |_,[]=>m
 |j,x::l=>match m.ac[i]? with
  |none=>m
  |some s=>match pF am (((s.bI[j]?).join).bind m.D9) (cell m.sd.bx x) with
   |some w=>Mo.dN (m.E1 i j w) am i (j+1) l
   |none=>Mo.dN m am i (j+1) l
end
section
variable {k:Nat}{g:Gh}
def Xf{l:List '+'}(hj:j<B3 l):cZ (l.map oI) (j:Int)=aA (oI (l[j]?).join):=by rw[L2.xP];rw[eQ,eD hj];rfl
def L8(e:l.find? (λz=>decide (z.tk=u))=aA s):s∈l:=wQ e
def YY{o:'+'}(e:o.bind m.D9=aA s):s∈m.ac:=by obtain⟨t,_,e⟩:=f'.1 e;exact L8 e
def O5{s0:Sl}(r:'*')(hs:m.ac[i]?=aA s0)(bl:B3 m.sd.bx=8)(P:Nat->Mo->Prop)(p0:P 0 m)
  (ps:∀j x m',s0.row.cQ[j]?=aA x->P j m'->(0<=x/\x<8)/\∃s,m'.ac[i]?=aA s/\s.a=s0.a/\s.row=s0.row/\s.bI=s0.bI /\
   match pF c.am (((s0.bI[j]?).join).bind m'.D9) (cell m.sd.bx x) with
   |some w=>ak m' s j/\P (j+1) (m'.E1 i j w)
   |none=>P (j+1) m')
  (pe:∀m',P (B3 s0.row.cQ) m'->∃s,m'.ac[i]?=aA s/\s.a=s0.a)
  (q:∀m' g' h',P (B3 s0.row.cQ) m'->aL c g' m' h'->bL c g h g' h'->R .aG h'):WC (D1 pg (k+5) 17 ['4',.ref s0.a,.tup (m.sd.bx.map .int)]) h R:=by
 have hm:=bJ hs;have nl:=(r.W.sw s0 hm).2;have wl:=@wK s0.row;have w2:=@wg s0.row;refine aS rfl rfl<|WB.of<|mQ<|aUn<|cK _<|B4 (r.dD hm)<|MJ (k:=k+3) ⟨_,rfl,?_⟩;refine M7 (xs:=s0.row.cQ.map .int) (λj l h'=>(∃n v4 o,l=[aA '4',aA (.ref s0.a),aA (.tup<|m.sd.bx.map .int),n,v4,o])/\∃m' g',P j m'/\aL c g' m' h'/\bL c g h g' h') (by rw[aU,eN];lia) ⟨⟨_,_,_,rfl⟩,m,g,p0,r,bL.refl⟩ (λj x l h' B y=>?_)<|λl h' y=>?_
 .obtain⟨⟨n,v4,o,rfl⟩,m',g',d,a,f⟩:=y;obtain⟨x,hr,rfl⟩:=kO B;have F:=(dk.1 hr).1;obtain⟨p,s,u,z,G,en,b⟩:=ps j x m' hr d;have t:=bJ u;have os:=a.dD t;rw[z]at os;have C:cZ (s.bI.map oI) (j:Int)=aA (oI (s.bI[j]?).join):=Xf (by left);refine kE _<|gR _<|B4 (a.at 1)<|B4 os<|B4 C<|KG (k:=k+3) a ?_;refine B4 (bc p.1 (by rw[aU];lia))<|W4 (k:=k+3) a (λs e=>YY e) ?_;rw[en];cases A:pF c.am (((s0.bI[j]?).join).bind m'.D9) (cell m.sd.bx x) with
  |none=>rw[A]at b;exact⟨⟨_,_,_,rfl⟩,m',g',b,a,f⟩
  |some w=>rw[A]at b;refine B4 (a.at 1)<|CU (k:=k) a u z b.1 λv g2 H D E=>?_;exact⟨⟨_,_,_,rfl⟩,_,g2,b.2,D,f.trans E⟩
 .obtain⟨⟨n,v4,o,rfl⟩,m',g',d,a,f⟩:=y;rw[aU]at d;exact q m' g' h' d a f
end
section
variable {k:Nat}{g:Gh}
def K9(hp:(l.map (·.tk)).Pairwise (·<·))(e:l[i]?=aA s)(hb:s.tk<b):(l.filter λz=>decide (z.tk<b))[i]?=aA s:=by
 induction l generalizing i with
 |nil=>cases e|cons z l c=>
  rw[fJ,To]at hp;cases i with
  |zero=>left|succ i=>have a:=e;have:=hp.1 s.tk (bp.2 ⟨s,bJ a,rfl⟩);rw[kF,if_pos (by simp;lia)];exact c hp.2 a
def YZ{t:Int}(e:mV bg t p=aA b):t<b/\∃q∈bg,q.1=b:=by
 unfold mV wc at e;split at e
 .exact bU e
 .rename_i z;have:=Ml (ns:=(bg.filter<|lE t p).map (·.1)) λw=>z (by rw[w];rfl);rw[cR e]at this;obtain⟨q,a,rfl⟩:=bp.1 this;obtain⟨c,d⟩:=gi.1 a;exact⟨of_decide_eq_true (Bool.and_eq_true_iff.1 d).1,q,c,rfl⟩
def aFn{w:'+'}(hp:(m.ac.map (·.tk)).Pairwise (·<·))(e:'5'):(m.F4 s.tk p w).ac[i]?=aA s:=by
 unfold Mo.F4;cases a:mV m.bg s.tk p with
 |none=>exact e|some b=>exact K9 hp e (YZ a).1
def Bt(hp:(m.ac.map (·.tk)).Pairwise (·<·))(e:'5'):(m.E1 i j w).ac[i]?=aA { s with ws:='A' }/\(m.E1 i j w).sd=m.sd:=by
 have a:(m.cO i { s with ws:='A' }).ac[i]?=aA { s with ws:='A' }:=mB ((dk.1 e).1);have b:((m.cO i { s with ws:='A' }).ac.map (·.tk)).Pairwise (·<·):=by show((m.ac.set i _).map _).Pairwise _;rw[nC e (show({ s with ws:='A' }:Sl).tk=s.tk from rfl)];exact hp
 unfold Mo.E1;rw[e];dsimp only;split
 .split
  .exact⟨a,rfl⟩
  .refine⟨aFn b a,?_⟩;unfold Mo.F4;split<;>rfl
 .exact⟨a,rfl⟩
def O7(hp:(m.ac.map (·.tk)).Pairwise (·<·)):((m.E1 i j w).ac.map (·.tk)).Pairwise (·<·):=by
 unfold Mo.E1;split
 .exact hp
 .rename_i s e;have a:∀{b:Sl},b.tk=s.tk->((m.ac.set i b).map (·.tk)).Pairwise (·<·):=λ{b} z=>by rw[nC e z];exact hp
  split
  .split
   .exact a rfl
   .unfold Mo.F4;split
    .exact a rfl
    .exact wN (pV.map _)<|a rfl
  .exact a rfl
def Mo.yF(m:Mo)(am:Int)(i:Nat):Nat->'0'->Prop
 |_,[]=>True
 |j,x::l=>(0<=x/\x<8)/\∃s,'5'/\(pF am (((s.bI[j]?).join).bind m.D9) (cell m.sd.bx x)=aD->Mo.yF m am i (j+1) l)/\∀w,pF am (((s.bI[j]?).join).bind m.D9) (cell m.sd.bx x)=aA w->ak m s j/\Mo.yF (m.E1 i j w) am i (j+1) l
def Bu{l:'0'}(e:'5'):m.dN am i j (x::l)=match pF am (((s.bI[j]?).join).bind m.D9) (cell m.sd.bx x)with|some w=>Mo.dN (m.E1 i j w) am i (j+1) l|none=>Mo.dN m am i (j+1) l:=by rw[Mo.dN,e]<;>rfl
def O9{s0:Sl}(r:'*')(hs:m.ac[i]?=aA s0)(bl:B3 m.sd.bx=8)(ok:m.yF c.am i 0 s0.row.cQ)
  (q:∀g' h' s,aL c g' (m.dN c.am i 0 s0.row.cQ) h'->(m.dN c.am i 0 s0.row.cQ).ac[i]?=aA s->s.a=s0.a->s.row=s0.row->s.pc=s0.pc->(m.dN c.am i 0 s0.row.cQ).sd=m.sd->bL c g h g' h'->R .aG h'):WC (D1 pg (k+5) 17 ['4',.ref s0.a,.tup (m.sd.bx.map .int)]) h R:=by
 refine O5 r hs bl (λj a=>a.yF c.am i j (s0.row.cQ.drop j)/\m.dN c.am i 0 s0.row.cQ=a.dN c.am i j (s0.row.cQ.drop j)/\a.sd=m.sd/\(a.ac.map (·.tk)).Pairwise (·<·)/\∃s,a.ac[i]?=aA s/\s.a=s0.a/\s.row=s0.row/\s.bI=s0.bI/\s.pc=s0.pc) ⟨ok,rfl,rfl,r.W.tk,s0,hs,rfl,rfl,rfl,rfl⟩ (λj x a ex y=>?_) (λa y=>?_) λa g' h' y B C=>?_
 .obtain⟨f,b,sd,tp,s,d,e,l,en,o⟩:=y;rw[Jl ex]at f b;obtain⟨D,F,n,z,A⟩:=f;rw[d]at n;cases n;rw[Bu d,en,sd]at b;rw[en,sd]at z A;refine⟨D,s,d,e,l,en,?_⟩;cases p:pF c.am (((s0.bI[j]?).join).bind a.D9) (cell m.sd.bx x) with
  |none=>rw[p]at b;exact⟨z p,b,sd,tp,s,d,e,l,en,o⟩
  |some w=>rw[p]at b;obtain⟨gv,E⟩:=A w p;obtain⟨t,u⟩:=Bt tp d;exact⟨gv,E,b,u.trans sd,O7 tp,_,t,e,l,en,o⟩
 .obtain⟨_,_,_,_,s,d,e,_⟩:=y;exact⟨s,d,e⟩
 .obtain⟨_,b,sd,_,s,d,e,l,_,o⟩:=y;rw[Gf]at b;have v:=b;rw[v]at q;exact q g' h' s B d e l o sd C
end
section
variable {k:Nat}{g:Gh}
def DA(w:Wh L n a h R):∃c fs i,h.ob n=aA (.ins c fs)/\Be.lookup c=aA i/\(fs.lookup ("guess":cT)).isNone=aB/\WC (D1 pg L i [.ref n,.int a]) h R:=by obtain⟨n',c,fs,e,o,w⟩:=hX.ex w;cases e;obtain⟨i,l,w⟩:=aC.ex w;obtain⟨hn,w⟩:=aE.an w;exact⟨c,fs,i,o,l,hn,w⟩
def aL.P9(r:'*')(q:∀b h',Kp h h'->R (.bl b) h'):∃cl fs i,h.ob c.gu=aA (.ins cl fs)/\Be.lookup cl=aA i/\(fs.lookup ("guess":cT)).isNone=aB/\WC (D1 pg (k+3) i [.ref c.gu,.int a]) h R:=by obtain⟨K,z⟩:=r.G;exact DA<|va 1 z.T (z.kl r.bx) z.g (by lia) q
def aL.nvG(r:'*')(q:∀b h',Kp h h'->R (.bl b) h'):∃cl fs i,h.ob c.nv=aA (.ins cl fs)/\Be.lookup cl=aA i/\(fs.lookup ("guess":cT)).isNone=aB/\WC (D1 pg (k+3) i [.ref c.nv,.int a]) h R:=by obtain⟨K,z⟩:=r.G;exact DA<|va 1 z.T (z.kl r.bx) z.n '!' q
def aH.pW(pc:Int)(b:Bool):aH->Int
 |.dA _ t=>if b=aB then t else pc+1
 |r=>r.gs pc []
def aOc(r:'*')(hs:s∈m.ac)(q:∀b h',Kp h h'->R (.int<|aH.pW s.pc b s.row) h'):WC (D1 pg (k+4) 19 [.ref s.a,.ref c.gu]) h R:=by
 by_cases d:aH.kn s.row=("jump":cT)
 .obtain⟨x,t,f⟩:=vk.1 d;have n:=λb h' k=>by have:=q b h' k;rw[f]at this;exact this
  have o:∀{h'},Kp h h'->h'.ob s.a=aA (.ins 17<|{ s.lt c.am with row:=.dA x t }.fs (s.a+2)):=λk=>by rw[(r.D7 k).dD hs];unfold Sl.lt;rw[f]
  obtain⟨cl,fs,i,p,l,hn,w⟩:=r.P9 (a:=s.pc) (R:=λv h'=>∃b,v = .bl b/\Kp h h') λb h' k=>⟨b,rfl,k⟩;refine aS rfl rfl<|B4 (o B6)<|B4 p<|B4 l<|B7 hn<|B4 (o B6)<|B5<|w.we.D2 λv h' z=>?_;obtain⟨b,rfl,k1⟩:=z;have j:=n b h' k1;cases b with
  |true=>exact B4 (o k1) j|false=>exact B4 (o k1) j
 .have u:=λx t e=>d (vk.2 ⟨x,t,e⟩);refine aOd (r.dD hs) u ?_;have:=q aB h B6;rw[show aH.pW s.pc aB s.row=s.row.gs s.pc [] by simp_all[aH.pW]]at this;exact this
def tK:aH->Bool
 |.load _ _ _=>aB
 |_=>aJ
def Mo.kL(m:Mo)(c:Cf)(row:aH)(a:Nat)(dr gs:Bool):Mo:=
 let m1:='G'
 match m1.ac[B3 m.ac]? with
 |none=>m1
 |some s=>{ m1.cO (B3 m.ac) { s with dr:=if tK s.row=aB then dr else s.dr,ch:=aH.pW s.pc gs s.row }with ah:=aH.pW s.pc gs s.row }
def aL.xi(r:'*')(hs:'5')(ha:s'.a=s.a)(ht:s'.tk=s.tk)(hw:s'.ws=s.ws)(hn:s'.bI=s.bI)(hr:s'.row=s.row):aL c g (m.cO i s') (h.C9 s.a<|.ins 17<|(s'.lt c.am).fs (s.a+2)):=r.aPb hs ha ht hw hn hr
def yX(hs:'5'):(m.cO i s').ac[i]?=aA s':=mB (dk.1 hs).1
def Ps:(m.cO i s).cO i s'=m.cO i s':=by unfold Mo.cO;simp only[Tu]
def BG(r:'*')(hs:'5')(q:∀gs g' h',aL c g' { m.cO i { s with ch:=aH.pW s.pc gs s.row }with ah:=aH.pW s.pc gs s.row } h'->bL c g h g' h'->R .aG h') :
  dY (D1 pg<|k+5) (bH<|bH<|bH Xl) [aA '4',aA '?',aA (.ref s.a)] h (λ_ h1=>R .aG h1) R '6' λ_ _=>False:=by
 have hm:=bJ hs;refine B4 (r.at 11)<|aOc r hm λb h1 k1=>?_;have d:=r.D7 k1;refine B4 rfl<|B4 rfl<|B4 (d.dD hm) ?_;have a:=d.xi (s':={ s with ch:=aH.pW s.pc b s.row }) hs rfl rfl rfl rfl rfl;refine B4 bO<|B4 (a.at 1) ?_;exact q b g _ (a.jj)<|((bL.D7 k1).trans (bL.C9 (r.ku hm).1)).trans (bL.st a '#' ⟨_,rfl⟩)
def K5(r:'*')(E:ru c m row)(bl:B3 m.sd.bx=8)(ok:∀a,(m.F0 row a).yF c.am (B3 m.ac) 0 row.cQ)(q:∀a dr gs g' h',aL c g' (m.kL c row a dr gs) h'->bL c g h g' h'->R .aG h'):WC (D1 pg (k+6) 16 ['4','?']) h R:=by
 refine aS rfl rfl<|B4 (r.at 1)<|u9 r E λa g1 L u C=>?_;have D:(m.F0 row a).ac[B3 m.ac]?=aA (m.mN row a):=yn;refine B4 (u.at 11)<|O9 u D bl (ok a) λg2 o s e f F M N G H=>?_;have j:∀dr gs g' h',aL c g' { 'G'.cO (B3 m.ac) { s with dr:=if tK s.row=aB then dr else s.dr,ch:=aH.pW s.pc gs s.row }with ah:=aH.pW s.pc gs s.row } h'->bL c g2 o g' h'->R .aG h':=λdr gs g' h' z I=>q a dr gs g' h' (by
  unfold Mo.kL;dsimp only;rw[show 'G'.ac[B3 m.ac]?=aA s from f];exact z) (C.trans<|H.trans I)
 have p:=F.symm;subst p;revert f e j
 show aL c g2 ((m.F0 row s.a).dN c.am (B3 m.ac) 0 row.cQ) o->((m.F0 row s.a).dN c.am (B3 m.ac) 0 row.cQ).ac[B3 m.ac]?=aA s->_->_;intro e f j;have hm:=bJ f;by_cases cl:aH.kn s.row=("load":cT)
 .obtain⟨x,y,d,J⟩:=lg.1 cl;obtain⟨O,fs,i,K,l,hn,w⟩:=e.nvG (R:=λv h'=>∃b,v = .bl b/\Kp o h') λb h' k=>⟨b,rfl,k⟩;refine B4 (e.lV hm)<|B4 gK<|aE.dt cl<|B4 (e.at 11)<|B4 K<|B4 l<|B7 hn<|B4 (e.dD hm)<|B5<|w.we.D2 λv P z=>?_;obtain⟨b,rfl,A⟩:=z;have B:=e.D7 A;refine B4 rfl<|B4 rfl<|B4 (B.dD hm) ?_;refine BG (k:=k) (s:={ s with dr:=b }) (B.xi (s':={ s with dr:=b }) f rfl rfl rfl rfl rfl) (yX f) λgs g' h' n t=>j b gs g' h' ?_ (((bL.D7 A).trans (bL.C9 (e.ku hm).1)).trans t);rw[show tK s.row=aB by rw[J];rfl];rw[Ps]at n;exact n
 .refine B4 (e.lV hm)<|B4 gK<|C4 cl ?_;refine BG e f λgs g' h' n t=>j aB gs g' h' ?_ t;rw[if_neg (λz=>cl (lg.2 (by cases hr:s.row<;>rw[hr]at z<;>first|exact⟨_,_,_,rfl⟩|exact ff z)))];exact n
end
section
variable {k:Nat}{g:Gh}
def Mo.tT(m:Mo)(am:Int)(s:Sl):Option (Option<|Int×AG×Int):=match s.row with
 |.load _ _ d=>if 0<=cell s.wi 0+d/\cell s.wi 0+d<am then match pG (cell s.wi 0+d) s.dr (m.kp.filter λq=>decide (q.1<s.tk)).reverse with
   |none=>aD
   |some aD=>aA (aA (cell s.wi 0+d,aX m.iE (cell s.wi 0+d),cell m.sd.mem (cell s.wi 0+d)))
   |some (aA (u,w))=>aA (aA (cell s.wi 0+d,aA u,w))
  else aA aD
 |_=>aA aD
def Sl.nB(s:Sl):Option (Int×AG×Int)->Sl
 |none=>s
 |some (_,u,w)=>{ s with src:=u,eG:=aA w }
def Xu(bg:Dc (Int×AG))(t:Int):Option (Int×AG×Int)->Dc (Int×AG)
 |none=>bg
 |some (p,u,_)=>bg++[(t,p,u)]
structure Ac(c:Cf)(m:Mo)(s:Sl):Prop where
 fi:s.fi=aD
 ws:s.ws=s.wi.map aA
 bg:aX m.bg s.tk=aD
 kp:∀x y d,s.row = .load x y d->aX m.kp s.tk=aD
 bl:B3 m.bg<63
 ml:c.am=B3 m.sd.mem
def Rt:(ws.map aA).map oI=ws.map AV.int:=by rw[iP];rfl
def aL.Xw(r:'*')(bn:(bg'.map (·.1)).Nodup)(bl:B3 bg'<64):aL c g { m with bg:=bg' } (h.C9 (c.b+10)<|.aP<|dE mU bg'):=
 r.tY 10 ⟨r.W.tk,r.W.t0,r.W.sn,r.W.sw,r.W.wn,r.W.wl,r.W.kn,r.W.kl,bn,bl,r.W.fn,r.W.fk,r.W.fo,r.W.ff⟩ rfl rfl (aW _)
def Dg{β:Type}{l:Dc β}{v:β}(nd:(l.map (·.1)).Nodup)(h:aX l x=aD):((l++[(x,v)]).map (·.1)).Nodup:=by rw[eR,Gs];refine⟨nd,by simp,λa ha b hb=>?_⟩;obtain⟨p,c,rfl⟩:=bp.1 ha;rw[a'.1 hb];intro w;have d:=w;have:=nW nd c;rw[d,h]at this;exact bU this
def aRu(r:'*')(hs:'5')(hb:aX m.bg s.tk=aD)(hk:aX m.kp s.tk=aD)(bl:B3 m.bg<63)(q:aL c g { m with bg:=m.bg++[(s.tk,p,s.src)] } (h.C9 (c.b+10)<|.aP<|dE mU<|m.bg++[(s.tk,p,s.src)])->R (.bl aB) (h.C9 (c.b+10)<|.aP<|dE mU<|m.bg++[(s.tk,p,s.src)])) :
  dY (D1 pg<|k+3) (bH<|bH<|bH<|bH<|bH sx) [aA '4',aA '?',aA (.ref s.a),aA (.int p),aA fnd] h (λ_ h1=>R .aG h1) R '6' λ_ _=>False:=by
 have hm:=bJ hs;refine B4 (r.at 1)<|B4 (r.at 8)<|B4 (r.dD hm)<|B4 (r.dD hm)<|Y4 r.shr hb hk λv=>?_;exact q<|r.Xw (Dg r.W.bn hb) (by rw[dU];exact zS bl)
def aOn{α:Type}{l:List α}{x:α}(e:l[i]?=aA x):l.set i x=l:=by
 refine Sv λj=>?_;rw[OP];split
 .rename_i z;subst z;rw[e,if_pos (dk.1 e).1]
 .rfl
def Xv{u:'+'}(r:'*')(hs:'5')(hb:aX m.bg s.tk=aD)(hk:aX m.kp s.tk=aD)(bl:B3 m.bg<63)(r2:aL c g (m.cO i { s with src:=u,eG:=aA w }) h2)(nx:bL c g h g h2)(q:∀h',aL c g { m.cO i { s with src:=u,eG:=aA w }with bg:=m.bg++[(s.tk,p,u)] } h'->bL c g h g h'->R (.bl aB) h') :
  dY (D1 pg<|k+3) (bH<|bH<|bH<|bH<|bH sx) [aA '4',aA '?',aA (.ref s.a),aA (.int p),aA fnd] h2 (λ_ h1=>R .aG h1) R '6' λ_ _=>False:=
 aRu (s:={ s with src:=u,eG:=aA w }) r2 (yX hs) hb hk bl λa=>q _ a (nx.trans<|bL.st r2 '#' ⟨_,rfl⟩)
def N0{B:aF->AH->Prop}{f:cT}{v:AV}(r:'*')(hs:'5')(ha:s'.a=s.a)(ht:s'.tk=s.tk)(hw:s'.ws=s.ws)(hn:s'.bI=s.bI)(hr:s'.row=s.row)(e:iT f v ((s.lt c.am).fs (s.a+2))=(s'.lt c.am).fs (s.a+2))(q:∀h',aL c g (m.cO i s') h'->h'.nx=h.nx->(∀n,n≠s.a->h'.ob n=h.ob n)->dY F ss Z h' N R B C):dY F ss Z (h.C9 s.a<|.ins 17<|iT f v<|(s.lt c.am).fs (s.a+2)) N R B C:=by rw[e];exact q _ (r.xi hs ha ht hw hn hr) rfl λn hn=>bD hn
def uj{B:aF->AH->Prop}{f:cT}{v:AV}(r:'*')(hs:'5')(ha:s'.a=s.a)(ht:s'.tk=s.tk)(hw:s'.ws=s.ws)(hn:s'.bI=s.bI)(hr:s'.row=s.row)(e:iT f v ((s.lt c.am).fs (s.a+2))=(s'.lt c.am).fs (s.a+2))(q:∀h',aL c g (m.cO i s') h'->bL c g h g h'->dY F ss Z h' N R B C):dY F ss Z (h.C9 s.a<|.ins 17<|iT f v<|(s.lt c.am).fs (s.a+2)) N R B C:=by rw[e];exact q _ (r.xi hs ha ht hw hn hr)<|bL.C9 (r.ku<|bJ hs).1
def aRv(r:'*')(hs:'5')(hb:aX m.bg s.tk=aD)(hk:aX m.kp s.tk=aD)(bl:B3 m.bg<63)(hf:s.fi=aD)(h0:0<=p)(h1:p<B3 m.sd.mem)(q:∀h',aL c g { m.cO i { s with src:=aX m.iE p,eG:=aA (cell m.sd.mem p) }with bg:=m.bg++[(s.tk,p,aX m.iE p)] } h'->bL c g h g h'->R (.bl aB) h') :
  dY (D1 pg<|k+3) (bH<|bH<|bH sx) [aA '4',aA '?',aA (.ref s.a),aA (.int p),aA (.tup [.aG,.aG])] h (λ_ h1=>R .aG h1) R '6' λ_ _=>False:=by
 have hm:=bJ hs;have d:cZ (m.sd.mem.map AV.int) p=aA (.int<|cell m.sd.mem p):=bc h0 (by left);refine B4 (r.at 11)<|B7 (B:=False) rfl<|B4 rfl<|B7 (rY<|r.at 13)<|B5<|Rh (r.at 13) rfl ?_;rw[jR,show((aX m.iE p).map AV.int).getD .aG=oI (aX m.iE p) by cases aX m.iE p<;>rfl];refine B4 rfl<|B4 rfl<|B4 (r.dD hm) ?_;refine uj (s':={ s with src:=aX m.iE p }) r hs rfl rfl rfl rfl rfl rfl λh1 a e=>?_;refine B4 (a.at 11)<|B4 d<|B4 rfl<|B4 rfl<|B4 (a.dD<|bJ<|yX (m:=m) (s':={ s with src:=aX m.iE p }) hs) ?_;refine uj (s':={ s with src:=aX m.iE p,eG:=aA (cell m.sd.mem p) }) a (yX hs) rfl rfl rfl rfl rfl (by rw[hf];rfl) λj b f=>?_;rw[Ps]at b;exact Xv r hs hb hk bl b (e.trans f) q
def aRw(r:'*')(hs:'5')(hb:aX m.bg s.tk=aD)(hk:aX m.kp s.tk=aD)(bl:B3 m.bg<63)(hf:s.fi=aD)(q:∀h',aL c g { m.cO i { s with src:=aA u,eG:=aA w }with bg:=m.bg++[(s.tk,p,aA u)] } h'->bL c g h g h'->R (.bl aB) h') :
  dY (D1 pg<|k+3) (bH<|bH<|bH sx) [aA '4',aA '?',aA (.ref s.a),aA (.int p),aA (.tup [.int u,.int w])] h (λ_ h1=>R .aG h1) R '6' λ_ _=>False:=by
 refine B4 (r.dD<|bJ hs) ?_;refine uj (s':={ s with src:=aA u }) r hs rfl rfl rfl rfl rfl rfl λh1 a d=>?_;have e:=a.dD (bJ<|yX (m:=m) (s':={ s with src:=aA u }) hs);refine B4 e ?_;refine uj (s':={ s with src:=aA u,eG:=aA w }) a (yX hs) rfl rfl rfl rfl rfl (by rw[hf];rfl) λj b f=>?_;rw[Ps]at b;exact Xv r hs hb hk bl b (d.trans f) q
def aSc(r:'*')(hs:'5')(O:Ac c m s)(q0:m.tT c.am s=aD->∀h',Kp h h'->R (.bl aJ) h')(q1:∀l h',m.tT c.am s=aA l->aL c g { m.cO i (s.nB l)with bg:=Xu m.bg s.tk l } h'->bL c g h g h'->R (.bl aB) h'):WC (D1 pg (k+4) 33 ['4','?',.ref s.a]) h R:=by
 have hm:=bJ hs;have ow:=r.pq hm;rw[O.ws,Rt]at ow;have same:m.cO i s=m:=by unfold Mo.cO;rw[aOn hs]
 have qn:=λe=>q1 aD h e (by show aL c g { m.cO i s with bg:=m.bg } h;rw[same];exact r) bL.refl;have wl:B3 s.wi=s.row.nw:=by rw[<- (r.W.sw s hm).1];exact aU ..
 by_cases cl:aH.kn s.row=("load":cT)
 .obtain⟨x,y,d,er⟩:=lg.1 cl;have hk:=O.kp x y d er;have ep:s.row.pl s.wi = .int (cell s.wi 0+d):=by rw[er];rfl
  have sp:∀{h'}{R:AV->AH->Prop},Kp h h'->R (.int<|cell s.wi 0+d) h'->WC (D1 pg (k+3) 109 [.ref s.a]) h' R:=λ{h' R} kk qq=>aPo ((r.D7 kk).dD hm) (kk.get (r.JV hm) ow) wl (by rw[show(s.lt c.am).row=s.row from rfl,ep];exact qq);unfold Mo.tT at q0 q1 qn;rw[er]at q0 q1 qn;dsimp only at q0 q1 qn;refine aS rfl rfl<|B4 (r.lV hm)<|B4 gK<|aE.nt cl<|B4 (r.dD hm)<|sp B6<|B4 (r.at 11)<|T2 ?_;rw[show((B3 m.sd.mem:Nat):Int)=c.am from O.ml.symm];by_cases cm:0<=cell s.wi 0+d/\cell s.wi 0+d<c.am
  .rw[if_pos cm]at q0 q1 qn;refine aE.nt cm<|B4 (r.dD hm)<|sp B6<|B4 (r.at 1)<|B4 (r.at 8)<|B4 (r.dD hm)<|B4 (r.dD hm)<|Z0 (t:=s.tk) (dr:=s.dr) r.shr λh1 k1=>?_;have r1:=r.D7 k1;cases el:pG (cell s.wi 0+d) s.dr (m.kp.filter λq=>decide (q.1<s.tk)).reverse with
   |none=>rw[el]at q0;exact q0 rfl h1 k1
   |some o=>
    rw[el]at q1;cases o with
    |none=>exact aRv r1 hs O.bg hk O.bl O.fi cm.1 (by have:=O.ml;omega) λh' r' n'=>q1 _ h' rfl r' ((bL.D7 k1).trans n')|some uw=>exact aRw r1 hs O.bg hk O.bl O.fi λh' r' n'=>q1 _ h' rfl r' ((bL.D7 k1).trans n')
  .rw[if_neg cm]at qn;exact aE.nf cm<|qn rfl
 .refine aS rfl rfl<|B4 (r.lV hm)<|B4 gK<|aE.nf cl<|qn ?_;unfold Mo.tT;split
  .exact absurd (lg.2 ⟨_,_,_,‹s.row=_›⟩) cl
  .rfl
end
section
variable {k:Nat}{g:Gh}
def Mo.start(m:Mo)(c:Cf)(t:Int×Int)(i:Nat)(s:Sl):Mo:=if 0<t.1-pD m.wk s.row.jL then match m.tT c.am s with
  |none=>m
  |some l=>{ m.cO i { s.nB l with st:=aA m.nw }with bg:=Xu m.bg s.tk l,wk:=m.wk++[(s.tk,s.row.jL,m.nw+t.2)] }
 else m
def fe{s:Sl}{l:Option (Int×AG×Int)}:(s.nB l).a=s.a/\(s.nB l).tk=s.tk/\(s.nB l).ws=s.ws/\(s.nB l).bI=s.bI/\(s.nB l).row=s.row/\(s.nB l).fi=s.fi:=by
 cases l with
 |none=>exact⟨rfl,rfl,rfl,rfl,rfl,rfl⟩|some p=>exact⟨rfl,rfl,rfl,rfl,rfl,rfl⟩
def aPu{t:Int×Int}{r0:AV}(r:'*')(hs:'5')(hg:cZ (c.tb.map eZ) s.row.jL=aA (eZ t))(hn:aX m.wk s.tk=aD)(hf:pD m.wk s.row.jL<t.1)(wl:B3 m.wk<63)(q:∀h',aL c g { m.cO i { s with st:=aA m.nw }with wk:=m.wk++[(s.tk,s.row.jL,m.nw+t.2)] } h'->bL c g h g h'->R .aG h') :
  dY (D1 pg<|k+4) (.cons (.expr<|.sA "start" [(14,87)] (.lR [18] "benches"<|.var 0)<|.cons (.lR [17] "ticket"<|.var 2)<|.cons (.var 3)<|.cons (.lR [18] "now"<|.var 0) .nil)<|.cons (.kg [17] "started" (.var 2)<|.lR [18] "now"<|.var 0) .nil) [aA '4',aA r0,aA (.ref s.a),aA (.int s.row.jL)] h (λZ h1=>dY (D1 pg<|k+4) .nil Z h1 (λ_ h1=>R .aG h1) R '6' λ_ _=>False) R '6' λ_ _=>False:=by
 have hm:=bJ hs;refine B4 (r.at 1)<|B4 (r.at 6)<|B4 (r.dD hm)<|B4 (r.at 1)<|aPx r.Aq hg hn hf λv h1 kx e=>?_;have a:=r.yK (m':={ m with wk:=m.wk++[(s.tk,s.row.jL,m.nw+t.2)] }) 7 kx e ⟨r.W.tk,r.W.t0,r.W.sn,r.W.sw,Dg r.W.wn hn,by rw[dU];exact zS wl,r.W.kn,r.W.kl,r.W.bn,r.W.bl,r.W.fn,r.W.fk,r.W.fo,r.W.ff⟩ rfl rfl (aW _);refine B4 (a.at 1)<|B4 (a.dD hm) ?_;exact uj (s':={ s with st:=aA m.nw }) a hs rfl rfl rfl rfl rfl rfl λb d f=>q b d ((bL.kx r '#' ⟨_,rfl⟩ kx).trans f)
def aAj{t:Int×Int}(r:'*')(hs:'5')(O:Ac c m s)(hg:cZ (c.tb.map eZ) s.row.jL=aA (eZ t))(hn:aX m.wk s.tk=aD)(wl:B3 m.wk<63)(q:∀h',aL c g (m.start c t i s) h'->bL c g h g h'->R .aG h'):WC (D1 pg (k+5) 32 ['4','?',.ref s.a]) h R:=by
 have hm:=bJ hs;unfold Mo.start at q;refine aS rfl rfl<|B4 (r.dD hm)<|P4 (k:=k+3) (r:=s.row)<|B4 (r.at 1)<|B4 (r.at 6)<|BR (k:=k+3) r.Aq hg λh1 k1=>?_;have r1:=r.D7 k1;by_cases cf:0<t.1-pD m.wk s.row.jL
 .rw[if_pos cf]at q;refine aE.dt cf (aSc (k:=k) r1 hs O (λe h2 k2=>?_) λl h2 e r2 n2=>?_)
  .rw[e]at q;exact q _ (r1.D7 k2)<|(bL.D7 k1).trans (bL.D7 k2)
  .rw[e]at q;obtain⟨l1,l2,l3,l4,l5,l6⟩:=@fe s l;have:=aPu (k:=k) (R:=R) (s:=s.nB l) (r0:='?') (t:=t) r2 (yX hs) (by rw[l5];exact hg) (by rw[l2];exact hn) (by rw[l5];show pD m.wk _<_;omega) wl λh' r3 n3=>q h' (by
    simp only[Mo.cO,Tu,l2,l5]at r3 ⊢;exact r3) ((bL.D7 k1).trans (n2.trans n3))
   rw[l1,l5]at this;exact this
 .rw[if_neg cf]at q;exact C4 cf<|q _ r1<|bL.D7 k1
end
section
variable {k:Nat}{g:Gh}
def Mo.jmp(m:Mo)(am:Int)(s:Sl):Mo:=match s.row with
 |.dA _ _=>if s.d4 am=aA s.ch then m else({ m with ah:=(s.d4 am).getD 0 }:Mo).E7 (s.tk+1)
 |_=>m
def M0{v2:AV}(r:'*')(hs:s∈m.ac)(hf:qw s.fi=aB)(q:∀g' h',aL c g' (m.jmp c.am s) h'->iR c g h g' h'->R .aG h') :
  dY (D1 pg<|k+3) (bH<|bH<|bH Xm) [aA '4',aA (.ref s.a),aA v2] h (λ_ h1=>R .aG h1) R '6' λ_ _=>False:=by
 have o:=r.Er hs hf;by_cases d:aH.kn s.row=("jump":cT)
 .obtain⟨x,t,j⟩:=vk.1 d;have l:s.d4 c.am=aA (s.row.gs s.pc s.wi):=by unfold Sl.d4 Sl.ft;rw[j];rfl
  have dt:s.dt c.am=[.int s.pc,oI (s.d1 c.am),oI (s.d2 c.am),oI (s.d3 c.am),.int (s.row.gs s.pc s.wi),(s.ft c.am).getD .aG]:=by unfold Sl.dt;rw[l];rfl
  unfold Mo.jmp at q;rw[j]at q;rw[l]at q;rw[dt]at o;refine B4 o<|B4 gK<|aE.dt d<|B4 o<|B4 o ?_;refine aE.nd (c:=s.row.gs s.pc s.wi=s.ch) (λf=>?_) λf=>?_
  .rw[if_neg λz=>f (cR z)]at q;refine B4 o<|B4 (r.at 1) ?_;have i:=r.jj (a:=s.row.gs s.pc s.wi);exact B4 (i.at 1)<|B4 (i.dD hs)<|Qq i λv g' h' p u fr=>q g' h' p (.trans (.C9 r '#' rfl) ⟨u,λn a b _=>fr n a b⟩)
  .rw[if_pos (congrArg aA f)]at q;exact q g h r .refl
 .have e:m.jmp c.am s=m:=by
   unfold Mo.jmp;split
   .exact absurd (vk.2 ⟨_,_,‹s.row=_›⟩) d
   .rfl
  rw[e]at q;exact B4 o<|B4 gK<|C4 d<|q g h r .refl
end
section
variable {k:Nat}{g:Gh}
structure oV(c:Cf)(g:Gh)(s:Sl)(h:AH):Prop where
 o:h.ob s.a=aA (.ins 17<|(s.lt c.am).ff (s.a+2) (s.dt c.am))
 w:h.ob (s.a+2)=aA (.l aB<|s.wi.map .int)
 l:s.a+2<h.nx
 lo:c.b<=s.a
 k1:28<=g.kd s.a
 k2:28<=g.kd (s.a+2)
def oV.fr(L:oV c g s h)(f:iR c g h g' h'):oV c g' s h':=
 have l:=L.l;have a:=f.ob s.a (by lia) L.k1 L.lo;have b:=f.ob (s.a+2) l L.k2 (by have:=L.lo;lia)
 ⟨a.1.trans L.o,b.1.trans L.w,bE l f.nx,L.lo,a.2▸L.k1,b.2▸L.k2⟩
def EJ{b:Bool}(w:Ib L n a b h R):∃c fs i,h.ob n=aA (.ins c fs)/\Bf.lookup c=aA i/\(fs.lookup ("learn":cT)).isNone=aB/\WC (D1 pg L i [.ref n,.int a,.bl b]) h R:=by obtain⟨n',c,fs,e,o,w⟩:=hX.ex w;cases e;obtain⟨i,l,w⟩:=aC.ex w;obtain⟨hn,w⟩:=aE.an w;exact⟨c,fs,i,o,l,hn,w⟩
def aTm(r:'*')(L:oV c g s h)(hg:∀u,s.src=aA u->qw (aX m.eC u))(q:∀b,R (.bl b) h):WC (D1 pg (k+1) 27 ['?',.ref s.a]) h R:=by
 cases a:s.src with
 |none=>
  have o:h.ob s.a=aA (.ins 17<|{ s.lt c.am with src:=aD }.ff (s.a+2) (s.dt c.am)):=by rw[L.o];unfold Sl.lt;rw[a]
  exact aS rfl rfl<|B4 o<|q _
 |some u=>
  have o:h.ob s.a=aA (.ins 17<|{ s.lt c.am with src:=aA u }.ff (s.a+2) (s.dt c.am)):=by rw[L.o];unfold Sl.lt;rw[a]
  obtain⟨v,d⟩:=i'.1 (hg u a);exact aS rfl rfl<|B4 o<|B4 (r.at 11)<|B4 o<|B5<|xw (r.at 14) rfl (by rw[jR,d];rfl)<|B4 o<|q _
def ER{K:Nat->AS}(r:'*')(G:mF c n K h)(hn:n+2<=2*B3 m.bS+10)(kk:Kk K 5 h h')(T:TH K (n+2) h'):aL c g m h'/\iR c g h g h':=
 have e:=λi a hb=>kk.ob i a λt z=>absurd (G.lt i t z) (y2.2 hb)
 ⟨⟨r.X.low kk.nx e,⟨K,⟨T.le hn,G.g,G.n,G.lt,λp b=>have y:=G.lo p b;⟨y.1,y.2.1,(kk.ob _ (bE y.2.1 r.bx) λt z=>by rw[y.1]at z;exact bU z).trans y.2.2⟩⟩⟩,r.W⟩,⟨kk.nx,λi a _ hb=>⟨e i a hb,rfl⟩⟩⟩
def aSg{K:Nat->AS}(r:'*')(L:oV c g s h)(G:mF c n K h)(hn:n+2<=2*B3 m.bS+10)(hn2:n+2<=2000)(hw:B3 s.wi=s.row.nw)(hg:∀u,s.src=aA u->qw (aX m.eC u))(q:∀h',aL c g m h'->iR c g h g h'->R .aG h'):WC (D1 pg (k+6) 26 ['?',.ref s.a]) h R:=by
 by_cases f:aH.kn s.row=("jump":cT)
 .obtain⟨x,t,y⟩:=vk.1 f;have cl:¬aH.kn s.row=("load":cT):=by rw[y];show¬("jump":cT)="load";decide +kernel
  obtain⟨w0,C⟩:=vr (by rw[hw,y];rfl:B3 s.wi=1);have A:=L.w;rw[C]at A;obtain⟨D,fs,i,e,l,hm,w⟩:=EJ (vq (Ld 1) (L:=k+5) (R:=λv h'=>aL c g m h'/\iR c g h g h') G.T (G.kl r.bx) G.g hn2 '!' λh' j T=>ER r G hn j T);exact aS rfl rfl<|B4 L.o<|B4 gK<|aE.dt f<|B4 (r.at 11)<|B4 e<|B4 l<|B7 hm<|B4 L.o<|B4 L.o<|B5<|dZ (bR A) rfl<|B5<|w.we.D2 λv p z=>B4 (L.fr z.2).o (B4 gK<|C4 cl<|q p z.1 z.2)
 .refine aS rfl rfl<|B4 L.o<|B4 gK<|C4 f ?_;by_cases cl:aH.kn s.row=("load":cT)
  .have lw:=λb=>EJ (vq (Ld 1) (L:=k+5) (a:=s.pc) (b:=b) (R:=λv h'=>aL c g m h'/\iR c g h g h') G.T (G.kl r.bx) G.n hn2 '!' λh' j T=>ER r G hn j T);obtain⟨D,fs,i,e,l,hm,_⟩:=lw aB;refine B4 L.o<|B4 gK<|aE.dt cl<|B4 (r.at 11)<|B4 e<|B4 l<|B7 hm<|B4 L.o<|aTm r L hg λb=>?_;obtain⟨E,F,I,d,B,H,w⟩:=lw (!b);rw[e]at d;cases d;rw[l]at B;cases B;exact B5<|w.we.D2 λv p z=>q p z.1 z.2
  .exact B4 L.o<|B4 gK<|C4 cl<|q h r .refl
end
section
variable {k:Nat}{g:Gh}
def Mo.note(m:Mo)(am:Int)(s:Sl):Mo:=match s.row with
 |.store _ _ _=>{ m with iE:=eW m.iE ((s.d2 am).getD 0) s.tk,eC:=eW m.eC s.tk (s.of.getD 0),kp:=pZ m.kp s.tk }
 |.load _ _ _=>{ m with bg:=pZ m.bg s.tk }
 |_=>m
structure Ic(c:Cf)(m:Mo)(s:Sl):Prop where
 st:∀x y d,s.row = .store x y d->(∃p,s.d2 c.am=aA p)/\(∃e,aX m.kp s.tk=aA e)/\B3 m.iE<1000/\B3 m.eC<1000
 ld:∀x y d,s.row = .load x y d->aX m.kp s.tk=aD/\∃e,aX m.bg s.tk=aA e
def aL.stU(r:'*'):aL c g { m with iE:=sto' } (h.C9 (c.b+13)<|.aP<|dE AV.int sto'):=
 r.tY 13 ⟨r.W.tk,r.W.t0,r.W.sn,r.W.sw,r.W.wn,r.W.wl,r.W.kn,r.W.kl,r.W.bn,r.W.bl,r.W.fn,r.W.fk,r.W.fo,r.W.ff⟩ rfl rfl (aW _)
def aL.P0(r:'*'):aL c g { m with eC:=gon' } (h.C9 (c.b+14)<|.aP<|dE AV.int gon'):=
 r.tY 14 ⟨r.W.tk,r.W.t0,r.W.sn,r.W.sw,r.W.wn,r.W.wl,r.W.kn,r.W.kl,r.W.bn,r.W.bl,r.W.fn,r.W.fk,r.W.fo,r.W.ff⟩ rfl rfl (aW _)
def aHe{β:Type}{l:Dc β}{f:Int×β->Bool}(nd:(l.map (·.1)).Pairwise (·<·)):((l.filter f).map (·.1)).Pairwise (·<·):=wN (pV.map _) nd
def aBk(r:'*')(L:oV c g s h)(N:Ic c m s)(ho:∃o,s.of=aA o)(q:∀h',aL c g (m.note c.am s) h'->iR c g h g h'->(∀n,n<c.b->h'.ob n=h.ob n)->R .aG h'):WC (D1 pg (k+2) 25 ['4','?',.ref s.a]) h R:=by
 have E4:=lU;have lo:∀{h:AH}{i:Nat}{o:bA}{n:Nat},n<c.b->(h.C9 (c.b+i) o).ob n=h.ob n:=λhn=>bD (by lia);by_cases cs:aH.kn s.row=("store":cT)
 .obtain⟨x,y,d,b⟩:=lj.1 cs;obtain⟨⟨p,l⟩,⟨e,j⟩,l1,l2⟩:=N.st x y d b;obtain⟨off,u⟩:=ho;have o:∀{h},oV c g s h->h.ob s.a=aA (.ins 17<|{ s.lt c.am with of:=aA off }.ff (s.a+2) [.int s.pc,oI (s.d1 c.am),.int p,oI (s.d3 c.am),oI (s.d4 c.am),(s.ft c.am).getD .aG]):=λL=>by rw[L.o];unfold Sl.lt Sl.dt;rw[u,l];rfl
  unfold Mo.note at q;rw[b]at q;rw[l,u]at q;refine aS rfl rfl<|B4 (o L)<|B4 gK<|aE.dt cs<|B4 (o L)<|B4 (r.at 11)<|B4 (o L)<|zJ (r.at 13) rfl (by rw[nT];lia) ?_;rw[yQ];have f:=r.stU (sto':=eW m.iE p s.tk);have f1:iR c g h g _:=.C9 (o':=.aP (dE AV.int<|eW m.iE p s.tk)) r (i:=13) '#' rfl;have w:=L.fr f1;refine B4 (o w)<|B4 (f.at 11)<|B4 (o w)<|zJ (v:=.int off) (f.at 14) rfl (by grind [nT]) ?_;rw[yQ];have a:=f.P0 (gon':=eW m.eC s.tk off);have f2:=f1.trans (.C9 (o':=.aP (dE AV.int<|eW m.eC s.tk off)) f (i:=14) '#' rfl);have z:=L.fr f2;refine B4 (o z)<|B4 gK<|aE.dt cs<|B4 (a.at 1)<|B4 (a.at 8)<|B4 (o z)<|X7 (k:=k) (t:=s.tk) a.shr j λv=>?_;exact q _ (a.DX (aHe a.W.kn)<|cy a.W.kl) (f2.trans<|.C9 a (i:=9) '#' rfl) λn hn=>by left
 .refine aS rfl rfl<|B4 L.o<|B4 gK<|C4 cs<|B4 L.o<|B4 gK<|C4 cs<|B4 L.o<|B4 gK ?_;by_cases cl:aH.kn s.row=("load":cT)
  .obtain⟨x,y,d,b⟩:=lg.1 cl;obtain⟨j,e,A⟩:=N.ld x y d b;unfold Mo.note at q;rw[b]at q;exact aE.dt cl<|B4 (r.at 1)<|B4 (r.at 8)<|B4 L.o<|X6 (k:=k) (t:=s.tk) r.shr j A λv=>q _ (r.Xw (pH r.W.bn)<|cy r.W.bl) (.C9 r (i:=10) '#' rfl) λn hn=>lo hn
  .have e:m.note c.am s=m:=by
    unfold Mo.note;split
    .exact absurd (lj.2 ⟨_,_,_,‹s.row=_›⟩) cs
    .exact absurd (lg.2 ⟨_,_,_,‹s.row=_›⟩) cl
    .rfl
   rw[e]at q;exact C4 cl<|q h r .refl λ_ _=>rfl
end
section
variable {k:Nat}{g:Gh}
structure Ae(c:Cf)(m:Mo)(s:Sl):Prop where
 fi:qw s.fi=aB
 ws:s.ws=s.wi.map aA
 nw:B3 s.wi=s.row.nw
 b1:∀x,s.d1 c.am=aA x->(0<=x/\x<8)/\∃w,s.d3 c.am=aA w
 b2:∀p,s.d1 c.am=aD->s.d2 c.am=aA p->(0<=p/\p<B3 m.sd.mem)/\∃w,s.d3 c.am=aA w
 bl:B3 m.sd.bx=8
 ml:B3 m.sd.mem<=80
 nt:s.ft c.am=aD->Ic c m s
 gn:s.ft c.am=aD->∀u,s.src=aA u->∃v,aX (m.note c.am s).eC u=aA v
 sl:B3 m.bS<900
def Mo.uG(m:Mo)(am:Int)(s:Sl)(rest:A0):Mo:={ m with ac:=rest,bS:=m.bS++[(s.lt am).iD],sd:=match s.ft am with|some _=>m.sd|none=>m.sd.oY (s.d1 am) (s.d2 am) (s.d3 am) (s.d4 am) }
def Mo.take(m:Mo)(am:Int)(s:Sl)(rest:A0):Mo:=match s.ft am with
 |some _=>({ m.uG am s rest with brk:=aB }:Mo).E7 s.tk
 |none=>(m.uG am s rest).note am s
def oV.os(L:oV c g s h)(hf:qw s.fi=aB):h.ob s.a=aA (.ins 17<|(s.lt c.am).fs (s.a+2)):=by rw[L.o,BU];unfold iI.fk iI.ff;rw[show(s.lt c.am).dd=s.dd c.am from rfl,ub hf]
def aL.snU{x:AV}(r:'*'):aL c g { m with bS:=m.bS++[x] } (h.C9 (c.b+12)<|.l aB<|m.bS++[x]):=
 r.tY 12 ⟨r.W.tk,r.W.t0,r.W.sn,r.W.sw,r.W.wn,r.W.wl,r.W.kn,r.W.kl,r.W.bn,r.W.bl,r.W.fn,r.W.fk,r.W.fo,r.W.ff⟩ rfl rfl (by simp)
def aL.EI{b':Bool}(r:'*'):aL c g { m with sd:=sd',brk:=b' } (h.C9 (c.b+11)<|.ins 19<|{ m with sd:=sd',brk:=b' }.lf c):=
 r.tY 11 ⟨r.W.tk,r.W.t0,r.W.sn,r.W.sw,r.W.wn,r.W.wl,r.W.kn,r.W.kl,r.W.bn,r.W.bl,r.W.fn,r.W.fk,r.W.fo,r.W.ff⟩ rfl rfl (aW _)
def aRt{K:Nat->AS}(r:'*')(L:oV c g s h)(G:mF c n K h)(hn:n+2<=2*B3 m.bS+10)(hn2:n+2<=2000)(nw:B3 s.wi=s.row.nw)(nt:s.ft c.am=aD->Ic c m s)(ho:∃o,s.of=aA o)(gn:s.ft c.am=aD->∀u,s.src=aA u->∃v,aX (m.note c.am s).eC u=aA v)
  (q:∀g' h',aL c g' (match s.ft c.am with|some _=>({ m with brk:=aB }:Mo).E7 s.tk|none=>m.note c.am s) h'->iR c g h g' h'->R .aG h') :
  dY (D1 pg<|k+6) (bH<|bH<|bH<|bH sv) [aA '4',aA '?',aA (.ref s.a)] h (λ_ h1=>R .aG h1) R '6' λ_ _=>False:=by
 cases d:s.ft c.am with
 |some f=>
  rw[d]at q;obtain⟨xs,rfl⟩:∃xs,f = .tup xs:=uk d;have o:h.ob s.a=aA (.ins 17<|(s.lt c.am).ff (s.a+2) [.int s.pc,oI (s.d1 c.am),oI (s.d2 c.am),oI (s.d3 c.am),oI (s.d4 c.am),.tup xs]):=by simp_all[L.o,Sl.dt,d]
  refine B4 o<|B4 (r.at 11) ?_;have e:=r.EI (sd':=m.sd) (b':=aB);have f1:iR c g h g (h.C9 (c.b+11)<|.ins 19<|{ m with sd:=m.sd,brk:=aB }.lf c):=.C9 r '#' rfl;refine B4 (e.at 1)<|B4 (L.fr f1).o (Qq e λv g' h' i j fr=>?_);exact q g' h' i<|f1.trans ⟨j,λn a b _=>fr n a b⟩
 |none=>
  rw[d]at q;have o:h.ob s.a=aA (.ins 17<|(s.lt c.am).ff (s.a+2) [.int s.pc,oI (s.d1 c.am),oI (s.d2 c.am),oI (s.d3 c.am),oI (s.d4 c.am),.aG]):=by simp_all[L.o,Sl.dt,d]
  refine B4 o<|aBk r L (nt d) ho λh1 e f1 lo=>?_;have ns:(m.note c.am s).bS=m.bS:=by unfold Mo.note;split<;>rfl
  exact aSg e (L.fr f1) (G.low (aW _) lo) (by left) hn2 nw (λu l=>by obtain⟨v,p⟩:=gn d u l;rw[p];rfl) λt i f2=>q g t i (f1.trans f2)
def aRx{K:Nat->AS}(r:'*')(L:oV c g s h)(G:mF c (2*B3 m.bS+10) K h)(T:Ae c m s)(ho:∃o,s.of=aA o)(q:∀g' h',aL c g' (m.take c.am s m.ac) h'->iR c g h g' h'->R .aG h') :
  dY (D1 pg<|k+6) (bH<|bH sv) [aA '4',aA '?',aA (.ref s.a)] h (λ_ h1=>R .aG h1) R '6' λ_ _=>False:=by
 have sl:=T.sl;have E4:=lU;refine B4 (r.at 11) ?_;refine B7 rfl<|B4 rfl<|B7 (pE<|r.at 12)<|B4 (L.os T.fi)<|Px (L.os T.fi)<|B5<|sP (r.at 12) (by lia) ?_;have a:=r.snU (x:=(s.lt c.am).iD);have f1:iR c g h g (h.C9 (c.b+12)<|.l aB<|m.bS++[(s.lt c.am).iD]):=.C9 r '#' rfl;have d:mF c (2*B3 m.bS+10) K (h.C9 (c.b+12)<|.l aB<|m.bS++[(s.lt c.am).iD]):=G.low (aW _) λn hn=>bD (by lia);revert a f1 d
 generalize h.C9 (c.b+12) (.l aB<|m.bS++[(s.lt c.am).iD])=h1;intro a f1 d;have p:=L.fr f1;have fin:∀sd',(m.take c.am s m.ac)=(match s.ft c.am with|some _=>({ m with bS:=m.bS++[(s.lt c.am).iD],sd:=sd',brk:=aB }:Mo).E7 s.tk|none=>({ m with bS:=m.bS++[(s.lt c.am).iD],sd:=sd' }:Mo).note c.am s) ->
   dY (D1 pg<|k+6) (bH<|bH<|bH<|bH sv) [aA '4',aA '?',aA (.ref s.a)] (h1.C9 (c.b+11)<|.ins 19<|{ m with bS:=m.bS++[(s.lt c.am).iD],sd:=sd' }.lf c) (λ_ h1=>R .aG h1) R '6' λ_ _=>False:=λsd' em=>by
  have f2:=f1.trans (.C9 (o':=.ins 19 ({ m with bS:=m.bS++[(s.lt c.am).iD],sd:=sd' }.lf c)) a (i:=11) '#' rfl);have t:mF c (2*B3 m.bS+10) K (h1.C9 (c.b+11)<|.ins 19<|{ m with bS:=m.bS++[(s.lt c.am).iD],sd:=sd' }.lf c):=d.low (aW _) λn hn=>bD (by lia);refine aRt (k:=k) (a.EI (sd':=sd') (b':=m.brk)) (L.fr f2) t (by show _<=2*B3 (m.bS++[_])+10;rw[dU];show _<=2*(B3 m.bS+1)+10;lia) (by lia) T.nw (λe=>⟨(T.nt e).st,(T.nt e).ld⟩) ho (λe u w=>?_) λg' h' A y=>q g' h' (by left) (f2.trans y);obtain⟨v,z⟩:=T.gn e u w;refine⟨v,?_⟩;rw[<- z];unfold Mo.note;split<;>rfl
 unfold Mo.take Mo.uG at fin;refine B4 (a.at 11)<|B4 p.o ?_;cases b:s.ft c.am with
 |some f=>
  rw[b]at fin;obtain⟨xs,rfl⟩:∃xs,f = .tup xs:=uk b;have j:s.dt c.am=[.int s.pc,.aG,.aG,.aG,.aG,.tup xs]:=by unfold Sl.dt Sl.d1 Sl.d2 Sl.d3 Sl.d4;rw[b];rfl
  rw[j];refine YT ?_;exact B4 rfl<|B4 rfl<|B4 (a.at 11)<|fin m.sd rfl
 |none=>
  rw[b]at fin;have l:s.d4 c.am=aA (s.row.gs s.pc s.wi):=by unfold Sl.d4;rw[b];rfl
  have j:s.dt c.am=[.int s.pc,oI (s.d1 c.am),oI (s.d2 c.am),oI (s.d3 c.am),.int (s.row.gs s.pc s.wi),.aG]:=by unfold Sl.dt;rw[b,l];rfl
  rw[j];refine YU T.bl T.ml T.b1 T.b2 ?_;exact B4 rfl<|B4 rfl<|B4 (a.at 11)<|fin (m.sd.oY (s.d1 c.am) (s.d2 c.am) (s.d3 c.am)<|aA<|s.row.gs s.pc s.wi) (by rw[l])
def aSb{rest:A0}(r:'*')(hs:m.ac=s::rest)(T:Ae c m { s with of:=aA m.nw })(q:∀g' h',aL c g' (m.take c.am { s with of:=aA m.nw } rest) h'->oV c g' { s with of:=aA m.nw } h'->h.nx<=h'.nx->(∀n,n<h.nx->28<=g.kd n->c.b<=n->n≠s.a->h'.ob n=h.ob n/\g'.kd n=g.kd n)->R .aG h'):WC (D1 pg (k+7) 24 ['4','?',.ref s.a]) h R:=by
 have h0:m.ac[0]?=aA s:=by rw[hs];rfl
 have hm:=bJ h0;refine aS rfl rfl<|B4 (r.at 1)<|B4 (r.dD hm) ?_;obtain⟨s1,e1⟩:∃s1:Sl,s1={ s with of:=aA m.nw }:=⟨_,rfl⟩;rw[<- e1]at T q;have ea:s1.a=s.a:=by rw[e1]
 refine N0 (s':=s1) r h0 ea (by rw[e1]) (by rw[e1]) (by rw[e1]) (by rw[e1]) (by rw[e1];rfl) λh1 r1 n1 e1'=>?_;have es1:(m.cO 0 s1).ac=s1::rest:=by unfold Mo.cO;rw[hs];rfl
 have hm1:s1∈(m.cO 0 s1).ac:=by rw[es1];exact eL
 have zk:=rK (r1.W.t0 s1 hm1);have L1:oV c g s1 h1:=⟨r1.Er hm1 T.fi,by have:=r1.pq hm1;rw[T.ws,Rt]at this;exact this,r1.JV hm1,r1.Mg hm1,by rw[(r1.X.dy _ _ _ '!'<|cw r1.W hm1).1];omega,by rw[(r1.X.dy _ _ _ '!'<|cx r1.W hm1).1];omega⟩;obtain⟨K,G1⟩:=r1.G;have k2:∀{o:bA},Kp h1 (h1.C8 o):=B6.C8;have sl1:=r1.lJ.1;refine rC<|B4 (r1.at 1)<|B5<|uJ (lo:=aA ((1:Nat):Int)) (hi:=aD) sl1 ?_;rw[Zf,show((m.cO 0 s1).ac.map λs:Sl=>AV.ref s.a).drop 1=rest.map λs=>.ref s.a by rw[es1];rfl];have r2:=r1.Eo (sl':=rest) (th:=m.jQ) (k2 (o:=.l aB (rest.map λs=>.ref s.a))) (aW _) (cD _) bC (by rw[es1];exact List.sublist_cons_self ..);refine B4 rfl<|B4 rfl<|B4 (k2.get (r1.lt 1)<|r1.at 1) ?_;have f2:iR c g h1 { g with sl:=h1.nx,kd:=λi=>if i=h1.nx then 15 else g.kd i } ((h1.C8<|.l aB<|rest.map λs=>AV.ref s.a).C9 (c.b+1) (.ins 18<|{ m.cO 0 s1 with ac:=rest,jQ:=m.jQ }.wf c h1.nx)):=⟨iG _,λn hn hk _=>⟨by rw[bD λw=>by rw[w,(r1.X.st 1 _ rfl).1]at hk;omega,dO (bZ hn)],if_neg (bZ hn)⟩⟩;have G2:mF c (2*B3 m.bS+10) K ((h1.C8<|.l aB<|rest.map λs=>AV.ref s.a).C9 (c.b+1) (.ins 18<|{ m.cO 0 s1 with ac:=rest,jQ:=m.jQ }.wf c h1.nx)):=G1.low (aW _) λn hn=>by have:=r1.bx;rw[bD '!',dO '!']
 revert r2 f2 G2
 change _->_->_->dY (D1 pg<|k+6) (bH<|bH sv) [aA '4',aA '?',aA (.ref s.a)] ((h1.C8<|.l aB<|rest.map λs=>AV.ref s.a).C9 (c.b+1) (.ins 18<|{ m.cO 0 s1 with ac:=rest,jQ:=m.jQ }.wf c h1.nx)) (λ_ h1=>R .aG h1) R '6' λ_ _=>False;generalize (h1.C8<|.l aB<|rest.map λs=>AV.ref s.a).C9 (c.b+1) (.ins 18<|{ m.cO 0 s1 with ac:=rest,jQ:=m.jQ }.wf c h1.nx)=h2;generalize ({ g with sl:=h1.nx,kd:=λi=>if i=h1.nx then 15 else g.kd i }:Gh)=g2;intro r2 f2 G2;rw[<- ea];exact aRx (k:=k) (m:={ m with ac:=rest }) r2 (L1.fr f2) G2 ⟨T.fi,T.ws,T.nw,T.b1,T.b2,T.bl,T.ml,λe=>⟨(T.nt e).st,(T.nt e).ld⟩,λe u eu=>by
  obtain⟨v,hv⟩:=T.gn e u eu;refine⟨v,?_⟩;rw[<- hv];unfold Mo.note;split<;>rfl,T.sl⟩ ⟨m.nw,by rw[e1]⟩ λg' h' r3 f3=>q g' h' r3 (L1.fr<|f2.trans f3) (by have:=(f2.trans f3).nx;omega) λn hn hk hb na=>by
  have z:=(f2.trans f3).ob n '!' hk hb;exact⟨z.1.trans (e1' n na),z.2⟩
end
section
variable {k:Nat}{g:Gh}
def Ep{V:AV->AH->Prop}(r:'*')(z:V (.int (B3 m.ac)) h):WC (Bi.g .len [.ref g.sl]) h V:=B5 (eP (bR r.lJ.1) (by left))
def aL.fresh(r:'*')(k1:Kp h h')(hn:h.nx<=n):aL c { g with kd:=λi=>if i=n then 28 else g.kd i } m h':=by
 have a:=r.D7 k1;refine⟨⟨λi o e=>?_,λk j o b e=>?_⟩,a.G,⟨r.W.tk,r.W.t0,r.W.sn,r.W.sw,r.W.wn,r.W.wl,r.W.kn,r.W.kl,r.W.bn,r.W.bl,r.W.fn,r.W.fk,r.W.fo,r.W.ff⟩⟩
 .have z:=r.X.st i o e;have d:=a.X.st i o e;exact⟨(if_neg (by lia)).trans z.1,d.2⟩
 .have z:=r.X.dy k j o b e;exact⟨(if_neg (by lia)).trans z.1,(a.X.dy k j o b e).2⟩
def aL.Co(r:'*')(hb:c.b<=n)(hk:g.kd n=28)(kx:Kx [n] h h'):aL c g m h':=by
 refine⟨⟨λi o e=>?_,λk j o a e=>?_⟩,r.G.imp λ_ z=>z.low (aW _) (kx.lowG r.bx λn hn=>by left),r.W⟩
 .have z:=r.X.st i o e;have d:i<15:=(dk.1 e).1;exact⟨z.1,bE z.2.1 kx.nx,kx.get z.2.1 (λw=>by rw[a'.1 w,hk]at z;lia) z.2.2⟩
 .have z:=r.X.dy k j o a e;refine⟨z.1,z.2.1,bE z.2.2.1 kx.nx,kx.get z.2.2.1 (λw=>?_) z.2.2.2⟩;rw[a'.1 w,hk]at z;rw[<- z.1]at e;obtain⟨f,b,_⟩:=gT.1 e;have:=r.W.fk _ _ b;lia
end
section
variable {k:Nat}{g:Gh}
def aL.wkU{wk':Dc (Int×Int)}(r:'*')(kx:Kx [c.b+7] h h')(e:h'.ob (c.b+7)=aA (.aP<|dE eZ wk'))(wn:(wk'.map (·.1)).Nodup)(wl:B3 wk'<64):aL c g { m with wk:=wk' } h':=
 r.yK 7 kx e ⟨r.W.tk,r.W.t0,r.W.sn,r.W.sw,wn,wl,r.W.kn,r.W.kl,r.W.bn,r.W.bl,r.W.fn,r.W.fk,r.W.fo,r.W.ff⟩ rfl rfl (aW _)
end
section
variable {k:Nat}{g:Gh}
def aL.Zv(r:'*')(q:R (.bl<|decide<|(B3 c.rs:Int)<=m.ah) h):WC (D1 pg (k+1) 112 ['4']) h R:=TJ (r.at 1) rfl rfl (r.at 2) (by rw[aU];exact q)
def Mo.hU(m:Mo)(c:Cf):AV:=if m.brk=aB then .str "fault" else if m.ac=[]/\(B3 c.rs:Int)<=m.ah then .str "end" else .aG
def Bw(r:'*')(q:R (m.hU c) h):WC (D1 pg (k+2) 126 [.ref c.b]) h R:=by
 have o0:=r.at 0;unfold Mo.hU at q;refine aS rfl rfl<|B4 o0<|B4 (r.at 11)<|aE.by (b:=m.brk) (λd=>?_) λd=>?_
 .rw[if_pos d]at q;exact q
 .rw[if_neg (by grind)]at q;refine B4 o0 (B4 (r.at 1)<|Ep r<|C1 (λf=>?_) λf=>?_)
  .have e:m.ac=[]:=BF.1 (by lia);refine B4 o0 (B4 (r.at 1)<|r.Zv<|C1 (λa=>?_) λa=>?_)
   .rw[if_pos ⟨e,a⟩]at q;exact q
   .rw[if_neg λz=>a z.2]at q;exact q
  .rw[if_neg λz=>f (by rw[z.1];rfl)]at q;exact q
def aNq(r:'*')(hh:m.hU c = .aG)(q:R .aG h):WC (D1 pg (k+3) 127 [.ref c.b]) h R:=by have o0:=r.at 0;refine aS rfl rfl<|B4 o0<|Bw r ?_;rw[hh];exact q
def aL.Nj(r:'*'):aL c g { m with nw:=m.nw+1 } (h.C9 (c.b+1)<|.ins 18<|{ m with nw:=m.nw+1 }.wf c g.sl):=
 r.tY 1 ⟨r.W.tk,r.W.t0,r.W.sn,r.W.sw,r.W.wn,r.W.wl,r.W.kn,r.W.kl,r.W.bn,r.W.bl,r.W.fn,r.W.fk,r.W.fo,r.W.ff⟩ rfl rfl (aW _)
def aSs(r:'*')(hh:m.hU c = .aG)
  (q:∀h1,aL c g { m with nw:=m.nw+1 } h1->bL c g h g h1->WC (D1 pg (k+9) 23 ['4','?']) h1 λv h2=>∃g2 m2,aL c g2 m2 h2/\(m2.hU c ≠ .aG->R v h2)/\(m2.hU c = .aG->WC (D1 pg (k+9) 28 ['4','?']) h2 λ_ h3=>(∃g3 m3,aL c g3 m3 h3)/\WC (D1 pg (k+9) 31 ['4','?']) h3 λ_ h4=>(∃g4 m4,aL c g4 m4 h4)/\WC (D1 pg (k+9) 15 ['4','?']) h4 λ_ h5=>R v h5)):WC (D1 pg (k+10) 121 [.ref c.b]) h R:=by
 have o0:∀{h m g},'*'->h.ob c.b=aA (.ins 20 [("window",'4'),("ledger",'?')]):=λr=>r.at 0;refine aS rfl rfl<|B4 (o0 r)<|aNq r hh<|B4 (o0 r)<|B4 (r.at 1)<|B4 (r.at 1) ?_;have e:=r.Nj;refine B4 (o0 e)<|B5<|(q _ e<|bL.st r '#' ⟨_,rfl⟩).we.D2 λv h2 z=>?_;obtain⟨g2,m2,d,f,i⟩:=z;refine B4 (o0 d)<|Bw d ?_;by_cases cn:m2.hU c = .aG
 .rw[cn];refine B4 (o0 d)<|B5<|(i cn).we.D2 λp h3 z=>?_;obtain⟨⟨g3,m3,j⟩,w3⟩:=z;refine B4 (o0 j)<|B5<|w3.we.D2 λv4 h4 z=>?_;obtain⟨⟨g4,m4,l⟩,n⟩:=z;exact B4 (o0 l)<|B5<|n.we.D2 λs h5 z=>z
 .have o:=f cn;have:nV (m2.hU c)=aJ:=by
   unfold Mo.hU at cn ⊢;split
   .rfl
   .split
    .rfl
    .rename_i a b;rw[if_neg a,if_neg b]at cn;exact absurd rfl cn
  exact aE.f this o
end
section
variable {k:Nat}
def aAx(q:∀h',h'.nx=h.nx+2->Kp h h'->h'.ob h.nx=aA (.ins 15 [("filled",.ref (h.nx+1))])->h'.ob (h.nx+1)=aA (.aP [])->R .aG h'):WC (D1 pg (k+1) 91 [.ref h.nx]) (h.C8<|.ins 15 []) R:=by have k1:∀{a b:bA},Kp h ((h.C8 a).C8 b):=B6.C8.C8;exact aS rfl rfl<|B4 ((dO<|bZ<|cD _).trans bC)<|q _ rfl (k1.C9<|aW _) bO<|(bD<|oO<|cD _).trans bC
def YV(q:∀h',h'.nx=h.nx+2->Kp h h'->h'.ob h.nx=aA (.ins 14<|jm tb<|h.nx+1)->h'.ob (h.nx+1)=aA (.aP [])->R .aG h'):WC (D1 pg (k+1) 85 [.ref h.nx,.tup (tb.map eZ)]) (h.C8<|.ins 14 []) R:=by exact aS rfl rfl<|B4 bC<|B4 ((dO<|bZ<|cD _).trans bO)<|q _ rfl (((B6.C8.C9<|aW _).C8).C9 (aW _)) bO<|(bD<|oO<|cD _).trans bC
def aOp(q:∀h',h'.nx=h.nx+3->Kp h h'->h'.ob h.nx=aA (.ins 16 [("kept",.ref (h.nx+1)),("begun",.ref (h.nx+2))])->h'.ob (h.nx+1)=aA (.aP [])->h'.ob (h.nx+2)=aA (.aP [])->R .aG h'):WC (D1 pg (k+1) 96 [.ref h.nx]) (h.C8<|.ins 16 []) R:=by
 have a:h.nx≠h.nx+1:=by lia
 have b:h.nx≠h.nx+2:=by lia
 have c:h.nx+1≠h.nx+2:=by lia
 exact aS rfl rfl<|B4 ((dO a).trans bC)<|B4 ((dO b).trans bO)<|q _ rfl (((((B6.C8).C8).C9 (aW _)).C8).C9 (aW _)) bO ((bD a.symm).trans ((dO c).trans ((bD a.symm).trans bC)))<|(bD b.symm).trans bC
def X8{sd:Sd}(q:∀h',h'.nx=h.nx+4->Kp h h'->h'.ob h.nx=aA (.ins 19 [("state",sd.av),("guesser",.ref gu),("nerve",.ref nv),("slips",.ref (h.nx+1)),("storers",.ref (h.nx+2)),("gone",.ref (h.nx+3)),("broken",.bl aJ)])->h'.ob (h.nx+1)=aA (.l aB [])->h'.ob (h.nx+2)=aA (.aP [])->h'.ob (h.nx+3)=aA (.aP [])->R .aG h'):WC (D1 pg (k+1) 118 [.ref h.nx,sd.av,.ref gu,.ref nv]) (h.C8<|.ins 19 []) R:=by
 have n1:h.nx≠h.nx+1:=by omega
 have n2:h.nx≠h.nx+2:=by omega
 have n3:h.nx≠h.nx+3:=by omega
 have n4:h.nx+1≠h.nx+2:=by omega
 have n5:h.nx+1≠h.nx+3:=by omega
 have n6:h.nx+2≠h.nx+3:=by omega
 have le:=aW h.nx;refine aS rfl rfl<|B4 bC<|B4 bO<|B4 bO<|B4 ((dO n1).trans bO)<|B4 ((dO n2).trans bO)<|B4 ((dO n3).trans bO)<|B4 bO ?_;refine q _ rfl ((((((((((B6.C8).C9 le).C9 le).C9 le).C8).C9 le).C8).C9 le).C8).C9 le |>.C9 le) bO ?_ ?_ ?_
 .exact(bD n1.symm).trans ((bD n1.symm).trans ((dO n5).trans ((bD n1.symm).trans ((dO n4).trans ((bD n1.symm).trans bC)))))
 .exact(bD n2.symm).trans ((bD n2.symm).trans ((dO n6).trans ((bD n2.symm).trans bC)))
 .exact(bD n3.symm).trans ((bD n3.symm).trans bC)
def fm(sd:Sd):Mo:=⟨[],sd.pc,0,0,0,λ_=>[],[],[],[],sd,[],[],[],aJ⟩
def wf5(n:Nat)(pc sz wd:Int):List (cT×AV):=[("program",.ref (n+1)),("ahead",.int pc),("size",.int sz),("wide",.int wd),("slots",.ref (n+2))]
def aUr{sz wd:Int}(nx:h.nx=n+3)(ow:h.ob n=aA (.ins 18<|wf5 n pc sz wd))
  (q:∀h',h'.nx=n+10->(∀i,i<n+3->i≠n->h'.ob i=h.ob i)->h'.ob n=aA (.ins 18 [("program",.ref (n+1)),("ahead",.int pc),("size",.int sz),("wide",.int wd),("slots",.ref (n+2)),("names",.ref (n+3)),("benches",.ref (n+5)),("shelf",.ref (n+7)),("tickets",.int 0),("thrown",.int 0),("now",.int 0)]) ->
   h'.ob (n+3)=aA (.ins 15 [("filled",.ref (n+4))])->h'.ob (n+4)=aA (.aP [])->h'.ob (n+5)=aA (.ins 14<|jm tb<|n+6)->h'.ob (n+6)=aA (.aP [])->h'.ob (n+7)=aA (.ins 16 [("kept",.ref (n+8)),("begun",.ref (n+9))])->h'.ob (n+8)=aA (.aP [])->h'.ob (n+9)=aA (.aP [])->R .aG h') :
  dY (D1 pg<|k+1) (bH<|bH<|bH<|bH<|bH Xi) [aA (.ref n),aA (.ref np),aA (.int pc),aA (.int sz),aA (.int wd),aA (.tup<|tb.map eZ)] h (λ_ h1=>R .aG h1) R '6' λ_ _=>False:=by
 refine aAx λh1 g k1 a1 a2=>⟨rfl,?_⟩;rw[nx]at g a1 a2 ⊢;refine B4 rfl<|B4 rfl<|B4 (k1.get '!' ow) ?_;refine YV λc j k2 b1 b2=>⟨rfl,?_⟩;have t:∀{o:bA},(h1.C9 n o).nx=n+5:=g;rw[t]at j b1 b2 ⊢;refine B4 rfl<|B4 rfl<|B4 (k2.get (by show n<h1.nx;omega) bO) ?_;refine aOp λe l m p r s=>⟨rfl,?_⟩;have u:∀{o:bA},(c.C9 n o).nx=n+7:=j;rw[u]at l p r s ⊢;refine B4 rfl<|B4 rfl<|B4 (m.get (by show n<c.nx;omega) bO)<|B4 bO<|B4 bO<|B4 bO ?_;have d:∀{i},i≠n->i<n+7->e.ob i=c.ob i:=λ{i} a li=>(m.ob i (by show i<c.nx;omega)).trans (bD a);have f:∀{i},i≠n->i<n+5->c.ob i=h1.ob i:=λ{i} a li=>(k2.ob i (by show i<h1.nx;omega)).trans (bD a);have b:∀{i:Nat}{v w x y:bA},i≠n->((((e.C9 n v).C9 n w).C9 n x).C9 n y).ob i=e.ob i:=λa=>by rw[bD a,bD a,bD a,bD a]
 refine q _ l (λi li a=>?_) bO ?_ ?_ ?_ ?_ ?_ ?_ ?_
 .rw[b a,d a '!',f a '!'];exact k1.ob i '!'
 .rw[b '!',d '!' '!',f '!' '!'];exact a1
 .rw[b '!',d '!' '!',f '!' '!'];exact a2
 .grind
 .rw[b '!',d '!' '!'];exact b2
 .rw[b '!'];exact p
 .rw[b '!'];exact r
 .rw[b '!'];exact s
def aUs{sz wd:Int}{sd:Sd}(op:h.ob np=aA 'D')(lp:np<h.nx)
  (q:∀h',h'.nx=h.nx+10->Kp h h'->h'.ob h.nx=aA (.ins 18 [("program",.ref (h.nx+1)),("ahead",.int sd.pc),("size",.int sz),("wide",.int wd),("slots",.ref (h.nx+2)),("names",.ref (h.nx+3)),("benches",.ref (h.nx+5)),("shelf",.ref (h.nx+7)),("tickets",.int 0),("thrown",.int 0),("now",.int 0)]) ->
   h'.ob (h.nx+1)=aA 'D'->h'.ob (h.nx+2)=aA (.l aB [])->h'.ob (h.nx+3)=aA (.ins 15 [("filled",.ref (h.nx+4))])->h'.ob (h.nx+4)=aA (.aP [])->h'.ob (h.nx+5)=aA (.ins 14<|jm tb<|h.nx+6)->h'.ob (h.nx+6)=aA (.aP [])->h'.ob (h.nx+7)=aA (.ins 16 [("kept",.ref (h.nx+8)),("begun",.ref (h.nx+9))])->h'.ob (h.nx+8)=aA (.aP [])->h'.ob (h.nx+9)=aA (.aP [])->R .aG h') :
  WC (D1 pg (k+2) 111 [.ref h.nx,.ref np,.int sd.pc,.int sz,.int wd,.tup (tb.map eZ)]) (h.C8<|.ins 18 []) R:=by
 have le:=aW h.nx;have g:h.nx≠h.nx+1:=by lia
 have l:h.nx≠h.nx+2:=by lia
 have j:h.nx+1≠h.nx+2:=by lia
 refine aS rfl rfl<|B5<|pv (bR<|(dO<|bZ lp).trans op)<|B4 rfl<|B4 rfl<|B4 ((dO g).trans bC)<|B4 bO<|B4 bO<|B4 bO<|B4 ((dO l).trans bO) ?_;have v:∀{m n o p r s t u:bA},Kp h ((((((((h.C8 m).C8 n).C9 h.nx o).C9 h.nx p).C9 h.nx r).C9 h.nx s).C8 t).C9 h.nx u):=λ{m n o p r s t u}=>(((((((B6.C8).C8).C9 le).C9 le).C9 le).C9 le).C8).C9 le;refine aUr rfl bO λh' nx fr w a b c d e f x=>q h' nx ⟨'!',λi y=>(fr i '!'<|bZ ‹_›).trans (v.ob i y)⟩ w ?_ ?_ a b c d e f x
 .exact(fr _ '!'<|oO<|cD _).trans ((bD g.symm).trans ((dO j).trans ((bD g.symm).trans ((bD g.symm).trans ((bD g.symm).trans ((bD g.symm).trans bC))))))
 .exact(fr _ (aW _) '!').trans ((bD l.symm).trans bC)
def GK(q:R (.ref n) h):WC (D1 pg (k+1) 34 [.ref n]) h R:=aS rfl rfl q
def zr(P:Nat->bA->Prop):Nat->List (Option bA)->Prop
 |_,[]=>True
 |i,aD::l=>zr P (i+1) l
 |i,aA o::l=>P i o/\zr P (i+1) l
theorem Ww{P:Nat->bA->Prop}:∀{l:List (Option bA)}{n:Nat},zr P n l->∀i o,l[i]?=aA (aA o)->P (n+i) o
 |[],_,_,i,o,e=>by cases e
 |x::l,n,a,0,o,e=>by cases e;exact a.1
 |x::l,n,a,i+1,o,e=>by
  have b:zr P (n+1) l:=by
   cases x with
   |none=>exact a|some y=>exact a.2
  have:=Ww b i o e;rw[Nat.add_assoc,Nat.add_comm 1 i]at this;exact this
def wf0{sd:Sd}{kd:Nat->Nat}:Wf ⟨n,[],kd⟩ (fm sd):=by refine⟨ql,λ_ h=>(lL h).elim,(by decide:0<64),λ_ h=>(lL h).elim,ql,(by decide:0<64),ql,(by decide:0<64),ql,(by decide:0<64),ql,λx f h=>?_,λ_ _=>rfl,λ_=>(by decide:0<99999)⟩;exact bU h
def aAb{lo:List (Nat×bA)}{b:Nat}{sz wd:Int}{sd:Sd}{K:Nat->AS}(hb:h.nx=b)(op:h.ob np=aA 'D')(lp:np<h.nx)(G:mF ⟨b,rs,sz,wd,tb,gu,nv,B3 sd.mem,lo⟩ 10 K h)
  (q:∀g h',aL ⟨b,rs,sz,wd,tb,gu,nv,B3 sd.mem,lo⟩ g (fm sd) h'->Kp h h'->R .aG h'):WC (D1 pg (k+3) 120 [.ref b,.ref np,sd.av,.int sz,.int wd,.tup (tb.map eZ),.ref gu,.ref nv]) (h.C8<|.ins 20 []) R:=by
 subst hb;have v:Kp h (h.C8<|.ins 20 []):=B6.C8;refine aS rfl rfl<|aUs (k:=k) (h:=h.C8 (.ins 20 [])) (sd:=sd) (tb:=tb) (v.get lp op) (kH lp) λm s k1 w1 w2 w3 A B C D w8 E t=>⟨rfl,B4 rfl (B4 rfl<|B4 (k1.get (cD _) bC) ?_)⟩;refine GK (k:=k+1)<|GK (k:=k+1) ?_;have s:m.nx=h.nx+11:=s;refine X8 (k:=k+1) (h:=m.C9 h.nx _) (sd:=sd) λd F k2 l1 l2 w x=>⟨rfl,?_⟩;have H:∀{o:bA},(m.C9 h.nx o).nx=h.nx+11:=s;rw[H]at F l1 l2 w x ⊢;refine B4 rfl<|B4 rfl<|B4 (k2.get (by grind) bO) ?_;have u:∀{i}{o:bA},i≠h.nx->i<h.nx+11->(d.C9 h.nx o).ob i=m.ob i:=λ{i o} p li=>(bD p).trans ((k2.ob i (by grind)).trans (bD p));have I:∀{i}{o:bA},i≠h.nx->(d.C9 h.nx o).ob i=d.ob i:=λp=>bD p;have y:∀{o:bA},Kp h (d.C9 h.nx o):=λ{o}=>⟨by show h.nx<=d.nx;lia,λi J=>(u (bZ ‹_›) (by lia)).trans ((k1.ob i (by grind)).trans (v.ob i J))⟩;have L:aL ⟨h.nx,rs,sz,wd,tb,gu,nv,B3 sd.mem,lo⟩ ⟨h.nx+3,[],λn=>if n=h.nx+3 then 15 else n-h.nx⟩ (fm sd) (d.C9 h.nx<|.ins 20 [("window",.ref (h.nx+1)),("ledger",.ref (h.nx+11))]):=?_
 .exact q _ _ L y
 refine⟨⟨λi o e=>?_,λj n o M e=>?_⟩,⟨K,G.low (aW _) λn hn=>y.ob n hn⟩,wf0⟩
 .have fin:∀{i o},i<15->i≠3->(d.C9 h.nx<|.ins 20 [("window",.ref (h.nx+1)),("ledger",.ref (h.nx+11))]).ob (h.nx+i)=aA o->(if h.nx+i=h.nx+3 then 15 else h.nx+i-h.nx)=i/\h.nx+i<d.nx/\(d.C9 h.nx<|.ins 20 [("window",.ref (h.nx+1)),("ledger",.ref (h.nx+11))]).ob (h.nx+i)=aA o:=λ{i o} a b z=>⟨by grind,'!',z⟩;have f:∀{i o},i<11->i≠3->i≠0->m.ob (h.nx+i)=aA o->_:=λ{i o} a b c z=>fin (i:=i) (o:=o) '!' b ((u '!' '!').trans z);have r:∀{i o},i<15->i≠3->i≠0->d.ob (h.nx+i)=aA o->_:=λ{i o} a b c z=>fin (i:=i) (o:=o) a b ((I '!').trans z);have key:=Ww (P:=λi o=>(if h.nx+i=h.nx+3 then 15 else h.nx+i-h.nx)=i/\h.nx+i<d.nx/\(d.C9 h.nx<|.ins 20 [("window",.ref (h.nx+1)),("ledger",.ref (h.nx+11))]).ob (h.nx+i)=aA o) (n:=0) (l:=(fm sd).fX ⟨h.nx,rs,sz,wd,tb,gu,nv,B3 sd.mem,lo⟩ ⟨h.nx+3,[],λn=>if n=h.nx+3 then 15 else n-h.nx⟩) ⟨fin '#' '#' bO,f '#' '#' '#' w1,f '#' '#' '#' w2,f '#' '#' '#' A,f '#' '#' '#' B,f '#' '#' '#' C,f '#' '#' '#' D,f '#' '#' '#' w8,f '#' '#' '#' E,f '#' '#' '#' t,r '#' '#' '#' l1,r '#' '#' '#' l2,r '#' '#' '#' w,r '#' '#' '#' x,trivial⟩ i o e;rw[Nat.zero_add]at key;exact key
 .unfold Mo.E8 at e;split at e
  .rename_i z;subst z;cases e;exact⟨if_pos rfl,oJ ..,by show h.nx+3<d.nx;omega,(u (i:=h.nx+3) '!' '!').trans w3⟩
  .split at e
   .exact bU e
   .exact bU e
end
section
variable {k:Nat}{g:Gh}
def K4(r:'*')(w0:0<=c.wd)(w8:c.wd<=8)(P:Nat->Mo->Prop)(p0:P 0 m)
  (stp:∀i m,P i m->(i:Int)<c.wd->(B3 m.ac:Int)<c.sz->m.ah<B3 c.rs->∃row,ru c m row/\B3 m.sd.bx=8/\(∀a,(m.F0 row a).yF c.am (B3 m.ac) 0 row.cQ)/\∀a dr gs,P (i+1) (m.kL c row a dr gs))
  (q:∀i m' g' h',P i m'->(i:Int)<=c.wd->aL c g' m' h'->bL c g h g' h'->R .aG h'):WC (D1 pg (k+7) 15 ['4','?']) h R:=by
 refine aS rfl rfl<|WB.of<|yc ?_;refine pw (λi d h'=>i<=c.wd/\d=[aA '4',aA '?',aA (.int i)]/\∃g' m',aL c g' m' h'/\P i m'/\bL c g h g' h') 8 (λi d h' y=>by lia) (λi d h' y=>?_) FU 0 _ _ (by rw[eN];lia) ⟨w0,rfl,g,m,r,p0,bL.refl⟩;obtain⟨o,rfl,g',m',b,e,f⟩:=y;have fin:=q i m' g' h' e o b f;refine oD _<|B4 (b.at 1)<|C1 (λj=>?_) λj=>?_;rotate_left
 .exact fin
 refine B4 (b.at 1)<|Ep b<|B4 (b.at 1)<|C1 (λl=>?_) λl=>?_;rotate_left
 .exact fin
 refine B4 (b.at 1)<|b.Zv ?_;by_cases n:(B3 c.rs:Int)<=m'.ah
 .rw[decide_eq_true n];exact fin
 .rw[decide_eq_false n];obtain⟨row,E,bl,ok,p⟩:=stp i m' e j l (by lia);refine(gR _ ?_:Wt (jY (D1 pg<|k+6) _ _) _ _ _ _ _);refine K5 b E bl ok λa dr gs g2 u s t=>?_;exact⟨‹_›,rfl,g2,_,s,p a dr gs,f.trans t⟩
def aPv{t:Int×Int}(hs:'5'):((m.start c t i s).ac.map (·.a))=m.ac.map (·.a):=by
 unfold Mo.start;split
 .split
  .rfl
  .exact nC hs fe.1
 .rfl
def aPr(r:'*')(P:Nat->Mo->Prop)(p0:P 0 m)
  (stp:∀i m s,P i m->'5'->(s.C9<m.nw->s.st=aD->s.ws.all qw=aB->∃t,Ac c m s/\cZ (c.tb.map eZ) s.row.jL=aA (eZ t)/\aX m.wk s.tk=aD/\B3 m.wk<63/\P (i+1) (m.start c t i s))/\(¬(s.C9<m.nw/\s.st=aD/\s.ws.all qw=aB)->P (i+1) m))
  (q:∀m' h',P (B3 m.ac) m'->aL c g m' h'->bL c g h g h'->R .aG h'):WC (D1 pg (k+6) 31 ['4','?']) h R:=by
 have sn:=r.W.sn;refine aS rfl rfl<|WB.of<|mQ<|qZ<|B4 (r.at 1)<|sQ r.lJ.1 ?_;refine da (bb:=aB) (xs:=m.ac.map λs=>.ref s.a) (λj e h'=>∃m' v2,e=[aA '4',aA '?',v2]/\aL c g m' h'/\P j m'/\m'.ac.map (·.a)=m.ac.map (·.a)/\bL c g h g h') (by rw[aU,eN];lia) ⟨m,_,rfl,r,p0,rfl,bL.refl⟩ (λj e h' y=>?_) (λj x e h' v y=>?_)<|λe h' y=>?_
 .obtain⟨m',v2,_,b,_,d,_⟩:=y;rw[b.lJ.1];have:=congrArg (yp AV.ref) d;rw[iP,iP]at this;exact congrArg (λz=>aA (bA.l aB z)) this
 .obtain⟨m',v2,rfl,b,f,d,l⟩:=y;obtain⟨s0,h0,rfl⟩:=kO v;have p:(m'.ac.map (·.a))[j]?=aA s0.a:=by rw[d,eQ,h0];rfl
  rw[eQ]at p;obtain⟨s,n,w⟩:=gT.1 p;have hm:=bJ n;obtain⟨A,B⟩:=stp j m' s f n;rw[<- w];have no:=λz=>(⟨m',aA (.ref s.a),rfl,b,B z,d,l⟩:∃m' v2,[aA (AV.ref<|c.b+1),aA '?',aA (.ref s.a)]=[aA '4',aA '?',v2]/\aL c g m' h'/\P (j+1) m'/\m'.ac.map (·.a)=m.ac.map (·.a)/\bL c g h g h');refine kE _<|gR _<|B4 (b.dD hm)<|B4 (b.at 1)<|C1 (λcp=>?_) λcp=>no λz=>cp z.1;cases ht:s.st with
  |some C=>
   have o:h'.ob s.a=aA (.ins 17<|{ s.lt c.am with st:=aA C }.fk (s.a+2)):=by rw[b.lV hm];unfold Sl.lt;rw[ht]
   exact B4 o (no λz=>by cases z<;>grind)
  |none=>
   have o:h'.ob s.a=aA (.ins 17<|{ s.lt c.am with st:=aD }.fk (s.a+2)):=by rw[b.lV hm];unfold Sl.lt;rw[ht]
   refine B4 o<|B4 o<|aNp (b.dD hm) (b.pq hm) ?_;cases u:s.ws.all qw with
   |false=>exact no λz=>by rw[u]at z;cases z.2.2
   |true=>obtain⟨t,O,D,hn,wl,E⟩:=A cp ht u;exact aAj b n O D hn wl λH F G=>⟨_,_,rfl,F,E,(aPv n).trans d,l.trans G⟩
 .obtain⟨m',v2,rfl,b,f,d,l⟩:=y;rw[aU]at f;exact q m' h' f b l
def aRy(r:'*')(w0:0<=c.wd)(w8:c.wd<=8)(P:'%'->Mo->Prop)(p0:P [] m)
  (stp:∀l m s rest,P l m->(B3 l:Int)<c.wd->m.ac=s::rest->qw s.fi=aB->Ae c m { s with of:=aA m.nw }/\P (l++[(({ s with of:=aA m.nw }:Sl).lt c.am).iD]) (m.take c.am { s with of:=aA m.nw } rest))
  (q:∀l m' n g' h',P l m'->((B3 l:Int)=c.wd\/∀s,m'.ac[0]?=aA s->s.fi=aD)->aL c g' m' h'->h.nx<=n->n<h'.nx->h'.ob n=aA (.l aB l)->g'.kd n=28->bL c g h g' h'->R (.ref n) h'):WC (D1 pg (k+8) 23 ['4','?']) h R:=by
 have k1:Kp h (h.C8<|.l aB []):=B6.C8;refine aS rfl rfl<|WB.of<|yc ?_;refine pw (λi d h'=>(i:Int)<=c.wd/\(∃p,d=[aA '4',aA '?',aA (.ref h.nx),p])/\∃g' m' l,aL c g' m' h'/\P l m'/\B3 l=i/\g'.kd h.nx=28/\h.nx<h'.nx/\h'.ob h.nx=aA (.l aB l)/\bL c g h g' h') 8 (λi d h' y=>by lia) (λi d h' y=>?_) FU 0 _ _ (by rw[eN];lia) ⟨w0,⟨_,rfl⟩,_,m,[],(r.fresh (n:=h.nx) k1<|aW _),p0,rfl,if_pos rfl,cD _,bC,⟨iG _,λn hn f _=>⟨dO (bZ hn),(if_neg<|bZ hn).trans f⟩⟩⟩;obtain⟨E,⟨p,rfl⟩,g',m',l,a,t,F,kd,lt,ol,ff⟩:=y;have fin:=λz=>q l m' h.nx g' h' t z a (aW _) lt ol kd ff;refine oD _<|B5<|eP (bR ol)<|B4 (a.at 1)<|C1 (λA=>?_) λA=>?_;rotate_left
 .exact fin<|.inl '!'
 refine B4 (a.at 1)<|Ep a ?_;cases b:m'.ac with
 |nil=>exact fin (.inr λs e=>by rw[b]at e;exact bU e)|cons s rest=>
  have h0:m'.ac[0]?=aA s:=by rw[b];rfl
  have hm:=bJ h0;have u:cZ (m'.ac.map λs=>AV.ref s.a) 0=aA (.ref s.a):=b▸gK;refine aE.dt (by grind)<|B4 (a.at 1)<|B5<|dZ (bR a.lJ.1) u ?_;cases j:s.fi with
  |none=>
   have o:h'.ob s.a=aA (.ins 17<|{ s.lt c.am with fi:=aD }.fk (s.a+2)):=by rw[a.lV hm];unfold Sl.lt;rw[j]
   exact B4 o<|fin (.inr λz e=>by grind)
  |some B=>
   have o:h'.ob s.a=aA (.ins 17<|{ s.lt c.am with fi:=aA B }.fk (s.a+2)):=by rw[a.lV hm];unfold Sl.lt;rw[j]
   obtain⟨T,C⟩:=stp l m' s rest t '!' b (by rw[j];rfl);refine B4 o ?_;refine(gR _ ?_:Wt (jY (D1 pg<|k+7) _ _) _ _ _ _ _);refine(B4 (a.at 1)<|B5<|dZ (bR a.lJ.1) u<|aSb a b T λg2 G D v x fr=>?_);have ne:=(sE ol (a.dD hm) nofun);have fn:=fr h.nx lt (by grind) r.bx ne;have on:=fn.1.trans ol;refine B7 (pE on)<|B4 (v.os T.fi)<|Px (v.os T.fi)<|B5<|sP on (by have:=lU;omega) ?_;exact⟨'!',⟨_,rfl⟩,_,_,_,D.Co r.bx (fn.2.trans kd) (Kx.refl.C9<|a'.2 rfl),C,by left,fn.2.trans kd,bE lt x,bO,⟨dF ff.nx x,λn hn f hb=>by have z:=ff.ob n hn f hb;have y:=fr n (bE hn ff.nx) (Gw z.2.symm) hb λw=>(a.ku hm).1 (w▸z.2);exact⟨(bD<|bZ hn).trans (y.1.trans z.1),y.2.trans z.2⟩⟩⟩
end
section
variable {k:Nat}{g:Gh}
def O4{t:Int}(r:'*')(P:Nat->Nat->Mo->Prop)(p0:P 0 0 m)
  (stp:∀i j m s,P i j m->'5'->j<B3 s.bI->(s.bI[j]?=aA (aA t)->ak m s j/\P i (j+1) (m.E1 i j w))/\(s.bI[j]?≠aA (aA t)->P i (j+1) m))
  (nxt:∀i m s,P i (B3 s.bI) m->'5'->P (i+1) 0 m)
  (q:∀i m' g' h',P i 0 m'->B3 m'.ac<=i->aL c g' m' h'->bL c g h g' h'->R .aG h'):WC (D1 pg (k+5) 30 ['4',.int t,.int w]) h R:=by
 refine aS rfl rfl<|WB.of<|yc ?_;refine pw (λi l h'=>i<=64/\(∃v4 n,l=[aA '4',aA (.int t),aA (.int w),aA (.int i),v4,n])/\∃g' m',aL c g' m' h'/\P i 0 m'/\bL c g h g' h') 64 (λi l h' y=>y.1) (λi l h' y=>?_) FU 0 _ h (by rw[eN];omega) ⟨jD _,⟨_,_,rfl⟩,g,m,r,p0,bL.refl⟩;obtain⟨_,⟨v4,n,rfl⟩,g',m',d,A,B⟩:=y;refine oD _<|B4 (d.at 1)<|Ep d ?_;show if decide (i<(B3 m'.ac:Int))=aB then _ else _
 by_cases ci:i<B3 m'.ac
 .rw[if_pos (by simpa)];have sn:=d.W.sn;obtain⟨s,C⟩:∃s,m'.ac[i]?=aA s:=⟨_,eD ci⟩;have hm:=bJ C;have H:cZ (m'.ac.map λs=>AV.ref s.a) i=aA (.ref s.a):=xP (by left);have nl:B3 s.bI<=2:=by rw[(d.W.sw _ hm).2];exact wg
  have o:B3 ((s.lt c.am).bI.map oI)=B3 s.bI:=aU ..;refine gR _<|B4 (d.at 1)<|B5<|dZ (bR d.lJ.1) H<|WB.of<|mQ<|xy ?_;refine B4 (d.dD hm) ⟨xg '!' '!',?_⟩;refine Kh (λj l e=>(∃n,l=[aA '4',aA (.int t),aA (.int w),aA (.int i),aA (.ref s.a),n])/\∃g2 b s2,aL c g2 b e/\P i j b/\bL c g h g2 e/\b.ac[i]?=aA s2/\s2.a=s.a/\s2.bI=s.bI) (by rw[eN,uL];omega) ⟨⟨_,rfl⟩,g',m',s,d,A,B,C,rfl,rfl⟩ (λj l e x y=>?_)<|λl e y=>?_
  .obtain⟨⟨n,rfl⟩,g2,b,s2,f,p,f2,a,D,en⟩:=y;rw[o,<- en]at x;have I:=Xf x;obtain⟨J,E⟩:=stp i j b s2 p a x;rw[<- D,Int.zero_add];refine kE _<|gR _<|B4 (f.dD<|bJ a)<|B4 I ?_;cases F:(s2.bI[j]?).join with
   |none=>exact B5<|Fi rfl ⟨⟨_,rfl⟩,g2,b,s2,f,E (λz=>by rw[z]at F;cases F),f2,a,rfl,en⟩|some u=>
    refine C1 (λz=>?_) λz=>?_
    .have K:s2.bI[j]?=aA (aA t):=by left
     obtain⟨G,L⟩:=J K;refine B4 (f.at 1)<|CU f a rfl G λv g3 O M N=>?_;exact⟨⟨_,rfl⟩,g3,_,_,M,L,f2.trans N,(Bt f.W.tk a).1,rfl,en⟩
    .exact⟨⟨_,rfl⟩,g2,b,s2,f,E (λw=>z (by left)),f2,a,rfl,en⟩
  .obtain⟨⟨n,rfl⟩,g2,b,s2,f,p,f2,a,D,en⟩:=y;rw[o,<- en]at p;exact⟨'!',⟨_,_,rfl⟩,g2,b,f,nxt i b s2 p a,f2⟩
 .rw[if_neg (by simpa using ci)];exact q i m' g' h' A '!' d B
end
section
variable {k:Nat}{g:Gh}
def M1(ev:v=c.am)(es:s'={ s with fi:=aA m.nw })(r:'*')(hs:'5')(ews:s.ws=s.wi.map aA)(hw:jS s.wi)(hf:s.fi=aD)
  (P:Nat->Nat->Mo->Prop)(Q:Mo->Prop)(qm:∀m,Q m->s'∈m.ac)(q0:s'.d1 c.am=aD->Q (m.cO i s'))
  (q1:∀x,s'.d1 c.am=aA x->∃w,s'.d3 c.am=aA w/\P 0 0 (m.cO i s')/\∀i j m s,P i j m->'5'->j<B3 s.bI->(s.bI[j]?=aA (aA s'.tk)->ak m s j/\P i (j+1) (m.E1 i j w))/\(s.bI[j]?≠aA (aA s'.tk)->P i (j+1) m))
  (nxt:∀i m s,P i (B3 s.bI) m->'5'->P (i+1) 0 m)(q2:∀n m2,P n 0 m2->B3 m2.ac<=n->Q m2)
  (q:∀m2 g' h',Q m2->aL c g' (m2.jmp c.am s') h'->bL c g h g' h'->R .aG h'):WC (D1 pg (k+7) 29 ['4',.ref s.a,.int v]) h R:=by
 subst ev;have hm:=bJ hs;have t:=r.pq hm;rw[ews,Rt]at t;have wl:B3 s.wi=s.row.nw:=by rw[<- (r.W.sw s hm).1];exact aU ..
 refine aS rfl rfl<|B4 (r.dD hm)<|B4 (r.dD hm)<|B4 (r.dD hm)<|B5<|qX (bR t)<|B4 (r.dD hm)<|Z4 wl hw ?_;rw[show(s.lt c.am).row.fZ (s.lt c.am).pc s.wi c.am (oI (s.lt c.am).eG) = .tup (s.dt c.am) from Zo];refine B4 rfl<|B4 rfl<|B4 (r.dD hm) ?_;have nb:=(sE (r.at 1) (r.dD hm) (λz=>by cases z));refine B4 ((bD nb).trans (r.at 1))<|B4 bO ?_;have A:iT "finished" (.int m.nw) (iT "deed" (.tup<|s.dt c.am)<|(s.lt c.am).fs (s.a+2))=(s'.lt c.am).fs (s.a+2):=by rw[es];unfold Sl.lt;rw[show({ s with fi:=aA m.nw }:Sl).dd c.am = .tup (s.dt c.am) from ub rfl];rfl
 have d:s'.a=s.a:=by rw[es]
 have u:qw s'.fi=aB:=by rw[es];rfl
 have a:=r.xi hs d (by rw[es]) (by rw[es]) (by rw[es]) (by rw[es]);rw[<- A,<- HR]at a;have kd:=(r.ku hm).1;have fr:∀{B C:bA},bL c g h g ((h.C9 s.a B).C9 s.a C):=(bL.C9 kd).trans (bL.C9 kd);have o:=a.Er (bJ<|yX (m:=m) (s':=s') hs) u;rw[d]at o;refine B4 o ?_;have fin:=λm2 g2 f v2 l (f2:bL c g h g2 f) (y:Q m2)=>M0 (k:=k+3) (v2:=v2) l (qm m2 y) u λg' h' D E=>q m2 g' h' y D (f2.trans<|bL.M9 E);rw[d]at fin;have e:s'.dt c.am=[.int s'.pc,oI (s'.d1 c.am),oI (s'.d2 c.am),oI (s'.d3 c.am),oI (s'.d4 c.am),(s'.ft c.am).getD .aG]:=rfl;cases b:s'.d1 c.am with
 |none=>rw[b]at e;rw[e];exact fin _ _ _ _ a fr<|q0 b
 |some x=>obtain⟨w,F,p0,p⟩:=q1 x b;rw[b,F]at e;rw[e]at o ⊢;exact B4 o<|B4 o<|O4 a P p0 p nxt λn m2 g2 f G l2 l f2=>fin m2 g2 f _ l (fr.trans f2) (q2 n m2 G l2)
end
section
variable {k:Nat}{g:Gh}
inductive Wc(c:Cf)(m:Mo)(i:Nat)(s s':Sl)(Z:Mo->Prop):Prop
 |mk (P:Nat->Nat->Mo->Prop) (Q:Mo->Prop) (_:s'={ s with fi:=aA m.nw }) (_:s.ws=s.wi.map aA) (_:jS s.wi) (_:s.fi=aD) (_:∀m,Q m->s'∈m.ac) (_:s'.d1 c.am=aD->Q (m.cO i s'))
  (_:∀x,s'.d1 c.am=aA x->∃w,s'.d3 c.am=aA w/\P 0 0 (m.cO i s')/\∀i j m s,P i j m->'5'->j<B3 s.bI->(s.bI[j]?=aA (aA s'.tk)->ak m s j/\P i (j+1) (m.E1 i j w))/\(s.bI[j]?≠aA (aA s'.tk)->P i (j+1) m))
  (_:∀i m s,P i (B3 s.bI) m->'5'->P (i+1) 0 m) (_:∀n m2,P n 0 m2->B3 m2.ac<=n->Q m2) (_:∀m2,Q m2->Z (m2.jmp c.am s'))
def L6(r:'*')(et:ts=lK aJ (rP m.wk m.nw))(P:'0'->Mo->Prop)(p0:P ts { m with wk:=m.wk.filter λp=>!decide (p.2.2<=m.nw) })
  (stp:∀t ts m,P (t::ts) m->c.am=B3 m.sd.mem/\(m.D9 t=aD->P ts m)/\∀i s,'5'->s.tk=t->∃s',Wc c m i s s' (P ts))
  (q:∀m' g' h',P [] m'->aL c g' m' h'->bL c g h g' h'->R .aG h'):WC (D1 pg (k+8) 28 ['4','?']) h R:=by
 have tl:B3 ts<64:=by rw[et,(Qa aJ<|rP m.wk m.nw).length_eq];unfold rP;rw[aU];exact cy r.W.wl
 refine aS rfl rfl<|WB.of<|mQ<|qZ ?_;refine B4 (r.at 1)<|B4 (r.at 6)<|B4 (r.at 1)<|q8 r.Aq r.W.wl λn C kx e hn f on=>?_;have D:=(r.fresh B6 hn).wkU kx e (pH r.W.wn) (cy r.W.wl);have f1:bL c g h ⟨g.sl,g.kf,λi=>if i=n then 28 else g.kd i⟩ C:=⟨kx.nx,λi d A hb=>⟨((bL.kx r '#' ⟨_,rfl⟩ kx).ob i d A hb).1,(if_neg '!').trans A⟩⟩;rw[<- et]at on;refine sQ on ?_;refine da (λj l h'=>h'.ob n=aA (.l aB<|ts.map .int)/\(∃v2 B,l=[aA '4',aA '?',v2,B])/\∃g' m',aL c g' m' h'/\P (ts.drop j) m'/\g'.kd n=28/\n<h'.nx/\bL c g h g' h') (by rw[aU,eN];omega) ⟨on,⟨_,_,rfl⟩,_,_,D,p0,if_pos rfl,f,f1⟩ (λ_ _ _ y=>y.1) (λj x l h' E y=>?_)<|λl h' y=>?_
 .obtain⟨on,⟨v2,B,rfl⟩,g',m',a,b,kd,lt,nx⟩:=y;obtain⟨t,ht,rfl⟩:=kO E;rw[Jl ht]at b;obtain⟨rm,F,G⟩:=stp t _ m' b;refine kE _<|gR _<|B4 (a.at 1)<|KH a ?_;cases o:m'.D9 t with
  |none=>exact⟨on,⟨_,_,rfl⟩,g',m',a,F o,kd,lt,nx⟩|some s=>have hm:=wQ o;obtain⟨i,d⟩:=zP hm;have et:=of_decide_eq_true (yk (p:=λs:Sl=>decide (s.tk=t)) o);obtain⟨s',⟨H,Q,I,u,hw,J,K,L,M,w,N,z⟩⟩:=G i s d et;refine B4 (a.at 11)<|M1 (v:=(B3 (m'.sd.mem.map AV.int):Int)) (by rw[aU,rm]) I a d u hw J H Q K L M w N λO g2 U S T f2=>?_;have fn:=f2.ob n lt kd (dF r.bx hn);exact⟨fn.1.trans on,⟨_,_,rfl⟩,g2,_,T,z O S,fn.2,bE lt f2.nx,nx.trans f2⟩
 .obtain⟨_,_,g',m',a,b,_,_,nx⟩:=y;rw[aU,Gf]at b;exact q m' g' h' b a nx
end
section
abbrev Cr:=Int×Int×aH×List '+'×Int
def Sl.cr(s:Sl):Cr:=(s.tk,s.pc,s.row,s.bI,s.C9)
def fT(x:Int)(l:List Cr):'0':=l.filterMap λp=>if aH.fx p.2.2.1=aA x then aA p.1 else aD
structure NI(off:Int->AW)(cs:List Cr)(fl:Int->AW):Prop where
 f:∀x,fl x=off x++fT x cs
 w:∀x,(fl x).Pairwise (·<·)
 n:∀(k:Nat) (p:Cr),cs[k]?=aA p->p.2.2.2.1=p.2.2.1.cQ.map λx=>(off x++fT x (cs.take k)).getLast?
 o:∀x,∀u∈off x,∀p∈cs,u<p.1
 s:(cs.map (·.1)).Pairwise (·<·)
variable {off:Int->AW}{cs a b:List Cr}{fl:Int->AW}{t:Int}{p:Cr}
def HJ{l:'0'}(h:l.Pairwise (·<·)):kR t l=l.filter λu=>decide (u<t):=by
 have key:∀r:'0',r.Pairwise (λa b=>b<a)->r.dropWhile (λu=>decide (t<=u))=r.filter λu=>decide (u<t):=λr=>by
  induction r with
  |nil=>left|cons u r f=>
   intro h;have e:=jr.1 h;rw[List.dropWhile_cons,kF];by_cases c:t<=u
   .rw[if_pos (decide_eq_true c),if_neg (by left),f e.2]
   .have d:=x9.1 c;rw[if_neg (by left),if_pos (decide_eq_true d),xT.2 λv g=>decide_eq_true (kY (e.1 v g) d)]
 unfold kR;rw[key _ (y9.2 h),List.filter_reverse,PC]
def Js:fT x (a++b)=fT x a++fT x b:=OG
def AF(h:u∈fT x cs):∃p∈cs,p.1=u:=by
 obtain⟨p,a,e⟩:=j'.1 h;split at e
 .exact⟨p,a,cR e⟩
 .exact bU e
def x5:fT x (cs.filter λp=>decide (p.1<t))=(fT x cs).filter λu=>decide (u<t):=by
 unfold fT;rw[List.filterMap_filter,List.filter_filterMap];congr 1
 funext p
 by_cases c:aH.fx p.2.2.1=aA x
 .rw[if_pos c];rfl
 .simp_all
def i7(h:(cs.map (·.1)).Pairwise (·<·)):∃n,cs.filter (λp=>decide (p.1<t))=cs.take n:=by
 induction cs with
 |nil=>exact⟨0,rfl⟩|cons z l b=>
  have a:=jr.1 h;rw[kF];split
  .obtain⟨n,e⟩:=b a.2;exact⟨n+1,by rw[e,Gv]⟩
  .rename_i w;exact⟨0,wB.2 λs c y=>w (decide_eq_true<|kY (a.1 _<|bp.2 ⟨s,c,rfl⟩)<|of_decide_eq_true y)⟩
def NI.E7(I:NI off cs fl)(h:∃p∈cs,p.1<=t):NI off (cs.filter λp=>decide (p.1<t)) λx=>kR t (fl x):=by
 obtain⟨p,c,le⟩:=h;obtain⟨n,en⟩:=i7 I.s;refine⟨λx=>?_,λx=>?_,λk q a=>?_,λx u b q a=>I.o x u b q (gi.1 a).1,I.s.sublist (pV.map _)⟩
 .rw[HJ (I.w x),I.f x,Gg,xT.2 λu b=>decide_eq_true (zM (I.o x u b p c) le),x5]
 .rw[HJ (I.w x)];exact(I.w x).sublist OJ
 .rw[en]at a ⊢;rw[Gk]at a;split at a
  .rw[List.take_take,qv (kG ‹_›)];exact I.n k q a
  .exact bU a
def NI.take(I:NI off (p::cs) fl):NI (λx=>off x++fT x [p]) cs fl:=by
 have b:=jr.1 I.s;refine⟨λx=>?_,I.w,λk q a=>?_,λx u hu q a=>?_,b.2⟩
 .rw[I.f x,wO,<- Js];rfl
 .rw[I.n (k+1) q a];exact qo λx _=>by rw[wO,<- Js];rfl
 .rcases eh.1 hu with hu|hu
  .exact I.o x u hu q<|eK _ a
  .obtain⟨r,hr,e⟩:=AF hu;rw[<- e,a'.1 hr];exact b.1 _<|bp.2 ⟨q,a,rfl⟩
def BK{C9:Int}{ns:List '+'}:mH fl row t x=fl x++fT x [(t,pc,row,ns,C9)]:=by
 unfold mH fT;rw[mR];cases e:aH.fx row with
 |none=>exact(nP _).symm|some y=>
  dsimp only;unfold lW;by_cases c:x=y
  .simp_all
  .rw[if_neg c,if_neg λw=>c (cR w).symm];exact(nP _).symm
theorem NI.F0{C9:Int}(I:NI off cs fl)(h1:∀x,∀u∈fl x,u<t)(h2:∀p∈cs,p.1<t):NI off (cs++[(t,pc,row,row.cQ.map λx=>(fl x).getLast?,C9)]) (mH fl row t):=by
 refine⟨λx=>?_,λx=>?_,λk q hq=>?_,λx u a q hq=>?_,?_⟩
 .rw[BK,Js,<- wO,<- I.f x]
 .rw[BK (pc:=pc) (C9:=C9) (ns:=[])];refine y7.2 ⟨I.w x,?_,λu a v b=>?_⟩
  .unfold fT;rw[mR];split
   .exact .nil
   .simp_all
  .obtain⟨r,hr,e⟩:=AF b;rw[<- e,a'.1 hr];exact h1 x u a
 .by_cases c:k<B3 cs
  .rw[sS c]at hq;rw[PD (kG c)];exact I.n k q hq
  .rw[ym (Gx c)]at hq;have d:=(dk.1 hq).1;have f:k=B3 cs:=by rw[Te]at d;lia
   subst f;rw[Ua]at hq;cases hq;rw[PF rfl];exact qo λx _=>by rw[<- I.f x]
 .rcases eh.1 hq with hq|hq
  .exact I.o x u a q hq
  .rw[a'.1 hq];exact h1 x u (by rw[I.f x];exact uM _ a)
 .rw[eR];refine y7.2 ⟨I.s,Gu ..,λu a v b=>?_⟩;obtain⟨p,g,rfl⟩:=bp.1 a;rw[a'.1 b];exact h2 p g
structure Yc(Y:Mo->Prop):Prop where
 u:∀{m m':Mo},m'.ac.map Sl.cr=m.ac.map Sl.cr->m'.fl=m.fl->Y m->Y m'
 c:∀{m:Mo}{t:Int},(∃s∈m.ac,s.tk<=t)->Y m->Y (m.E7 t)
end
def Sl.dn(am:Int)(s:Sl):Prop:=qw s.fi=aB/\s.ft am=aD
def cJ(s:Sl):Option (Int×AG×AG):=match s.row with
 |.store _ _ d=>aA (s.tk,((s.ws[1]?).join).map (·+d),(s.ws[0]?).join)
 |_=>aD
def vJ{p:Int×AG×AG}(h:cJ s=aA p):p.1=s.tk:=by unfold cJ at h;split at h<;>cases h;rfl
abbrev jJ(l:A0):Prop:=(l.map (·.tk)).Pairwise (·<·)
def jJ.eq(h:jJ l)(hs:s∈l)(hz:z∈l)(e:z.tk=s.tk):z=s:=by have b:=uH hz h;rw[e]at b;exact cR<|b.symm.trans<|uH hs h
def jJ.ix{k:Nat}(h:jJ l)(hk:l[k]?=aA z)(hs:l[i]?=aA s)(e:z.tk=s.tk):k=i:=by
 have nd:=h.imp yi;have a:(l.map (·.tk))[k]?=aA z.tk:=by left
 have b:(l.map (·.tk))[i]?=aA z.tk:=by left
 obtain⟨ha,a⟩:=dk.1 a;obtain⟨hb,b⟩:=dk.1 b;exact(Gm nd).1 (a.trans b.symm)
def vW(hs:l[i]?=aA s):s'∈l.set i s':=bJ (mB (dk.1 hs).1)
def Pt{k:Nat}(hs:l[i]?=aA s)(hk:(l.set i s')[k]?=aA z):(k=i/\z=s')\/(k≠i/\l[k]?=aA z):=by
 by_cases w:i=k
 .subst w;rw[mB (dk.1 hs).1]at hk;exact .inl ⟨rfl,(cR hk).symm⟩
 .rw[kZ w]at hk;exact .inr ⟨λe=>w e.symm,hk⟩
def vV(h:jJ l)(hs:l[i]?=aA s)(hz:z∈l.set i s'):z=s'\/(z∈l/\z.tk≠s.tk):=by
 obtain⟨k,a⟩:=zP hz;rcases Pt hs a with⟨_,e⟩|⟨ne,e⟩
 .exact .inl e
 .exact .inr ⟨bJ e,λw=>ne (h.ix e hs w)⟩
def og(hs:l[i]?=aA s)(hz:z∈l)(e:z.tk≠s.tk):z∈l.set i s':=by obtain⟨k,a⟩:=zP hz;refine bJ<|(kZ λw=>?_).trans a;grind
def Lx:((l.filterMap cJ).map (·.1)).Sublist (l.map (·.tk)):=by
 induction l with
 |nil=>exact .slnil|cons z l a=>
  rw[mR];split
  .simp_all
  .rw[fJ,vJ ‹_›];exact a.cons_cons _
def W6{f:Int->Bool}:(l.filterMap cJ).filter (λp=>f p.1)=(l.filter λs=>f s.tk).filterMap cJ:=by
 induction l with
 |nil=>rfl|cons z l a=>
  rw[mR,kF];cases e:cJ z with
  |none=>
   rw[a];split
   .simp_all
   .rfl
  |some p=>
   rw[kF,vJ e];split
   .simp_all
   .exact a
def Cm(hs:l[i]?=aA s)(ek:cJ s'=cJ s):(l.set i s').filterMap cJ=l.filterMap cJ:=by
 induction l generalizing i with
 |nil=>rfl|cons z l a=>
  cases i with
  |zero=>cases hs;rw[Ts,mR,mR,ek]|succ i=>rw[Tr,mR,mR,a hs]
def vn{v w:AG×AG}(h:jJ l)(hs:l[i]?=aA s)(e1:cJ s=aA (s.tk,w))(e2:cJ s'=aA (s.tk,v)):(l.set i s').filterMap cJ=eW (l.filterMap cJ) s.tk v/\aX (l.filterMap cJ) s.tk=aA w:=by
 have hm:=j'.2 ⟨s,bJ hs,e1⟩;refine⟨?_,nW ((wN Lx h).imp yi) hm⟩;unfold eW;rw[if_pos (xd.2 ⟨_,hm,decide_eq_true rfl⟩)];clear hm;induction l generalizing i with
 |nil=>cases hs|cons z l c=>
  have a:=jr.1 h;cases i with
  |zero=>cases hs;rw[Ts,mR,mR,e1,e2,fJ,if_pos rfl];refine congrArg _ ((qo λp b=>?_).trans (OU _)).symm;refine if_neg λw=>?_;have:=a.1 p.1 (Lx.subset<|bp.2 ⟨p,b,rfl⟩);rw[w]at this;exact oE _ this
  |succ i=>
   rw[Tr,mR,mR,c a.2 hs];cases e:cJ z with
   |none=>rfl|some p=>rw[fJ,if_neg (by rw[vJ e];exact yi<|a.1 s.tk<|bp.2 ⟨s,bJ hs,rfl⟩)]
def L3{t:Int}(h:jJ l):∃n,l.filter (λs=>decide (s.tk<t))=l.take n:=by
 induction l with
 |nil=>exact⟨0,rfl⟩|cons z l b=>
  have a:=jr.1 h;rw[kF];split
  .obtain⟨n,e⟩:=b a.2;exact⟨n+1,by left⟩
  .rename_i w;refine⟨0,wB.2 λs c y=>w ?_⟩;have:=a.1 s.tk (bp.2 ⟨s,c,rfl⟩);exact decide_eq_true<|kY this<|of_decide_eq_true y
def K8{t:Int}{k:Nat}(h:jJ l)(e:(l.filter<|λs=>decide (s.tk<t))[k]?=aA s):l[k]?=aA s:=by
 obtain⟨n,en⟩:=L3 h;rw[en,Gk]at e;split at e
 .exact e
 .exact bU e
def HI{t:Int}{l:'0'}:(kR t l).Sublist l:=by have:=List.reverse_sublist.2 (OC (λu=>decide (t<=u)) (l:=l.reverse));rw[PC]at this;exact this
def CY{wk:Dc (Int×Int)}{f:Int×Int×Int->Bool}{g:Int}:pD (wk.filter f) g<=pD wk g:=y3.2 (pV.filter _).length_le
def FP{β:Type}{d:Dc β}(h:jJ l)(nd:(d.map (·.1)).Nodup)(hd:∀p∈d,∃s∈l,s.tk=p.1):B3 d<=B3 l:=by
 have:=NV nd λx a=>by obtain⟨p,b,rfl⟩:=bp.1 a;obtain⟨s,c,e⟩:=hd p b;exact bp.2 ⟨s,c,e⟩
 left
def jk{t:Int}(h:mV bg t p=aA b):(∃q∈bg,q.1=b)/\t<b:=by
 unfold mV wc at h;split at h
 .exact bU h
 .rename_i w;cases h;obtain⟨q,a,e⟩:=bp.1 (Ml λz=>w (by rw[z];rfl));rw[Ti]at a;refine⟨⟨q,a.1,e⟩,?_⟩;have:=a.2;unfold lE at this;rw[bY,decide_eq_true_eq]at this;rw[<- e];exact this.1
def Y7{l:List (Int×AG×AG)}(h:pG p dr l=aA (aA (u,w))):∃q∈l,q.1=u/\q.2.2=aA w:=by
 induction l with
 |nil=>cases h|cons q l a=>
  obtain⟨t,sp,v⟩:=q;unfold pG at h;split at h
  .exact bU h
  .split at h
   .simp_all
   .obtain⟨q,b,e⟩:=a h;exact⟨q,eK _ b,e⟩
section
variable {nw nw' tks':Int}{K K':Int->Prop}
def ox(c:Cf)(g:Int):Int:=(c.tb.getD g.toNat (1,1)).1
def Mo.yY(m:Mo)(u:Int):Prop:=∃z∈m.ac,z.tk=u/\qw (cJ z)=aB
structure oX(c:Cf)(nw aY:Int)(K:Int->Prop)(eC:Dc Int)(bg:Dc (Int×AG))(s:Sl):Prop where
 t0:0<=s.tk
 t1:s.tk<aY
 p0:0<=s.pc
 hr:c.rs[s.pc.toNat]?=aA s.row
 wl:B3 s.ws=s.row.nw
 nl:B3 s.bI=s.row.nw
 wo:∀w,aA w∈s.ws->wd w
 nm:∀u,aA u∈s.bI->u<s.tk
 hw:∀w,s.eG=aA w->wd w
 pu:s.C9<=nw
 s0:s.st=aD->s.fi=aD/\s.src=aD
 s1:∀τ,s.st=aA τ->s.C9<τ/\τ<=nw/\aD∉s.ws
 f1:∀φ,s.fi=aA φ->φ<=nw/\∃τ,s.st=aA τ/\φ=τ+vZ c.tb s.row
 sr:∀u,s.src=aA u->(u<s.tk/\K u)\/qw (aX eC u)=aB
 ld:∀x y d,s.row = .load x y d->qw s.st=aB->0<=cell s.wi 0+d/\cell s.wi 0+d<c.am->qw s.eG=aB/\∃e,(s.tk,e)∈bg
 of:s.of=aD
def oX.go(i:oX c nw aY K eC bg s)(hn:nw<=nw')(ht:aY<=tks')(hs:∀u,(u<s.tk/\K u)\/qw (aX eC u)=aB->(u<s.tk/\K' u)\/qw (aX gon' u)=aB)(hb:∀e,(s.tk,e)∈bg->(s.tk,e)∈bg'):oX c nw' tks' K' gon' bg' s:=
 ⟨i.t0,zM i.t1 ht,i.p0,i.hr,i.wl,i.nl,i.wo,i.nm,i.hw,sR i.pu hn,i.s0,λb e=>have z:=i.s1 b e;⟨z.1,sR z.2.1 hn,z.2.2⟩,λf e=>have z:=i.f1 f e;⟨sR z.1 hn,z.2⟩,λu e=>hs u (i.sr u e),λx y d e a p=>have z:=i.ld x y d e a p;⟨z.1,z.2.imp λ_=>hb _⟩,i.of⟩
structure MI(c:Cf)(ts:AW)(G:Nat->Nat->Int->Prop)(e:Int)(m:Mo):Prop where
 so:jJ m.ac
 sl:∀s∈m.ac,oX c e m.aY m.yY m.eC m.bg s
 sz:(B3 m.ac:Int)<=c.sz
 wn:(m.wk.map (·.1)).Nodup
 w1:∀p∈m.wk,e<p.2.2/\∃s∈m.ac,s.tk=p.1/\s.fi=aD/\p.2.1=s.row.jL/\∃τ,s.st=aA τ/\p.2.2=τ+vZ c.tb s.row
 w2:∀s∈m.ac,qw s.st=aB->s.fi=aD->s.tk∈ts\/∃p∈m.wk,p.1=s.tk
 w3:∀g,pD m.wk g<=ox c g
 tn:ts.Nodup
 td:∀s∈m.ac,s.tk∈ts->s.fi=aD/\∃τ,s.st=aA τ/\τ+vZ c.tb s.row=m.nw
 kp:m.kp=m.ac.filterMap cJ
 bn:(m.bg.map (·.1)).Nodup
 b1:∀p∈m.bg,∃s∈m.ac,s.tk=p.1/\tK s.row=aB/\qw s.st=aB
 fl:∀x,(∀u∈m.fl x,u<m.aY)/\(B3 (m.fl x):Int)<=m.aY
 sd:m.sd.ok
 rm:c.am=B3 m.sd.mem
 st:∀p∈m.iE,qw (aX m.eC p.2)=aB
 l1:B3 m.iE<=B3 m.bS
 l2:B3 m.eC<=B3 m.bS
 ah:0<=m.ah
 t0:0<=m.aY
 nb:∀k s l u,m.ac[k]?=aA s->s.bI[l]?=aA (aA u)->(∃z∈m.ac,z.tk=u/\¬z.dn c.am)\/G k l u->s.ws[l]?=aA aD
def MI.weak(I:MI c ts G e m)(h:∀k l u,G' k l u->G k l u):MI c ts G' e m:={ I with nb:=λk s l u a b w=>I.nb k s l u a b (w.imp id<|h k l u) }
def MI.jj(I:MI c ts G e m)(h:0<=a):MI c ts G e { m with ah:=a }:=⟨I.so,I.sl,I.sz,I.wn,I.w1,I.w2,I.w3,I.tn,I.td,I.kp,I.bn,I.b1,I.fl,I.sd,I.rm,I.st,I.l1,I.l2,h,I.t0,I.nb⟩
theorem MI.E7{t:Int}(I:MI c ts G e m):MI c ts G e (m.E7 t):=by
 have kf:∀{β:Type}{d:Dc β}{p:Int×β},p∈d->p.1<t->p∈d.filter λp=>!decide (t<=p.1):=λj hl=>gi.2 ⟨j,by left⟩;have v:∀{β:Type}{d:Dc β}{p:Int×β},(p∈d.filter λp=>!decide (t<=p.1))->p∈d/\p.1<t:=λj=>by left
 have o:∀{s},s∈m.ac->s.tk<t->s∈(m.E7 t).ac:=λi hl=>gi.2 ⟨i,decide_eq_true hl⟩;have n:∀{s},s∈(m.E7 t).ac->s∈m.ac/\s.tk<t:=λi=>by have:=gi.1 i;left
 refine⟨wN (pV.map _) I.so,λs i=>?_,sR (y3.2 (zR ..)) I.sz,pH I.wn,λp j=>?_,λs i a b=>?_,λg=>sR CY (I.w3 g),I.tn,λs i=>I.td s (n i).1,?_,pH I.bn,λp j=>?_,λx=>⟨λu q=>(I.fl x).1 u (HI.subset q),sR (y3.2 HI.length_le) (I.fl x).2⟩,I.sd,I.rm,I.st,I.l1,I.l2,I.ah,I.t0,λk s l u a b w=>I.nb k s l u (K8 I.so a) b (w.imp (λ⟨z,r,w⟩=>⟨z,(n r).1,w⟩) id)⟩
 .obtain⟨i,hl⟩:=n i;refine(I.sl s i).go (gZ _) (gZ _) (λu q=>q.imp (λ⟨a,b⟩=>⟨a,?_⟩) id) λe he=>kf he hl;obtain⟨z,r,e,b⟩:=b;exact⟨z,o r (by rw[e];exact kY a hl),e,b⟩
 .obtain⟨j,hl⟩:=v j;obtain⟨a,s,i,e,b⟩:=I.w1 p j;exact⟨a,s,o i (e▸hl),e,b⟩
 .obtain⟨i,hl⟩:=n i;exact(I.w2 s i a b).imp id λ⟨p,j,e⟩=>⟨p,kf j (e▸hl),e⟩
 .show m.kp.filter _=(m.ac.filter _).filterMap cJ;rw[I.kp,W6 (f:=λx=>!decide (t<=x))];refine congrArg _<|Sy λs _=>?_;by_cases h:s.tk<t
  .rw[decide_eq_true h,decide_eq_false (x9.2 h)];rfl
  .rw[decide_eq_false h,decide_eq_true (vD.1 h)];rfl
 .obtain⟨j,hl⟩:=v j;obtain⟨s,i,e,b⟩:=I.b1 p j;exact⟨s,o i (e▸hl),e,b⟩
def W5(er:s'.row=s.row):qw (cJ s')=qw (cJ s):=by unfold cJ;rw[er];split<;>rfl
theorem MI.set{ts':'0'}{wk':Dc (Int×Int)}{kp':Dc (AG×AG)}{a:Int}(I:MI c ts G e m)(hs:'5')(et:s'.tk=s.tk)(er:s'.row=s.row)(en:s'.bI=s.bI)(S:oX c e m.aY m.yY m.eC bg' s')
  (wn:(wk'.map (·.1)).Nodup) (w1:∀p∈wk',(p∈m.wk/\p.1≠s.tk)\/(e<p.2.2/\s.tk=p.1/\s'.fi=aD/\p.2.1=s.row.jL/\∃τ,s'.st=aA τ/\p.2.2=τ+vZ c.tb s.row)) (w2:∀p∈m.wk,p∈wk') (w3:∀g,pD wk' g<=ox c g) (w4:qw s'.st=aB->s'.fi=aD->∃p∈wk',p.1=s.tk)
  (tn:ts'.Nodup) (t1:∀t∈ts,t≠s.tk->t∈ts') (td:∀t∈ts',t∈ts/\t≠s.tk) (kp:kp'=(m.ac.set i s').filterMap cJ)
  (bn:(bg'.map (·.1)).Nodup) (b1:∀p∈bg',p∈m.bg\/(p.1=s.tk/\tK s.row=aB/\qw s'.st=aB)) (b2:∀p∈m.bg,p∈bg') (b3:qw s.st=aB->qw s'.st=aB) (ha:0<=a)
  (nd:¬s'.dn c.am->¬s.dn c.am) (hG:∀k l u,G' k l u->(∃z∈m.ac,z.tk=u/\¬z.dn c.am)\/G k l u) (hw:∀l u,s.bI[l]?=aA (aA u)->s.ws[l]?=aA aD->(∃z∈m.ac,z.tk=u/\¬z.dn c.am)\/G' i l u->s'.ws[l]?=aA aD) :
  MI c ts' G' e { m with ac:=m.ac.set i s',wk:=wk',kp:=kp',bg:=bg',ah:=a }:=by
 have hm:=bJ hs;have old:∀{z},z∈m.ac->z≠s->z∈m.ac.set i s':=λf h=>og hs f λw=>h (I.so.eq hm f w);have cs:∀{z},z∈m.ac.set i s'->z=s'\/(z∈m.ac/\z.tk≠s.tk):=λf=>vV I.so hs f;have st:∀u,m.yY u->({ m with ac:=m.ac.set i s',wk:=wk',kp:=kp',bg:=bg',ah:=a }:Mo).yY u:=λu ⟨z,f,e,b⟩=>by
  by_cases w:z=s
  .exact⟨s',vW hs,by grind,by rw[W5 er,<- w];exact b⟩
  .exact⟨z,old f w,e,b⟩
 refine⟨by show(yp _<|m.ac.set i s').Pairwise _;rw[nC hs et];exact I.so,λz f=>?_,by show(B3 (m.ac.set i s'):Int)<=_;rw[sT];exact I.sz,wn,λp o=>?_,λz f a b=>?_,w3,tn,λz f ht=>?_,kp,bn,λp o=>?_,I.fl,I.sd,I.rm,I.st,I.l1,I.l2,ha,I.t0,λk z l u r hn w=>?_⟩
 .have go:∀{z},oX c e m.aY m.yY m.eC bg' z->oX c e m.aY ({ m with ac:=m.ac.set i s',wk:=wk',kp:=kp',bg:=bg',ah:=a }:Mo).yY m.eC bg' z:=λS=>S.go (gZ _) (gZ _) (λu B=>B.imp (λw=>⟨w.1,st u w.2⟩) id) λ_=>id;rcases cs f with rfl|⟨f,_⟩
  .exact go S
  .exact go<|(I.sl z f).go (gZ _) (gZ _) (λ_=>id) λe=>b2 _
 .rcases w1 p o with⟨o,ne⟩|⟨n,j,q,C,D⟩
  .obtain⟨n,z,f,j,q⟩:=I.w1 p o;exact⟨n,z,og hs f (j▸ne),j,q⟩
  .exact⟨n,s',vW hs,et.trans j,q,er▸C,er▸D⟩
 .rcases cs f with rfl|⟨f,ne⟩
  .rw[et];exact .inr<|w4 a b
  .exact(I.w2 z f a b).imp (λh=>t1 _ h ne) λ⟨p,o,e⟩=>⟨p,w2 p o,e⟩
 .obtain⟨n,j⟩:=td _ ht;rcases cs f with rfl|⟨f,ne⟩
  .exact absurd et j
  .exact I.td z f n
 .rcases b1 p o with o|⟨n,j,q⟩
  .obtain⟨z,f,n,j,q⟩:=I.b1 p o;by_cases w:z=s
   .subst w;exact⟨s',vW hs,et.trans n,er▸j,b3 q⟩
   .exact⟨z,old f w,n,j,q⟩
  .exact⟨s',vW hs,et.trans n.symm,er▸j,q⟩
 .have x:(∃z∈m.ac,z.tk=u/\¬z.dn c.am)\/G' k l u:=w.imp (λ⟨y,v,e,d⟩=>by
   rcases cs v with rfl|⟨v,_⟩
   .exact⟨s,hm,et.symm.trans e,nd d⟩
   .exact⟨y,v,e,d⟩) id
  have A:=x.elim .inl (hG k l u);rcases Pt hs r with⟨rfl,rfl⟩|⟨ne,r⟩
  .rw[en]at hn;exact hw l u hn (I.nb k s l u hs hn A) x
  .exact I.nb k z l u r hn A
end
def MI.Et(I:MI c ts G e m)(hm:s∈m.ac)(ni:aD∈s.ws):s.st=aD/\s.fi=aD/\s.src=aD:=by
 have S:=I.sl s hm;have st:s.st=aD:=by
  cases e:s.st with
  |none=>rfl|some a=>exact absurd ni (S.s1 a e).2.2
 exact⟨st,S.s0 st⟩
def MI.Ni(I:MI c ts G e m)(hm:s∈m.ac)(st:s.st=aD):s.tk∉ts/\∀p∈m.wk,p.1≠s.tk:=by
 refine⟨λh=>?_,λp b w=>?_⟩
 .obtain⟨_,d,e,_⟩:=I.td s hm h;rw[st]at e;cases e
 .obtain⟨_,z,f,g,_,_,d,a,_⟩:=I.w1 p b;rw[I.so.eq hm f (g.trans w),st]at a;exact bU a
theorem MI.wq{b:Int}(I:MI c ts G e m):0<=wq (m.D9 b):=by
 cases h:m.D9 b with
 |none=>exact gZ _|some z=>exact(I.sl z<|wQ h).p0
def nA{d:Int}(er:s.row = .store x y d):cJ s=aA (s.tk,((s.ws[1]?).join).map (·+d),(s.ws[0]?).join):=by unfold cJ;rw[er]
def MI.gv(I:MI c ts G e m)(hs:'5')(hj:s.ws[j]?=aA aD):ak m s j:=by
 refine⟨(I.Et (bJ hs)<|bJ hj).2.1,(dk.1 hj).1,λx y d a=>?_,λt p b f=>?_⟩
 .refine⟨_,by rw[I.kp];exact(vn I.so hs (nA a)<|nA a).2,λe=>?_,λe=>?_⟩
  .simp_all
  .simp_all
 .obtain⟨⟨q,g,e⟩,_⟩:=jk f;obtain⟨s,hs,h,_⟩:=I.b1 q g;exact⟨s,by rw[<- e,<- h];exact uH hs I.so⟩
def MI.word(I:MI c ts G e m)(hs:'5')(hj:s.ws[j]?=aA aD)(hw:wd w)(hg:∀k l u,G' k l u->G k l u)(hn:∀u,s.bI[j]?=aA (aA u)->(∀z∈m.ac,z.tk=u->z.dn c.am)/\¬G' i j u):MI c ts G' e { m with ac:=m.ac.set i { s with ws:='A' },kp:=(m.ac.set i { s with ws:='A' }).filterMap cJ }:=by
 have hm:=bJ hs;have S:=I.sl s hm;obtain⟨st,fi,sr⟩:=I.Et hm (bJ hj);obtain⟨n1,n2⟩:=I.Ni hm st;have ns:∀{p:Prop},qw s.st=aB->p:=λh=>by left
 refine I.set hs rfl rfl rfl ⟨S.t0,S.t1,S.p0,S.hr,by show 'A'.length=_;rw[sT];exact S.wl,S.nl,λv hv=>?_,S.nm,S.hw,S.pu,S.s0,λτ e=>ns (by rw[show s.st=aA τ from e];rfl),S.f1,S.sr,λx y d _ h=>ns h,S.of⟩ I.wn (λp hp=>.inl ⟨hp,n2 p hp⟩) (λ_=>id) I.w3 (λh=>ns h) I.tn (λ_ h _=>h) (λt h=>⟨h,λw=>n1 (w▸h)⟩) rfl I.bn (λ_=>.inl) (λ_=>id) id I.ah (λ_ h=>by have:=h.1;rw[fi]at this;cases this) (λk l u h=>.inr (hg k l u h)) λl u a b w'=>?_
 .rcases Gr hv with h|h
  .exact S.wo v h
  .cases h;exact hw
 .by_cases h:j=l
  .subst h;obtain⟨h1,h2⟩:=hn u a;exact(w'.elim (λ⟨z,hz,e,d⟩=>d (h1 z hz e)) h2).elim
  .exact(kZ h).trans b
theorem MI.E1(I:MI c ts G e m)(hs:'5')(hj:s.ws[j]?=aA aD)(hw:wd w)(hg:∀k l u,G' k l u->G k l u)(hn:∀u,s.bI[j]?=aA (aA u)->(∀z∈m.ac,z.tk=u->z.dn c.am)/\¬G' i j u):MI c ts G' e (m.E1 i j w):=by
 have W:=I.word hs hj hw hg hn;have jl:=(dk.1 hj).1;unfold Mo.E1;rw[hs];dsimp only;split
 .rename_i x y d ev a b;have nl:B3 s.ws=2:=by rw[(I.sl s<|bJ hs).wl,a];rfl
  have key:∀v,cJ { s with ws:='A' }=aA (s.tk,v)->(MI c ts G' e { m.cO i { s with ws:='A' }with kp:=eW m.kp s.tk v }/\ev=(((s.ws[1]?).join).map (·+d),(s.ws[0]?).join)):=λv g=>by obtain⟨k1,k2⟩:=vn I.so hs (nA a) g;rw[k1,<- I.kp]at W;rw[<- I.kp,b]at k2;exact⟨W,cR k2⟩
  split
  .rename_i h;subst h;obtain⟨K,rfl⟩:=key _ ((nA (s:={ s with ws:=s.ws.set 0 (aA w) }) a).trans (by show aA (s.tk,((s.ws.set 0<|aA w)[1]?).join.map (·+d),((s.ws.set 0<|aA w)[0]?).join)=_;rw[kZ '#',mB jl]));exact K
  .rename_i h;have:j=1:=by lia
   subst this;obtain⟨K,rfl⟩:=key _ ((nA (s:={ s with ws:=s.ws.set 1 (aA w) }) a).trans (by show aA (s.tk,((s.ws.set 1<|aA w)[1]?).join.map (·+d),((s.ws.set 1<|aA w)[0]?).join)=_;rw[mB jl,kZ '#']));unfold Mo.F4;split
   .exact K
   .exact(K.jj W.wq).E7
 .rename_i f;have b:(m.ac.set i { s with ws:='A' }).filterMap cJ=m.kp:=(Cm hs (by
   unfold cJ;split
   .rename_i x y d a;exact absurd (by rw[I.kp];exact(vn I.so hs (nA a)<|nA a).2)<|f x y d _ a
   .rfl)).trans I.kp.symm
  rw[b]at W;exact W
def O6(hp:jJ m.ac)(hs:'5')(hz:z∈m.ac)(hl:z.tk<s.tk):z∈(m.E1 i j w).ac:=by
 have a:z∈m.ac.set i { s with ws:='A' }:=og hs hz (yi hl);unfold Mo.E1;rw[hs];dsimp only;split
 .split
  .exact a
  .unfold Mo.F4;split
   .exact a
   .exact gi.2 ⟨a,decide_eq_true (kY hl (jk ‹_›).2)⟩
 .exact a
def Mo.ct(m:Mo):Int×Int×AY×Bool×Sd:=(m.nw,m.aY,m.bS,m.brk,m.sd)
def Kw:(m.E1 i j w).ct=m.ct:=by
 unfold Mo.E1;split
 .rfl
 .split
  .split
   .rfl
   .unfold Mo.F4;split<;>rfl
  .rfl
theorem Yc.E1{Y:Mo->Prop}(H:Yc Y)(hs:'5')(y:Y m):Y (m.E1 i j w):=by
 have e:(m.ac.set i { s with ws:='A' }).map Sl.cr=m.ac.map Sl.cr:=nC hs rfl;unfold Mo.E1;rw[hs];dsimp only;split
 .split
  .exact H.u e rfl y
  .unfold Mo.F4;split
   .exact H.u e rfl y
   .exact H.c ⟨_,vW hs,qj (jk ‹_›).2⟩<|H.u e rfl y
 .exact H.u e rfl y
def MI.gl(I:MI c ts G e m)(hs:'5')(hl:B3 m.ac=i+1):(m.E1 i j w).ac.map Sl.cr=m.ac.map Sl.cr/\(m.E1 i j w).fl=m.fl:=by
 have e:(m.ac.set i { s with ws:='A' }).map Sl.cr=m.ac.map Sl.cr:=nC hs rfl;unfold Mo.E1;rw[hs];dsimp only;split
 .split
  .exact⟨e,rfl⟩
  .unfold Mo.F4;split
   .exact⟨e,rfl⟩
   .obtain⟨⟨q,a,eq⟩,lt⟩:=jk ‹_›;obtain⟨z,b,d,_⟩:=I.b1 q a;obtain⟨k,f⟩:=zP b;obtain⟨kl,g⟩:=dk.1 f;obtain⟨l,h⟩:=dk.1 hs;rcases Nat.lt_or_eq_of_le (PN<|hl▸kl)with c|c
    .have:=List.pairwise_iff_getElem.1 I.so k i (by rw[aU];exact kl) (by left) c;rw[OR,OR,g,h,d,eq]at this;exact absurd this<|Int.lt_asymm lt
    .grind
 .exact⟨e,rfl⟩
section
variable {nw:Int}{K:Int->Prop}
structure jW(c:Cf):Prop where
 rs:∀r∈c.rs,nZ r
 tb:Wr c.tb
 sz:c.sz<=32
 w0:1<=c.wd
 w8:c.wd<=8
 rm:c.am<=80
def MZ(S:oX c nw aY K eC bg s):jS s.wi:=λx a=>by
 obtain⟨o,b,rfl⟩:=bp.1 a;cases o with
 |none=>exact⟨'#','#'⟩|some v=>exact S.wo v b
def yd(h:aD∉s.ws):s.ws=s.wi.map aA:=by
 unfold Sl.wi;rw[iP];refine((qo λo ho=>?_).trans (OU _)).symm;cases o with
 |none=>left|some v=>rfl
def oX.ok(S:oX c nw aY K eC bg s)(X:jW c):nZ s.row:=X.rs _ (bJ S.hr)
def Az(S:oX c nw aY K eC bg s)(X:jW c)(h:s.d3 c.am=aA w):wd w:=by
 have ww:=MZ S;have key:∀r,nZ r->aH.ft s.wi c.am r=aD->aH.Iq s.wi s.eG r=aA w->wd w:=λr ok f h=>by
  cases r with
  |way v x y z=>
   cases h;have a:=nS ww (i:=0);have b:=nS ww (i:=1);exact Rr a.1 a.2 b.1 b.2 λe=>by have f:cond v.sr (if cell s.wi 1=0 then aA (AV.tup [.str "nought",.int (cell s.wi 0)]) else aD) aD=aD:=f;grind
  |set x v=>cases h;exact ok.2|move x y=>cases h;exact nS ww|load x y d=>exact S.hw w h|store x y d=>cases h;exact nS ww|_=>exact bU h
 unfold Sl.d3 nF Sl.ft at h;split at h
 .exact key _ (S.ok X) ‹_› h
 .exact bU h
def CZ(ok:nZ r)(h:0<=p):0<=r.gs p ws:=by
 cases r with
 |go t=>exact ok|dA x t=>show 0<=ite _ _ _;split;exact ok.2;lia|_=>show 0<=p+1;lia
end
section
variable {t nw:Int}{K:Int->Prop}
abbrev nG:Nat->Nat->Int->Prop:=λ_ _ _=>False
def DP(h:s.d1 c.am=aA w):s.ft c.am=aD/\aH.fx s.row=aA w:=by
 unfold Sl.d1 nF at h;split at h
 .exact⟨‹_›,h⟩
 .exact bU h
def Je(S:oX c nw aY K eC bg s)(st:qw s.st=aB)(f:s.ft c.am=aD)(h:qw (aH.fx s.row)=aB\/qw (cJ s)=aB):∃w,s.d3 c.am=aA w:=by
 have ld:=S.ld;unfold Sl.d3;rw[f];unfold Sl.ft at f;unfold cJ at h;revert h f ld
 cases s.row with
 |load x y d=>
  intro f _ ld;have f:(if 0<=cell s.wi 0+d/\cell s.wi 0+d<c.am then aD else aA (AV.tup [.str "place",.int (cell s.wi 0+d)]))=aD:=f;by_cases a:0<=cell s.wi 0+d/\cell s.wi 0+d<c.am
  .exact i'.1 (ld x y d rfl st a).1
  .rw[if_neg a]at f;cases f
 |dA x t=>intro _ h _;rcases h with h|h<;>cases h
 |go t=>intro _ h _;rcases h with h|h<;>cases h
 |fault v=>intro f;cases f|_=>exact λ_ _ _=>⟨_,rfl⟩
def MI.fin(I:MI c (t::ts) nG m.nw m)(hs:'5')(et:s.tk=t):MI c ts (λ_ _ u=>u=s.tk) m.nw (m.cO i { s with fi:=aA m.nw }):=by
 have hm:=bJ hs;have S:=I.sl s hm;obtain⟨fi,q,st,r⟩:=I.td s hm (by left);have tn:=tx.1 I.tn;have nd:¬s.dn c.am:=λh=>by have:=h.1;rw[fi]at this;exact ff this
 refine I.set hs rfl rfl rfl ⟨S.t0,S.t1,S.p0,S.hr,S.wl,S.nl,S.wo,S.nm,S.hw,S.pu,λh=>(by rw[show s.st=aD from h]at st;exact bU st),S.s1,λv h=>?_,S.sr,S.ld,S.of⟩ I.wn (λp e=>.inl ⟨e,λw=>?_⟩) (λ_=>id) I.w3 (λ_ h=>nomatch h) tn.2 (λu d ne=>(dT.1 d).resolve_left λw=>ne (w.trans et.symm)) (λu d=>⟨eK _ d,λw=>tn.1 (by left)⟩) (I.kp.trans (Cm (s':={ s with fi:=aA m.nw }) hs rfl).symm) I.bn (λ_=>.inl) (λ_=>id) id I.ah (λ_=>nd) (λk l u h=>.inl ⟨s,hm,h.symm,nd⟩) λl u a b x=>b
 .simp_all
 .obtain⟨y,z,f,g,_,_,j,n,o⟩:=I.w1 p e;rw[I.so.eq hm f (g.trans w)]at n o;left
end
section
variable {t:Int}
def MI.u0(I:MI c [] nG (m.nw-1) m):MI c (lK aJ<|rP m.wk m.nw) nG m.nw { m with wk:=m.wk.filter λp=>!decide (p.2.2<=m.nw) }:=by
 have pm:=Qa aJ (rP m.wk m.nw);have i:∀{p:Int×Int×Int},(p∈m.wk.filter λp=>!decide (p.2.2<=m.nw))↔p∈m.wk/\m.nw<p.2.2:=λ{p}=>by left
 refine⟨I.so,λs f=>(I.sl s f).go (by lia) (gZ _) (λ_=>id) λ_=>id,I.sz,pH I.wn,λp d=>⟨(i.1 d).2,(I.w1 p (i.1 d).1).2⟩,λs f a b=>?_,λg=>sR CY (I.w3 g),pm.nodup_iff.2 (pH I.wn),λs f ht=>?_,I.kp,I.bn,I.b1,I.fl,I.sd,I.rm,I.st,I.l1,I.l2,I.ah,I.t0,I.nb⟩
 .rcases I.w2 s f a b with h|⟨p,d,e⟩
  .cases h
  .by_cases w:p.2.2<=m.nw
   .exact .inl<|pm.mem_iff.2<|bp.2 ⟨p,gi.2 ⟨d,decide_eq_true w⟩,e⟩
   .exact .inr ⟨p,i.2 ⟨d,x9.1 w⟩,e⟩
 .obtain⟨p,d,e⟩:=bp.1 (pm.mem_iff.1 ht);obtain⟨d,w⟩:=gi.1 d;obtain⟨r,z,l,n,j,_,o,k,q⟩:=I.w1 p d;have w:=of_decide_eq_true w;rw[I.so.eq f l (n.trans e)]at j k q;exact⟨j,o,k,by grind⟩
def fh{β:Type}{l:Dc β}(h:∀p∈l,p.1≠x):aX l x=aD:=by unfold aX;rw[y6.2 λp a z=>h p a (of_decide_eq_true z)];rfl
def P5{r:aH}:∃n:Nat,n<5/\r.jL=n:=by
 cases r with
 |way w=>cases w<;>first|exact⟨0,by decide,rfl⟩|exact⟨1,by decide,rfl⟩|exact⟨2,by decide,rfl⟩
 |load=>exact⟨3,'#',rfl⟩|store=>exact⟨3,'#',rfl⟩|set=>exact⟨0,'#',rfl⟩|move=>exact⟨0,'#',rfl⟩|_=>exact⟨4,'#',rfl⟩
def aSf(X:jW c):cZ (c.tb.map eZ) r.jL=aA (eZ (ox c r.jL,vZ c.tb r))/\1<=vZ c.tb r:=by
 obtain⟨h1,a⟩:=X.tb;obtain⟨n,hn,e⟩:=@P5 r;have hl:n<B3 c.tb:=by lia
 have b:c.tb.getD n (1,1)=c.tb[n]:=by left
 unfold ox vZ;rw[e,uL,b];exact⟨L2.xP (by left),(a _<|Ta hl).2.1⟩
def P6{wk:Dc (Int×Int)}{p:Int×Int×Int}{g:Int}:pD (wk++[p]) g=pD wk g+if p.2.1=g then 1 else 0:=by
 unfold pD;rw[Gg,dU];congr 1
 by_cases h:p.2.1=g
 .rw[if_pos h,kF,decide_eq_true h];rfl
 .rw[if_neg h,kF,decide_eq_false h];rfl
theorem MI.tT{l:Option (Int×AG×Int)}(I:MI c ts G e m)(h:m.tT c.am s=aA l):(l=aD/\∀x y d,s.row = .load x y d->¬(0<=cell s.wi 0+d/\cell s.wi 0+d<c.am))\/∃p u w,l=aA (p,u,w)/\tK s.row=aB/\wd w/\∀v,u=aA v->(v<s.tk/\m.yY v)\/qw (aX m.eC v)=aB:=by
 unfold Mo.tT at h;split at h
 .rename_i x y d n;have g:tK s.row=aB:=by rw[n];rfl
  split at h
  .split at h
   .cases h
   .cases h;exact .inr ⟨_,_,_,rfl,g,nS I.sd.mw,λv b=>.inr (I.st _<|lx b)⟩
   .rename_i u w hl;cases h;obtain⟨q,f,j,o⟩:=Y7 hl;rw[xS,Ti,I.kp]at f;obtain⟨z,k,a⟩:=j'.1 f.1;refine .inr ⟨_,_,_,rfl,g,?_,λv b=>.inl ⟨?_,z,k,?_,by rw[a];rfl⟩⟩
    .unfold cJ at a;split at a
     .cases a;exact(I.sl z k).wo w (bJ (i:=0)<|x6.1 o)
     .cases a
    .cases b;rw[<- j];exact of_decide_eq_true f.2
    .cases b;rw[<- (vJ a),j]
  .simp_all
 .simp_all
def KP{t:Int×Int}:(m.start c t i s).ct=m.ct:=by
 unfold Mo.start;split
 .split<;>rfl
 .rfl
theorem Yc.start{Y:Mo->Prop}(H:Yc Y){t:Int×Int}(hs:'5')(y:Y m):Y (m.start c t i s):=by
 unfold Mo.start;split
 .split
  .exact y
  .rename_i l _;exact H.u (nC hs (by cases l<;>rfl)) rfl y
 .exact y
theorem MI.start(X:jW c)(I:MI c [] nG m.nw m)(hs:'5')(hp:s.C9<m.nw)(st:s.st=aD)(hw:s.ws.all qw=aB) :
  ∃t,Ac c m s/\cZ (c.tb.map eZ) s.row.jL=aA (eZ t)/\aX m.wk s.tk=aD/\B3 m.wk<63/\MI c [] nG m.nw (m.start c t i s):=by
 have hm:=bJ hs;have S:=I.sl s hm;obtain⟨fi,sr⟩:=S.s0 st;obtain⟨_,n⟩:=I.Ni hm st;have nn:aD∉s.ws:=λh=>nomatch jX.1 hw aD h;have bg:∀p∈m.bg,p.1≠s.tk:=λp hp w=>by obtain⟨z,o,C,_,B⟩:=I.b1 p hp;rw[I.so.eq hm o (C.trans w),st]at B;exact ff B
 obtain⟨ta,tl⟩:=aSf X;have sz:=I.sz;have:=X.sz;have bl:=FP I.so I.bn λp hp=>(I.b1 p hp).imp λ_ z=>⟨z.1,z.2.1⟩;have wl:=FP I.so I.wn λp hp=>(I.w1 p hp).2.imp λ_ z=>⟨z.1,z.2.1⟩;refine⟨_,⟨fi,yd nn,fh bg,λx y d j=>fh λp hp w=>?_,by lia,I.rm⟩,ta,fh n,by lia,?_⟩
 .rw[I.kp]at hp;obtain⟨z,o,k⟩:=j'.1 hp;rw[I.so.eq hm o ((vJ k).symm.trans w)]at k;unfold cJ at k;rw[j]at k;exact bU k
 unfold Mo.start;split
 .rename_i H;have key:∀src eG (f:Dc (Int×AG)),(∀u,src=aA u->(u<s.tk/\m.yY u)\/qw (aX m.eC u)=aB)->(∀w,eG=aA w->wd w)->(∀x y d,s.row = .load x y d->0<=cell s.wi 0+d/\cell s.wi 0+d<c.am->qw eG=aB/\∃e,(s.tk,e)∈f)->(f.map (·.1)).Nodup->(∀p∈f,p∈m.bg\/(p.1=s.tk/\tK s.row=aB))->(∀p∈m.bg,p∈f) ->
    MI c [] nG m.nw { m.cO i { s with src:=src,eG:=eG,st:=aA m.nw }with bg:=f,wk:=m.wk++[(s.tk,s.row.jL,m.nw+vZ c.tb s.row)] }:=λsrc eG f q r A D E F=>by
   refine I.set hs rfl rfl rfl ⟨S.t0,S.t1,S.p0,S.hr,S.wl,S.nl,S.wo,S.nm,r,S.pu,(nofun),λJ h=>(by cases h;exact⟨hp,gZ _,nn⟩),(λK h=>by grind),q,λx y d j _=>A x y d j,S.of⟩ (Dg I.wn<|fh n) (λp hp=>?_) (λp hp=>uM _ hp) (λg=>?_) (λ_ _=>⟨_,hJ _ (a'.2 rfl),rfl⟩) I.tn (λ_ h=>nomatch h) (λ_ h=>nomatch h) (I.kp.trans (Cm (s':={ s with src:=src,eG:=eG,st:=aA m.nw }) hs rfl).symm) D (λp hp=>(E p hp).imp id λw=>⟨w.1,w.2,rfl⟩) F (λ_=>rfl) I.ah (λ_ h=>by have:=h.1;rw[fi]at this;exact ff this) (λ_ _ _ h=>h.elim) λl u a b L=>b
   .rcases eh.1 hp with hp|hp
    .exact .inl ⟨hp,n p hp⟩
    .cases a'.1 hp;exact .inr ⟨by show m.nw<m.nw+vZ c.tb s.row;omega,rfl,fi,rfl,_,rfl,rfl⟩
   .rw[P6];split
    .grind
    .have:=I.w3 g;omega
  split
  .exact I
  .rename_i l hl;rcases I.tT hl with⟨rfl,h⟩|⟨p,u,w,rfl,q,r,A⟩
   .exact key s.src s.eG m.bg S.sr S.hw (λx y d j G=>absurd G (h x y d j)) I.bn (λ_=>.inl) λ_=>id
   .exact key u (aA w) (m.bg++[(s.tk,p,u)]) A (λv e=>by cases e;exact r) (λx y d j _=>⟨rfl,_,hJ _ (a'.2 rfl)⟩) (Dg I.bn<|fh bg) (λp hp=>(eh.1 hp).imp id λh=>by rw[a'.1 h];exact⟨rfl,q⟩) λp hp=>uM _ hp
 .exact I
end
section
variable {a:Nat}
def Ru(h:nZ r):∀x∈r.cQ,0<=x/\x<8:=by
 cases r with
 |way w x y z=>intro v hv;rcases dT.1 hv with rfl|hv;exact h.2.1;rw[a'.1 hv];exact h.2.2
 |store x y d=>intro v hv;rcases dT.1 hv with rfl|hv;exact h.1;rw[a'.1 hv];exact h.2
 |move x y=>intro v hv;rw[a'.1 hv];exact h.2|load x y d=>intro v hv;rw[a'.1 hv];exact h.2|dA x t=>intro v hv;rw[a'.1 hv];exact h.1|_=>exact λ_ h=>nomatch h
def MI.en(X:jW c)(I:MI c [] nG e m)(hl:(B3 m.ac:Int)<c.sz)(hr:c.rs[m.ah.toNat]?=aA row)(ht:m.aY<9000):ru c m row:=by
 have:=X.sz;refine⟨hr,I.ah,X.rs _ (bJ hr),I.t0,λs d=>(I.sl s d).t1,λy u h=>(I.fl y).1 u (Gq h),λp a=>?_,fh λp a w=>?_,by lia,?_,λx=>?_⟩
 .rw[I.kp]at a;obtain⟨z,b,f⟩:=j'.1 a;rw[vJ f];exact(I.sl z b).t1
 .obtain⟨z,b,g,_⟩:=I.b1 p a;have:=(I.sl z b).t1;left
 .have:=aXe cJ m.ac;rw[I.kp];lia
 .have:=(I.fl x).2;lia
theorem MI.F0(I:MI c [] nG m.nw m)(hl:(B3 m.ac:Int)<c.sz)(hr:c.rs[m.ah.toNat]?=aA row):MI c [] nG m.nw (m.F0 row a):=by
 obtain⟨s0,d⟩:∃s0,s0=m.mN row a:=⟨_,rfl⟩;have ml:∀{z},z∈m.ac->z∈m.ac++[s0]:=λh=>uM _ h;have cs:∀{z},z∈m.ac++[s0]->z∈m.ac\/z=s0:=λh=>(eh.1 h).imp id a'.1;have lt:=λz b=>(I.sl z b).t1;unfold Mo.F0;rw[<- d];have le:m.aY<=m.aY+1:=by lia
 refine⟨?_,λz b=>?_,?_,I.wn,λp i=>?_,λz b h=>?_,I.w3,I.tn,(λ_ _ h=>nomatch h),?_,I.bn,λp i=>(I.b1 p i).imp λz h=>⟨ml h.1,h.2⟩,λx=>?_,I.sd,I.rm,I.st,I.l1,I.l2,I.ah,sR I.t0 le,λk z l u e hn w=>?_⟩
 .show(yp _<|m.ac++[s0]).Pairwise _;rw[eR,Tn];refine⟨I.so,Gu ..,λx n y f=>?_⟩;obtain⟨z,b,rfl⟩:=bp.1 n;rw[a'.1 f,d];exact lt z b
 .rcases cs b with b|rfl
  .exact(I.sl z b).go (gZ _) le (λu hu=>hu.imp (λh=>⟨h.1,h.2.imp λ_ y=>⟨ml y.1,y.2⟩⟩) id) λ_=>id
  .subst d;refine⟨I.t0,qk _,I.ah,hr,Td ..,(aU ..).trans wK,(λw h=>nomatch OF h),λu h=>?_,(nofun),gZ _,λ_=>⟨rfl,rfl⟩,(nofun),(nofun),(nofun),(λ_ _ _ _ h=>nomatch h),rfl⟩;obtain⟨x,_,h⟩:=bp.1 h;exact(I.fl x).1 u (Gq h)
 .show(B3 (m.ac++[s0]):Int)<=_;rw[dU];exact hl
 .obtain⟨o,z,b,h⟩:=I.w1 p i;exact⟨o,z,ml b,h⟩
 .rcases cs b with b|rfl
  .exact I.w2 z b h
  .rw[d]at h;exact ff h
 .show lq m.kp row m.aY=(m.ac++[s0]).filterMap cJ;rw[OG,<- I.kp];subst d;cases row<;>first|rfl|exact(nP _).symm
 .show(∀u∈mH m.fl row m.aY x,u<m.aY+1)/\(B3 (mH m.fl row m.aY x):Int)<=m.aY+1;have old:(∀u∈m.fl x,u<m.aY+1)/\(B3 (m.fl x):Int)<=m.aY+1:=⟨λu hu=>zM ((I.fl x).1 u hu) le,sR (I.fl x).2 le⟩;cases j:aH.fx row with
  |some y=>
   rw[show mH m.fl row m.aY=lW m.fl y (m.fl y++[m.aY]) by unfold mH;rw[j]];unfold lW;by_cases h:x=y
   .subst h;rw[if_pos rfl];refine⟨λu hu=>?_,by rw[dU];exact Int.add_le_add_right (I.fl x).2 1⟩;rcases eh.1 hu with hu|hu
    .exact old.1 u hu
    .rw[a'.1 hu];exact qk _
   .simp_all
  |none=>rw[show mH m.fl row m.aY=m.fl by unfold mH;rw[j]];exact old
 .have e:=e;by_cases h:k<B3 m.ac
  .rw[sS h]at e;have b:=bJ e;refine I.nb k z l u e hn<|.inl ?_;obtain⟨y,f,g,q⟩:=w.resolve_right id;rcases cs f with f|rfl
   .exact⟨y,f,g,q⟩
   .have:=(I.sl z b).nm u (bJ hn);have:=lt z b;rw[d]at g;have g:m.aY=u:=g;omega
  .rw[ym (Gx h)]at e;have:=a'.1 (bJ e);subst this;subst d;have hl:=(dk.1 hn).1;show(fB row.nw aD)[l]?=_;rw[yo,if_pos];rw[show(m.mN row a).bI=row.cQ.map λx=>(m.fl x).getLast? from rfl,aU,wK]at hl;exact hl
theorem MI.dN(X:jW c):∀(l:'0') (j:Nat) (m:Mo) (s:Sl),MI c [] nG e m->'5'->B3 m.ac=i+1->(∀x∈l,0<=x/\x<8)->(∀k,j<=k->k<j+B3 l->s.ws[k]?=aA aD) ->
  m.yF c.am i j l/\MI c [] nG e (m.dN c.am i j l)/\(m.dN c.am i j l).ct=m.ct/\((m.dN c.am i j l).ac.map Sl.cr=m.ac.map Sl.cr/\(m.dN c.am i j l).fl=m.fl)/\∃s',(m.dN c.am i j l).ac[i]?=aA s'/\s'.st=s.st
 |[],_,m,s,I,f,_,_,_=>⟨trivial,I,rfl,⟨rfl,rfl⟩,s,f,rfl⟩
 |x::l,j,m,s,I,f,hn,p,hw=>by
  have n:=λy D=>p y (eK _ D);have A:=hw j (aW _) (by grind);cases d:pF c.am (((s.bI[j]?).join).bind m.D9) (cell m.sd.bx x) with
  |none=>
   obtain⟨q,r,t⟩:=MI.dN X l (j+1) m s I f hn n λk a b=>hw k '!' (by rw[zQ];omega);have e:m.dN c.am i j (x::l)=m.dN c.am i (j+1) l:=by rw[Bu f,d]
   rw[e];exact⟨⟨p x eL,s,f,λ_=>q,λw h=>by rw[d]at h;exact bU h⟩,r,t⟩
  |some w=>
   have key:(∀u,s.bI[j]?=aA (aA u)->∀z∈m.ac,z.tk=u->z.dn c.am)/\wd w:=by
    cases g:((s.bI[j]?).join).bind m.D9 with
    |none=>rw[g]at d;cases d;refine⟨λu o z B e=>?_,nS I.sd.bw⟩;simp_all[o,Mo.D9,g,e]
    |some y=>
     rw[g]at d;unfold pF at d;dsimp only at d;split at d
     .rename_i E;obtain⟨v,_,F⟩:=f'.1 g;refine⟨λu o z B e=>?_,Az (I.sl y<|wQ F) X d⟩;rw[o]at g;have g:m.D9 u=aA y:=g;unfold Mo.D9 at g;rw[<- e,uH B I.so]at g;cases g;refine⟨E,?_⟩;unfold Sl.d3 nF at d;split at d
      .assumption
      .exact bU d
     .exact bU d
   have G:=I.E1 f A key.2 (λ_ _ _=>id) λu o=>⟨key.1 u o,id⟩;have gl:=I.gl (j:=j) (w:=w) f hn;obtain⟨q,r,t,C,s',H,J⟩:=MI.dN X l (j+1) (m.E1 i j w) _ G ((Bt (j:=j) (w:=w) I.so f).1) (by rw[<- aU,gl.1,aU];exact hn) n λk a b=>(kZ<|bZ ‹_›).trans (hw k '!' (by rw[zQ];omega));have e:m.dN c.am i j (x::l)=(m.E1 i j w).dN c.am i (j+1) l:=by rw[Bu f,d]
   rw[e];exact⟨⟨p x eL,s,f,(λh=>by rw[d]at h;cases h),λK h=>by rw[d]at h;cases h;exact⟨I.gv f A,q⟩⟩,r,t.trans Kw,⟨C.1.trans gl.1,C.2.trans gl.2⟩,s',H,J⟩
theorem MI.kL(X:jW c)(I:MI c [] nG m.nw m)(hl:(B3 m.ac:Int)<c.sz)(ha:m.ah<B3 c.rs)(ht:m.aY<9000) :
  ∃row,ru c m row/\B3 m.sd.bx=8/\(∀a,(m.F0 row a).yF c.am (B3 m.ac) 0 row.cQ)/\∀a dr gs,MI c [] nG m.nw (m.kL c row a dr gs)/\(m.kL c row a dr gs).ct=(m.nw,m.aY+1,m.bS,m.brk,m.sd)/\(m.kL c row a dr gs).ac.map Sl.cr=m.ac.map Sl.cr++[(m.mN row a).cr]/\(m.kL c row a dr gs).fl=mH m.fl row m.aY:=by
 have h0:=I.ah;obtain⟨row,hr⟩:∃row,c.rs[m.ah.toNat]?=aA row:=⟨_,eD (by lia)⟩;have ok:=X.rs _ (bJ hr);have key:=λa=>MI.dN X row.cQ 0 (m.F0 row a) (m.mN row a) (I.F0 hl hr) yn dU (Ru ok) λk _ f=>by show(fB row.nw aD)[k]?=_;rw[yo,if_pos (by rw[<- wK];lia)]
 refine⟨row,I.en X hl hr ht,I.sd.bl,λa=>(key a).1,λa dr gs=>?_⟩;obtain⟨_,J,ct,cr,s',d,st⟩:=key a;unfold Mo.kL;dsimp only;rw[d];have hm:=bJ d;have S:=J.sl s' hm;obtain⟨fi,_⟩:=S.s0 st;refine⟨J.set (ts':=[]) d rfl rfl rfl ⟨S.t0,S.t1,S.p0,S.hr,S.wl,S.nl,S.wo,S.nm,S.hw,S.pu,S.s0,S.s1,S.f1,S.sr,S.ld,S.of⟩ J.wn (λp e=>.inl ⟨e,((J.Ni hm st).2) p e⟩) (λ_=>id) J.w3 (λh=>by rw[show s'.st=aD from st]at h;cases h) J.tn (λ_ h=>nomatch h) (λ_ h=>nomatch h) (J.kp.trans (Cm (s':={ s' with dr:=if tK s'.row=aB then dr else s'.dr,ch:=aH.pW s'.pc gs s'.row }) d rfl).symm) J.bn (λ_=>.inl) (λ_=>id) id ?_ (λ_ h=>by have:=h.1;rw[fi]at this;cases this) (λ_ _ _ h=>h.elim) λl u a b g=>b,ct,.trans (nC d (by rfl)) (cr.1.trans eR),cr.2⟩;have p0:=S.p0;have ok:=S.ok X;revert ok
 cases s'.row with
 |dA x t=>intro ok;show 0<=ite _ _ _;split;exact ok.2;omega|go t=>exact id|_=>intro _;show 0<=s'.pc+1;omega
end
section
variable {rest:A0}{nw:Int}{K:Int->Prop}
def Me{β:Type}{l:Dc β}{v:β}:aX (eW l x v) y=if x=y then aA v else aX l y:=by
 unfold aX eW;by_cases e:x=y
 .subst e;rw[if_pos rfl];split
  .rename_i z;induction l with
   |nil=>cases z|cons p l a=>
    rw[fJ,oG];by_cases w:p.1=x
    .simp[w]
    .rw[ia,decide_eq_false w]at z;rw[if_neg w,decide_eq_false w];exact a z
  .rename_i z;rw[OK,y6.2 (λp b w=>z (xd.2 ⟨p,b,w⟩))];simp
 .rw[if_neg e];split
  .rename_i z;clear z;induction l with
   |nil=>rfl|cons p l a=>
    rw[fJ,oG,oG];by_cases w:p.1=x
    .rw[if_pos w,show decide (p.1=y)=aJ from decide_eq_false λz=>e (w.symm.trans z)];exact a
    .rw[if_neg w];split
     .rfl
     .exact a
  .simp_all
def Nt(h:qw (aX eC y)=aB):qw (aX (eW eC x v) y)=aB:=by
 rw[Me];split
 .rfl
 .exact h
def FG{β:Type}{l:Dc β}{v:β}{p:Int×β}(h:p∈eW l x v):p∈l\/p.2=v:=by
 unfold eW at h;split at h
 .obtain⟨q,hq,e⟩:=bp.1 h;split at e
  .exact .inr (by rw[<- e])
  .simp_all
 .rcases eh.1 h with h|h
  .exact .inl h
  .exact .inr (by rw[a'.1 h])
def Cw{β:Type}{l:Dc β}{p:Int×β}:p∈pZ l x↔p∈l/\p.1≠x:=by unfold pZ;rw[Ti,decide_eq_true_eq]
def MI.off{sl:'%'}(I:MI c [] nG e m)(es:m.ac=s::rest)(hf:qw s.fi=aB)(kp:kp'=rest.filterMap cJ)(bn:(bg.map (·.1)).Nodup)(b1:∀p∈bg,p∈m.bg/\(tK s.row=aB->p.1≠s.tk))(b2:∀p∈m.bg,p.1≠s.tk->p∈bg)(g1:∀u,qw (aX m.eC u)=aB->qw (aX gon' u)=aB)(g2:qw (cJ s)=aB->qw (aX gon' s.tk)=aB)(st:∀p∈sto',qw (aX gon' p.2)=aB)(l1:B3 sto'<=B3 sl)(l2:B3 gon'<=B3 sl)(sd:sd'.ok)(rm:c.am=B3 sd'.mem) :
  MI c [] nG e { m with ac:=rest,bS:=sl,sd:=sd',kp:=kp',bg:=bg,iE:=sto',eC:=gon' }:=by
 have so:=I.so;rw[es]at so;have d:=jr.1 so;have n:∀{z},z∈rest->z∈m.ac:=λh=>by rw[es];exact eK _ h
 have ms:∀{z},z∈m.ac->z=s\/z∈rest:=λh=>by rw[es]at h;exact dT.1 h
 have lt:=λz a=>d.1 _ (bp.2 ⟨z,a,rfl⟩);have ne:∀{z},z∈m.ac->z.fi=aD->z∈rest:=λh f=>(ms h).resolve_left λw=>by rw[w]at f;rw[f]at hf;exact ff hf
 refine⟨d.2,λz a=>?_,?_,I.wn,λp d=>?_,λz a=>I.w2 z (n a),I.w3,I.tn,(λ_ _ h=>nomatch h),kp,bn,λp d=>?_,I.fl,sd,rm,st,l1,l2,I.ah,I.t0,λk z l u o hn w=>?_⟩
 .refine(I.sl z<|n a).go (gZ _) (gZ _) (λu q=>?_) λe he=>b2 _ he (Sr<|lt z a);rcases q with⟨i,y,hy,g,b⟩|h
  .rcases ms hy with rfl|hy
   .rw[<- g];exact .inr<|g2 b
   .exact .inl ⟨i,y,hy,g,b⟩
  .exact .inr<|g1 u h
 .have:=I.sz;grind
 .obtain⟨i,z,a,g,b,j⟩:=I.w1 p d;exact⟨i,z,ne a b,g,b,j⟩
 .obtain⟨i,g⟩:=b1 p d;obtain⟨z,a,b,j,r⟩:=I.b1 p i;refine⟨z,(ms a).resolve_left λw=>?_,b,j,r⟩;subst w;exact g j b.symm
 .refine I.nb (k+1) z l u (es▸o) hn<|.inl ?_;obtain⟨y,hy,h⟩:=w.resolve_right id;exact⟨y,n hy,h⟩
def lu(h:∀x y d,s.row ≠ .store x y d):cJ s=aD:=by simp_all[cJ]
def YR(S:oX c nw aY K eC bg s)(X:jW c)(st:qw s.st=aB)(f:s.ft c.am=aD){sd:Sd}(h:sd.ok):(sd.oY (s.d1 c.am) (s.d2 c.am) (s.d3 c.am)<|s.d4 c.am).ok/\(sd.oY (s.d1 c.am) (s.d2 c.am) (s.d3 c.am)<|s.d4 c.am).mem.length=B3 sd.mem:=by
 have p:0<=(s.d4 c.am).getD 0:=by unfold Sl.d4;rw[f];exact CZ (S.ok X) S.p0
 have w:wd ((s.d3 c.am).getD 0):=by
  cases e:s.d3 c.am with
  |none=>exact⟨'#','#'⟩|some v=>exact Az S X e
 unfold Sd.oY;split
 .exact⟨⟨p,(sT ..).trans h.bl,Fs h.bw w,h.mw⟩,rfl⟩
 .exact⟨⟨p,h.bl,h.bw,Fs h.mw w⟩,sT ..⟩
 .exact⟨⟨p,h.bl,h.bw,h.mw⟩,rfl⟩
theorem MI.take(X:jW c)(I:MI c [] nG e m)(es:m.ac=s::rest)(hf:qw s.fi=aB)(hl:B3 m.bS<900) :
  Ae c m { s with of:=aA m.nw }/\MI c [] nG e (m.take c.am { s with of:=aA m.nw } rest)/\(m.take c.am { s with of:=aA m.nw } rest).nw=m.nw/\(m.take c.am { s with of:=aA m.nw } rest).aY=m.aY/\(m.take c.am { s with of:=aA m.nw } rest).bS.length=B3 m.bS+1/\((m.take c.am { s with of:=aA m.nw } rest).brk=m.brk\/(m.take c.am { s with of:=aA m.nw } rest).ac=[]):=by
 have hm:=es▸eL;have S:=I.sl s hm;obtain⟨C,D⟩:=i'.1 hf;obtain⟨_,E,l,_⟩:=S.f1 C D;have st:qw s.st=aB:=by rw[l];rfl
 have ww:=yd (S.s1 E l).2.2;have so:=I.so;rw[es]at so;have b:=jr.1 so;have r:(∀x y d,s.row ≠ .store x y d)->∀p∈m.kp,p.1≠s.tk:=λh p b w=>by rw[I.kp]at b;obtain⟨z,hz,o⟩:=j'.1 b;rw[I.so.eq hm hz ((vJ o).symm.trans w),lu h]at o;exact bU o
 have l1:=I.l1;have l2:=I.l2;have inr:∀x y d,s.row = .load x y d->s.ft c.am=aD->∃e,(s.tk,e)∈m.bg:=λx y d a f=>(S.ld x y d a st (by
  unfold Sl.ft at f;rw[a]at f;have f:(if 0<=cell s.wi 0+d/\cell s.wi 0+d<c.am then aD else aA (AV.tup [.str "place",.int (cell s.wi 0+d)]))=aD:=f;by_cases q:0<=cell s.wi 0+d/\cell s.wi 0+d<c.am
  .exact q
  .rw[if_neg q]at f;cases f)).2
 have ins:∀x y d,s.row = .store x y d->s.ft c.am=aD->s.d2 c.am=aA (cell s.wi 1+d)/\0<=cell s.wi 1+d/\cell s.wi 1+d<c.am:=λx y d a f=>by
  refine⟨by unfold Sl.d2;rw[f,a];rfl,?_⟩;unfold Sl.ft at f;rw[a]at f;have f:(if 0<=cell s.wi 1+d/\cell s.wi 1+d<c.am then aD else aA (AV.tup [.str "place",.int (cell s.wi 1+d)]))=aD:=f;by_cases q:0<=cell s.wi 1+d/\cell s.wi 1+d<c.am
  .exact q
  .rw[if_neg q]at f;cases f
 have gn:=λu A=>(S.sr u A).resolve_left λ⟨j,z,hz,g,_⟩=>by
  rw[es]at hz;rcases dT.1 hz with rfl|hz
  .exact yi j g.symm
  .have L:s.tk<z.tk:=b.1 _ (bp.2 ⟨z,hz,rfl⟩);lia
 refine⟨⟨hf,ww,(aU ..).trans S.wl,λx F=>?_,λp j g=>?_,I.sd.bl,?_,λf=>⟨λx y d a=>⟨⟨_,(ins x y d a f).1⟩,?_,by lia,by lia⟩,λx y d a=>⟨fh (r λ_ _ _ h=>by rw[show s.row=_ from a]at h;cases h),?_⟩⟩,λf u A=>?_,hl⟩,?_⟩
 .obtain⟨f,fx⟩:=DP F;exact⟨Km (S.ok X) fx,Je (s:=s) S st f (.inl (by rw[show aH.fx s.row=_ from fx];rfl))⟩
 .have f:s.ft c.am=aD:=by
   cases f:s.ft c.am with
   |none=>rfl|some v=>have g:s.d2 c.am=aA p:=g;unfold Sl.d2 at g;rw[f]at g;exact bU g
  have j:s.d1 c.am=aD:=j;have g:s.d2 c.am=aA p:=g;have a:∃x y d,s.row = .store x y d:=by
   unfold Sl.d1 at j;unfold Sl.d2 at g;rw[f]at j g;revert j g
   cases s.row with
   |store x y d=>exact λ_ _=>⟨x,y,d,rfl⟩|load=>exact λh _=>nomatch h|_=>exact nofun
  obtain⟨x,y,d,a⟩:=a;obtain⟨G,H⟩:=ins x y d a f;rw[G]at g;cases g;rw[<- I.rm];exact⟨H,Je (s:=s) S st f (.inr (by rw[nA a];rfl))⟩
 .have:=X.rm;have:=I.rm;omega
 .have:=(vn (i:=0) (s:=s) I.so (by rw[es];rfl) (nA a)<|nA (s:=s) a).2;rw[<- I.kp]at this;exact⟨_,this⟩
 .obtain⟨e,he⟩:=inr x y d a f;exact⟨e,nW I.bn he⟩
 .have:=gn u A;unfold Mo.note;split
  .exact i'.1<|Nt this
  .exact i'.1 this
  .exact i'.1 this
 unfold Mo.take Mo.uG;cases f:s.ft c.am with
 |some v=>
  rw[show Sl.ft c.am { s with of:=aA m.nw }=aA v from f];have J:=I.E7 (t:=s.tk);unfold Mo.E7 at J;rw[es,kF,decide_eq_false (oE _)]at J;have k:∀x:AV,B3 m.bS<=B3 (m.bS++[x]):=λx=>by rw[dU];exact iG _
  exact⟨⟨J.so,J.sl,J.sz,J.wn,J.w1,J.w2,J.w3,J.tn,J.td,J.kp,J.bn,J.b1,J.fl,J.sd,J.rm,J.st,dF J.l1 (k _),dF J.l2 (k _),J.ah,J.t0,J.nb⟩,rfl,rfl,dU,.inr (wB.2 λz hz h=>oE _ (kY (of_decide_eq_true h)<|b.1 _<|bp.2 ⟨z,hz,rfl⟩))⟩
 |none=>
  rw[show Sl.ft c.am { s with of:=aA m.nw }=aD from f];obtain⟨B,K⟩:=YR S X st f I.sd;have rm:=I.rm.trans (congrArg _ K.symm);have kp:=I.kp;rw[es,mR]at kp;have k:∀{x:AV}{n:Nat},n<=B3 m.bS->n<=B3 (m.bS++[x]):=λh=>by rw[dU];exact PQ h
  have ne:∀{z},z∈rest->z.tk≠s.tk:=λhz=>Sr (b.1 _<|bp.2 ⟨_,hz,rfl⟩);dsimp only;unfold Mo.note;split
  .rename_i x y d a;have a:s.row = .store x y d:=a;rw[nA a]at kp;refine⟨I.off es hf ?_ I.bn (λp b=>⟨b,λh=>by rw[a]at h;exact ff h⟩) (λp b _=>b) (λu=>Nt) (λ_=>by rw[Me,if_pos rfl];rfl) (λp b=>?_) ?_ ?_ B rm,rfl,rfl,dU,.inl rfl⟩
   .show pZ m.kp s.tk=_;rw[kp];unfold pZ;rw[kF,decide_eq_false λh=>h rfl];refine xT.2 λp b=>decide_eq_true ?_;obtain⟨z,hz,o⟩:=j'.1 b;rw[vJ o];exact ne hz
   .rcases FG b with h|h
    .exact Nt<|I.st p h
    .rw[h,Me];exact(if_pos rfl).symm▸rfl
   .rw[dU];exact dF HQ<|Gz l1
   .rw[dU];exact dF HQ<|Gz l2
  .rename_i x y d a;rw[lu λ_ _ _ h=>by rw[a]at h;cases h]at kp;exact⟨I.off es hf kp (pH I.bn) (λp b=>⟨(Cw.1 b).1,λ_=>(Cw.1 b).2⟩) (λp b h=>Cw.2 ⟨b,h⟩) (λ_=>id) (λh=>by rw[lu λ_ _ _ h=>by rw[a]at h;cases h]at h;exact ff h) I.st (k l1) (k l2) B rm,rfl,rfl,dU,.inl rfl⟩
  .rename_i j g;have j:∀x y d,s.row ≠ .store x y d:=j;rw[lu j]at kp;exact⟨I.off es hf kp I.bn (λp b=>⟨b,λh=>by revert h g;cases s.row with|load x y d=>exact λh _=>absurd rfl (h x y d)|_=>exact λ_ h=>nomatch h⟩) (λp b _=>b) (λ_=>id) (λh=>by rw[lu j]at h;exact ff h) I.st (k l1) (k l2) B rm,rfl,rfl,dU,.inl rfl⟩
end
section
variable {e' t:Int}{sd:Sd}
def MI.skip(I:MI c (t::ts) nG e m)(h:m.D9 t=aD):MI c ts nG e m:=by
 have ne:∀s∈m.ac,s.tk≠t:=λs d w=>by simp_all[Mo.D9,h,w,uH]
 exact { I with w2:=λs d a b=>(I.w2 s d a b).imp (λh=>(dT.1 h).resolve_left (ne s d)) id,tn:=(tx.1 I.tn).2,td:=λs d h=>I.td s d (eK _ h) }
def MI.Nj(I:MI c [] nG m.nw m):MI c [] nG m.nw { m with nw:=m.nw+1 }:=⟨I.so,I.sl,I.sz,I.wn,I.w1,I.w2,I.w3,I.tn,(λ_ _ h=>nomatch h),I.kp,I.bn,I.b1,I.fl,I.sd,I.rm,I.st,I.l1,I.l2,I.ah,I.t0,I.nb⟩
def MI.emp(I:MI c [] nG e m)(h:m.ac=[]):MI c [] nG e' m:=by
 have no:∀{p:Sl->Prop},¬ ∃s∈m.ac,p s:=λ⟨s,hs,_⟩=>by grind
 exact { I with sl:=λs hs=>(no (p:=λ_=>True) ⟨s,hs,trivial⟩).elim,w1:=λp hp=>(no (I.w1 p hp).2).elim,w2:=I.w2,td:=I.td,nb:=I.nb }
def aAa(X:jW c)(s0:0<=c.sz)(ok:sd.ok)(rm:c.am=B3 sd.mem):MI c [] nG 0 (fm sd):=by
 have w3:∀g,0<=ox c g:=λg=>by
  unfold ox;rw[ib];cases h:c.tb[g.toNat]? with
  |none=>left|some p=>have:=(X.tb.2 p<|bJ h).1;show 0<=p.1;lia
 exact⟨.nil,(λ_ h=>nomatch h),s0,.nil,(λ_ h=>nomatch h),(λ_ h=>nomatch h),w3,.nil,(λ_ h=>nomatch h),rfl,.nil,(λ_ h=>nomatch h),λx=>⟨(λ_ h=>nomatch h),gZ _⟩,ok,rm,(λ_ h=>nomatch h),aW _,aW _,ok.pc,gZ _,(λ_ _ _ _ h=>nomatch h)⟩
structure TI(c:Cf)(n:Int)(m:Mo):Prop where
 I:MI c [] nG n m
 nw:m.nw=n
 tk:m.aY<=8*n
 sl:(B3 m.bS:Int)<=8*n
 bk:m.brk=aB->m.ac=[]
end
section
variable {t p0:Int}
def Sl.nx(s:Sl):Int:=match s.row with
 |.dA _ _=>if qw s.fi=aB then s.row.gs s.pc s.wi else s.ch
 |_=>s.ch
structure CH(l:A0)(p0 a:Int):Prop where
 ch:l.map Sl.pc++[a]=p0::l.map Sl.nx
 cg:∀s∈l,(∀x t,s.row ≠ .dA x t)->s.ch=s.row.gs s.pc []
theorem CH.take(h:CH l p0 a)(hn:n<=B3 l){v:Int}(e:(l.map Sl.pc++[a])[n]?=aA v):CH (l.take n) p0 v:=by refine⟨?_,λs c=>h.cg s (Tj c)⟩;have b:(l.map Sl.pc++[a]).take (n+1)=(p0::l.map Sl.nx).take (n+1):=congrArg _ h.ch;rw[PJ,e,PD (by left),Gv,<- yr,<- yr]at b;exact b
def aPp(h:jJ (s::l)):(s::l).filter (λz=>decide (z.tk<s.tk))=[]:=wB.2 λz hz y=>by
 have y:=of_decide_eq_true y;rcases dT.1 hz with rfl|hz
 .simp_all
 .exact oE _<|kY y<|(jr.1 h).1 _ (bp.2 ⟨z,hz,rfl⟩)
theorem BH:∀{l:A0}{k:Nat},jJ l->l[k]?=aA z->l.filter (λs=>decide (s.tk<z.tk))=l.take k
 |[],_,_,h=>nomatch h
 |y::l,0,so,h=>by cases h;exact aPp so
 |y::l,k+1,so,h=>by have a:=jr.1 so;rw[kF,if_pos (decide_eq_true<|a.1 _<|bp.2 ⟨z,bJ h,rfl⟩),BH a.2 h,Gv]
theorem BI:∀{l:A0}{k:Nat},jJ l->l[k]?=aA z->l.filter (λs=>decide (s.tk<z.tk+1))=l.take (k+1)
 |[],_,_,h=>nomatch h
 |y::l,0,so,h=>by cases h;rw[kF,if_pos (decide_eq_true<|qk _)];refine congrArg _<|wB.2 λz c y=>?_;have a:=(jr.1 so).1 _ (bp.2 ⟨z,c,rfl⟩);exact oE _<|zM (of_decide_eq_true y) a
 |y::l,k+1,so,h=>by have b:=jr.1 so;rw[kF,if_pos (decide_eq_true<|kY (b.1 _<|bp.2 ⟨z,bJ h,rfl⟩)<|qk _),BI b.2 h,Gv]
def CH.E7(h:CH l p0 a)(so:jJ l)(hz:l[n]?=aA z):CH (l.filter λs=>decide (s.tk<z.tk)) p0 z.pc:=by have nl:=(dk.1 hz).1;rw[BH so hz];exact h.take (kG nl) (by rw[sS (by left),eQ,hz];rfl)
theorem CH.set(h:CH l p0 a)(hs:l[i]?=aA s)(e1:s'.pc=s.pc)(e2:s'.nx=s.nx)(e3:s'.row=s.row)(e4:(∀x t,s.row ≠ .dA x t)->s'.ch=s.ch):CH (l.set i s') p0 a:=by
 refine⟨by rw[nC hs e1,nC hs e2];exact h.ch,λz d b=>?_⟩;obtain⟨k,c⟩:=zP d;rcases Pt hs c with⟨_,rfl⟩|⟨_,c⟩
 .rw[e3]at b;rw[e1,e3,e4 b];exact h.cg s (bJ hs) b
 .exact h.cg z (bJ c) b
def CH.jmp(h:CH l p0 a)(so:jJ l)(hs:l[i]?=aA s)(e1:s'.pc=s.pc)(e3:s'.row=s.row)(e4:s'.tk=s.tk){t:Int}(er:s.row = .dA x t):CH ((l.set i s').filter λz=>decide (z.tk<s'.tk+1)) p0 s'.nx:=by
 have b:=(dk.1 hs).1;have e:(l.set i s').filter (λz=>decide (z.tk<s'.tk+1))=l.take i++[s']:=by rw[BI (by show(yp _ _).Pairwise _;rw[nC hs e4];exact so) (mB b),PJ,mB b,PH (aW _)];rfl
 rw[e];have d:=h.take (kG b) (by rw[sS (by left),eQ,hs];rfl);refine⟨by rw[eR,eR,<- eI,<- d.ch];show _++[s'.pc]++_=_;rw[e1];rfl,λz hz c=>?_⟩;rcases eh.1 hz with hz|hz
 .exact d.cg z hz c
 .rw[a'.1 hz,e3]at c;exact absurd er<|c x t
def CH.app(h:CH l p0 a)(e1:s.pc=a)(e2:s.nx=w)(e3:(∀x t,s.row ≠ .dA x t)->s.ch=s.row.gs s.pc []):CH (l++[s]) p0 w:=by
 refine⟨by simp_all[h.ch,e1,e2],λz hz=>?_⟩;rcases eh.1 hz with hz|hz
 .exact h.cg z hz
 .rw[a'.1 hz];exact e3
def P8(nj:∀x t,r ≠ .dA x t):r.gs pc []=r.gs pc ws:=by
 cases r with
 |dA x t=>exact absurd rfl<|nj x t|_=>rfl
def CH.tail(h:CH (s::l) p0 a)(hf:qw s.fi=aB):s.pc=p0/\CH l (s.row.gs s.pc s.wi) a:=by
 have e:=h.ch;rw[fJ,eI,OA]at e;refine⟨e.1,e.2.trans (congrArg (·::_) ?_),λz b=>h.cg z (eK _ b)⟩;have cg:=h.cg s eL;unfold Sl.nx;cases c:s.row with
 |dA x t=>exact if_pos hf|_=>rw[c]at cg;exact(cg λ_ _ h=>nomatch h).trans (P8 λ_ _ h=>nomatch h)
end
section
variable {t:Int}{bx:AW}{o:Option (Option Int)}{xo:AG}
structure LV(l:A0)(bg:Dc (Int×AG))(mem:AW)(t:Int)(r:AG)(p v:Int):Prop where
 b:(t,p,r)∈bg
 o:∀y∈l,∀q,cJ y=aA (y.tk,aA p,q)->y.tk<t->∃u,r=aA u/\y.tk<=u
 i:∀y∈l,r=aA y.tk->cJ y=aA (y.tk,aA p,aA v)
 m:(∀y∈l,r≠aA y.tk)->v=cell mem p
 u:∀u,r=aA u->(u<t/\∃y∈l,y.tk=u)\/∀y∈l,u<y.tk
structure WV(c:Cf)(l:A0)(bx:AW)(o:Option '+')(xo:AG)(w:Int):Prop where
 i:∀z∈l,o=aA (aA z.tk)->z.dn c.am/\z.d3 c.am=aA w
 m:(∀z∈l,o≠aA (aA z.tk))->∀x,xo=aA x->w=cell bx x
structure SI(c:Cf)(B:Int)(m:Mo):Prop where
 wv:∀s∈m.ac,∀(j:Nat) (w:Int),s.ws[j]?=aA (aA w)->WV c m.ac m.sd.bx s.bI[j]? s.row.cQ[j]? w
 lv:∀s∈m.ac,s.tk<B->∀x y d,s.row = .load x y d->qw s.st=aB->0<=cell s.wi 0+d/\cell s.wi 0+d<c.am->∃v,s.eG=aA v/\LV m.ac m.bg m.sd.mem s.tk s.src (cell s.wi 0+d) v
 st:∀p∈m.iE,p.2<m.aY/\∀z∈m.ac,p.2<z.tk
theorem WV.set(h:WV c l bx o xo w)(so:jJ l)(hs:l[i]?=aA s)(et:s'.tk=s.tk)(fi:s.fi=aD):WV c (l.set i s') bx o xo w:=by
 refine⟨λz a e=>?_,λhn=>h.m λz a=>?_⟩
 .rcases vV so hs a with rfl|⟨a,_⟩
  .have:=(h.i s (bJ hs)<|et▸e).1.1;rw[fi]at this;exact ff this
  .exact h.i z a e
 .by_cases w:z.tk=s.tk
  .rw[w,<- et];exact hn s'<|vW hs
  .exact hn z<|og hs a w
theorem LV.set{r:'+'}(h:LV l bg mem t r p v)(so:jJ l)(hs:l[i]?=aA s)(et:s'.tk=s.tk)(hb:∀q∈bg,q∈bg')(k1:cJ s=aA (s.tk,aA p,aA v)->cJ s'=cJ s)(k2:∀q,cJ s'=aA (s.tk,aA p,q)->s.tk<t->(∃q',cJ s=aA (s.tk,aA p,q'))\/∃u,r=aA u/\s.tk<=u):LV (l.set i s') bg' mem t r p v:=by
 have hm:=bJ hs;have tr:∀{P:Int->Prop},(∀y∈l.set i s',P y.tk)->∀y∈l,P y.tk:=λH y c=>by
  by_cases w:y.tk=s.tk
  .rw[w,<- et];exact H s'<|vW hs
  .exact H y<|og hs c w
 have up:∀{u:Int} y,y∈l->y.tk=u->∃y∈l.set i s',y.tk=u:=λy c b=>by
  by_cases w:y.tk=s.tk
  .exact⟨s',vW hs,et.trans (w.symm.trans b)⟩
  .exact⟨y,og hs c w,b⟩
 refine⟨hb _ h.b,λy c q e lt=>?_,λy c e=>?_,λH=>h.m (tr (P:=λt=>r≠aA t) H),λu e=>(h.u u e).imp (λ⟨a,y,c,b⟩=>⟨a,up y c b⟩) λH y c=>?_⟩
 .rcases vV so hs c with rfl|⟨c,_⟩
  .rw[et]at e lt ⊢;exact(k2 q e lt).elim (λ⟨q',e⟩=>h.o s hm q' e lt) id
  .exact h.o y c q e lt
 .rcases vV so hs c with rfl|⟨c,_⟩
  .rw[et]at e ⊢;have:=h.i s hm e;rw[k1 this];exact this
  .exact h.i y c e
 .rcases vV so hs c with rfl|⟨c,_⟩
  .rw[et];exact H s hm
  .exact H y c
theorem SI.set{wk':Dc (Int×Int)}{kp':Dc (AG×AG)}{a:Int}(I:SI c B m)(so:jJ m.ac)(hs:'5')(et:s'.tk=s.tk)(en:s'.bI=s.bI)(er:s'.row=s.row)(fi:s.fi=aD)
  (hw:∀(j:Nat) (w:Int),s'.ws[j]?=aA (aA w)->s.ws[j]?=aA (aA w)\/WV c m.ac m.sd.bx s.bI[j]? s.row.cQ[j]? w) (hb:∀q∈m.bg,q∈bg') (hB:B'<=B)
  (k1:∀p v,cJ s=aA (s.tk,aA p,aA v)->cJ s'=cJ s) (k2:∀p q,cJ s'=aA (s.tk,aA p,q)->(∃q',cJ s=aA (s.tk,aA p,q'))\/∀z∈m.ac,z.tk<B'->s.tk<z.tk->(z.tk,p,z.src)∈m.bg->∃u,z.src=aA u/\s.tk<=u)
  (hl:s.tk<B'->∀x y d,s.row = .load x y d->qw s'.st=aB->0<=cell s'.wi 0+d/\cell s'.wi 0+d<c.am->∃v,s'.eG=aA v/\LV m.ac bg' m.sd.mem s'.tk s'.src (cell s'.wi 0+d) v) :
  SI c B' { m with ac:=m.ac.set i s',wk:=wk',kp:=kp',bg:=bg',ah:=a }:=by
 have hm:=bJ hs;refine⟨λz f j w e=>?_,λz f lt x y d e k l=>?_,λp g=>⟨(I.st p g).1,λz f=>?_⟩⟩
 .refine WV.set ?_ so hs et fi;rcases vV so hs f with rfl|⟨f,_⟩
  .rw[en,er];exact(hw j w e).elim (I.wv s hm j w) id
  .exact I.wv z f j w e
 .rcases vV so hs f with rfl|⟨f,_⟩
  .rw[er]at e;rw[et]at lt;obtain⟨v,a,b⟩:=hl lt x y d e k l;exact⟨v,a,b.set so hs et (λ_=>id) (λh=>k1 _ _ h) λq _ h=>absurd h (by rw[et];exact oE _)⟩
  .obtain⟨v,a,b⟩:=I.lv z f (zM lt hB) x y d e k l;exact⟨v,a,b.set so hs et hb (λh=>k1 _ _ h) λq h lt'=>(k2 _ q h).imp id λH=>H z f lt lt' b.b⟩
 .rcases vV so hs f with rfl|⟨f,_⟩
  .rw[et];exact(I.st p g).2 s hm
  .exact(I.st p g).2 z f
theorem SI.E7(I:SI c B m)(nm:∀s∈m.ac,∀u,aA u∈s.bI->u<s.tk)(hB:t<=B):SI c B' (m.E7 t):=by
 have k:∀{s},s∈m.ac->s.tk<t->s∈(m.E7 t).ac:=λf hl=>gi.2 ⟨f,decide_eq_true hl⟩;have h:∀{s},s∈(m.E7 t).ac->s∈m.ac/\s.tk<t:=λf=>by have:=gi.1 f;left
 refine⟨λs f j w e=>?_,λs f _ x y d e n o=>?_,λp l=>⟨(I.st p l).1,λz i=>(I.st p l).2 z (h i).1⟩⟩
 .obtain⟨f,lt⟩:=h f;have W:=I.wv s f j w e;exact⟨λz i=>W.i z (h i).1,λH=>W.m λz i e=>H z (k i<|kY (nm s f _<|bJ e) lt) e⟩
 .obtain⟨f,lt⟩:=h f;obtain⟨v,a,L⟩:=I.lv s f (zM lt hB) x y d e n o;refine⟨v,a,gi.2 ⟨L.b,by left⟩,λy g=>L.o y (h g).1,λy g=>L.i y (h g).1,λH=>L.m λy g e=>?_,λu e=>(L.u u e).imp (λ⟨a,y,g,b⟩=>⟨a,y,k g (by rw[b];exact kY a lt),b⟩) λH y g=>H y (h g).1⟩;rcases L.u _ e with⟨a,_⟩|a
  .exact H y (k g<|kY a lt) e
  .exact oE _<|a y g
end
section
variable {t:Int}
def Ck{q:'+'}(h:cJ s=aA (t,aA p,q)):∃x y d v,s.row = .store x y d/\s.ws[1]?=aA (aA v)/\p=v+d/\q=(s.ws[0]?).join:=by
 unfold cJ at h;split at h
 .rename_i x y d a;have h:=cR h;obtain⟨v,b,c⟩:=gT.1 (congrArg (·.2.1) h);exact⟨x,y,d,v,a,x6.1 b,c.symm,(congrArg (·.2.2) h).symm⟩
 .exact bU h
def Ye{u:'+'}(h:(z.tk,p,u)∈bg)(lt:t<z.tk)(hb:∀b,mV bg t p=aA b->z.tk<b):∃g,u=aA g/\t<=g:=by
 have nb:=λy=>by
  have hm:z.tk∈(bg.filter<|lE t p).map (·.1):=bp.2 ⟨_,gi.2 ⟨h,y⟩,rfl⟩;have hb:=hb (sC<|(bg.filter<|lE t p).map (·.1)) (by
   unfold mV wc;rw[if_neg];intro w;rw[z9.1 w]at hm;cases hm)
  exact oE _<|zM hb<|FL hm
 unfold lE at nb;rw[decide_eq_true lt,decide_eq_true (rfl:p=p)]at nb;cases u with
 |none=>exact absurd rfl nb|some g=>exact⟨g,rfl,vD.1 λw=>nb (decide_eq_true w)⟩
theorem SI.E1(M:MI c ts G e m)(I:SI c m.aY m)(hs:'5')(hj:s.ws[j]?=aA aD)(hv:WV c m.ac m.sd.bx s.bI[j]? s.row.cQ[j]? w):SI c m.aY (m.E1 i j w):=by
 have hm:=bJ hs;have S:=M.sl s hm;obtain⟨st,fi,_⟩:=M.Et hm (bJ hj);have jl:=(dk.1 hj).1;have set:∀{r:Int}{t:Dc (AG×AG)}{a:Int},r<=m.aY->(∀p q,cJ { s with ws:='A' }=aA (s.tk,aA p,q)->(∃F,cJ s=aA (s.tk,aA p,F))\/∀z∈m.ac,z.tk<r->s.tk<z.tk->(z.tk,p,z.src)∈m.bg->∃u,z.src=aA u/\s.tk<=u)->SI c r { m with ac:=m.ac.set i { s with ws:='A' },kp:=t,ah:=a }:=λA k2=>by
  refine I.set M.so hs rfl rfl rfl fi (λD H h=>?_) (λ_=>id) A (λp v h=>?_) k2 λ_ _ _ _ _ h=>by rw[show s.st=aD from st]at h;exact ff h
  .have h:'A'[D]?=aA (aA H):=h;by_cases J:j=D
   .simp_all
   .rw[kZ J]at h;exact .inl h
  .obtain⟨x,y,d,v1,n,o,_,E⟩:=Ck h;have nl:B3 s.ws=2:=by rw[S.wl,n];rfl
   rcases(by omega:j=0\/j=1)with rfl|rfl
   .rw[hj]at E;cases E
   .grind
 unfold Mo.E1;rw[hs];dsimp only;split
 .rename_i x y d ev n N;have nl:B3 s.ws=2:=by rw[S.wl,n];rfl
  split
  .rename_i h;subst h;refine set (gZ _) λp q h=>.inl ?_;obtain⟨_,_,_,v1,f,o,rfl,_⟩:=Ck h;rw[show s.row=_ from f]at n;rw[kZ '#']at o;exact⟨_,by rw[nA (s:=s) f,o];rfl⟩
  .rename_i h;have:j=1:=by omega
   subst this;have pl:∀p q,cJ { s with ws:=s.ws.set 1 (aA w) }=aA (s.tk,aA p,q)->p=w+d:=λp q h=>by obtain⟨_,_,_,v1,f,o,rfl,_⟩:=Ck h;rw[show s.row=_ from f]at n;cases n;rw[mB jl]at o;cases o;rfl
   unfold Mo.F4;split
   .rename_i hb;exact set (gZ _) λp q h=>.inr λz k _ lt l=>Ye l lt λb g=>by rw[pl p q h]at g;rw[show mV m.bg s.tk (w+d)=aD from hb]at g;exact bU g
   .rename_i b hb;have A:b<=m.aY:=by obtain⟨⟨q,K,e⟩,_⟩:=jk hb;obtain⟨z,k,L,_⟩:=M.b1 q K;rw[<- e,<- L];exact qj (M.sl z k).t1
    refine(set A λp q h=>.inr λz k B lt l=>Ye l lt λO g=>?_).E7 (λz k=>?_) (gZ b)
    .rw[pl p q h]at g;rw[show mV m.bg s.tk (w+d)=aA b from hb]at g;cases g;exact B
    .rcases vV M.so hs k with rfl|⟨k,_⟩
     .exact S.nm
     .exact(M.sl z k).nm
 .rename_i C;refine set (gZ _) λp q h=>?_;obtain⟨_,_,_,_,f,_⟩:=Ck h;exact absurd (by rw[M.kp];exact(vn M.so hs (nA f)<|nA f).2)<|C _ _ _ _ f
end
section
variable {t:Int}
def SI.fin(M:MI c ts G e m)(I:SI c m.aY m)(hs:'5')(fi:s.fi=aD)(es:s'={ s with fi:=aA w }):SI c m.aY (m.cO i s'):=by subst es;exact I.set M.so hs rfl rfl rfl fi (λ_ _ h=>.inl h) (λ_=>id) (gZ _) (λ_ _ _=>rfl) (λp q h=>.inl ⟨q,h⟩) λlt x y d=>I.lv s (bJ hs) lt x y d
def Y8{l:List (Int×AG×AG)}(h:pG p dr l=aA aD):∀q∈l,q.2.1≠aA p:=by
 induction l with
 |nil=>grind
 |cons q l a=>
  obtain⟨t,sp,v⟩:=q;unfold pG at h;split at h
  .exact bU h
  .split at h
   .simp_all
   .rename_i hn;intro q hq;rcases dT.1 hq with rfl|hq
    .exact hn
    .exact a h q hq
def Z1{l:List (Int×AG×AG)}(h:pG p dr l=aA (aA (u,w))):∃a b,l=a++(u,aA p,aA w)::b/\∀q∈a,q.2.1≠aA p:=by
 induction l with
 |nil=>cases h|cons q l c=>
  obtain⟨t,sp,v⟩:=q;unfold pG at h;split at h
  .exact bU h
  .split at h
   .rename_i e;cases v with
    |none=>cases h|some v=>cases h;exact⟨[],l,by rw[e];rfl,λ_ h=>nomatch h⟩
   .rename_i hn;obtain⟨a,b,rfl,H⟩:=c h;refine⟨_::a,b,rfl,λq hq=>?_⟩;rcases dT.1 hq with rfl|hq
    .exact hn
    .exact H q hq
theorem SI.start{t:Int×Int}(M:MI c [] nG m.nw m)(I:SI c m.aY m)(hs:'5')(st:s.st=aD):SI c m.aY (m.start c t i s):=by
 obtain⟨fi,_⟩:=(M.sl s<|bJ hs).s0 st;unfold Mo.start;split
 .split
  .exact I
  .rename_i l hl;have F:(s.nB l).ws=s.ws:=fe.2.2.1;have C:cJ { s.nB l with st:=aA m.nw }=cJ s:=by cases l<;>rfl
   refine I.set M.so hs fe.2.1 fe.2.2.2.1 fe.2.2.2.2.1 fi (λj w h=>.inl (by left)) (λq D=>?_) (gZ _) (λ_ _ _=>C) (λp q h=>.inl ⟨q,C.symm.trans h⟩) λlt x y d G _ hr=>?_
   .cases l with
    |none=>exact D|some v=>exact uM _ D
   .have J:({ s.nB l with st:=aA m.nw }:Sl).wi=s.wi:=by unfold Sl.wi;exact congrArg _ F
    rw[J]at hr ⊢;unfold Mo.tT at hl;rw[G]at hl;dsimp only at hl;rw[if_pos hr]at hl;have K:(m.kp.map (·.1)).Pairwise (·<·):=by rw[M.kp];exact wN Lx M.so
    have g:∀y∈m.ac,∀q,cJ y=aA (y.tk,aA (cell s.wi 0+d),q)->y.tk<s.tk->(y.tk,aA (cell s.wi 0+d),q)∈(m.kp.filter λq=>decide (q.1<s.tk)).reverse:=λy f q e lt=>xS.2 (gi.2 ⟨by rw[M.kp];exact j'.2 ⟨y,f,e⟩,decide_eq_true lt⟩);split at hl
    .cases hl
    .rename_i o;cases hl;have so:∀u,aX m.iE (cell s.wi 0+d)=aA u->∀y∈m.ac,u<y.tk:=λu h=>(I.st _<|lx h).2;exact⟨_,rfl,hJ _ (a'.2 rfl),λy f q e lt=>absurd rfl (Y8 o _<|g y f q e lt),λy f e=>absurd (so _ e y f) (oE _),λ_=>rfl,λu e=>.inr (so u e)⟩
    .rename_i u w o;cases hl;obtain⟨a,b,r,H⟩:=Z1 o;have L:=xS.1 (by rw[r];exact hJ _ eL);obtain⟨k,A⟩:=gi.1 L;rw[M.kp]at k;obtain⟨z,B,E⟩:=j'.1 k;have tz:=vJ E;refine⟨w,rfl,hJ _ (a'.2 rfl),λy f q e lt=>⟨u,rfl,?_⟩,λy f e=>?_,λH=>absurd (congrArg aA tz) (H z B),λN e=>.inl ⟨?_,z,B,?_⟩⟩
     .have n:=g y f q e lt;rw[r]at n;rcases eh.1 n with h|h
      .exact absurd rfl<|H _ h
      .rcases dT.1 h with h|h
       .exact Int.le_of_eq<|congrArg (·.1) h
       .have pr:=y9.2 ((K.sublist<|pV.map _):((m.kp.filter λq=>decide (q.1<s.tk)).map (·.1)).Pairwise (·<·));rw[<- OW,r,eR]at pr;exact qj<|(jr.1 (y7.1 pr).2.1).1 _ (bp.2 ⟨_,h,rfl⟩)
     .have e:=cR e;rw[<- M.so.eq f B (tz.symm.trans e),<- tz];exact E
     .cases e;exact of_decide_eq_true A
     .cases e;exact tz.symm
 .exact I
theorem SI.F0{row:aH}{a:Nat}(M:MI c [] nG m.nw m)(I:SI c m.aY m):SI c (m.aY+1) (m.F0 row a):=by
 have cs:∀{z},z∈m.ac++[m.mN row a]->z∈m.ac\/z=m.mN row a:=λh=>(eh.1 h).imp id a'.1;have ml:∀{z},z∈m.ac->z∈m.ac++[m.mN row a]:=λh=>uM _ h;have lt:=λz i=>(M.sl z i).t1;refine⟨λs f j w e=>?_,λs f _ x y d e l n=>?_,λp k=>⟨kY (I.st p k).1 (qk _),λz i=>?_⟩⟩
 .rcases cs f with f|rfl
  .have W:=I.wv s f j w e;refine⟨λz i h=>?_,λH=>W.m λz i=>H z (ml i)⟩;rcases cs i with i|rfl
   .exact W.i z i h
   .exact absurd (kY ((M.sl s f).nm _ (bJ h))<|lt s f)<|oE _
  .exact nomatch OF (bJ e)
 .rcases cs f with f|rfl
  .obtain⟨v,a,L⟩:=I.lv s f (lt s f) x y d e l n;refine⟨v,a,L.b,λy g q e lt'=>?_,λy g e=>?_,λH=>L.m λy g=>H y (ml g),λu e=>(L.u u e).imp (λ⟨a,y,g,b⟩=>⟨a,y,ml g,b⟩) λH y g=>?_⟩
   .rcases cs g with g|rfl
    .exact L.o y g q e lt'
    .exact absurd (kY lt'<|lt s f)<|oE _
   .rcases cs g with g|rfl
    .exact L.i y g e
    .have:=(L.u _ e).elim (·.1) λH=>H s f;exact absurd (kY this<|lt s f)<|oE _
   .rcases cs g with g|rfl
    .exact H y g
    .exact kY (H s f)<|lt s f
  .exact ff l
 .rcases cs i with i|rfl
  .exact(I.st p k).2 z i
  .exact(I.st p k).1
end
section
variable {t:Int}
def md(fi:s.fi=aD):s.nx=s.ch:=by
 unfold Sl.nx;split
 .rw[fi];rfl
 .rfl
theorem CH.E1(M:MI c ts G e m)(hs:'5')(hj:s.ws[j]?=aA aD)(h:CH m.ac m.sd.pc m.ah):CH (m.E1 i j w).ac m.sd.pc (m.E1 i j w).ah:=by
 obtain⟨_,fi,_⟩:=M.Et (bJ hs) (bJ hj);have d:CH (m.ac.set i { s with ws:='A' }) m.sd.pc m.ah:=h.set hs rfl ((md (s:={ s with ws:='A' }) fi).trans (md fi).symm) rfl λ_=>rfl;have so:jJ (m.ac.set i { s with ws:='A' }):=by show(yp _ _).Pairwise _;rw[nC (s':={ s with ws:='A' }) hs rfl];exact M.so
 unfold Mo.E1;rw[hs];dsimp only;split
 .split
  .exact d
  .unfold Mo.F4;split
   .exact d
   .rename_i b hb;obtain⟨⟨q,p,e⟩,_⟩:=jk hb;obtain⟨z,r,g,_⟩:=M.b1 q p;obtain⟨k,t⟩:=zP r;obtain⟨f,a,l,u⟩:∃f,(m.ac.set i { s with ws:=s.ws.set j (aA w) })[k]?=aA f/\f.tk=z.tk/\f.pc=z.pc:=by
     by_cases c:i=k
     .simp_all
     .exact⟨z,(kZ c).trans t,rfl,rfl⟩
    have n:=d.E7 so a;rw[l,g,e]at n;have o:=uH (bJ a) so;rw[l,g,e]at o;show CH _ _ (wq<|(m.ac.set i _).find? λs=>decide (s.tk=b));rw[o];exact n
 .exact d
theorem SI.dN(X:jW c):∀(l:'0') (j:Nat) (m:Mo) (s:Sl),MI c [] nG e m->SI c m.aY m->'5'->B3 m.ac=i+1->(∀k,j<=k->k<j+B3 l->s.ws[k]?=aA aD)->s.row.cQ.drop j=l->SI c m.aY (m.dN c.am i j l)/\(m.dN c.am i j l).ac.take i=m.ac.take i
 |[],_,m,s,I,S,_,_,_,_=>⟨S,rfl⟩
 |x::l,j,m,s,I,S,h,hn,hw,hd=>by
  have A:=hw j (aW _) (by grind);have E:s.row.cQ[j]?=aA x:=by rw[<- Tv j,<- Gi,hd];rfl
  have n:s.row.cQ.drop (j+1)=l:=by rw[<- OD,hd];rfl
  rw[Bu h];cases d:pF c.am (((s.bI[j]?).join).bind m.D9) (cell m.sd.bx x) with
  |none=>exact SI.dN X l (j+1) m s I S h hn (λk a b=>hw k (kG ‹_›) (by rw[zQ];lia)) n|some w=>
   have sl:∀z∈m.ac,s.bI[j]?=aA (aA z.tk)->((s.bI[j]?).join).bind m.D9=aA z:=λz g e=>by rw[e];exact uH g I.so
   have dn:∀z∈m.ac,s.bI[j]?=aA (aA z.tk)->z.dn c.am/\z.d3 c.am=aA w:=λz g e=>by
    rw[sl z g e]at d;unfold pF at d;dsimp only at d;split at d
    .rename_i F;refine⟨⟨F,?_⟩,d⟩;unfold Sl.d3 nF at d;split at d
     .assumption
     .exact bU d
    .exact bU d
   have V:WV c m.ac m.sd.bx s.bI[j]? s.row.cQ[j]? w:=⟨dn,λH y B=>by
    rw[E]at B;cases B;cases o:((s.bI[j]?).join).bind m.D9 with
    |none=>rw[o]at d;cases d;rfl|some z=>obtain⟨u,t,q⟩:=f'.1 o;have:z.tk=u:=of_decide_eq_true (yk (p:=λs:Sl=>decide (s.tk=u)) q);exact absurd (by rw[this];exact x6.1 t)<|H z<|wQ q⟩
   have v:wd w:=by
    cases o:((s.bI[j]?).join).bind m.D9 with
    |none=>rw[o]at d;cases d;exact nS I.sd.bw|some z=>obtain⟨u,t,q⟩:=f'.1 o;have G:=of_decide_eq_true (yk (p:=λs:Sl=>decide (s.tk=u)) q);have g:=wQ q;exact Az (I.sl z g) X (dn z g (by rw[G];exact x6.1 t)).2
   have J:=I.E1 h A v (λ_ _ _=>id) λu L=>⟨λz g e=>(dn z g (by grind)).1,id⟩;have gs:=(Bt (j:=j) (w:=w) I.so h).1;have r:(m.E1 i j w).ac.length=B3 m.ac:=by rw[<- aU (f:=Sl.cr),(I.gl (j:=j) (w:=w) h hn).1,aU]
   have C:(m.E1 i j w).aY=m.aY:=congrArg (·.2.1) Kw;obtain⟨D,K⟩:=SI.dN X l (j+1) (m.E1 i j w) _ J (by rw[C];exact S.E1 I h A V) gs (r.trans hn) (λk a b=>(kZ<|bZ ‹_›).trans (hw k (kG ‹_›) (by rw[zQ];lia))) n;rw[C]at D;refine⟨D,K.trans ?_⟩;have t1:(m.ac.set i { s with ws:='A' }).take i=m.ac.take i:=PH (aW _);revert r
   unfold Mo.E1;rw[h];dsimp only;split
   .split
    .exact λ_=>t1
    .unfold Mo.F4;split
     .exact λ_=>t1
     .intro r;show List.take i (List.filter _ _)=_;rw[pV.eq_of_length (r.trans (sT ..).symm)];exact t1
   .exact λ_=>t1
end
section
variable {rest:A0}{t:Int}{off:Int->AW}
theorem SI.kL{row:aH}{a:Nat}{dr gs:Bool}(X:jW c)(M:MI c [] nG m.nw m)(I:SI c m.aY m)(H:CH m.ac m.sd.pc m.ah)(hl:(B3 m.ac:Int)<c.sz)(hr:c.rs[m.ah.toNat]?=aA row):SI c (m.kL c row a dr gs).aY (m.kL c row a dr gs)/\CH (m.kL c row a dr gs).ac m.sd.pc (m.kL c row a dr gs).ah:=by
 have wn:∀k,0<=k->k<0+B3 row.cQ->(m.mN row a).ws[k]?=aA aD:=λk _ l=>by show(fB row.nw aD)[k]?=_;rw[yo,if_pos (by grind [wK])]
 have E:=M.F0 (a:=a) hl hr;obtain⟨_,J,ct,cr,b,d,st⟩:=MI.dN X row.cQ 0 (m.F0 row a) (m.mN row a) E yn dU (Ru<|X.rs _<|bJ hr) wn;obtain⟨S,tk⟩:=SI.dN X row.cQ 0 (m.F0 row a) (m.mN row a) E (I.F0 M) yn dU wn rfl;obtain⟨fi,_⟩:=(J.sl b<|bJ d).s0 st;have tk:=tk.trans (PF rfl);have n:'G'.ac.length=B3 m.ac+1:=by rw[<- aU,cr.1,aU];exact dU
 have e:b.cr=(m.mN row a).cr:=by have:=congrArg (·[B3 m.ac]?) cr.1;rw[eQ,eQ,d,show(m.F0 row a).ac[B3 m.ac]?=aA (m.mN row a) from yn]at this;exact cR this
 have f:=congrArg (·.2.1) e;have g:'G'.aY=m.aY+1:=congrArg (·.2.1) ct;unfold Mo.kL;dsimp only;rw[d];refine⟨?_,?_⟩
 .show SI c 'G'.aY _;rw[g];exact S.set J.so d rfl rfl rfl fi (λ_ _ h=>.inl h) (λ_=>id) (gZ _) (λ_ _ _=>rfl) (λp q h=>.inl ⟨q,h⟩) λ_ _ _ _ _ h=>by rw[show b.st=aD from st]at h;exact ff h
 .show CH (fE _ _ _) _ _;have eq:∀z,'G'.ac.set (B3 m.ac) z=m.ac++[z]:=λz=>by
   rw[<- List.take_append_drop (B3 m.ac) 'G'.ac,tk,List.set_append_right _ _ (aW _),Ua];have dl:B3 ('G'.ac.drop (B3 m.ac))=1:=by grind
   obtain⟨y,i⟩:=List.length_eq_one_iff.1 dl;rw[i];rfl
  rw[eq];refine H.app f (md fi) λj=>?_;unfold aH.pW;split
  .exact absurd ‹_› (j _ _)
  .rfl
def Iz{l:'0'}(x0:0<=x)(y0:0<=y)(h:x<B3 l):cell (l.set x.toNat v) y=if x=y then v else cell l y:=by
 unfold cell;rw[ib,ib];by_cases e:x=y
 .simp_all
 .rw[if_neg e,kZ (by lia)]
def SI.head(X:jW c)(M:MI c [] nG e m)(I:SI c m.aY m)(es:m.ac=s::rest)(hf:qw s.fi=aB):s.wi=s.row.cQ.map (cell m.sd.bx)/\∀x y d,s.row = .load x y d->0<=cell s.wi 0+d/\cell s.wi 0+d<c.am->s.eG=aA (cell m.sd.mem<|cell s.wi 0+d):=by
 have hm:s∈m.ac:=by left
 have S:=M.sl s hm;obtain⟨g,h⟩:=i'.1 hf;obtain⟨_,i,b,_⟩:=S.f1 g h;have ww:=yd (S.s1 i b).2.2;have so:=M.so;rw[es]at so;have le:∀z∈m.ac,s.tk<=z.tk:=λz hz=>by
  rw[es]at hz;rcases dT.1 hz with rfl|hz
  .grind
  .exact qj<|(jr.1 so).1 _ (bp.2 ⟨z,hz,rfl⟩)
 refine⟨Sv λj=>?_,λx y d k hr=>?_⟩
 .have wl:B3 s.wi=s.row.nw:=(aU ..).trans S.wl;rw[eQ];by_cases l:j<s.row.nw
  .obtain⟨w,hw⟩:∃w,s.wi[j]?=aA w:=⟨_,eD (by lia)⟩;obtain⟨x,f⟩:∃x,s.row.cQ[j]?=aA x:=⟨_,eD (by rw[wK];exact l)⟩;rw[hw,f];refine congrArg aA<|(I.wv s hm j w (by rw[ww,eQ,hw];rfl)).m (λz hz e=>?_) x f;exact absurd (S.nm _<|bJ e)<|vD.2<|le z hz
  .rw[Gj (by lia),Gj (by rw[wK];lia)];rfl
 .obtain⟨v,n,L⟩:=I.lv s hm S.t1 x y d k (by grind) hr;rw[n,L.m λz hz e=>?_];rcases L.u _ e with⟨a,_⟩|a
  .exact absurd a<|vD.2<|le z hz
  .exact oE _<|a z hz
end
section
variable {rest:A0}{t:Int}{off:Int->AW}{fl:Int->AW}{sd:Sd}
def Jt{cs:List Cr}:u∈fT x cs↔∃p∈cs,p.1=u/\aH.fx p.2.2.1=aA x:=by
 unfold fT;rw[j'];refine exists_congr λp=>and_congr_right λ_=>?_;split
 .rename_i h;exact⟨λe=>⟨cR e,h⟩,λe=>congrArg aA e.1⟩
 .simp_all
def NI.hd(N:NI off ((s::rest).map Sl.cr) fl)(hz:z∈rest)(hx:z.row.cQ[j]?=aA x):(z.bI[j]?=aA (aA s.tk)->aH.fx s.row=aA x)/\(aH.fx s.row=aA x->∃y∈s::rest,z.bI[j]?=aA (aA y.tk)):=by
 obtain⟨k,i⟩:=zP hz;have hn:=N.n (k+1) z.cr (by left);have e:z.bI[j]?=aA ((off x++fT x (((s::rest).map Sl.cr).take (k+1))).getLast?):=by rw[show z.bI=z.cr.2.2.2.1 from rfl,hn,eQ,show z.cr.2.2.1.cQ[j]?=aA x from hx];rfl
 rw[e];have g:s.cr∈((s::rest).map Sl.cr).take (k+1):=eL;refine⟨λh=>?_,λh=>?_⟩
 .rcases eh.1 (Gq<|cR h)with h|h
  .exact absurd (N.o x _ h s.cr eL)<|oE _
  .obtain⟨p,a,b,d⟩:=Jt.1 h;obtain⟨y,c,rfl⟩:=bp.1 (Tj a);have so:jJ (s::rest):=by have:=N.s;rw[iP]at this;exact this
   rw[so.eq eL c b]at d;exact d
 .have hm:=Jt.2 ⟨_,g,rfl,h⟩;obtain⟨u,f⟩:∃u,(fT x<|((s::rest).map Sl.cr).take (k+1)).getLast?=aA u:=by
   cases h:(fT x<|((s::rest).map Sl.cr).take (k+1)).getLast? with
   |some u=>left|none=>left
  obtain⟨p,a,b,_⟩:=Jt.1 (Gq f);obtain⟨y,c,rfl⟩:=bp.1 (Tj a);exact⟨y,c,by rw[List.getLast?_append,f];exact congrArg (λu=>aA (aA u)) b.symm⟩
def YQ(f:s.ft am=aD)(ok:nZ s.row)(bl:B3 sd.bx=8)(x0:0<=x):cell (sd.oY (s.d1 am) (s.d2 am) (s.d3 am)<|s.d4 am).bx x=if aH.fx s.row=aA x then(s.d3 am).getD 0 else cell sd.bx x:=by
 rw[show s.d1 am=aH.fx s.row by unfold Sl.d1;rw[f];rfl];unfold Sd.oY;cases h:aH.fx s.row with
 |some y=>
  obtain⟨a,b⟩:=Km ok h;rw[Iz a x0 (by left)];by_cases e:y=x
  .simp_all
  .simp_all
 |none=>cases s.d2 am<;>rfl
def Xt(f:s.ft am=aD):(∃x y d,s.row = .store x y d/\(sd.oY (s.d1 am) (s.d2 am) (s.d3 am)<|s.d4 am).mem=sd.mem.set (cell s.wi 1+d).toNat ((s.d3 am).getD 0))\/((∀x y d,s.row ≠ .store x y d)/\(sd.oY (s.d1 am) (s.d2 am) (s.d3 am)<|s.d4 am).mem=sd.mem):=by
 rw[show s.d1 am=aH.fx s.row by unfold Sl.d1;rw[f];rfl,show s.d2 am=s.row.Nn s.wi by unfold Sl.d2;rw[f];rfl];cases s.row with
 |store x y d=>exact .inl ⟨x,y,d,rfl,rfl⟩|_=>exact .inr ⟨(λ_ _ _ h=>nomatch h),rfl⟩
def SI.Nl{sl:'%'}(X:jW c)(M:MI c [] nG e m)(I:SI c m.aY m)(N:NI off (m.ac.map Sl.cr) m.fl)(es:m.ac=s::rest)(hf:qw s.fi=aB)(f:s.ft c.am=aD)(hb:∀p∈m.bg,p.1≠s.tk->p∈bg')(hs:∀p∈sto',p∈m.iE\/p.2=s.tk) :
  SI c m.aY { m with ac:=rest,bS:=sl,sd:=m.sd.oY (s.d1 c.am) (s.d2 c.am) (s.d3 c.am) (s.d4 c.am),kp:=kp',bg:=bg',iE:=sto',eC:=gon' }:=by
 have hm:s∈m.ac:=by rw[es];exact eL
 have S:=M.sl s hm;obtain⟨φ,ef⟩:=i'.1 hf;obtain⟨_,τ,est,_⟩:=S.f1 φ ef;have ww:=yd (S.s1 τ est).2.2;have so:=M.so;rw[es]at so N;have mr:∀{z},z∈rest->z∈m.ac:=λh=>by rw[es];exact eK _ h
 have lt:∀z∈rest,s.tk<z.tk:=λz hz=>(jr.1 so).1 _ (bp.2 ⟨z,hz,rfl⟩);have ms:∀{z},z∈m.ac->z=s\/z∈rest:=λh=>by rw[es]at h;exact dT.1 h
 refine⟨λz hz j w ew=>?_,λz hz _ x y d er h1 h2=>?_,λp hp=>?_⟩
 .have W:=I.wv z (mr hz) j w ew;refine⟨λy hy=>W.i y (mr hy),λH x hx=>?_⟩;obtain⟨n1,n2⟩:=N.hd hz hx;rw[YQ f (S.ok X) M.sd.bl (Ru ((M.sl z<|mr hz).ok X) x<|bJ hx).1];by_cases ho:z.bI[j]?=aA (aA s.tk)
  .rw[if_pos (n1 ho),(W.i s hm ho).2];rfl
  .have nf:aH.fx s.row≠aA x:=λh=>by
    obtain⟨y,hy,e⟩:=n2 h;rcases dT.1 hy with rfl|hy
    .exact ho e
    .exact H y hy e
   rw[if_neg nf];refine W.m (λy hy e=>?_) x hx;rcases ms hy with rfl|hy
   .exact ho e
   .exact H y hy e
 .obtain⟨v,a,L⟩:=I.lv z (mr hz) (M.sl z<|mr hz).t1 x y d er h1 h2;refine⟨v,a,hb _ L.b (Sr<|lt z hz),λy hy=>L.o y (mr hy),λy hy=>L.i y (mr hy),λH=>?_,λu eu=>?_⟩
  .have pl:∀x' y' d',s.row = .store x' y' d'->cJ s=aA (s.tk,aA (cell s.wi 1+d'),aA (cell s.wi 0)):=λx' y' d' e'=>by
    have l2:B3 s.wi=2:=by rw[show B3 s.wi=B3 s.ws from aU ..,S.wl,e'];rfl
    rw[nA e',ww,eQ,eQ];unfold cell;rw[ib,ib,eD (by omega:1<B3 s.wi),eD (by omega:0<B3 s.wi)];simp[eD,l2]
   have rm:=M.rm;by_cases hsr:z.src=aA s.tk
   .have k:=L.i s hm hsr;rcases Xt (sd:=m.sd) f with⟨x',y',d',e',em⟩|⟨e',_⟩
    .rw[pl x' y' d' e']at k;have k:=cR k;have k1:cell s.wi 1+d'=cell z.wi 0+d:=cR (congrArg (·.2.1) k);have k2:cell s.wi 0=v:=cR (congrArg (·.2.2) k);show v=cell (Sd.mem _) _;rw[em,k1,Iz h2.1 h2.1 '!',if_pos rfl,show s.d3 c.am=aA v by unfold Sl.d3;rw[f,e',<- k2];rfl];rfl
    .rw[lu e']at k;cases k
   .have vm:=L.m λy hy h=>by
     rcases ms hy with rfl|hy
     .exact hsr h
     .exact H y hy h
    show v=cell (Sd.mem _) _;rcases Xt (sd:=m.sd) f with⟨x',y',d',e',em⟩|⟨_,em⟩
    .rw[em];have ne:cell s.wi 1+d'≠cell z.wi 0+d:=λk=>by
      have k':=pl x' y' d' e';rw[k]at k';obtain⟨u,hu,le⟩:=L.o s hm _ k' (lt z hz);rcases L.u u hu with⟨_,y,hy,b⟩|b
      .rcases ms hy with rfl|hy
       .exact hsr (by rw[hu,b])
       .exact H y hy (by rw[hu,b])
      .exact absurd (b s hm)<|vD.2 le
     have r0:0<=cell s.wi 1+d'/\cell s.wi 1+d'<c.am:=by
      have f:=f;unfold Sl.ft at f;rw[e']at f;have f:(if 0<=cell s.wi 1+d'/\cell s.wi 1+d'<c.am then aD else aA (AV.tup [.str "place",.int (cell s.wi 1+d')]))=aD:=f;by_cases hc:0<=cell s.wi 1+d'/\cell s.wi 1+d'<c.am
      .exact hc
      .rw[if_neg hc]at f;cases f
     rw[Iz r0.1 h2.1 '!',if_neg ne];exact vm
    .rw[em];exact vm
  .rcases L.u u eu with⟨a,y,hy,b⟩|b
   .rcases ms hy with rfl|hy
    .exact .inr λy hy=>by rw[<- b];exact lt y hy
    .exact .inl ⟨a,y,hy,b⟩
   .exact .inr λy hy=>b y (mr hy)
 .rcases hs p hp with h|h
  .exact⟨(I.st p h).1,λz hz=>(I.st p h).2 z (mr hz)⟩
  .rw[h];exact⟨S.t1,lt⟩
theorem SI.take{o:'+'}(X:jW c)(M:MI c [] nG e m)(I:SI c m.aY m)(N:NI off (m.ac.map Sl.cr) m.fl)(es:m.ac=s::rest)(hf:qw s.fi=aB)(f:s.ft c.am=aD):SI c 'F'.aY 'F':=by
 unfold Mo.take Mo.uG;rw[show Sl.ft c.am { s with of:=o }=aD from f];dsimp only;unfold Mo.note;split
 .exact I.Nl (s:=s) X M N es hf f (λp a _=>a) λp a=>FG a
 .exact I.Nl (s:=s) X M N es hf f (λp a h=>Cw.2 ⟨a,h⟩) λp a=>.inl a
 .exact I.Nl (s:=s) X M N es hf f (λp a _=>a) λp a=>.inl a
def SI.nil(h:m.ac=[])(st:∀p∈m.iE,p.2<m.aY):SI c m.aY m:=⟨(λs a=>by left),(λs a=>by left),λp b=>⟨st p b,λz d=>by left⟩⟩
end
section
variable {t:Int}{off:Int->AW}
structure WS(c:Cf)(off:Int->AW)(m:Mo):Prop where
 S:SI c m.aY m
 H:CH m.ac m.sd.pc m.ah
 N:NI off (m.ac.map Sl.cr) m.fl
def Fp:Yc λm=>NI off (m.ac.map Sl.cr) m.fl:=⟨λb c y=>by left,λ{m t} h y=>by have e:(m.E7 t).ac.map Sl.cr=(m.ac.map Sl.cr).filter λp=>decide (p.1<t):=(OI (f:=Sl.cr) (p:=λp=>decide (p.1<t))).symm;rw[e];obtain⟨s,a,le⟩:=h;exact y.E7 ⟨s.cr,bp.2 ⟨s,a,rfl⟩,le⟩⟩
def N4(h:aH.fx r=aA x):∀y t,r ≠ .dA y t:=λy t e=>by rw[e]at h;exact bU h
def L5(y:WS c off m)(X:jW c)(I:MI c (t::ts) nG m.nw m)(hs:'5')(et:s.tk=t){Z:Mo->Prop}(hZ:∀m',MI c ts nG m'.nw m'->m'.ct=m.ct->WS c off m'->Z m'):∃s',Wc c m i s s' Z:=by
 have hm:=bJ hs;have S:=I.sl s hm;obtain⟨fi,U,st,du⟩:=I.td s hm (by left);have F:=I.fin hs et;obtain⟨s',o⟩:∃s':Sl,s'={ s with fi:=aA m.nw }:=⟨_,rfl⟩;rw[<- o]at F;have tk:s'.tk=s.tk:=by rw[o]
 have A:s'.row=s.row:=by rw[o]
 have q:s'∈(m.cO i s').ac:=vW hs;have K:=F.sl s' q;have D:=y.S.fin I hs fi o;have L:NI off ((m.cO i s').ac.map Sl.cr) (m.cO i s').fl:=Fp.u (nC hs (by rw[o];rfl)) rfl y.N;have nx:=md fi;have H1:s'.nx=s.ch->CH (m.cO i s').ac m.sd.pc m.ah:=λh=>y.H.set hs (by rw[o]) (h.trans nx.symm) A λ_=>by rw[o]
 have P:(∀x t,s.row ≠ .dA x t)->s'.nx=s.ch:=λh=>by simp_all[Sl.nx,A,o]
 refine⟨s',⟨λB C d=>MI c ts (λk l u=>u=s.tk/\(B<k\/(B=k/\C<=l))) m.nw d/\s'∈d.ac/\d.ct=m.ct/\WS c off d/\∀x t,s.row ≠ .dA x t,λd=>MI c ts nG m.nw d/\s'∈d.ac/\d.ct=m.ct/\(WS c off d/\(∀x t,s.row ≠ .dA x t)\/d=m.cO i s'/\∃x t,s.row = .dA x t),o,yd (S.s1 U st).2.2,MZ S,fi,λd h=>h.2.1,λ_=>⟨F.weak λ_ _ _=>lY,q,rfl,?_⟩,λx Y=>?_,λB d z h _=>⟨h.1.weak λk l u ⟨a,b⟩=>⟨a,.inl (by lia)⟩,h.2⟩,λn d h _=>?_,λd h=>?_⟩⟩
 .by_cases h:∃x t,s.row = .dA x t
  .simp_all
  .have h:=λx t e=>h ⟨x,t,e⟩;exact .inl ⟨⟨D,H1 (P h),L⟩,h⟩
 .obtain⟨f,fx⟩:=DP Y;obtain⟨w,hw⟩:=Je K (by left) f (.inl (by rw[fx];rfl));have r:=N4 (A▸fx);refine⟨w,hw,⟨F.weak λk l u h=>h.1,q,rfl,⟨D,H1 (P r),L⟩,r⟩,λB C d z h p hj=>⟨λhn=>?_,λhn=>⟨h.1.weak λk l u ⟨a,b⟩=>⟨a,by lia⟩,h.2⟩⟩⟩;obtain⟨g,M,E,G,_⟩:=h;rw[tk]at hn;have v:=g.nb B z C s.tk p hn (.inr ⟨rfl,.inr ⟨rfl,aW _⟩⟩);have Q:∀y∈d.ac,y.tk=s.tk->y=s':=λy J e=>g.so.eq M J (e.trans tk.symm);have dn:s'.dn c.am:=⟨by rw[o];rfl,f⟩;have O:=Kw (m:=d) (i:=B) (j:=C) (w:=w);have gt:(d.E1 B C w).aY=d.aY:=congrArg (·.2.1) O;have gd:(d.E1 B C w).sd=d.sd:=congrArg (·.2.2.2.2) O;have V:WV c d.ac d.sd.bx z.bI[C]? z.row.cQ[C]? w:=⟨λy J e=>by rw[hn]at e;rw[Q y J (cR<|cR e).symm];exact⟨dn,hw⟩,λH=>absurd hn (by rw[<- tk];exact H s' M)⟩
  refine⟨g.gv p v,g.E1 p v (Az K X hw) (λk l u ⟨a,b⟩=>⟨a,by lia⟩) λu R=>?_,O6 g.so p M (by rw[tk];exact(g.sl z<|bJ p).nm _ (bJ hn)),O.trans E,⟨by rw[gt];exact G.S.E1 g p v V,by rw[gd];exact G.H.E1 g p v,Fp.E1 p G.N⟩,r⟩;rw[hn]at R;cases R;exact⟨λy J e=>by rw[Q y J e];exact dn,λh=>by lia⟩
 .exact⟨h.1.weak λ_ _ _=>lY,h.2.1,h.2.2.1,.inl h.2.2.2⟩
 .obtain⟨g,M,E,G⟩:=h;have n3:d.nw=m.nw:=congrArg (·.1) E;have g:=n3▸g;rcases G with⟨W,r⟩|⟨rfl,x,t,N⟩
  .have e:d.jmp c.am s'=d:=by
    unfold Mo.jmp;rw[A];split
    .simp_all
    .rfl
   rw[e];exact hZ _ g E W
  .have d4:s'.d4 c.am=aA s'.nx:=by unfold Sl.d4 Sl.ft Sl.nx;rw[A,N];show aA _=aA (if qw s'.fi=aB then _ else _);rw[if_pos (by rw[o];rfl)]
   have d0:0<=s'.nx:=by have:=CZ (ws:=s'.wi) (K.ok X) K.p0;unfold Sl.d4 at d4;rw[show s'.ft c.am=aD by unfold Sl.ft;rw[A,N];rfl]at d4;rw[<- cR d4];exact this
   unfold Mo.jmp;rw[A,N];dsimp only;split
   .rename_i T;refine hZ _ g E ⟨D,H1 ?_,L⟩;rw[d4]at T;rw[cR T,o]
   .rw[d4];refine hZ _ (g.jj d0).E7 E ⟨SI.E7 ⟨D.wv,D.lv,D.st⟩ (λz p=>(g.sl z p).nm) (tk▸S.t1),?_,Fp.c ⟨s',q,qj (qk _)⟩ L⟩;exact y.H.jmp I.so hs (by rw[o]) A tk N
end
section
variable {k:Nat}{g:Gh}{n:Int}{off:Int->AW}{rest:A0}
def R6(h:m.hU c ≠ .aG)(b:m.brk=aB->m.ac=[]):m.ac=[]:=by
 unfold Mo.hU at h;split at h
 .exact b ‹_›
 .split at h
  .exact(‹_/\_›:_/\_).1
  .simp_all
def DD(h:m.hU c = .aG):m.brk=aJ:=by
 cases e:m.brk with
 |false=>rfl|true=>simp_all[Mo.hU,h,e]
structure Qr(rs:List aH)(s0:Sd)(ps:List (aH×Sd))(d:Nat)(sd:Sd)(b:Bool):Prop where
 f:b=aJ->ps.drop d=gA rs (150-d) sd/\∀p,0<d->ps[d-1]?=aA p->kN p.2 p.1=aD
 t:b=aB->∃p,ps.drop (d-1)=[p]/\0<d/\qw (kN p.2 p.1)=aB
 s:(nK s0 ps)[d]?=aA sd.av
 pc:sd.pc<=B3 rs
def P7(h0:0<=p)(h:rs[p.toNat]?=aA r)(tg:aH.tg r<=B3 rs):r.gs p ws<=B3 rs:=by
 have:=(dk.1 h).1;cases r with
 |go t=>exact tg|dA x t=>show ite _ _ _<=_;split;exact tg;lia|_=>show p+1<=_;lia
structure Qs(am:Int)(ps:List (aH×Sd))(i:Nat)(s:Sl):Prop where
 fi:qw s.fi=aB
 p:∃p,ps[i]?=aA p/\s.pc=p.2.pc/\s.row=p.1/\s.dd am=p.2.fZ p.1/\B3 s.bI<=2
def YS{sd:Sd}(f:s.ft c.am=aD)(hw:s.wi=iF sd.bx s.row)(pc:s.pc=sd.pc)(rm:c.am=B3 sd.mem)(hh:∀x y d,s.row = .load x y d->0<=cell s.wi 0+d/\cell s.wi 0+d<c.am->s.eG=aA (cell sd.mem<|cell s.wi 0+d)):sd.oY (s.d1 c.am) (s.d2 c.am) (s.d3 c.am) (s.d4 c.am)=qO sd s.row:=by
 unfold Sl.d1 Sl.d2 Sl.d3 Sl.d4;rw[f,pc,hw];rw[hw]at hh;unfold Sl.ft at f;rw[hw]at f;revert f hh
 cases s.row with
 |load x y d=>
  intro f hh;have f:(if 0<=cell (iF sd.bx<|.load x y d) 0+d/\cell (iF sd.bx<|.load x y d) 0+d<c.am then aD else aA (AV.tup [.str "place",.int (cell (iF sd.bx<|.load x y d) 0+d)]))=aD:=f;by_cases hr:0<=cell (iF sd.bx<|.load x y d) 0+d/\cell (iF sd.bx<|.load x y d) 0+d<c.am
  .rw[hh x y d rfl hr];rfl
  .rw[if_neg hr]at f;cases f
 |fault v=>intro f;cases f|_=>intros;rfl
theorem WS.start{t:Int×Int}{i:Nat}(W:WS c off m)(M:MI c [] nG m.nw m)(hs:'5')(st:s.st=aD):WS c off (m.start c t i s):=by
 have fi:=((M.sl s<|bJ hs).s0 st).1;have sc:=KP (m:=m) (c:=c) (i:=i) (s:=s) (t:=t);refine⟨by rw[show(m.start c t i s).aY=m.aY from congrArg (·.2.1) sc];exact W.S.start M hs st,?_,Fp.start hs W.N⟩;rw[show(m.start c t i s).sd=m.sd from congrArg (·.2.2.2.2) sc];unfold Mo.start;split
 .split
  .exact W.H
  .rename_i l _;have e1:({ s.nB l with st:=aA m.nw }:Sl).nx=s.nx:=by rw[md fi,md (s:={ s.nB l with st:=aA m.nw }) (by show(s.nB l).fi=aD;rw[fe.2.2.2.2.2];exact fi)];cases l<;>rfl
   exact W.H.set hs (by cases l<;>rfl) e1 (by cases l<;>rfl) λ_=>by cases l<;>rfl
 .exact W.H
def aRz{o:'+'}(bf:m.brk=aJ)(X:jW c)(I:MI c [] nG n m)(W:WS c off m)(es:m.ac=s::rest)(hf:qw s.fi=aB)(hd:d<150)(tg:∀r∈c.rs,aH.tg r<=B3 c.rs)(Q:Qr c.rs s0 ps d m.sd aJ):Qs c.am ps d { s with of:=o }/\Qr c.rs s0 ps (d+1) 'F'.sd 'F'.brk/\('F'.brk=aJ->∃off,WS c off 'F'):=by
 have hm:s∈m.ac:=by grind
 have S:=I.sl s hm;obtain⟨hw,a⟩:=W.S.head X I es hf;have H:=W.H;rw[es]at H;obtain⟨pc,H1⟩:=H.tail hf;have g:=pc▸S.hr;have i:s.ft c.am=kN m.sd s.row:=by unfold Sl.ft kN iF;rw[hw,I.rm]
 have dd:Sl.dd c.am { s with of:=o }=m.sd.fZ s.row:=by
  obtain⟨u,j⟩:=i'.1 hf;show(match s.fi with|none=>AV.aG|some _=>s.row.fZ s.pc s.wi c.am (oI s.eG))=_;rw[j];unfold Sd.fZ iK;rw[pc,I.rm,show s.wi=iF m.sd.bx s.row from hw];rw[hw]at a;rw[I.rm]at a;unfold aH.fZ;revert a
  cases s.row with
  |load x y d=>
   intro a;have a:=a x y d rfl;by_cases hr:0<=cell (iF m.sd.bx<|.load x y d) 0+d/\cell (iF m.sd.bx<|.load x y d) 0+d<(B3 m.sd.mem:Int)
   .rw[a hr];rfl
   .have:aH.ft (iF m.sd.bx<|.load x y d) (B3 m.sd.mem) (.load x y d)=aA (AV.tup [.str "place",.int (cell (iF m.sd.bx<|.load x y d) 0+d)]):=if_neg hr;rw[this]
  |_=>exact λ_=>rfl
 have b:=(Q.f rfl).1;rw[show 150-d=(150-(d+1))+1 by lia,Nr g]at b;have gK:ps[d]?=aA (s.row,m.sd):=by rw[<- Tv d,<- Gi,b];rfl
 have dr:ps.drop (d+1)=(match kN m.sd s.row with|some _=>[] | none=>gA c.rs (150-(d+1)) (qO m.sd s.row)):=by rw[<- OD,b];rfl
 have sn:(nK s0 ps)[d+1]?=aA (Sd.av (match kN m.sd s.row with|some _=>m.sd|none=>qO m.sd s.row)):=by unfold nK;rw[aWz,eQ,gK];rfl
 refine⟨⟨hf,_,gK,pc,rfl,dd,dF (Gw S.nl) wg⟩,?_⟩;cases f:s.ft c.am with
 |some v=>
  have tk:m.take c.am { s with of:=o } rest=({ m.uG c.am { s with of:=o } rest with brk:=aB }:Mo).E7 s.tk:=by unfold Mo.take;rw[show Sl.ft c.am { s with of:=o }=aA v from f]
  rw[tk];have k:(({ m.uG c.am { s with of:=o } rest with brk:=aB }:Mo).E7 s.tk).sd=m.sd:=by show(m.uG c.am { s with of:=o } rest).sd=m.sd;unfold Mo.uG;rw[show Sl.ft c.am { s with of:=o }=aA v from f]
  rw[k];rw[<- i,f]at dr b sn;exact⟨⟨(nofun),λ_=>⟨(s.row,m.sd),b,PY _,by rw[<- i,f];rfl⟩,sn,Q.pc⟩,nofun⟩
 |none=>
  have sd:'F'.sd=m.sd.oY (s.d1 c.am) (s.d2 c.am) (s.d3 c.am) (s.d4 c.am)/\'F'.brk=m.brk/\'F'.ac=rest/\'F'.ah=m.ah/\'F'.fl=m.fl:=by unfold Mo.take Mo.uG;rw[show Sl.ft c.am { s with of:=o }=aD from f];dsimp only;unfold Mo.note;split<;>exact⟨rfl,rfl,rfl,rfl,rfl⟩
  obtain⟨e,p,l,q,t⟩:=sd;rw[(YS f hw pc I.rm a)]at e;rw[<- i,f]at dr sn;refine⟨⟨λ_=>by left,(λh=>by rw[p,bf]at h;exact ff h),e▸sn,by rw[e];exact P7 (pc▸S.p0) g<|tg _<|bJ g⟩,λ_=>⟨λx=>off x++fT x [s.cr],W.S.take X I W.N es hf f,?_,?_⟩⟩
  .rw[l,e,q];have:(qO m.sd s.row).pc=s.row.gs s.pc s.wi:=by rw[pc,hw];rfl
   rw[this];exact H1
  .rw[l,t];have N:=W.N;rw[es]at N;exact N.take
end
section
variable {k:Nat}{g:Gh}{n:Int}{off:Int->AW}{rest:A0}
def aSa{o:'+'}:'F'.bS=m.bS++[(({ s with of:=o }:Sl).lt c.am).iD]:=by
 unfold Mo.take;split
 .rfl
 .unfold Mo.note;split<;>rfl
def aAt(X:jW c)(T:TI c n m)(W:m.brk=aJ->∃off,WS c off m)(n0:0<=n)(hn:n<100)(r:'*')(hh:m.hU c = .aG)(Q:Qr c.rs s0 ps d m.sd m.brk)(hd:d+8<=150)(tg:∀r∈c.rs,aH.tg r<=B3 c.rs)
  (q:∀(ss:A0) a g' m' h',aL c g' m' h'->TI c (n+1) m'->(m'.brk=aJ->∃off,WS c off m')->Qr c.rs s0 ps (d+B3 ss) m'.sd m'.brk->(∀(i:Nat) s,ss[i]?=aA s->Qs c.am ps (d+i) s)->B3 ss<=8->m'.bS=m.bS++ss.map (λs=>(s.lt c.am).iD)->h'.ob a=aA (.l aB<|ss.map λs=>(s.lt c.am).iD)->g'.kd a=28->h.nx<=a->a<h'.nx->bL c g h g' h'->R (.ref a) h'):WC (D1 pg (k+10) 121 [.ref c.b]) h R:=by
 obtain⟨I,rfl,tk,sl,bk⟩:=T;have bf:=DD hh;obtain⟨off,W⟩:=W bf;have w8:=X.w8;have w0:=X.w0;refine aSs (k:=k) r hh λN r1 Y=>?_;refine aRy (k:=k+1) r1 (by lia) w8 (λl f=>∃ss:A0,l=ss.map (λs=>(s.lt c.am).iD)/\(∀i s,ss[i]?=aA s->Qs c.am ps (d+i) s)/\(MI c [] nG m.nw f/\f.nw=m.nw+1/\f.aY=m.aY/\f.bS=m.bS++l/\(f.brk=aB->f.ac=[])/\(B3 l:Int)<=c.wd)/\Qr c.rs s0 ps (d+B3 ss) f.sd f.brk/\(f.brk=aJ->∃off,WS c off f)) ⟨[],rfl,(λ_ _ h=>nomatch h),⟨I.Nj,rfl,rfl,(nP _).symm,bk,by show(0:Int)<=_;lia⟩,Q,λ_=>⟨off,⟨W.S.wv,W.S.lv,W.S.st⟩,W.H,W.N⟩⟩ (λl f s rest p hl G hf=>?_) λl f a g2 h2 p hc Z ha C oa kd fb=>?_
 .obtain⟨ss,rfl,N,⟨J,H,e2,K,h2,_⟩,Q2,y⟩:=p;have o:f.brk=aJ:=by grind
  obtain⟨u,y⟩:=y o;rw[aU]at hl;have D:(B3 f.bS:Int)<900:=by grind
  obtain⟨T1,J2,f1,f2,O,f4⟩:=J.take X G hf (by lia);rw[o]at Q2;obtain⟨q1,q2,q3⟩:=aRz o X J y G hf '!' tg Q2;refine⟨T1,ss++[{ s with of:=aA f.nw }],by rw[eR];rfl,λi z P=>?_,⟨J2,f1.trans H,f2.trans e2,by rw[aSa,K,wO],λhb=>f4.elim (λw=>?_) id,by rw[dU,aU];exact hl⟩,by rw[dU];exact q2,q3⟩
  .by_cases hi:i<B3 ss
   .grind
   .rw[ym (Gx hi)]at P;have hk:=(dk.1 P).1;have ei:i=B3 ss:=by rw[Te]at hk;omega
    subst ei;rw[Ua]at P;cases P;exact q1
  .rw[w,o]at hb;exact ff hb
 obtain⟨ss,rfl,N,⟨J,H,e2,K,h3,l8⟩,Q2,y⟩:=p;rw[aU]at l8;have L:B3 ss<=8:=by omega
 have D:(B3 f.bS:Int)<=8*(m.nw+1):=by rw[K,dU,aU];omega
 have ha:=dF Y.nx ha;refine⟨g2,f,Z,λhl=>?_,λhl=>?_⟩
 .have G:=R6 hl h3;exact q ss a g2 f h2 Z ⟨J.emp G,H,'!',D,λ_=>G⟩ y Q2 N L K oa kd ha C<|Y.trans fb
 have o:=DD hl;obtain⟨u,y⟩:=y o;have ct:∀v:Mo,v.ct=f.ct->v.nw=m.nw+1/\v.aY=m.aY/\v.bS=f.bS/\v.brk=aJ/\v.sd=f.sd:=λv e=>⟨(congrArg (·.1) e).trans H,(congrArg (·.2.1) e).trans e2,congrArg (·.2.2.1) e,(congrArg (·.2.2.2.1) e).trans o,congrArg (·.2.2.2.2) e⟩;refine L6 (k:=k+1) Z rfl (λts v=>(MI c ts nG v.nw v/\v.ct=f.ct)/\WS c u v) ⟨⟨MI.u0 (by rw[H,Int.add_sub_cancel];exact J),rfl⟩,⟨y.S.wv,y.S.lv,y.S.st⟩,y.H,y.N⟩ (λt ts v p=>⟨p.1.1.rm,λh=>⟨⟨p.1.1.skip h,p.1.2⟩,p.2⟩,λi s E et=>L5 p.2 X p.1.1 E et λA a b d=>⟨⟨a,b.trans p.1.2⟩,d⟩⟩) λv g3 h3 p r3 O=>⟨⟨g3,v,r3⟩,?_⟩;refine aPr (k:=k+3) r3 (λi A=>(MI c [] nG A.nw A/\A.ct=f.ct)/\WS c u A) p (λi A s p E=>⟨λa b d=>?_,λhn=>p⟩) λA h4 p r4 f4=>⟨⟨g3,A,r4⟩,?_⟩
 .obtain⟨t,a1,a2,a3,a4,a5⟩:=p.1.1.start X E a b d;have sc:=KP (m:=A) (c:=c) (i:=i) (s:=s) (t:=t);exact⟨_,a1,a2,a3,a4,⟨by rw[show(A.start c _ i s).nw=A.nw from congrArg (·.1) sc];exact a5,sc.trans p.1.2⟩,p.2.start p.1.1 E b⟩
 obtain⟨d1,d2,d3,d4,d5⟩:=ct A p.1.2;refine K4 (k:=k+2) r4 '!' w8 (λi j=>(MI c [] nG j.nw j/\j.ct=(m.nw+1,m.aY+i,f.bS,aJ,f.sd))/\WS c u j) ⟨⟨p.1.1,by unfold Mo.ct;rw[d1,d2,d3,d4,d5];exact congrArg _<|congrArg (·,_) (Int.add_zero _).symm⟩,p.2⟩ (λi j p hi hl ha=>?_) λi j g5 h5 p hi r5 f5=>?_
 .obtain⟨⟨F,B⟩,M⟩:=p;have et:j.aY=m.aY+i:=congrArg (·.2.1) B;obtain⟨row,a1,a2,a3,a4⟩:=F.kL X hl ha '!';refine⟨row,a1,a2,a3,λa dr gs=>?_⟩;obtain⟨b1,b2,b4,b5⟩:=a4 a dr gs;have b3:(j.kL c row a dr gs).nw=j.nw:=congrArg (·.1) b2;have b6:(j.kL c row a dr gs).sd=j.sd:=congrArg (·.2.2.2.2) b2;have S:j.nw=m.nw+1:=congrArg (·.1) B;have U:j.bS=f.bS:=congrArg (·.2.2.1) B;have V:j.brk=aJ:=congrArg (·.2.2.2.1) B;have z4:j.sd=f.sd:=congrArg (·.2.2.2.2) B;obtain⟨s1,s2⟩:=SI.kL (a:=a) (dr:=dr) (gs:=gs) X F M.S M.H hl a1.hr;refine⟨⟨by rw[b3];exact b1,b2.trans (by rw[S,U,V,z4,et,Int.add_assoc];rfl)⟩,s1,by rw[b6];exact s2,?_⟩;rw[b4,b5];exact M.N.F0 (λx=>(F.fl x).1) λp hp=>by obtain⟨s,E,rfl⟩:=bp.1 hp;exact(F.sl s E).t1
 .obtain⟨⟨F,B⟩,M⟩:=p;have S:j.nw=m.nw+1:=congrArg (·.1) B;have U:j.bS=f.bS:=congrArg (·.2.2.1) B;have V:j.brk=aJ:=congrArg (·.2.2.2.1) B;have z4:j.aY=m.aY+i:=congrArg (·.2.1) B;have z5:j.sd=f.sd:=congrArg (·.2.2.2.2) B;have ob:=((O.trans f4).trans f5).ob a C kd (dF r.bx ha);rw[o,<- z5,<- V]at Q2;exact q ss a g5 j h5 r5 ⟨by rw[<- S];exact F,S,'!',by rw[U];exact D,λh=>by rw[V]at h;exact ff h⟩ (λ_=>⟨u,M⟩) Q2 N L (U.trans K) (ob.1.trans oa) ob.2 ha (bE C ((O.trans f4).trans f5).nx)<|(Y.trans fb).trans ((O.trans f4).trans f5)
end
def Wu{k:Nat}{v:AV}(hv:v = .aG\/(∃i,v = .int i)\/∃s,aB=aB/\v = .str s)(q:R (.bl aB) h):WC (D1 pg (k+1) 52 [v,v]) h R:=by
 refine aS rfl rfl ?_;rcases hv with rfl|⟨i,rfl⟩|⟨s,_,rfl⟩
 .exact q
 .have:R (.bl<|decide<|i=i) h:=by rw[decide_eq_true rfl];exact q
  exact this
 .have:R (.bl<|decide<|s=s) h:=by rw[decide_eq_true rfl];exact q
  exact this
def Ai:∀(n:Nat) {k:Nat}{v:AV}{h:AH}{R:AV->AH->Prop},Pl aB n v->R (.bl aB) h->WC (D1 pg (k+n+1) 52 [v,v]) h R:=by
 intro n;induction n with
 |zero=>intro k v h R c q;exact Wu c q|succ n j=>
  intro k v h R c q;rcases c with c|⟨xs,rfl,m,l⟩
  .exact Wu c q
  .refine aS rfl rfl<|aE.nt rfl<|WB.of ?_;with_reducible refine mQ (Fm ?_)
   refine⟨_,_,_,_,rfl,rfl,rfl,?_⟩;refine M8 (λi d e=>e=h/\∃a b,d=[aA (.tup xs),aA (.tup xs),a,b]) rfl (by rw[eN];lia) ⟨rfl,_,_,rfl⟩ ?_ ?_
   .rintro i x y d e f g ⟨rfl,a,b,rfl⟩
    rw[f]at g;cases g;exact kE _<|gR _<|j (k:=k) (l x<|bJ f) ⟨rfl,_,_,rfl⟩
   .rintro d e ⟨rfl,a,b,rfl⟩
    exact q
def jo{b:Bool}(e:h.ob n=aA (.l b xs)):uV h (.ref n)=aA .l:=by simp only[uV,e]
def Wv{k:Nat}(e1:h.ob n1=aA (.l b1 xs))(e2:h.ob n2=aA (.l b2 xs))(hp:∀x∈xs,Pl aB n x)(hl:B3 xs<=1000)(q:R (.bl aB) h):WC (D1 pg (k+n+2) 52 [.ref n1,.ref n2]) h R:=by
 refine aS rfl rfl ?_;refine B4 (jo e2)<|B4 (jo e2)<|B4 (jo e2)<|B4 (jo e2)<|B4 (jo e1) ?_;refine B5<|eP (bR e1)<|B5<|eP (bR e2)<|aE.nt rfl<|WB.of ?_;with_reducible refine mQ<|Fm ?_
 refine⟨_,_,_,_,rfl,kh e1,kh e2,?_⟩;refine BQ (xs:=xs) (ys:=xs) (λi c d=>d=h/\∃a b,c=[aA (.ref n1),aA (.ref n2),a,b]) rfl (by rw[eN];omega) ⟨rfl,_,_,rfl⟩ (λi c d y=>by rw[y.1];exact⟨e1,e2⟩) ?_ ?_
 .rintro i x y c d f1 f2 ⟨rfl,a,b,rfl⟩
  rw[f1]at f2;cases f2;exact kE _<|gR _<|Ai n (k:=k) (hp x<|bJ f1) ⟨rfl,_,_,rfl⟩
 .rintro c d ⟨rfl,a,b,rfl⟩
  exact q
def nH{o:'+'}:Pl aB n (oI o):=by
 have z:oI o = .aG\/(∃i,oI o = .int i)\/∃s,aB=aB/\oI o = .str s:=by
  cases o with
  |none=>exact .inl rfl|some v=>exact .inr<|.inl ⟨v,rfl⟩
 cases n with
 |zero=>exact z|succ n=>exact .inl z
def Ds{z:cT}{i:Int}:Pl aB (n+1) (.tup [.str z,.int i]):=.inr ⟨_,rfl,(by decide:2<=1000),λx hx=>by
 have z:∀{v:AV},(v = .aG\/(∃i,v = .int i)\/∃s,aB=aB/\v = .str s)->Pl aB n v:=λh=>by
  cases n with
  |zero=>exact h|succ n=>exact .inl h
 rcases dT.1 hx with rfl|hx
 .exact z<|.inr<|.inr ⟨_,rfl,rfl⟩
 .rw[a'.1 hx];exact z<|.inr<|.inl ⟨_,rfl⟩⟩
def N1:Pl aB (n+1) ((r.ft ws am).getD .aG):=by
 have z:Pl aB (n+1) AV.aG:=.inl (.inl rfl);cases r with
 |fault v=>exact Ds|way w x y z'=>
  show Pl aB (n+1) ((cond w.sr (if cell ws 1=0 then aA (AV.tup [.str "nought",.int (cell ws 0)]) else aD) aD:A4).getD .aG);cases w.sr with
  |false=>exact z|true=>
   split
   .exact Ds
   .exact z
 |load x y d=>
  show Pl aB (n+1) ((if 0<=cell ws 0+d/\cell ws 0+d<am then aD else aA (AV.tup [.str "place",.int (cell ws 0+d)]):A4).getD .aG);split
  .exact z
  .exact Ds
 |store x y d=>
  show Pl aB (n+1) ((if 0<=cell ws 1+d/\cell ws 1+d<am then aD else aA (AV.tup [.str "place",.int (cell ws 1+d)]):A4).getD .aG);split
  .exact z
  .exact Ds
 |_=>exact z
def fu(hl:B3 xs<=1000)(h:∀x∈xs,Pl aB n x):Pl aB (n+1) (.tup xs):=.inr ⟨xs,rfl,hl,h⟩
def HC:Pl aB 2 (.tup<|s.dt am):=fu (by decide:6<=1000) λx a=>by
 unfold Sl.dt at a;simp only[mS,lL,or_false]at a;rcases a with rfl|rfl|rfl|rfl|rfl|rfl
 .exact nH (o:=aA _)
 .exact nH
 .exact nH
 .exact nH
 .exact nH
 .exact N1
def aFm(hf:qw s.fi=aB)(hn:B3 s.bI<=2):Pl aB 3 (s.lt am).iD:=by
 unfold iI.iD;rw[show(s.lt am).dd = .tup (s.dt am) from ub hf];have up:∀{o:'+'},Pl aB 2 (oI o):=nH;refine fu (by decide:6<=1000) λx a=>?_;simp only[mS,lL,or_false]at a;rcases a with rfl|rfl|rfl|rfl|rfl|rfl
 .exact nH (o:=aA _)
 .exact nH (o:=aA _)
 .refine fu (by rw[aU];exact dF hn '#') λx a=>?_;obtain⟨o,_,rfl⟩:=bp.1 a;exact nH
 .exact up
 .exact HC
 .refine fu (by decide:4<=1000) λx a=>?_;simp only[mS,lL,or_false]at a;rcases a with rfl|rfl|rfl|rfl
  .exact nH (o:=aA _)
  .exact nH
  .exact nH
  .exact nH
def HD(h:B3 ws<=1000):Pl aB (n+1) (.tup<|ws.map AV.int):=fu (by left) λx a=>by obtain⟨w,_,rfl⟩:=bp.1 a;exact nH (o:=aA w)
def aFl{s:Sd}(h1:B3 s.bx<=1000)(h2:B3 s.mem<=1000):Pl aB 2 s.av:=fu (by decide:3<=1000) λx a=>by
 simp only[mS,lL,or_false]at a;rcases a with rfl|rfl|rfl
 .exact nH (o:=aA _)
 .exact HD h1
 .exact HD h2
def aFk:Pl aB 1 r.av:=by
 have zs:∀{s:cT},Pl aB 0 (.str s):=.inr (.inr ⟨_,rfl,rfl⟩);have b:∀{i:Int},Pl aB 0 (.int i):=.inr (.inl ⟨_,rfl⟩);cases r<;>refine fu (wV rfl) λx a=>?_<;>simp only[mS,lL,or_false]at a
 .rcases a with rfl|rfl|rfl|rfl<;>first|exact zs|exact b
 .rcases a with rfl|rfl|rfl<;>first|exact zs|exact b
 .rcases a with rfl|rfl|rfl<;>first|exact zs|exact b
 .rcases a with rfl|rfl|rfl|rfl<;>first|exact zs|exact b
 .rcases a with rfl|rfl|rfl|rfl<;>first|exact zs|exact b
 .rcases a with rfl|rfl|rfl<;>first|exact zs|exact b
 .rcases a with rfl|rfl<;>first|exact zs|exact b
 .rcases a with rfl|rfl<;>first|exact zs|exact b
section
variable {k:Nat}{sd:Sd}{b:Bool}{nd ns:Nat}
def vH(rs:List aH)(sd:Sd)(b:Bool):AV:=if b=aB then .str "fault" else if sd.pc=B3 rs then .str "end" else .aG
def Qr.len(Q:Qr rs s0 ps d sd b):d<=B3 ps:=by have:=(dk.1 Q.s).1;unfold nK at this;rw[zQ,aU]at this;lia
def R4(W:m.brk=aJ->∃off,WS c off m)(Q:Qr c.rs s0 ps d m.sd m.brk)(hs:∀s∈m.ac,0<=s.pc/\c.rs[s.pc.toNat]?=aA s.row):m.hU c=vH c.rs m.sd m.brk:=by
 unfold Mo.hU vH;cases e:m.brk with
 |true=>rfl|false=>
  obtain⟨off,W⟩:=W e;have ch:=W.H.ch;have pc:=Q.pc;rw[if_neg iA,if_neg iA];cases a:m.ac with
  |nil=>grind
  |cons s rest=>
   rw[a]at ch;have ch:s.pc=m.sd.pc:=by rw[fJ,eI,OA]at ch;exact ch.1
   obtain⟨p0,hr⟩:=hs s (a▸eL);grind
def Zn(p:aH×Sd):∃x1 x2 x3 x4,p.2.fZ p.1 = .tup [.int p.2.pc,x1,x2,x3,x4,(kN p.2 p.1).getD .aG]:=by
 unfold Sd.fZ iK aH.fZ;rw[show p.1.ft (iF p.2.bx p.1) (B3 p.2.mem:Int)=kN p.2 p.1 from rfl];cases kN p.2 p.1 with
 |none=>exact⟨_,_,_,_,rfl⟩|some f=>exact⟨_,_,_,_,rfl⟩
def Y0(od:h.ob nd=aA (.l aB<|eJ ps))(os:h.ob ns=aA (.l aB<|nK s0 ps))(Q:Qr rs s0 ps d sd b)(q:R (.bl aB) h):WC (D1 pg (k+1) 56 [vH rs sd b,.ref nd,.ref ns,.int (d:Int),.int (B3 rs:Int)]) h R:=by
 have dl:=Q.len;have tail:b=aJ->dY (D1 pg k) (bH Xn) [aA (vH rs sd b),aA (.ref nd),aA (.ref ns),aA (.int d),aA (.int (B3 rs:Int))] h (λ_ h1=>R .aG h1) R '6' λ_ _=>False:=λe=>by
  subst e;refine B5<|dZ (bR os) (L2.xP Q.s)<|C1 (λz=>?_) λz=>?_
  .rw[show vH rs sd aJ = .str "end" from if_pos z];exact q
  .rw[show vH rs sd aJ = .aG from if_neg z];exact q
 refine aS rfl rfl<|C1 (λd0=>?_) λd0=>?_
 .obtain⟨n,rfl⟩:∃n,d=n+1:=⟨d-1,by lia⟩;obtain⟨p,hp⟩:∃p,ps[n]?=aA p:=⟨_,eD ‹_›⟩;obtain⟨x1,x2,x3,x4,ed⟩:=Zn p;refine B5 (dZ (v:=p.2.fZ p.1) (bR od) ?_ ?_)
  .rw[show((n+1:Nat):Int)-1=n by lia];exact L2.xP (by simp_all[eJ,hp])
  rw[ed];cases b with
  |false=>rw[(Q.f rfl).2 p (PY _) hp];exact tail rfl
  |true=>
   obtain⟨p',e,_,f⟩:=Q.t rfl;have:ps[n]?=aA p':=by rw[<- Tv n,<- Gi,show n=n+1-1 from rfl,e];rfl
   rw[hp]at this;cases this;obtain⟨v,ef⟩:=i'.1 f;obtain⟨xs,rfl⟩:=uk ef;rw[ef];exact q
 .have:b=aJ:=by
   cases b with
   |false=>rfl|true=>obtain⟨_,_,h0,_⟩:=Q.t rfl;lia
  exact tail this
end
section
variable {k:Nat}{g:Gh}{sd:Sd}{b:Bool}{nd ns a:Nat}{ss:A0}
def j7(h:d+n<=B3 xs):eU xs (aA (d:Int)) (aA<|(d:Int)+(n:Int))=(xs.drop d).take n:=by unfold eU;rw[show d+n=((d+n:Nat):Int) by lia,HT.yW,HT.yW,qv h,qv (dF (oJ d n) h),aXh]
def aPa(hf:qw s.fi=aB):(s.lt am).iD = .tup [.int s.tk,.int s.pc,.tup (s.bI.map oI),oI s.src,s.dd am,.tup [.int s.C9,oI s.st,oI s.fi,oI s.of]]:=rfl
def Z2(oa:h.ob a=aA (.l aB<|ss.map λs=>(s.lt am).iD))(la:a<h.nx)(od:h.ob nd=aA (.l aB<|eJ ps))(ld:nd<h.nx)(hq:∀(i:Nat) s,ss[i]?=aA s->Qs am ps (d+i) s)(sl:B3 ss<=8)(dl:d+B3 ss<=B3 ps)(q:∀h',Kp h h'->R (.bl aB) h'):WC (D1 pg (k+4) 57 [.ref a,.ref nd,.int (d:Int)]) h R:=by
 have E4:sizeLine=16777216:=lB;have ll:(B3 (ss.map λs=>(s.lt am).iD):Int)=B3 ss:=by rw[aU]
 have ld2:(B3 (eJ ps):Int)=B3 ps:=by unfold eJ;rw[aU]
 refine aS rfl rfl<|B4 (jo oa)<|B5<|eP (bR oa)<|B5<|eP (bR od)<|C4 (by rw[ll,ld2];omega)<|WB.of ?_;with_reducible refine mQ<|Fm ?_
 refine mP _ ?_;refine rC<|B5<|eP (bR oa)<|B5<|uJ od ?_;rw[ll,j7 (by unfold eJ;rw[aU];exact dl)];have k1:Kp h (h.C8<|.l aB<|((eJ ps).drop d).take (B3 ss)):=B6.C8;have o1:(h.C8<|.l aB<|((eJ ps).drop d).take (B3 ss)).ob h.nx=aA (.l aB<|((eJ ps).drop d).take (B3 ss)):=bC;generalize h.C8 (.l aB<|((eJ ps).drop d).take (B3 ss))=h1 at k1 o1 ⊢;have oa1:=k1.get la oa;refine⟨_,_,_,_,rfl,kh oa1,kh o1,?_⟩;refine BQ (xs:=ss.map λs=>(s.lt am).iD) (ys:=((eJ ps).drop d).take (B3 ss)) (λi Z h'=>h'=h1/\∃x y,Z=[aA (.ref a),aA (.ref nd),aA (.int (d:Int)),x,y]) (by rw[aU,oH,Gp];unfold eJ;rw[aU];omega) (by rw[aU,eN];omega) ⟨rfl,_,_,rfl⟩ (λi Z h' y=>by rw[y.1];exact⟨oa1,o1⟩) ?_ ?_
 .rintro i x y Z h' hx hy ⟨rfl,u,v,rfl⟩
  obtain⟨s,es,rfl⟩:=kO hx;obtain⟨fi,p,hp,pc,er,dd,hn⟩:=hq i s es;have il:=(dk.1 es).1;have ey:y=p.2.fZ p.1:=by rw[Gk,if_pos il,Gi]at hy;unfold eJ at hy;rw[eQ,hp]at hy;exact(cR hy).symm
  obtain⟨x1,x2,x3,x4,ed⟩:=Zn p;have pl:Pl aB 2 (p.2.fZ p.1):=by rw[<- dd,ub fi];exact HC
  subst ey;rw[aPa fi,dd];refine kE _<|gR _<|Ai 2 (k:=k) pl ?_;rw[ed,pc];exact Ai 0 (k:=k+2) (v:=.int p.2.pc) (.inr<|.inl ⟨_,rfl⟩) ⟨rfl,_,_,rfl⟩
 .rintro Z h' ⟨rfl,u,v,rfl⟩
  exact q _ k1
def LI(r:'*')(q:R (.ref h.nx) (h.C8<|.l aB m.bS)):WC (D1 pg (k+1) 123 [.ref c.b]) h R:=aS rfl rfl (B4 (r.at 0)<|B4 (r.at 11)<|B5<|pv (bR<|r.at 12) q)
def aAi(r:'*')(q:R m.sd.av h):WC (D1 pg (k+1) 125 [.ref c.b]) h R:=aS rfl rfl (B4 (r.at 0)<|B4 (r.at 11) q)
def aL.o0(r:'*'):h.ob c.b=aA (.ins 20 [("window",'4'),("ledger",'?')]):=r.at 0
def T4(r:'*')(q:∀h',Kp h h'->h'.ob h.nx=aA (.l aB<|m.ac.map λs=>(s.lt c.am).iD)->h.nx<h'.nx->R (.ref h.nx) h'):WC (D1 pg (k+2) 124 [.ref c.b]) h R:=by
 have sn:=r.W.sn;have E4:=lU;refine aS rfl rfl<|B5<|zI<|qZ<|B4 r.o0<|B4 (r.at 1)<|sQ r.lJ.1 ?_;refine Jb (λj a b h'=>h'=h/\(∃v0,b=[v0])/\a=((m.ac.take j).map λs=>(s.lt c.am).iD)) (by grind [eN]) ⟨rfl,⟨_,rfl⟩,rfl⟩ (λ_ _ _ _ y=>y.1▸r.lJ.1) (λj x a b h' d y=>?_)<|λa b h' y=>?_
 .obtain⟨rfl,⟨v0,rfl⟩,rfl⟩:=y;obtain⟨s,hr,rfl⟩:=kO d;have e:m.ac.take (j+1)=m.ac.take j++[s]:=by rw[wU,hr];rfl
  refine xv<|cK _<|B4 (r.dD<|bJ hr)<|Px (r.dD<|bJ hr) ⟨?_,rfl,⟨_,rfl⟩,?_⟩
  .grind
  .simp_all
 .obtain⟨rfl,⟨v0,rfl⟩,rfl⟩:=y;rw[aU,ic];exact q _ B6.C8 bC<|cD _
def U6:nV (vH rs sd b)=aJ\/vH rs sd b = .aG:=by
 unfold vH;split
 .exact .inl rfl
 .split
  .exact .inl rfl
  .simp_all
def aL.yL(r:'*')(p:Nat×bA)(hp:p∈c.lo):p.1<c.b/\p.1<h.nx/\h.ob p.1=aA p.2:=by obtain⟨K,G⟩:=r.G;have z:=G.lo p hp;exact⟨z.2.1,bE z.2.1 r.bx,z.2.2⟩
def aL.aNo{l:List (Nat×bA)}(r:aL { c with lo:=(n,o)::l } g m h)(hn:∀p∈l,p.1≠n):aL { c with lo:=(n,o')::l } g m (h.C9 n o'):=by
 obtain⟨X,⟨K,G⟩,W⟩:=r;obtain⟨b,a,f⟩:=G.lo (n,o) eL;have a:=a;refine⟨⟨λi o e=>?_,λk j o d e=>?_⟩,⟨K,λj t e=>?_,G.g,G.n,G.lt,λp hp=>?_⟩,W⟩
 .have z:=X.st i o e;exact⟨z.1,z.2.1,(bD (by grind)).trans z.2.2⟩
 .have z:=X.dy k j o d e;exact⟨z.1,z.2.1,z.2.2.1,(bD (by lia)).trans z.2.2.2⟩
 .exact(G.T j t e).imp λ_ y=>⟨(bD λw=>by rw[w,b]at e;exact bU e).trans y.1,y.2⟩
 .rcases dT.1 hp with rfl|hp
  .exact⟨b,a,bO⟩
  .have y:=G.lo p (eK _ hp);exact⟨y.1,y.2.1,(bD<|hn p hp).trans y.2.2⟩
end
section
variable {g:Gh}
def Fe{o:Ex}(w:wE F o Z h λx h1=>WC (yA x) h1 Q):WC (aM F (.clear o) Z) h Q:=B5 (aVb<|(cK _ w).D2 λ_ _ w=>w.we)
structure LJ(c:Cf)(s0:Sd)(ps:List (aH×Sd))(nt i:Nat)(g:Gh)(m:Mo)(h:AH):Prop where
 r:'*'
 T:TI c i m
 W:m.brk=aJ->∃off,WS c off m
 Q:Qr c.rs s0 ps (B3 m.bS) m.sd m.brk
 ot:h.ob nt=aA (.l aB m.bS)
 lt:nt<h.nx
 kt:g.kd nt=28
 bt:c.b<=nt
 pl:∀x∈m.bS,Pl aB 3 x
def M5:aQ->aQ
 |.cons (.xY _ _ b) _=>b
 |_=>.nil
noncomputable abbrev EC:aQ:=bH (bH<|bH<|bH<|bH<|bH<|bH<|bH<|bH<|bH<|bH<|bH<|bH<|bH Am)
def X0{nt nd ns nh:Nat}{sz wd:Int}{v14:A4}{B:aF->AH->Prop}(X:jW c)(hi:i<60)(lo1:(nr,bA.l aB (c.rs.map aH.av))∈c.lo)(lo2:(nd,bA.l aB (eJ ps))∈c.lo)(lo3:(ns,bA.l aB (nK s0 ps))∈c.lo)(tg:∀r∈c.rs,aH.tg r<=B3 c.rs)(L:LJ c s0 ps nt i g m h)
  (qn:∀nt v14 g m h,LJ c s0 ps nt (i+1) g m h->N [aA (.ref 0),aA (.bl calm),aA (.ref nr),aA sd0.av,aA (.ref nd),aA (.ref ns),aA (.int sz),aA (.int wd),aA (.ref gu),aA (.ref nv),aA (.ref nh),aA (.ref c.b),aA (.ref nt),aA (.int<|0+(i:Int)),v14] h)(qb:∀nt v13 v14 g m h,LJ c s0 ps nt i g m h->B [aA (.ref 0),aA (.bl calm),aA (.ref nr),aA sd0.av,aA (.ref nd),aA (.ref ns),aA (.int sz),aA (.int wd),aA (.ref gu),aA (.ref nv),aA (.ref nh),aA (.ref c.b),aA (.ref nt),v13,v14] h) :
  dY (D1 pg 23) (M5 EC) [aA (.ref 0),aA (.bl calm),aA (.ref nr),aA sd0.av,aA (.ref nd),aA (.ref ns),aA (.int sz),aA (.int wd),aA (.ref gu),aA (.ref nv),aA (.ref nh),aA (.ref c.b),aA (.ref nt),aA (.int<|0+(i:Int)),v14] h N R B N:=by
 have E4:=lB;have Y:=L;obtain⟨r,T,W,Q,ot,lt,kt,bt,pl⟩:=L;obtain⟨_,_,or⟩:=r.yL _ lo1;obtain⟨bd,ld,od⟩:=r.yL _ lo2;obtain⟨bs,ls,os⟩:=r.yL _ lo3;have l:=R4 W Q λs A=>⟨(T.I.sl s A).p0,(T.I.sl s A).hr⟩;refine B4 r.o0<|Bw r<|B5<|eP (bR ot)<|B5<|eP (bR or) ?_;rw[l,aU];refine Y0 od os Q ?_;refine B4 r.o0<|Bw r ?_;rcases U6 with z|z
 .rw[l];exact B7 (by rw[z];rfl)<|qb _ _ _ _ _ _ Y
 rw[l,z];refine B5<|eP (bR ot)<|C1 (λ_=>qb _ _ _ _ _ _ Y) λZ=>?_;rw[z]at l;refine B4 r.o0<|aAt X T W (by lia) (by lia) r l Q (by lia) tg λss a g1 d h1 r1 T1 W1 C hq sl F oa ka la e f1=>?_;obtain⟨_,G,H⟩:=r1.yL _ lo2;obtain⟨f,kt1⟩:=f1.ob nt lt kt bt;rw[ot]at f;have I:=bE lt f1.nx;have d1:=C.len;refine B5<|eP (bR f)<|Z2 oa e H G hq sl d1 λb k2=>?_;have n:=k2.get e oa;have J:=bE e k2.nx;have r2:=r1.D7 k2;refine B5<|Fg (k2.get I f) n (by rw[aU];omega) ?_;rw[<- F];have K:Kp b (b.C8<|.l aB d.bS):=B6.C8;have o3:(b.C8<|.l aB d.bS).ob b.nx=aA (.l aB d.bS):=bC;have M:b.nx<(b.C8<|.l aB d.bS).nx:=cD _;have r3:=r2.fresh K (aW _);have b3:=r2.bx;generalize b.C8 (.l aB d.bS)=O at K o3 M r3 ⊢;have q:b.nx≠a:=by omega
 have P:(if a=b.nx then 28 else g1.kd a)=28:=(if_neg λw=>q w.symm).trans ka;have ba:=dF r.bx la;refine Fe<|B5<|Fh (K.get J n) ?_;have D:Kx [a] O (O.C9 a<|.l aB []):=Kx.refl.C9 (a'.2 rfl);have t:=r3.Co ba P D;have o4:=D.get M (λw=>q (a'.1 w)) o3;have u:=bE M D.nx;generalize O.C9 a (.l aB [])=k at D t o4 u ⊢;refine Fe<|B4 t.o0<|LI t<|B5<|Fh bC ?_;have v:=(t.fresh (B6.C8 (o:=.l aB d.bS))<|aW _).Co t.bx (if_pos rfl) (Kx.refl.C9 (o:=.l aB [])<|a'.2 rfl);have o5:((k.C8<|.l aB d.bS).C9 k.nx (.l aB [])).ob b.nx=aA (.l aB d.bS):=(bD<|bZ u).trans ((dO<|bZ u).trans o4);have y:b.nx<((k.C8<|.l aB d.bS).C9 k.nx (.l aB [])).nx:=kH u;generalize (k.C8<|.l aB d.bS).C9 k.nx (.l aB [])=S at v o5 y ⊢;refine Fe<|B4 v.o0<|T4 v λh6 U o6 l6=>B5 (Fh o6 ?_);have E:=(v.fresh U<|aW _).Co v.bx (if_pos rfl) (Kx.refl.C9 (o:=.l aB [])<|a'.2 rfl);have o7:(h6.C9 S.nx<|.l aB []).ob b.nx=aA (.l aB d.bS):=(bD<|bZ y).trans (U.get y o5);have l7:=bE y U.nx;obtain⟨_,ls7,V⟩:=E.yL _ lo3;have el:B3 d.bS=B3 m.bS+B3 ss:=by rw[F,dU,aU]
 rw[<- el]at C;refine B4 E.o0<|aAi E<|B5<|eP (bR o7)<|B5<|dZ (bR V) (L2.xP C.s) ?_;have rm:=T1.I.rm;have crm:=X.rm;refine Ai 2 (aFl (by rw[T1.I.sd.bl];decide) '!') ?_;refine qn _ _ _ _ _ ⟨E,by grind,W1,C,o7,l7,?_,b3,λx hx=>?_⟩
 .show(if b.nx=S.nx then 28 else if b.nx=k.nx then 28 else if b.nx=b.nx then 28 else g1.kd b.nx)=28;rw[if_neg (bZ y),if_neg (bZ u),if_pos rfl]
 .rw[F]at hx;rcases eh.1 hx with hx|hx
  .exact pl x hx
  .obtain⟨s,A,rfl⟩:=bp.1 hx;obtain⟨j,hj⟩:=zP A;obtain⟨fi,p,_,_,_,_,hn⟩:=hq j s hj;exact aFm fi hn
end
section
variable {k:Nat}
def aOr{c:Int}(q:∀a b,1<=a->a<=32->1<=b->b<=8->R (.tup [.int a,.int b]) h):WC (D1 pg (k+2) 55 [.int c]) h R:=by refine aS rfl rfl<|tW (by lia) (by lia) λz f g=>?_;have d:∀a,1<=a->a<=32->dY (D1 pg<|k+1) (bH<|bH<|bH Xp) [aA (.int c),aA (.int z),aA (.int a),aD] h (λ_ e=>R .aG e) R '6' λ_ _=>False:=λa a1 a2=>C1 (λ_=>q _ _ a1 a2 (by lia) (by lia)) λ_=>q _ _ a1 a2 (by lia) (by lia);exact C1 (λ_=>d _ (by lia) (by lia)) λ_=>d _ (by lia) '!'
theorem HM{rs:List aH}:∀{n:Nat}{s:Sd},B3 (gA rs n s)<=n
 |0,s=>aW _
 |n+1,s=>by
  cases e:rs[s.pc.toNat]? with
  |none=>
   have:gA rs (n+1) s=[]:=by show(match rs[s.pc.toNat]? with|none=>[] | some r=>_)=_;rw[e]
   left
  |some r=>
   rw[Nr e];cases f:kN s r with
   |some v=>exact Gz<|jD _|none=>exact Gz HM
def aGb:∃ms:'0',eU (ns.map AV.int) (aA 8) (aA 63)=ms.map AV.int/\B3 ms<=55:=by
 refine⟨(ns.drop<|HT.cA (B3 ns) 0<|aA 8).take (HT.cA (B3 ns) (B3 ns) (aA 63)-HT.cA (B3 ns) 0 (aA 8)),?_,?_⟩
 .unfold eU;rw[aU,yr,Tf]
 .rw[show(aA 8:'+')=aA ((8:Nat):Int) from rfl,show(aA 63:'+')=aA ((63:Nat):Int) from rfl,HT.yW,HT.yW,oH];refine dF (PV _ _) ?_;rcases PR 8 (B3 ns) with h|h
  .rw[qv h];exact PX (PV 63 _) 8
  .rw[Nat.min_eq_right h];exact dF (PX (Tz 63 _) _) (by left)
def ED(hns:B3 ns<=63)(e0:h.ob 0=aA (.l aJ<|ns.map AV.int))(z0:0<h.nx)(Rw:sj h nr rs)(lr:nr<h.nx)(hl:B3 rs<=60)(ok:sd0.ok)(pc:sd0.pc<=B3 rs)(ml:B3 sd0.mem<=80) :
  dY (D1 pg 23) (bH<|bH<|bH<|bH<|bH Am) [aA (.ref 0),aA (.bl calm),aA (.ref nr),aA sd0.av,aD,aD,aD,aD,aD,aD,aD,aD,aD,aD,aD] h '6' (λv _=>v = .bl aB) '6' λ_ _=>False:=by
 have E4:sizeLine=16777216:=lB;refine aFt (k:=20) Rw lr ok hl λh1 nd nss k1 nd0 ld ns0 ls od os=>?_;have e1:=k1.get z0 e0;refine oZ (k:=22) '#' e1 λc3=>aOr (k:=21) λsz wd s1 s2 d1 d2=>?_;have z1:=bE z0 k1.nx;refine oZ (k:=22) '#' e1 λc5=>EG (k:=19) (K:=λ_=>aD) (b:=10) e1 z1 hns (λ_ _ e=>nomatch e) (λ_ _ e=>nomatch e) λh6 gu K6 k6 T6 l6 a6 g6=>?_;have e6:=k6.get z1 e1;have z6:=bE z1 k6.nx;refine oZ (k:=22) '#' e6 λc6=>oZ (k:=22) '#' e6 λc7=>EG (k:=19) e6 z6 hns T6 l6 λh7 nv K7 k7 T7 l7 a7 g7=>?_;have k17:=k6.trans k7;have e7:=k17.get z1 e1;have z7:=bE z1 k17.nx;have or1:=k1.get lr Rw.1;have lr1:=bE lr k1.nx;have or7:=k17.get lr1 or1;refine B5<|pv (bR or7) ?_;have k8:Kp h7 (h7.C8 'D'):=B6.C8;have o8:(h7.C8 'D').ob h7.nx=aA 'D':=bC;have l8:h7.nx<(h7.C8 'D').nx:=cD _;generalize h7.C8 'D'=h8 at k8 o8 l8 ⊢;refine oZ (k:=22) '#' (k8.get z7 e7) λc4=>aRs (k:=21) λh9 tb k9 tok=>?_;have k79:=k8.trans k9;have k19:=k17.trans k79;have o9:=k9.get l8 o8;have l9:=bE l8 k9.nx;have low:∀{x:Nat}{o:bA},x<h1.nx->h1.ob x=aA o->K7 x=aD/\x<h9.nx/\h9.ob x=aA o:=λ{x o} hx ho=>⟨(a7 x<|bE hx k6.nx).trans (a6 x hx),bE hx k19.nx,k19.get hx ho⟩;have K7n:K7 h7.nx=aD:=by
  cases e:K7 h7.nx with
  |none=>rfl|some t=>exact absurd (l7 _ _ e)<|nQ _
 have G:mF ⟨h9.nx,rs,sz,wd,tb,gu,nv,(B3 sd0.mem:Int),[(h7.nx,'D'),(0,.l aJ (ns.map AV.int)),(nr,'D'),(nd,.l aB (eJ<|gA rs 150 sd0)),(nss,.l aB (nK sd0<|gA rs 150 sd0))]⟩ 10 K7 h9:=by
  refine⟨T7.kp l7 k79,(a7 _<|l6 _ _ g6).trans g6,g7,λj t e=>bE (l7 j t e) k79.nx,λp hp=>?_⟩;rcases dT.1 hp with rfl|hp
  .exact⟨K7n,l9,o9⟩
  rcases dT.1 hp with rfl|hp
  .exact low z1 e1
  rcases dT.1 hp with rfl|hp
  .exact low lr1 or1
  rcases dT.1 hp with rfl|hp
  .exact low ld od
  .rw[a'.1 hp];exact low ls os
 refine aAb (k:=20) (sd:=sd0) rfl o9 l9 G λg8 hA rA kA=>⟨rfl,?_⟩;have kA:Kp h9 hA:=kA;obtain⟨_,lh,oh⟩:=rA.yL (h7.nx,_) eL;obtain⟨_,_,orA⟩:=rA.yL (nr,_) (eK _<|eK _ eL);refine Wv (n:=1) (k:=20) oh orA (λx hx=>?_) (by rw[aU];omega) ?_
 .obtain⟨r,_,rfl⟩:=bp.1 hx;exact aFk
 refine Fe<|B5<|Fh oh ?_;have ne1:∀{x:Nat},x<h1.nx->x≠h7.nx:=λhx w=>nQ _ (bE (w▸hx) k17.nx);have rB:=aL.aNo (c:=⟨h9.nx,rs,sz,wd,tb,gu,nv,(B3 sd0.mem:Int),[]⟩) (o':=.l aB []) rA λp hp=>by
  rcases dT.1 hp with rfl|hp
  .exact ne1 z1
  rcases dT.1 hp with rfl|hp
  .exact ne1 lr1
  rcases dT.1 hp with rfl|hp
  .exact ne1 ld
  .rw[a'.1 hp];exact ne1 ls
 generalize hA.C9 h7.nx (.l aB [])=hB at rB ⊢;have X:jW ⟨h9.nx,rs,sz,wd,tb,gu,nv,(B3 sd0.mem:Int),[(h7.nx,.l aB []),(0,.l aJ (ns.map AV.int)),(nr,'D'),(nd,.l aB (eJ<|gA rs 150 sd0)),(nss,.l aB (nK sd0<|gA rs 150 sd0))]⟩:=⟨λr hr=>(Rw.2 r hr).1,tok,s2,d1,d2,by show(B3 sd0.mem:Int)<=80;omega⟩;have I:=aAa (sd:=sd0) X (by show 0<=sz;omega) ok rfl;generalize hc:(⟨h9.nx,rs,sz,wd,tb,gu,nv,(B3 sd0.mem:Int),[(h7.nx,.l aB []),(0,.l aJ (ns.map AV.int)),(nr,'D'),(nd,.l aB (eJ<|gA rs 150 sd0)),(nss,.l aB (nK sd0<|gA rs 150 sd0))]⟩:Cf)=c at X I rB;have ecb:h9.nx=c.b:=by rw[<- hc]
 have ers:c.rs=rs:=by rw[<- hc]
 have elo:c.lo=[(h7.nx,.l aB []),(0,.l aJ (ns.map AV.int)),(nr,'D'),(nd,.l aB (eJ<|gA rs 150 sd0)),(nss,.l aB (nK sd0<|gA rs 150 sd0))]:=by rw[<- hc]
 clear hc;rw[ecb];subst ers;have loh:(h7.nx,bA.l aB [])∈c.lo:=by rw[elo];exact eL
 have lo1:(nr,bA.l aB (c.rs.map aH.av))∈c.lo:=by rw[elo];exact eK _<|eK _ eL
 have lo2:(nd,bA.l aB (eJ<|gA c.rs 150 sd0))∈c.lo:=by rw[elo];exact eK _<|eK _<|eK _ eL
 have lo3:(nss,bA.l aB (nK sd0<|gA c.rs 150 sd0))∈c.lo:=by rw[elo];exact eK _<|eK _<|eK _<|eK _ eL
 have T0:TI c (0:Nat) (fm sd0):=⟨I,rfl,gZ _,gZ _,λh=>nomatch h⟩;have L0:∀{o:bA},LJ c sd0 (gA c.rs 150 sd0) hB.nx 0 _ (fm sd0) ((hB.C8<|.l aB []).C8 o):=λ{o}=>⟨(rB.fresh (n:=hB.nx) B6.C8<|aW _).D7 B6.C8,T0,λ_=>⟨λ_=>[],SI.nil rfl (λ_ h=>nomatch h),⟨rfl,λ_ h=>nomatch h⟩,⟨λ_=>rfl,λ_=>.nil,(λ_ _ h=>nomatch h),(λ_ _ h=>nomatch h),.nil⟩⟩,⟨λ_=>⟨rfl,λ_ h=>absurd h (nQ _)⟩,(λh=>nomatch h),rfl,pc⟩,(dO<|bZ<|cD _).trans bC,kH (cD _),if_pos rfl,rB.bx,λ_ h=>nomatch h⟩;have fin:∀(nt:Nat) (v13 v14:A4) (i:Nat) (g:Gh) (m:Mo) (h':AH),LJ c sd0 (gA c.rs 150 sd0) nt i g m h'->dY (D1 pg 23) (bH EC) [aA (.ref 0),aA (.bl calm),aA (.ref nr),aA sd0.av,aA (.ref nd),aA (.ref nss),aA (.int sz),aA (.int wd),aA (.ref gu),aA (.ref nv),aA (.ref h7.nx),aA (.ref c.b),aA (.ref nt),v13,v14] h' '6' (λv _=>v = .bl aB) '6' λ_ _=>False:=λnt v13 v14 i g m h' L=>by have dl:=L.Q.len;have pl:=HM (rs:=c.rs) (n:=150) (s:=sd0);obtain⟨_,lh',oh'⟩:=L.r.yL _ loh;refine B4 L.r.o0<|LI (k:=22) L.r<|Wv (n:=3) (k:=18) bC ((B6.C8 (a:=h')).get L.lt L.ot) L.pl '!' ?_;have kk:Kp h' (h'.C8<|.l aB m.bS):=B6.C8;exact B5<|MR rfl (Bg (xs:=[]) ((kk.C8 (o:=.l aB [])).get lh' oh') bC) rfl
 refine WB.of ?_;with_reducible refine mQ<|xy ?_
 refine HB (b:=decide (sz > 12)) bC ?_;obtain⟨j,ej,hj⟩:∃j:Int,(if decide (sz > 12)=aB then AV.int 24 else AV.int 60) = .int j/\0<=j/\j<=60:=by
  split
  .exact⟨24,rfl,'#','#'⟩
  .exact⟨60,rfl,'#','#'⟩
 rw[ej];refine B4 rfl ⟨xg (j:=j) '!' '!',?_⟩;refine Kh (lo:=0) (λi Z h'=>∃nt g m,(∃v13 v14,Z=[aA (.ref 0),aA (.bl calm),aA (.ref nr),aA sd0.av,aA (.ref nd),aA (.ref nss),aA (.int sz),aA (.int wd),aA (.ref gu),aA (.ref nv),aA (.ref h7.nx),aA (.ref c.b),aA (.ref nt),v13,v14])/\LJ c sd0 (gA c.rs 150 sd0) nt i g m h') (by rw[eN];omega) ⟨hB.nx,_,_,⟨_,_,rfl⟩,L0⟩ (λi Z h' hi y=>?_)<|λZ h' y=>?_
 .obtain⟨nt,g,m,⟨v13,v14,rfl⟩,L⟩:=y;exact kE _<|gR _<|X0 X '!' lo1 lo2 lo3 (λr hr=>(Rw.2 r hr).2) L (λnt v14 g m h L=>⟨nt,g,m,⟨_,_,rfl⟩,L⟩) λnt v13 v14 g m h L=>fin nt v13 v14 i g m h L
 .obtain⟨nt,g,m,⟨v13,v14,rfl⟩,L⟩:=y;exact fin nt v13 v14 _ g m h' L
end
def keeps:Keeps pg 24 58:=by
 have E4:=lB;refine Keeps.of λns n=>C3 (aS rfl rfl ?_);have o:(h0 ns).ob 0=aA (.l aJ<|ns.map AV.int):=rfl;have q:0<(h0 ns).nx:=PZ;generalize h0 ns=h at o q ⊢;refine oZ '#' o λN=>?_;obtain⟨ms,em,lm⟩:=aGb;refine rC<|B5<|uJ o ?_;rw[em];have k1:Kp h (h.C8<|.l aB<|ms.map AV.int):=B6.C8;refine aGc bC (cD _) (by lia) λW E rs k2 F G X=>?_;have k2:=k1.trans k2;have H:=k2.get q o;refine oZ '#' H λO=>oZ '#' H λP=>aPt λe bx mem s bw bl mw m0 ml=>?_;have g:=(k2.trans s).get q o;have p:=bE q (k2.trans s).nx;have I:=s.get F G.1;have Q:sj e E rs:=⟨I,G.2⟩;have pM:∀sd:Sd,sd.ok->sd.pc<=B3 rs->B3 sd.mem<=80->dY (D1 pg 23) (bH<|bH<|bH<|bH Am) [aA (.ref 0),aA (.bl<|!decide (N%3=1)),aA (.ref E),aA sd.av,aD,aD,aD,aD,aD,aD,aD,aD,aD,aD,aD] e '6' (λv _=>v = .bl aB) '6' λ_ _=>False:=λsd ok pc ml=>by
  refine oZ (k:=22) '#' g λR=>C1 (λ_=>?_) λ_=>ED n g p Q (bE F s.nx) (by lia) ok pc ml;refine B5<|zI<|qZ<|rC<|B5<|uJ g ?_;rw[em];have x:Kp e (e.C8<|.l aB<|ms.map AV.int):=B6.C8;have A:(e.C8<|.l aB<|ms.map AV.int).ob e.nx=aA (.l aB<|ms.map AV.int):=bC;have J:e.nx<(e.C8<|.l aB<|ms.map AV.int).nx:=cD _;generalize e.C8 (.l aB<|ms.map AV.int)=S at x A J ⊢;refine sQ A ?_;refine Jb (λj t u d=>Kp S d/\(∃a,u=[a,aA (.ref 0)])/\∃c:List aH,t=c.map aH.av/\B3 c=j/\∀r∈c,sH (B3 ms) r) (by rw[aU,eN];lia) ⟨B6,⟨_,rfl⟩,[],rfl,rfl,λ_ h=>nomatch h⟩ (λj t u d y=>y.1.get J A) (λj v t u d T y=>?_) λt u d y=>?_
  .obtain⟨kp,⟨a,rfl⟩,c,rfl,f,i⟩:=y;obtain⟨w,hw,rfl⟩:=kO T;have Y:=(dk.1 hw).1;refine xv<|cK _<|rC<|B5<|uJ ((x.trans kp).get p g) ?_;rw[em];refine B5<|eP (bR bC)<|SY (gy _) λr U m B=>?_;rw[aU]at B;refine⟨by grind,kp.trans (B6.C8.trans m),⟨_,rfl⟩,c++[r],by rw[eR];rfl,by rw[dU,f];rfl,λV d=>?_⟩;rcases eh.1 d with z|z
   .exact i V z
   .simp_all
  .obtain⟨kp,⟨a,rfl⟩,c,rfl,f,i⟩:=y;rw[aU]at f;have C:Kp e (d.C8<|.l aB<|c.map aH.av):=(x.trans kp).C8;have K:(d.C8<|.l aB<|c.map aH.av).ob d.nx=aA (.l aB<|c.map aH.av):=bC;have L:d.nx<(d.C8<|.l aB<|c.map aH.av).nx:=cD _;have D:=C.get p g;refine oZ '#' D λO=>oZ '#' D λP=>B5 (eP (bR K)<|SZ (gy _) λU pc bx mem m p0 M bw bl mw m0 ml=>?_);rw[aU]at M;exact ED (sd0:=⟨pc,bx,mem⟩) n (m.get (bE p C.nx) D) (bE (bE p C.nx) m.nx) ⟨m.get L K,f▸i⟩ (bE L m.nx) (by lia) ⟨p0,bl,bw,mw⟩ M ml
 refine oZ '#' g λZ=>C1 (λ_=>?_) λ_=>pM ⟨0,bx,mem⟩ ⟨gZ _,bl,bw,mw⟩ (gy _) ml;refine oZ '#' g λl=>B5 (eP (bR I)<|aE.dt '!' ?_);have m2:=jT (l / 4) (b:=(B3 (rs.map aH.av):Int)+1) '!';exact pM ⟨l / 4%((B3 (rs.map aH.av):Int)+1),bx,mem⟩ ⟨(jA (l / 4) (b:=(B3 (rs.map aH.av):Int)+1) (by lia)),bl,bw,mw⟩ (by grind) ml
def fN:AI:=[21,90,97,104,111,118,125,133,140,147,154,161,168,175,182,189,196,203,210,217,803,810,817,852,859,866,873,880,887,894,901,908,915,922,1018,1025,1032,1039,1046,1053,1060,1067,1074,1079,1084,1089,1096,1103,1110,1117,1124,1131,1138,1145,1150,1157,1164,1171,1176,231,238,245,266,273,280,287,294,315,335,342,349,369,376,383,403,410,417,436,443,462,469,476,496,503,510,529,534,541,546,553,558,579,586,593,598,605,626,631,638,645,652,657,664,671,676,681,686,707,714,721,728,749,756,763,770,777,784,789,831,838,943,950,957,964,969,976,983,990,997,1004]
def cs:A9:=[(5,248),(6,297),(7,318),(8,352),(9,386),(10,420),(11,446),(12,479),(13,513),(14,561),(15,608),(16,689),(17,731),(18,792),(19,841),(20,1007)]
def Ct{α:Type}{x:Str}{v:α}(h:([]:List (Str×α)).lookup x=aA v):False:=by cases h
def fg{α:Type}{x k:Str}{v u:α}{r:List (Str×α)}(h:((k,u)::r).lookup x=aA v):(x=k/\v=u)\/r.lookup x=aA v:=by
 rw[jB]at h;split at h
 .rename_i q;exact .inl ⟨eq_of_beq q,(cR h).symm⟩
 .exact .inr h
def aZy{α:Type}{x:Nat}{v:α}(h:([]:List (Nat×α)).lookup x=aA v):False:=by cases h
def aZx{α:Type}{x k:Nat}{v u:α}{r:List (Nat×α)}(h:((k,u)::r).lookup x=aA v):(x=k/\v=u)\/r.lookup x=aA v:=by
 rw[jB]at h;split at h
 .rename_i q;exact .inl ⟨eq_of_beq q,(cR h).symm⟩
 .exact .inr h
theorem Mc{α β:Type} [BEq α] {p:β->Bool}{k:α}{v:β}:∀{l:List (α×β)},l.lookup k=aA v->p v=aB->(l.filter λe=>p e.2).lookup k=aA v
 |[],h,_=>by cases h
 | (a,b)::l,h,hp=>by
  rw[jB]at h;by_cases e:(k==a)=aB
  .rw[e]at h;cases h;rw[OH (p:=λe:α×β=>p e.2) (a:=(a,v)) hp,jB,e]
  .rw[Bool.not_eq_true]at e;rw[e]at h;by_cases hb:p b=aB
   .rw[OH (p:=λe:α×β=>p e.2) (a:=(a,b)) hb,jB,e];exact Mc h hp
   .rw[aWy (p:=λe:α×β=>p e.2) (a:=(a,b)) hb];exact Mc h hp
def Y2{α:Type}{x:Str×Nat}{v:α}(h:([]:List ((Str×Nat)×α)).lookup x=aA v):False:=by cases h
def Md{α:Type}{x y:Str}{m:Nat}{v u:α}{r:List ((Str×Nat)×α)}(h:(((y,m),u)::r).lookup (x,n)=aA v):(x=y/\n=m/\v=u)\/r.lookup (x,n)=aA v:=by
 rw[jB]at h;split at h
 .rename_i q;have q:=eq_of_beq q;cases q;exact .inl ⟨rfl,rfl,(cR h).symm⟩
 .exact .inr h
def all_mk{l:Uo}{w:bV}{K:bN}{h:bK}{mg:Str->'8'}{fa:Addr} (X:K.In h) (G:h.Ns jE mg) (hfa:mg "law"=aA (.ref fa)) {fds:List fA} (D:jG K Jf fN fds) (lb:∀v,bindArgs (fds.getD 58 default) ⟨[v],[]⟩=pure [(("_law_script":Str),v)]) (oN:wh K pr fN=aB) (oF:FZ K pr cs=aB) (oM:GB K pr fN cs=aB) (oK:GA K pr fN cs=aB)
  {LK:Tok}{LL:Tok}{aRq:Tok}{aRp:Tok}{Ku:Addr}{aQe aQf aQg aQh aQi aQj aQk aQl aQm aQn t10_WAYS t11_WAYS:Tok}{p4:BD}{aBf:Nat}{aPq:Array '8'}{dw:Addr}{Nk:Obj}{aRr:Tok}
  (Sb:wX K jE "Guesser"=aA (aA<|.ref 297))(Il:E5 K (fds.getD 68 default) ["self","first"] [sW aJ])(Ik:E5 K (fds.getD 71 default) ["self","many","begin"] [zV 1 LK])(Im:E5 K (fds.getD 74 default) ["self","many","long"] [zV 4 LL])(Iw:Hk K (.ref 297) "__getattribute__"=aA (aA<|.builtin "type.__getattribute__"))(Iu:Uw K 297 (.type "type")=aB)(Io:Ur K (.ref 297) (.type "type") "__init__"=aA (.val<|.ref 266))(Rx:wX K jE "BITS"=aA (aA<|.int 64 aRq))(Rv:wX K jE "BEYOND"=aA (aA<|.int 18446744073709551616 aRp))(Sa:wX K jE "WAYS"=aA (aA<|.ref Ku))(Lz:K.lookup Ku=aA ⟨.type "tuple",p4,.seq #[oR "sum" aQe,oR "less" aQf,oR "times" aQg,oR "share" aQh,oR "rest" aQi,oR "both" aQj,oR "some" aQk,oR "odd" aQl,oR "up" aQm,oR "down" aQn,oR "below" t10_WAYS,oR "same" t11_WAYS] aBf,aPq⟩)(Rz:wX K jE "GROUPS"=aA (aA<|.ref dw))(Ly:K.lookup dw=aA Nk)(Jo:Hc Ug (λ_=>aA Nk) dw (([("times",1),("share",2),("rest",2),("load",3),("store",3),("jump",4),("go",4),("fault",4)]:AZ).map λp=>(p.1,sV p.2))=aB)(Nu:Hb (λ_=>aA Nk) dw=(([("times",1),("share",2),("rest",2),("load",3),("store",3),("jump",4),("go",4),("fault",4)]:AZ).map λp=>(p.1,sV p.2)).map λp=>(Va l.prog w).hash p.1)(Ry:wX K jE "GREATEST_COUNT"=aA (aA<|.int 3 aRr)) :
  ∃fd:fA,(∀(s:aK) (v:Value),qc s fd ⟨[v],[]⟩ [("_law_script",v)])/\∀base:bK,K.In base->base.Ns jE mg->iQ l.prog w K mg base (lD l.prog w) (2*24+2) fa fd ["_law_script"] (Qb K):=by
 have e:=hfa.symm.trans (GC X G D oN 58 _ rfl);cases e;have O:Ih l.prog w pr ⟨K,λkvs a=>(kvs=([("times",1),("share",2),("rest",2),("load",3),("store",3),("jump",4),("go",4),("fault",4)]:AZ)/\a=dw)\/False,λi=>cs.lookup i⟩ mg (λi=>fN.getD i 0) (λi=>fds.getD i default):=by
  refine⟨λi d hd=>?_,λi d hd=>?_,λx v hx=>?_,λx hx=>?_,λkvs a ht=>?_,λf cs hx=>?_,λm dp hx c i hi=>?_,λx n c i dv hx=>?_,λy cs hx=>?_,λx m i hx=>?_⟩
  .exact jG.get D i d hd
  .exact GC X G D oN i d hd
  .rcases fg hx with⟨rfl,rfl⟩|hx
   .exact⟨_,.int 64,wW X G Rx,⟨_,rfl⟩,λ_ _=>.int _⟩
   rcases fg hx with⟨rfl,rfl⟩|hx
   .exact⟨_,.int 18446744073709551616,wW X G Rv,⟨_,rfl⟩,λ_ _=>.int _⟩
   rcases fg hx with⟨rfl,rfl⟩|hx
   .exact⟨_,.ref Ku,wW X G Sa,rfl,λ_ _=>.tup (ys:=[.str "sum",.str "less",.str "times",.str "share",.str "rest",.str "both",.str "some",.str "odd",.str "up",.str "down",.str "below",.str "same"]) (.inr ⟨_,_,_,Lz,rfl,rfl,(by decide:12<=sizeLine),(.cons ⟨_,rfl⟩<|.cons ⟨_,rfl⟩<|.cons ⟨_,rfl⟩<|.cons ⟨_,rfl⟩<|.cons ⟨_,rfl⟩<|.cons ⟨_,rfl⟩<|.cons ⟨_,rfl⟩<|.cons ⟨_,rfl⟩<|.cons ⟨_,rfl⟩<|.cons ⟨_,rfl⟩<|.cons ⟨_,rfl⟩<|.cons ⟨_,rfl⟩ .nil)⟩) (.cons (.str _)<|.cons (.str _)<|.cons (.str _)<|.cons (.str _)<|.cons (.str _)<|.cons (.str _)<|.cons (.str _)<|.cons (.str _)<|.cons (.str _)<|.cons (.str _)<|.cons (.str _)<|.cons (.str _) .nil)⟩
   rcases fg hx with⟨rfl,rfl⟩|hx
   .exact⟨_,.ref dw,wW X G Rz,rfl,λ_ _=>.pC (.inl ⟨rfl,rfl⟩)⟩
   rcases fg hx with⟨rfl,rfl⟩|hx
   .exact⟨_,.int 3,wW X G Ry,⟨_,rfl⟩,λ_ _=>.int _⟩
   exact(Ct hx).elim
  .exact aBq X G oN x hx
  .rcases ht with⟨rfl,rfl⟩|ht
   .exact AM.W8 Ly Jo (by decide +kernel) Nu
   .exact ht.elim
  .exact aBn oF f cs hx
  .exact aBp D oM m dp hx c i hi
  .refine aBo X G D oK (λx n c i dv hx hv=>?_) x n c i dv hx;have hx:=Mc (p:=λv=>!v.2.2.isEmpty) hx (by cases dv with|nil=>exact absurd rfl hv|cons _ _=>rfl);replace hx:sU (x,n) [(("Paths",1),(10,74,[.int 4])),(("Last",0),(8,68,[.bl aJ])),(("Counts",1),(9,71,[.int 1]))]=aA (c,i,dv):=hx
   rcases Md hx with⟨rfl,rfl,e⟩|hx
   .cases e;exact⟨_,[zV 4 LL],[.int 4],rfl,Im,(.cons ⟨_,rfl⟩ .nil),λ_ _=>(.cons (.int _) .nil)⟩
   rcases Md hx with⟨rfl,rfl,e⟩|hx
   .cases e;exact⟨_,[sW aJ],[.bl aJ],rfl,Il,(.cons rfl .nil),λ_ _=>(.cons (.bl _) .nil)⟩
   rcases Md hx with⟨rfl,rfl,e⟩|hx
   .cases e;exact⟨_,[zV 1 LK],[.int 1],rfl,Ik,(.cons ⟨_,rfl⟩ .nil),λ_ _=>(.cons (.int _) .nil)⟩
   exact(Y2 hx).elim
  .exact(Ct hx).elim
  .obtain⟨r,h1,h2⟩:=f'.1 hx;clear hx;rcases fg h1 with⟨rfl,rfl⟩|h1
   .rcases fg h2 with⟨rfl,rfl⟩|h2
    .exact⟨_,297,rfl,wW X G Sb,(jG.get (f0:=default) D 62 _ rfl).fn.kp,Iw,Iu,Io,rfl⟩
    exact(Ct h2).elim
   exact(Ct h1).elim
 have hk:Keeps pr.ir 24 58:=by rw[U3];exact keeps
 exact⟨_,λs v=>.of_eq (lb v),λbase _ _=>X3 (T:=⟨K,λkvs a=>(kvs=([("times",1),("share",2),("rest",2),("load",3),("store",3),("jump",4),("go",4),("fault",4)]:AZ)/\a=dw)\/False,λi=>cs.lookup i⟩) O (i:=58) rfl hk⟩
end AMx
open PySem PySem.W PyProof.Rows
theorem PySem.Challenge.cw_aheadmill_k43_whole_beginning_of_the_pla_holds : PySem.Challenge.rw_aheadmill_k43_whole_beginning_of_the_pla.Holds := by
 refine PySem.W.Fast.te0 ?_;k_fill
 refine AM.walk (k:=2*24+2) (x:="_law_script") (l:=QM) rfl rfl ⟨rfl,'#','#'⟩ (λw h Y=>W.kIn_of Y) ?F
 case F=>
  intro w mg fa h KX G hmg;refine' AMx.all_mk KX G hmg ?D ?lb ?oN ?oF ?oM ?oK ?Sb ?Il ?Ik ?Im ?Iw ?Iu ?Io ?Rx ?Rv ?Sa ?Lz ?Rz ?Ly ?Jo ?Nu ?Ry
  case D=>
   unfold AMx.Jf AMx.fN;repeat' first
    |exact AM.jG.nil
    | (apply AM.jG.one (dV:=.none);(case l=>k_is);(case c=>k_is);(case k=>k_is);(case b=>first|exact L2.E5.all λus hl=>by obtain⟨v0,rfl⟩:=AM.Qy hl;rfl|exact L2.E5.all λus hl=>by obtain⟨v0,v1,rfl⟩:=AM.pj hl;rfl|exact L2.E5.all λus hl=>by obtain⟨v0,v1,v2,rfl⟩:=AM.Qz hl;rfl|exact L2.E5.all λus hl=>by obtain⟨v0,v1,v2,v3,rfl⟩:=AM.Ra hl;rfl|exact L2.E5.all λus hl=>by obtain⟨v0,v1,v2,v3,v4,rfl⟩:=AM.MB hl;rfl|exact L2.E5.all λus hl=>by obtain⟨v0,v1,v2,v3,v4,v5,rfl⟩:=AM.MC hl;rfl);(case s=>exact⟨by kernel_rfl,by kernel_rfl,by kernel_rfl,by decide +kernel,by kernel_rfl,by decide +kernel,by decide +kernel⟩))
    | (apply AM.jG.one;(case l=>k_is);(case c=>k_is);(case k=>k_is);(case b=>apply AM.An rfl;(case l=>k_is);(case hs=>rfl);(case h=>first|exact λus hl=>by rw[nP]at hl ⊢;obtain⟨v0,v1,rfl⟩:=AM.pj hl;exact⟨_,rfl,rfl⟩|exact λus hl=>by rw[nP]at hl ⊢;obtain⟨v0,v1,v2,rfl⟩:=AM.Qz hl;exact⟨_,rfl,rfl⟩|exact λus hl=>by rw[nP]at hl ⊢;obtain⟨v0,v1,v2,v3,rfl⟩:=AM.Ra hl;exact⟨_,rfl,rfl⟩|exact λus hl=>by rw[nP]at hl ⊢;obtain⟨v0,v1,v2,v3,v4,v5,v6,v7,rfl⟩:=AM.MD hl;exact⟨_,rfl,rfl⟩));(case s=>exact⟨by kernel_rfl,by kernel_rfl,by kernel_rfl,by decide +kernel,by kernel_rfl,by decide +kernel,by decide +kernel⟩))
  (case lb=>exact λv=>rfl)
  (case Il=>apply AM.An rfl;(case l=>k_is);(case hs=>rfl);(case h=>exact λus hl=>by have hl:B3 us=1:=(by simpa using hl);obtain⟨v0,rfl⟩:=AM.Qy hl;exact⟨_,rfl,rfl⟩))
  (case Ik=>apply AM.An rfl;(case l=>k_is);(case hs=>rfl);(case h=>exact λus hl=>by have hl:B3 us=2:=(by simpa using hl);obtain⟨v0,v1,rfl⟩:=AM.pj hl;exact⟨_,rfl,rfl⟩))
  (case Im=>apply AM.An rfl;(case l=>k_is);(case hs=>rfl);(case h=>exact λus hl=>by have hl:B3 us=2:=(by simpa using hl);obtain⟨v0,v1,rfl⟩:=AM.pj hl;exact⟨_,rfl,rfl⟩))
  (case Sb|Iw|Iu|Io|Rx|Rv|Sa|Lz|Rz|Ly=>k_is)
  (case Jo|Nu=>rfl)
  (case Ry=>k_is)
  (all_goals kernel_rfl)
