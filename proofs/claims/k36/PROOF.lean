import PyProof.Rows.All
import OpenK.KLine
import Wide.FinOn
import KE.KTops
import KE.KItem
import KE.KIsAll
import KE.KDictSum
import KE.KBits
import KE.KPairTest
import PySem.Challenge.RW_aheadmill_k36_window_of_one
set_option Elab.async false
set_option linter.all false
set_option maxRecDepth 100000
set_option exponentiation.threshold 2000
set_option maxHeartbeats 0
set_option compiler.extract_closed false
set_option bootstrap.genMatcherCode false
set_option genSizeOf false
local macro_rules | `(tactic| omega)=>`(tactic| lia)
section
set_option hygiene false
local macro_rules | `(command| $d:definition) => `(command| noncomputable $d:definition)
open PySem PySem.W PyProof.Rows
namespace PySem.W.Fast
abbrev _root_.Hs:=Option Int
abbrev _root_.Hu:=List Value
abbrev _root_.Hv:=List (Addr×Obj)
abbrev _root_.Hx:=List Int
abbrev _root_.Hy:=List Addr
abbrev _root_.Hz:=Option Value
abbrev _root_.Ia:=List Nat
abbrev _root_.YV:=List Stmt
abbrev _root_.YW:=List Obj
abbrev _root_.YX:=List Str
abbrev _root_.YY:=Array Value
abbrev _root_.YZ:=List (Nat×Nat)
abbrev _root_.Yg:=List (Option Nat)
abbrev _root_.Yh:=List (Str×Int)
abbrev _root_.Yi:=List (Option Int)
abbrev _root_.Yj:=List (Int×Int)
abbrev _root_.Yl:=List (Str×Value)
abbrev _root_.Ym:=List (Str×Addr)
abbrev _root_.Yn:=Option (Option Value)
abbrev _root_.Yp:=List Env
abbrev _root_.Yq:=List (Nat×Addr)
abbrev _root_.Yr:=Array (Option Value)
abbrev _root_.Ys:=List (Nat×Bool)
abbrev _root_.Yt:=List Bool
abbrev _root_.Yu:=Option Addr
local macro_rules|`(!$x:ident)=>`($x=$x)|`(-$x:ident)=>`(λP=>Subtype.val (p:=λt=>t=qB 12 ($x P)) ⟨_,by dsimp only[Be,tq,ik,ai,xE,uP,sR,qX,pE,oE,nH,mQ,lY,lO,kW,kI,jV,jH,iR,iK,iE,hA,gQ,gE,fT,fQ,fJ,eN,qH,qh,bN,dP,eI,eR,eS,eX,List.set,List.cons_append,List.nil_append,qB,qe,qg]⟩)|`(!($n:num,$a,*))=>do let r←(a.getElems.zipIdx n.getNat).mapM λ(x,i)=>`(.str $x $(Lean.quote i));`(#[$r,*])
def Lw:YV->Nat->Stmt|a::_,0=>a|_::l,n+1=>Lw l n | [],_=>.Pass (.mk 0 0 0 0)
def Bf:Stmt->YV | .FunctionDef _ _ b _ _ _ _ _ _ _=>b | .ClassDef _ _ _ b _ _ _ _ _ _ _=>b|_=>[]
def xF:Stmt->Arguments | .FunctionDef _ p _ _ _ _ _ _ _ _=>p|_=>default
def Bg:Stmt->Scope | .FunctionDef _ _ _ _ _ _ s _ _ _=>s | .ClassDef _ _ _ _ _ _ s _ _ _ _=>s|_=>default
def qb(s:String)(x:Data):Obj:=⟨.type s,.none,x,#[]⟩
def qd(P:Params)(n:Str)(i:Nat)(v:Value):DictEntry:=⟨PySem.PyData.keyHash P n,.str n i,v⟩
def qr(P:Params)(n:Str)(i v:Nat):DictEntry:=qd P n i (.ref v)
def qS(n:Nat):Stmt:=Lw PySem.Challenge.pw_aheadmill_k36_window_of_one.main.body n
def qe:YW->YW|x::_::l=>x::qe l|l=>l
def qg:YW->YW|_::y::l=>y::qg l|_=>[]
def qB:Nat->YW->BT|0,_=>.nil|_+1,[]=>.nil|n+1,x::l=>.node x (qB n<|qe l) (qB n<|qg l)
def bT:String:=SL.s2766695959194262286x5
def Ni:String:=SL.s5856160107412720595x4
def qz2:String:=SL.s658472552662922059x5
def fU:String:=SL.s14018661285674007319x4
def qz4:String:=SL.s7097527257260152453x26
def FT:String:=SL.s7174869446012820540x8
def pH:String:=SL.s6070975301684473832x10
def FV:String:=SL.s11030030927630378310x26
def qz8:String:=SL.s10062305145149207511x16
def mC:String:=SL.s17162191345867700912x4
def ja:String:=SL.s5946037652744460706x9
def jb:String:=SL.s4278001404047624695x13
def iL:String:=SL.s2742458400755230247x6
def jc:String:=SL.s4209523147560561109x18
def FR:String:=SL.s14755015743595814543x17
def aIs:String:=SL.s10220274742760427390x26
def aIt:String:=SL.s4290257624100764138x5
def aIu:String:=SL.s4860613602091757760x24
def uW:String:=SL.s11443829558043349243x14
def aIv:String:=SL.s6511155373996960695x17
def aIw:String:=SL.s12411053484034534018x21
def qn0:Str:="<module>"
def ak:Str:="/claim/cut.py"
def FA:Str:="__main__"
def gG:Str:="__name__"
def pG:Str:="aheadmill.errors"
def mR:Str:="__doc__"
def qn6:Str:="__package__"
def qn7:Str:="__loader__"
def qn8:Str:="__spec__"
def qn9:Str:="__annotations__"
def aEz:Str:="__builtins__"
def aFb:Str:="__file__"
def aFd:Str:="__cached__"
def iT:Str:="MillError"
def gR:Str:="__module__"
def pF:Str:="__qualname__"
def gS:Str:="__firstlineno__"
def gT:Str:="__static_attributes__"
def qZ:Str:="__weakref__"
def Mu:Str:="Nought"
def Mv:Str:="NoTicket"
def Mx:Str:="Busy"
def ao:Str:="aheadmill.words"
def Mz:Str:="Halted"
def aGk:Str:="BITS"
def aGn:Str:="BEYOND"
def aGp:Str:="WAYS"
def aGq:Str:="sum"
def aGr:Str:="less"
def FD:Str:="times"
def FE:Str:="share"
def FF:Str:="rest"
def aGs:Str:="both"
def aGt:Str:="some"
def aGu:Str:="odd"
def aGv:Str:="up"
def aGw:Str:="down"
def aGx:Str:="below"
def aGy:Str:="same"
def FG:Str:="one"
def aGz:Str:="other"
def uT:Str:="aheadmill.rows"
def aHa:Str:="GROUPS"
def aHb:Str:="load"
def aHc:Str:="store"
def aHd:Str:="jump"
def aHe:Str:="go"
def aHf:Str:="fault"
def aHg:Str:="row"
def aHh:Str:="words"
def aHi:Str:="at"
def cO:Str:="aheadmill.guessers"
def aHj:Str:="GREATEST_COUNT"
def aHk:Str:="held"
def aHl:Str:="window"
def aHm:Str:="ledger"
def aHn:Str:="put"
def tw:Str:="aheadmill.fetching"
def aHo:Str:="guesser"
def Nc:Str:="Tally"
def ua:Str:="__init__"
def aHp:Str:="likely"
def aHq:Str:="move"
def aFa:Str:="levels"
def sS:Str:="__dict__"
def eY:Str:="Guesser"
def ip:Str:="guess"
def iq:Str:="heed"
def aFc:Str:="learned"
def Mg:Str:="Always"
def Mh:Str:="Last"
def aFe:Str:="first"
def aFf:Str:="lately"
def Mi:Str:="Counts"
def Mj:Str:="tally"
def Ml:Str:="Paths"
def aFg:Str:="length"
def aFh:Str:="trail"
def Mm:Str:="Listed"
def aFi:Str:="truths"
def Mn:Str:="Turned"
def sT:Str:="aheadmill.benches"
def Mp:Str:="Chosen"
def uS:Str:="aheadmill.names"
def Mq:Str:="Benches"
def aFj:Str:="table"
def aFk:Str:="ticket"
def aFl:Str:="working"
def lZ:Str:="aheadmill.shelf"
def Mr:Str:="Names"
def aFm:Str:="tickets"
def aFn:Str:="thrown"
def aFo:Str:="filled"
def Ms:Str:="Shelf"
def aFp:Str:="begun"
def aFq:Str:="kept"
def kJ:Str:="aheadmill.slots"
def Mt:Str:="Slot"
def FC:Str:="names"
def aFr:Str:="chosen"
def aFs:Str:="dares"
def aFt:Str:="deed"
def aFu:Str:="finished"
def aFv:Str:="off"
def aFw:Str:="source"
def aFx:Str:="started"
def Mw:Str:="Window"
def aFy:Str:="program"
def aFz:Str:="size"
def aGa:Str:="wide"
def aGb:Str:="ahead"
def aGc:Str:="benches"
def aGd:Str:="now"
def aGe:Str:="shelf"
def aGf:Str:="slots"
def rA:Str:="aheadmill.taking"
def My:Str:="Ledger"
def Na:Str:="aheadmill.plain"
def aGg:Str:="nerve"
def aGh:Str:="broken"
def aGi:Str:="gone"
def aGj:Str:="slips"
def aGl:Str:="state"
def aGm:Str:="storers"
def mB:Str:="aheadmill.mill"
def aGo:Str:="TABLE"
def iu:Str:="aheadmill.working"
def Nb:Str:="Mill"
def gF:Str:="law_aheadmill_k36_window_of_one"
variable (P:Params)
def tw11881303599141558809:Params->Frag:=λ_=>[]
theorem te11881303599141558809:!tw11881303599141558809:=rfl
def tw18134464744952530324:Program:={ PySem.Challenge.rw_aheadmill_k36_window_of_one.row.toRowW.1 with main:={ PySem.Challenge.rw_aheadmill_k36_window_of_one.row.toRowW.1.main with body:=[(qS 0),(qS 2),(qS 3),(qS 4),(qS 5),(qS 6),(qS 8),(qS 9),(qS 10),(qS 11),(qS 12),(qS 13),(qS 14),(qS 15),(qS 16),(qS 18),(qS 19),(qS 20),(qS 21),(qS 22),(qS 23),(qS 24),(qS 25),(qS 26),(qS 28),(qS 29),(qS 30),(qS 31),(qS 32),(qS 34),(qS 35),(qS 36),(qS 37),(qS 38),(qS 39),(qS 40),(qS 41),(qS 42),(qS 43),(qS 45),(qS 47),(qS 49),(qS 51),(qS 52),(qS 54),(qS 55),(qS 56),(qS 58),(qS 59),(qS 60),(qS 61),(qS 62),(qS 63),(qS 65),(qS 66),(qS 67),(qS 68),(qS 69),(qS 70),(qS 72),(qS 73),(qS 74),(qS 76),(qS 77),(qS 78),(qS 79),(qS 80),(qS 81),(qS 82),(qS 83),(qS 84),(qS 85),(qS 86),(qS 87),(qS 88),(qS 89),(qS 90),(qS 91),(qS 92),(qS 93),(qS 94),(qS 95),(qS 96),(qS 97),(qS 98),(qS 99)] } }
theorem te18134464744952530324:!tw18134464744952530324:=rfl
def sU:Stmt->Str | .FunctionDef n _ _ _ _ _ _ _ _ _=>n | .ClassDef n _ _ _ _ _ _ _ _ _ _=>n|_=>default
def iw:Stmt->Pos | .FunctionDef _ _ _ _ _ _ _ _ _ p=>p|_=>.mk 0 0 0 0
def aq(s:Stmt):YX:=((Bg s).names.filter λx=>x.2 == .local||x.2 == .cell).map λx=>x.1
def FN:YX->Nat->Hu | [],_=>[] | x::l,n=>.str x n::FN l (n+1)
def Ng(s:Stmt)(i:Nat):Obj:=qb bT (.seq (FN (aq s) i).toArray 0)
def iS(c j:Nat):Stmt:=Lw (Bf<|qS c) j
def Nd(c j:Nat):Str:=sU (qS c) ++ .ofString "."++sU (iS c j)
def qR(P:Params)(s i v:Nat):DictEntry:=qr P (sU<|qS s) i v
def qQ(P:Params)(c j i v:Nat):DictEntry:=qr P (sU<|iS c j) i v
def qW(a b c:List DictEntry):Array DictEntry:=(a++b++c).toArray
def qV(P:Params)(c:Nat):Nat->YZ->List DictEntry|_,[]=>[] | j,(i,a)::l=>qQ P c j i a::qV P c (j+1) l
def qY(c:Nat):Nat->YZ->YZ|_,[]=>[] | j,(_,a)::l=>((iw<|iS c j).line,a-1)::qY c (j+1) l
def Lx:YZ:=[(563,266),(571,273),(580,280),(589,287),(596,294)]
def Ly:YZ:=[(908,529),(914,534),(925,541),(931,546),(938,553),(944,558)]
def Lz:YZ:=[(975,579),(986,586),(995,593),(1001,598),(1012,605)]
def Ma:YZ:=[(1042,626),(1048,631),(1058,638),(1070,645),(1080,652),(1086,657),(1096,664),(1104,671),(1110,676),(1116,681),(1122,686)]
def Mb:YZ:=[(1158,707),(1165,714),(1172,721),(1180,728)]
def Mc:YZ:=[(1226,749),(1233,756),(1242,763),(1251,770),(1261,777),(1270,784),(1276,789)]
def Md:YZ:=[(1522,943),(1531,950),(1540,957),(1547,964),(1553,969),(1560,976),(1567,983),(1574,990),(1581,997),(1590,1004)]
def qE(P:Params):List DictEntry:=[(qd P mR 166 .none),(qd P qn6 167 .none),(qd P qn7 168<|.builtin qz4),(qd P qn8 169 .none),(qr P qn9 170 6),(qr P aEz 171 4),(qd P aFb 173<|.str ak 172),(qd P aFd 174 .none),(qR P 0 193 21),(qR P 2 213 31),(qR P 3 229 44),(qR P 4 245 56),(qR P 5 261 68),(qR P 6 277 80),(qd P aGk 281<|.int 64 280),(qd P aGn 283<|.int 18446744073709551616 282),(qr P aGp 296 83),(qR P 11 303 90),(qR P 12 311 97),(qR P 13 318 104),(qR P 14 326 111),(qR P 15 334 118),(qR P 16 343 125),(qr P aHa 370 126),(qR P 19 378 133),(qR P 20 386 140),(qR P 21 393 147),(qR P 22 401 154),(qR P 23 410 161),(qR P 24 421 168),(qR P 25 431 175),(qR P 26 443 182),(qR P 28 454 189),(qR P 29 463 196),(qR P 30 475 203),(qR P 31 483 210),(qR P 32 491 217),(qd P aHj 495<|.int 3 494),(qR P 35 544 248),(qR P 36 605 297),(qR P 37 629 318),(qR P 38 672 352),(qR P 39 716 386),(qR P 40 763 420),(qR P 41 796 446),(qR P 42 838 479),(qR P 43 886 513),(qR P 45 954 561),(qR P 47 1021 608),(qR P 49 1132 689),(qR P 51 1202 731),(qR P 52 1295 792),(qR P 54 1305 803),(qR P 55 1314 810),(qR P 56 1326 817),(qR P 58 1374 841),(qR P 59 1384 852),(qR P 60 1393 859),(qR P 61 1402 866),(qR P 62 1410 873),(qR P 63 1418 880),(qR P 65 1430 887),(qR P 66 1439 894),(qR P 67 1451 901),(qR P 68 1460 908),(qR P 69 1470 915),(qR P 70 1481 922),(qr P aGo 1494 928),(qR P 73 1600 1007),(qR P 74 1607 1018),(qR P 76 1617 1025),(qR P 77 1625 1032),(qR P 78 1634 1039),(qR P 79 1648 1046),(qR P 80 1661 1053),(qR P 81 1678 1060),(qR P 82 1692 1067),(qR P 83 1701 1074),(qR P 84 1707 1079),(qR P 85 1713 1084),(qR P 86 1722 1091),(qR P 87 1733 1098),(qR P 88 1746 1105),(qR P 89 1761 1112),(qR P 90 1771 1119),(qR P 91 1782 1126),(qR P 92 1788 1131),(qR P 93 1798 1138),(qR P 94 1805 1145),(qR P 95 1812 1152),(qR P 96 1820 1159),(qR P 97 1826 1164),(qR P 98 1844 1171),(qR P 99 1850 1176)]
def qM(P:Params)(e:DictEntry)(n m:Nat):Obj:=qb fU (.dict (e::(qE P).take n).toArray m)
def qJ:YZ->Hu | []=>[] | (a,b)::l=>.int a 0 :: .int 0 0 :: .ref b::qJ l
def qK:Hu:=qJ [(1,20),(5,27),(7,40),(9,52),(11,64),(13,76),(19,89),(21,96),(25,103),(27,110),(29,117),(31,124),(57,132),(68,139),(73,146),(75,153),(81,160),(87,167),(97,174),(108,181),(114,188),(119,195),(126,202),(131,209),(135,216),(141,223),(153,258),(170,307),(174,326),(186,360),(197,394),(212,428),(222,454),(233,487),(253,521),(287,571),(315,618),(386,699),(413,741),(469,802),(471,809),(473,816),(486,823),(499,851),(506,858),(517,865),(523,872),(528,879),(531,886),(536,893),(544,900),(552,907),(556,914),(561,921),(578,934),(627,1017),(630,1024),(634,1031),(636,1038),(644,1045),(657,1052),(666,1059),(681,1066),(699,1073),(708,1078),(715,1083),(724,1090),(748,1097),(755,1104),(774,1111),(791,1118),(811,1125),(820,1130),(839,1137),(848,1144),(856,1151),(866,1158),(870,1163),(878,1170),(895,1175)]
def qI(n:Nat):Obj:=.mk .none .none (.fields (qK.take n).toArray) #[]
def Nh(a0:Str)(a1:Str)(a2:Stmt)(a3:Stmt):Obj:=(.mk .none .none (.func<|.mk a0 a1 (xF a2) (.stmts<|Bf a2) (Bg a3) 0 [] .none .none .none .none .none .none .none 0) #[])
def FO(a0:Str)(a1:Str)(a2:Stmt)(a3:Stmt)(a4:Str)(a5:Nat)(a6:Nat):Obj:=qb FT (.func<|.mk a0 a1 (xF a2) (.stmts<|Bf a2) (Bg a3) 3 [] .none .none .none (.str a4 a5) .none (.ref a6) .none 0)
def FP(a0:Str)(a1:Nat)(a2:Str)(a3:Int)(a4:Int)(a5:Nat)(a6:Int)(a7:Nat):Obj:=qb Ni (.fields #[(.str a0 a1),(.str a2<|a1+1),(.str ak<|a1+2),(.int a3 0),(.int a4 0),(.int 0 0),(.int 0 0),(.int 3 0),(.ref a5),(.bool .true),(.int 181 0),(.ref<|a5+1),.none,(.ref<|a5+2),(.ref<|a5+3),(.ref<|a5+4),(.int a6 0),(.int a3 0),(.str ak a7)])
def Bk(a0:Str)(a1:Nat)(a2:Str):Obj:=qb bT (.seq #[(.str a0 a1),(.str a2<|a1+1)] 0)
def FQ(a0:Str)(a1:Nat)(a2:Str)(a3:Str):Obj:=qb bT (.seq #[(.str a0 a1),(.str a2<|a1+1),(.str a3<|a1+2)] 0)
def iV(a0:Str)(a1:Nat)(a2:Int)(a3:Nat)(a4:Int):Obj:=qb Ni (.fields #[(.str a0 a1),(.str a0<|a1+1),(.str ak<|a1+2),(.int a2 0),(.int 0 0),(.int 0 0),(.int 0 0),(.int 0 0),(.ref a3),(.bool .false),(.int 181 0),(.ref<|a3+1),.none,.none,.none,.none,(.int a4 0),(.int a2 0),(.str ak<|a1+4)])
def iW(a0:Nat)(a1:Nat)(a2:Str)(a3:Nat):Obj:=(.mk (.type qz2) .none .plain #[(.some<|.ref a0),(.some<|.ref 3),(.some<|.ref a1),.none,(.some<|.str a2 a3),.none,(.some<|.ref 0)])
def jI:Obj:=qb FV (.fields #[(.builtin qz8),(.type mC)])
def jJ(a0:Nat):Obj:=qb aIt (.fields #[(.ref a0),(.ref a0),(.ref a0)])
def jK(a0:Nat):Obj:=qb FV (.fields #[(.builtin aIu),(.ref a0)])
def aIq(a0:Str)(a1:Nat)(a2:Str)(a3:Int)(a4:Int)(a5:Nat)(a6:Int):Obj:=qb Ni (.fields #[(.str a0 a1),(.str a2<|a1+1),(.str ak<|a1+2),(.int a3 0),(.int a4 0),(.int 0 0),(.int 0 0),(.int 3 0),(.ref a5),(.bool .true),(.int 181 0),(.ref<|a5+1),.none,.none,.none,(.ref<|a5+2),(.int a6 0),(.int a3 0),(.str ak<|a1+4)])
def sV(a0:Nat)(a1:Nat):Obj:=qb FR (.fields #[(.str qZ a0),(.ref a1),(.builtin aIs),.none])
def uU(a0:Str)(a1:Nat)(a2:Nat)(a3:Nat):Obj:=(.mk (.type mC) .none (.cls<|.mk a0 [(.type iL)] [(.ref a1),(.type iL)] a2 a0 .true [] [] .false .none .false) #[.none,.none,(.some<|.str a0 a3),(.some<|.str a0<|a3+8),(.some<|.builtin uW),(.some<|.bool .true)])
def uV(a0:Nat)(a1:Nat):Obj:=qb FR (.fields #[(.str sS a0),(.ref a1),(.builtin aIv),(.builtin aIw)])
def au(a0:Str)(a1:Nat)(a2:Nat)(a3:Nat)(a4:Nat):Obj:=(.mk (.type mC) .none (.cls<|.mk a0 [(.ref 297)] [(.ref a1),(.ref 297),(.type iL)] a2 a0 .true [] [] .false .none .false) #[(.some<|.ref a3),.none,(.some<|.str a0 a4),(.some<|.str a0<|a4+8),(.some<|.builtin uW),(.some<|.bool .true)])
def iy(P:Params)(a0:Nat)(a1:Str)(a2:Int)(a3:Nat)(a4:Nat)(a5:Str)(a6:Str)(a7:Nat)(a8:Nat):Obj:=qb fU (.dict #[(qd P gR a0<|.str cO 492),(qd P pF (a0+2)<|.str a1<|a0+1),(qd P gS (a0+4)<|.int a2<|a0+3),(qd P ua a3<|.ref a4),(qd P a5 (a3+8)<|.ref<|a4+7),(qd P a6 a7<|.ref<|a4+14),(qd P gT a8<|.ref<|a4+15)] 7)
def iz(a0:Int)(a1:Nat)(a2:Int)(a3:Int):Obj:=(.mk .none .none (.fields #[(.int a0 0),(.int 4 0),(.ref a1),(.int a2 0),(.int 4 0),(.ref<|a1+7),(.int a3 0),(.int 4 0),(.ref<|a1+14)]) #[])
def ub(P:Params)(a0:Nat)(a1:Str)(a2:Int)(a3:Nat):Obj:=qb fU (.dict #[(qd P gR a0<|.str pG 194),(qd P pF (a0+2)<|.str a1<|a0+1),(qd P gS (a0+4)<|.int a2<|a0+3),(qd P gT (a0+5)<|.ref a3)] 4)
def aIr(a0:Str)(a1:Stmt)(a2:Nat)(a3:Str)(a4:Nat):Obj:=qb FT (.func<|.mk ua a0 (xF a1) (.stmts<|Bf a1) (Bg a1) 3 [] (.ref a2) .none .none (.str a3 a4) .none (.ref<|a2+6) .none 0)
def uc(P:Params)(a0:Nat)(a1:Int)(a2:Nat)(a3:Nat)(a4:Nat)(a5:Nat):Obj:=qb fU (.dict #[(qd P gR a0<|.str cO 492),(qd P gS (a0+4)<|.int a1<|a0+3),(qd P ua a2<|.ref a3),(qd P ip (a2+8)<|.ref<|a3+7),(qd P iq a4<|.ref<|a3+14),(qd P gT a5<|.ref<|a3+15),(qd P mR (a5+1) .none)] 2)
def ud(a0:Int)(a1:Nat)(a2:Int):Obj:=qb bT (.seq #[(.int a0 a1),(.int a2<|a1+1)] 0)
def Bh(P:Params)(a0:Nat)(a1:Int)(a2:Nat):Obj:=qb fU (.dict #[(qd P gR a0<|.str pG 194),(qd P gS (a0+4)<|.int a1<|a0+3),(qd P gT (a0+5)<|.ref a2),(qd P mR (a0+6) .none)] 2)
def Bj(a0:Str)(a1:Nat)(a2:Nat)(a3:Nat)(a4:Nat):Obj:=(.mk (.type mC) .none (.cls<|.mk a0 [(.ref 31)] [(.ref a1),(.ref 31),(.type pH),(.type ja),(.type jb),(.type iL)] a2 a0 .true [] [] .false .none .false) #[(.some<|.ref a3),.none,(.some<|.str a0 a4),(.some<|.str a0<|a4+8),(.some<|.builtin jc),(.some<|.bool .true)])
def qU:YZ->Hu | []=>[] | (a,b)::l=>.int a 0 :: .int 4 0 :: .ref b::qU l
def qT(l:YZ):Obj:=.mk .none .none (.fields (qU l).toArray) #[]
def eR(a0:Obj)(a1:Str)(a2:Str)(a3:Stmt)(a4:Stmt)(a5:Nat)(a6:Int)(a7:Int)(a8:Nat)(a9:Int)(a10:Nat)(a11:Str)(a12:Nat):YW:=[qb bT (.seq #[] 0),(.mk .none .none (.fields #[]) #[]),a0,qb bT (.seq #[] 0),Nh a1 a2 a3 a4,FP a1 a5 a2 a6 a7 a8 a9 a10,FO a1 a2 a3 a4 a11 a12 (a8+5)]
def eS(a0:Str)(a1:Str)(a2:Stmt)(a3:Stmt)(a4:Nat)(a5:Int)(a6:Int)(a7:Nat)(a8:Int)(a9:Str)(a10:Nat):YW:=[qb bT (.seq #[] 0),(.mk .none .none (.fields #[]) #[]),Nh a0 a1 a2 a3,aIq a0 a4 a1 a5 a6 a7 a8,FO a0 a1 a2 a3 a9 a10 (a7+3)]
def eX(a0:Obj)(a1:Str)(a2:Stmt)(a3:Nat)(a4:Int)(a5:Int)(a6:Nat)(a7:Int)(a8:Nat)(a9:Str)(a10:Nat):YW:=[qb bT (.seq #[] 0),(.mk .none .none (.fields #[]) #[]),a0,qb bT (.seq #[] 0),Nh ua a1 a2 a2,FP ua a3 a1 a4 a5 a6 a7 a8,aIr a1 a2 (a6-1) a9 a10]
def qH(s i a:Nat)(m:Str)(k:Nat):YW:=eR (Ng (qS s)<|i+3) (sU<|qS s) (sU<|qS s) (qS s) (qS s) i (iw<|qS s).line (xF<|qS s).args.length a (i+3+(aq<|qS s).length:Nat) (i+4+(aq<|qS s).length) m k
def qh(s i a:Nat)(m:Str)(k:Nat):YW:=eS (sU<|qS s) (sU<|qS s) (qS s) (qS s) i (iw<|qS s).line (xF<|qS s).args.length a (i+3:Nat) m k
def bN(c j i a:Nat)(m:Str)(k:Nat):YW:=eR (Ng (iS c j)<|i+3) (sU<|iS c j) (Nd c j) (iS c j) (iS c j) i (iw<|iS c j).line (xF<|iS c j).args.length a (i+3+(aq<|iS c j).length:Nat) (i+4+(aq<|iS c j).length) m k
def dP(c j i a:Nat)(m:Str)(k:Nat):YW:=eS (sU<|iS c j) (Nd c j) (iS c j) (iS c j) i (iw<|iS c j).line (xF<|iS c j).args.length a (i+3:Nat) m k
def eI(c j i a:Nat)(m:Str)(k:Nat):YW:=eX (Ng (iS c j)<|i+3) (Nd c j) (iS c j) i (iw<|iS c j).line (xF<|iS c j).args.length a (i+3+(aq<|iS c j).length:Nat) (i+4+(aq<|iS c j).length) m k
def eN(P:Params):YW:=[boot_o_0 P,boot_o_1 P,boot_o_2 P,boot_o_3 P,boot_o_4 P,boot_o_5 P,boot_o_6 P,boot_o_7 P,boot_o_8 P,boot_o_9 P,boot_o_10 P,qb bT (.seq #[] 0),qI 0,iV qn0 182 1 11 185,iW 13 3 FA 164]
def fJ(P:Params):YW:=((eN P).set 3 (qM P (qd P gG 165<|.str pG 194) 10 11)).set 12 (qI 6)++(qH 0 187 15 FA 164++([qb bT (.seq #[(.type pH)] 0),jI,ub P 203 iT 5 29,qb bT (.seq #[] 0),(.mk .none .none (.fields #[]) #[]),iV iT 198 5 25 201,iW 27 24 pG 194,qb bT (.seq #[] 0),qb fU (.dict #[(qd P gR 203<|.str pG 194),(qd P gS 207<|.int 5 206),(qr P gT 208 29),(qr P qZ 210 32),(qd P mR 211 .none)] 3),(.mk (.type mC) .none (.cls<|.mk iT [(.type pH)] [(.ref 31),(.type pH),(.type ja),(.type jb),(.type iL)] 30 iT .true [] [] .false .none .false) #[(.some<|.ref 22),.none,(.some<|.str iT 196),(.some<|.str iT 204),(.some<|.builtin jc),(.some<|.bool .true)]),sV 209 31,jJ 31,jK 31]))
def fQ(P:Params):YW:=(((fJ P).set 3 (qM P (qd P gG 165<|.str pG 194) 11 12)).set 12 (qI 9)).set 31 ((.mk (.type mC) .none (.cls<|.mk iT [(.type pH)] [(.ref 31),(.type pH),(.type ja),(.type jb),(.type iL)] 30 iT .true [] [(.ref 44)] .false .none .false) #[(.some<|.ref 22),.none,(.some<|.str iT 196),(.some<|.str iT 204),(.some<|.builtin jc),(.some<|.bool .true)]))++([qb bT (.seq #[(.ref 31)] 0),jI,ub P 221 Mu 7 42,qb bT (.seq #[] 0),(.mk .none .none (.fields #[]) #[]),iV Mu 216 7 38 219,iW 40 37 pG 194,qb bT (.seq #[] 0),Bh P 221 7 42,Bj Mu 44 43 35 214,jJ 44,jK 44])
def fT(P:Params):YW:=(((fQ P).set 3 (qM P (qd P gG 165<|.str pG 194) 12 13)).set 12 (qI 12)).set 31 ((.mk (.type mC) .none (.cls<|.mk iT [(.type pH)] [(.ref 31),(.type pH),(.type ja),(.type jb),(.type iL)] 30 iT .true [] [(.ref 44),(.ref 56)] .false .none .false) #[(.some<|.ref 22),.none,(.some<|.str iT 196),(.some<|.str iT 204),(.some<|.builtin jc),(.some<|.bool .true)]))++([qb bT (.seq #[(.ref 31)] 0),jI,ub P 237 Mv 9 54,qb bT (.seq #[] 0),(.mk .none .none (.fields #[]) #[]),iV Mv 232 9 50 235,iW 52 49 pG 194,qb bT (.seq #[] 0),Bh P 237 9 54,Bj Mv 56 55 47 230,jJ 56,jK 56])
def gE(P:Params):YW:=(((fT P).set 3 (qM P (qd P gG 165<|.str pG 194) 13 14)).set 12 (qI 15)).set 31 ((.mk (.type mC) .none (.cls<|.mk iT [(.type pH)] [(.ref 31),(.type pH),(.type ja),(.type jb),(.type iL)] 30 iT .true [] [(.ref 44),(.ref 56),(.ref 68)] .false .none .false) #[(.some<|.ref 22),.none,(.some<|.str iT 196),(.some<|.str iT 204),(.some<|.builtin jc),(.some<|.bool .true)]))++([qb bT (.seq #[(.ref 31)] 0),jI,ub P 253 Mx 11 66,qb bT (.seq #[] 0),(.mk .none .none (.fields #[]) #[]),iV Mx 248 11 62 251,iW 64 61 pG 194,qb bT (.seq #[] 0),Bh P 253 11 66,Bj Mx 68 67 59 246,jJ 68,jK 68])
def gQ(P:Params):YW:=(((gE P).set 3 (qM P (qd P gG 165<|.str ao 278) 21 22)).set 12 (qI 30)).set 31 ((.mk (.type mC) .none (.cls<|.mk iT [(.type pH)] [(.ref 31),(.type pH),(.type ja),(.type jb),(.type iL)] 30 iT .true [] [(.ref 44),(.ref 56),(.ref 68),(.ref 80)] .false .none .false) #[(.some<|.ref 22),.none,(.some<|.str iT 196),(.some<|.str iT 204),(.some<|.builtin jc),(.some<|.bool .true)]))++([qb bT (.seq #[(.ref 31)] 0),jI,ub P 269 Mz 13 78,qb bT (.seq #[] 0),(.mk .none .none (.fields #[]) #[]),iV Mz 264 13 74 267,iW 76 73 pG 194,qb bT (.seq #[] 0),Bh P 269 13 78,Bj Mz 80 79 71 262,jJ 80,jK 80,qb bT (.seq (!(284,aGq,aGr,FD,FE,FF,aGs,aGt,aGu,aGv,aGw,aGx,aGy)) 0)]++(qH 11 297 84 ao 278++(qH 12 304 91 ao 278++(qH 13 312 98 ao 278++(qH 14 319 105 ao 278)))))
def hA(P:Params):YW:=((gQ P).set 3 (qM P (qd P gG 165<|.str uT 344) 30 31)).set 12 (qI 54)++(qH 15 327 112 ao 278++(qH 16 335 119 ao 278++([qb fU (.dict #[(qd P FD 346<|.int 1 347),(qd P FE 348<|.int 2 349),(qd P FF 350<|.int 2 351),(qd P aHb 352<|.int 3 353),(qd P aHc 354<|.int 3 355),(qd P aHd 356<|.int 4 357),(qd P aHe 358<|.int 4 359),(qd P aHf 360<|.int 4 361)] 8)]++(qH 19 371 127 uT 344++(qH 20 379 134 uT 344++(qH 21 387 141 uT 344++(qH 22 394 148 uT 344++(qH 23 402 155 uT 344++(qH 24 411 162 uT 344)))))))))
def iE(P:Params):YW:=((hA P).set 3 (qM P (qd P gG 165<|.str cO 492) 38 39)).set 12 (qI 75)++(qH 25 422 169 uT 344++(qH 26 432 176 uT 344++(qH 28 446 183 tw 444++(qH 29 455 190 tw 444++(qH 30 464 197 tw 444++(qH 31 476 204 tw 444++(qH 32 484 211 tw 444)))))))
def iK(P:Params):YW:=((iE P).set 3 (qM P (qd P gG 165<|.str cO 492) 39 40)).set 12 (qI 78)++([qb bT (.seq #[] 0),jI,iy P 503 Nc 141 516 231 aHp aHq 535 537,qb bT (.seq #[] 0),iz 143 230 146 149,iV Nc 498 141 221 501,iW 223 220 cO 492]++(bN 35 0 508 225 cO 492++(bN 35 1 517 232 cO 492++(bN 35 2 525 239 cO 492++([qb bT (.seq (!(536,aFa)) 0),qb fU (.dict #[(qd P gR 503<|.str cO 492),(qd P gS 507<|.int 141 506),(qQ P 35 0 516 231),(qQ P 35 1 524 238),(qQ P 35 2 535 245),(qr P gT 537 246),(qr P sS 539 249),(qr P qZ 541 250),(qd P mR 542 .none)] 4),uU Nc 248 247 496,uV 538 248,sV 540 248,jJ 248,jK 248])))))
def iR(P:Params):YW:=((iK P).set 3 (qM P (qd P gG 165<|.str cO 492) 40 41)).set 12 (qI 81)++([qb bT (.seq #[] 0),jI,qb fU (.dict (qW [(qd P gR 552<|.str cO 492),(qd P pF 554<|.str eY 553),(qd P gS 556<|.int 153 555)] (qV P 36 0 Lx) [(qr P gT 598 295)]) 9),qb bT (.seq #[] 0),(qT<|qY 36 0 Lx),iV eY 547 153 256 550,iW 258 255 cO 492]++(bN 36 0 557 260 cO 492++(bN 36 1 564 267 cO 492++(bN 36 2 572 274 cO 492++(bN 36 3 581 281 cO 492++(bN 36 4 590 288 cO 492++([qb bT (.seq (!(597,aFc)) 0),qb fU (.dict (qW [(qd P gR 552<|.str cO 492),(qd P gS 556<|.int 153 555)] (qV P 36 0 Lx) [(qr P gT 598 295),(qr P sS 600 298),(qr P qZ 602 299),(qd P mR 603 .none)]) 4),uU eY 297 296 545,uV 599 297,sV 601 297,jJ 297,jK 297])))))))
def jH(P:Params):YW:=(((iR P).set 3 (qM P (qd P gG 165<|.str cO 492) 41 42)).set 12 (qI 84)).set 297 ((.mk (.type mC) .none (.cls<|.mk eY [(.type iL)] [(.ref 297),(.type iL)] 296 eY .true [] [(.ref 318)] .false .none .false) #[.none,.none,(.some<|.str eY 545),(.some<|.str eY 553),(.some<|.builtin uW),(.some<|.bool .true)]))++([qb bT (.seq #[(.ref 297)] 0),jI,qb fU (.dict #[(qd P gR 613<|.str cO 492),(qd P pF 615<|.str Mg 614),(qd P gS 617<|.int 170 616),(qQ P 37 0 625 315),(qr P gT 626 316)] 5),qb bT (.seq #[] 0),(qT [(172,314)]),iV Mg 608 170 305 611,iW 307 304 cO 492]++(bN 37 0 618 309 cO 492++([qb bT (.seq #[] 0),qb fU (.dict #[(qd P gR 613<|.str cO 492),(qd P gS 617<|.int 170 616),(qQ P 37 0 625 315),(qr P gT 626 316),(qd P mR 627 .none)] 2),au Mg 318 317 302 606,jJ 318,jK 318])))
def jV(P:Params):YW:=(((jH P).set 3 (qM P (qd P gG 165<|.str cO 492) 42 43)).set 12 (qI 87)).set 297 ((.mk (.type mC) .none (.cls<|.mk eY [(.type iL)] [(.ref 297),(.type iL)] 296 eY .true [] [(.ref 318),(.ref 352)] .false .none .false) #[.none,.none,(.some<|.str eY 545),(.some<|.str eY 553),(.some<|.builtin uW),(.some<|.bool .true)]))++([qb bT (.seq #[(.ref 297)] 0),jI,iy P 637 Mh 174 649 335 ip iq 666 669,qb bT (.seq #[] 0),iz 176 334 181 184,iV Mh 632 174 324 635,iW 326 323 cO 492,qb bT (.seq #[(.bool .false)] 0)]++(eI 38 0 642 329 cO 492++(bN 38 1 650 336 cO 492++(bN 38 2 658 343 cO 492++([Bk aFe 667 aFf,uc P 637 174 649 335 666 669,au Mh 352 351 321 630,jJ 352,jK 352])))))
def kI(P:Params):YW:=(((jV P).set 3 (qM P (qd P gG 165<|.str cO 492) 43 44)).set 12 (qI 90)).set 297 ((.mk (.type mC) .none (.cls<|.mk eY [(.type iL)] [(.ref 297),(.type iL)] 296 eY .true [] [(.ref 318),(.ref 352),(.ref 386)] .false .none .false) #[.none,.none,(.some<|.str eY 545),(.some<|.str eY 553),(.some<|.builtin uW),(.some<|.bool .true)]))++([qb bT (.seq #[(.ref 297)] 0),jI,iy P 680 Mi 186 694 369 ip iq 711 713,qb bT (.seq #[] 0),iz 188 368 192 195,iV Mi 675 186 358 678,iW 360 357 cO 492,qb bT (.seq #[(.int 1 685)] 0)]++(eI 39 0 686 363 cO 492++(bN 39 1 695 370 cO 492++(bN 39 2 703 377 cO 492++([qb bT (.seq (!(712,Mj)) 0),uc P 680 186 694 369 711 713,au Mi 386 385 355 673,jJ 386,jK 386])))))
def kW(P:Params):YW:=(((kI P).set 3 (qM P (qd P gG 165<|.str cO 492) 44 45)).set 12 (qI 93)).set 297 ((.mk (.type mC) .none (.cls<|.mk eY [(.type iL)] [(.ref 297),(.type iL)] 296 eY .true [] [(.ref 318),(.ref 352),(.ref 386),(.ref 420)] .false .none .false) #[.none,.none,(.some<|.str eY 545),(.some<|.str eY 553),(.some<|.builtin uW),(.some<|.bool .true)]))++([qb bT (.seq #[(.ref 297)] 0),jI,iy P 724 Ml 197 738 403 ip iq 756 760,qb bT (.seq #[] 0),iz 199 402 205 208,iV Ml 719 197 392 722,iW 394 391 cO 492,qb bT (.seq #[(.int 4 729)] 0)]++(eI 40 0 730 397 cO 492++(bN 40 1 739 404 cO 492++(bN 40 2 747 411 cO 492++([FQ aFg 757 Mj aFh,uc P 724 197 738 403 756 760,au Ml 420 419 389 717,jJ 420,jK 420])))))
def lO(P:Params):YW:=(((kW P).set 3 (qM P (qd P gG 165<|.str cO 492) 45 46)).set 12 (qI 96)).set 297 ((.mk (.type mC) .none (.cls<|.mk eY [(.type iL)] [(.ref 297),(.type iL)] 296 eY .true [] [(.ref 318),(.ref 352),(.ref 386),(.ref 420),(.ref 446)] .false .none .false) #[.none,.none,(.some<|.str eY 545),(.some<|.str eY 553),(.some<|.builtin uW),(.some<|.bool .true)]))++([qb bT (.seq #[(.ref 297)] 0),jI,qb fU (.dict #[(qd P gR 771<|.str cO 492),(qd P pF 773<|.str Mm 772),(qd P gS 775<|.int 212 774),(qQ P 41 0 783 436),(qQ P 41 1 791 443),(qr P gT 793 444)] 6),qb bT (.seq #[] 0),(qT [(214,435),(218,442)]),iV Mm 766 212 426 769,iW 428 425 cO 492]++(bN 41 0 776 430 cO 492++(bN 41 1 784 437 cO 492++([qb bT (.seq (!(792,aFi)) 0),qb fU (.dict #[(qd P gR 771<|.str cO 492),(qd P gS 775<|.int 212 774),(qQ P 41 0 783 436),(qQ P 41 1 791 443),(qr P gT 793 444),(qd P mR 794 .none)] 2),au Mm 446 445 423 764,jJ 446,jK 446]))))
def lY(P:Params):YW:=(((lO P).set 3 (qM P (qd P gG 165<|.str cO 492) 46 47)).set 12 (qI 99)).set 297 ((.mk (.type mC) .none (.cls<|.mk eY [(.type iL)] [(.ref 297),(.type iL)] 296 eY .true [] [(.ref 318),(.ref 352),(.ref 386),(.ref 420),(.ref 446),(.ref 479)] .false .none .false) #[.none,.none,(.some<|.str eY 545),(.some<|.str eY 553),(.some<|.builtin uW),(.some<|.bool .true)]))++([qb bT (.seq #[(.ref 297)] 0),jI,iy P 804 Mn 222 816 462 ip iq 833 835,qb bT (.seq #[] 0),iz 224 461 228 231,iV Mn 799 222 452 802,iW 454 451 cO 492]++(bN 42 0 809 456 cO 492++(bN 42 1 817 463 cO 492++(bN 42 2 825 470 cO 492++([qb bT (.seq (!(834,FG)) 0),uc P 804 222 816 462 833 835,au Mn 479 478 449 797,jJ 479,jK 479])))))
def mQ(P:Params):YW:=(((lY P).set 3 (qM P (qd P gG 165<|.str sT 887) 47 48)).set 12 (qI 102)).set 297 ((.mk (.type mC) .none (.cls<|.mk eY [(.type iL)] [(.ref 297),(.type iL)] 296 eY .true [] [(.ref 318),(.ref 352),(.ref 386),(.ref 420),(.ref 446),(.ref 479),(.ref 513)] .false .none .false) #[.none,.none,(.some<|.str eY 545),(.some<|.str eY 553),(.some<|.builtin uW),(.some<|.bool .true)]))++([qb bT (.seq #[(.ref 297)] 0),jI,iy P 846 Mp 233 861 496 ip iq 879 883,qb bT (.seq #[] 0),iz 235 495 241 246,iV Mp 841 233 485 844,iW 487 484 cO 492,qb bT (.seq #[(.int 16 851)] 0)]++(eI 43 0 852 490 cO 492++(bN 43 1 862 497 cO 492++(bN 43 2 870 504 cO 492++([FQ FG 880 aGz Mj,uc P 846 233 861 496 879 883,au Mp 513 512 482 839,jJ 513,jK 513])))))
def nH(P:Params):YW:=((mQ P).set 3 (qM P (qd P gG 165<|.str uS 955) 48 49)).set 12 (qI 105)++([qb bT (.seq #[] 0),jI,qb fU (.dict (qW [(qd P gR 896<|.str sT 887),(qd P pF 898<|.str Mq 897),(qd P gS 900<|.int 253 899)] (qV P 45 0 Ly) [(qr P gT 947 559)]) 10),qb bT (.seq #[] 0),(qT<|qY 45 0 Ly),iV Mq 891 253 519 894,iW 521 518 sT 887]++(bN 45 0 901 523 sT 887++(dP 45 1 909 530 sT 887++(bN 45 2 915 535 sT 887++(dP 45 3 926 542 sT 887++(bN 45 4 932 547 sT 887++(dP 45 5 939 554 sT 887++([Bk aFj 945 aFl,qb fU (.dict (qW [(qd P gR 896<|.str sT 887),(qd P gS 900<|.int 253 899)] (qV P 45 0 Ly) [(qr P gT 947 559),(qr P sS 949 562),(qr P qZ 951 563),(qd P mR 952 .none)]) 4),uU Mq 561 560 889,uV 948 561,sV 950 561,jJ 561,jK 561]))))))))
def oE(P:Params):YW:=((nH P).set 3 (qM P (qd P gG 165<|.str lZ 1022) 49 50)).set 12 (qI 108)++([qb bT (.seq #[] 0),jI,qb fU (.dict (qW [(qd P gR 964<|.str uS 955),(qd P pF 966<|.str Mr 965),(qd P gS 968<|.int 287 967)] (qV P 47 0 Lz) [(qr P gT 1014 606)]) 9),qb bT (.seq #[] 0),(qT<|qY 47 0 Lz),iV Mr 959 287 569 962,iW 571 568 uS 955]++(bN 47 0 969 573 uS 955++(bN 47 1 976 580 uS 955++(bN 47 2 987 587 uS 955++(dP 47 3 996 594 uS 955++(bN 47 4 1002 599 uS 955++([qb bT (.seq (!(1013,aFo)) 0),qb fU (.dict (qW [(qd P gR 964<|.str uS 955),(qd P gS 968<|.int 287 967)] (qV P 47 0 Lz) [(qr P gT 1014 606),(qr P sS 1016 609),(qr P qZ 1018 610),(qd P mR 1019 .none)]) 4),uU Mr 608 607 957,uV 1015 608,sV 1017 608,jJ 608,jK 608])))))))
def pE(P:Params):YW:=((oE P).set 3 (qM P (qd P gG 165<|.str lZ 1022) 50 51)).set 12 (qI 111)++([qb bT (.seq #[] 0),jI,qb fU (.dict (qW [(qd P gR 1031<|.str lZ 1022),(qd P pF 1033<|.str Ms 1032),(qd P gS 1035<|.int 315 1034)] (qV P 49 0 Ma) [(qr P gT 1125 687)]) 15),qb bT (.seq #[] 0),(qT<|qY 49 0 Ma),iV Ms 1026 315 616 1029,iW 618 615 lZ 1022]++(bN 49 0 1036 620 lZ 1022++(dP 49 1 1043 627 lZ 1022++(bN 49 2 1049 632 lZ 1022++(bN 49 3 1059 639 lZ 1022++(bN 49 4 1071 646 lZ 1022++(dP 49 5 1081 653 lZ 1022++(bN 49 6 1087 658 lZ 1022++(bN 49 7 1097 665 lZ 1022++(dP 49 8 1105 672 lZ 1022++(dP 49 9 1111 677 lZ 1022++(dP 49 10 1117 682 lZ 1022++([Bk aFp 1123 aFq,qb fU (.dict (qW [(qd P gR 1031<|.str lZ 1022),(qd P gS 1035<|.int 315 1034)] (qV P 49 0 Ma) [(qr P gT 1125 687),(qr P sS 1127 690),(qr P qZ 1129 691),(qd P mR 1130 .none)]) 4),uU Ms 689 688 1024,uV 1126 689,sV 1128 689,jJ 689,jK 689])))))))))))))
def qX(P:Params):YW:=((pE P).set 3 (qM P (qd P gG 165<|.str kJ 1133) 51 52)).set 12 (qI 114)++([qb bT (.seq #[] 0),jI,qb fU (.dict (qW [(qd P gR 1142<|.str kJ 1133),(qd P pF 1144<|.str Mt 1143),(qd P gS 1146<|.int 386 1145)] (qV P 51 0 Mb) [(qr P gT 1195 729)]) 8),qb bT (.seq #[] 0),(qT<|qY 51 0 Mb),iV Mt 1137 386 697 1140,iW 699 696 kJ 1133]++(bN 51 0 1147 701 kJ 1133++(bN 51 1 1159 708 kJ 1133++(bN 51 2 1166 715 kJ 1133++(bN 51 3 1173 722 kJ 1133++([qb bT (.seq (!(1181,aHi,aFr,aFs,aFt,aFu,aHk,FC,aFv,aHn,aHg,aFw,aFx,aFk,aHh)) 0),qb fU (.dict (qW [(qd P gR 1142<|.str kJ 1133),(qd P gS 1146<|.int 386 1145)] (qV P 51 0 Mb) [(qr P gT 1195 729),(qr P sS 1197 732),(qr P qZ 1199 733),(qd P mR 1200 .none)]) 4),uU Mt 731 730 1135,uV 1196 731,sV 1198 731,jJ 731,jK 731]))))))
def sR(P:Params):YW:=((qX P).set 3 (qM P (qd P gG 165<|.str kJ 1133) 52 53)).set 12 (qI 117)++([qb bT (.seq #[] 0),jI,qb fU (.dict (qW [(qd P gR 1210<|.str kJ 1133),(qd P pF 1212<|.str Mw 1211),(qd P gS 1214<|.int 413 1213)] (qV P 52 0 Mc) [(qr P gT 1288 790)]) 11),qb bT (.seq #[] 0),(qT<|qY 52 0 Mc),iV Mw 1205 413 739 1208,iW 741 738 kJ 1133]++(bN 52 0 1215 743 kJ 1133++(bN 52 1 1227 750 kJ 1133++(bN 52 2 1234 757 kJ 1133++(bN 52 3 1243 764 kJ 1133++(bN 52 4 1252 771 kJ 1133++(bN 52 5 1262 778 kJ 1133++(dP 52 6 1271 785 kJ 1133++([qb bT (.seq (!(1277,aGb,aGc,FC,aGd,aFy,aGe,aFz,aGf,aFn,aFm,aGa)) 0),qb fU (.dict (qW [(qd P gR 1210<|.str kJ 1133),(qd P gS 1214<|.int 413 1213)] (qV P 52 0 Mc) [(qr P gT 1288 790),(qr P sS 1290 793),(qr P qZ 1292 794),(qd P mR 1293 .none)]) 4),uU Mw 792 791 1203,uV 1289 792,sV 1291 792,jJ 792,jK 792])))))))))
def uP(P:Params):YW:=((sR P).set 3 (qM P (qd P gG 165<|.str rA 1327) 56 57)).set 12 (qI 129)++(qH 54 1298 797 Na 1296++(qH 55 1306 804 Na 1296++(qH 56 1315 811 Na 1296++([qb bT (.seq #[] 0),jI,qb fU (.dict #[(qd P gR 1336<|.str rA 1327),(qd P pF 1338<|.str My 1337),(qd P gS 1340<|.int 486 1339),(qQ P 58 0 1350 831),(qQ P 58 1 1359 838),(qr P gT 1367 839)] 6),qb bT (.seq #[] 0),(qT [(488,830),(497,837)]),iV My 1331 486 821 1334,iW 823 820 rA 1327]++(bN 58 0 1341 825 rA 1327++(bN 58 1 1351 832 rA 1327++([qb bT (.seq (!(1360,aGh,aGi,aHo,aGg,aGj,aGl,aGm)) 0),qb fU (.dict #[(qd P gR 1336<|.str rA 1327),(qd P gS 1340<|.int 486 1339),(qQ P 58 0 1350 831),(qQ P 58 1 1359 838),(qr P gT 1367 839),(qr P sS 1369 842),(qr P qZ 1371 843),(qd P mR 1372 .none)] 4),uU My 841 840 1329,uV 1368 841,sV 1370 841,jJ 841,jK 841])))))))
def xE(P:Params):YW:=((uP P).set 3 (qM P (qd P gG 165<|.str mB 1482) 68 69)).set 12 (qI 162)++(qH 59 1375 846 rA 1327++(qH 60 1385 853 rA 1327++(qH 61 1394 860 rA 1327++(qH 62 1403 867 rA 1327++(qH 63 1411 874 rA 1327++(qH 65 1421 881 iu 1419++(qH 66 1431 888 iu 1419++(qH 67 1440 895 iu 1419++(qH 68 1452 902 iu 1419++(qH 69 1461 909 iu 1419++(qH 70 1471 916 iu 1419++([ud 2 1484 1,ud 1 1486 3,ud 1 1488 6,ud 1 1490 2,ud 1 1492 1,qb bT (.seq #[(.ref 923),(.ref 924),(.ref 925),(.ref 926),(.ref 927)] 0)]))))))))))))
def ai(P:Params):YW:=((xE P).set 3 (qM P (qd P gG 165<|.str mB 1482) 69 70)).set 12 (qI 165)++([qb bT (.seq #[] 0),jI,qb fU (.dict (qW [(qd P gR 1502<|.str mB 1482),(qd P pF 1504<|.str Nb 1503),(qd P gS 1506<|.int 578 1505)] (qV P 73 0 Md) [(qr P gT 1593 1005)]) 14),qb bT (.seq #[] 0),(qT<|qY 73 0 Md),iV Nb 1497 578 932 1500,iW 934 931 mB 1482,qb bT (.seq #[(.int 8 1507),(.int 2 1508),.none,.none,.none] 0)]++(eI 73 0 1509 937 mB 1482++(bN 73 1 1523 944 mB 1482++(bN 73 2 1532 951 mB 1482++(bN 73 3 1541 958 mB 1482++(dP 73 4 1548 965 mB 1482++(bN 73 5 1554 970 mB 1482++(bN 73 6 1561 977 mB 1482++(bN 73 7 1568 984 mB 1482++(bN 73 8 1575 991 mB 1482++(bN 73 9 1582 998 mB 1482++([Bk aHm 1591 aHl,qb fU (.dict (qW [(qd P gR 1502<|.str mB 1482),(qd P gS 1506<|.int 578 1505)] (qV P 73 0 Md) [(qr P gT 1593 1005),(qr P sS 1595 1008),(qr P qZ 1597 1009),(qd P mR 1598 .none)]) 4),uU Nb 1007 1006 1495,uV 1594 1007,sV 1596 1007,jJ 1007,jK 1007]))))))))))))
def ik(P:Params):YW:=((ai P).set 3 (qM P (qd P gG 165<|.str gF 1608) 81 82)).set 12 (qI 201)++(qH 74 1601 1012 mB 1482++(qH 76 1610 1019 gF 1608++(qH 77 1618 1026 gF 1608++(qH 78 1626 1033 gF 1608++(qH 79 1635 1040 gF 1608++(qH 80 1649 1047 gF 1608++(qH 81 1662 1054 gF 1608++(qH 82 1679 1061 gF 1608++(qH 83 1693 1068 gF 1608++(qh 84 1702 1075 gF 1608++(qh 85 1708 1080 gF 1608++(qH 86 1714 1085 gF 1608))))))))))))
def tq(P:Params):YW:=((ik P).set 3 (qM P (qd P gG 165<|.str gF 1608) 93 94)).set 12 (qI 237)++(qH 87 1723 1092 gF 1608++(qH 88 1734 1099 gF 1608++(qH 89 1747 1106 gF 1608++(qH 90 1762 1113 gF 1608++(qH 91 1772 1120 gF 1608++(qh 92 1783 1127 gF 1608++(qH 93 1789 1132 gF 1608++(qH 94 1799 1139 gF 1608++(qH 95 1806 1146 gF 1608++(qH 96 1813 1153 gF 1608++(qh 97 1821 1160 gF 1608++(qH 98 1827 1165 gF 1608))))))))))))
def Be(P:Params):YW:=((tq P).set 3 (qM P (qd P gG 165<|.str gF 1608) 94 95)).set 12 (qI 240)++(qh 99 1845 1172 gF 1608)
def tw1123721790843070001:Params->Heap:=λP=>Subtype.val (p:=λt=>t=(.mk (eN P).toArray (.mk [] [] [] 0 [] [] .false #[] [] 0 .false .false .false 0 [2000,10,10] .false 0 .true [] [] 0 .false))) ⟨_,by dsimp only[eN,qH,qh,bN,dP,eI,eR,eS,eX,List.set,List.cons_append,List.nil_append]⟩
theorem te1123721790843070001:!tw1123721790843070001:=rfl
def tw657089752120002864:YV:=[(qS 0),(qS 1),(qS 2)]
theorem te657089752120002864:!tw657089752120002864:=rfl
def tw929130376466005384:YV:=[(qS 3)]
theorem te929130376466005384:!tw929130376466005384:=rfl
def tw11810535253968453653:YV:=[(qS 4)]
theorem te11810535253968453653:!tw11810535253968453653:=rfl
def tw14140634292233146428:YV:=[(qS 5)]
theorem te14140634292233146428:!tw14140634292233146428:=rfl
def tw7925768530908975378:YV:=[(qS 6),(qS 7),(qS 8),(qS 9),(qS 10),(qS 11),(qS 12),(qS 13),(qS 14)]
theorem te7925768530908975378:!tw7925768530908975378:=rfl
def tw14947004836344407134:YV:=[(qS 15),(qS 16),(qS 17),(qS 18),(qS 19),(qS 20),(qS 21),(qS 22),(qS 23),(qS 24)]
theorem te14947004836344407134:!tw14947004836344407134:=rfl
def tw1590650339102765799:YV:=[(qS 25),(qS 26),(qS 27),(qS 28),(qS 29),(qS 30),(qS 31),(qS 32),(qS 33),(qS 34)]
theorem te1590650339102765799:!tw1590650339102765799:=rfl
def tw14445753235540665205:YV:=[(qS 35)]
theorem te14445753235540665205:!tw14445753235540665205:=rfl
def tw13583973797756885711:YV:=[(qS 36)]
theorem te13583973797756885711:!tw13583973797756885711:=rfl
def tw7480671440708809446:YV:=[(qS 37)]
theorem te7480671440708809446:!tw7480671440708809446:=rfl
def tw2397597597230051184:YV:=[(qS 38)]
theorem te2397597597230051184:!tw2397597597230051184:=rfl
def tw13897507562470340685:YV:=[(qS 39)]
theorem te13897507562470340685:!tw13897507562470340685:=rfl
def tw8301830178224259571:YV:=[(qS 40)]
theorem te8301830178224259571:!tw8301830178224259571:=rfl
def tw15593864252920239062:YV:=[(qS 41)]
theorem te15593864252920239062:!tw15593864252920239062:=rfl
def tw11343970699775648305:YV:=[(qS 42)]
theorem te11343970699775648305:!tw11343970699775648305:=rfl
def tw7217297118668203640:YV:=[(qS 43),(qS 44)]
theorem te7217297118668203640:!tw7217297118668203640:=rfl
def tw9895400778777389029:YV:=[(qS 45),(qS 46)]
theorem te9895400778777389029:!tw9895400778777389029:=rfl
def tw12696284182995084003:YV:=[(qS 47),(qS 48)]
theorem te12696284182995084003:!tw12696284182995084003:=rfl
def tw3514921618010274756:YV:=[(qS 49)]
theorem te3514921618010274756:!tw3514921618010274756:=rfl
def tw15587386323477519482:YV:=[(qS 50),(qS 51)]
theorem te15587386323477519482:!tw15587386323477519482:=rfl
def tw8678385417218335763:YV:=[(qS 52)]
theorem te8678385417218335763:!tw8678385417218335763:=rfl
def tw15917254494951680680:YV:=[(qS 53),(qS 54),(qS 55),(qS 56),(qS 57),(qS 58)]
theorem te15917254494951680680:!tw15917254494951680680:=rfl
def tw5846438873308567380:YV:=[(qS 59),(qS 60),(qS 61),(qS 62),(qS 63),(qS 64),(qS 65),(qS 66),(qS 67),(qS 68),(qS 69),(qS 70),(qS 71),(qS 72)]
theorem te5846438873308567380:!tw5846438873308567380:=rfl
def tw6035532084671192502:YV:=[(qS 73)]
theorem te6035532084671192502:!tw6035532084671192502:=rfl
def tw16001052799302583230:YV:=[(qS 74),(qS 75),(qS 76),(qS 77),(qS 78),(qS 79),(qS 80),(qS 81),(qS 82),(qS 83),(qS 84),(qS 85),(qS 86)]
theorem te16001052799302583230:!tw16001052799302583230:=rfl
def tw2713342370211574706:YV:=[(qS 87),(qS 88),(qS 89),(qS 90),(qS 91),(qS 92),(qS 93),(qS 94),(qS 95),(qS 96),(qS 97),(qS 98)]
theorem te2713342370211574706:!tw2713342370211574706:=rfl
def tw15479247604536129986:YV:=[(qS 99)]
theorem te15479247604536129986:!tw15479247604536129986:=rfl
def tw17115249230762368099:Params->Heap:=λP=>Subtype.val (p:=λt=>t=(.mk (Be P).toArray (.mk [] [] [] 0 [] [] .false #[] [] 0 .false .false .false 0 [2000,10,10] .false 0 .true [] [] 0 .false))) ⟨_,by dsimp only[Be,tq,ik,ai,xE,uP,sR,qX,pE,oE,nH,mQ,lY,lO,kW,kI,jV,jH,iR,iK,iE,hA,gQ,gE,fT,fQ,fJ,eN,qH,qh,bN,dP,eI,eR,eS,eX,List.set,List.cons_append,List.nil_append]⟩
theorem te17115249230762368099:!tw17115249230762368099:=rfl
def tw781188706228634173:PySem.Program:=Challenge.pw_aheadmill_k36_window_of_one
theorem te781188706228634173:!tw781188706228634173:=rfl
def tw9897145914084891619:Params->BT:=-eN
def tw3625438346350112805:Params->BT:=-fJ
def tw7833186716781247984:Params->BT:=-fQ
def tw11636367393847043251:Params->BT:=-fT
def tw5453645423777692872:Params->BT:=-gE
def tw9326247771821901761:Params->BT:=-gQ
def tw17705330446985761604:Params->BT:=-hA
def tw12158217979201687247:Params->BT:=-iE
def tw11052253969866090767:Params->BT:=-iK
def tw8772010575958703649:Params->BT:=-iR
def tw2524105751592753045:Params->BT:=-jH
def tw11316101272743727476:Params->BT:=-jV
def tw11857690114635582190:Params->BT:=-kI
def tw652034569237513009:Params->BT:=-kW
def tw8067649014226472861:Params->BT:=-lO
def tw12306122796898025974:Params->BT:=-lY
def tw3321519156075705031:Params->BT:=-mQ
def tw5579347478359844483:Params->BT:=-nH
def tw15001082947264118845:Params->BT:=-oE
def tw1615139002063669307:Params->BT:=-pE
def tw1172125752020750293:Params->BT:=-qX
def tw10431425783420117398:Params->BT:=-sR
def tw10879048832091372136:Params->BT:=-uP
def tw1767014054832462088:Params->BT:=-xE
def tw10302013048231269286:Params->BT:=-ai
def tw11670263516383473602:Params->BT:=-ik
def tw5332192998318965405:Params->BT:=-tq
def tw14640794380130292903:Params->BT:=-Be
theorem te9897145914084891619:!tw9897145914084891619:=rfl
theorem te3625438346350112805:!tw3625438346350112805:=rfl
theorem te7833186716781247984:!tw7833186716781247984:=rfl
theorem te11636367393847043251:!tw11636367393847043251:=rfl
theorem te5453645423777692872:!tw5453645423777692872:=rfl
theorem te9326247771821901761:!tw9326247771821901761:=rfl
theorem te17705330446985761604:!tw17705330446985761604:=rfl
theorem te12158217979201687247:!tw12158217979201687247:=rfl
theorem te11052253969866090767:!tw11052253969866090767:=rfl
theorem te8772010575958703649:!tw8772010575958703649:=rfl
theorem te2524105751592753045:!tw2524105751592753045:=rfl
theorem te11316101272743727476:!tw11316101272743727476:=rfl
theorem te11857690114635582190:!tw11857690114635582190:=rfl
theorem te652034569237513009:!tw652034569237513009:=rfl
theorem te8067649014226472861:!tw8067649014226472861:=rfl
theorem te12306122796898025974:!tw12306122796898025974:=rfl
theorem te3321519156075705031:!tw3321519156075705031:=rfl
theorem te5579347478359844483:!tw5579347478359844483:=rfl
theorem te15001082947264118845:!tw15001082947264118845:=rfl
theorem te1615139002063669307:!tw1615139002063669307:=rfl
theorem te1172125752020750293:!tw1172125752020750293:=rfl
theorem te10431425783420117398:!tw10431425783420117398:=rfl
theorem te10879048832091372136:!tw10879048832091372136:=rfl
theorem te1767014054832462088:!tw1767014054832462088:=rfl
theorem te10302013048231269286:!tw10302013048231269286:=rfl
theorem te11670263516383473602:!tw11670263516383473602:=rfl
theorem te5332192998318965405:!tw5332192998318965405:=rfl
theorem te14640794380130292903:!tw14640794380130292903:=rfl
end PySem.W.Fast
end
open_top PySem.W.Fast.te0 for PySem.Challenge.rw_aheadmill_k36_window_of_one
local macro_rules | `(command| $d:definition) => `(command| noncomputable $d:definition)
open Array renaming length_toList->xN,toList->KA,getElem?_toList->Qa
open Bool renaming true->aB,false->aH,eq_iff_iff->jv,false_ne_true->fX,and_eq_true->bQ,false_eq_true->vi,or_eq_true->jw,not_eq_true'->KB
open Exists renaming imp->xO
open False renaming elim->mT
open Function renaming comp_def->jz
open Iff renaming rfl->Qe
open Int renaming fmod_eq_emod_of_nonneg->KN,fdiv_eq_ediv_of_nonneg->Qg,toNat_natCast->tE,le_trans->KO,lt_trans->Qh,lt_or_eq_of_le->vm,emod_nonneg->mU,emod_lt_of_pos->nL,pow_pos->KQ,ediv_nonneg->Qf,eq_ofNat_of_zero_le->vJ,toNat_of_nonneg->Qi,lt_succ->KP,le_refl->vk
open List renaming set->fB,cons_append->fL,nil_append->fN,range->Rh,filterMap_cons->Qj,mem_cons_self->kB,mem_cons_of_mem->lT,mem_append_left->Dv,getElem_inj->Qq,getElem?_set_self->rL,getElem?_set_ne->rK,mem_append_right->jP,size_toArray->hW,any_eq_false->KY,length_cons->lA,lookup->tG,map_cons->kM,length_map->aW,append_nil->kL,of_mem_zip->Rc,replicate->fA,length->Qu,length_take->lB,getElem?_append_right->LM,getElem?_replicate->LO,getElem?_append_left->bz,getElem?_map->fM,getElem?_take_of_lt->aTe,mem_of_getElem?->cM,length_append->eU,length_replicate->Qw,length_drop->vp,length_set->cf,all_cons->jZ,any_cons->rJ,eraseIdx_cons_succ->aTc,foldl->Qm,replicate_succ->Ri,flatten_cons->LI,append_assoc->vn,foldl_cons->LK,eraseIdxIfInBounds_toArray->aTb,length_nil->Qv,filter_cons->oO,length_filter_le->rM,forIn_cons->Qn,lookup_cons->iX,any_eq_true->KZ,getElem?_eq_getElem->dZ,getElem_mem->Qr,getElem_of_mem->Qs,Pairwise->KR,pairwise_mergeSort->aTh,mergeSort_perm->LY,getElem?_toArray->LQ,eq_nil_of_length_eq_zero->Ds,mem_cons->kN,not_mem_nil->gI,getElem?_eq_none->Qp,drop_eq_getElem_cons->Dq,drop_zero->LC,take_of_length_le->vq,zipIdx_cons->MD,zipIdx_nil->ME,forIn_nil->LL,getElem?_eq_none_iff->LN,getElem?_zip_eq_some->LR,zip_cons_cons->Dx,length_zip->LV,not_any_eq_all_not->MA,dropLast_eq_take->LB,all_eq_true->KU,set_comm->Rk,filterMap_cons_some->Qk,exists_cons_of_length_eq_add_one->xS,map_map->jO,map_drop->Qz,map_take->Ra,take_length->tI,getD_eq_getElem?_getD->Du,flatten_replicate_singleton->LJ,all_map->KW,map_set->ki,map_replicate->LW,mem_append->LX,map_append->iM,mem_or_eq_of_mem_set->Rb,take_add_one->tH,drop_length->Dr,any_map->LA,map_congr_left->Qy,find?_some->LH,mem_of_find?_eq_some->Dw,find?_cons->nM,filter_append->vL,filter_congr->LG,getElem_take->LU,set_set->Rm,length_reverse->Qx,getLast?_eq_getElem?->aTf,find?_append->Dt,nodup_append->LZ,dropLast_concat_getLast->aTa,getLast?_concat->Qt,getElem_map->LS,pairwise_cons->Rg,ext_getElem?->LD,getElem?_set->LP,pairwise_append->MB,pairwise_singleton->MC,set_eq_take_append_cons_drop->aTi,getElem?_concat_length->aTd,mergeSort_singleton->aTg,getElem?_cons_zero->Qo,filter_cons_of_pos->vo,filter->LF,filter_cons_of_neg->Ql
open List.Nodup renaming length_le_of_subset->aSy
open List.Pairwise renaming nil->kg,imp->KS,sublist->kh
open List.Perm renaming eq_of_pairwise->aSz
open Nat renaming lt_of_lt_of_le->bD,lt_irrefl->lC,ne_of_lt->bV,le_trans->cD,le_of_lt->tK,ne_of_gt->lD,le_refl->aU,le_of_eq->MG,lt_succ_self->cN,zero_le->gX,le_succ->jQ,min_le_right->MI,add_comm->MF,lt_succ_of_lt->kC,not_lt_zero->Dy,le_add_right->oP,zero_lt_one->ML,le_succ_of_le->vr,le_total->Rt,min_eq_left->vt,min_eq_right->Ru,sub_self->MK,ble->Ro,le_of_ble_eq_true->Rr,succ_le_succ->vv,lt_of_le_of_lt->cg,succ_lt_succ->xT,zero_lt_succ->km,succ_pred_eq_of_pos->aTj,min_le_left->MH,sub_le_sub_right->MJ
open Ne renaming symm->lE
open OfNat renaming ofNat->MO
open Option renaming some->aA,none->aD,getD_none->MP,isSome_map->Rx,bind_some->hX,map_some->rO,getD_some->MQ,isSome->Rv,map_map->MR,or_none->cj
open Option.some renaming inj->eF
open Prod renaming ext->Ry
open PyProof renaming noPylong_of_log2->MU
open PyProof.Rows renaming AllBare->vI,assignInOrder_nil->NQ,assignInOrder_cons->En,callWith_type1->Ed,envOfC->vR,callWith_builtin1->aTk,slicePart_none->NW,slot_tuple_getitem->MS,subscriptTail_builtinR->NX,IntsAre->vK,intBits_le->Es
open PyProof.Rows.IsTup renaming new->Dp
open PyProof.Rows.KTD renaming tabLook->Ec,flatLooks->Sa,hashesOf->Eb
open PyProof.V.Flat renaming int->MT
open PySem renaming Arguments->Py,Scope->gJ,Params->bS,Program->cB,Heap->bH,World->bR,Paired->ko,sysModules->tP,tupleKind->dh,Within->Sy,mainGlobals->iZ,builtinsNs->Td,bootBuiltins->mV,Around->cJ,Shared->aJ,wpAny->aS,storeName->Ts,Expr->aL,model->aY,backTo->lU,starEach->eO,wpAny_mono->wo,wpAny_Name->Tz,wpAny_loadName_local->OF,wpAny_loadName_cell->OE,wpAny_execs_nil->Ub,swapsWith->vT,assign->cu,assignInOrder->Em,assignEach->rQ,Operator->rN,inplaceOp->Tj,wpAny_assign_Name->OA,holding->lu,standAt->Eu,wpAny_bind->aP,wpAny_holding->oR,wpAny_standAt->mm,swapsWithSole->NY,swappedStores->ly,PassesOwn->vx,wpAny_passesOwn->du,pyNext->tO,letOwnedTupleGo->Tl,pyIter->wj,wpAny_pure->bZ,rawInt->yA,wpAny_pyNext_list_item->OJ,wpAny_pyNext_list_end->Ue,foldedSetIterable->Er,binaryOp->eV,unaryOp->Ew,compareOp->dM,CmpOp->pM,behindInMarks->wc,wpAny_truthy_bool->dw,lastMarks->Et,sizeLine_eq->nR,getMethod->Ti,codeAny->tM,attributeBase->lj,plainObj_wpAny_Assign_Attribute->aVj,FuncData->eT,BindsTo->ju,wpAny_call->wm,codeAny_mono->wg,wpAny_Call_Name_kw->dk,Keyword->tF,backToKw->xX,keywordEach->xZ,NameKind->tJ,bindL->cw,bindC->cv,cellsFrom->Te,mem_of_lookup->wa,concat_meets->Th,noFill_tuple_add->To,seq_tuple_add->Tr,IsPart->xR,wpAny_field->kP,getItem->cy,wpAny_callSpecial?_slot->dn,wpAny_call_entry->yB,wpAny_newObj_type->tQ,seqIndex_of->Tq,subscripted->Tu,sliceBounds->dg,call_list_seq->NS,typeIs_int->Tv,wpAny_Call_method_late->NZ,call_meets->Eo,callerA->xY,call->Sz,valueAt->di,atKey->xW,tupleKind_room_in1->lz,call_meetsIn->cx,closureFor->Tf,wpAny_comprehension_free->OC,wpAny_specialOf->OK,wpAny_pyIter_list->md,Fin->Si,seqItems?->cz,codeAny_call_builtin->NT,wpAny_newList->Uc,codeAny_builtin->Ep,wpAny_seqItems->nS,wpAny_tryCatch->wu,wpAny_rule->mf,argBest->vQ,wpAny_updateSeq->Ug,wpAny_letGo->dq,plainId_quiet->Tp,intItems->wh,numAt->vS,field->tN,wpAny_setField->Ez,firstArgMember->NU,wpAny_of_eq->Ud,wpAny_handled->OD,wpAny_pyIter_tuple->wq,callType_new->NR,unpackItems->Tx,wpAny_nextOf_list_end->OG,ZipApart->lh,IsZip->mE,IsPair->hV,wpAny_setField_rec->mj,wpAny_onRaise->Ey,wpAny_updateSeq_pair->Uh,wpAny_attempt->OB,wpAny_pyIter_enum->OH,wpAny_pyIter_zip->OI,methodCallForm->Tn,methodCallPos->NV,bindName->lq,wpAny_bindName->Ua,strKind->Ta,Str->cV
open PySem.Around renaming under_plainId->Pz
open PySem.AutoListH renaming list___mul___list_int_3->aSx
open PySem.AutoSeq1 renaming wpAny_loadPart'->Dg
open PySem.Builtin renaming bitAnd->tD,bitOr->jx,bitXor->jy
open PySem.Builtin.List renaming listTooLong->KC
open PySem.Builtin.Slice renaming sliceAdjust->Qb,slicePlaces->Dh
open PySem.Builtin.SmallTypes renaming nextOf->rG,ownedTupleIsFree->Di,ownedTupleHandOut->KD
open PySem.Calls renaming Name_function_global->KG,callWith_builtin->Qc,evalArgs_plain->KH
open PySem.Challenge renaming pw_aheadmill_k36_window_of_one->aTl,rw_aheadmill_k36_window_of_one->MV
open PySem.Code renaming quiet_builtin->KI
open PySem.EqMixed renaming eq_bool_str->aTm,eq_int_str->aTn,eq_str_bool->aTo,eq_str_int->aTp,ne_bool_str->aTq,ne_int_str->aTr,ne_str_bool->aTs,ne_str_int->aTt
open PySem.EqNone renaming eq_none_none->aTy,eq_none_bool->aTw,eq_none_int->aTx,eq_none_str->aTz,eq_bool_none->aTu,eq_int_none->aTv,eq_str_none->aUa,ne_none_none->aUf,ne_none_bool->aUd,ne_none_int->aUe,ne_none_str->aUg,ne_bool_none->aUb,ne_int_none->aUc,ne_str_none->aUh
open PySem.F renaming slot_tuple_add->Sh,entry_tuple_add->Se,args_tuple_add_2->Sb,slot_int_rmul->KM,args_dict_pop_2->aUi,args_dict_pop_3->MY,slot_dict_pop->Sf,entry_dict_pop->MZ,slot_dict_get->ku,entry_dict_get->Ee,args_dict_get_2->MW,args_dict_get_3->MX,slot_dict_setdefault->NG,entry_dict_setdefault->aUk,args_dict_setdefault_3->aUj,plain_min->ND,entry_min->NA,entry_min_loop->Ef,plain_min_loop->kr,slot_tuple_iterator_next->xP,entry_tuple_iterator_next->Dk,args_tuple_iterator_next_1->Dj,slot_zip_next->Dl,entry_zip_next->KL,args_zip_next_1->KJ,plainAttrs_list->NC,slot_list_append->aUl,type_list_append->aUn,plainAttrs_dict->NB,type_dict_get->NH,type_dict_setdefault->aUm
open PySem.Heap renaming lt_size->cZ,SameBut->xQ,get?_push_of_some->cT,get?_push_size->fS,size_push->rH,get?_update_self->vj,get?_update_other->bu,DictAt->Qd,ExtBut->ke
open PySem.Heap.SameBut renaming update->Dn
open PySem.NameKind renaming free->iY,cell->kj
open PySem.Obj renaming mapSeq->vw,isFreed_of_fields->MN,data_mapFields->Dz,cls_mapFields->MM
open PySem.Paired renaming length->Ea
open PySem.PyData renaming str->Rz,int->rP
open PySem.SeqAt.EqAt renaming int_str->NM,str_int->NN
open PySem.Shared renaming heap->Tb
open PySem.Spec renaming lookup->NI
open PySem.Str renaming ofString->vO
open PySem.Value renaming isStrOf->NO,int->vP,str->nQ,none->wb,bool->cq,ref->kO,type->Tc
open PySem.W renaming Frag->bI,instObj->xV,lookIn->Ej,plainGet->vz,hasDictIn->Ei,findIn->nO,handedIn->Eh,plainGet_of->Ss,isFn->vy,plainOver->Su,takerIn->Sw,makesIn->Sr,emptyDict->xU,keepIn->tL,callWith_K->Eg,callWith_K0->Sk,cellsFrom_some->NK,fnOf->ky,codeIn->Sm,OpenLaw->Sj,WalkO->NJ,kdl_dict->NL,kitOne->Sq,kia_one->ck,specialIn->Ek,readsIn->Sv,findCls->So,nsIn->vN,mg_of->vM
open PySem.W.SL renaming s2766695959194262286x5->aUx,s5856160107412720595x4->aVc,s658472552662922059x5->aVg,s14018661285674007319x4->aUt,s7097527257260152453x26->aVh,s7174869446012820540x8->aVi,s6070975301684473832x10->aVe,s11030030927630378310x26->aUq,s10062305145149207511x16->aUo,s17162191345867700912x4->aUv,s5946037652744460706x9->aVd,s4278001404047624695x13->aUz,s2742458400755230247x6->aUw,s4209523147560561109x18->aUy,s14755015743595814543x17->aUu,s10220274742760427390x26->aUp,s4290257624100764138x5->aVa,s4860613602091757760x24->aVb,s11443829558043349243x14->aUr,s6511155373996960695x17->aVf,s12411053484034534018x21->aUs
open PySem.Walks renaming dictKeys->NP
open Subtype renaming val->fE
open Sum renaming inl->nP,inr->cm
open Sum.inl renaming inj->El
open True renaming intro->oQ
set_option hygiene false
namespace L2
open PySem PySem.Spec PyProof.Rows
variable {A:cJ}{C a b dx it:Addr}{N ps:YX}{Q:Value->aJ->Prop}{apos p pos pos':Pos}{base h h':bH}{body:YV}{c e tg:aL}{d':Drawn}{es:List aL}{fd:eT}{fp:Hy}{g':Array GenState}{i j t':Nat}{kw:Yl}{m qual x:Str}{mA mg:Str->Hz}{op':pM}{outer:Yp}{pins:Hv}{prog:cB}{s s':aJ}{scope:gJ}{u:Value}{us:Hu}{w:bR}
abbrev aN:=Sum Int Str
def zT:aN->Value->Bool
 |.inl k,v=>Value.isInt k v
 |.inr x,v=>NO x v
def J5(w:bR):aN->Int
 |.inl k=>hashInt k
 |.inr x=>hashStr w x
theorem sI:∀{k:aN}{v:Value},zT k v=aB->(∃i t,k=nP i/\v=vP i t)\/(∃x t,k=cm x/\v=nQ x t)
 |.inl i,v,h=>by obtain⟨t,e⟩:=Value.isInt_shape h;exact .inl ⟨i,t,rfl,e⟩
 |.inr x,v,h=>by obtain⟨t,e⟩:=Value.isStrOf_shape h;exact .inr ⟨x,t,rfl,e⟩
theorem J6(i:Int)(t:Tok):zT (.inl i) (.int i t)=aB:=by simp[zT,Value.isInt]
theorem J7(x:Str)(t:Tok):zT (.inr x) (.str x t)=aB:=by simp[zT,NO]
theorem J8(a b:Int):decide ((nP a:aN)=nP b)=(a==b):=by
 by_cases e:a=b
 .subst e;simp
 .have h:¬(nP a:aN)=nP b:=λq=>e (El q);rw[decide_eq_false h];exact(beq_eq_false_iff_ne.mpr e).symm
theorem K1(a b:Str):decide ((cm a:aN)=cm b)=decide (a=b):=by
 by_cases e:a=b
 .simp
 .have h:¬(cm a:aN)=cm b:=λq=>e (Sum.inr.inj q);rw[decide_eq_false h,decide_eq_false e]
theorem J9(a:Int)(b:Str):decide ((nP a:aN)=cm b)=aH:=decide_eq_false (nofun)
theorem K0(a:Str)(b:Int):decide ((cm a:aN)=nP b)=aH:=decide_eq_false (nofun)
def gP(prog:cB)(w:bR):PySem.KeyKind prog w aN where
 is:=zT
 hash:=J5 w
 inj:=λv a b ha hb=>by
  rcases sI ha with⟨i,t,rfl,rfl⟩|⟨x,t,rfl,rfl⟩
  .rcases sI hb with⟨j,u,rfl,e⟩|⟨y,u,rfl,e⟩
   .injection e with e1 _;rw[e1]
   .exact nomatch e
  .rcases sI hb with⟨j,u,rfl,e⟩|⟨y,u,rfl,e⟩
   .exact nomatch e
   .injection e with e1 _;rw[e1]
 byValue:=λk v h=>by rcases sI h with⟨i,t,rfl,rfl⟩|⟨x,t,rfl,rfl⟩<;>rfl
 pyHash:=λhv h=>by
  rcases sI hv with⟨i,t,rfl,rfl⟩|⟨x,t,rfl,rfl⟩
  .exact wpAny_pyHash_int h
  .exact wpAny_pyHash_str h
 eqBool:=λhu hv h=>by
  rcases sI hu with⟨i,t,rfl,rfl⟩|⟨x,t,rfl,rfl⟩
  .rcases sI hv with⟨j,u,rfl,rfl⟩|⟨y,u,rfl,rfl⟩
   .rw[J8]at h;exact wpAny_eqBool_int h
   .rw[J9]at h;exact NM i t y u _ _ _ _ h
  .rcases sI hv with⟨j,u,rfl,rfl⟩|⟨y,u,rfl,rfl⟩
   .rw[K0]at h;exact NN x t j u _ _ _ _ h
   .rw[K1]at h;exact wpAny_eqBool_str h
 «strs»:=λk x t v h=>by
  rcases sI h with⟨i,u,rfl,e⟩|⟨y,u,rfl,e⟩
  .exact nomatch e
  .injection e with e1 _;subst e1;cases v<;>rfl
theorem O6(prog:cB)(w:bR)(i:Int)(t:Tok):(gP prog w).is (.inl i) (.int i t)=aB:=J6 i t
theorem O7(prog:cB)(w:bR)(x:Str)(t:Tok):(gP prog w).is (.inr x) (.str x t)=aB:=J7 x t
inductive V where
 |aE|bl (b:Bool)|int (i:Int)|str (x:Str)|mY (b:Array UInt8)|yu (b:UInt64)|ref (a:Addr)|ty (n:String)
 deriving DecidableEq
abbrev _root_.Hw:=List V
abbrev _root_.Yk:=List (Str×V)
variable {v y:V}{vs xs:Hw}
def RelV:V->Value->Prop
 |.aE,u=>u=wb
 |.bl b,u=>u=cq b
 |.int i,u=>∃t,u=vP i t
 |.str x,u=>∃t,u=nQ x t
 |.mY b,u=>∃t,u=Value.bytes b t
 |.yu b,u=>∃t,u=Value.float b t
 |.ref a,u=>u=kO a
 |.ty n,u=>u=Tc n
abbrev Vals:Hw->Hu->Prop:=ko RelV
theorem Vals.length{xs:Hw}{us:Hu}(r:Vals xs us):xs.length=us.length:=Ea r
theorem Vals.get:∀{xs:Hw}{us:Hu}{i:Nat}{x:V},Vals xs us->xs[i]?=aA x->∃u,us[i]?=aA u/\RelV x u
 |_,_,_,_,.nil,e=>by simp at e
 |_,_,0,_,.cons r _,e=>by simp at e;subst e;exact⟨_,rfl,r⟩
 |_,_,i+1,x,.cons _ t,e=>by obtain⟨u,h1,a⟩:=Vals.get t (by simpa);exact⟨u,by simpa using h1,a⟩
theorem Vals.set{x:V}{u:Value}(r:RelV x u):∀{xs:Hw}{us:Hu} (i:Nat),Vals xs us->Vals (xs.set i x) (us.set i u)
 |_,_,_,.nil=>.nil
 |_,_,0,.cons _ t=>.cons r t
 |_,_,i+1,.cons q t=>.cons q (Vals.set r i t)
theorem Vals.append:∀{xs ys:Hw}{us ws:Hu},Vals xs us->Vals ys ws->Vals (xs++ys) (us++ws)
 |_,_,_,_,.nil,s=>s
 |_,_,_,_,.cons r t,s=>.cons r (Vals.append t s)
theorem Vals.take:∀{xs:Hw}{us:Hu} (n:Nat),Vals xs us->Vals (xs.take n) (us.take n)
 |_,_,0,_=>.nil
 |_,_,_+1,.nil=>.nil
 |_,_,n+1,.cons r t=>.cons r (Vals.take n t)
theorem Vals.drop:∀{xs:Hw}{us:Hu} (n:Nat),Vals xs us->Vals (xs.drop n) (us.drop n)
 |_,_,0,r=>r
 |_,_,_+1,.nil=>.nil
 |_,_,n+1,.cons _ t=>Vals.drop n t
theorem Vals.none_of:∀{xs:Hw}{us:Hu}{i:Nat},Vals xs us->xs[i]?=aD->us[i]?=aD:=λ{xs us i} r e=>by have h1:=r.length;have h2:=List.getElem?_eq_none_iff.mp e;exact List.getElem?_eq_none_iff.mpr (by lia)
def iH:Option V->Hz->Prop
 |some v,aA u=>RelV v u
 |none,aD=>True
 |_,_=>False
def KV{κ:Type}:List (κ×V)->List (κ×Value)->Prop:=ko λ(p:κ×V) (q:κ×Value)=>p.1=q.1/\RelV p.2 q.2
def kV:aN->V
 |.inl i=>.int i
 |.inr x=>.str x
inductive HO where
 |lst (xs:Hw)
 |tup (xs:Hw)
 |dK (kvs:List (aN×V))|dT (kvs:List (List aN×V))
 |set (S:Int->Bool) (n:Nat)
 |ins (C dx:Addr) (fs:Yk)
 |own (x:Addr)
 |xd (fs:Yk)
 |met (f x:Addr)
 |Np (lo hi:Int)
 |dC (o:Obj) (u:HO)
 |az (ps:YY)
 |ext (φ:bH->Prop)
variable {o:HO}
abbrev Hp:=Addr->Option HO
variable {H H':Hp}
def bG(H:Hp)(a:Addr)(o:HO):Hp:=λb=>if b=a then aA o else H b
theorem gU:bG H a o a=aA o:=by unfold bG;rw[if_pos rfl]
theorem bY(h:b≠a):bG H a o b=H b:=by unfold bG;rw[if_neg h]
theorem qP{u:HO}(h:H a=aA o)(h':H b=aA u)(d:o≠u):a≠b:=by intro e;subst e;rw[h]at h';exact d<|eF h'
theorem jT(h:H a=aA o)(h':H b=aD):a≠b:=by intro e;subst e;rw[h]at h';cases h'
section
variable (P:cB)(w:bR)
def hZ(H:Hp)(h:bH)(a:Addr):HO->Prop
 |.lst xs=>xs.length<=sizeLine/\∃(its:Hu) (n:Nat),Vals xs its/\h.get? a=aA { cls:=.type "list",data:=.seq its.toArray n }
 |.tup xs=>xs.length<=sizeLine/\∃its:Hu,Vals xs its/\IsTup h a its.toArray
 |.dK kvs=>kvs.length<=sizeLine/\(a==tP)=aH/\∃vs,KV kvs vs/\h.DictOf (gP P w) a vs
 |.dT kvs=>kvs.length<=sizeLine/\(a==tP)=aH/\∃xs:List (List aN×Addr×Value),
  ko (λ(p:List aN×V) (q:List aN×Addr×Value)=>p.1=q.1/\H q.2.1=aA (.tup<|p.1.map kV)/\RelV p.2 q.2.2) kvs xs /\
  ∃o es ep,h.get? a=aA o/\o.ExactDict/\o.data = .dict es ep/\es.toList=xs.map (entryOfKey<|dh<|gP P w)/\(xs.map (·.1)).Nodup
 |.set S n=>h.SetOf (intKind P w) a S n
 |.ins C dx fs=>H dx=aA (.own a)/\fs.length<=1000/\dx≠a/\h.get? a=aA (xV C dx) /\
  ∃mA,h.Ns1 dx mA/\(∀f,iH (fs.lookup f) (mA f))/\Sy mA (fs.map (·.1))
 |.own _=>∃o,h.get? a=aA o
 |.xd fs=>∃mA,h.Ns1 a mA/\∀f,iH (fs.lookup f) (mA f)
 |.Np lo hi=>∃t u v,h.get? a=aA { cls:=.type "range",data:=.fields #[.int lo t,.int hi u,.int 1 v] }
 |.dC o u=>h.get? a=aA o/\hZ H h a u
 |.az ps=>h.get? a=aA { cls:=.none,data:=.fields ps }
 |.met f x=>h.get? a=aA (W.methodObj (.ref f)<|.ref x)
 |.ext φ=>φ h/\(∃o,h.get? a=aA o)/\∀h1 h2:bH,φ h1->(∀o,h1.get? a=aA o->h2.get? a=aA o)->φ h2
def eW(H:Hp)(h:bH):Prop:=∀a o,H a=aA o->hZ P w H h a o
end
section
variable {P:cB}
theorem hZ.lt(x:hZ P w H h a o):a<h.objs.size:=by
 cases o with
 |lst xs=>obtain⟨_,_,_,_,e⟩:=x;exact cZ e|tup xs=>obtain⟨_,_,_,p⟩:=x;exact p.lt|dK b=>obtain⟨_,_,_,_,o,_,_,e,_⟩:=x;exact cZ e|dT b=>obtain⟨_,_,_,_,o,_,_,e,_⟩:=x;exact cZ e|set S n=>obtain⟨o,_,_,_,e,_⟩:=x;exact cZ e|ins C c fs=>obtain⟨_,_,_,e,_⟩:=x;exact cZ e|own y=>obtain⟨_,e⟩:=x;exact cZ e|xd fs=>obtain⟨_,⟨_,_,_,e,_⟩,_⟩:=x;exact cZ e|Np lo d=>obtain⟨_,_,_,e⟩:=x;exact cZ e|dC ob u=>obtain⟨e,_⟩:=x;exact cZ e|az ps=>exact cZ<|x|met f y=>exact cZ<|x|ext g=>obtain⟨_,⟨_,e⟩,_⟩:=x;exact cZ e
theorem Paired.Kj{α β:Type}{F G:α->β->Prop}:∀{l₁:List α}{l₂:List β},ko F l₁ l₂->(∀a b,F a b->G a b)->ko G l₁ l₂
 |_,_,.nil,_=>.nil
 |_,_,.cons r t,f=>.cons (f _ _ r) (Paired.Kj t f)
theorem hZ.uY(x:hZ P w H h a o)(k:∀b u,(b=a\/H b=aA (.own a))->h.get? b=aA u->h'.get? b=aA u)
  (ho:∀b,H b=aA (.own a)->H' b=aA (.own a)) (ht:∀b xs,H b=aA (.tup xs)->H' b=aA (.tup xs)):hZ P w H' h' a o:=by
 induction o with
 |lst xs=>obtain⟨z,j,n,r,e⟩:=x;exact⟨z,j,n,r,k _ _ (.inl rfl) e⟩|tup xs=>obtain⟨z,j,r,ob,e,c⟩:=x;exact⟨z,j,r,ob,k _ _ (.inl rfl) e,c⟩|dK l=>obtain⟨z,y,s,r,ob,g,i,e,c⟩:=x;exact⟨z,y,s,r,ob,g,i,k _ _ (.inl rfl) e,c⟩|dT l=>obtain⟨z,y,xs,r,ob,g,i,e,c⟩:=x;exact⟨z,y,xs,Paired.Kj r λp q z=>⟨z.1,ht _ _ z.2.1,z.2.2⟩,ob,g,i,k _ _ (.inl rfl) e,c⟩
 |set S n=>obtain⟨ob,g,i,t,e,c⟩:=x;exact⟨ob,g,i,t,k _ _ (.inl rfl) e,c⟩|ins C D fs=>obtain⟨d,z,ne,e,m,⟨od,g,i,A,c⟩,r⟩:=x;exact⟨ho _ d,z,ne,k _ _ (.inl rfl) e,m,⟨od,g,i,k _ _ (.inr d) A,c⟩,r⟩
 |own y=>obtain⟨ob,e⟩:=x;exact⟨ob,k _ _ (.inl rfl) e⟩|xd fs=>obtain⟨m,⟨od,g,i,e,c⟩,r⟩:=x;exact⟨m,⟨od,g,i,k _ _ (.inl rfl) e,c⟩,r⟩|Np lo E=>obtain⟨t,u,v,e⟩:=x;exact⟨t,u,v,k _ _ (.inl rfl) e⟩|dC ob u B=>obtain⟨e,q⟩:=x;exact⟨k _ _ (.inl rfl) e,B q⟩|az ps=>have e:=x;exact k a _ (.inl rfl) e
 |met f y=>have e:=x;exact k a _ (.inl rfl) e
 |ext F=>obtain⟨p,⟨o,e⟩,st⟩:=x;exact⟨st _ _ p λo q=>k _ _ (.inl rfl) q,⟨o,k _ _ (.inl rfl) e⟩,st⟩
theorem eW.lt(x:eW P w H h)(e:H a=aA o):a<h.objs.size:=(x a o e).lt
theorem eW.fresh(x:eW P w H h)(e:h.objs.size<=a):H a=aD:=by
 cases q:H a with
 |none=>rfl|some u=>exact absurd (bD (x.lt q) e)<|lC _
theorem eW.kept(x:eW P w H h)(k:∀b u,h.get? b=aA u->h'.get? b=aA u):eW P w H h':=λa o e=>
 (x a o e).uY (λb u _ q=>k b u q) (λ_ q=>q) λ_ _ q=>q
theorem eW.laid(x:eW P w H h)(k:∀b u,h.get? b=aA u->h'.get? b=aA u)(hp:h.objs.size<=a)(new:hZ P w (bG H a o) h' a o):eW P w (bG H a o) h':=λb u e=>by
 have hn:=x.fresh hp;by_cases hb:b=a
 .subst hb;rw[gU]at e;cases e;exact new
 .rw[bY hb]at e;exact(x b u e).uY (λc v _ q=>k c v q) (λc q=>by rw[bY (jT q hn)];exact q) λc xs q=>by rw[bY (jT q hn)];exact q
end
def Rd(H:Hp)(a:Addr)(u:HO):Prop:=H a=aA u\/∃o,H a=aA (.dC o u)
theorem Rd.ok{P:cB}{u:HO}(r:Rd H a u)(x:eW P w H h):hZ P w H h a u:=by
 rcases r with r|⟨o,r⟩
 .exact x a u r
 .obtain⟨_,q⟩:=x a _ r;exact q
def ee:Option HO->Prop
 |some (.lst _)=>True
 |some (.dK _)=>True
 |some (.dT _)=>True
 |some (.set _ _)=>True
 |some (.ins _ _ _)=>True
 |some (.ext _)=>True
 |_=>False
section
variable {P:cB}{x e:Addr}{o':HO}
theorem eW.write(ok:eW P w H h)(mu:ee (H x))(he:e=x\/H e=aA (.own x))(k:∀b u,b≠e->h.get? b=aA u->h'.get? b=aA u)(heo:∃u,h'.get? e=aA u)
  (new:hZ P w (bG H x o') h' x o'):eW P w (bG H x o') h':=λb u q=>by
 have d:∀c y,H c=aA (.own y)->c≠x:=λc y r z=>by subst z;rw[r]at mu;exact mu
 have f:∀c xs,H c=aA (.tup xs)->c≠x:=λc xs r z=>by subst z;rw[r]at mu;exact mu
 by_cases hb:b=x
 .subst hb;rw[gU]at q;cases q;exact new
 .rw[bY hb]at q;by_cases a:b=e
  .have g:H b=aA (.own x):=by
    rcases he with z|z
    .exact absurd (a.trans z) hb
    .rw[a];exact z
   rw[q]at g;cases g;obtain⟨v,i⟩:=heo;exact⟨v,a▸i⟩
  .refine(ok b u q).uY (λc v hc r=>k c v ?_ r) (λc r=>by rw[bY (d c b r)];exact r) λc xs r=>by rw[bY (f c xs r)];exact r
   rcases hc with rfl|hc
   .exact a
   .rintro rfl
    rcases he with z|z
    .exact d c b hc z
    .rw[hc]at z;cases z;exact hb rfl
end
structure Un(fs ex:Hy)(H H':Hp)(h h':bH):Prop where
 keep:∀b o,h.get? b=aA o->H b=aD->b∉fs->b∉ex->h'.get? b=aA o
 slot:∀b o,h.get? b=aA o->H b=aD->b∈fs->b∉ex->∃sl,h'.get? b=aA { o with slots:=sl }
 free:∀b o,h.get? b=aA o->H b=aD->b∉ex->H' b=aD
 there:∀b o,h.get? b=aA o->b∉ex->∃o',h'.get? b=aA o'
 vB:∀b xs,H b=aA (.tup xs)->H' b=aA (.tup xs)
 pZ:∀b o u,H b=aA (.dC o u)->H' b=aA (.dC o u)
 vA:∀b ps,H b=aA (.az ps)->∃more,H' b=aA (.az<|ps++more)
section
variable {fs fs' ex ex':Hy}{H1 H2:Hp}{h1 h2:bH}{x e:Addr}
theorem Un.any(u:Un fs ex H H1 h h1){ob:Obj}(q:h.get? b=aA ob)(n:H b=aD)(hx:b∉ex):∃sl,h1.get? b=aA { ob with slots:=sl }:=by
 by_cases hb:b∈fs
 .exact u.slot b ob q n hb hx
 .exact⟨ob.slots,u.keep b ob q n hb hx⟩
theorem Un.kept(k:∀b u,h.get? b=aA u->h'.get? b=aA u):Un fs ex H H h h':=
 ⟨λb ob q _ _ _=>k b ob q,λb ob q _ _ _=>⟨ob.slots,k b ob q⟩,λ_ _ _ n _=>n,λb ob q _=>⟨ob,k b ob q⟩,λ_ _ q=>q,λ_ _ _ q=>q,λ_ ps q=>⟨#[],by rw[q];simp⟩⟩
theorem Un.refl:Un fs ex H H h h:=Un.kept λ_ _ q=>q
theorem Un.laid(k:∀b u,h.get? b=aA u->h'.get? b=aA u)(hp:h.objs.size<=a)(hn:H a=aD):Un fs ex H (bG H a o) h h' where
 keep:=λb u q _ _ _=>k b u q
 slot:=λb u q _ _ _=>⟨u.slots,k b u q⟩
 free:=λb u q n _=>by rw[bY (bV<|bD (cZ q) hp)];exact n
 there:=λb u q _=>⟨u,k b u q⟩
 vB:=λb xs q=>by rw[bY (jT q hn)];exact q
 pZ:=λb u xs q=>by rw[bY (jT q hn)];exact q
 vA:=λb ps q=>⟨#[],by rw[bY (jT q hn),q];simp⟩
theorem Un.write(mu:ee (H x))(he:e=x\/H e=aA (.own x))(k:∀b u,b≠e->h.get? b=aA u->h'.get? b=aA u)(heo:∃u,h'.get? e=aA u):Un fs ex H (bG H x o) h h':=by
 have c:∀b,H b=aD->b≠x:=λb n z=>by subst z;rw[n]at mu;exact mu
 have hb:∀b,H b=aD->b≠e:=λb n z=>by
  subst z;rcases he with r|r
  .exact c b n r
  .rw[n]at r;cases r
 have hm:∀b u,H b=aA u->¬ee (aA u)->b≠x:=λb u q nm z=>by subst z;rw[q]at mu;exact nm mu
 refine⟨λb u q n _ _=>k b u (hb b n) q,λb u q n _ _=>⟨u.slots,k b u (hb b n) q⟩,λb u q n _=>by rw[bY (c b n)];exact n,λb u q _=>?_,
  λb xs q=>by rw[bY (hm b _ q λz=>z)];exact q,λb u xs q=>by rw[bY (hm b _ q λz=>z)];exact q,λb ps q=>⟨#[],by rw[bY (hm b _ q λz=>z),q];simp⟩⟩
 by_cases a:b=e
 .subst a;exact heo
 .exact⟨u,k b u a q⟩
end
def Ck(h:bH)(H:Hp):Hy:=(Rh h.objs.size).filter λa=>(H a).isSome
def wX(h:bH)(H:Hp):bH:=W.hideAll h (Ck h H)
theorem D5(h:bH)(H:Hp):(wX h H).objs.size=h.objs.size:=W.hideAll_size _ _
theorem D4{o:Obj}(e:h.get? b=aA o)(n:H b=aD):(wX h H).get? b=aA o:=
 W.hideAll_get _ e λhm=>by have q:=(List.mem_filter.mp hm).2;rw[n]at q;simp at q
theorem T8{o:Obj}(e:(wX h H).get? b=aA o):h.get? b=aA o/\H b=aD:=by
 have a:=W.of_hideAll (Ck h H) e;refine⟨a,?_⟩;cases q:H b with
 |none=>rfl|some x=>have hm:b∈Ck h H:=List.mem_filter.mpr ⟨List.mem_range.mpr (cZ a),by simp[q]⟩;have z:(wX h H).get? b=aD:=W.hideAll_none (Ck h H) hm;rw[z]at e;cases e
structure Mod(K:bI)(mg:Str->Hz)(base:bH):Prop where
 gr:K.In base
 glob:base.Ns iZ mg
 blt:∃mb,base.Ns Td mb/\∀x:Str,x≠"__name__"->mb x=mV x
 nolimit:base.NoLimit
structure Cx where
 prog:cB
 w:bR
 K:bI
 mg:Str->Hz
 base:bH
 A:cJ
 N:YX
 s₀:aJ
 H₀:Hp
 env:Env
 outer:Yp
 stack:Yp
 ex:Hy
 fn:Str->Bool
 calm:Bool
 pn:Hv
 xe:Value->aJ->Prop
def pY(l:Yp):Hy:=l.filterMap (·.frame)
noncomputable abbrev Cx.fs(X:Cx):Hy:=pY X.outer
def nj(sc:gJ)(x:Str):Prop:=sc.names.lookup x=aA .local\/sc.names.lookup x=aA .cell\/sc.names.lookup x=aA .free
def vV(sc:gJ)(x:Str):Prop:=sc.names.lookup x=aA .local\/sc.names.lookup x=aA .cell
def OL(env:Env)(h:bH)(m:Str->Hz)(x:Str)(u:Value):Prop:=
 (env.kindOf x=aA .local/\m x=aA u)\/((env.kindOf x=aA .cell\/env.kindOf x=aA .free)/\∃c,env.cells.lookup x=aA c/\h.IsCell c (aA u))
structure Cx.Ok(X:Cx):Prop where
 mod:Mod X.K X.mg X.base
 kind:X.env.scope.kind = .function
 glob:X.env.globals=iZ
 blt:X.env.builtins=Td
 above:X.s₀.heap.objs.size<=X.env.locals
 inj:∀x y c,X.env.cells.lookup x=aA c->X.env.cells.lookup y=aA c->x=y
 has:∀x,(X.env.kindOf x=aA .cell\/X.env.kindOf x=aA .free)->∃c,X.env.cells.lookup x=aA c
 xy:∀x c,X.fn x=aB->X.env.cells.lookup x=aA c->X.s₀.heap.objs.size<=c
 hd:X.calm=aB->X.A.handled=aD
 frames:X.A.frames=aA X.stack
 Oc:X.stack=X.outer\/(X.stack=X.env::X.outer/\X.env.frame=aA X.env.locals)
 yo:∀b∈X.ex,b≠X.env.locals/\∀x c,X.env.cells.lookup x=aA c->c≠b
 bs:∀b o,X.base.get? b=aA o->X.s₀.heap.get? b=aA o/\X.H₀ b=aD
 wD:X.base.objs.size<=X.s₀.heap.objs.size
 Aq:∀b o,X.base.get? b=aA o->b∉X.ex
 ox:∀b∈X.ex,b∉X.fs
 qA:X.s₀.heap.FunFrames X.base X.outer
 gb:∀b∈X.fs,X.H₀ b=aD
structure Inv(X:Cx)(pins:Hv)(Z:List (Option V))(H:Hp)(s:aJ):Prop where
 ok:X.Ok
 os:s.os=X.s₀.os
 bare:vI s.gens
 base:Un X.fs X.ex X.H₀ H X.s₀.heap s.heap
 loc:∃m,s.heap.Ns X.env.locals m/\∀(i:Nat) (x:Str) (v:V),X.N[i]?=aA x->Z[i]?=aA (aA v)->nj X.env.scope x->∃u,RelV v u/\OL X.env s.heap m x u
 cell:∀x c,X.env.cells.lookup x=aA c->∃v,s.heap.IsCell c v
 free:H X.env.locals=aD
 pX:∀x c,X.env.cells.lookup x=aA c->H c=aD
 pin:∀p∈X.pn++pins,s.heap.get? p.1=aA p.2/\H p.1=aD/\p.1≠X.env.locals/\p.1∉X.fs/\∀v,p.2.data ≠ .cell v
 bA:eW X.prog X.w H s.heap
 len:Z.length=X.N.length
section
variable {X:Cx}{Z:List (Option V)}
theorem Cx.Ok.R7(ok:X.Ok){o:Obj}(e:X.base.get? b=aA o):b∉X.fs:=λhb=>by have:=(ok.qA.mem hb).1;rw[e]at this;cases this
theorem Inv.bs(I:Inv X pins Z H s):∀b o,X.base.get? b=aA o->s.heap.get? b=aA o/\H b=aD:=λb o e=>
 ⟨I.base.keep b o (I.ok.bs b o e).1 (I.ok.bs b o e).2 (I.ok.R7 e) (I.ok.Aq b o e),I.base.free b o (I.ok.bs b o e).1 (I.ok.bs b o e).2 (I.ok.Aq b o e)⟩
theorem Inv.bk(I:Inv X pins Z H s):∀b o,X.base.get? b=aA o->s.heap.get? b=aA o:=λb o e=>(I.bs b o e).1
theorem Inv.mod(I:Inv X pins Z H s):Mod X.K X.mg X.base:=I.ok.mod
theorem Inv.fI(I:Inv X pins Z H s):X.K.In s.heap:=I.ok.mod.gr.keeps I.bk
theorem Inv.lt(I:Inv X pins Z H s):X.env.locals<s.heap.objs.size:=let ⟨_,hn,_⟩:=I.loc;hn.lt
theorem Inv.sz(I:Inv X pins Z H s):X.s₀.heap.objs.size<=s.heap.objs.size:=cD I.ok.above (tK I.lt)
theorem Inv.R9(I:Inv X pins Z H s)(h:s.heap.objs.size<=a):a∉X.fs:=λhb=>by obtain⟨_,o,b,_⟩:=I.ok.qA.mem hb;exact absurd (bD (cZ b)<|cD I.sz h)<|lC _
theorem Inv.yQ(I:Inv X pins Z H s):∀x c,X.env.cells.lookup x=aA c->c≠X.env.locals:=λx c e z=>by obtain⟨v,o,d,hd⟩:=I.cell x c e;obtain⟨m,⟨f,g,h,a,b,_⟩,_⟩:=I.loc;rw[z,a]at d;cases d;rw[b]at hd;cases hd
theorem Inv.qA(I:Inv X pins Z H s):s.heap.FunFrames X.base X.outer:=by
 have all:∀l,(∀b∈pY l,b∈X.fs)->X.s₀.heap.FunFrames X.base l->s.heap.FunFrames X.base l:=by
  intro l;induction l with
  |nil=>intro _ _;trivial|cons env r d=>intro hs hl;obtain⟨f,⟨L,o,a,hn,g,hd⟩,hr⟩:=hl;have c:=hs L (by unfold pY;rw[Qj,a];exact kB);obtain⟨sl,e⟩:=I.base.slot L o g (I.ok.gb L c) c λz=>I.ok.ox L z c;exact⟨f,⟨L,_,a,hn,e,hd⟩,d (λb hb=>hs b (by unfold pY;rw[Qj,a];exact lT _ hb)) hr⟩
 exact all X.outer (λ_ hb=>hb) I.ok.qA
theorem Inv.stack(I:Inv X pins Z H s):s.heap.FunFrames X.base X.stack:=by
 rcases I.ok.Oc with e|⟨e,a⟩
 .rw[e];exact I.qA
 .rw[e];obtain⟨m,hn,_⟩:=I.loc;exact .cons (by rw[I.ok.kind];decide) a hn (Heap.get?_none_of_le<|cD I.ok.wD I.ok.above) I.qA
theorem Inv.Od(I:Inv X pins Z H s):∀b∈pY X.stack,b∈X.env.locals::X.fs:=λb hb=>by
 rcases I.ok.Oc with e|⟨e,a⟩
 .rw[e]at hb;exact lT _ hb
 .rw[e]at hb;unfold pY at hb;rw[Qj,a]at hb;exact hb
theorem Inv.HK(I:Inv X pins Z H s):∀b∈pY X.stack,H b=aD:=λb hb=>by
 rcases List.mem_cons.mp (I.Od b hb)with e|hb
 .rw[e];exact I.free
 .obtain⟨_,o,a,_⟩:=I.ok.qA.mem hb;exact I.base.free b o a (I.ok.gb b hb) λz=>I.ok.ox b z hb
theorem Inv.step{ch:Hy}(I:Inv X pins Z H s)
  (hch:∀b∈ch,(b∈X.ex\/X.s₀.heap.objs.size<=b)/\b≠X.env.locals/\(∀x c,X.env.cells.lookup x=aA c->c≠b)/\∀p∈X.pn++pins,p.1≠b)
  (keep:∀b o,b≠X.env.locals->b∉X.fs->b∉ch->s.heap.get? b=aA o->H b=aD->h'.get? b=aA o)
  (slot:∀b o,b≠X.env.locals->b∈X.fs->b∉ch->s.heap.get? b=aA o->H b=aD->∃sl,h'.get? b=aA { o with slots:=sl })(free:∀b o,b∉ch->s.heap.get? b=aA o->H b=aD->H' b=aD)
  (there:∀b o,b∉ch->s.heap.get? b=aA o->∃o',h'.get? b=aA o')
  (vB:∀b xs,H b=aA (.tup xs)->H' b=aA (.tup xs))(pZ:∀b o u,H b=aA (.dC o u)->H' b=aA (.dC o u))(vA:∀b ps,H b=aA (.az ps)->∃more,H' b=aA (.az<|ps++more))
  (ns:∀m,s.heap.Ns X.env.locals m->h'.Ns X.env.locals m)(bA:eW X.prog X.w H' h')(hg:vI g') :
  Inv X pins Z H' { s with heap:=h',gens:=g',drawn:=d',toks:=t' }:=by
 have t:∀b o,X.s₀.heap.get? b=aA o->b≠X.env.locals:=λb o e=>bV (bD (cZ e) I.ok.above);have g:∀b o,X.s₀.heap.get? b=aA o->b∉X.ex->b∉ch:=λb o e a hb=>by
  rcases(hch b hb).1 with z|z
  .exact a z
  .exact absurd (bD (cZ e) z)<|lC _
 have cellK:∀x c,X.env.cells.lookup x=aA c->∀v,s.heap.IsCell c v->h'.IsCell c v:=λx c e v ⟨o,j,hd⟩=>by
  have f:=λz=>(hch c z).2.2.1 x c e rfl;by_cases A:c∈X.fs
  .obtain⟨sl,q⟩:=slot c o (I.yQ x c e) A f j (I.pX x c e);exact⟨_,q,hd⟩
  .exact⟨o,keep c o (I.yQ x c e) A f j (I.pX x c e),hd⟩
 refine⟨I.ok,I.os,hg,⟨λb o e n hb a=>?_,λb o e n hb a=>?_,λb o e n a=>?_,λb o e a=>?_,λb xs e=>vB b xs (I.base.vB b xs e),λb o xs e=>pZ b o xs (I.base.pZ b o xs e),λb ps e=>?_⟩,?_,λx c e=>?_,?_,λx c e=>?_,λp B=>?_,bA,I.len⟩
 .exact keep b o (t b o e) hb (g b o e a) (I.base.keep b o e n hb a)<|I.base.free b o e n a
 .obtain⟨sl,h⟩:=I.base.slot b o e n hb a;obtain⟨y,w⟩:=slot b _ (t b o e) hb (g b o e a) h (I.base.free b o e n a);exact⟨y,w⟩
 .obtain⟨o',h⟩:=I.base.there b o e a;exact free b o' (g b o e a) h<|I.base.free b o e n a
 .obtain⟨o',h⟩:=I.base.there b o e a;exact there b o' (g b o e a) h
 .obtain⟨C,h⟩:=I.base.vA b ps e;obtain⟨D,w⟩:=vA b _ h;exact⟨C++D,by rw[w,Array.append_assoc]⟩
 .obtain⟨m,hn,hl⟩:=I.loc;refine⟨m,ns m hn,λi x v h w E=>?_⟩;obtain⟨u,r,l⟩:=hl i x v h w E;refine⟨u,r,?_⟩;rcases l with l|⟨k,c,e,z⟩
  .exact .inl l
  .exact .inr ⟨k,c,e,cellK x c e _ z⟩
 .obtain⟨v,z⟩:=I.cell x c e;exact⟨v,cellK x c e v z⟩
 .obtain⟨m,⟨o,_,_,j,_⟩,_⟩:=I.loc;exact free _ o (λz=>(hch _ z).2.1 rfl) j I.free
 .obtain⟨v,o,j,hd⟩:=I.cell x c e;exact free c o (λz=>(hch c z).2.2.1 x c e rfl) j<|I.pX x c e
 .obtain⟨e,n,ne,nf,d⟩:=I.pin p B;have f:=λz=>(hch p.1 z).2.2.2 p B rfl;exact⟨keep p.1 p.2 ne nf f e n,free p.1 p.2 f e n,ne,nf,d⟩
theorem Inv.un(I:Inv X pins Z H s)(u:Un X.fs [] H H' s.heap h')(bA:eW X.prog X.w H' h'):Inv X pins Z H' { s with heap:=h',toks:=t' }:=by
 obtain⟨m,⟨o,i,j,f,r⟩,_⟩:=id I.loc;obtain⟨sl,g⟩:=u.any f I.free (by simp);exact I.step (ch:=[]) (nofun) (λb o _ hb _ e n=>u.keep b o e n hb (by simp)) (λb o _ hb _ e n=>u.slot b o e n hb (by simp)) (λb o _ e n=>u.free b o e n (by simp)) (λb o _ e=>u.there b o e (by simp)) u.vB u.pZ u.vA (λk hm=>by obtain⟨l,c,d,a,h⟩:=hm;rw[f]at a;cases a;exact⟨_,c,d,g,h⟩) bA I.bare
theorem Inv.call{ch:Hy}(I:Inv X pins Z H s)(u:Un (pY X.stack) ch H H' s.heap h')(bA:eW X.prog X.w H' h')(hg:vI g')
  (hch:∀b∈ch,(b∈X.ex\/X.s₀.heap.objs.size<=b)/\b≠X.env.locals/\(∀x c,X.env.cells.lookup x=aA c->c≠b)/\∀p∈X.pn++pins,p.1≠b) :
  Inv X pins Z H' { s with heap:=h',gens:=g',drawn:=d',toks:=t' }:=by
 obtain⟨m,⟨o,k,l,i,r⟩,_⟩:=id I.loc;obtain⟨sl,f⟩:=u.any i I.free λz=>(hch _ z).2.1 rfl;exact I.step hch (λb o f hb a e n=>u.keep b o e n (λz=>(List.mem_cons.mp<|I.Od b z).elim f hb) a) (λb o _ _ a e n=>u.any e n a) (λb o a e n=>u.free b o e n a) (λb o a e=>u.there b o e a) u.vB u.pZ u.vA (λq hm=>by obtain⟨t,g,h,d,j⟩:=hm;rw[i]at d;cases d;exact⟨_,g,h,f,j⟩) bA hg
theorem Inv.turned(I:Inv X pins Z H s)(k:∀b o,b≠it->s.heap.get? b=aA o->h'.get? b=aA o)(hn:H it=aD)(hL:it≠X.env.locals)
  (h1:it∈X.ex\/X.s₀.heap.objs.size<=it)(h2:∀x c,X.env.cells.lookup x=aA c->c≠it)(h3:∀p∈X.pn++pins,p.1≠it):Inv X pins Z H { s with heap:=h',toks:=t' }:=by
 have d:∀b u,H b=aA u->b≠it:=λb u e z=>by rw[z,hn]at e;cases e
 refine I.step (ch:=[it]) (λb hb=>?_) (λb o _ _ a e _=>k b o (λz=>a (by simp[z])) e) (λb o _ _ a e _=>⟨o.slots,k b o (λz=>a (by simp[z])) e⟩) (λ_ _ _ _ n=>n)
  (λb o a e=>⟨o,k b o (λz=>a (by simp[z])) e⟩) (λ_ _ e=>e) (λ_ _ _ e=>e) (λb ps e=>⟨#[],by rw[e];simp⟩) (λm hm=>?_) (λb u e=>?_) I.bare
 .have e:b=it:=by simpa using hb
  subst e;exact⟨h1,hL,h2,h3⟩
 .obtain⟨o,f,g,h,r⟩:=hm;exact⟨o,f,g,k _ o (lE hL) h,r⟩
 .refine(I.bA b u e).uY (λc v a q=>k c v ?_ q) (λ_ q=>q) λ_ _ q=>q;rcases a with z|z
  .rw[z];exact d b u e
  .exact d c _ z
theorem Inv.tok(I:Inv X pins Z H s)(t:Nat):Inv X pins Z H { s with toks:=t }:=I.un Un.refl I.bA
theorem Inv.kept{t':Nat}(I:Inv X pins Z H s)(k:∀b u,s.heap.get? b=aA u->h'.get? b=aA u):Inv X pins Z H { s with heap:=h',toks:=t' }:=I.un (Un.kept k) (I.bA.kept k)
theorem Inv.laid{a:Addr}{o:HO}{t':Nat}(I:Inv X pins Z H s)(k:∀b u,s.heap.get? b=aA u->h'.get? b=aA u)(hp:s.heap.objs.size<=a)(new:hZ X.prog X.w (bG H a o) h' a o) :
 Inv X pins Z (bG H a o) { s with heap:=h',toks:=t' }:=I.un (Un.laid k hp<|I.bA.fresh hp) (I.bA.laid k hp new)
theorem Inv.write{x e:Addr}{o:HO}{t':Nat}(I:Inv X pins Z H s)(mu:ee (H x))(he:e=x\/H e=aA (.own x))(k:∀b u,b≠e->s.heap.get? b=aA u->h'.get? b=aA u)(heo:∃u,h'.get? e=aA u)
 (new:hZ X.prog X.w (bG H x o) h' x o):Inv X pins Z (bG H x o) { s with heap:=h',toks:=t' }:=I.un (Un.write mu he k heo) (I.bA.write mu he k heo new)
theorem Inv.ie{pins':Hv}(I:Inv X pins Z H s)(h:∀p∈pins',s.heap.get? p.1=aA p.2/\H p.1=aD/\p.1≠X.env.locals/\p.1∉X.fs/\∀v,p.2.data ≠ .cell v):Inv X pins' Z H s:=
 ⟨I.ok,I.os,I.bare,I.base,I.loc,I.cell,I.free,I.pX,λp a=>(List.mem_append.mp a).elim (λz=>I.pin p (Dv _ z)) (h p),I.bA,I.len⟩
theorem DE(hN:N.Nodup)(a:N[i]?=aA x)(b:N[j]?=aA x):i=j:=by obtain⟨h1,c⟩:=List.getElem?_eq_some_iff.mp a;obtain⟨e,d⟩:=List.getElem?_eq_some_iff.mp b;exact(Qq hN).mp (c.trans d.symm)
theorem aLy{M:Model}{E:Value->aJ->Prop}{Q:Unit->aJ->Prop}(I:Inv X pins Z H s)(hN:X.N.Nodup)(hi:X.N[i]?=aA x)(hx:vV X.env.scope x)(r:RelV v u)
  (h:∀s',Inv X pins (Z.set i<|aA v) H s'->(∃a,xQ a s.heap s'.heap/\(a=X.env.locals\/X.env.cells.lookup x=aA a))->Q () s')(hf:X.fn x=aB\/X.env.scope.names.lookup x=aA .local:=by first|exact .inl rfl|exact .inr rfl|assumption):aS M A (Ts X.env x u) Q E s:=by
 obtain⟨m,hn,hl⟩:=id I.loc;have D:(X.env.scope.kind == .class||(X.env.scope.kind == .module&&X.env.locals != X.env.globals))=aH:=by rw[I.ok.kind];rfl
 have t:i<Z.length:=by rw[I.len];exact(List.getElem?_eq_some_iff.mp hi).1
 have yQ:=I.yQ;have tracked:∀{a:Addr}{C:bH},(∃o,s.heap.get? a=aA o/\H a=aD)->xQ a s.heap C->eW X.prog X.w H C:=λ{a C} ha hs b ob e=>by
  obtain⟨_,_,g⟩:=ha;refine(I.bA b ob e).uY (λc L hc q=>(hs.2 c ?_).trans q) (λ_ q=>q) λ_ _ q=>q;rintro rfl
  rcases hc with rfl|hc
  .rw[g]at e;cases e
  .rw[g]at hc;cases hc
 rcases hx with hk|hk
 .refine wpAny_storeName_local hk hn (λC O hs=>?_) D;obtain⟨oL,_,_,P,_⟩:=id hn;refine h _ ⟨I.ok,I.os,I.bare,⟨λb o e n hb hx=>?_,λb o e n hb hx=>?_,I.base.free,λb o e hx=>?_,I.base.vB,I.base.pZ,I.base.vA⟩,⟨_,O,λj y R f l S=>?_⟩,λy c e=>?_,I.free,I.pX,λp T=>?_,tracked ⟨oL,P,I.free⟩ hs,by simpa using I.len⟩ ⟨_,hs,.inl rfl⟩
  .exact(hs.2 b<|bV<|bD (cZ e) I.ok.above).trans (I.base.keep b o e n hb hx)
  .obtain⟨sl,f⟩:=I.base.slot b o e n hb hx;exact⟨sl,(hs.2 b<|bV<|bD (cZ e) I.ok.above).trans f⟩
  .obtain⟨U,f⟩:=I.base.there b o e hx;exact⟨U,(hs.2 b<|bV<|bD (cZ e) I.ok.above).trans f⟩
  .by_cases w:j=i
   .subst w;rw[hi]at f;cases f;rw[rL t]at l;cases l;exact⟨u,r,.inl ⟨hk,by simp⟩⟩
   .rw[rK (lE w)]at l;obtain⟨W,Y,q⟩:=hl j y R f l S;refine⟨W,Y,?_⟩;rcases q with⟨k,e⟩|⟨k,c,e,z⟩
    .refine .inl ⟨k,?_⟩;have:y≠x:=λe=>w (DE hN f<|e▸hi);simp[this,e]
    .exact .inr ⟨k,c,e,z.sameBut hs (yQ y c e)⟩
  .obtain⟨L,z⟩:=I.cell y c e;exact⟨L,z.sameBut hs (yQ y c e)⟩
  .obtain⟨e,n,ne,nf,d⟩:=I.pin p T;exact⟨(hs.2 p.1 ne).trans e,n,ne,nf,d⟩
 .have B:X.fn x=aB:=by
   rcases hf with z|z
   .exact z
   .rw[z]at hk;cases hk
  obtain⟨c,hc⟩:=I.ok.has x (.inl hk);obtain⟨L,z⟩:=I.cell x c hc;refine wpAny_storeName_cell I.ok.kind hk hc z<|λC F hs=>?_;obtain⟨Yv,G,J⟩:=id z;refine h { s with heap:=C } ⟨I.ok,I.os,I.bare,⟨λb o e n hb hx=>?_,λb o e n hb hx=>?_,I.base.free,λb o e hx=>?_,I.base.vB,I.base.pZ,I.base.vA⟩,⟨m,hn.sameBut hs (lE<|yQ x c hc),λj y R f l S=>?_⟩,λy N e=>?_,I.free,I.pX,λp T=>?_,tracked ⟨Yv,G,I.pX x c hc⟩ hs,by simpa using I.len⟩ ⟨c,hs,.inr hc⟩
  .exact(hs.2 b<|bV<|bD (cZ e)<|I.ok.xy x c B hc).trans (I.base.keep b o e n hb hx)
  .obtain⟨sl,f⟩:=I.base.slot b o e n hb hx;exact⟨sl,(hs.2 b<|bV<|bD (cZ e)<|I.ok.xy x c B hc).trans f⟩
  .obtain⟨U,f⟩:=I.base.there b o e hx;exact⟨U,(hs.2 b<|bV<|bD (cZ e)<|I.ok.xy x c B hc).trans f⟩
  .by_cases w:j=i
   .subst w;rw[hi]at f;cases f;rw[rL t]at l;cases l;exact⟨u,r,.inr ⟨.inl hk,c,hc,F⟩⟩
   .rw[rK (lE w)]at l;obtain⟨W,Y,q⟩:=hl j y R f l S;refine⟨W,Y,?_⟩;rcases q with q|⟨k,N,e,z'⟩
    .exact .inl q
    .refine .inr ⟨k,N,e,z'.sameBut hs ?_⟩;rintro rfl
     exact w<|DE hN f<|I.ok.inj _ _ _ e hc▸hi
  .by_cases K:N=c
   .subst K;exact⟨_,F⟩
   .obtain⟨w2,z2⟩:=I.cell y N e;exact⟨w2,z2.sameBut hs K⟩
  .obtain⟨e,n,ne,nf,d⟩:=I.pin p T;refine⟨(hs.2 p.1 ?_).trans e,n,ne,nf,d⟩;intro q;rw[q,G]at e;have q':=eF e;exact d L<|q'▸J
theorem jf{M:Model}{E:Value->aJ->Prop}{Q:Unit->aJ->Prop}(I:Inv X pins Z H s)(hN:X.N.Nodup)(hi:X.N[i]?=aA x)(hx:vV X.env.scope x)(r:RelV v u)
  (h:∀s',Inv X pins (Z.set i<|aA v) H s'->Q () s')(hf:X.fn x=aB\/X.env.scope.names.lookup x=aA .local:=by first|exact .inl rfl|exact .inr rfl|assumption):aS M A (Ts X.env x u) Q E s:=
 aLy I hN hi hx r (λs' a _=>h s' a) hf
theorem Inv.VP{ch:Hy}(I:Inv X pins Z H s)(ho:s'.os=s.os)(u:Un (pY X.stack) ch H H' s.heap s'.heap)(bA:eW X.prog X.w H' s'.heap)(hg:vI s'.gens)
  (hch:∀b∈ch,(b∈X.ex\/X.s₀.heap.objs.size<=b)/\b≠X.env.locals/\(∀x c,X.env.cells.lookup x=aA c->c≠b)/\∀p∈X.pn++pins,p.1≠b):Inv X pins Z H' s':=by
 obtain⟨d,f,g,h,a⟩:=s';have e:=ho;subst e;exact I.call u bA hg hch
end
abbrev XK:=Value->Yu->Hp->Prop
abbrev St:=List (Option V)
variable {Z:St}
abbrev VK:=V->Hp->Prop
abbrev TE:=St->Hp->VK->Prop
variable {ta tb te:TE}
abbrev TT:=St->Hp->(Bool->Hp->Prop)->Prop
variable {tc:TT}
abbrev TA:=St->Hp->(Hw->Hp->Prop)->Prop
structure Ends where
 nx:St->Hp->Prop
 rt:VK
 bk:St->Hp->Prop:=λ_ _=>False
 ct:St->Hp->Prop:=λ_ _=>False
abbrev TS:=Ends->St->Hp->Prop
def EP(X:Cx)(pins:Hv)(Z:St)(Q:VK)(u:Value)(s':aJ):Prop:=∃v H',Inv X pins Z H' s'/\RelV v u/\Q v H'
def TP(X:Cx)(pins:Hv)(Z:St)(Q:Bool->Hp->Prop)(b:Bool)(s':aJ):Prop:=∃H',Inv X pins Z H' s'/\Q b H'
def AP(X:Cx)(pins:Hv)(Z:St)(Q:Hw->Hp->Prop)(us:Hu)(s':aJ):Prop:=∃vs H',Inv X pins Z H' s'/\Vals vs us/\Q vs H'
def SP(X:Cx)(pins:Hv)(D:Ends)(f:Flow)(s':aJ):Prop:=
 match f with
 |.next=>∃Z' H',Inv X pins Z' H' s'/\D.nx Z' H'
 |.brk=>∃Z' H',Inv X pins Z' H' s'/\D.bk Z' H'
 |.cont=>∃Z' H',Inv X pins Z' H' s'/\D.ct Z' H'
 |.ret u=>∃v Z' H',Inv X pins Z' H' s'/\RelV v u/\D.rt v H'
def PE(X:Cx)(e:aL)(t:TE):Prop:=
 ∀(pins:Hv) (s:aJ) (Z:St) (H:Hp) (Q:VK),Inv X pins Z H s->t Z H Q->aS (aY X.prog X.w) X.A (eval e X.env) (EP X pins Z Q) X.xe s
def PT(X:Cx)(e:aL)(t:TT):Prop:=
 ∀(pins:Hv) (s:aJ) (Z:St) (H:Hp) (Q:Bool->Hp->Prop),Inv X pins Z H s->t Z H Q->aS (aY X.prog X.w) X.A (isTrue e X.env<|eval e X.env) (TP X pins Z Q) X.xe s
def PW(X:Cx)(e:aL)(t:TT):Prop:=
 ∀(whole:Sem Value) (pins:Hv) (s:aJ) (Z:St) (H:Hp) (Q:Bool->Hp->Prop),Inv X pins Z H s->t Z H Q->aS (aY X.prog X.w) X.A (isTrue e X.env whole) (TP X pins Z Q) X.xe s
theorem PW.pt{X:Cx}{t:TT}(h:PW X e t):PT X e t:=h _
def PA(X:Cx)(es:List aL)(t:TA):Prop:=
 ∀(pos:Pos) (pins:Hv) (s:aJ) (Z:St) (H:Hp) (Q:Hw->Hp->Prop),Inv X pins Z H s->t Z H Q->aS (aY X.prog X.w) X.A (spliced<|lU pos<|eO es X.env) (AP X pins Z Q) X.xe s
def PS(X:Cx)(st:Stmt)(t:TS):Prop:=
 ∀(pins:Hv) (s:aJ) (Z:St) (H:Hp) (D:Ends),Inv X pins Z H s->t D Z H->aS (aY X.prog X.w) X.A (exec st X.env) (SP X pins D) X.xe s
def rR(X:Cx)(st:YV)(t:TS):Prop:=
 ∀(pins:Hv) (s:aJ) (Z:St) (H:Hp) (D:Ends),Inv X pins Z H s->t D Z H->aS (aY X.prog X.w) X.A (execs st X.env) (SP X pins D) X.xe s
theorem bE{α:Type}{t:Sem α}{Q Q':α->aJ->Prop}{M:Model}{E:Value->aJ->Prop}(h:aS M A t Q E s)(hQ:∀a s,Q a s->Q' a s):aS M A t Q' E s:=wo h hQ λ_ _ x=>x
section
variable {X:Cx}
def aNk(i:Nat):TE:=λZ H Q=>∃v,Z[i]?=aA (aA v)/\Q v H
def tC(v:V):TE:=λ_ H Q=>Q v H
theorem aBb(hN:X.N[i]?=aA x)(hv:nj X.env.scope x)(hd:(x==("__debug__":Str))=aH:=by decide)(hcd:(x==("__classdict__":Str))=aH:=by decide):PE X (.Name x pos) (aNk i):=by
 intro pins s d H Q I h;obtain⟨v,e,h⟩:=h;obtain⟨m,hn,hl⟩:=I.loc;obtain⟨u,r,l⟩:=hl i x v hN e hv;have fin:EP X pins d Q u s:=⟨v,H,I,r,h⟩;rcases l with⟨hk,hm⟩|⟨hk,c,b,a⟩
 .exact Tz (OF I.ok.kind hk hn hm fin) hd
 .rcases hk with hk|hk
  .exact Tz (OE I.ok.kind hk b a fin) hd
  .exact Tz (wpAny_loadName_free I.ok.kind hk b a fin hcd) hd
theorem DZ{i j pos}:PE X (.Constant (.int i) j pos) (tC<|.int i):=λ_ _ _ H _ I h=>wpAny_Constant_int ⟨.int i,H,I.tok _,⟨_,rfl⟩,h⟩
theorem Li{b j pos}:PE X (.Constant (.bool b) j pos) (tC<|.bl b):=λ_ _ _ H _ I h=>Constant_bool ⟨.bl b,H,I,rfl,h⟩
theorem Lj{j pos}:PE X (.Constant .none j pos) (tC .aE):=λ_ _ _ H _ I h=>Constant_none ⟨.aE,H,I,rfl,h⟩
theorem EA{x j pos}:PE X (.Constant (.str x) j pos) (tC<|.str x):=λ_ _ _ H _ I h=>Calls.Constant_str ⟨.str x,H,I.tok _,⟨_,rfl⟩,h⟩
def Gl(X:Cx)(x:Str):Prop:=X.env.kindOf x=aA .globalImplicit
theorem rg{E:Value->aJ->Prop}(I:Inv X pins Z H s)(hg:Gl X x)(hm:X.mg x=aA u)(h:Q u s)
  (hd:(x==("__debug__":Str))=aH:=by decide):aS (aY X.prog X.w) X.A (eval (.Name x pos) X.env) Q E s:=
 KG I.ok.kind hg (Calls.loadGlobal_global (by rw[I.ok.glob];exact I.mod.glob.keeps I.bk) hm h) hd
theorem zX{E:Value->aJ->Prop}(I:Inv X pins Z H s)(hg:Gl X x)(hm:X.mg x=aD)(hv:mV x=aA u)(h:Q u s)
  (hn:x≠"__name__":=by decide)(hd:(x==("__debug__":Str))=aH:=by decide):aS (aY X.prog X.w) X.A (eval (.Name x pos) X.env) Q E s:=by
 obtain⟨b,h1,a⟩:=I.mod.blt;exact KG I.ok.kind hg (Calls.loadGlobal_builtin (by rw[I.ok.glob];exact I.mod.glob.keeps I.bk) hm (by rw[I.ok.blt];exact h1.keeps I.bk) ((a x hn).trans hv) h) hd
theorem DY(hg:Gl X x)(hm:X.mg x=aA u)(r:RelV v u)(hd:(x==("__debug__":Str))=aH:=by decide):PE X (.Name x pos) (tC v):=
 λ_ _ _ H _ I h=>rg I hg hm ⟨v,H,I,r,h⟩ hd
theorem aAb(hg:Gl X x)(hm:X.mg x=aD)(hv:mV x=aA u)(r:RelV v u)(hn:x≠"__name__":=by decide)(hd:(x==("__debug__":Str))=aH:=by decide):PE X (.Name x pos) (tC v):=
 λ_ _ _ H _ I h=>zX I hg hm hv ⟨v,H,I,r,h⟩ hn hd
variable {a b:aL}
variable {tA tB':TT}{rest:List aL}
def aMm(t u:TT):TT:=λZ H Q=>t Z H λc H1=>if c=aB then u Z H1 Q else Q aH H1
def tOr(t u:TT):TT:=λZ H Q=>t Z H λc H1=>if c=aB then Q aB H1 else u Z H1 Q
def aNb(t:TT):TT:=λZ H Q=>t Z H λc H1=>Q (!c) H1
theorem aDh(ha:PT X a tA):PW X (.BoolOp .And [a] pos) tA:=by
 intro d pins s b H Q I h;refine isTrue_and<|bE (ha pins s b H Q I h) λc s1 e=>?_;cases c with
 |true=>exact isTrue_and_nil e|false=>exact e
theorem aDk(ha:PT X a tA):PW X (.BoolOp .Or [a] pos) tA:=by
 intro d pins s b H Q I h;refine isTrue_or<|bE (ha pins s b H Q I h) λc s1 e=>?_;cases c with
 |false=>exact isTrue_or_nil e|true=>exact e
theorem aDg(ha:PT X a tA)(hb:PW X (.BoolOp .And (b::rest) pos) tB'):PW X (.BoolOp .And (a::b::rest) pos) (aMm tA tB'):=by
 intro g pins s d H Q I h;refine isTrue_and<|bE (ha pins s d H _ I h) λc s1 ⟨H1,e,f⟩=>?_;cases c with
 |true=>exact hb g pins s1 d H1 Q e f|false=>exact⟨H1,e,f⟩
theorem aDj(ha:PT X a tA)(hb:PW X (.BoolOp .Or (b::rest) pos) tB'):PW X (.BoolOp .Or (a::b::rest) pos) (tOr tA tB'):=by
 intro g pins s d H Q I h;refine isTrue_or<|bE (ha pins s d H _ I h) λc s1 ⟨H1,e,f⟩=>?_;cases c with
 |true=>exact⟨H1,e,f⟩|false=>exact hb g pins s1 d H1 Q e f
theorem aDb(ha:PT X a tA):PT X (.UnaryOp .Not a pos) (aNb tA):=by intro pins s b H Q I h;exact isTrue_not<|ha pins s b H (λc H1=>Q (!c) H1) I h
theorem aAu{op}{t:TE}(h:PE X a t):PE X (.BoolOp op [a] pos) t:=λpins s b H Q I hw=>BoolOp_one (h pins s b H Q I hw)
def tIf(t:TT)(ta tb:TE):TE:=λZ H Q=>t Z H λc H1=>if c=aB then ta Z H1 Q else tb Z H1 Q
theorem aAm(hc:PT X c tA)(ha:PE X a ta)(hb:PE X b tb):PE X (.IfExp c a b pos) (tIf tA ta tb):=by
 intro pins s e H Q I h;refine wpAny_IfExp<|bE (hc pins s e H _ I h) λd s1 ⟨H1,f,g⟩=>?_;cases d with
 |true=>exact ha pins s1 e H1 Q f g|false=>exact hb pins s1 e H1 Q f g
end
def dN(K:bI)(H:Hp)(a:Addr)(xs:Hw):Prop:=
 Rd H a (.lst xs) \/
  ∃(o:Obj) (its:YY) (n:Nat),K.lookup a=aA o/\o.cls = .type "list"/\o.dict=aD/\o.data = .seq its n/\its.size<=sizeLine/\Vals xs its.toList
def eH(K:bI)(H:Hp)(a:Addr)(xs:Hw):Prop:=
 Rd H a (.tup xs) \/
  ∃(o:Obj) (its:YY) (n:Nat),K.lookup a=aA o/\o.cls = .type "tuple"/\o.data = .seq its n/\its.size<=sizeLine/\Vals xs its.toList
def OP:Value->Option V
 |.none=>aA .aE
 |.bool b=>aA (.bl b)
 |.int i _=>aA (.int i)
 |.str x _=>aA (.str x)
 |.bytes b _=>aA (.mY b)
 |.float b _=>aA (.yu b)
 |.ref a=>aA (.ref a)
 |.type n=>aA (.ty n)
 |_=>aD
theorem RelV.abs{x:V}(r:RelV x u):OP u=aA x:=by
 cases x with
 |aE=>cases r;rfl|bl _=>cases r;rfl|int _=>obtain⟨t,rfl⟩:=r;rfl|str _=>obtain⟨t,rfl⟩:=r;rfl|mY _=>obtain⟨t,rfl⟩:=r;rfl|yu _=>obtain⟨t,rfl⟩:=r;rfl|ref _=>cases r;rfl|ty _=>cases r;rfl
theorem RelV.inj{x:V}(r:RelV x u)(q:RelV y u):x=y:=eF (r.abs.symm.trans q.abs)
theorem Vals.inj:∀{xs ys:Hw}{us:Hu},Vals xs us->Vals ys us->xs=ys
 |_,_,_,.nil,.nil=>rfl|_,_,_,.cons r t,.cons a b=>by rw[r.inj a,Vals.inj t b]
section
variable {X:Cx}{ys:Hw}
theorem dN.of{K:bI}(h:H a=aA (.lst xs)):dN K H a xs:=.inl (.inl h)
theorem eH.of{K:bI}(h:H a=aA (.tup xs)):eH K H a xs:=.inl (.inl h)
theorem Inv.list(I:Inv X pins Z H s)(h:dN X.K H a xs):∃its:Hu,Vals xs its/\PlainL s.heap a its.toArray/\xs.length<=sizeLine:=by
 rcases h with h|⟨o,its,n,b,c,hd,hs,d,r⟩
 .obtain⟨z,its,n,r,e⟩:=h.ok I.bA;exact⟨its,r,⟨_,n,e,rfl,rfl,rfl⟩,z⟩
 .refine⟨its.toList,r,⟨o,n,I.fI a o b,c,hd,by simpa using hs⟩,?_⟩;have e:=r.length;simp only[xN]at e;lia
theorem Inv.tuple(I:Inv X pins Z H s)(h:eH X.K H a xs):∃its:Hu,Vals xs its/\IsTup s.heap a its.toArray/\xs.length<=sizeLine:=by
 rcases h with h|⟨o,its,n,b,c,hs,d,r⟩
 .obtain⟨z,its,r,p⟩:=h.ok I.bA;exact⟨its,r,p,z⟩
 .refine⟨its.toList,r,⟨o,I.fI a o b,c,n,by simpa using hs⟩,?_⟩;have e:=r.length;simp only[xN]at e;omega
theorem Inv.CA(I:Inv X pins Z H s)(h:dN X.K H a xs)(h':dN X.K H a ys):xs=ys:=by
 obtain⟨c,r,⟨o,n,e,_,_,d⟩,_⟩:=I.list h;obtain⟨b,i,⟨j,k,f,_,_,g⟩,_⟩:=I.list h';rw[e]at f;cases f;rw[d]at g;injection g with d1 _;have:c=b:=by simpa using congrArg KA d1
 subst this;exact r.inj i
theorem Inv.IF(I:Inv X pins Z H s)(h:eH X.K H a xs)(h':eH X.K H a ys):xs=ys:=by
 obtain⟨c,r,⟨o,e,_,n,d⟩,_⟩:=I.tuple h;obtain⟨b,i,⟨j,f,_,k,g⟩,_⟩:=I.tuple h';rw[e]at f;cases f;rw[d]at g;injection g with d1 _;have:c=b:=by simpa using congrArg KA d1
 subst this;exact r.inj i
end
section
variable {X:Cx}{st:Stmt}{rest:YV}{t u:TS}
def HU:TS:=λD Z H=>D.nx Z H
def aNi(t u:TS):TS:=λD Z H=>t { D with nx:=u D } Z H
theorem aCy:rR X [] HU:=λ_ _ a H _ I h=>Ub ⟨a,H,I,h⟩
theorem aCx(h1:PS X st t)(h2:rR X rest u):rR X (st::rest) (aNi t u):=by
 intro pins s b H D I h;refine wpAny_execs_cons<|bE (h1 pins s b H { D with nx:=u D } I h) λf s1 q=>?_;cases f with
 |next=>obtain⟨a,c,d,q⟩:=q;exact h2 pins s1 a c D d q
 |ret v=>exact q|brk=>exact q|cont=>exact q
def aMq:TS:=λD Z H=>D.bk Z H
def aMr:TS:=λD Z H=>D.ct Z H
theorem aCr:PS X (.Pass pos) HU:=λ_ _ a H _ I h=>wpAny_Pass ⟨a,H,I,h⟩
theorem aCi:PS X (.Break pos) aMq:=λ_ _ a H _ I h=>wpAny_Break ⟨a,H,I,h⟩
theorem aCj:PS X (.Continue pos) aMr:=λ_ _ a H _ I h=>wpAny_Continue ⟨a,H,I,h⟩
theorem Inv.quiet(I:Inv X pins Z H s):interactive X.env=aH:=by simp[interactive,I.ok.kind]
def aMt(te:TE):TS:=λD Z H=>te Z H λ_ H1=>D.nx Z H1
theorem aCk(he:PE X e te)(hs:vT e aD pos.line X.env=pure aH:=by rfl):PS X (.Expr e pos) (aMt te):=by intro pins s a H D I h;exact wpAny_Expr_any (bE (he pins s a H _ I h) λv s1 ⟨x,H1,b,d,c⟩=>⟨a,H1,b,c⟩) I.quiet hs
def aNg(te:TE):TS:=λD Z H=>te Z H D.rt
theorem aCs(he:PE X e te):PS X (.Return (aA e) pos) (aNg te):=by intro pins s a H D I h;exact wpAny_Return_some<|bE (he pins s a H _ I h) λv s1 ⟨x,H1,b,c,d⟩=>⟨x,a,H1,b,c,d⟩
def aNh:TS:=λD _ H=>D.rt .aE H
theorem aCt:PS X (.Return aD pos) aNh:=λ_ _ a H _ I h=>wpAny_Return_none ⟨.aE,a,H,I,rfl,h⟩
def aMx(c:TT)(t u:TS):TS:=λD Z H=>c Z H λb H1=>if b=aB then t D Z H1 else u D Z H1
theorem aCo{a b:YV}(hc:PT X c tc)(ha:rR X a t)(hb:rR X b u):PS X (.If c a b pos) (aMx tc t u):=by
 intro pins s e H D I h;refine wpAny_If<|bE (hc pins s e H _ I h) λd s1 ⟨H1,f,g⟩=>?_;cases d with
 |true=>exact ha pins s1 e H1 D f g|false=>exact hb pins s1 e H1 D f g
def aMz:TS:=λ_ _ _=>False
theorem aCp:PS X st aMz:=λ_ _ _ _ _ _ h=>h.elim
end
abbrev TG:=V->St->Hp->(St->Hp->Prop)->Prop
abbrev yI:=Hw->St->Hp->(St->Hp->Prop)->Prop
def PG(X:Cx)(target:aL)(t:TG):Prop:=
 ∀(pins:Hv) (s:aJ) (Z:St) (H:Hp) (v:V) (u:Value) (Q:St->Hp->Prop),Inv X pins Z H s->RelV v u->t v Z H Q ->
  aS (aY X.prog X.w) X.A (cu target X.env u) (λ_ s'=>∃Z' H',Inv X pins Z' H' s'/\Q Z' H') X.xe s
def mz(X:Cx)(ts:List aL)(t:yI):Prop:=
 ∀(pins:Hv) (s:aJ) (Z:St) (H:Hp) (vs:Hw) (us:Hu) (Q:St->Hp->Prop),Inv X pins Z H s->Vals vs us->t vs Z H Q ->
  aS (aY X.prog X.w) X.A (Em ((rQ ts X.env).map (·.2)) us) (λ_ s'=>∃Z' H',Inv X pins Z' H' s'/\Q Z' H') X.xe s
abbrev Fp:=V->V->V->Hp->(Hp->Prop)->Prop
def Fl(X:Cx)(t:Fp):Prop:=
 ∀(pins:Hv) (s:aJ) (Z:St) (H:Hp) (o i v:V) (ov iv u:Value) (Q:Hp->Prop),Inv X pins Z H s->RelV o ov->RelV i iv->RelV v u->t o i v H Q ->
  aS (aY X.prog X.w) X.A (setItem ov iv u) (λ_ s'=>∃H',Inv X pins Z H' s'/\Q H') X.xe s
abbrev xk:=V->V->Hp->VK->Prop
def xh(X:Cx)(op:rN)(t:xk):Prop:=
 ∀(pins:Hv) (s:aJ) (Z:St) (H:Hp) (x y:V) (v u:Value) (Q:VK),Inv X pins Z H s->RelV x v->RelV y u->t x y H Q ->
  aS (aY X.prog X.w) X.A (Tj op v u) (EP X pins Z Q) X.xe s
section
variable {X:Cx}
def Zv(i:Nat):TG:=λv Z H Q=>Q (Z.set i<|aA v) H
theorem aBc(hN:X.N.Nodup)(hi:X.N[i]?=aA x)(hx:vV X.env.scope x)(hf:X.fn x=aB\/X.env.scope.names.lookup x=aA .local:=by first|exact .inl rfl|exact .inr rfl|assumption):PG X (.Name x pos) (Zv i):=by intro pins s b H v u Q I r h;exact OA<|jf I hN hi hx r (λc a=>⟨_,H,a,h⟩) hf
def A8:yI:=λvs Z H Q=>vs=[]/\Q Z H
def A7(t:TG)(u:yI):yI:=λvs Z H Q=>∃v r,vs=v::r/\t v Z H λZ' H'=>u r Z' H' Q
theorem aBg:mz X [] A8:=by intro pins s a H b us Q I r h;obtain⟨e,h⟩:=h;subst e;exact NQ ⟨a,H,I,h⟩
theorem aBf{t:TG}{u:yI}(h1:PG X e t)(h2:mz X es u)
  (hs:(rQ (e::es) X.env).map (·.2)=cu e X.env::(rQ es X.env).map (·.2):=by rfl):mz X (e::es) (A7 t u):=by
 intro pins s b H i us Q I r h;obtain⟨v,j,c,h⟩:=h;subst c;cases r with
 |cons r d=>rw[hs];exact En<|bE (h1 pins s b H _ _ _ I r h) λ_ s1 ⟨a,H1,f,g⟩=>h2 pins s1 a H1 _ _ Q f d g
def zi(to ti:TE)(t:Fp):TG:=λv Z H Q=>to Z H λo H1=>ti Z H1 λi H2=>t o i v H2 λH3=>Q Z H3
theorem aBe{o i:aL}{to ti:TE}{t:Fp}(ho:PE X o to)(hi:PE X i ti)(hs:Fl X t)
  (ha:∀v,cu (.Subscript o i pos) X.env v=(do
   let ov <- lu [v] (eval o X.env)
   let iv <- lu [v,ov] (eval i X.env)
   Eu pos
   lu [v,ov,iv] (setItem ov iv v)
   release [v,ov,iv] []):=by intro _;rfl):PG X (.Subscript o i pos) (zi to ti t):=by
 intro pins s a H v u Q I r h;refine aP<|oR<|bE (ho pins s a H _ I h) λov s1 b=>?_;obtain⟨x,H1,c,d,e⟩:=b;refine aP<|oR<|bE (hi pins s1 a H1 _ c e) λiv s2 b=>?_;obtain⟨y,f,g,j,k⟩:=b;exact aP<|mm<|aP<|oR<|bE (hs pins s2 a f x y v ov iv u _ g d j r k) λ_ p ⟨l,m,n⟩=>wpAny_release ⟨a,l,m,n⟩
def HN(te:TE)(g:TG):TS:=λD Z H=>te Z H λx H1=>g x Z H1 D.nx
theorem aCg{g:TG}(he:PE X e te)(hg:PG X tg g)(hs:NY [tg] e pos.line X.env=pure aH:=by rfl)(hw:ly [tg] e X.env=pure aD:=by rfl)
  (h1:(rQ [tg] X.env).map (·.2)=[cu tg X.env]:=by rfl):PS X (.Assign [tg] e pos) (HN te g):=by
 intro pins s a H D I h;refine wpAny_Assign_stores (bE (he pins s a H _ I h) λv s1 ⟨x,H1,b,c,d⟩=>?_) hs hw;rw[h1];exact bE (hg pins s1 a H1 x v _ b c d) λ_ s2 q=>q
def aMo(i:Nat)(te:TE)(ti:xk):TS:=λD Z H=>∃x,Z[i]?=aA (aA x)/\te Z H λy H1=>ti x y H1 λz H2=>D.nx (Z.set i<|aA z) H2
theorem aCh{op:rN}{ti:xk}(hN:X.N.Nodup)(hi:X.N[i]?=aA x)(hx:vV X.env.scope x)(he:PE X e te)(ho:xh X op ti)(hf:X.fn x=aB\/X.env.scope.names.lookup x=aA .local:=by first|exact .inl rfl|exact .inr rfl|assumption) :
  PS X (.AugAssign (.Name x pos') op e pos) (aMo i te ti):=by
 intro pins s j H D I h;obtain⟨v,n,h⟩:=h;obtain⟨m,hn,hl⟩:=I.loc;have f:nj X.env.scope x:=by rcases hx with k|k;exact .inl k;exact .inr<|.inl k
 obtain⟨u,r,l⟩:=hl i x v hi n f;refine wpAny_AugAssign_Name ?_;have go:aS (aY X.prog X.w) X.A (eval e X.env) (λw b=>aS (aY X.prog X.w) X.A (Tj op u w) (λr d=>aS (aY X.prog X.w) X.A (Ts X.env x r) (λ_=>SP X pins D .next) X.xe d) X.xe b) X.xe s:=by refine bE (he pins s j H _ I h) λw s1 g=>?_;obtain⟨y,H1,o,p,q⟩:=g;refine bE (ho pins s1 j H1 v y u w _ o r p q) λz s2 g=>?_;obtain⟨G,t,A,B,C⟩:=g;exact jf A hN hi hx B (λJ E=>⟨_,t,E,C⟩) hf
 rcases l with⟨hk,hm⟩|⟨hk,c,F,a⟩
 .exact OF I.ok.kind hk hn hm go
 .rcases hk with hk|hk
  .exact OE I.ok.kind hk F a go
  .rcases hx with k|k
   .have:X.env.scope.names.lookup x=aA .free:=hk;rw[k]at this;cases this
   .have:X.env.scope.names.lookup x=aA .free:=hk;rw[k]at this;cases this
def Jk(f:Int->Int->Int):xk:=λx y H Q=>∃i j,x = .int i/\y = .int j/\Q (.int<|f i j) H
theorem F6:xh X .Add (Jk λi j=>i+j):=by intro pins s Z H x y v u Q I r1 r2 h;obtain⟨i,j,e1,e2,q⟩:=h;subst e1;subst e2;obtain⟨t,rfl⟩:=r1;obtain⟨t',rfl⟩:=r2;exact iadd_int ⟨.int _,H,I.tok _,⟨_,rfl⟩,q⟩
theorem F7:xh X .Sub (Jk λi j=>i-j):=by intro pins s e H x y v u Q I a b h;obtain⟨i,j,c,d,q⟩:=h;subst c;subst d;obtain⟨t,rfl⟩:=a;obtain⟨f,rfl⟩:=b;exact isub_int ⟨.int _,H,I.tok _,⟨_,rfl⟩,q⟩
end
section
variable {X:Cx}
def aNl(c:TT)(tb:TS):TS:=λD Z H=>∃W:Nat->St->Hp->Prop,(∃m,W m Z H)/\∀m Z H,W m Z H ->
 c Z H λb H1=>if b=aB then∃N:St->Hp->Prop,(∀Z' H',N Z' H'->∃m',m'<m/\W m' Z' H')/\tb { D with nx:=N,ct:=N,bk:=D.nx } Z H1 else D.nx Z H1
theorem aCw{tb:TS}(hp:vx (aY X.prog X.w) X.A X.env X.xe)(hc:PT X c tc)(hb:rR X body tb):PS X (.While c body [] pos) (aNl tc tb):=by
 intro pins s u H D I h;obtain⟨W,⟨m0,w⟩,turn⟩:=h;refine wpAny_While<|codeAny_whileLoop (λn x=>∃e p,Inv X pins e p x/\W n e p) ?_ m0 ⟨u,H,I,w⟩;rintro n s1 ⟨d,H1,y,z⟩
 refine du hp<|bE (hc pins s1 d H1 _ y<|turn n d H1 z) λb s2 ⟨q,r,i⟩=>?_;cases b with
 |true=>
  obtain⟨N,t,i⟩:=i;refine du hp<|bE (hb pins s2 d q _ r i) λf A j=>?_;cases f with
  |next=>obtain⟨a,g,k,l⟩:=j;obtain⟨m,hm,o⟩:=t a g l;exact⟨m,hm,a,g,k,o⟩
  |cont=>obtain⟨a,g,k,l⟩:=j;obtain⟨m,hm,o⟩:=t a g l;exact⟨m,hm,a,g,k,o⟩
  |brk=>exact j|ret v=>exact j
 |false=>exact Ub ⟨d,q,r,i⟩
end
structure It where
 go:Nat->Hp->Prop
 vh:Nat->Hp->V->Hp->Prop
 stop:Nat->Hp->Prop
def kR(X:Cx)(pins:Hv)(H:Hp)(b:Addr):Prop:=
 H b=aD/\b≠X.env.locals/\b∉X.fs/\(b∈X.ex\/X.s₀.heap.objs.size<=b)/\(∀x c,X.env.cells.lookup x=aA c->c≠b)/\∀p∈X.pn++pins,p.1≠b
theorem Inv.uB{X:Cx}(I:Inv X pins Z H s)(hb:s.heap.objs.size<=b)(hn:H' b=aD):kR X pins H' b:=by
 refine⟨hn,lD (bD I.lt hb),I.R9 hb,.inr (cD I.sz hb),λx c e z=>?_,λp a z=>?_⟩
 .obtain⟨v,q⟩:=I.cell x c e;exact absurd (bD q.lt<|z▸hb)<|lC _
 .exact absurd (bD (cZ (I.pin p a).1)<|z▸hb)<|lC _
structure Turn(P:cB)(w:bR)(K:bI)(tg:aL)(J:It)(fp:Hy)(it:Addr)(tn:Nat->bH->Prop):Prop where
 mem:it∈fp
 obj:∀i h,tn i h->∀b∈fp,∃o,h.get? b=aA o/\∀v,o.data ≠ .cell v
 keep:∀i h h',tn i h->(∀b∈fp,∀o,h.get? b=aA o->h'.get? b=aA o)->tn i h'
 item:∀(X:Cx),X.prog=P->X.w=w->X.K=K->X.calm=aB->∀(i:Nat) (pins:Hv) (s:aJ) (Z:St) (H:Hp) (E:Value->aJ->Prop),Inv X pins Z H s->(∀b∈fp,kR X pins H b)->tn i s.heap->J.go i H ->
  aS (aY P w) X.A (tO<|.ref it) (λr s1=>∃u,r=aA u /\
   aS (aY P w) X.A (Tl tg (.ref it) u) (λ_ s2=>∃x H',Inv X pins Z H' s2/\RelV x u/\J.vh i H x H'/\tn (i+1) s2.heap/\∀b∈fp,H' b=aD) E s1) E s
 done:∀(X:Cx),X.prog=P->X.w=w->X.K=K->X.calm=aB->∀(i:Nat) (pins:Hv) (s:aJ) (Z:St) (H:Hp) (E:Value->aJ->Prop),Inv X pins Z H s->(∀b∈fp,kR X pins H b)->tn i s.heap->J.stop i H ->
  aS (aY P w) X.A (tO<|.ref it) (λr s1=>r=aD/\Inv X pins Z H s1) E s
 self:∀(A:cJ) (i:Nat) (s:aJ) (Q:Value->aJ->Prop) (E:Value->aJ->Prop),tn i s.heap->Q (.ref it) s->aS (aY P w) A (wj<|.ref it) Q E s
abbrev TI:=St->Hp->(It->Hp->Prop)->Prop
def Ur(X:Cx)(pins:Hv)(Z:St)(tg:aL)(R:It->Hp->Prop)(itv:Value)(s2:aJ):Prop:=
 ∃(it:Addr) (fp:Hy) (tn:Nat->bH->Prop) (J:It) (H':Hp),itv = .ref it/\Inv X pins Z H' s2/\Turn X.prog X.w X.K tg J fp it tn/\tn 0 s2.heap/\(∀b∈fp,kR X pins H' b)/\R J H'
def PI(X:Cx)(tg cU:aL)(wi:TI):Prop:=
 ∀(pins:Hv) (s:aJ) (Z:St) (H:Hp) (R:It->Hp->Prop),Inv X pins Z H s->wi Z H R ->
  aS (aY X.prog X.w) X.A (eval cU X.env) (λv s1=>aS (aY X.prog X.w) X.A (wj v) (Ur X pins Z tg R) X.xe s1) X.xe s
theorem zm{M:Model}{E:Value->aJ->Prop}{o:Obj}{n:String}{vs:YY}{Q:Unit->aJ->Prop}(ho:s.heap.get? it=aA o)(hc:o.cls = .type n)(hd:o.data = .fields vs)
    (hn:["enumerate","zip","dict_itemiterator","dict_reverseitemiterator","odict_iterator","itertools.zip_longest","itertools.pairwise"].contains n=aH)(hQ:Q () s):aS M A (Tl tg (.ref it) u) Q E s:=by
  cases tg<;>first
    |exact bZ hQ
    | (cases u<;>first
        |exact bZ hQ
        | (refine aP (wpAny_load ho ?_)
           rw[hc,hd];show aS M A (if(["enumerate","zip","dict_itemiterator","dict_reverseitemiterator","odict_iterator","itertools.zip_longest","itertools.pairwise"].contains n&&vs[0]?==aA (yA _))=aB then _ else _) Q E s;rw[if_neg (by intro h;rw[hn]at h;cases h)];exact bZ hQ))
def Fg(K:bI)(a:Addr):It:=
 ⟨λi H=>∃xs x,dN K H a xs/\xs[i]?=aA x,λi H x H'=>H'=H/\∀xs,dN K H a xs->xs[i]?=aA x,λi H=>∃xs,dN K H a xs/\xs.length<=i⟩
def Fh(K:bI)(a:Addr):It:=
 ⟨λi H=>∃xs x,eH K H a xs/\xs[i]?=aA x,λi H x H'=>H'=H/\∀xs,eH K H a xs->xs[i]?=aA x,λi H=>∃xs,eH K H a xs/\xs.length<=i⟩
def xb(lo:Int)(n:Nat):It:=⟨λi _=>i<n,λi H x H'=>H'=H/\x = .int (lo+i),λi _=>n<=i⟩
theorem aOo{P:cB}{K:bI}(a it:Addr):Turn P w K tg (Fg K a) [it] it (λi h=>h.IsListIter it a i) where
 mem:=by simp
 obj:=λi h st b hb=>by
  have e:b=it:=by simpa using hb
  subst e;obtain⟨o,e,c,d⟩:=st;exact⟨o,e,λv z=>by rw[d]at z;cases z⟩
 keep:=λi h h' st k=>st.at λo e=>k it (by simp) o e
 item:=by intro X hP hw hK hc i pins s Z H E I hf st hg;subst hP hw hK;obtain⟨xs,x,hq,hx⟩:=hg;obtain⟨its,rv,p,hz⟩:=I.list hq;obtain⟨u,hu,ru⟩:=rv.get hx;obtain⟨f0,f1,f2,f3,f4,f5⟩:=hf it (by simp);refine OJ st p.isList (x:=u) (by simpa using hu) λh' st' sb=>?_;have I1:Inv X pins Z H { s with heap:=h' }:=I.turned (t':=s.toks) (λb o hb e=>(sb.2 b hb).trans e) f0 f1 f3 f4 f5;obtain⟨o,e,c,d⟩:=id st';exact⟨u,rfl,zm (s:={ s with heap:=h' }) e c d (by decide) ⟨x,H,I1,ru,⟨rfl,λys hy=>by rw[I.CA hy hq];exact hx⟩,st',λb hb=>(hf b hb).1⟩⟩
 done:=by intro X hP hw hK hc i pins s Z H E I hf st hg;subst hP hw hK;obtain⟨xs,hq,hx⟩:=hg;obtain⟨its,rv,p,hz⟩:=I.list hq;obtain⟨f0,f1,f2,f3,f4,f5⟩:=hf it (by simp);have hl:=rv.length;exact Ue (I.ok.hd hc) st p.isList (by simp;omega) λh' eb=>⟨rfl,I.turned (t':=s.toks) (λb o hb e=>eb b o hb e) f0 f1 f3 f4 f5⟩
 self:=λ_ _ _ _ _ st h=>wpAny_pyIter_listiter st h
theorem aOr{P:cB}{K:bI}(a it:Addr):Turn P w K tg (Fh K a) [it] it (λi h=>h.IsTupleIter it a i) where
 mem:=by simp
 obj:=λi h st b hb=>by
  have e:b=it:=by simpa using hb
  subst e;obtain⟨o,e,c,d⟩:=st;exact⟨o,e,λv z=>by rw[d]at z;cases z⟩
 keep:=λi h j st k=>st.at λo e=>k it (by simp) o e
 item:=by intro X n hw q C i pins s D H E I l st r;subst n hw q;obtain⟨xs,x,m,t⟩:=r;obtain⟨f,y,p,F⟩:=I.tuple m;obtain⟨u,G,J⟩:=y.get t;obtain⟨f0,f1,f2,A,f4,B⟩:=l it (by simp);refine wpAny_pyNext_tuple_item st (show s.heap.IsTuple a f.toArray from p) (x:=u) (by simpa using G) λj g L=>?_;have M:Inv X pins D H { s with heap:=j }:=I.turned (t':=s.toks) (λb o hb e=>(L.2 b hb).trans e) f0 f1 A f4 B;obtain⟨o,e,c,d⟩:=id g;exact⟨u,rfl,zm (s:={ s with heap:=j }) e c d (by decide) ⟨x,H,M,J,⟨rfl,λQ N=>by rw[I.IF N m];exact t⟩,g,λb hb=>(l b hb).1⟩⟩
 done:=by intro X n hw q C i pins s D H E I l st r;subst n hw q;obtain⟨xs,m,t⟩:=r;obtain⟨f,y,p,F⟩:=I.tuple m;obtain⟨f0,f1,f2,A,f4,B⟩:=l it (by simp);have hl:=y.length;exact wpAny_pyNext_tuple_end (I.ok.hd C) st (show s.heap.IsTuple a f.toArray from p) (by simp;omega) λj O=>⟨rfl,I.turned (t':=s.toks) (λb o hb e=>O b o hb e) f0 f1 A f4 B⟩
 self:=λ_ _ _ _ _ st h=>wpAny_pyIter_tupleiter st h
theorem aOp{P:cB}{K:bI}(it:Addr)(lo:Int)(n:Nat):Turn P w K tg (xb lo n) [it] it (λi h=>IsRangeIter h it (lo+(i:Nat)*1) ((n:Int)-(i:Nat)) 1) where
 mem:=by simp
 obj:=λi h st b hb=>by
  have e:b=it:=by simpa using hb
  subst e;exact⟨_,st,λv z=>by have r:=z;cases r⟩
 keep:=λi h d st k=>k it (by simp) _ st
 item:=by intro X m hw p f i pins s q H E I c st g;subst m hw p;obtain⟨f0,f1,f2,j,f4,l⟩:=c it (by simp);refine(Walks.range (prog:=X.prog) (w:=X.w) (I.ok.hd f) it lo 1 n).item i s _ _ g st λv d tk u a x=>?_;obtain⟨t,rfl⟩:=u;have y:Inv X pins q H { s with heap:=d,toks:=tk }:=I.turned (λb o hb e=>x b o (by simpa) e) f0 f1 j f4 l;refine⟨_,rfl,zm a rfl rfl (rfl) ⟨.int (lo+i),H,y,⟨t,?_⟩,⟨rfl,rfl⟩,a,λb hb=>(c b hb).1⟩⟩;rw[Int.mul_one]
 done:=by intro X m hw p f i pins s q H E I c st g;obtain⟨f0,f1,f2,j,f4,l⟩:=c it (by simp);exact wpAny_pyNext_range_end (I.ok.hd f) st (by have:n<=i:=g;lia) λd A=>⟨rfl,I.turned (λb o hb e=>A b o hb e) f0 f1 j f4 l⟩
 self:=λ_ _ _ _ _ st h=>wpAny_pyIter_rangeiter st h
section
variable {X:Cx}
theorem aJj{R:It->Hp->Prop}{E:Value->aJ->Prop}{lo hi:Int}{t u v:Tok}{tk:Nat}(I:Inv X pins Z H s)(h1:-(2 ^ 62)<=lo)(h2:lo<2 ^ 62)(h3:-(2 ^ 62)<=hi)(h4:hi<2 ^ 62)
  (q:R (xb lo (hi-lo).toNat) H):aS (aY X.prog X.w) X.A (wj<|.ref s.heap.objs.size) (Ur X pins Z tg R) E { s with heap:=s.heap.push { cls:=.type "range",data:=.fields #[.int lo t,.int hi u,.int 1 v] },toks:=tk }:=by
 refine wpAny_pyIter_range (IsRange.new ..) (small_one h1 h2 h3 h4) ?_;have a:Inv X pins Z H { s with heap:=s.heap.push { cls:=.type "range",data:=.fields #[.int lo t,.int hi u,.int 1 v] },toks:=tk }:=I.kept λb o e=>cT _ e;refine⟨(s.heap.push { cls:=.type "range",data:=.fields #[.int lo t,.int hi u,.int 1 v] }).objs.size,[(s.heap.push { cls:=.type "range",data:=.fields #[.int lo t,.int hi u,.int 1 v] }).objs.size],_,_,H,rfl,
  a.kept λb o e=>cT _ e,aOp _ lo (hi-lo).toNat,?_,λb hb=>?_,q⟩
 .have c:lo+((0:Nat):Int)*1=lo:=by simp
  have d:(((hi-lo).toNat:Nat):Int)-((0:Nat):Int)=Builtin.Range.rangeSize lo hi 1:=by rw[rangeSize_one];split<;>lia
  rw[c,d];exact fS _ rfl
 .have e:b=(s.heap.push { cls:=.type "range",data:=.fields #[.int lo t,.int hi u,.int 1 v] }).objs.size:=by simpa using hb
  subst e;exact a.uB (aU _)<|a.bA.fresh<|aU _
def E4(ta:TA):TI:=λZ H R=>ta Z H λvs H1=>∃j:Int,vs=[.int j]/\-(2 ^ 62)<=j/\j<2 ^ 62/\R (xb 0 j.toNat) H1
theorem aBj{a:aL}{ta:TA}(hg:Gl X "range")(hm:X.mg "range"=aD)(ha:PA X [a] ta)(hs:eO [a] X.env=[(aH,eval a X.env)]:=by rfl):PI X tg (.Call (.Name "range" p) [a] [] pos) (E4 ta):=by
 intro pins s c H R I h;refine Call_<|zX I hg hm boot_range<|Ed (bE (ha pos pins s c H _ I h) λus s1 ⟨k,H1,d,f,b⟩=>?_) hs rfl;obtain⟨j,e,b,g,q⟩:=b;subst e;cases f with
 |cons r i=>cases i;obtain⟨t,rfl⟩:=r;exact call_range_1<|aJj d (by decide) (by lia) b g (by simpa)
def aMv(wi:TI)(g:TG)(tb:TS):TS:=λD Z H=>wi Z H λJ H1=>∃W:Nat->Nat->St->Hp->Prop,(∃m,W 0 m Z H1)/\∀i m Z H,W i m Z H ->
 (J.stop i H/\D.nx Z H)\/(J.go i H/\∃N:St->Hp->Prop,(∀Z' H',N Z' H'->∃m',m'<m/\W (i+1) m' Z' H')/\∀x H',J.vh i H x H'->g x Z H' λZ2 H2=>tb { D with nx:=N,ct:=N,bk:=D.nx } Z2 H2)
def Az(fp:Hy)(h:bH):Hv:=fp.filterMap λb=>(h.get? b).map λo=>(b,o)
theorem Ak{o:Obj}(hb:b∈fp)(e:h.get? b=aA o):(b,o)∈Az fp h:=List.mem_filterMap.mpr ⟨b,hb,by rw[e];rfl⟩
theorem DG{p:Addr×Obj}(hp:p∈Az fp h):p.1∈fp/\h.get? p.1=aA p.2:=by
 obtain⟨b,hb,e⟩:=List.mem_filterMap.mp hp;cases q:h.get? b with
 |none=>rw[q]at e;cases e|some o=>rw[q]at e;have a:=eF e;subst a;exact⟨hb,q⟩
theorem Inv.pinned(I:Inv X pins Z H s)(hf:∀b∈fp,kR X pins H b)(ho:∀b∈fp,∃o,s.heap.get? b=aA o/\∀v,o.data ≠ .cell v):Inv X (pins++Az fp s.heap) Z H s:=
 I.ie λp c=>(List.mem_append.mp c).elim (λz=>I.pin p (jP _ z)) λz=>by obtain⟨hb,e⟩:=DG z;obtain⟨f0,f1,f2,_⟩:=hf p.1 hb;obtain⟨o,a,d⟩:=ho p.1 hb;rw[e]at a;cases a;exact⟨e,f0,f1,f2,d⟩
theorem Inv.Co{pl:Hv}(I:Inv X (pins++pl) Z H s):Inv X pins Z H s:=I.ie λp a=>I.pin p (jP _<|Dv _ a)
theorem aCn{cU:aL}{wi:TI}{g:TG}{tb:TS}(hp:vx (aY X.prog X.w) X.A X.env X.xe)(hc:X.calm=aB)(hi:PI X tg cU wi)(hg:PG X tg g)(hb:rR X body tb)
  (hs:∀x,Er cU X.env x=pure x:=by intro _;rfl):PS X (.For tg cU body [] pos) (aMv wi g tb):=by
 intro pins s L H D I h;refine wpAny_For (bE (hi pins s L H _ I h) λv s1 h1=>bE h1 λV s2 Y=>?_) hs;obtain⟨it,w,M,J,Z,e,I2,T,C,f2,W,⟨m0,w0⟩,turn⟩:=Y;subst e;have gH:∀{p:Hp},(∀b∈w,p b=aD)->∀b∈w,kR X pins p b:=λhn b hb=>⟨hn b hb,(f2 b hb).2⟩;refine codeAny_forLoop_any (λn P=>∃i c p,Inv X pins c p P/\M i P.heap/\(∀b∈w,p b=aD)/\W i n c p) ?_ m0 ⟨0,L,Z,I2,C,λb hb=>(f2 b hb).1,w0⟩;rintro n Q ⟨i,j,B,R,y,z,w3⟩
 rcases turn i n j B w3 with⟨stop,qn⟩|⟨go,N,hN,step⟩
 .refine du hp<|bE (T.done X rfl rfl rfl hc i pins Q j B X.xe R (gH z) y stop) λr s4 ⟨hr,I4⟩=>?_;subst hr;exact Ub ⟨j,B,I4,qn⟩
 .refine du hp<|bE (T.item X rfl rfl rfl hc i pins Q j B X.xe R (gH z) y go) λr s4 ⟨u,hr,h4⟩=>?_;subst hr;refine du hp<|bE h4 λ_ S ⟨x,U,I5,r5,y5,t,F⟩=>?_;refine du hp<|bE (hg _ S j U x u _ (I5.pinned (gH F)<|T.obj _ _ t) r5<|step x U y5) λ_ s6 ⟨G,H6,I6,q6⟩=>?_;refine du hp<|bE (hb _ s6 G H6 _ I6 q6) λf K q=>?_;have again:∀{a:St}{k:Hp},Inv X (pins++Az w S.heap) a k K->N a k->∃m,m<n/\∃i c p,Inv X pins c p K/\M i K.heap/\(∀b∈w,p b=aD)/\W i m c p:=λ{a k} l A=>by obtain⟨m',hm,w7⟩:=hN a k A;refine⟨m',hm,i+1,a,k,l.Co,T.keep _ _ _ t λb hb o e=>(l.pin (b,o)<|jP _<|jP _<|Ak hb e).1,λb hb=>?_,w7⟩;obtain⟨o,e,d⟩:=T.obj _ _ t b hb;exact(l.pin (b,o)<|jP _<|jP _<|Ak hb e).2.1
  cases f with
  |next=>obtain⟨a,k,l,A⟩:=q;exact again l A|cont=>obtain⟨a,k,l,A⟩:=q;exact again l A|brk=>obtain⟨a,k,l,q⟩:=q;exact⟨a,k,l.Co,q⟩|ret v=>obtain⟨x7,a,k,l,r7,q⟩:=q;exact⟨x7,a,k,l.Co,r7,q⟩
end
abbrev R2:=V->V->Hp->VK->Prop
variable {r r':R2}
def cW(X:Cx)(f:Value->Value->Sem Value)(r:R2):Prop:=
 ∀(pins:Hv) (s:aJ) (Z:St) (H:Hp) (x y:V) (v u:Value) (Q:VK),Inv X pins Z H s->RelV x v->RelV y u->r x y H Q ->
  aS (aY X.prog X.w) X.A (f v u) (EP X pins Z Q) X.xe s
def xm(X:Cx)(f:Value->Sem Value)(r:V->Hp->VK->Prop):Prop:=
 ∀(pins:Hv) (s:aJ) (Z:St) (H:Hp) (x:V) (v:Value) (Q:VK),Inv X pins Z H s->RelV x v->r x H Q ->
  aS (aY X.prog X.w) X.A (f v) (EP X pins Z Q) X.xe s
def iO(X:Cx)(f:Value)(r:Hw->Hp->VK->Prop):Prop:=
 ∀(pins:Hv) (s:aJ) (Z:St) (H:Hp) (xs:Hw) (us:Hu) (Q:VK),Inv X pins Z H s->Vals xs us->r xs H Q ->
  aS (aY X.prog X.w) X.A (call f us) (EP X pins Z Q) X.xe s
def OO(X:Cx)(r:V->Hp->(Bool->Hp->Prop)->Prop):Prop:=
 ∀(pins:Hv) (s:aJ) (Z:St) (H:Hp) (x:V) (v:Value) (Q:Bool->Hp->Prop),Inv X pins Z H s->RelV x v->r x H Q ->
  aS (aY X.prog X.w) X.A (truthy v) (TP X pins Z Q) X.xe s
def Ch(r:R2)(ta tb:TE):TE:=λZ H Q=>ta Z H λx H1=>tb Z H1 λy H2=>r x y H2 Q
def tUn(r:V->Hp->VK->Prop)(ta:TE):TE:=λZ H Q=>ta Z H λx H1=>r x H1 Q
def rI(C:Int->Int->Prop)(g:Int->Int->V):R2:=λx y H Q=>∃i j,x = .int i/\y = .int j/\C i j/\Q (g i j) H
def oG(g:Int->Int->V):R2:=λx y H Q=>∃i j,x = .int i/\y = .int j/\Q (g i j) H
def rU(g:Int->V):V->Hp->VK->Prop:=λx H Q=>∃i,x = .int i/\Q (g i) H
section
variable {X:Cx}{a b:aL}{tc:TE}
theorem Ga(ha:PE X a ta)(hb:PE X b tb){R:V->V->Hp->Prop}(I:Inv X pins Z H s)
  (h:ta Z H λx H1=>tb Z H1 λy H2=>R x y H2){f:Value->Value->Sem Value}
  (hf:∀v u s2 x y H2,Inv X pins Z H2 s2->RelV x v->RelV y u->R x y H2->aS (aY X.prog X.w) X.A (f v u) Q X.xe s2) :
  aS (aY X.prog X.w) X.A (eval a X.env) (λv s₁=>aS (aY X.prog X.w) X.A (eval b X.env) (λu s₂=>aS (aY X.prog X.w) X.A (f v u) Q X.xe s₂) X.xe s₁) X.xe s:=by
 refine bE (ha pins s Z H _ I h) λv s1 ⟨x,H1,c,d,e⟩=>?_;exact bE (hb pins s1 Z H1 _ c e) λu s2 ⟨y,H2,g,i,j⟩=>hf v u s2 x y H2 g d i j
theorem aAv{op:rN}(ho:cW X (eV op) r)(ha:PE X a ta)(hb:PE X b tb):PE X (.BinOp a op b pos) (Ch r ta tb):=by intro pins s c H Q I h;exact wpAny_BinOp<|Ga ha hb I h λv u s2 x y d e f g q=>ho pins s2 c d x y v u Q e f g q
theorem aBa{op:UnaryOp}{r:V->Hp->VK->Prop}(ho:xm X (Ew op) r)(ha:PE X a ta):PE X (.UnaryOp op a pos) (tUn r ta):=by intro pins s b H Q I h;exact UnaryOp_<|bE (ha pins s b H _ I h) λv s1 ⟨x,H1,c,d,e⟩=>ho pins s1 b H1 x v Q c d e
theorem ib{f:Value->Value->Sem Value}{C:Int->Int->Prop}{g:Int->Int->Int}
  (rule:∀(i j:Int) (t u:Tok) (s:aJ) (Q:Value->aJ->Prop) (E:Value->aJ->Prop),C i j->Q (.int (g i j) s.toks) { s with toks:=s.toks+1 }->aS (aY X.prog X.w) X.A (f (.int i t)<|.int j u) Q E s) :
  cW X f (rI C λi j=>.int (g i j)):=by
 intro pins s e H x y v u Q I a b h;obtain⟨i,j,rfl,rfl,c,q⟩:=h;obtain⟨t,rfl⟩:=a;obtain⟨d,rfl⟩:=b;exact rule i j t d s _ _ c ⟨.int (g i j),H,I.tok _,⟨_,rfl⟩,q⟩
theorem tf{f:Value->Value->Sem Value}{g:Int->Int->Int}
  (rule:∀(i j:Int) (t u:Tok) (s:aJ) (Q:Value->aJ->Prop) (E:Value->aJ->Prop),Q (.int (g i j) s.toks) { s with toks:=s.toks+1 }->aS (aY X.prog X.w) X.A (f (.int i t)<|.int j u) Q E s) :
  cW X f (oG λi j=>.int (g i j)):=by
 intro pins s d H x y v u Q I a b h;obtain⟨i,j,rfl,rfl,q⟩:=h;obtain⟨t,rfl⟩:=a;obtain⟨c,rfl⟩:=b;exact rule i j t c s _ _ ⟨.int (g i j),H,I.tok _,⟨_,rfl⟩,q⟩
theorem As{f:Value->Value->Sem Value}{g:Int->Int->Bool}
  (rule:∀(i j:Int) (t u:Tok) (s:aJ) (Q:Value->aJ->Prop) (E:Value->aJ->Prop),Q (.bool<|g i j) s->aS (aY X.prog X.w) X.A (f (.int i t)<|.int j u) Q E s) :
  cW X f (oG λi j=>.bl (g i j)):=by
 intro pins s d H x y v u Q I a b h;obtain⟨i,j,rfl,rfl,q⟩:=h;obtain⟨t,rfl⟩:=a;obtain⟨c,rfl⟩:=b;exact rule i j t c s _ _ ⟨.bl (g i j),H,I,rfl,q⟩
def Fb(i j:Int):Prop:=0<=j/\j<=1000000/\i.natAbs<2 ^ 64
theorem aOw(k:Nat):(0:Int)<=2 ^ k:=by exact Int.natCast_nonneg _
theorem U3:cW X (eV .Add) (oG λi j=>.int (i+j)):=tf λ_ _ _ _ _ _ _ q=>add_int q
theorem X3:cW X (eV .Sub) (oG λi j=>.int (i-j)):=tf λ_ _ _ _ _ _ _ q=>sub_int q
theorem W0:cW X (eV .Mod) (rI (λ_ j=>0<j) λi j=>.int (i%j)):=ib λi j _ _ _ _ _ hc q=>by have h1:(0:Int)<j:=hc;exact mod_int' (by omega) (by rw[KN i (by omega)];exact q)
theorem W9:cW X (eV .Pow) (rI Fb λi j=>.int (i ^ j.toNat)):=ib λ_ _ _ _ _ _ _ hc q=>pow_int_small hc.1 hc.2.1 hc.2.2 q
theorem X1:cW X (eV .LShift) (rI Fb λi j=>.int (i*2 ^ j.toNat)):=ib λ_ _ _ _ _ _ _ hc q=>lshift_int_small hc.1 hc.2.1 hc.2.2 q
theorem X2:cW X (eV .RShift) (rI (λ_ j=>0<=j) λi j=>.int (i / 2 ^ j.toNat)):=ib λi j _ _ _ _ _ hc q=>rshift_int hc (by rw[Qg i (aOw _)];exact q)
theorem U5:cW X (eV .BitAnd) (oG λi j=>.int (tD i j)):=tf λ_ _ _ _ _ _ _ q=>and_int q
theorem W8:cW X (eV .BitOr) (oG λi j=>.int (jx i j)):=tf λ_ _ _ _ _ _ _ q=>or_int q
theorem X4:cW X (eV .BitXor) (oG λi j=>.int (jy i j)):=tf λ_ _ _ _ _ _ _ q=>xor_int q
theorem unI{f:Value->Sem Value}{g:Int->Int}
  (rule:∀(i:Int) (t:Tok) (s:aJ) (Q:Value->aJ->Prop) (E:Value->aJ->Prop),Q (.int (g i) s.toks) { s with toks:=s.toks+1 }->aS (aY X.prog X.w) X.A (f<|.int i t) Q E s) :
  xm X f (rU λi=>.int (g i)):=by
 intro pins s b H x v Q I a h;obtain⟨i,rfl,q⟩:=h;obtain⟨t,rfl⟩:=a;exact rule i t s _ _ ⟨.int (g i),H,I.tok _,⟨_,rfl⟩,q⟩
theorem aOx:xm X (Ew .USub) (rU λi=>.int (-i)):=unI λ_ _ _ _ _ q=>neg_int q
end
def Nt:V->V->Bool
 |.aE,.aE=>aB | .aE,.int _=>aB | .int _,.aE=>aB | .aE,.bl _=>aB | .bl _,.aE=>aB | .aE,.str _=>aB | .str _,.aE=>aB
 |.int _,.int _=>aB | .bl _,.bl _=>aB | .str _,.str _=>aB | .mY _,.mY _=>aB
 |.int _,.str _=>aB | .str _,.int _=>aB | .bl _,.str _=>aB | .str _,.bl _=>aB
 |_,_=>aH
def GB:R2:=λx y H Q=>Nt x y=aB/\Q (.bl<|decide<|x=y) H
def GI:R2:=λx y H Q=>Nt x y=aB/\Q (.bl<|!decide (x=y)) H
theorem Xk{i j:Int}:decide (V.int i=V.int j)=(i==j):=by rw[jv];simp
theorem Xi{i j:Bool}:decide (V.bl i=V.bl j)=(i==j):=by rw[jv];simp
theorem Xl{i j:Str}:decide (V.str i=V.str j)=(i==j):=by rw[jv];simp
theorem Xj{i j:Array UInt8}:decide (V.mY i=V.mY j)=(i.toList==j.toList):=by rw[jv];cases i;cases j;simp
section
variable {X:Cx}{a b:aL}{tc:TE}
theorem eQ{Q:VK}{k k':Bool}(I:Inv X pins Z H s)(q:Q (.bl k) H)(e:k=k'):EP X pins Z Q (.bool k') s:=by subst e;exact⟨.bl k,H,I,rfl,q⟩
theorem U9:cW X (dM .Eq) GB:=by
 intro pins s Z H x y v u Q I rx ry h;obtain⟨hs,q⟩:=h;cases x with
 |aE=>
  cases rx;cases y with
  |aE=>cases ry;exact aTy<|eQ I q (by simp)|bl j=>cases ry;exact aTw<|eQ I q (by simp)|int j=>obtain⟨t',rfl⟩:=ry;exact aTx<|eQ I q (by simp)|str j=>obtain⟨t',rfl⟩:=ry;exact aTz<|eQ I q (by simp)|_=>exact absurd (show aH=aB from hs) fX
 |bl i=>
  cases rx;cases y with
  |aE=>cases ry;exact aTu<|eQ I q (by simp)|bl j=>cases ry;exact eq_bool<|eQ I q Xi|str j=>obtain⟨t',rfl⟩:=ry;exact aTm<|eQ I q (by simp)|_=>exact absurd (show aH=aB from hs) fX
 |int i=>
  obtain⟨t,rfl⟩:=rx;cases y with
  |aE=>cases ry;exact aTv<|eQ I q (by simp)|int j=>obtain⟨t',rfl⟩:=ry;exact eq_int<|eQ I q Xk|str j=>obtain⟨t',rfl⟩:=ry;exact aTn<|eQ I q (by simp)|_=>exact absurd (show aH=aB from hs) fX
 |str i=>
  obtain⟨t,rfl⟩:=rx;cases y with
  |aE=>cases ry;exact aUa<|eQ I q (by simp)|bl j=>cases ry;exact aTo<|eQ I q (by simp)|int j=>obtain⟨t',rfl⟩:=ry;exact aTp<|eQ I q (by simp)|str j=>obtain⟨t',rfl⟩:=ry;exact eq_str<|eQ I q Xl|_=>exact absurd (show aH=aB from hs) fX
 |mY i=>
  obtain⟨t,rfl⟩:=rx;cases y with
  |mY j=>obtain⟨t',rfl⟩:=ry;exact W.eq_bytes<|eQ I q Xj|_=>exact absurd (show aH=aB from hs) fX
 |_=>cases y<;>exact absurd (show aH=aB from hs) fX
theorem W3:cW X (dM .NotEq) GI:=by
 intro pins s Z H x y v u Q I rx ry h;obtain⟨hs,q⟩:=h;cases x with
 |aE=>
  cases rx;cases y with
  |aE=>cases ry;exact aUf<|eQ I q (by simp)|bl j=>cases ry;exact aUd<|eQ I q (by simp)|int j=>obtain⟨t',rfl⟩:=ry;exact aUe<|eQ I q (by simp)|str j=>obtain⟨t',rfl⟩:=ry;exact aUg<|eQ I q (by simp)|_=>exact absurd (show aH=aB from hs) fX
 |bl i=>
  cases rx;cases y with
  |aE=>cases ry;exact aUb<|eQ I q (by simp)|bl j=>cases ry;exact ne_bool<|eQ I q<|congrArg not Xi|str j=>obtain⟨t',rfl⟩:=ry;exact aTq<|eQ I q (by simp)|_=>exact absurd (show aH=aB from hs) fX
 |int i=>
  obtain⟨t,rfl⟩:=rx;cases y with
  |aE=>cases ry;exact aUc<|eQ I q (by simp)|int j=>obtain⟨t',rfl⟩:=ry;exact ne_int<|eQ I q<|congrArg not Xk|str j=>obtain⟨t',rfl⟩:=ry;exact aTr<|eQ I q (by simp)|_=>exact absurd (show aH=aB from hs) fX
 |str i=>
  obtain⟨t,rfl⟩:=rx;cases y with
  |aE=>cases ry;exact aUh<|eQ I q (by simp)|bl j=>cases ry;exact aTs<|eQ I q (by simp)|int j=>obtain⟨t',rfl⟩:=ry;exact aTt<|eQ I q (by simp)|str j=>obtain⟨t',rfl⟩:=ry;exact ne_str<|eQ I q<|congrArg not Xl|_=>exact absurd (show aH=aB from hs) fX
 |mY i=>
  obtain⟨t,rfl⟩:=rx;cases y with
  |mY j=>obtain⟨t',rfl⟩:=ry;exact W.ne_bytes<|eQ I q<|congrArg not Xj|_=>exact absurd (show aH=aB from hs) fX
 |_=>cases y<;>exact absurd (show aH=aB from hs) fX
theorem V9:cW X (dM .Lt) (oG λi j=>.bl (decide<|i<j)):=As λ_ _ _ _ _ _ _ q=>lt_int q
theorem V8:cW X (dM .LtE) (oG λi j=>.bl (decide<|i<=j)):=As λ_ _ _ _ _ _ _ q=>le_int q
theorem V4:cW X (dM .Gt) (oG λi j=>.bl (decide<|j<i)):=As λ_ _ _ _ _ _ _ q=>gt_int q
theorem V3:cW X (dM .GtE) (oG λi j=>.bl (decide<|j<=i)):=As λ_ _ _ _ _ _ _ q=>ge_int q
theorem V7:cW X (dM .Is) (λx y H Q=>y = .aE/\Q (.bl<|decide<|x = .aE) H):=by
 intro pins s c H x y v u Q I a b h;obtain⟨rfl,q⟩:=h;cases b;refine is_none_gen<|eQ I q ?_;cases x<;>first
  | (cases a;rfl)
  | (obtain⟨t,rfl⟩:=a;rfl)
theorem W7:cW X (dM .IsNot) (λx y H Q=>y = .aE/\Q (.bl<|!decide (x = .aE)) H):=by
 intro pins s c H x y v u Q I a b h;obtain⟨rfl,q⟩:=h;cases b;refine isnot_none_gen<|eQ I q ?_;cases x<;>first
  | (cases a;rfl)
  | (obtain⟨t,rfl⟩:=a;rfl)
theorem cW.or{f:Value->Value->Sem Value}(h:cW X f r)(h':cW X f r'):cW X f (λx y H Q=>r x y H Q\/r' x y H Q):=by
 intro pins s a H x y v u Q I b c q;rcases q with q|q
 .exact h pins s a H x y v u Q I b c q
 .exact h' pins s a H x y v u Q I b c q
theorem aAh{op:pM}(ho:cW X (dM op) r)(ha:PE X a ta)(hb:PE X b tb)(hm:wc op b=aH):PE X (.Compare a [op] [b] pos) (Ch r ta tb):=by intro pins s c H Q I h;exact wpAny_Compare1 (Ga ha hb I h λv u s2 x y d e f g q=>ho pins s2 c d x y v u Q e f g q) hm
def HY(t:TE):TT:=λZ H Q=>t Z H λx H'=>∃k,x = .bl k/\Q k H'
theorem aDa{op:pM}(ho:cW X (dM op) r)(ha:PE X a ta)(hb:PE X b tb)(hm:wc op b=aH):PT X (.Compare a [op] [b] pos) (HY<|Ch r ta tb):=by
 intro pins s d H Q I h;refine wpAny_isTrue_Compare1 (bE (ha pins s d H _ I h) λv s1 ⟨x,H1,f,g,i⟩=>bE (hb pins s1 d H1 _ f i) λu s2 ⟨y,j,l,m,n⟩=>bE (ho pins s2 d j x y v u _ l g m n) λc w ⟨z,o,p,q,k,e,t⟩=>?_) hm
 subst e;cases q;exact dw ⟨o,p,t⟩
def Og(r r':R2)(ta tb tc:TE):TE:=λZ H Q=>ta Z H λx H1=>tb Z H1 λy H2=>r x y H2 λz H3=>∃k,z = .bl k /\
 (if k=aB then tc Z H3 λw' H4=>r' y w' H4 Q else Q (.bl aH) H3)
theorem aAg{op:pM}(ho:cW X (dM op) r)(ho':cW X (dM op') r')(ha:PE X a ta)(hb:PE X b tb)(hc:PE X c tc)
  (hm:Et [op,op'] [b,c]=aH:=by with_unfolding_all rfl):PE X (.Compare a [op,op'] [b,c] pos) (Og r r' ta tb tc):=by
 intro pins s f H Q I h;refine Compare_chain (bE (ha pins s f H _ I h) λv s1 ⟨x,H1,m,n,o⟩=>chain_link (bE (hb pins s1 f H1 _ m o) λu s2 ⟨y,p,q,g,t⟩=>bE (ho pins s2 f p x y v u _ q n g t) λd w ⟨z,i,j,A,k,e,l⟩=>?_)) hm
 subst e;cases A;refine dw ?_;cases k with
 |false=>exact ite_ff ⟨.bl aH,i,j,rfl,l⟩|true=>exact ite_tt<|chain_last<|bE (hc pins w f i _ j l) λB C ⟨D,E,F,G,J⟩=>ho' pins C f E y D u B Q F g G J
theorem aCz{op:pM}(ho:cW X (dM op) r)(ho':cW X (dM op') r')(ha:PE X a ta)(hb:PE X b tb)(hc:PE X c tc)
  (hm:Et [op,op'] [b,c]=aH:=by with_unfolding_all rfl):PT X (.Compare a [op,op'] [b,c] pos) (HY<|Og r r' ta tb tc):=by
 intro pins s f H Q I h;refine isTrue_chain (bE (ha pins s f H _ I h) λv s1 ⟨x,H1,m,n,o⟩=>test_link (bE (hb pins s1 f H1 _ m o) λu s2 ⟨y,p,q,g,t⟩=>bE (ho pins s2 f p x y v u _ q n g t) λd w ⟨z,i,j,A,k,e,l⟩=>?_)) hm
 subst e;cases A;refine dw ?_;cases k with
 |false=>obtain⟨S,B,C⟩:=l;cases B;exact ite_ff ⟨i,j,C⟩
 |true=>refine ite_tt<|test_last<|bE (hc pins w f i _ j l) λD E ⟨F,G,J,K,L⟩=>bE (ho' pins E f G y F u D _ J g K L) λT U ⟨V,M,N,O,k2,P,R⟩=>?_;subst P;cases O;exact dw ⟨M,N,R⟩
def yJ(K:bI)(x:V)(H:Hp)(k:Bool):Prop:=
 match x with
 |.aE=>k=aH
 |.bl b=>k=b
 |.int i=>k=(i != 0)
 |.str y=>y.length<=sizeLine/\k=((y.length:Int) != 0)
 |.mY y=>y.size<=sizeLine/\k=((y.size:Int) != 0)
 |.ref p=>(∃xs,dN K H p xs/\k = !xs.isEmpty)\/(∃xs,eH K H p xs/\k = !xs.isEmpty)\/∃kvs,H p=aA (.dK kvs)/\k = !kvs.isEmpty
 |_=>False
theorem G6{κ:Type}{kvs:List (κ×V)}{vs:List (κ×Value)}(r:KV kvs vs):(!vs.isEmpty) = !kvs.isEmpty:=by cases r<;>rfl
theorem AU{its:Hu}(r:Vals xs its):(!its.toArray.isEmpty) = !xs.isEmpty:=by cases r<;>simp
theorem zZ:(sizeLine:Nat)<2 ^ 63:=by decide
theorem Cm:OO X (λx H Q=>∃k,yJ X.K x H k/\Q k H):=by
 intro pins s Z H x v Q I rx h;obtain⟨k,e,q⟩:=h;have hl:=zZ;have hs:sizeLine=16777216:=nR;cases x with
 |aE=>cases rx;have e':k=aH:=e;subst e';exact truthy_none ⟨H,I,q⟩
 |bl b=>cases rx;have e':k=b:=e;subst e';exact dw ⟨H,I,q⟩
 |int i=>obtain⟨t,rfl⟩:=rx;have e':k=(i != 0):=e;subst e';exact PySem.P.truthy_int ⟨H,I,q⟩
 |str y=>obtain⟨t,rfl⟩:=rx;obtain⟨hy,e'⟩:y.length<=sizeLine/\k=((y.length:Int) != 0):=e;subst e';exact PySem.P.truthy_str (by omega) ⟨H,I.tok _,q⟩
 |mY y=>obtain⟨t,rfl⟩:=rx;obtain⟨hy,e'⟩:y.size<=sizeLine/\k=((y.size:Int) != 0):=e;subst e';exact W.truthy_bytes (by omega) ⟨H,I.tok _,q⟩
 |ref p=>
  cases rx;have e':(∃xs,dN X.K H p xs/\k = !xs.isEmpty)\/(∃xs,eH X.K H p xs/\k = !xs.isEmpty)\/∃kvs,H p=aA (.dK kvs)/\k = !kvs.isEmpty:=e;rcases e' with⟨xs,hx,e'⟩|⟨xs,hx,e'⟩|⟨kvs,hx,e'⟩
  .subst e';obtain⟨its,r,pl,hz⟩:=I.list hx;have hlen:=r.length;exact wpAny_truthy_list pl.isList (by simp only[hW];omega) ⟨H,I.tok _,by rw[AU r];exact q⟩
  .subst e';obtain⟨its,r,pl,hz⟩:=I.tuple hx;have hlen:=r.length;exact truthy_tuple pl (by simp only[hW];omega) ⟨H,I.tok _,by rw[AU r];exact q⟩
  .subst e';obtain⟨hz,hS,vs,r,m⟩:kvs.length<=sizeLine/\(p==tP)=aH/\∃vs,KV kvs vs/\s.heap.DictOf (gP X.prog X.w) p vs:=I.bA p _ hx;have hlen:kvs.length=vs.length:=Ea r;exact wpAny_truthy_dict hS m (by omega) ⟨H,I.tok _,by rw[G6 r];exact q⟩
 |_=>exact(show False from e).elim
theorem aDc(ha:PE X a ta)(he:∀whole,isTrue a X.env whole=(do let v <- whole;Eu a.pos;lu [v] (truthy v))) :
  PT X a (λZ H Q=>ta Z H λx H'=>∃k,yJ X.K x H' k/\Q k H'):=by
 intro pins s Z H Q I h;exact isTrue_plain (bE (ha pins s Z H _ I h) λv s1 ⟨x,H1,b,c,d⟩=>Cm pins s1 Z H1 x v Q b c d)<|he _
theorem U4:cW X (eV .Add) (λx y H Q=>∃i j,x = .str i/\y = .str j/\i.length+j.length<=sizeLine/\Q (.str<|i++j) H):=by intro pins s Z H x y v u Q I rx ry h;obtain⟨i,j,rfl,rfl,hz,q⟩:=h;obtain⟨t,rfl⟩:=rx;obtain⟨t',rfl⟩:=ry;exact add_str (λt' tk=>⟨.str (i++j),H,I.tok _,⟨_,rfl⟩,q⟩) hz
theorem jk{x:V}(r:Vals [x] us):∃u,us=[u]/\RelV x u:=by
 cases r with
 |cons a b=>cases b;exact⟨_,rfl,a⟩
theorem xJ{x:V}(r:Vals [x,y] us):∃u w',us=[u,w']/\RelV x u/\RelV y w':=by
 cases r with
 |cons a b=>
  cases b with
  |cons c d=>cases d;exact⟨_,_,rfl,a,c⟩
theorem WA(hc:X.calm=aB):iO X (.builtin "max") (λxs H Q=>∃i j,xs=[.int i,.int j]/\Q (.int<|if j > i then j else i) H):=by
 intro pins s b H xs us Q I r h;obtain⟨i,j,rfl,q⟩:=h;obtain⟨u,c,rfl,⟨t,rfl⟩,⟨d,rfl⟩⟩:=xJ r;refine max_two_ints (I.ok.hd hc) λe tk k=>⟨_,H,I.kept k,?_,q⟩;by_cases a:j > i
 .rw[if_pos a,if_pos a];exact⟨_,rfl⟩
 .rw[if_neg a,if_neg a];exact⟨_,rfl⟩
theorem WD(hc:X.calm=aB):iO X (.builtin "min") (λxs H Q=>∃i j,xs=[.int i,.int j]/\Q (.int<|if j<i then j else i) H):=by
 intro pins s b H xs us Q I r h;obtain⟨i,j,rfl,q⟩:=h;obtain⟨u,c,rfl,⟨t,rfl⟩,⟨d,rfl⟩⟩:=xJ r;refine min_two_ints (I.ok.hd hc) λe tk k=>⟨_,H,I.kept k,?_,q⟩;by_cases a:j<i
 .rw[if_pos a,if_pos a];exact⟨_,rfl⟩
 .rw[if_neg a,if_neg a];exact⟨_,rfl⟩
theorem VU:iO X (.type "int") (λxs H Q=>(∃i,xs=[.int i]/\Q (.int i) H)\/∃k,xs=[.bl k]/\Q (.int<|if k then 1 else 0) H):=by
 intro pins s b H xs us Q I r h;rcases h with⟨i,rfl,q⟩|⟨k,rfl,q⟩
 .obtain⟨u,rfl,t,rfl⟩:=jk r;exact call_int_int ⟨.int i,H,I,⟨_,rfl⟩,q⟩
 .obtain⟨u,rfl,a⟩:=jk r;cases a;exact call_int_bool ⟨.int (if k then 1 else 0),H,I.tok _,⟨_,rfl⟩,q⟩
end
structure yG(h:bH)(x dx C:Addr)(mA:Str->Hz):Prop where
 obj:h.get? x=aA (xV C dx)
 ns:h.Ns1 dx mA
 ne:dx≠x
theorem M9(n:h.Ns1 dx mA):∃od,h.get? dx=aA od/\∀name,Ej name od=aA (mA name):=by
 obtain⟨o,c,j,d,hd,f,_,hm⟩:=n;refine⟨o,d,λname=>?_⟩;have e:=hm name;unfold nsFind findBy at e;rw[<- Array.find?_toList]at e;unfold Ej;rw[hd];dsimp only;split
 .rename_i y q;rw[q]at e;exact congrArg aA e
 .rename_i q;rw[q]at e;have a:c.toList.any (·.refKey)=aH:=by rw[KY];intro y g;obtain⟨z,t,b⟩:=f y (Array.mem_toList_iff.mp g);simp[DictEntry.refKey,b]
  have i:=a▸fX;rw[if_neg i];exact congrArg aA e
theorem yG.look{x:Addr}(I:yG h x dx C mA):∃od,W.InstAt h x (xV C dx) C (aA od)/\∀name,Ej name od=aA (mA name):=
 let ⟨od,a,hl⟩:=M9 I.ns
 ⟨od,⟨I.obj,rfl,rfl,a⟩,hl⟩
section
variable {E:Value->aJ->Prop}{K:bI}{x f:Addr}{name:Str}{v:Value}
theorem B2{expr:Bool}(X:K.In s.heap)(I:yG s.heap x dx C mA)(hg:vz K C name=aB)(hh:Ei K C=aB)
  (ha:nO K (.ref C) name=aA aD)(hv:mA name=aA v)(hv':Eh v=aB)(h:Q v { s with toks:=s.toks+1 }) :
  aS (aY prog w) A (getAttr (.ref x) name expr) Q E s:=by
 obtain⟨od,J,hl⟩:=I.look;exact W.get_value X J (Ss hg).1 (W.findObj_own hh ha rfl (by rw[hl,hv])) hv' h
theorem B3{pl:Sem Bool}{Q:Value×Hu->aJ->Prop}(X:K.In s.heap)(I:yG s.heap x dx C mA)(hg:vz K C name=aB)
  (hf:nO K (.ref C) name=aA (aA<|.ref f)) (ht:vy K (.ref f)=aB) (hv:mA name=aD) (h:Q (.ref f,[.ref x]) s) :
  aS (aY prog w) A (Ti (.ref x) name pl) Q E s:=by
 obtain⟨od,J,hl⟩:=I.look;exact W.method_fn X J (Ss hg).1 (Ss hg).2 hf (beq_iff_eq.mp ht) (by show(Ej name od).map (·.isSome)=aA aH;rw[hl,hv];rfl) h
theorem aKh{ns:YX}{Q:Unit->aJ->Prop}(X:K.In s.heap)(I:yG s.heap x dx C mA)
  (hs:nO K (.ref C) "__setattr__"=aA (aA<|.builtin "object.__setattr__")) (hp:Su K C=aB) (ht:Sw K C name=aA aD) (hh:Ei K C=aB)
  (hw:Sy mA ns) (hsz:ns.length<=sizeLine)
  (h:∀h',yG h' x dx C (λy=>if y=name then aA v else mA y)->xQ dx s.heap h'->Q () { s with heap:=h',toks:=s.toks+2 }) :
  aS (aY prog w) A (setAttr (.ref x) name v) Q E s:=by
 obtain⟨od,J,hl⟩:=I.look;refine W.set_plain X J hs<|W.osa_open X J hp ht λb=>?_;obtain⟨m,i,d⟩:=W.any_some hh;have j:=I.obj;refine aP<|bZ<|aP<|aP<|wpAny_loadPart j<|aP<|W.Looks.here (W.looks_clsIn X i) ?_;rw[d];refine bZ<|aP<|bZ<|aP ?_;refine wpAny_nsSet1 I.ns λh' a c=>?_;obtain⟨n,k,l,e,f,g⟩:=a.count (PySem.Within.cons name v hw);exact aP<|wpAny_lookBehind e (by rw[f];exact pastItsLine_dict<|cD g (by rw[lA];omega))<|bZ<|h _ ⟨(c.2 _<|lE I.ne).trans I.obj,a,I.ne⟩ c
theorem N6{R:Result->aJ->Prop}{vs:Hu}(X:K.In s.heap)(hm:Sr K C=aB)
  (hi:nO K (.ref C) "__init__"=aA (aA<|.ref f))(hf:W.typeIn K (.ref f)=aA (.type "function"))
  (h:tM (aY prog w) (A.under<|.builtin "type.__call__" ⟨.ref C::vs,kw⟩) (.call (.ref f) ⟨.ref (s.heap.objs.size+1)::vs,kw⟩) (W.InitBack (s.heap.objs.size+1) R)
   { s with heap:=(s.heap.push xU).push (xV C s.heap.objs.size) }) :
  tM (aY prog w) A (.call (.ref C) ⟨vs,kw⟩) R s:=by
 exact W.make_core (W.makes_of X hm) (W.looks_findIn X hi) (λself=>W.bind_fn X self hf) (.inl rfl) h
end
def jU(f:Str)(v:V):Yk->Yk
 |[]=>[(f,v)]
 | (g,x)::r=>if g=f then(g,v)::r else(g,x)::jU f v r
theorem CG(f g:Str)(v:V):∀fs:Yk,(jU f v fs).lookup g=if g=f then aA v else fs.lookup g
 |[]=>by
  show tG g [(f,v)]=_;by_cases h:g=f
  .have hb:=beq_iff_eq.mpr h;simp only[tG,hb,if_pos h]
  .have hb:=beq_eq_false_iff_ne.mpr h;simp only[tG,hb,if_neg h]
 | (k,x)::r=>by
  rw[show jU f v ((k,x)::r)=(if k=f then(k,v)::r else(k,x)::jU f v r) from rfl];by_cases a:k=f
  .rw[if_pos a];by_cases h:g=k
   .have hb:=beq_iff_eq.mpr h;simp only[tG,hb,if_pos (h.trans a)]
   .have hb:=beq_eq_false_iff_ne.mpr h;simp only[tG,hb,if_neg (λe:g=f=>h (e.trans a.symm))]
  .rw[if_neg a];by_cases h:g=k
   .have hb:=beq_iff_eq.mpr h;simp only[tG,hb,if_neg (λe:g=f=>a (h.symm.trans e))]
   .have hb:=beq_eq_false_iff_ne.mpr h;simp only[tG,hb];exact(CG f g v r)
theorem Jt(f:Str)(v:V):∀fs:Yk,f∈(jU f v fs).map (·.1)/\∀g,g∈fs.map (·.1)->g∈(jU f v fs).map (·.1)
 |[]=>⟨by simp[jU],λg h=>by simp at h⟩
 | (k,x)::r=>by
  obtain⟨b,c⟩:=Jt f v r;rw[show jU f v ((k,x)::r)=(if k=f then(k,v)::r else(k,x)::jU f v r) from rfl];by_cases a:k=f
  .rw[if_pos a];subst a;exact⟨(.head _),λg h=>by simpa using h⟩
  .rw[if_neg a];refine⟨?_,λg h=>?_⟩
   .rw[kM];exact lT _ b
   .rw[kM]at h ⊢;rcases List.mem_cons.mp h with e|e
    .exact List.mem_cons.mpr<|.inl e
    .exact lT _<|c g e
theorem BZ(f:Str)(v:V):∀fs:Yk,(jU f v fs).length<=fs.length+1
 |[]=>by simp[jU]
 | (k,x)::r=>by
  have b:=BZ f v r;rw[show jU f v ((k,x)::r)=(if k=f then(k,v)::r else(k,x)::jU f v r) from rfl];by_cases a:k=f
  .rw[if_pos a,lA,lA];lia
  .rw[if_neg a,lA,lA];lia
theorem iH.some_of{o:Hz}(r:iH (aA v) o):∃u,o=aA u/\RelV v u:=by
 cases o with
 |none=>exact(r).elim|some u=>exact⟨u,rfl,r⟩
theorem iH.none_of{o:Hz}(r:iH aD o):o=aD:=by
 cases o with
 |none=>rfl|some u=>exact(r).elim
theorem D1(r:RelV v u):Eh u=aB:=by
 cases v with
 |aE=>cases(r);rfl|bl b=>cases(r);rfl|int i=>obtain⟨t,e⟩:=(r);cases e;rfl|str x=>obtain⟨t,e⟩:=(r);cases e;rfl|mY b=>obtain⟨t,e⟩:=(r);cases e;rfl|yu b=>obtain⟨t,e⟩:=(r);cases e;rfl|ref a=>cases(r);rfl|ty n=>cases(r);rfl
section
variable {P:cB}{fs fs':Yk}
theorem Jj(bA:eW P w H h)(e:H a=aA (.ins C dx fs)):∃mA,yG h a dx C mA/\(∀f,iH (fs.lookup f) (mA f))/\Sy mA (fs.map (·.1))/\fs.length<=1000/\H dx=aA (.own a):=by obtain⟨d,z,ne,ob,mA,n,r,q⟩:=(show hZ P w H h a (.ins C dx fs) from bA a _ e);exact⟨mA,⟨ob,n,ne⟩,r,q,z,d⟩
end
structure mW(K:bI)(C:Addr):Prop where
 pg:vz K C Str.empty=aB
 hd:Ei K C=aB
 po:Su K C=aB
 sa:nO K (.ref C) "__setattr__"=aA (aA<|.builtin "object.__setattr__")
theorem mW.get{K:bI}(c:mW K C)(f:Str):vz K C f=aB:=c.pg
def vW(K:bI)(C:Addr)(f:Str):Prop:=nO K (.ref C) f=aA aD
theorem vW.aOc{K:bI}{f:Str}(n:vW K C f):Sw K C f=aA aD:=by unfold Sw;rw[show nO K (.ref C) f=aA aD from n];rfl
structure xf(K:bI)(C:Addr)(m:Str)(f:Addr):Prop where
 at_:nO K (.ref C) m=aA (aA<|.ref f)
 fn:vy K (.ref f)=aB
 kp:tL K (.ref f)=aB
section
variable {X:Cx}{fs:Yk}{f:Str}{E:Value->aJ->Prop}
theorem AB{b:Bool}(I:Inv X pins Z H s)(e:H a=aA (.ins C dx fs))(c:mW X.K C)(n:vW X.K C f)(l:fs.lookup f=aA v)
  (h:∀u s',Inv X pins Z H s'->RelV v u->Q u s'):aS (aY X.prog X.w) A (getAttr (.ref a) f b) Q E s:=by
 obtain⟨i,O,r,_,_,_⟩:=Jj I.bA e;obtain⟨u,g,d⟩:=iH.some_of (by rw[<- l];exact r f);exact B2 I.fI O (c.get f) c.hd n g (D1 d)<|h u _ (I.tok _) d
theorem AD{g:Addr}{pl:Sem Bool}{Q:Value×Hu->aJ->Prop}(I:Inv X pins Z H s)(e:H a=aA (.ins C dx fs))(c:mW X.K C)(k:xf X.K C m g)(l:fs.lookup m=aD)
  (h:Q (.ref g,[.ref a]) s):aS (aY X.prog X.w) A (Ti (.ref a) m pl) Q E s:=by
 obtain⟨b,O,r,_,_,_⟩:=Jj I.bA e;have hn:=iH.none_of (by rw[<- l];exact r m);exact B3 I.fI O (c.get m) k.at_ k.fn hn h
theorem GY{Q:Unit->aJ->Prop}(I:Inv X pins Z H s)(e:H a=aA (.ins C dx fs))(c:mW X.K C)(n:vW X.K C f)(hl:fs.length<1000)(ry:RelV y u)
  (h:∀s',Inv X pins Z (bG H a<|.ins C dx<|jU f y fs) s'->Q () s'):aS (aY X.prog X.w) A (setAttr (.ref a) f u) Q E s:=by
 obtain⟨i,O,r,wi,_,j⟩:=Jj I.bA e;have k:(fs.map (·.1)).length<=sizeLine:=by rw[aW,nR];lia
 refine aKh I.fI O c.sa c.po n.aOc c.hd wi k λl d m=>h _ ?_;have hd:∃o,l.get? dx=aA o:=let ⟨o,_,_,p,_⟩:=d.ns;⟨o,p⟩;refine I.write (e▸oQ) (.inr j) (λb q hb z=>(m.2 b hb).trans z) hd ?_;refine⟨by rw[bY O.ne];exact j,?_,O.ne,d.obj,_,d.ns,λg=>?_,λg t=>?_⟩
 .have:=BZ f y fs;lia
 .show iH ((jU f y fs).lookup g) (if g=f then aA u else i g);rw[CG];by_cases q:g=f
  .rw[if_pos q,if_pos q];exact ry
  .rw[if_neg q,if_neg q];exact r g
 .by_cases q:g=f
  .rw[q];exact(Jt f y fs).1
  .refine(Jt f y fs).2 g (wi g λz=>t ?_);show(if g=f then aA u else i g)=aD;rw[if_neg q];exact z
theorem Inv.made(I:Inv X pins Z H s):Inv X pins Z (bG (bG H s.heap.objs.size<|.own<|s.heap.objs.size+1) (s.heap.objs.size+1)<|.ins C s.heap.objs.size [])
  { s with heap:=(s.heap.push xU).push (xV C s.heap.objs.size) }:=by
 have e1:(s.heap.push xU).get? s.heap.objs.size=aA xU:=fS s.heap rfl;have e2:((s.heap.push xU).push (xV C s.heap.objs.size)).get? (s.heap.objs.size+1)=aA (xV C s.heap.objs.size):=by have:=fS (s.heap.push xU) (o:=xV C s.heap.objs.size) rfl;rwa [rH]at this
 have e3:(s.heap.push xU).Ns s.heap.objs.size (λ_=>aD):=⟨xU,#[],_,e1,rfl,(λe he=>absurd he (by simp)),λ_=>rfl⟩;have I1:=I.laid (o:=.own (s.heap.objs.size+1)) (t':=s.toks) (λb u q=>cT _ q) (aU _) ⟨_,e1⟩;refine I1.laid (λb u q=>cT _ q) (MG<|rH _ _) ?_;have ne:s.heap.objs.size≠s.heap.objs.size+1:=bV (cN _);refine⟨by rw[bY ne,gU],gX _,ne,e2,λ_=>aD,(Heap.Ns1.of_empty e3).at λo q=>cT _ q,λ_=>oQ,λy hy=>absurd rfl hy⟩
theorem OZ{env:Env}{f:Str}(hb:lj e f env (eval e env)=eval e env)
  (h:aS (aY prog w) A (eval e env) (λo s₁=>aS (aY prog w) A (getAttr o f aB) Q E s₁) E s):aS (aY prog w) A (eval (.Attribute e f pos) env) Q E s:=
 Attribute_any_ h (by rw[arm_eval_Attribute,hb])
end
def aMu(K:bI)(ta:TE)(f:Str):TE:=λZ H Q=>ta Z H λx H1=>∃a C dx fs v,x = .ref a/\H1 a=aA (.ins C dx fs)/\mW K C/\vW K C f/\fs.lookup f=aA v/\Q v H1
def aKb(K:bI)(ta tv:TE)(f:Str):TS:=λD Z H=>tv Z H λy H1=>ta Z H1 λx H2=>∃a C dx fs,x = .ref a/\H2 a=aA (.ins C dx fs)/\mW K C/\vW K C f/\fs.length<1000 /\
 D.nx Z (bG H2 a<|.ins C dx<|jU f y fs)
def Um(X:Cx)(op:rN)(rd:V->V->Hp->VK->Prop):Prop:=
 ∀(pins:Hv) (s:aJ) (Z:St) (H:Hp) (x y:V) (u v:Value) (Q:VK),Inv X pins Z H s->RelV x u->RelV y v->rd x y H Q->aS (aY X.prog X.w) X.A (Tj op u v) (EP X pins Z Q) X.xe s
def aKc(K:bI)(ta tv:TE)(rd:V->V->Hp->VK->Prop)(f:Str):TS:=λD Z H=>ta Z H λx H1=>∃a C dx fs v,x = .ref a/\H1 a=aA (.ins C dx fs)/\mW K C/\vW K C f/\fs.lookup f=aA v /\
 tv Z H1 λy H2=>rd v y H2 λz H3=>∃dx' fs',H3 a=aA (.ins C dx' fs')/\fs'.length<1000/\D.nx Z (bG H3 a<|.ins C dx'<|jU f z fs')
section
variable {X:Cx}{o value:aL}{f:Str}{tpos:Pos}{tv:TE}
theorem aAk(he:PE X e ta)(hb:lj e f X.env (eval e X.env)=eval e X.env):PE X (.Attribute e f pos) (aMu X.K ta f):=by intro pins s b H Q I h;refine OZ hb<|bE (he pins s b H _ I h) λu s1 d=>?_;obtain⟨x,H1,g,i,a,C,o,fs,v,ex,j,c,n,l,q⟩:=d;subst ex;obtain rfl:u=kO a:=i;exact AB g j c n l λp s2 k m=>⟨v,H1,k,m,q⟩
theorem aCl(ha:PE X o ta)(hv:PE X value tv)(hs:vT value (aA<|.Attribute o f pos') pos.line X.env=pure aH):PS X (.Assign [.Attribute o f pos'] value pos) (aKb X.K ta tv f):=by intro pins s b H D I h;refine aVj (bE (hv pins s b H _ I h) λu s1 ⟨y,H1,d,e,q⟩=>bE (ha pins s1 b H1 _ d q) λg s2 ⟨x,r,i,j,a,C,t,fs,ex,k,c,n,l,m⟩=>?_) hs;subst ex;obtain rfl:g=kO a:=j;exact GY i k c n l e λv p=>⟨b,_,p,m⟩
theorem aCm{op:rN}{rd:V->V->Hp->VK->Prop}(ha:PE X o ta)(hv:PE X value tv)(hop:Um X op rd):PS X (.AugAssign (.Attribute o f tpos) op value pos) (aKc X.K ta tv rd f):=by intro pins s b H D I h;refine wpAny_AugAssign_AttributeAny<|bE (ha pins s b H _ I h) λg s1 d=>?_;obtain⟨x,H1,i,j,a,C,O,fs,v,ex,k,c,n,l,q⟩:=d;subst ex;obtain rfl:g=kO a:=j;refine AB i k c n l λu s2 m p=>bE (hv pins s2 b H1 _ m q) λr t ⟨y,w,A,B,E⟩=>bE (hop pins t b w v y u r _ A p B E) λP Q d=>?_;obtain⟨z,R,F,G,J,K,e,L,M⟩:=d;exact GY F e c n L G λS N=>⟨b,_,N,M⟩
def aIx:V->V->Hp->VK->Prop:=λx y H Q=>∃i j,x = .int i/\y = .int j/\Q (.int<|i+j) H
theorem E9:Um X .Add aIx:=by
 rintro pins s Z H x y u v Q I rx ry ⟨i,j,rfl,rfl,q⟩
 obtain⟨t,rfl⟩:=(show∃t,u=vP i t from rx);obtain⟨t',rfl⟩:=(show∃t',v=vP j t' from ry);exact PyProof.Rows.iadd_int ⟨.int (i+j),H,I.tok _,⟨_,rfl⟩,q⟩
end
structure fF(k:Nat)(A:cJ):Prop where
 hd:A.handled=aD
 dp:A.depth+3*k+5<recursionLimit
 un:A.units+16*k+200<cLine
theorem fF.mono{k:Nat}(r:fF k A)(h:j<=k):fF j A:=⟨r.hd,by have:=r.dp;lia,by have:=r.un;lia⟩
theorem fF.deeper{k:Nat}{A:cJ}(r:fF (k+1) A)(env:Env):fF k (A.deeper env):=
 ⟨r.hd,by have:=r.dp;show A.depth+1+3*k+5<_;lia,by have:=r.un;show A.units+3+16*k+200<_;lia⟩
theorem N5:(A.under<|.builtin "type.__call__" ⟨.ref C::us,kw⟩).depth=A.depth+1:=by first|rfl|simp[Code.weight]
theorem N7:(A.under<|.builtin "type.__call__" ⟨.ref C::us,kw⟩).units=A.units+1:=by first|rfl|simp[Code.cUnits]
theorem fF.make{k:Nat}(r:fF (k+1) A)(C:Addr)(us:Hu)(kw:Yl):fF k (A.under<|.builtin "type.__call__" ⟨.ref C::us,kw⟩):=
 ⟨r.hd,by have:=r.dp;rw[N5];lia,by have:=r.un;rw[N7];lia⟩
theorem fF.depth{k:Nat}{A:cJ}(r:fF k A):A.depth<recursionLimit:=by have:=r.dp;lia
theorem fF.units{k:Nat}{A:cJ}(r:fF k A):A.units+64<cLine:=by have:=r.un;lia
def jh:TA:=λ_ H Q=>Q [] H
def Oi(ta:TE)(tr:TA):TA:=λZ H Q=>ta Z H λx H1=>tr Z H1 λxs H2=>Q (x::xs) H2
section
variable {X:Cx}{t:TA}
theorem af:PA X [] jh:=λ_ _ _ _ H Q I h=>Calls.spliced_nil ⟨[],H,I,.nil,h⟩
theorem xA(ha:PE X e te)(hr:PA X es t)(hs:eO (e::es) X.env=(aH,eval e X.env)::eO es X.env:=by rfl):PA X (e::es) (Oi te t):=by intro pos pins s a H Q I h;rw[hs];show aS _ _ (spliced<|(aH,eval e X.env)::lU pos (eO es X.env)) _ _ s;refine Calls.spliced_cons<|bE (ha pins s a H _ I h) λu s1 b=>?_;obtain⟨x,H1,c,d,f⟩:=b;exact bE (hr pos pins s1 a H1 _ c f) λus s2 ⟨xs,g,i,j,k⟩=>⟨x::xs,g,i,.cons d j,k⟩
def aNj(t:TA):TE:=λZ H Q=>t Z H λxs H1=>xs.length<=sizeLine/\∀p,H1 p=aD->Q (.ref p) (bG H1 p<|.tup xs)
def aMy(t:TA):TE:=λZ H Q=>t Z H λxs H1=>xs.length<=sizeLine/\∀p,H1 p=aD->Q (.ref p) (bG H1 p<|.lst xs)
theorem aAz{x1}(h:PA X es t):PE X (.Tuple es x1 pos) (aNj t):=by intro pins s c H Q I d;refine wpAny_Tuple_spliced<|bE (h pos pins s c H _ I d) λus s1 ⟨xs,H1,a,r,z,q⟩=>⟨r.length▸z,?_⟩;have f:=a.bA.fresh (aU _);refine⟨.ref s1.heap.objs.size,bG H1 s1.heap.objs.size (.tup xs),a.laid (λb u e=>cT _ e) (aU _) ?_,rfl,q _ f⟩;exact⟨z,us,r,⟨_,fS _ rfl,rfl,_,rfl⟩⟩
theorem aAo(h:PA X es t):PE X (.List es pos) (aMy t):=by intro pins s c H Q I d;refine wpAny_List_spliced<|bE (h pos pins s c H _ I d) λus s1 ⟨xs,H1,a,r,z,q⟩=>⟨r.length▸z,?_⟩;have f:=a.bA.fresh (aU _);refine⟨.ref s1.heap.objs.size,bG H1 s1.heap.objs.size (.lst xs),a.laid (λb u e=>cT _ e) (aU _) ?_,rfl,q _ f⟩;exact⟨z,us,0,r,fS _ rfl⟩
end
abbrev Sp:=Hw->Hp->VK->XK->Prop
variable {sp:Sp}
abbrev nT:=Yp->Hp->aJ->XK->Value->aJ->Prop
variable {CX:nT}
structure yC(P:cB)(w:bR)(K:bI)(mg:Str->Hz)(base:bH)(A:cJ)(outer:Yp)(s:aJ)(H:Hp):Prop where
 frames:A.frames=aA outer
 mod:Mod K mg base
 bs:∀b o,base.get? b=aA o->s.heap.get? b=aA o/\H b=aD
 wD:base.objs.size<=s.heap.objs.size
 qA:s.heap.FunFrames base outer
 gb:∀b∈pY outer,H b=aD
 bA:eW P w H s.heap
 bare:vI s.gens
def CE(outer:Yp)(P:cB)(w:bR)(H:Hp)(s:aJ)(Q:VK)(u:Value)(s':aJ):Prop:=
 ∃v H',s'.os=s.os/\vI s'.gens/\Un (pY outer) [] H H' s.heap s'.heap/\eW P w H' s'.heap/\RelV v u/\Q v H'
def CR(CX:nT)(outer:Yp)(P:cB)(w:bR)(H:Hp)(s:aJ)(Q:VK)(E:XK)(r:Result)(s':aJ):Prop:=
 match r with
 |.ok (.ret u)=>CE outer P w H s Q u s'
 |.ok _=>False
 |.error e=>CX outer H s E e s'
structure iP(P:cB)(w:bR)(K:bI)(mg:Str->Hz)(base:bH)(CX:nT)(k:Nat)(f:Addr)(fd:eT)(ps:YX)(sp:Sp):Prop where
 len:∀vs H Q E,sp vs H Q E->vs.length=ps.length
 run:∀(A:cJ) (outer:Yp) (s:aJ) (H:Hp) (args:Args) (us:Hu) (vs:Hw) (Q:VK) (E:XK),fF k A->yC P w K mg base A outer s H->ju s fd args (ps.zip us)->Vals vs us->sp vs H Q E ->
  tM (aY P w) A (.call (.ref f) args) (CR CX outer P w H s Q E) s
theorem iP.imp{P:cB}{K:bI}{k:Nat}{f:Addr}{sp':Sp}(F:iP P w K mg base CX k f fd ps sp)
  (h:∀vs H Q E,sp' vs H Q E->sp vs H Q E):iP P w K mg base CX k f fd ps sp':=
 ⟨λvs H Q E q=>F.len vs H Q E (h _ _ _ _ q),λA outer s H args us vs Q E hr he hb a hs=>F.run A outer s H args us vs Q E hr he hb a (h _ _ _ _ hs)⟩
theorem yC.make{P:cB}{K:bI}(e:yC P w K mg base A outer s H)(C:Addr)(us:Hu)(kw:Yl) :
 yC P w K mg base (A.under<|.builtin "type.__call__" ⟨.ref C::us,kw⟩) outer s H:=⟨by first|exact e.frames|(simpa[Code.envs]),e.mod,e.bs,e.wD,e.qA,e.gb,e.bA,e.bare⟩
section
variable {X:Cx}
theorem Inv.Ho(I:Inv X pins Z H s):yC X.prog X.w X.K X.mg X.base X.A X.stack s H:=
 ⟨I.ok.frames,I.ok.mod,I.bs,cD I.ok.wD I.sz,I.stack,I.HK,I.bA,I.bare⟩
theorem Inv.after{Q:VK}(I:Inv X pins Z H s)(h:CE X.stack X.prog X.w H s Q u s'):EP X pins Z Q u s':=by obtain⟨v,c,os,bare,un,bA,r,q⟩:=h;obtain⟨e,g,d,t,a⟩:=s';obtain rfl:a=s.os:=os;exact⟨v,c,I.call un bA bare (λb z=>absurd z (by simp)),r,q⟩
end
def HQ(sp:Sp)(dvs:Hw)(E:XK)(t:TA):TE:=λZ H Q=>t Z H λvs H1=>sp (vs++dvs) H1 Q E
def HR(C:Addr)(sp:Sp)(dvs:Hw)(E:XK)(t:TA):TE:=λZ H Q=>t Z H λvs H1=>∀x dx,H1 x=aD->H1 dx=aD->dx≠x ->
 sp (.ref x::(vs++dvs)) (bG (bG H1 dx<|.own x) x<|.ins C dx []) (λv H2=>v = .aE/\Q (.ref x) H2) E
def Binds(K:bI)(fd:eT)(ps:YX)(ds:Hu):Prop:=
 ∀(s:aJ) (us:Hu),K.In s.heap->(us++ds).length=ps.length->ju s fd ⟨us,[]⟩ (ps.zip<|us++ds)
theorem Binds.all{K:bI}(h:∀us:Hu,us.length=ps.length->bindArgs fd ⟨us,[]⟩=pure (ps.zip us)):Binds K fd ps []:=λs us _ hl=>by rw[kL]at hl ⊢;exact .of_eq<|h us hl
def rS(CX:nT)(X:Cx)(E:XK):Prop:=∀(pins:Hv) (Z:St) (H:Hp) (s:aJ) (e:Value) (s':aJ),Inv X pins Z H s->CX X.stack H s E e s'->X.xe e s'
section
variable {X:Cx}{k:Nat}{f:Addr}{dvs:Hw}{ds:Hu}{E:XK}{o:aL}{t:TA}
theorem Nr{Q:VK}(F:iP X.prog X.w X.K X.mg X.base CX k f fd ps sp)(hr:fF k X.A)(hb:Binds X.K fd ps ds)(hd:Vals dvs ds)(hx:rS CX X E)
  (I:Inv X pins Z H s)(r:Vals vs us)(h:sp (vs++dvs) H Q E):aS (aY X.prog X.w) X.A (call (.ref f) us) (EP X pins Z Q) X.xe s:=by
 have b:=r.append hd;have hl:(us++ds).length=ps.length:=by rw[<- b.length];exact F.len _ _ _ _ h
 refine wm<|wg (F.run X.A X.stack s H ⟨us,[]⟩ (us++ds) (vs++dvs) Q E hr I.Ho (hb s us I.fI hl) b h) λr c a=>?_;cases r with
 |error e=>exact hx pins Z H s e c I a|ok fl=>
  cases fl with
  |ret u=>exact I.after a|next=>exact mT a|brk=>exact mT a|cont=>exact mT a
theorem aAd(F:iP X.prog X.w X.K X.mg X.base CX k f fd ps sp)(hr:fF k X.A)(hg:Gl X x)(hm:X.mg x=aA (.ref f))(hk:tL X.K (.ref f)=aB)(hb:Binds X.K fd ps ds)(hd:Vals dvs ds)(hx:rS CX X E)
  (ha:PA X (e::es) t) (hdb:(x==("__debug__":Str))=aH:=by decide) (he:eO (e::es) X.env=(aH,eval e X.env)::eO es X.env:=by rfl) (hpl:(lU pos<|eO es X.env).any (·.1)=aH:=by rfl) :
  PE X (.Call (.Name x p) (e::es) [] pos) (HQ sp dvs E t):=by
 intro pins s b H Q I h;refine dk<|rg I hg hm ?_ hdb;refine Eg I.ok.mod.gr hk (bE (ha pos pins s b H _ I h) λus s1 ⟨c,H1,a,r,q⟩=>⟨a.fI,?_⟩) he hpl;exact Nr F hr hb hd hx a r q
theorem aAe(F:iP X.prog X.w X.K X.mg X.base CX k f fd ps sp)(hr:fF k X.A)(hg:Gl X x)(hm:X.mg x=aA (.ref f))(hk:tL X.K (.ref f)=aB)(hb:Binds X.K fd ps ds)(hd:Vals dvs ds)(hx:rS CX X E)
  (hdb:(x==("__debug__":Str))=aH:=by decide):PE X (.Call (.Name x p) [] [] pos) (HQ sp dvs E jh):=by
 intro pins s Z H Q I h;refine dk<|rg I hg hm ?_ hdb;exact Sk I.fI hk<|Nr F hr hb hd hx I .nil h
structure Mk(K:bI)(C f:Addr):Prop where
 makes:Sr K C=aB
 init:nO K (.ref C) "__init__"=aA (aA<|.ref f)
 fn:vy K (.ref f)=aB
 kp:tL K (.ref C)=aB
theorem GV{Q:VK}(M:Mk X.K C f)(F:iP X.prog X.w X.K X.mg X.base CX k f fd ps sp)(hr:fF (k+1) X.A)(hb:Binds X.K fd ps ds)(hd:Vals dvs ds)
  (hx:rS CX X E)(I:Inv X pins Z H s)(r:Vals vs us)
  (h:∀x dx,H x=aD->H dx=aD->dx≠x->sp (.ref x::(vs++dvs)) (bG (bG H dx<|.own x) x<|.ins C dx []) (λv H2=>v = .aE/\Q (.ref x) H2) E) :
  aS (aY X.prog X.w) X.A (call (.ref C) us) (EP X pins Z Q) X.xe s:=by
 have c:=h (s.heap.objs.size+1) s.heap.objs.size (I.bA.fresh<|jQ _) (I.bA.fresh<|aU _) (bV<|cN _);have b:=Inv.made (C:=C) I;have d:Vals (V.ref (s.heap.objs.size+1)::(vs++dvs)) (kO (s.heap.objs.size+1)::(us++ds)):=.cons rfl (r.append hd);have hl:(kO (s.heap.objs.size+1)::us++ds).length=ps.length:=by have e:=d.length;rw[F.len _ _ _ _ c]at e;exact e.symm
 refine wm (N6 I.fI M.makes M.init (beq_iff_eq.mp M.fn) (wg (F.run _ X.stack _ _ ⟨kO (s.heap.objs.size+1)::us,[]⟩ (kO (s.heap.objs.size+1)::(us++ds)) _ _ E (hr.make C us [])
  (b.Ho.make C us []) (hb _ (kO (s.heap.objs.size+1)::us) b.fI hl) d c) λr g a=>?_))
 cases r with
 |error e=>exact hx pins Z _ _ e g b a|ok fl=>
  cases fl with
  |ret u=>obtain⟨v,i,j,l,ev,m⟩:=b.after a;subst ev;exact⟨l,⟨V.ref (s.heap.objs.size+1),i,j,rfl,m⟩⟩
  |next=>exact mT a|brk=>exact mT a|cont=>exact mT a
theorem aAp(M:Mk X.K C f)(F:iP X.prog X.w X.K X.mg X.base CX k f fd ps sp)(hr:fF (k+1) X.A)(hg:Gl X x)(hm:X.mg x=aA (.ref C))(hb:Binds X.K fd ps ds)(hd:Vals dvs ds)(hx:rS CX X E)
  (ha:PA X (e::es) t) (hdb:(x==("__debug__":Str))=aH:=by decide) (he:eO (e::es) X.env=(aH,eval e X.env)::eO es X.env:=by rfl) (hpl:(lU pos<|eO es X.env).any (·.1)=aH:=by rfl) :
  PE X (.Call (.Name x p) (e::es) [] pos) (HR C sp dvs E t):=by
 intro pins s b H Q I h;refine dk<|rg I hg hm ?_ hdb;refine Eg I.ok.mod.gr M.kp (bE (ha pos pins s b H _ I h) λus s1 ⟨c,H1,a,r,q⟩=>⟨a.fI,?_⟩) he hpl;exact GV M F hr hb hd hx a r q
theorem aAq(M:Mk X.K C f)(F:iP X.prog X.w X.K X.mg X.base CX k f fd ps sp)(hr:fF (k+1) X.A)(hg:Gl X x)(hm:X.mg x=aA (.ref C))(hb:Binds X.K fd ps ds)(hd:Vals dvs ds)(hx:rS CX X E)
  (hdb:(x==("__debug__":Str))=aH:=by decide):PE X (.Call (.Name x p) [] [] pos) (HR C sp dvs E jh):=by
 intro pins s Z H Q I h;refine dk<|rg I hg hm ?_ hdb;exact Sk I.fI M.kp<|GV M F hr hb hd hx I .nil h
end
def PK(X:Cx)(kws:List tF)(t:TA):Prop:=
 ∀(pos:Pos) (pins:Hv) (s:aJ) (Z:St) (H:Hp) (Q:Hw->Hp->Prop),Inv X pins Z H s->t Z H Q->aS (aY X.prog X.w) X.A (evalAll<|(xX pos<|xZ kws X.env).map (·.2)) (AP X pins Z Q) X.xe s
section
variable {X:Cx}{k:Nat}{f:Addr}{ks:YX}{E:XK}{K4:Pos}{o:aL}{kws:List tF}{t tk:TA}{nm:Option Str}
theorem aBo:PK X [] jh:=λ_ _ _ _ H Q I h=>wpAny_evalAll_nil ⟨[],H,I,.nil,h⟩
theorem aBn(ha:PE X e te)(hr:PK X kws t):PK X (⟨nm,e,K4⟩::kws) (Oi te t):=by intro pos pins s a H Q I h;show aS _ _ (evalAll<|(do let v <- eval e X.env;Eu pos;pure v)::(xX pos<|xZ kws X.env).map (·.2)) _ _ s;refine wpAny_evalAll_cons<|aP<|bE (ha pins s a H _ I h) λu s1 ⟨x,H1,b,c,d⟩=>aP (mm<|bZ ?_);exact bE (hr pos pins s1 a H1 _ b d) λus s2 ⟨xs,f,g,i,j⟩=>⟨x::xs,f,g,.cons c i,j⟩
variable {g:Hu->Hu->Hu}{gV:Hw->Hw->Hw}
end
structure mq(N P:YX)(sc:gJ):Prop where
 kind:sc.kind = .function
 co:sc.isCoroutine=aH
 gen:sc.isGenerator=aH
 nd:N.Nodup
 pre:N.take P.length=P
 par:∀x∈P,sc.names.lookup x=aA .local\/sc.names.lookup x=aA .cell
 R8:∀y∈sc.names,y.2 ≠ .free
theorem Vx{kindOf:Str->Option tJ}{x:Str}:∀{binds:Yl}{m:Str->Hz},(∀v,(x,v)∉binds)->cw kindOf binds m x=m x
 |[],_,_=>rfl
 | (n,v)::r,m,h=>by
  unfold cw;rw[Vx λw hw=>h w (lT _ hw)];split
  .have:x≠n:=by rintro rfl;exact h v kB
   simp[this]
  .rfl
theorem Vv{kindOf:Str->Option tJ}{x:Str}:∀{binds:Yl}{m:Str->Hz},(∀v,(x,v)∉binds)->cv kindOf binds m x=m x
 |[],_,_=>rfl
 | (n,v)::r,m,h=>by
  unfold cv;rw[Vv λw hw=>h w (lT _ hw)];split
  .rfl
  .have:x≠n:=by rintro rfl;exact h v kB
   simp[this]
theorem Vw{kindOf:Str->Option tJ}{x:Str}{v:Value}:∀{P:YX}{vs:Hu}{i:Nat}{m:Str->Hz},P.Nodup->P[i]?=aA x->vs[i]?=aA v->kindOf x=aA .local ->
  cw kindOf (P.zip vs) m x=aA v
 |[],_,_,_,_,h,_,_=>by simp at h
 |_::_,[],_,_,_,_,h,_=>by simp at h
 |p::P,w::vs,0,m,nd,h1,a,b=>by simp at h1 a;subst h1;subst a;show cw kindOf ((p,w)::P.zip vs) m p=_;unfold cw;rw[Vx λv c=>(List.nodup_cons.mp nd).1 (Rc c).1,if_pos b];simp
 |p::P,w::vs,i+1,m,nd,h1,a,b=>by unfold cw;exact Vw (List.nodup_cons.mp nd).2 (by simpa) (by simpa) b
theorem Vu{kindOf:Str->Option tJ}{x:Str}{v:Value}:∀{P:YX}{vs:Hu}{i:Nat}{m:Str->Hz},P.Nodup->P[i]?=aA x->vs[i]?=aA v->kindOf x≠aA .local ->
  cv kindOf (P.zip vs) m x=aA v
 |[],_,_,_,_,h,_,_=>by simp at h
 |_::_,[],_,_,_,_,h,_=>by simp at h
 |p::P,w::vs,0,m,nd,h1,a,b=>by simp at h1 a;subst h1;subst a;show cv kindOf ((p,w)::P.zip vs) m p=_;unfold cv;rw[Vv λv c=>(List.nodup_cons.mp nd).1 (Rc c).1,if_neg b];simp
 |p::P,w::vs,i+1,m,nd,h1,a,b=>by unfold cv;exact Vu (List.nodup_cons.mp nd).2 (by simpa) (by simpa) b
def start(N:YX)(vs:Hw):St:=vs.map aA++fA (N.length-vs.length) aD
def wM(CX:nT)(P:cB)(w:bR)(K:bI)(mg:Str->Hz)(base:bH)(N:YX)(qual:Str)(scope:gJ)(f:Addr)(cd:Value)(A:cJ)(outer:Yp)(s:aJ)(H:Hp)(E:XK):Cx where
 prog:=P
 w:=w
 K:=K
 mg:=mg
 base:=base
 A:=A.deeper (vR qual scope s.heap.objs.size f cd)
 N:=N
 s₀:=s
 H₀:=H
 env:=vR qual scope s.heap.objs.size f cd
 outer:=outer
 stack:=vR qual scope s.heap.objs.size f cd::outer
 ex:=[]
 calm:=aB
 fn:=λ_=>aB
 pn:=[]
 xe:=λe s'=>aS (aY P w) (A.deeper<|vR qual scope s.heap.objs.size f cd) (leaving (vR qual scope s.heap.objs.size f cd) e) (λ_ s''=>CX outer H s E e s'') (λe' s''=>CX outer H s E e' s'') s'
theorem Wi{sc:gJ}{n:Nat}(h:sc.names.lookup x=aA .cell):∃c,(Te n sc.names []).lookup x=aA c:=by exact Option.isSome_iff_exists.mp<|NK sc.names n []<|.inl h
theorem F5{P:cB}{K:bI}{f:Addr}{cd:Value}{s1:aJ}{E:XK}
  (S:mq N ps scope)(hd:A.handled=aD)(e0:yC P w K mg base A outer s H)(hl:vs.length=ps.length)(r:Vals vs us)
  (x:InCallC s s.heap.objs.size (cw (vR qual scope s.heap.objs.size f cd).kindOf (ps.zip us) λ_=>aD) (Te (s.heap.objs.size+1) scope.names []) (cv (vR qual scope s.heap.objs.size f cd).kindOf (ps.zip us) λ_=>aD) s1) :
  Inv (wM CX P w K mg base N qual scope f cd A outer s H E) [] (start N vs) H s1:=by
 have t:ps.length<=N.length:=by have:=congrArg Qu S.pre;rw[lB]at this;lia
 obtain⟨h1,tk,rfl,n⟩:=x.done;have g:∀b:Addr,b∉(wM CX P w K mg base N qual scope f cd A outer s H E).ex:=λb z=>absurd (show b∈([]:Hy) from z) (by simp);refine⟨⟨e0.mod,S.kind,rfl,rfl,aU _,λy z c h1 d=>?_,λy hy=>?_,λy c _ h=>?_,λ_=>hd,Around.frames_deeper e0.frames,.inr ⟨rfl,rfl⟩,λb z=>absurd z (g b),e0.bs,e0.wD,λb _ _=>g b,λb z=>absurd z (g b),e0.qA,e0.gb⟩,
  rfl,e0.bare,Un.kept n,⟨_,x.toInCall.ns,λi y v h1 d C=>?_⟩,λy c h=>⟨_,x.cell y c h⟩,e0.bA.fresh (aU _),λy c h=>?_,λp j=>absurd (show p∈([]:Hv) from j) (by simp),e0.bA.kept n,?_⟩
 .exact name_of_addr x.apart (wa h1)<|wa d
 .have hy:=hy;rcases hy with hy|hy
  .exact Wi hy
  .exact absurd rfl<|S.R8 _<|wa hy
 .exact tK<|x.above y c<|wa h
 .have m:i<vs.length:=by
   unfold start at d;by_cases m:i<vs.length
   .exact m
   .rw[LM (by simpa using m)]at d;rw[LO]at d;split at d<;>cases d
  have ha:vs[i]?=aA v:=by
   unfold start at d;rw[bz (by simpa),fM]at d;cases e:vs[i]? with
   |none=>rw[e]at d;cases d|some a=>rw[e]at d;cases d;rfl
  obtain⟨u,o,B⟩:=r.get ha;have j:ps[i]?=aA y:=by rw[<- S.pre,aTe (by lia)];exact h1
  have l:ps.Nodup:=by rw[<- S.pre];exact S.nd.sublist<|List.take_sublist _ _
  refine⟨u,B,?_⟩;rcases S.par y (cM j)with k|k
  .exact .inl ⟨k,Vw l j o k⟩
  .obtain⟨c,e⟩:=Wi k;refine .inr ⟨.inl k,c,e,?_⟩;have q:=x.cell y c e;rw[Vu l j o (by show scope.names.lookup y≠_;rw[k];decide)]at q;exact q
 .exact e0.bA.fresh<|tK<|x.above y c<|wa h
 .unfold start;show _=N.length;rw[eU,aW,Qw];lia
theorem z8{P:cB}{K:bI}{k:Nat}{f:Addr}{name:Str}{params:Py}{dV kV doc pm cdv ct oc:Value}{an od:Yu}
  {osl:Yr}(lk:K.lookup f=aA ⟨oc,od,.func (ky name qual params body scope dV kV doc pm an cdv ct),osl⟩)(hcd:Sm K cdv qual=aB)(S:mq N ps scope)
  (len:∀vs H Q E,sp vs H Q E->vs.length=ps.length)
  (Ja:∀(A:cJ) (outer:Yp) (s:aJ) (H:Hp) (vs:Hw) (Q:VK) (E:XK),fF k (A.deeper<|vR qual scope s.heap.objs.size f cdv)->sp vs H Q E ->
   ∃t,rR (wM CX P w K mg base N qual scope f cdv A outer s H E) body t/\t { nx:=λ_ H'=>Q .aE H',rt:=Q } (start N vs) H) :
  iP P w K mg base CX (k+1) f (ky name qual params body scope dV kV doc pm an cdv ct) ps sp:=by
 refine⟨len,λA outer s H args us vs Q E hr d hb r g=>?_⟩;have j:=d.mod.gr.keeps λb o e=>(d.bs b o e).1;have lim:=d.mod.nolimit.keeps λb o e=>(d.bs b o e).1;have c:∀y∈ps.zip us,scope.names.lookup y.1=aA .local\/(scope.names.lookup y.1=aA .cell/\((Te (s.heap.objs.size+1) scope.names []).lookup y.1).isSome=aB):=λ⟨n,v⟩ l=>by
  rcases S.par n (Rc l).1 with q|q
  .exact .inl q
  .exact .inr ⟨q,NK _ _ _ (.inl q)⟩
 refine codeAny_call_function hr.depth (j _ _ lk) rfl S.co S.gen rfl (W.codeRec_of j hcd)<|hb _ _ _ _ ?_;refine wpAny_newFunctionEnv_cells S.kind c λenv he s1 x=>?_;subst he;refine⟨lim.keeps x.toInCall.keep,codeAny_func ?_⟩;obtain⟨t,ht,m⟩:=Ja A outer s H vs Q E (hr.deeper _) g;have I:Inv (wM CX P w K mg base N qual scope f cdv A outer s H E) [] (start N vs) H s1:=F5 S hr.hd d (len _ _ _ _ g) r x;refine wo (ht [] s1 (start N vs) H _ I m) (λfl h hs=>?_) λe h hs=>hs;have fin:∀{a:St} {H':Hp}{v:V}{u:Value},Inv (wM CX P w K mg base N qual scope f cdv A outer s H E) [] a H' h->RelV v u->Q v H'->CE outer P w H s Q u h:=
  λ{a H' v u} J i q=>⟨v,H',J.os,J.bare,J.base,J.bA,i,q⟩
 cases fl with
 |ret u=>obtain⟨v,a,H',J,i,q⟩:=hs;exact fin J i q
 |next=>obtain⟨a,H',J,q⟩:=hs;exact fin (v:=V.aE) J rfl q
 |brk=>obtain⟨_,_,_,q⟩:=hs;exact mT q
 |cont=>obtain⟨_,_,_,q⟩:=hs;exact mT q
section
variable {X:Cx}{t:TA}{id T:String}{r:Hw->Hp->VK->Prop}
def HP(r:Hw->Hp->VK->Prop)(t:TA):TE:=λZ H Q=>t Z H λvs H1=>r vs H1 Q
theorem Ay(hc:iO X (.builtin id) r) (hg:Gl X x) (hm:X.mg x=aD) (hv:mV x=aA (.builtin id)) (ha:PA X (e::es) t) (hn:x≠"__name__":=by decide) (hdb:(x==("__debug__":Str))=aH:=by decide)
  (he:eO (e::es) X.env=(aH,eval e X.env)::eO es X.env:=by rfl) (hpl:(lU pos<|eO es X.env).any (·.1)=aH:=by rfl):PE X (.Call (.Name x p) (e::es) [] pos) (HP r t):=by
 intro pins s a H Q I h;exact dk<|zX I hg hm hv (aTk (bE (ha pos pins s a H _ I h) λus s1 ⟨b,H1,c,d,f⟩=>hc pins s1 a H1 b us Q c d f) he hpl) hn hdb
theorem aAf(hc:iO X (.type T) r) (hg:Gl X x) (hm:X.mg x=aD) (hv:mV x=aA (.type T)) (ha:PA X (e::es) t) (hn:x≠"__name__":=by decide) (hdb:(x==("__debug__":Str))=aH:=by decide)
  (he:eO (e::es) X.env=(aH,eval e X.env)::eO es X.env:=by rfl) (hpl:(lU pos<|eO es X.env).any (·.1)=aH:=by rfl):PE X (.Call (.Name x p) (e::es) [] pos) (HP r t):=by
 intro pins s a H Q I h;exact dk<|zX I hg hm hv (Ed (bE (ha pos pins s a H _ I h) λus s1 ⟨b,H1,c,d,f⟩=>hc pins s1 a H1 b us Q c d f) he hpl) hn hdb
end
end L2
namespace HT
open PySem PyProof.Rows
variable {Q:Value->aJ->Prop}{hi:Hs}{vl vu:Value}
section
open PySem.SeqAt
open PySem.AutoSeq1 (wpAny_loadPart')
open PySem.MeetsSeq PySem.MeetsSeq2 PySem.MeetsSeq3
end
section
variable {prog:cB}{w:bR}{A:cJ}{E:Value->aJ->Prop}{s:aJ}
theorem WM{t b:Addr}{vs ws:Hu}(ht:IsTup s.heap t vs.toArray)(hb:IsTup s.heap b ws.toArray)(hv:vs≠[])
  (h1:ws=[]->Q (.ref t) s)(h2:ws≠[]->Q (.ref s.heap.objs.size) { s with heap:=s.heap.push { cls:=.type "tuple",data:=.seq (vs++ws).toArray } })
  (hsz:vs.length+ws.length<=sizeLine):aS (aY prog w) A (eV .Add (.ref t)<|.ref b) Q E s:=by
 obtain⟨⟨cls,dd,data,sl⟩,h,i,n,hd⟩:=id ht;obtain⟨⟨j,c,data2,d⟩,a,f,k,g⟩:=id hb;simp only at i hd f g;subst i hd f g;have e:vs.toArray++ws.toArray=(vs++ws).toArray:=by simp
 by_cases hw:ws=[]
 .exact Th ⟨_,h,rfl⟩ ⟨_,a,rfl⟩ To Tr Sh Se (Sb _ _)
   (tuple_addW1 t b vs.toArray ws.toArray n k dd c sl d (by simpa) (by simp[hw])) ⟨h,a,h1 hw⟩
 .refine Th ⟨_,h,rfl⟩ ⟨_,a,rfl⟩ To Tr Sh Se (Sb _ _)
   (tuple_addW2 t b vs.toArray ws.toArray n k dd c sl d (by simpa) (by simpa)<|hsz) ⟨h,a,?_⟩
  rw[e];exact h2 hw
def cC(n d:Nat):Hs->Nat
 |none=>d
 |some v=>if v<0 then(v+(n:Int)).toNat else min v.toNat n
theorem Bo(n d:Nat):cC n d aD=d:=rfl
theorem ax(n d k:Nat):cC n d (aA (k:Int))=min k n:=by show(if k<0 then(k+(n:Int)).toNat else min (k:Int).toNat n)=min k n;rw[if_neg (by lia),tE]
theorem aVw(n d:Nat)(hd:d<=n)(o:Hs):cC n d o<=n:=by
 cases o with
 |none=>exact hd|some v=>
  show(if v<0 then(v+n).toNat else min v.toNat n)<=n;by_cases a:v<0
  .rw[if_pos a];lia
  .rw[if_neg a];exact MI _ _
theorem Wo(v:Int)(n d:Nat):(if v<0 then max (v+(n:Int)) 0 else min v (n:Int))=((cC n d (aA v):Nat):Int):=by
 show(if v<0 then max (v+n) 0 else min v n)=(((if v<0 then(v+n).toNat else min v.toNat n):Nat):Int);by_cases a:v<0
 .simp only[if_pos a];lia
 .simp only[if_neg a];lia
theorem OR(lo hi:Hs)(n:Nat):Qb lo hi 1 (n:Int)=(((cC n 0 lo:Nat):Int),((cC n n hi:Nat):Int)):=by
 have h1:¬(1<0):=by lia
 unfold Qb;refine Ry ?_ ?_
 .cases lo with
  |none=>rfl|some v=>exact Wo v n 0
 .cases hi with
  |none=>rfl|some v=>exact Wo v n n
theorem aBu(i j:Nat):Dh (i:Int) (j:Int) 1=j-i:=by
 unfold Dh;have h1:(1:Int) > 0:=by lia
 simp only[h1,if_true,Int.ediv_one];split<;>lia
theorem HB{v:Value}{o:Hs}{Q:Hs->aJ->Prop}(p:xR v o)(h:Q o s):aS (aY prog w) A (Builtin.Slice.slicePartIndex v) Q E s:=by
 cases p with
 |none=>exact NW h|int i t=>exact slicePart_int h
theorem aKo{sl:Addr}{lo:Hs}{n:Nat}{Q:Int×Int×Nat->aJ->Prop}(hs:s.heap.IsSliceOf sl vl vu .none)(pl:xR vl lo)(pu:xR vu hi)
  (h:Q (((cC n 0 lo:Nat):Int),1,cC n n hi-cC n 0 lo) s):aS (aY prog w) A (Builtin.Slice.sliceApplied (.ref sl)<|pure (n:Int)) Q E s:=by
 obtain⟨os,a,c,b⟩:=id hs;refine aP<|aP<|kP a b (x:=vl) rfl<|aP<|kP a b (x:=vu) rfl<|aP<|kP a b rfl<|bZ ?_;refine aP<|NW ?_;refine aP<|HB pl<|aP<|HB pu<|aP<|bZ ?_;show aS _ _ (match Qb lo hi 1 n with|(lo,hi)=>pure (lo,(1:Int),Dh lo hi 1)) _ _ s;rw[OR lo hi n];show aS _ _ (pure (((cC n 0 lo:Nat):Int),1,Dh ((cC n 0 lo:Nat):Int) ((cC n n hi:Nat):Int) 1)) _ _ s;rw[aBu];exact bZ h
theorem aBm(xs:YY)(i k:Nat):((Rh k).filterMap λ(m:Nat)=>xs[((i:Int)+(m:Int)*1).toNat]?).toArray=((xs.toList.drop i).take k).toArray:=by
 have e:(λ(m:Nat)=>xs[(i+(m:Int)*1).toNat]?)=λm=>xs[i+m]?:=by
  funext m
  have:(i+(m:Int)*1).toNat=i+m:=by lia
  rw[this]
 rw[e];have:=pick_run xs i k;rw[List.filterMap_map]at this;have a:((λx=>xs[x]?) ∘ λx=>i+x)=λm=>xs[i+m]?:=rfl;rw[a]at this;rw[this]
theorem B0{t sl:Addr}{items:YY}{lo:Hs}(ht:IsTup s.heap t items)(hs:s.heap.IsSliceOf sl vl vu .none)(pl:xR vl lo)(pu:xR vu hi)
  (hw:¬(cC items.size 0 lo=0/\cC items.size items.size hi=items.size))
  (h:Q (.ref s.heap.objs.size) { s with heap:=s.heap.push { cls:=.type "tuple",data:=.seq ((items.toList.drop<|cC items.size 0 lo).take (cC items.size items.size hi-cC items.size 0 lo)).toArray } })
  (hsz:items.size<=sizeLine):aS (aY prog w) A (cy (.ref t)<|.ref sl) Q E s:=by
 have a:sizeOk (.seq ((items.toList.drop<|cC items.size 0 lo).take (cC items.size items.size hi-cC items.size 0 lo)).toArray):=by show((items.toList.drop<|cC items.size 0 lo).take (cC items.size items.size hi-cC items.size 0 lo)).toArray.size<=sizeLine;rw[hW,lB,vp,xN];omega
 obtain⟨os,b,c,f⟩:=id hs;have d:s.TypeIs (.ref sl) "slice":=⟨os,b,c⟩;unfold cy;try with_reducible refine oR ?_
 first|refine aP<|bZ ?_|skip
 refine aP<|wpAny_sequenceKey ht.typeIs (rfl) ?_;refine aP (dn ht.typeIs MS
  (yB MS ht.typeIs entry_tuple_getitem ?_<|args_tuple_getitem _ _))
 show aS _ _ (Builtin.Tuple.tupleItemsOf (.ref t)>>=_) _ _ s;refine aP<|tupleItemsOf_ ht ?_;refine aP<|wpAny_typeOf d ?_;refine aP<|aKo hs pl pu ?_;have e:¬((((cC items.size 0 lo:Nat):Int)==0&&(1:Int)==1&&(cC items.size items.size hi-cC items.size 0 lo)==items.size)=aB):=by intro q;rw[bQ,bQ]at q;have g:=eq_of_beq q.1.1;have i:=eq_of_beq q.2;exact hw ⟨by lia,by lia⟩
 show aS _ _ (if(((cC items.size 0 lo:Nat):Int)==0&&1==1&&(cC items.size items.size hi-cC items.size 0 lo)==items.size)=aB then _ else _) _ _ s;rw[if_neg e,aBm];first
  |exact aP<|tQ (bZ ⟨_,rfl,bZ h⟩) a|exact aP<|tQ (aP<|bZ<|bZ ⟨_,rfl,bZ h⟩) a|exact aP<|aP<|tQ (bZ<|bZ ⟨_,rfl,bZ h⟩) a|exact aP<|aP<|tQ (bZ ⟨_,rfl,bZ h⟩) a
end
end HT
namespace L2
open PySem PySem.Spec PyProof.Rows
variable {H:Hp}{T:String}{e:aL}{i:Int}{its its':Hu}{j n t':Nat}{p:Addr}{pins:Hv}{pos:Pos}{r:V->Hs->Hs->Hp->VK->Prop}{s:aJ}{u v:Value}{x y:V}{xs ys:Hw}{Z:St}
abbrev TO:=St->Hp->(Hs->Hp->Prop)->Prop
def PO(X:Cx)(e:Option aL)(t:TO):Prop:=
 ∀(pins:Hv) (s:aJ) (Z:St) (H:Hp) (Q:Hs->Hp->Prop),Inv X pins Z H s->t Z H Q ->
  aS (aY X.prog X.w) X.A (evalPart e X.env) (λu s'=>∃o H',Inv X pins Z H' s'/\xR u o/\Q o H') X.xe s
def aNa:TO:=λ_ H Q=>Q aD H
def aNf(t:TE):TO:=λZ H Q=>t Z H λx H1=>∃i,x = .int i/\Q (aA i) H1
section
variable {X:Cx}{te:TE}{lo hi:Option aL}{tl th:TO}{p2:Pos}
theorem aBy:PO X aD aNa:=by intro pins s Z H Q I h;exact bZ ⟨aD,H,I,.none,h⟩
theorem aBz(h:PE X e te):PO X (aA e) (aNf te):=by intro pins s a H Q I hw;refine bE (h pins s a H _ I hw) λu s1 b=>?_;obtain⟨x,H1,c,d,f⟩:=b;obtain⟨i,rfl,q⟩:=f;obtain⟨t,rfl⟩:=d;exact⟨aA i,H1,c,.int i t,q⟩
def yH(X:Cx)(r:V->Hs->Hs->Hp->VK->Prop):Prop:=
 ∀(pins:Hv) (s:aJ) (Z:St) (H:Hp) (x:V) (v vl vu:Value) (lo hi:Hs) (sl:Addr) (Q:VK),Inv X pins Z H s->RelV x v->s.heap.IsSliceOf sl vl vu .none->xR vl lo->xR vu hi->r x lo hi H Q ->
  ∃T id,typeLookup (.type T) "__getitem__"=pure (aA<|.builtin id)/\s.TypeIs v T/\aS (aY X.prog X.w) X.A (cy v<|.ref sl) (EP X pins Z Q) X.xe s
theorem yH.or{r':V->Hs->Hs->Hp->VK->Prop}(h:yH X r)(h':yH X r'):yH X (λx lo hi H Q=>r x lo hi H Q\/r' x lo hi H Q):=by
 intro pins s a H x v b c lo hi sl Q I d hs pl pu q;rcases q with q|q
 .exact h pins s a H x v b c lo hi sl Q I d hs pl pu q
 .exact h' pins s a H x v b c lo hi sl Q I d hs pl pu q
def tSl(r:V->Hs->Hs->Hp->VK->Prop)(te:TE)(tl th:TO):TE:=λZ H Q=>te Z H λx H1=>tl Z H1 λl H2=>th Z H2 λu H3=>r x l u H3 Q
theorem aAx(hr:yH X r)(he:PE X e te)(hl:PO X lo tl)(hu:PO X hi th):PE X (.Subscript e (.Slice lo hi aD p2) pos) (tSl r te tl th):=by intro pins s a H Q I h;refine Subscript_<|bE (he pins s a H _ I h) λv s1 d=>?_;obtain⟨x,H1,j,k,m⟩:=d;refine wpAny_Slice<|bE (hl pins s1 a H1 _ j m) λf s2 ⟨l,n,o,pl,p⟩=>bE (hu pins s2 a n _ o p) λg c d=>?_;obtain⟨u,i,t,pu,w⟩:=d;refine bZ ?_;have y:Inv X pins a i { c with heap:=c.heap.push { cls:=.type "slice",data:=.fields #[f,g,.none] } }:=t.kept λb ob q=>cT _ q;obtain⟨T,id,z,ht,A⟩:=hr pins { c with heap:=c.heap.push { cls:=.type "slice",data:=.fields #[f,g,.none] } } a i x v f g l u c.heap.objs.size Q y k (Heap.IsSliceOf.new ..) pl pu w;exact tail_any ht z A (by with_unfolding_all rfl)
def fm(xs:Hw)(lo hi:Hs):Hw:=(xs.drop<|HT.cC xs.length 0 lo).take (HT.cC xs.length xs.length hi-HT.cC xs.length 0 lo)
theorem Xd(xs:Hw)(lo hi:Hs):(fm xs lo hi).length<=xs.length:=by unfold fm;rw[lB,vp];lia
def aJh(K:bI):V->Hs->Hs->Hp->VK->Prop:=λx lo hi H Q=>∃a xs,x = .ref a/\eH K H a xs /\
 ¬(HT.cC xs.length 0 lo=0/\HT.cC xs.length xs.length hi=xs.length)/\∀p,H p=aD->Q (.ref p) (bG H p<|.tup<|fm xs lo hi)
theorem aKn:yH X (aJh X.K):=by intro pins s Z H x v vl vu lo hi sl Q I rx hs pl pu h;obtain⟨a,xs,rfl,hx,hw,q⟩:=h;cases rx;obtain⟨its,r,ht,hz⟩:=I.tuple hx;have hlen:its.toArray.size=xs.length:=r.length.symm;refine⟨"tuple",_,PyProof.Rows.slot_tuple_getitem.lookup,ht.typeIs,?_⟩;refine HT.B0 ht hs pl pu (hlen▸hw) ?_<|hlen▸hz;rw[hlen];refine⟨.ref s.heap.objs.size,_,I.laid (λb ob q=>cT _ q) (aU _) ?_,rfl,q _ (I.bA.fresh<|aU _)⟩;exact⟨cD (Xd xs lo hi) hz,_,(r.drop<|HT.cC xs.length 0 lo).take (HT.cC xs.length xs.length hi-HT.cC xs.length 0 lo),Dp _ _⟩
def aIy(K:bI):R2:=λx y H Q=>∃a b xs ys,x = .ref a/\y = .ref b/\eH K H a xs/\eH K H b ys/\xs≠[]/\xs.length+ys.length<=sizeLine /\
 (ys=[]->Q (.ref a) H)/\(ys≠[]->∀p,H p=aD->Q (.ref p) (bG H p<|.tup<|xs++ys))
theorem Vals.Ku{us:Hu}(r:Vals xs us):us=[]↔xs=[]:=by
 cases r with
 |nil=>simp|cons _ _=>simp
theorem U7:cW X (eV .Add) (aIy X.K):=by intro pins s Z H x y v u Q I g i h;obtain⟨a,b,xs,ys,rfl,rfl,ha,hb,j,e,k,q2⟩:=h;cases g;cases i;obtain⟨its,d,p1,_⟩:=I.tuple ha;obtain⟨f,c,p2,_⟩:=I.tuple hb;refine HT.WM p1 p2 (λz=>j (d.Ku.mp z)) (λz=>⟨.ref a,H,I,rfl,k (c.Ku.mp z)⟩) (λz=>?_) (by rw[<- d.length,<- c.length];exact e);refine⟨.ref s.heap.objs.size,_,I.laid (λb ob q=>cT _ q) (aU _) ?_,rfl,q2 (λw=>z (c.Ku.mpr w)) _ (I.bA.fresh<|aU _)⟩;exact⟨eU▸e,_,d.append c,Dp _ _⟩
end
def iI(n:Nat)(i:Int):Option Nat:=if 0<=i then(if i<n then aA i.toNat else aD) else if -(n:Int)<=i then aA (i+n).toNat else aD
def cH{α:Type}(xs:List α)(i:Int):Option α:=(iI xs.length i).bind λj=>xs[j]?
theorem BD(h:iI n i=aA j):seqIndex? i n=aA j/\j<n/\-(n:Int)<=i/\i<n:=by
 unfold iI at h;by_cases h0:0<=i
 .rw[if_pos h0]at h;by_cases h1:i<n
  .rw[if_pos h1]at h;have e:=eF h;exact⟨by rw[Tq h0 h1,e],by lia,by lia,h1⟩
  .rw[if_neg h1]at h;cases h
 .rw[if_neg h0]at h;by_cases h1:-n<=i
  .rw[if_pos h1]at h;have e:=eF h;exact⟨by rw[seqIndex_neg (by lia) h1,e],by lia,h1,by lia⟩
  .rw[if_neg h1]at h;cases h
theorem Ft{α:Type}{xs:List α}{v:α}(h:cH xs i=aA v):∃j,seqIndex? i xs.length=aA j/\xs[j]?=aA v/\j<xs.length/\-(xs.length:Int)<=i/\i<xs.length:=by
 unfold cH at h;cases e:iI xs.length i with
 |none=>rw[e]at h;cases h|some j=>rw[e]at h;obtain⟨h1,a,b,c⟩:=BD e;exact⟨j,h1,h,a,b,c⟩
theorem Vd{α:Type}{xs:List α}{v:α}(h:xs[j]?=aA v):cH xs (j:Int)=aA v:=by
 have hj:=(List.getElem?_eq_some_iff.mp h).1;have e:iI xs.length j=aA j:=by unfold iI;rw[if_pos (by lia),if_pos (by lia)];simp
 unfold cH;rw[e];exact h
def Fm(b:aL):Prop:=∀o i,Tu b aH o i=operate [o,i] (cy o i)
def pP(X:Cx)(r:R2):Prop:=
 ∀(value slice:aL) (pins:Hv) (s:aJ) (Z:St) (H:Hp) (x y:V) (v u:Value) (Q:VK),Inv X pins Z H s->RelV x v->RelV y u->r x y H Q ->
  Tu slice aH v u=operate [v,u] (cy v u)->aS (aY X.prog X.w) X.A (subscriptTail value slice v u) (EP X pins Z Q) X.xe s
def Uq(X:Cx)(id:String)(r:V->Hw->Hp->VK->Prop):Prop:=
 ∀(pins:Hv) (s:aJ) (Z:St) (H:Hp) (x:V) (xs:Hw) (v:Value) (us:Hu) (Q:VK),Inv X pins Z H s->RelV x v->Vals xs us->r x xs H Q ->
  aS (aY X.prog X.w) X.A (call (.builtin id)<|v::us) (EP X pins Z Q) X.xe s
section
variable {X:Cx}{a b:aL}{ta tb:TE}
theorem pP.or{r r':R2}(h:pP X r)(h':pP X r'):pP X (λx y H Q=>r x y H Q\/r' x y H Q):=by
 intro value slice pins s a H x y v u Q I b c q hs;rcases q with q|q
 .exact h value slice pins s a H x y v u Q I b c q hs
 .exact h' value slice pins s a H x y v u Q I b c q hs
theorem aAn{r:R2}(hr:pP X r)(ha:PE X a ta)(hb:PE X b tb)(hs:Fm b):PE X (.Subscript a b pos) (Ch r ta tb):=by intro pins s c H Q I h;exact Subscript_<|Ga ha hb I h λv u s2 x y d e f g q=>hr a b pins s2 c d x y v u Q e f g q (hs _ _)
def GF(K:bI):R2:=λx y H Q=>∃p xs i v,x = .ref p/\y = .int i/\dN K H p xs/\cH xs i=aA v/\Q v H
def GH(K:bI):R2:=λx y H Q=>∃p xs i v,x = .ref p/\y = .int i/\eH K H p xs/\cH xs i=aA v/\Q v H
def GG:R2:=λx y H Q=>∃z i c,x = .str z/\y = .int i/\z.length<=sizeLine/\cH z.cps.toList i=aA c/\Q (.str ⟨#[c]⟩) H
theorem G9:pP X (GF X.K):=by
 intro value slice pins s d H x y v u Q I e f h hs;obtain⟨p,xs,i,z,rfl,rfl,g,he,q⟩:=h;cases e;obtain⟨t,rfl⟩:=f;obtain⟨a,r,pl,n⟩:=I.list g;obtain⟨j,h1,k,o,l,m⟩:=Ft he;obtain⟨w,A,b⟩:=r.get k;have hl:=r.length;have hn:=zZ;have fin:EP X pins d Q w s:=⟨z,H,I,b,q⟩;by_cases h0:0<=i
 .have c:i.toNat=j:=by rw[Tq h0 m]at h1;exact eF h1
  exact item_listR pl.isList h0 (by lia) (by rw[c];simpa) fin hs
 .have c:(i+(a.toArray.size:Int)).toNat=j:=by rw[seqIndex_neg (by omega) l]at h1;rw[hW,<- hl];exact eF h1
  exact NX pl.isList.typeIs slot_list_getitem.lookup
   (wpAny_getItem_list_neg pl.isList (by omega) (by rw[hW]<;>lia) (by lia) (by rw[c];simpa) ⟨rfl,fin⟩) hs
theorem I9:pP X (GH X.K):=by
 intro value slice pins s b H x y v u Q I c d h hs;obtain⟨p,xs,i,z,rfl,rfl,e,he,q⟩:=h;cases c;obtain⟨t,rfl⟩:=d;obtain⟨f,r,pl,k⟩:=I.tuple e;obtain⟨j,h1,g,l,m,n⟩:=Ft he;obtain⟨w,o,a⟩:=r.get g;have hl:=r.length;have hn:=zZ;have fin:EP X pins b Q w s:=⟨z,H,I,a,q⟩;exact NX pl.typeIs slot_tuple_getitem.lookup
  (getItem_tuple pl (by lia) (by lia) (by rw[hW,<- hl];exact h1) (by simpa) ⟨rfl,fin⟩) hs
theorem I0:pP X GG:=by
 intro value slice pins s Z H x y v u Q I rx ry h hs;obtain⟨z,i,c,rfl,rfl,hz,he,q⟩:=h;obtain⟨t,rfl⟩:=rx;obtain⟨t',rfl⟩:=ry;obtain⟨j,h1,h2,h3,h4,h5⟩:=Ft he;have hl:z.cps.toList.length=z.length:=by simp[Str.length]
 rw[hl]at h1 h4 h5;have hn:=zZ;exact tail_any (typeIs_str s z t) slot_str_getitem.lookup (getItem_str (c:=c) (by
  have e1:decide (i < -(2 ^ 63:Int))=aH:=decide_eq_false (by omega);have e2:decide (i ≥ 2 ^ 63)=aH:=decide_eq_false (by omega);rw[e1,e2,Bool.or_false]) (by rw[h1];simpa using h2) ⟨.str ⟨#[c]⟩,H,I.tok _,⟨_,rfl⟩,q⟩) hs
def Nj(K:bI):R2:=λx y H Q=>GF K x y H Q\/GH K x y H Q\/GG x y H Q
theorem H9:pP X (Nj X.K):=G9.or (I9.or I0)
theorem N8(its:Hu)(n j:Nat)(u:Value):vw (·.setIfInBounds j u) { cls:=.type "list",data:=.seq its.toArray n }={ cls:=.type "list",data:=.seq (its.set j u).toArray n }:=by simp[vw]
theorem Inv.lst(I:Inv X pins Z H s)(h:H p=aA (.lst xs)) :
  ∃(its:Hu) (n:Nat),Vals xs its/\s.heap.get? p=aA { cls:=.type "list",data:=.seq its.toArray n }/\xs.length<=sizeLine:=by
 obtain⟨z,its,n,r,e⟩:=I.bA p _ h;exact⟨its,n,r,e,z⟩
theorem Inv.N3{n':Nat}{f:Obj->Obj}(I:Inv X pins Z H s)(h:H p=aA (.lst xs))
  (ho:s.heap.get? p=aA { cls:=.type "list",data:=.seq its.toArray n })(hf:f { cls:=.type "list",data:=.seq its.toArray n }={ cls:=.type "list",data:=.seq its'.toArray n' })(r:Vals ys its')(hz:ys.length<=sizeLine)(t:Nat) :
  Inv X pins Z (bG H p<|.lst ys) { s with heap:=s.heap.update p f,toks:=t }:=by
 have e:(s.heap.update p f).get? p=aA { cls:=.type "list",data:=.seq its'.toArray n' }:=by rw[vj f ho (by rw[hf]<;>rfl),hf]
 refine I.write (by rw[h];trivial) (.inl rfl) (λb u hb q=>(bu _ _<|lE hb).trans q) ⟨_,e⟩ ?_;exact⟨hz,its',n',r,e⟩
def GJ:V->V->V->Hp->(Hp->Prop)->Prop:=λo i v H Q=>∃p xs k j,o = .ref p/\i = .int k/\H p=aA (.lst xs)/\iI xs.length k=aA j/\Q (bG H p<|.lst<|xs.set j v)
theorem aKg:Fl X GJ:=by
 intro pins s l H o i v A B u Q I m w x h;obtain⟨p,xs,k,j,rfl,rfl,d,y,q⟩:=h;cases m;obtain⟨t,rfl⟩:=w;obtain⟨a,n,r,b,z⟩:=I.lst d;obtain⟨h1,C,e,f⟩:=BD y;have hl:=r.length;have hn:=zZ;have g:Inv X pins l (bG H p<|.lst<|xs.set j v) { s with heap:=s.heap.update p (vw (·.setIfInBounds j u)) }:=
  I.N3 d b (N8 a n j u) (r.set x j) (by rw[cf];exact z) s.toks
 by_cases h0:0<=k
 .have c:k.toNat=j:=by rw[Tq h0 f]at h1;exact eF h1
  exact W.ki_setAt b h0 (by lia) (by rw[hW,<- hl];exact f) (by rw[c];exact⟨_,g,q⟩)
 .have c:(k+(a.toArray.size:Int)).toNat=j:=by rw[seqIndex_neg (by omega) e]at h1;rw[hW,<- hl];exact eF h1
  exact W.ki_setBack b (by omega) (by rw[hW,<- hl];exact e) (by lia) (by rw[c];exact⟨_,g,q⟩)
theorem aKq(lo hi:Hs)(n:Nat):(dg lo hi aD n).1=((HT.cC n 0 lo:Nat):Int)/\(dg lo hi aD n).2.1=((HT.cC n n hi:Nat):Int)/\(dg lo hi aD n).2.2=1:=by
 refine⟨?_,?_,rfl⟩
 .cases lo with
  |none=>simp[dg,HT.cC]|some i=>
   simp only[dg,HT.cC,MP,show(1:Int) > 0 by decide,if_true];by_cases h:i<0
   .simp only[h,if_true]<;>omega
   .simp only[h,if_false]<;>omega
 .cases hi with
  |none=>simp[dg,HT.cC]|some i=>
   simp only[dg,HT.cC,MP,show(1:Int) > 0 by decide,if_true];by_cases h:i<0
   .simp only[h,if_true]<;>omega
   .simp only[h,if_false]<;>omega
theorem aKp(its:Hu)(lo hi:Hs):slicePick its.toArray lo hi aD=((its.drop<|HT.cC its.length 0 lo).take (HT.cC its.length its.length hi-HT.cC its.length 0 lo)).toArray:=by obtain⟨h1,a,b⟩:=aKq lo hi its.toArray.size;unfold slicePick;rw[h1,a,b];simp only[sliceRange_one,pick_run]<;>rfl
def aJg(K:bI):V->Hs->Hs->Hp->VK->Prop:=λx lo hi H Q=>∃a xs,x = .ref a/\dN K H a xs/\∀p,H p=aD->Q (.ref p) (bG H p<|.lst<|fm xs lo hi)
theorem aKm:yH X (aJg X.K):=by intro pins s Z H x v vl vu lo hi sl Q I rx hs pl pu h;obtain⟨a,xs,rfl,hx,q⟩:=h;cases rx;obtain⟨its,r,ht,hz⟩:=I.list hx;have hlen:=r.length;refine⟨"list",_,slot_list_getitem.lookup,ht.isList.typeIs,?_⟩;refine wpAny_getItem_list_slice ht.isList hs pl pu .none (by simp) ?_ (by rw[hW]<;>lia);rw[aKp,<- hlen];refine⟨.ref s.heap.objs.size,_,I.laid (λb ob q=>cT _ q) (aU _) ?_,rfl,q _ (I.bA.fresh<|aU _)⟩;exact⟨cD (Xd xs lo hi) hz,_,0,(r.drop<|HT.cC xs.length 0 lo).take (HT.cC xs.length xs.length hi-HT.cC xs.length 0 lo),fS _ rfl⟩
def sC:V->Bool
 |.aE=>aB
 |.bl _=>aB
 |.int _=>aB
 |.str _=>aB
 |_=>aH
def tW:V->V->Bool
 |.aE,.aE=>aB
 |.bl a,.bl b=>a==b
 |.bl a,.int b=>(if a then 1 else 0)==b
 |.int a,.bl b=>a==(if b then 1 else 0)
 |.int a,.int b=>a==b
 |.str a,.str b=>a==b
 |_,_=>aH
theorem YS{A:cJ}(ry:RelV y u)(rx:RelV x v)(fy:sC y=aB)(fx:sC x=aB):SeqAt.EqAt A s u v (tW y x):=by
 cases y with
 |aE=>
  cases ry;cases x with
  |aE=>cases rx;exact SeqAt.EqAt.same _|bl b=>cases rx;exact SeqAt.EqAt.none_bool b|int b=>obtain⟨t,rfl⟩:=rx;exact SeqAt.EqAt.none_int b t|str b=>obtain⟨t,rfl⟩:=rx;exact SeqAt.EqAt.none_str b t|_=>exact absurd (show aH=aB from fx) fX
 |bl a=>
  cases ry;cases x with
  |aE=>cases rx;exact SeqAt.EqAt.bool_none a|bl b=>cases rx;exact SeqAt.EqAt.bool_bool a b|int b=>obtain⟨t,rfl⟩:=rx;exact SeqAt.EqAt.bool_int a b t|str b=>obtain⟨t,rfl⟩:=rx;exact SeqAt.EqAt.bool_str a b t|_=>exact absurd (show aH=aB from fx) fX
 |int a=>
  obtain⟨t',rfl⟩:=ry;cases x with
  |aE=>cases rx;exact SeqAt.EqAt.int_none a t'|bl b=>cases rx;exact SeqAt.EqAt.int_bool a t' b|int b=>obtain⟨t,rfl⟩:=rx;exact SeqAt.EqAt.int_int a t' b t|str b=>obtain⟨t,rfl⟩:=rx;exact NM a t' b t|_=>exact absurd (show aH=aB from fx) fX
 |str a=>
  obtain⟨t',rfl⟩:=ry;cases x with
  |aE=>cases rx;exact SeqAt.EqAt.str_none a t'|bl b=>cases rx;exact SeqAt.EqAt.str_bool a t' b|int b=>obtain⟨t,rfl⟩:=rx;exact NN a t' b t|str b=>obtain⟨t,rfl⟩:=rx;exact SeqAt.EqAt.str_str a t' b t|_=>exact absurd (show aH=aB from fx) fX
 |_=>exact absurd (show aH=aB from fy) fX
def mI(x:V)(u:Value):Bool:=match u with
 |.none=>tW .aE x
 |.bool b=>tW (.bl b) x
 |.int i _=>tW (.int i) x
 |.str z _=>tW (.str z) x
 |_=>aH
theorem Yd(r:RelV y u)(f:sC y=aB):mI x u=tW y x:=by
 cases y with
 |aE=>cases r;rfl|bl b=>cases r;rfl|int i=>obtain⟨t,rfl⟩:=r;rfl|str z=>obtain⟨t,rfl⟩:=r;rfl|_=>exact absurd (f) fX
theorem nq{x:V}:∀{xs:Hw}{us:Hu},Vals xs us->xs.all sC=aB->us.any (mI x)=xs.any λy=>tW y x
 |_,_,.nil,_=>rfl|y::xs,u::us,.cons r t,f=>by rw[jZ,bQ]at f;rw[rJ,rJ,Yd r f.1,nq t f.2]
theorem si{A:cJ}{s:aJ}{x:V}{v:Value}(rx:RelV x v)(fx:sC x=aB):∀{xs:Hw}{us:Hu},Vals xs us->xs.all sC=aB->∀u∈us,SeqAt.EqAt A s u v (mI x u)
 |_,_,.nil,_=>λu hu=>by cases hu
 |y::xs,u::us,.cons r t,f=>λa hu=>by
  rw[jZ,bQ]at f;rcases List.mem_cons.mp hu with rfl|hu
  .rw[Yd r f.1];exact YS r rx f.1 fx
  .exact si rx fx t f.2 a hu
def zw(x:V)(xs:Hw):Bool:=xs.any λy=>tW y x
def GC(K:bI)(neg:Bool):R2:=λx y H Q=>∃p xs,y = .ref p/\(dN K H p xs\/eH K H p xs)/\sC x=aB/\xs.all sC=aB/\Q (.bl<|if neg then !zw x xs else zw x xs) H
theorem V6:cW X (dM .In) (GC X.K aH):=by
 intro pins s e H x y v u Q I b c h;obtain⟨p,xs,rfl,hq,fx,fs,q⟩:=h;cases c;rcases hq with hq|hq
 .obtain⟨a,r,pl,d⟩:=I.list hq;refine SeqAt.in_listAt (mI x) pl.isList (λw hw=>si b fx r fs w (by simpa using hw)) ⟨.bl _,H,I,rfl,?_⟩;rw[show a.toArray.any (mI x)=a.any (mI x) by simp,nq r fs];exact q
 .obtain⟨a,r,pl,d⟩:=I.tuple hq;refine SeqAt.in_tupleAt (mI x) pl (λw hw=>si b fx r fs w (by simpa using hw)) ⟨.bl _,H,I,rfl,?_⟩;rw[show a.toArray.any (mI x)=a.any (mI x) by simp,nq r fs];exact q
theorem W6:cW X (dM .NotIn) (GC X.K aB):=by
 intro pins s e H x y v u Q I b c h;obtain⟨p,xs,rfl,hq,fx,fs,q⟩:=h;cases c;rcases hq with hq|hq
 .obtain⟨a,r,pl,d⟩:=I.list hq;refine SeqAt.notIn_listAt (mI x) pl.isList (λw hw=>si b fx r fs w (by simpa using hw)) ⟨.bl _,H,I,rfl,?_⟩;rw[show a.toArray.any (mI x)=a.any (mI x) by simp,nq r fs];exact q
 .obtain⟨a,r,pl,d⟩:=I.tuple hq;refine SeqAt.notIn_tupleAt (mI x) pl (λw hw=>si b fx r fs w (by simpa using hw)) ⟨.bl _,H,I,rfl,?_⟩;rw[show a.toArray.any (mI x)=a.any (mI x) by simp,nq r fs];exact q
theorem VW:iO X (.builtin "len") (λxs H Q=>∃p ys,xs=[.ref p]/\(dN X.K H p ys\/eH X.K H p ys)/\Q (.int ys.length) H):=by
 intro pins s e H xs us Q I r h;obtain⟨p,ys,rfl,hq,q⟩:=h;obtain⟨u,rfl,c⟩:=jk r;cases c;have hn:=zZ;rcases hq with hq|hq
 .obtain⟨a,b,pl,d⟩:=I.list hq;have hlen:=b.length;exact Calls.call_len_list pl.isList (by simp only[hW]<;>omega) ⟨.int ys.length,H,I.tok _,⟨s.toks+1,by rw[hW,hlen]⟩,q⟩
 .obtain⟨a,b,pl,d⟩:=I.tuple hq;have hlen:=b.length;exact len_tuple pl (by simp only[hW]<;>omega) ⟨.int ys.length,H,I.tok _,⟨s.toks+1,by rw[hW,hlen]⟩,q⟩
theorem VX:iO X (.builtin "len") (λxs H Q=>∃z,xs=[.str z]/\z.length<=sizeLine/\Q (.int z.length) H):=by intro pins s a H xs us Q I r h;obtain⟨z,rfl,b,q⟩:=h;obtain⟨u,rfl,t,rfl⟩:=jk r;have hn:=zZ;exact len_str (by lia) ⟨.int z.length,H,I.tok _,⟨_,rfl⟩,q⟩
theorem iO.or{f:Value}{r r':Hw->Hp->VK->Prop}(h:iO X f r)(h':iO X f r'):iO X f (λxs H Q=>r xs H Q\/r' xs H Q):=by
 intro pins s a H xs us Q I rs q;rcases q with q|q
 .exact h pins s a H xs us Q I rs q
 .exact h' pins s a H xs us Q I rs q
theorem VZ:iO X (.type "list") (λxs H Q=>∃p ys,xs=[.ref p]/\(dN X.K H p ys\/eH X.K H p ys)/\∀l,H l=aD->Q (.ref l) (bG H l<|.lst ys)):=by
 intro pins s m H xs us Q I r h;obtain⟨p,ys,rfl,hq,q⟩:=h;obtain⟨u,rfl,t⟩:=jk r;cases t;have fin:∀a,Vals ys a->ys.length<=sizeLine->∀c d,(∀b k,s.heap.get? b=aA k->c.get? b=aA k) ->
   c.get? s.heap.objs.size=aA { cls:=.type "list",dict:=aD,data:=.seq a.toArray d,slots:=#[] }->EP X pins m Q (.ref s.heap.objs.size) { s with heap:=c }:=λa f g c d kp e=>
  ⟨.ref s.heap.objs.size,_,I.laid kp (aU _) (show hZ X.prog X.w _ c _ (.lst ys) from⟨g,a,d,f,e⟩),rfl,q _ (I.bA.fresh<|aU _)⟩
 rcases hq with hq|hq
 .obtain⟨a,f,pl,g⟩:=I.list hq;have hlen:=f.length;obtain⟨o,i,j,n,hd⟩:=pl.isList;exact NS p (.inl rfl) i j hd (λc d kp e=>fin a f g c d kp e) (by simp only[hW]<;>omega)
 .obtain⟨a,f,pl,g⟩:=I.tuple hq;have hlen:=f.length;obtain⟨o,i,j,n,hd⟩:=pl;exact NS p (.inr rfl) i j hd (λc d kp e=>fin a f g c d kp e) (by simp only[hW]<;>omega)
theorem WK:iO X (.type "tuple") (λxs H Q=>∃p ys,xs=[.ref p]/\((dN X.K H p ys/\∀l,H l=aD->Q (.ref l) (bG H l<|.tup ys))\/(eH X.K H p ys/\Q (.ref p) H))):=by
 intro pins s g H xs us Q I r h;obtain⟨p,ys,rfl,h⟩:=h;obtain⟨u,rfl,k⟩:=jk r;cases k;rcases h with⟨d,q⟩|⟨d,q⟩
 .obtain⟨a,f,pl,i⟩:=I.list d;have hlen:=f.length;refine call_tuple_list pl.isList (λc kp=>?_) (by simp only[hW]<;>omega);have j:Inv X pins g H { s with heap:=c }:=I.kept kp;have m:Inv X pins g (bG H c.objs.size<|.tup ys) { s with heap:=c.push { cls:=.type "tuple",data:=.seq a.toArray } }:=
   j.laid (λb o e=>cT _ e) (aU _) (show hZ X.prog X.w _ _ _ (.tup ys) from⟨i,a,f,Dp _ _⟩)
  exact⟨.ref c.objs.size,_,m,rfl,q _ (j.bA.fresh<|aU _)⟩
 .obtain⟨a,f,pl,i⟩:=I.tuple d;exact call_tuple_same pl ⟨.ref p,H,I,rfl,q⟩
def Ow(K:bI)(T:String)(x:V)(H:Hp):Prop:=match x with
 |.str _=>T="str"
 |.int _=>T="int"
 |.ref p=>(T="list"/\∃xs,dN K H p xs)\/(T="tuple"/\∃o,K.lookup p=aA o/\o.cls = .type "tuple"/\o.dict=aD) \/
  (T="dict"/\((∃kvs,H p=aA (.dK kvs))\/∃kvs,H p=aA (.dT kvs)))\/(T="set"/\∃S n,H p=aA (.set S n))
 |_=>False
theorem IK(I:Inv X pins Z H s)(r:RelV x v)(ty:Ow X.K T x H) :
  s.TypeIs v T/\∀a,v = .ref a->∃ob,s.heap.get? a=aA ob/\ob.dict=aD:=by
 cases x with
 |str z=>obtain⟨t,rfl⟩:=r;cases(ty);exact⟨typeIs_str s z t,nofun⟩
 |int i=>obtain⟨t,rfl⟩:=r;cases(ty);exact⟨Tv s i t,nofun⟩
 |ref p=>
  cases r;rcases ty with⟨rfl,xs,g⟩|⟨rfl,o,b,h,hd⟩|⟨rfl,b⟩|⟨rfl,S,n,b⟩
  .obtain⟨j,_,pl,_⟩:=I.list g;refine⟨pl.isList.typeIs,λa e=>?_⟩;cases e;obtain⟨o,n,e,c,hd,_⟩:=pl;exact⟨o,e,hd⟩
  .refine⟨⟨o,I.fI p o b,h⟩,λa e=>?_⟩;cases e;exact⟨o,I.fI _ o b,hd⟩
  .have z:∃o,s.heap.get? p=aA o/\o.ExactDict:=by
    rcases b with⟨d,b⟩|⟨d,b⟩
    .obtain⟨_,_,_,_,o,_,_,e,ex,_⟩:=I.bA p _ b;exact⟨o,e,ex⟩
    .obtain⟨_,_,_,_,o,_,_,e,ex,_⟩:=I.bA p _ b;exact⟨o,e,ex⟩
   obtain⟨o,e,ex⟩:=z;refine⟨⟨o,e,ex.1⟩,λa f=>?_⟩;cases f;exact⟨o,e,ex.2.1⟩
  .obtain⟨o,_,_,_,e,ex,_⟩:=I.bA p _ b;refine⟨⟨o,e,ex.1⟩,λa f=>?_⟩;cases f;exact⟨o,e,ex.2.1⟩
 |_=>exact mT ty
def aMp(K:bI)(T:String)(r:V->Hw->Hp->VK->Prop)(to:TE):TE:=λZ H Q=>to Z H λx H1=>Ow K T x H1/\r x [] H1 Q
def tBM(K:bI)(T:String)(r:V->Hw->Hp->VK->Prop)(to:TE)(t:TA):TE:=λZ H Q=>to Z H λx H1=>Ow K T x H1/\t Z H1 λxs H2=>r x xs H2 Q
variable {o:aL}{es:List aL}{to:TE}{t:TA}{name:Str}{apos rX:Pos}{id:String}{r:V->Hw->Hp->VK->Prop}
theorem aAc(pa:PlainAttrs T) (slot:Slot T name id) (hty:typeOf (.builtin id)=pure (.type "method_descriptor")) (hm:Uq X id r) (ho:PE X o to)
  (Iz:lj o name X.env (eval o X.env)=eval o X.env:=by rfl) (Jd:(apos.endLine==rX.line)=aB:=by rfl):PE X (.Call (.Attribute o name apos) [] [] rX) (aMp X.K T r to):=by
 intro pins s a H Q I h;refine wpAny_Call_method0_late Iz Jd<|bE (ho pins s a H _ I h) λv s1 d=>?_;obtain⟨x,H1,b,c,ty,e⟩:=d;obtain⟨h1,f⟩:=IK b c ty;exact⟨T,id,pa,slot,hty,h1,f,Qc rfl (PySem.evalArgs_none<|hm pins s1 a H1 x [] v [] Q b c .nil e)⟩
theorem DW(pa:PlainAttrs T) (slot:Slot T name id) (hty:typeOf (.builtin id)=pure (.type "method_descriptor")) (hm:Uq X id r) (ho:PE X o to) (ha:PA X (e::es) t)
  (Iz:lj o name X.env (eval o X.env)=eval o X.env:=by rfl)
  (D3:((lU rX<|eO (e::es) X.env).all (λx=>!x.1)&&(xX rX<|xZ [] X.env).all (λx=>x.1.isSome)
  &&decide ((e::es).length+([]:List tF).length+(if([]:List tF).isEmpty then 0 else 1)<30))=aB:=by rfl)
  (Jd:(apos.endLine==rX.line)=aB:=by rfl) (hs:eO (e::es) X.env=(aH,eval e X.env)::eO es X.env:=by rfl) (D8:(lU rX<|eO es X.env).any (·.1)=aH:=by rfl) :
  PE X (.Call (.Attribute o name apos) (e::es) [] rX) (tBM X.K T r to t):=by
 intro pins s a H Q I h;refine NZ Iz D3 Jd rfl<|bE (ho pins s a H _ I h) λv s1 f=>?_;obtain⟨x,H1,b,c,ty,g⟩:=f;obtain⟨h1,i⟩:=IK b c ty;refine⟨T,id,pa,slot,hty,h1,i,?_⟩;have d:=ha rX pins s1 a H1 _ b g;rw[hs]at d ⊢;exact Qc (by show(aH||(lU rX<|eO es X.env).any (·.1))=aH;rw[D8]<;>rfl)<|KH<|bE d λus s2 ⟨j,k,l,m,n⟩=>hm pins s2 a k x j v us Q l c m n
end
def ec(X:Cx)(id:String)(r:V->Hw->Hp->VK->Prop):Prop:=
 ∀(pins:Hv) (s:aJ) (Z:St) (H:Hp) (x:V) (xs:Hw) (v:Value) (us:Hu) (Q:VK),Inv X pins Z H s->RelV x v->Vals xs us->r x xs H Q ->
  aS (aY X.prog X.w) X.A (call (.builtin id)<|v::us) (EP X pins Z Q) X.xe s
theorem Vals.one:∀{x:V}{us:Hu},Vals [x] us->∃u,us=[u]/\RelV x u
 |_,_,.cons r .nil=>⟨_,rfl,r⟩
theorem Vals.zero:∀{us:Hu},Vals [] us->us=[]
 |_,.nil=>rfl
theorem Vals.dropLast{xs:Hw}{us:Hu}(h:Vals xs us):Vals xs.dropLast us.dropLast:=by
 induction h with
 |nil=>exact .nil|cons r t a=>
  cases t with
  |nil=>exact .nil|cons q b=>exact .cons r a
theorem Vals.rep{xs:Hw}{us:Hu}(h:Vals xs us):∀k:Nat,Vals (fA k xs).flatten (fA k us).flatten
 |0=>.nil
 |k+1=>by exact Vals.append h<|Vals.rep h k
theorem YU{α:Type}(l:List α):l.eraseIdx (l.length-1)=l.dropLast:=by
 induction l with
 |nil=>rfl|cons a r c=>
  cases r with
  |nil=>rfl|cons b r=>
   have e:(a::b::r).length-1=((b::r).length-1)+1:=by have h1:(a::b::r).length=r.length+2:=rfl;have d:(b::r).length=r.length+1:=rfl;lia
   rw[e,aTc,c];all_goals rfl
theorem Zb(its:Hu):∀(k:Nat) (acc:Hu),
  Qm (λx1 x2=>x1++x2) acc.toArray (fA k its.toArray)=(acc++(fA k its).flatten).toArray
 |0,acc=>by simp
 |k+1,acc=>by
  have e:acc.toArray++its.toArray=(acc++its).toArray:=by simp
  have a:(acc++its)++(fA k its).flatten=acc++(fA (k+1) its).flatten:=by rw[Ri,LI,vn]
  rw[<- a,<- Zb its k (acc++its),<- e,Ri,LK]
section
variable {X:Cx}{l b:Addr}{zs:Hw}
theorem Inv.CI{f:YY->YY}(I:Inv X pins Z H s)(hH:H l=aA (.lst xs))
  (e:s.heap.get? l=aA { cls:=.type "list",data:=.seq its.toArray n })(hf:f its.toArray=its'.toArray)(hv:Vals ys its')(hz:ys.length<=sizeLine) :
  Inv X pins Z (bG H l<|.lst ys) { s with heap:=s.heap.update l (vw f),toks:=t' }:=by
 have q:=PySem.IsL.update e f;rw[hf]at q;refine I.write (hH▸trivial) (.inl rfl) (λb u hb a=>(bu s.heap (vw f)<|lE hb).trans a) ⟨_,q⟩ ?_;exact⟨hz,its',_,hv,q⟩
theorem Inv.CD(I:Inv X pins Z H s)(hv:Vals ys its)(hz:ys.length<=sizeLine) :
  Inv X pins Z (bG H s.heap.objs.size<|.lst ys) { s with heap:=s.heap.push { cls:=.type "list",data:=.seq its.toArray },toks:=t' }:=
 I.laid (λ_ _ q=>cT _ q) (aU _) ⟨hz,its,0,hv,fS _ rfl⟩
theorem Inv.fresh(I:Inv X pins Z H s):H s.heap.objs.size=aD:=I.bA.fresh (aU _)
theorem Inv.uK(I:Inv X pins Z H s)(hH:H l=aA (.lst xs)):xs.length<=sizeLine/\∃(its:Hu) (n:Nat),Vals xs its/\xs.length=its.length/\s.heap.get? l=aA { cls:=.type "list",data:=.seq its.toArray n }:=by obtain⟨z,its,n,r,e⟩:=I.bA l _ hH;exact⟨z,its,n,r,r.length,e⟩
theorem S0(h:n<=sizeLine):KC n=aH:=by exact decide_eq_false (by lia)
end
section
variable {X:Cx}
def FW:V->Hw->Hp->VK->Prop:=λx vs H Q=>∃l xs y,x = .ref l/\vs=[y]/\H l=aA (.lst xs)/\xs.length<sizeLine/\Q .aE (bG H l<|.lst<|xs++[y])
theorem P0:ec X "list.append" FW:=by intro pins s g H x i v us Q I c d h;obtain⟨l,xs,y,rfl,rfl,b,j,q⟩:=h;cases c;obtain⟨u,rfl,f⟩:=d.one;obtain⟨z,a,n,r,hl,e⟩:=I.uK b;refine Eo F.slot_list_append ⟨_,e,rfl⟩ F.entry_list_append (F.args_list_append_2 _ _) (PySem.list_append l a.toArray n u (by rw[hW];lia)) ⟨e,?_⟩;refine⟨.aE,_,I.CI b e (by simp) (r.append<|.cons f .nil) ?_,rfl,q⟩;rw[eU,List.length_singleton];lia
def aJd:V->Hw->Hp->VK->Prop:=λx vs H Q=>∃l xs y,x = .ref l/\vs=[]/\H l=aA (.lst xs)/\xs[xs.length-1]?=aA y/\Q y (bG H l<|.lst xs.dropLast)
theorem P7:ec X "list.pop" aJd:=by
 intro pins s m H x o v us Q I f g h;obtain⟨l,xs,y,rfl,rfl,d,i,q⟩:=h;cases f;have b:=g.zero;subst b;obtain⟨z,a,n,r,hl,e⟩:=I.uK d;obtain⟨u,j,k⟩:=r.get i;have c:a.toArray[a.toArray.size-1]?=aA u:=by show a.toArray[a.length-1]?=aA u;rw[<- Qa,<- hl];exact j
 refine Eo F.slot_list_pop ⟨_,e,rfl⟩ F.entry_list_pop (F.args_list_pop_1 _) (MeetsSeq.list_pop_last l a.toArray n u c (by rw[hW];lia)) ⟨e,?_⟩;refine⟨y,_,I.CI d e ?_ r.dropLast ?_,k,q⟩
 .show a.toArray.eraseIdxIfInBounds (a.toArray.size-1)=a.dropLast.toArray;rw[hW,aTb,YU]
 .rw[List.length_dropLast];lia
def FX:R2:=λx y H Q=>∃l b xs zs,x = .ref l/\y = .ref b/\H l=aA (.lst xs)/\H b=aA (.lst zs)/\xs.length+zs.length<=sizeLine/\∀p,H p=aD->Q (.ref p) (bG H p<|.lst<|xs++zs)
theorem U6:cW X (eV .Add) FX:=by
 intro pins s p H x y v u Q I d f h;obtain⟨l,b,xs,zs,rfl,rfl,g,i,t,q⟩:=h;cases d;cases f;obtain⟨z,c,n,r,hl,e⟩:=I.uK g;obtain⟨w,a,A,j,k,m⟩:=I.uK i;refine PySem.P.add_list e m ?_ (by rw[hW,hW];omega);have o:c.toArray++a.toArray=(c++a).toArray:=by simp
 rw[o];exact⟨.ref _,_,I.CD (r.append j) (by rw[eU];omega),rfl,q _ I.fresh⟩
def aJe:R2:=λx y H Q=>∃l k xs,x = .ref l/\y = .int k/\H l=aA (.lst xs)/\-(2 ^ 63)<=k/\k<2 ^ 63/\xs.length*k.toNat<=sizeLine /\
 ∀p,H p=aD->Q (.ref p) (bG H p<|.lst (fA k.toNat xs).flatten)
theorem M4{α:Type}(xs:List α)(k:Nat):(fA k xs).flatten.length=k*xs.length:=by
 induction k with
 |zero=>simp|succ k a=>rw[Ri,LI,eU,a,Nat.succ_mul,MF]
theorem X0:cW X (eV .Mult) aJe:=by
 intro pins s D H x y v u Q I p w h;obtain⟨l,k,xs,rfl,rfl,A,h1,B,o,q⟩:=h;cases p;obtain⟨t,rfl⟩:=w;obtain⟨z,b,n,r,hl,e⟩:=I.uK A;have hlen:b.toArray.size*k.toNat<=sizeLine:=by rw[hW,<- hl];exact o
 have d:¬b.toArray.size*k.toNat > (2 ^ 63-1) / 8:=by
  have:sizeLine<=(2 ^ 63-1) / 8:=by decide
  lia
 have f:¬(!Builtin.List.listFitsIndex k)=aB:=by rw[fitsIndex_both h1 B];exact fX
 have c:¬KC (b.toArray.size*k.toNat)=aB:=by rw[S0 hlen];exact fX
 have g:Qm (λi j=>i++j) #[] (fA (if b.toArray.isEmpty=aB then 0 else k.toNat) b.toArray)=(fA k.toNat b).flatten.toArray:=by
  have f0:∀m:Nat,Qm (λi j=>i++j) #[] (fA m b.toArray)=(fA m b).flatten.toArray:=λm=>by have:=Zb b m [];exact this
  rw[f0];cases b with
  |nil=>simp|cons a E=>rw[if_neg (by simp)]
 refine wpAny_binaryOp_repeat_ref (rfl) ⟨_,e,rfl⟩ (λC=>Tv C k t) noFill_list_mul F.fills_int_mul KM repeat_list F.slot_int_index.lookup
  (Eo KM (Tv s k t) F.entry_int_rmul (F.args_int_rmul_2 _ _) (int___rmul___int_list k t l b.toArray n)
   ⟨e,rfl,⟨_,e,rfl⟩,Eo F.slot_list_mul ⟨_,e,rfl⟩ F.entry_list_mul (F.args_list_mul_2 _ _) (aSx l b.toArray n k t f d c) ⟨e,?_⟩⟩)
 rw[g];exact⟨.ref _,_,I.CD (r.rep k.toNat) (by rw[M4,Nat.mul_comm];exact o),rfl,q _ I.fresh⟩
end
end L2
namespace Att
open PySem PySem.W PySem.Calls PyProof.Rows
variable {h:bH}{l:OpenLaw}{n:Nat}
theorem F3{P:bS}:∀(ns:Hx) (vs:Hu),WellAll P h vs (ns.map WData.int)->vK vs ns:=by
 intro ns;induction ns with
 |nil=>intro vs w;cases w;exact .nil
 |cons n ns c=>
  intro vs w;cases w with
  |cons a b=>cases a;exact .cons _ _<|c _ b
theorem aKd(hn:l.most=aA n){P:bS}{args:List WData}{vals:Hu}
  (AQ:l.row.toRowW.claim.pre args=aB)(hwl:WellAll P h vals args) :
  ∃a vs ns,vals=[kO a]/\args=[WData.list (ns.map WData.int)]/\h.get? a=aA { cls:=.type "list",data:=.seq vs.toArray }/\vK vs ns/\ns.length<=n:=by
 have e:WShape.hasAll [] args [.list .int]=aB:=(pre_splitW AQ).1;have g:=(pre_splitW AQ).2;obtain⟨d,r,rfl,h1,i⟩:=hasAllW_cons e;obtain rfl:=hasAllW_nil i;obtain⟨xs,rfl,j⟩:=hasW_list h1;obtain⟨ns,rfl⟩:=items_int j;have hlen:ns.length<=n:=by
  have c:(WTm.not<|.lt (.lit<|.int n)<|.len<|.arg 0).holds [] { args:=[.list (ns.map .int)] }=aB:=by have c:=(holds_andW g).1;rw[hn]at c;exact c
  have f:=condW_of c (w_not<|w_lt w_lit<|w_len_list<|w_arg rfl);refine Nat.le_of_not_lt λq=>?_;first
   | (exact absurd f<|rfl)
   | (simp at f;lia)
 cases hwl with
 |cons k m=>
  cases m;cases k with
  |list o b=>exact⟨_,_,ns,rfl,rfl,o,F3 ns _ b,hlen⟩
theorem aCc(l:OpenLaw)(args:List WData):l.row.toRowW.claim.post args (.bool aB) args=aB:=
 postW_of
  (show WShape.has [] (.bool aB) .bool=aB by first|rfl|decide|simp[WShape.has])
  (show(WTm.eq .res<|.lit<|.bool aB).value [] { args:=args,res:=aA (.bool aB),after:=args }=aA (.bool<|aB==aB) from w_eq_bool (w_res rfl) w_lit) rfl
theorem OY{q:cB}{loose:YX}{XP:(Str->Hz)->bH->Prop}{YP:bR->bH->Prop}{d:DefRec}
  (hn:l.most=aA n)(hdf:d.params.defaults=[])
  (call:∀(w:bR) (s₀ s₁:aJ) (mg mb:Str->Hz) (fa:Addr) (o:Obj) (pm cd doc:Value) (a:Addr) (vs:Hu) (ns:Hx),
   Ground q loose [] XP w s₀ mg mb s₁.heap->YP w s₁.heap ->
   s₁.heap.get? fa=aA o->o.data = .func (docDef d.name d.params d.body d.scope pm cd doc)->s₁.heap.CodeRec cd d.name->mg d.name=aA (.ref fa) ->
   s₁.heap.get? a=aA { cls:=.type "list",data:=.seq vs.toArray }->vK vs ns->ns.length<=n->s₁.gens=#[] ->
   tM (aY l.prog w) xY (.call (.ref fa) ⟨[.ref a],[]⟩) (λr s'=>r = .ok (.ret<|.bool aB)/\OldK s₁.heap s'.heap/\s'.os=s₁.os/\vI s'.gens) s₁) :
  WalkO q loose XP YP l.row.toRowW d [] (λf vs=>Sz f vs):=by
 intro w s₀ s₁ mg mb G Y fa o pm cd doc k kV m hd e i g p args vals as b j s h t;obtain rfl:k = .none:=Dflts.none i hdf;obtain rfl:kV = .none:=Dflts.noKw i;obtain⟨a,vs,ns,rfl,rfl,c,hints,hlen⟩:=aKd hn b h;refine enter_call<|wg (call w s₀ s₁ mg mb fa o pm cd doc a vs ns G Y m (fd_plain hd) e g c hints hlen p) λr s' u=>?_;obtain⟨rfl,v,x,y⟩:=u;exact⟨.inl ⟨.bool aB,.bool aB,[],rfl,λ_=>rfl,.bool aB,aCc l _,λ_=>⟨kg,λ_ hm=>(nomatch hm)⟩⟩,v,x,y⟩
end Att
namespace L2
open PySem PySem.Spec PyProof.Rows
variable {A:cJ}{CX:nT}{H H':Hp}{N':YX}{Q:Value->aJ->Prop}{a:Addr}{ct:Option aL}{fd:eT}{fp:Hy}{h':bH}{kvs:List (List aN×V)}{mg:Str->Hz}{o:Option V}{outer:Yp}{pins:Hv}{pos:Pos}{r u:Value}{s:aJ}{scope:gJ}{sp:Sp}{tc:TT}{te:TE}{us:Hu}{v y:V}{w:bR}{x:Str}{xs:List (List aN×Addr×Value)}{Z Z':St}
theorem IM:∀{vs:Hu}{ns:Hx},vK vs ns->Vals (ns.map V.int) vs
 |_,_,.nil=>.nil
 |_,_,.cons n t h=>.cons ⟨t,rfl⟩ (IM h)
def xg(H:Hp):Prop:=∀b,H b=aD\/∃o xs,H b=aA (.dC o<|.lst xs)
theorem K7{P:cB}{K:bI}{mb:Str->Hz}{k:Nat}{fa:Addr}{s₁:aJ}{vs:Hu}{ns:Hx}
  (KX:K.In s₁.heap)(hns:s₁.heap.Ns iZ mg)(hb:s₁.heap.Ns Td mb)(hbb:∀x:Str,x≠"__name__"->mb x=mV x)(D6:s₁.heap.NoLimit)(hg:s₁.gens=#[])
  (ha:s₁.heap.get? a=aA { cls:=.type "list",data:=.seq vs.toArray })(hi:vK vs ns)(hl:ns.length<=sizeLine)(hr:fF k xY)
  (F:∀base:bH,K.In base->base.Ns iZ mg->iP P w K mg base CX k fa fd [x] sp)(D2:∀(s:aJ) (u:Value),ju s fd ⟨[u],[]⟩ [(x,u)])
  (hsp:∀H:Hp,xg H->dN K H a (ns.map V.int)->sp [.ref a] H (λv _=>v = .bl aB) λ_ _ _=>False)
  (hCX:∀H e s',CX [] H s₁ (λ_ _ _=>False) e s'->False) :
  tM (aY P w) xY (.call (.ref fa) ⟨[.ref a],[]⟩) (λr s'=>r = .ok (.ret<|.bool aB)/\OldK s₁.heap s'.heap/\s'.os=s₁.os/\vI s'.gens) s₁:=by
 have D:=IM hi;have f:=hi.length;have core:∀H:Hp,xg H->dN K H a (ns.map V.int)->eW P w H s₁.heap->(∀b,H b≠aD->b=a)->(H a≠aD->K.lookup a=aD) ->
   tM (aY P w) xY (.call (.ref fa) ⟨[.ref a],[]⟩) (λr s'=>r = .ok (.ret<|.bool aB)/\OldK s₁.heap s'.heap/\s'.os=s₁.os/\vI s'.gens) s₁:=by
  intro H E J bA G L;have base_of:∀{b:Addr}{o:Obj},s₁.heap.get? b=aA o->H b=aD->(wX s₁.heap H).get? b=aA o:=λe n=>D4 e n;have A:∀{b:Addr}{o:Obj}{i:Array DictEntry}{j:Nat},s₁.heap.get? b=aA o->o.data = .dict i j->H b=aD:=λ{b o i j} e d=>by
   cases q:H b with
   |none=>rfl|some u=>have B:=G b (by rw[q];simp);subst B;rw[ha]at e;cases e;have M:=d;cases M
  have c:∀{b:Addr}{m:Str->Hz},s₁.heap.Ns b m->(wX s₁.heap H).Ns b m:=λ{b m} ⟨o,i,j,e,d,r⟩=>⟨o,i,j,base_of e (A e d),d,r⟩;have l:=λb o e=>base_of (KX b o e) (by
   cases q:H b with
   |none=>rfl|some u=>have B:=G b (by rw[q];simp);subst B;rw[L (by rw[q];simp)]at e;cases e)
  have N:Mod K mg (wX s₁.heap H):=⟨l,c hns,⟨mb,c hb,hbb⟩,let ⟨O,h1,Q⟩:=D6;⟨O,c h1,Q⟩⟩;have R:yC P w K mg (wX s₁.heap H) xY [] s₁ H:=⟨rfl,N,λb o e=>T8 e,MG (D5 _ _),trivial,λb hb=>absurd (show b∈([]:Hy) from hb) (by simp),bA,.of_eq hg⟩;refine wg ((F _ l<|c hns).run xY [] s₁ H ⟨[.ref a],[]⟩ [.ref a] [.ref a] _ _ hr R (D2 s₁<|.ref a) (.cons rfl .nil) (hsp H E J)) λr s' h=>?_;cases r with
  |error e=>exact(hCX H e s' h).elim|ok fl=>
   cases fl with
   |next=>exact mT h|brk=>exact mT h|cont=>exact mT h|ret u=>
    obtain⟨v,X,os,bare,un,p,S,q⟩:=h;have T:=q;subst T;obtain rfl:u=cq aB:=S;refine⟨rfl,OldK.of_keep λb o e=>?_,os,bare⟩;cases q:H b with
    |none=>exact un.keep b o e q (by intro z;exact absurd (show b∈([]:Hy) from z) (by simp)) (by simp)|some u=>
     rcases E b with z|⟨ob,xs,z⟩
     .rw[q]at z;cases z
     .have U:=un.pZ b ob _ z;obtain⟨I,_⟩:=bA b _ z;obtain⟨W,_⟩:=p b _ U;rw[e]at I;cases I;exact W
 cases C:K.lookup a with
 |some o=>have e:=KX a o C;rw[ha]at e;cases e;refine core (λ_=>aD) (λ_=>.inl rfl) (.inr ⟨_,vs.toArray,_,C,rfl,rfl,rfl,by rw[hW,f];exact hl,by simpa using D⟩) (λb u z=>by have t:=z;cases t) (λb z=>absurd rfl z) λz=>absurd rfl z
 |none=>
  refine core (λb=>if b=a then aA (.dC { cls:=.type "list",data:=.seq vs.toArray } (.lst<|ns.map V.int)) else aD) (λb=>?_) (.inl<|.inr ⟨{ cls:=.type "list",data:=.seq vs.toArray },if_pos rfl⟩) (λb u z=>?_) (λb z=>?_) λ_=>C
  .by_cases hb:b=a
   .exact .inr ⟨_,_,if_pos hb⟩
   .exact .inl<|if_neg hb
  .by_cases hb:b=a
   .have t:=(if_pos hb).symm.trans z;cases t;subst hb;exact⟨ha,by rw[aW];exact hl,vs,_,D,ha⟩
   .have t:=(if_neg hb).symm.trans z;cases t
  .by_cases hb:b=a
   .exact hb
   .exact absurd (if_neg hb) z
theorem aPn{l:Sj}{n k:Nat}{q:cB}{loose:YX}{XP:(Str->Hz)->bH->Prop}{YP:bR->bH->Prop}{d:DefRec}{K:bS->bI}{CX:bR->nT}{sp:bR->Sp}
  (hn:l.most=aA n)(hn2:n<=sizeLine)(hdf:d.params.defaults=[])(hr:fF k xY)
  (hY:∀(w:bR) (h:bH),YP w h->(K w.params).In h)
  (F:∀(w:bR) (mg:Str->Hz) (fa:Addr) (h:bH),(K w.params).In h->h.Ns iZ mg->mg d.name=aA (.ref fa) ->
   ∃fd:eT,(∀(s:aJ) (u:Value),ju s fd ⟨[u],[]⟩ [(x,u)]) /\
    ∀base:bH,(K w.params).In base->base.Ns iZ mg->iP l.prog w (K w.params) mg base (CX w) k fa fd [x] (sp w))
  (hsp:∀(w:bR) (H:Hp) (a:Addr) (ns:Hx),ns.length<=n->xg H->dN (K w.params) H a (ns.map V.int)->sp w [.ref a] H (λv _=>v = .bl aB) λ_ _ _=>False)
  (hCX:∀(w:bR) (H:Hp) (s:aJ) (e:Value) (s':aJ),CX w [] H s (λ_ _ _=>False) e s'->False) :
  NJ q loose XP YP l.row.toRowW d [] (λf vs=>Sz f vs):=by
 refine Att.OY hn hdf λw s₀ s₁ mg mb fa o pm cd doc a vs ns G Y ho hd hcd hmg D7 hints hlen hg=>?_;have KX:=hY w _ Y;obtain⟨fd,hb,hF⟩:=F w mg fa _ KX G.T.g hmg;exact K7 KX G.T.g G.T.b G.T.builtins G.T.nolimit hg D7 hints (cD hlen hn2) hr hF hb (λH hO hS=>hsp w H a ns hlen hO hS) λH e s'=>hCX w H s₁ e s'
def yh(s:Stmt):Py:=match s with
 |.FunctionDef _ a _ _ _ _ _ _ _ _=>a
 |_=>{ posonlyargs:=[],args:=[],vararg:=aD,kwonlyargs:=[],kw_defaults:=[],kwarg:=aD,defaults:=[] }
def fq(s:Stmt):YV:=match s with
 |.FunctionDef _ _ b _ _ _ _ _ _ _=>b
 |_=>[]
def pU(s:Stmt):gJ:=match s with
 |.FunctionDef _ _ _ _ _ _ sc _ _ _=>sc
 |_=>{ kind:=.function,names:=[],isGenerator:=aH,isCoroutine:=aH }
abbrev E0:XK:=λ_ _ _=>False
section
variable {κ:Type} [DecidableEq κ]
def fK(kvs:List (κ×V))(k:κ):Option V:=(kvs.find? λkv=>decide (kv.1=k)).map (·.2)
def putK(kvs:List (κ×V))(k:κ)(v:V):List (κ×V):=
 if(kvs.any λkv=>decide (kv.1=k))=aB then kvs.map (λkv=>if kv.1=k then(kv.1,v) else kv) else kvs++[(k,v)]
def rY(kvs:List (κ×V))(k:κ):List (κ×V):=kvs.filter λkv=>decide (kv.1≠k)
theorem Pa{p:κ×V}{r:List (κ×V)}{k:κ}(e:p.1=k):fK (p::r) k=aA p.2:=by simp[fK,e]
theorem Oz{p:κ×V}{r:List (κ×V)}{k:κ}(e:¬p.1=k):fK (p::r) k=fK r k:=by simp[fK,e]
theorem IL(k:κ):∀kvs:List (κ×V),(kvs.any λkv=>decide (kv.1=k))=(fK kvs k).isSome
 |[]=>rfl|p::r=>by
  rw[rJ];by_cases e:p.1=k
  .simp only[Pa e,decide_eq_true e,Bool.true_or,Option.isSome_some]
  .rw[Oz e,decide_eq_false e];exact IL k r
theorem Kb(kvs:List (κ×V))(k:κ)(v:V):(putK kvs k v).length<=kvs.length+1:=by
 unfold putK;split
 .rw[aW];lia
 .rw[eU,lA,Qv];lia
theorem iH.qx{u:Hz}(r:iH o u):o.isSome=u.isSome:=by
 cases o with
 |none=>cases u with
  |none=>rfl|some _=>exact(r).elim
 |some _=>cases u with
  |none=>exact(r).elim|some _=>rfl
theorem iH.getD{o:Option V}{u:Hz}{d:V}{d':Value}(r:iH o u)(rd:RelV d d'):RelV (o.getD d) (u.getD d'):=by
 cases o with
 |none=>cases u with
  |none=>exact rd|some _=>exact(r).elim
 |some _=>cases u with
  |none=>exact(r).elim|some _=>exact r
theorem KV.val{kvs:List (κ×V)}{vs:List (κ×Value)}(r:KV kvs vs)(k:κ):iH (fK kvs k) (di vs k):=by
 induction r with
 |nil=>exact oQ|@cons p q ps a h t d=>
  obtain⟨h1,f⟩:=h;by_cases e:p.1=k
  .have c:=h1.symm.trans e;have b:di (q::a) k=aA q.2:=by simp[di,c]
   rw[Pa e,b];exact f
  .have c:¬q.1=k:=λz=>e (h1.trans z);have b:di (q::a) k=di a k:=by simp[di,c]
   rw[Oz e,b];exact d
theorem KV.any{kvs:List (κ×V)}{vs:List (κ×Value)}(r:KV kvs vs)(k:κ):(kvs.any λkv=>decide (kv.1=k))=vs.any λkv=>decide (kv.1=k):=by
 induction r with
 |nil=>rfl|cons h t a=>rw[rJ,rJ,a,h.1]
theorem KV.Nl{kvs:List (κ×V)}{vs:List (κ×Value)}(r:KV kvs vs)(k:κ)(ry:RelV y u) :
  KV (kvs.map λkv=>if kv.1=k then(kv.1,y) else kv) (vs.map λkv=>if kv.1=k then(kv.1,u) else kv):=by
 induction r with
 |nil=>exact .nil|@cons p q ps c h t a=>
  rw[kM,kM];refine .cons ?_ a;obtain⟨h1,b⟩:=h;by_cases e:p.1=k
  .rw[if_pos e,if_pos (h1.symm.trans e)];exact⟨h1,ry⟩
  .rw[if_neg e,if_neg (λz=>e (h1.trans z))];exact⟨h1,b⟩
theorem KV.put{kvs:List (κ×V)}{vs:List (κ×Value)}(r:KV kvs vs)(k:κ)(ry:RelV y u):KV (putK kvs k y) (stored vs k u):=by
 unfold putK stored;rw[r.any k];by_cases e:(vs.any λa=>decide (a.1=k))=aB
 .rw[if_pos e,if_pos e];exact r.Nl k ry
 .rw[if_neg e,if_neg e];exact Paired.snoc r ⟨rfl,ry⟩
theorem KV.drop{kvs:List (κ×V)}{vs:List (κ×Value)}(r:KV kvs vs)(k:κ):KV (rY kvs k) (without vs k):=by
 unfold rY without;induction r with
 |nil=>exact .nil|@cons p q ps g h t c=>
  obtain⟨h1,d⟩:=h;rw[oO,oO];by_cases e:p.1=k
  .have a:¬decide (p.1≠k)=aB:=by simp[e]
   have b:¬decide (q.1≠k)=aB:=by simp[h1.symm.trans e]
   rw[if_neg a,if_neg b];exact c
  .have f:¬q.1=k:=λz=>e (h1.trans z);have a:decide (p.1≠k)=aB:=by simp[e]
   have b:decide (q.1≠k)=aB:=by simp[f]
   rw[if_pos a,if_pos b];exact .cons ⟨h1,d⟩ c
theorem KV.length{kvs:List (κ×V)}{vs:List (κ×Value)}(r:KV kvs vs):kvs.length=vs.length:=Ea r
theorem YJ(kvs:List (κ×V))(k:κ):(rY kvs k).length<=kvs.length:=rM _ _
end
theorem sH{P:cB}{k:aN}(r:RelV (kV k) u):(gP P w).is k u=aB:=by
 cases k with
 |inl i=>obtain⟨t,e⟩:=(r);subst e;exact O6 P w i t|inr x=>obtain⟨t,e⟩:=(r);subst e;exact O7 P w x t
theorem BA{P:cB}{w:bR}:∀{ks:List aN}{us:Hu},Vals (ks.map kV) us->ItemsAre (gP P w) ks us
 |[],_,r=>by cases r;exact .nil
 |k::ks,_,r=>by
  cases r with
  |cons h t=>exact .cons (sH h)<|BA t
abbrev KT(H:Hp):List (List aN×V)->List (List aN×Addr×Value)->Prop:=ko λp q=>p.1=q.1/\H q.2.1=aA (.tup<|p.1.map kV)/\RelV p.2 q.2.2
theorem KT.val(r:KT H kvs xs)(k:List aN):iH (fK kvs k) ((xW xs k).map (·.2)):=by
 induction r with
 |nil=>exact oQ|@cons p q ps a h t d=>
  obtain⟨h1,_,f⟩:=h;by_cases e:p.1=k
  .have c:=h1.symm.trans e;have b:xW (q::a) k=aA q.2:=by simp[xW,c]
   rw[Pa e,b];exact f
  .have c:¬q.1=k:=λz=>e (h1.trans z);have b:xW (q::a) k=xW a k:=by simp[xW,c]
   rw[Oz e,b];exact d
theorem KT.Nl(r:KT H kvs xs)(k:List aN)(ry:RelV y u) :
  KT H (kvs.map λkv=>if kv.1=k then(kv.1,y) else kv) (xs.map<|putAt k u):=by
 induction r with
 |nil=>exact .nil|@cons p q ps d h t b=>
  rw[kM];refine .cons ?_ b;obtain⟨h1,a,c⟩:=h;unfold putAt;by_cases e:p.1=k
  .rw[if_pos e,if_pos (h1.symm.trans e)];exact⟨h1,a,ry⟩
  .rw[if_neg e,if_neg (λz=>e (h1.trans z))];exact⟨h1,a,c⟩
theorem KT.put(r:KT H kvs xs)(k:List aN){b:Addr}(hb:H b=aA (.tup<|k.map kV))(ry:RelV y u) :
  KT H (putK kvs k y) (storedH xs k b u):=by
 have e:(kvs.any λa=>decide (a.1=k))=(xW xs k).isSome:=by rw[IL,(r.val k).qx,Rx]
 unfold putK storedH;rw[e];by_cases q:(xW xs k).isSome=aB
 .rw[if_pos q,if_pos q];exact r.Nl k ry
 .rw[if_neg q,if_neg q];exact Paired.snoc r ⟨rfl,hb,ry⟩
theorem KT.keeps(r:KT H kvs xs)(ht:∀b ys,H b=aA (.tup ys)->H' b=aA (.tup ys)):KT H' kvs xs:=
 Paired.Kj r λ_ _ z=>⟨z.1,ht _ _ z.2.1,z.2.2⟩
section
variable {P:cB}{h:bH}
theorem GK{u:HO}(ok:eW P w H h)(e:Rd H a u):hZ P w H h a u:=e.ok ok
theorem yV{kvs:List (aN×V)}(ok:eW P w H h)(e:Rd H a (.dK kvs)):kvs.length<=sizeLine/\(a==tP)=aH/\∃vs,KV kvs vs/\h.DictOf (gP P w) a vs:=
 show hZ P w H h a (.dK kvs) from GK ok e
theorem yi{kvs:List (aN×V)}(ok:eW P w H h)(e:H a=aA (.dK kvs)):kvs.length<=sizeLine/\(a==tP)=aH/\∃vs,KV kvs vs/\h.DictOf (gP P w) a vs:=yV ok (.inl e)
theorem zU{ks:List aN}(ok:eW P w H h)(e:H a=aA (.tup<|ks.map kV)):(dh<|gP P w).is h ks a:=by obtain⟨_,b,r,o,h1,c,n,d⟩:=(show hZ P w H h a (.tup<|ks.map kV) from ok a _ e);exact⟨o,b.toArray,n,h1,c,d,by simpa using BA r⟩
theorem yW(ok:eW P w H h)(e:Rd H a (.dT kvs)):kvs.length<=sizeLine/\(a==tP)=aH /\
  ∃xs,KT H kvs xs/\h.DictOfH (dh<|gP P w) a xs:=by
 obtain⟨z,y,xs,r,o,c,d,h1,f,g,i,j⟩:=(show hZ P w H h a (.dT kvs) from GK ok e);refine⟨z,y,xs,r,o,c,d,h1,f,g,i,λx hx=>?_,j⟩;have all:∀{l:List (List aN×V)}{m:List (List aN×Addr×Value)},KT H l m->∀x∈m,(dh<|gP P w).is h x.1 x.2.1:=by
  intro l m q;induction q with
  |nil=>intro x hx;exact nomatch hx|@cons p q ps n b t k=>
   intro x hx;rcases List.mem_cons.mp hx with e|hx
   .subst e;exact zU ok<|b.1▸b.2.1
   .exact k x hx
 exact all r x hx
theorem YL(ok:eW P w H h)(e:H a=aA (.dT kvs)):kvs.length<=sizeLine/\(a==tP)=aH /\
 ∃xs,KT H kvs xs/\h.DictOfH (dh<|gP P w) a xs:=yW ok (.inl e)
end
def lV(H:Hp)(a:Addr)(y:V)(r:Option V):Prop:=
 (∃kvs k,Rd H a (.dK kvs)/\y=kV k/\r=fK kvs k)\/∃kvs k b,Rd H a (.dT kvs)/\y = .ref b/\H b=aA (.tup<|k.map kV)/\r=fK kvs k
def mn(H:Hp)(a:Addr)(y v:V)(H':Hp):Prop:=
 (∃kvs k,H a=aA (.dK kvs)/\y=kV k/\kvs.length<sizeLine/\H'=bG H a (.dK<|putK kvs k v)) \/
 ∃kvs k b,H a=aA (.dT kvs)/\y = .ref b/\H b=aA (.tup<|k.map kV)/\kvs.length<sizeLine/\H'=bG H a (.dT<|putK kvs k v)
theorem lV.k{H:Hp}{a:Addr}{kvs:List (aN×V)}{k:aN}(e:H a=aA (.dK kvs)):lV H a (kV k) (fK kvs k):=.inl ⟨kvs,k,.inl e,rfl,rfl⟩
theorem mn.k{H:Hp}{a:Addr}{kvs:List (aN×V)}{k:aN}{v:V}(e:H a=aA (.dK kvs))(hl:kvs.length<sizeLine):mn H a (kV k) v (bG H a<|.dK<|putK kvs k v):=.inl ⟨kvs,k,e,rfl,hl,rfl⟩
section
variable {X:Cx}{E:Value->aJ->Prop}
theorem Inv.big(I:Inv X pins Z H s):tP<s.heap.objs.size:=by have h:=(I.mod.glob.keeps I.bk).lt;exact Nat.lt_trans (by decide) h
theorem XM(hu:A.units+1<cLine)(I:Inv X pins Z H s)(g:lV H a y (aA v))(ry:RelV y u)(h:∀w' s',Inv X pins Z H s'->RelV v w'->Q w' s') :
  aS (aY X.prog X.w) A (cy (.ref a) u) Q E s:=by
 rcases g with⟨d,k,e,f,l⟩|⟨d,k,b,e,f,j,l⟩
 .subst f;obtain⟨z,hd,n,rel,dd⟩:=yV I.bA e;obtain⟨w',hw,c⟩:=iH.some_of (by rw[l];exact rel.val k);exact wpAny_getItem_of (sH ry) dd.mapOf hw<|h w' _ (I.tok _) c
 .subst f;cases(ry);obtain⟨z,hd,xs,rel,dd⟩:=yW I.bA e;obtain⟨w',hw,c⟩:=iH.some_of (by rw[l];exact rel.val k);obtain⟨p,m,i⟩:=Option.map_eq_some_iff.mp hw;refine wpAny_getItem_heap (lz hu) (zU I.bA j) dd m ?_;rw[i];exact h w' _ (I.tok _) c
theorem XN(hu:A.units+1<cLine)(I:Inv X pins Z H s)(g:lV H a y o)(ry:RelV y u)(h:∀s',Inv X pins Z H s'->Q (.bool o.isSome) s') :
  aS (aY X.prog X.w) A (dM .In u<|.ref a) Q E s:=by
 rcases g with⟨c,k,e,d,l⟩|⟨c,k,b,e,d,f,l⟩
 .subst d;obtain⟨z,hd,i,rel,dd⟩:=yV I.bA e;refine wpAny_in_of (sH ry) hd dd.mapOf ?_;rw[<- (rel.val k).qx,<- l];exact h _<|I.tok _
 .subst d;cases(ry);obtain⟨z,hd,xs,rel,dd⟩:=yW I.bA e;refine wpAny_in_heap (lz hu) (zU I.bA f) hd dd ?_;have q:=(rel.val k).qx;rw[Rx]at q;rw[<- q,<- l];exact h _<|I.tok _
theorem XO(hu:A.units+1<cLine)(I:Inv X pins Z H s)(g:lV H a y o)(ry:RelV y u)(h:∀s',Inv X pins Z H s'->Q (.bool<|!o.isSome) s') :
  aS (aY X.prog X.w) A (dM .NotIn u<|.ref a) Q E s:=by
 rcases g with⟨c,k,e,d,l⟩|⟨c,k,b,e,d,f,l⟩
 .subst d;obtain⟨z,hd,i,rel,dd⟩:=yV I.bA e;refine wpAny_notIn_of (sH ry) hd dd.mapOf ?_;rw[<- (rel.val k).qx,<- l];exact h _<|I.tok _
 .subst d;cases(ry);obtain⟨z,hd,xs,rel,dd⟩:=yW I.bA e;refine wpAny_notIn_heap (lz hu) (zU I.bA f) hd dd ?_;have q:=(rel.val k).qx;rw[Rx]at q;rw[<- q,<- l];exact h _<|I.tok _
theorem yg{t':Nat}{ob:HO}(I:Inv X pins Z H s)(mu:ee (H a))(hs:xQ a s.heap h')(he:∃q,h'.get? a=aA q)(new:hZ X.prog X.w (bG H a ob) h' a ob) :
  Inv X pins Z (bG H a ob) { s with heap:=h',toks:=t' }:=
 I.write mu (.inl rfl) (λb q hb z=>(hs.2 b hb).trans z) he new
theorem Hg{P:cB}{kvs:List (aN×V)}{vs:List (aN×Value)}(z:kvs.length<=sizeLine)(hd:(a==tP)=aH)(rel:KV kvs vs)(dd:h'.DictOf (gP P w) a vs) :
 hZ P w H' h' a (.dK kvs):=⟨z,hd,vs,rel,dd⟩
theorem XR{Q:Unit->aJ->Prop}(hu:A.units+1<cLine)(I:Inv X pins Z H s)(g:mn H a y v H')(ry:RelV y u)(rv:RelV v r)(h:∀s',Inv X pins Z H' s'->Q () s') :
  aS (aY X.prog X.w) A (setItem (.ref a) u r) Q E s:=by
 rcases g with⟨d,k,e,j,l,m⟩|⟨d,k,b,e,j,o,l,m⟩
 .subst j m;obtain⟨z,hd,w,rel,dd⟩:=yi I.bA e;have n:=rel.length▸z;have hl:(putK d k v).length<=sizeLine:=by have:=Kb d k v;lia
  refine wpAny_setItem_pairs (hsz:=n) (sH ry) dd λp f hs=>h _ ?_;have he:∃q,p.get? a=aA q:=let ⟨q,_,_,i,_⟩:=f;⟨q,i⟩;exact yg I (e▸oQ) hs he<|Hg hl hd (rel.put k rv) f
 .subst j m;cases(ry);obtain⟨z,hd,xs,rel,dd⟩:=YL I.bA e;have n:xs.length<=sizeLine:=by rw[<- Ea rel];exact z
  have hl:(putK d k v).length<=sizeLine:=by have:=Kb d k v;lia
  refine wpAny_setItem_heap (hsz:=n) (lz hu) (zU I.bA o) dd λp f hs=>h _ ?_;obtain⟨q,x,B,i,C,D,F,_,G⟩:=f;refine yg I (e▸oQ) hs ⟨q,i⟩ ⟨hl,hd,_,(rel.put k o rv).keeps λc J t=>?_,q,x,B,i,C,D,F,G⟩;rw[bY (qP t e<|nofun)];exact t
end
section
variable {X:Cx}{kvs:List (aN×V)}{k:aN}{E:Value->aJ->Prop}
theorem Xh{more:Hu}(I:Inv X pins Z H s)(e:H a=aA (.dK kvs))(ry:RelV (kV k) u)(l:fK kvs k=aA v)(hm:more=[]\/∃x,more=[x])
  (h:∀w' s',Inv X pins Z (bG H a<|.dK<|rY kvs k) s'->RelV v w'->Q w' s'):aS (aY X.prog X.w) A (call (.builtin "dict.pop")<|.ref a::u::more) Q E s:=by
 obtain⟨z,hd,d,rel,dd⟩:=yi I.bA e;obtain⟨w',hw,c⟩:=iH.some_of (by rw[<- l];exact rel.val k);have f:(keyPart u).isSome=aB:=by
  cases k with
  |inl i=>obtain⟨t,q⟩:=(ry);subst q;rfl|inr x=>obtain⟨t,q⟩:=(ry);subst q;rfl
 have ha:argsOk "dict.pop" ⟨.ref a::u::more,[]⟩:=by
  rcases hm with q|⟨x,q⟩
  .subst q;exact aUi _ _
  .subst q;exact MY _ _ _
 refine cx Sf dd.typeIs MZ ha (meets_dict_pop_there (gP X.prog X.w) a (sH ry) more hm f)
  ⟨d,w',dd,rel.length▸z,hw,λg b hs=>h w' _ ?_ c⟩
 have he:∃q,g.get? a=aA q:=let ⟨q,_,_,j,_⟩:=b;⟨q,j⟩;exact yg I (e▸oQ) hs he<|Hg (cD (YJ kvs k) z) hd (rel.drop k) b
theorem XQ(I:Inv X pins Z H s)(e:H a=aA (.dK kvs))(ry:RelV (kV k) u)(l:fK kvs k=aD)(h:∀s',Inv X pins Z H s'->Q r s') :
  aS (aY X.prog X.w) A (call (.builtin "dict.pop") [.ref a,u,r]) Q E s:=by
 obtain⟨z,hd,b,rel,dd⟩:=yi I.bA e;have hn:=iH.none_of (by rw[<- l];exact rel.val k);have c:(keyPart u).isSome=aB:=by
  cases k with
  |inl i=>obtain⟨t,q⟩:=(ry);subst q;rfl|inr x=>obtain⟨t,q⟩:=(ry);subst q;rfl
 exact cx Sf dd.typeIs MZ (MY _ _ _) (meets_dict_pop_default (gP X.prog X.w) a (sH ry) hd c r) ⟨b,dd,hn,h _ (I.tok _)⟩
end
theorem XZ{X:Cx}(I:Inv X pins Z H s)(g:lV H a y o):s.TypeIs (.ref a) "dict":=by
 rcases g with⟨c,k,e,_,_⟩|⟨c,k,b,e,_,_,_⟩
 .obtain⟨_,_,d,_,dd⟩:=yV I.bA e;exact dd.typeIs
 .obtain⟨_,_,xs,_,dd⟩:=yW I.bA e;exact dd.typeIs
theorem YA{P:cB}(h:bH)(hb:tP<h.objs.size):hZ P w H (h.push { cls:=.type "dict",data:=.dict #[] }) h.objs.size (.dK []):=
 ⟨gX _,beq_eq_false_iff_ne.mpr (lE<|bV hb),[],.nil,Heap.DictOf.new h⟩
def aMs:TE:=λ_ H Q=>∀p,H p=aD->Q (.ref p) (bG H p<|.dK [])
section
variable {X:Cx}
theorem aAj:PE X (.Dict [] [] pos) aMs:=λpins s Z H Q I h=>wpAny_Dict_empty ⟨.ref s.heap.objs.size,_,I.laid (λ_ _ q=>cT _ q) (aU _) (YA s.heap I.big),rfl,h _ (I.bA.fresh<|aU _)⟩
end
section
variable {X:Cx}{d:V}{E:Value->aJ->Prop}
theorem XI(hu:A.units+1<cLine)(I:Inv X pins Z H s)(g:lV H a y o)(ry:RelV y u)(h:∀w' s',Inv X pins Z H s'->RelV (o.getD .aE) w'->Q w' s') :
  aS (aY X.prog X.w) A (call (.builtin "dict.get") [.ref a,u]) Q E s:=by
 rcases g with⟨kvs,k,e,ey,l⟩|⟨kvs,k,b,e,ey,eb,l⟩
 .subst ey;obtain⟨z,hd,vs,rel,dd⟩:=yV I.bA e;refine cx ku dd.typeIs Ee (MW _ _) (meets_dict_get (gP X.prog X.w) a (sH ry) hd) ⟨_,dd.mapOf,h _ _ (I.tok _) ?_⟩;rw[l];exact(rel.val k).getD rfl
 .subst ey;cases(show u=kO b from ry);obtain⟨z,hd,xs,rel,dd⟩:=yW I.bA e;refine cx ku dd.typeIs Ee (MW _ _) (meetsH_dict_get (dh<|gP X.prog X.w) a b hd) ⟨lz hu,k,xs,zU I.bA eb,dd,h _ _ (I.tok _) ?_⟩;rw[l];exact(rel.val k).getD rfl
theorem XJ(hu:A.units+1<cLine)(I:Inv X pins Z H s)(g:lV H a y o)(ry:RelV y u)(rd:RelV d r)(h:∀w' s',Inv X pins Z H s'->RelV (o.getD d) w'->Q w' s') :
  aS (aY X.prog X.w) A (call (.builtin "dict.get") [.ref a,u,r]) Q E s:=by
 rcases g with⟨c,k,e,f,l⟩|⟨c,k,b,e,f,i,l⟩
 .subst f;obtain⟨z,hd,j,rel,dd⟩:=yV I.bA e;refine cx ku dd.typeIs Ee (MX _ _ _) (meets_dict_get_default (gP X.prog X.w) a (sH ry) hd r) ⟨_,dd.mapOf,h _ _ (I.tok _) ?_⟩;rw[l];exact(rel.val k).getD rd
 .subst f;cases(show u=kO b from ry);obtain⟨z,hd,xs,rel,dd⟩:=yW I.bA e;refine cx ku dd.typeIs Ee (MX _ _ _) (meetsH_dict_get_default (dh<|gP X.prog X.w) a b hd r) ⟨lz hu,k,xs,zU I.bA i,dd,h _ _ (I.tok _) ?_⟩;rw[l];exact(rel.val k).getD rd
end
inductive kQ(P:cB)(w:bR)(outer:Yp)(H:Hp)(s:aJ)(E:XK)(e:Value)(s':aJ):Prop
theorem oq{P:cB}{s':aJ}{e:Value}(h:kQ P w outer H s (λ_ _ _=>False) e s'):False:=nomatch h
theorem Ax{P:cB}{K:bI}{base:bH}{N:YX}{qual:Str}{f:Addr}{cd:Value}{E:XK} :
 rS (kQ P w) (wM (kQ P w) P w K mg base N qual scope f cd A outer s H E) E:=λ_ _ _ _ _ _ _ h=>nomatch h
def Us(CX:nT)(X:Cx)(EE:St->XK):Prop:=∀(pins:Hv) (Z:St) (H:Hp) (s:aJ) (e:Value) (s':aJ),Inv X pins Z H s->CX X.stack H s (EE Z) e s'->X.xe e s'
section
variable {X:Cx}{k:Nat}{f:Addr}{ps:YX}{EE:St->XK}{p:Pos}{e:aL}{es:List aL}{t:TA}
theorem GU{Q:VK}{vs:Hw}(F:iP X.prog X.w X.K X.mg X.base CX k f fd ps sp)(hr:fF k X.A)(hb:Binds X.K fd ps [])(hx:Us CX X EE)
  (I:Inv X pins Z H s)(r:Vals vs us)(h:sp vs H Q (EE Z)):aS (aY X.prog X.w) X.A (call (.ref f) us) (EP X pins Z Q) X.xe s:=by
 have hl:(us++[]).length=ps.length:=by rw[kL,<- r.length];exact F.len _ _ _ _ h
 have a:=hb s us I.fI hl;rw[kL]at a;refine wm<|wg (F.run X.A X.stack s H ⟨us,[]⟩ us vs Q (EE Z) hr I.Ho a r h) λr c b=>?_;cases r with
 |error e=>exact hx pins Z H s e c I b|ok fl=>
  cases fl with
  |ret u=>exact I.after b|next=>exact mT b|brk=>exact mT b|cont=>exact mT b
end
def pT(cells:Ym)(x:Str×tJ)(cs:Ym):Ym:=if(x.2==iY)=aB then(match cells.lookup x.1 with
 |some c=>(x.1,c)::cs
 |none=>cs) else cs
def wI(scope:gJ)(env:Env):Ym:=scope.names.foldl (λcs x=>pT env.cells x cs) []
theorem Zc{α β:Type}{st:α->β->β}:∀{l:List α}{f:α->β->Sem (ForInStep β)} (c:β),(∀x∈l,∀c,f x c=pure (.yield<|st x c))->forIn l c f=pure (l.foldl (λc x=>st x c) c)
 |[],f,c,h=>rfl|x::l,f,c,h=>by rw[Qn,h x kB];exact Zc (st x c) λy a=>h y (lT _ a)
theorem WO{env:Env}(h:∀x∈scope.names,x.2 = .free->∃c,env.cells.lookup x.1=aA c):Tf scope env=pure (wI scope env):=by
 simp only[Tf];rw[Zc (st:=pT env.cells) [] (λx d c=>by
  obtain⟨n,kind⟩:=x;by_cases b:kind = .free
  .obtain⟨a,ha⟩:=h _ d b;subst b;simp[pT,cellOf,ha]
  .have:(kind==iY)=aH:=by simpa
   simp[pT,this])]
 rfl
theorem Wn{cells:Ym}:∀(l:List (Str×tJ)) (cs:Ym),(∀x c,cs.lookup x=aA c->cells.lookup x=aA c)->∀x c,(l.foldl (λcs x=>pT cells x cs) cs).lookup x=aA c->cells.lookup x=aA c
 |[],cs,h=>h
 |y::l,cs,h=>Wn l _ (by
  intro x c e;change (pT cells y cs).lookup x=aA c at e;unfold pT at e;split at e
  .split at e
   .rename_i b a;rw[iX]at e;split at e
    .rename_i q;have:=eq_of_beq q;subst this;rw[a];exact e
    .exact h x c e
   .exact h x c e
  .exact h x c e)
theorem Wm{cells:Ym}:∀(l:List (Str×tJ)) (cs:Ym) (x:Str),((∃c,cs.lookup x=aA c)\/((x,iY)∈l/\∃c,cells.lookup x=aA c))->∃c,(l.foldl (λcs x=>pT cells x cs) cs).lookup x=aA c
 |[],cs,x,h=>by
  rcases h with h|⟨h,_⟩
  .exact h
  .cases h
 |y::l,cs,x,h=>by
  refine Wm l _ x ?_;rcases h with⟨c,e⟩|⟨hm,c,e⟩
  .left;change ∃c,(pT cells y cs).lookup x=aA c;unfold pT;split
   .split
    .rename_i a _;rw[iX];split
     .exact⟨a,rfl⟩
     .exact⟨c,e⟩
    .exact⟨c,e⟩
   .exact⟨c,e⟩
  .rcases List.mem_cons.mp hm with q|q
   .left;subst q;simp[pT,e]
   .exact .inr ⟨q,c,e⟩
theorem CH{env:Env}(hk:env.scope.kind = .function):∀{names:List (Str×tJ)}{x:Str},names.lookup x=aA .free->env.kindOf x=aA .cell ->
  (names.map λ(n,k)=>if(k==iY&&env.scope.kind == .function&&env.kindOf n==aA .cell) then(n,kj) else(n,k)).lookup x=aA .cell
 |[],_,h,_=>by simp at h
 | (n,k)::r,x,h,b=>by
  have c:=@CH env hk r x;show tG x ((if(k==iY&&env.scope.kind == .function&&env.kindOf n==aA .cell)=aB then(n,kj) else(n,k))::_)=_;cases a:x==n with
  |true=>simp only[iX,a]at h;cases h;have:=eq_of_beq a;subst this;simp[hk,b]
  |false=>
   simp only[iX,a]at h;by_cases d:(k==iY&&env.scope.kind == .function&&env.kindOf n==aA .cell)=aB
   .rw[if_pos d];simp only[iX,a];exact c h b
   .rw[if_neg d];simp only[iX,a];exact c h b
theorem Kg{env:Env}:∀{names:List (Str×tJ)}{x:Str}{k:tJ},(∀y∈names,y.2 ≠ .cell) ->
  (names.map λ(n,k)=>if(k==iY&&env.scope.kind == .function&&env.kindOf n==aA .cell) then(n,kj) else(n,k)).lookup x=aA k->k = .cell\/k = .free->(x,iY)∈names
 |[],_,_,_,h,_=>by simp at h
 | (n,k)::r,x,d,hn,h,hk=>by
  have f:=@Kg env r x d λy g=>hn y (lT _ g);have a:tG x ((if(k==iY&&env.scope.kind == .function&&env.kindOf n==aA .cell)=aB then(n,kj) else(n,k))::(r.map λ(n,k)=>if(k==iY&&env.scope.kind == .function&&env.kindOf n==aA .cell) then(n,kj) else(n,k)))=aA d:=h;cases c:x==n with
  |true=>
   have e:=eq_of_beq c;subst e;by_cases b:(k==iY&&env.scope.kind == .function&&env.kindOf x==aA .cell)=aB
   .have:k = .free:=by simp only[bQ]at b;exact eq_of_beq b.1.1
    subst this;exact kB
   .rw[if_neg b]at a;simp only[iX,c]at a;cases a;rcases hk with hk|hk
    .exact absurd hk<|hn _ kB
    .have hk:=hk;subst hk;exact kB
  |false=>
   have i:(r.map λ(n,k)=>if(k==iY&&env.scope.kind == .function&&env.kindOf n==aA .cell) then(n,kj) else(n,k)).lookup x=aA d:=by
    by_cases b:(k==iY&&env.scope.kind == .function&&env.kindOf n==aA .cell)=aB
    .rw[if_pos b]at a;simpa only[iX,c]using a
    .rw[if_neg b]at a;simpa only[iX,c]using a
   exact lT _<|f i hk
def Cx.comp(X:Cx)(N':YX)(scope:gJ)(s3:aJ)(H3:Hp)(C:Addr)(fp:Hy):Cx:=
 { X with N:=N',s₀:=s3,H₀:=H3,env:=compEnvC scope (wI scope X.env) C X.env,outer:=X.stack,ex:=fp,fn:=λ_=>aH,pn:=[],xe:=λ_ _=>False }
structure oT(X:Cx)(N':YX)(scope:gJ):Prop where
 kind:scope.kind = .function
 Lf:∀y∈scope.names,y.2 ≠ .cell
 CF:∀y∈scope.names,y.2 = .local->scope.names.lookup y.1=aA .local
 free:∀y∈scope.names,y.2 = .free->X.env.scope.names.lookup y.1=aA .cell
section
variable {X:Cx}{C:Addr}
theorem oT.Wq(hs:oT X N' scope)(ok:X.Ok):Tf scope X.env=pure (wI scope X.env):=
 WO λx a b=>ok.has x.1 (.inl<|hs.free x a b)
theorem fg{c:Addr}(h:(wI scope X.env).lookup x=aA c):X.env.cells.lookup x=aA c:=Wn _ [] (λx c e=>by simp at e) x c h
theorem oT.has(hs:oT X N' scope)(ok:X.Ok){x:Str}(h:(x,iY)∈scope.names):∃c,(wI scope X.env).lookup x=aA c:=
 Wm _ [] x (.inr ⟨h,ok.has x (.inl<|hs.free _ h rfl)⟩)
theorem Inv.yT(I:Inv X pins Z H s)(hs:oT X N' scope)(hf:∀b∈fp,kR X pins H b/\b≠C)(hC:s.heap.objs.size<=C):(X.comp N' scope s H C fp).Ok where
 mod:=I.ok.mod
 kind:=hs.kind
 glob:=I.ok.glob
 blt:=I.ok.blt
 above:=hC
 inj:=λx y c a d=>I.ok.inj x y c (fg a) (fg d)
 has:=λx hx=>by
  rcases hx with hx|hx
  .exact hs.has I.ok<|Kg hs.Lf hx<|.inl rfl
  .exact hs.has I.ok<|Kg hs.Lf hx<|.inr rfl
 xy:=λx c h=>by cases h
 hd:=I.ok.hd
 frames:=I.ok.frames
 Oc:=.inl rfl
 yo:=λb hb=>⟨(hf b hb).2,λx c e=>(hf b hb).1.2.2.2.2.1 x c (fg e)⟩
 bs:=λb o e=>I.bs b o e
 wD:=cD I.ok.wD I.sz
 Aq:=λb o e hb=>by
  rcases(hf b hb).1.2.2.2.1 with z|z
  .exact I.ok.Aq b o e z
  .exact absurd (bD (bD (cZ e) I.ok.wD) z)<|lC _
 ox:=λb hb f=>by
  rcases List.mem_cons.mp (I.Od b f)with e|e
  .exact(hf b hb).1.2.1 e
  .exact(hf b hb).1.2.2.1 e
 qA:=I.stack
 gb:=I.HK
theorem Inv.comp{h4:bH}{t:Nat}{m0:Str->Hz}(I:Inv X pins Z H s)(hs:oT X N' scope)(hf:∀b∈fp,kR X pins H b/\b≠C)(hC:s.heap.objs.size<=C)
  (k:∀b o,s.heap.get? b=aA o->h4.get? b=aA o) (hn:h4.Ns C m0) (hl:Z'.length=N'.length)
  (hσ:∀(i:Nat) x v,N'[i]?=aA x->Z'[i]?=aA (aA v)->scope.names.lookup x=aA .free/\(x,iY)∈scope.names/\∃j:Nat,X.N[j]?=aA x/\Z[j]?=aA (aA v)) :
  Inv (X.comp N' scope s H C fp) [] Z' H { s with heap:=h4,toks:=t } where
 ok:=I.yT hs hf hC
 os:=rfl
 bare:=I.bare
 base:=Un.kept k
 loc:=⟨m0,hn,λi x v g h _=>by
  obtain⟨l,hm,j,n,q⟩:=hσ i x v g h;obtain⟨m,_,hl⟩:=I.loc;have a:=hs.free _ hm rfl;obtain⟨u,r,lk⟩:=hl j x v n q (.inr<|.inl a);refine⟨u,r,.inr ⟨.inl (CH I.ok.kind l a),?_⟩⟩;rcases lk with⟨z,_⟩|⟨_,c,w,y⟩
  .rw[show X.env.kindOf x=aA .cell from a]at z;cases z
  .obtain⟨B,f⟩:=hs.has I.ok hm;have:=fg f;rw[w]at this;cases this;obtain⟨o,d,hd⟩:=y;exact⟨c,f,o,k _ _ d,hd⟩⟩
 cell:=λx c e=>by obtain⟨v,o,d,hd⟩:=I.cell x c (fg e);exact⟨v,o,k _ _ d,hd⟩
 free:=I.bA.fresh hC
 pX:=λx c e=>I.pX x c (fg e)
 pin:=λp A=>by cases A
 bA:=I.bA.kept k
 len:=hl
end
noncomputable abbrev nC(us:Hu)(k:Nat):Obj:={ cls:=.type "list",data:=.seq us.toArray k }
theorem Cj{α:Type}{M:Model}{t:Sem α}{Q:α->aJ->Prop}{E:Value->aJ->Prop}(h:aS M A t Q (λ_ _=>False) s):aS M A t Q E s:=wo h (λ_ _ q=>q) λ_ _ z=>z.elim
section
variable {X:Cx}{H2:Hp}{s2:aJ}{it:Addr}{tn:Nat->bH->Prop}{J:It}{elt tg cU:aL}
theorem Inv.aOk{D:Addr}{ys:Hw}{k:Nat}(I:Inv X pins Z H s)(hD:kR X pins H D)(ho:s.heap.get? D=aA (nC us k))(r:Vals ys us)(hz:ys.length<=sizeLine):Inv X pins Z (bG H D<|.lst ys) s:=by
 have hn:=hD.1;refine I.step (ch:=[D]) (λb hb=>?_) (λb o _ _ _ e _=>e) (λb o _ _ _ e _=>⟨o.slots,e⟩) (λb o a e n=>?_) (λb o _ e=>⟨o,e⟩) (λb xs e=>by rw[bY (jT e hn)];exact e) (λb o u e=>by rw[bY (jT e hn)];exact e) (λb ps e=>⟨#[],by rw[bY (jT e hn),e];simp⟩) (λm hm=>hm) (λb u e=>?_) I.bare
 .have e:b=D:=by simpa using hb
  subst e;exact⟨hD.2.2.2.1,hD.2.1,hD.2.2.2.2.1,hD.2.2.2.2.2⟩
 .rw[bY (λz=>a (by simp[z]))];exact n
 .by_cases hb:b=D
  .subst hb;rw[gU]at e;cases e;exact⟨hz,us,k,r,ho⟩
  .rw[bY hb]at e;exact(I.bA b u e).uY (λc v a q=>q) (λc q=>by rw[bY (jT q hn)];exact q) λc xs q=>by rw[bY (jT q hn)];exact q
theorem Wv{g:TG}{R:Hw->Hp->Prop}{W:Nat->Nat->Hw->St->Hp->Prop}{m0:Nat}{RR:Value->Addr->Result->aJ->Prop}{E:Value->aJ->Prop}
  (hsc:oT X N' scope)(sE:X.calm=aB)(I2:Inv X pins Z H2 s2)(T:Turn X.prog X.w X.K tg J fp it tn)(st2:tn 0 s2.heap)(f2:∀b∈fp,kR X pins H2 b)
  (hg:∀s H C fp,PG (X.comp N' scope s H C fp) tg g)(hct:∀c,ct=aA c->∀s H C fp,PT (X.comp N' scope s H C fp) c tc)(hct0:ct=aD->∀Z H Q,tc Z H Q->Q aB H)(he:∀s H C fp,PE (X.comp N' scope s H C fp) elt te)
  (hl:Z'.length=N'.length)(hσ:∀(i:Nat) x v,N'[i]?=aA x->Z'[i]?=aA (aA v)->scope.names.lookup x=aA .free/\(x,iY)∈scope.names/\∃j:Nat,X.N[j]?=aA x/\Z[j]?=aA (aA v))
  (w0:W 0 m0 [] Z' H2)
  (turn:∀i m ys Z H,W i m ys Z H->(J.stop i H/\R ys H)\/(J.go i H/\∀x H',J.vh i H x H'->g x Z H' λZ2 H2=>tc Z2 H2 λb H3=>if b=aB then te Z2 H3 λy H4=>ys.length<sizeLine/\∃m',m'<m/\W (i+1) m' (ys++[y]) Z2 H4 else∃m',m'<m/\W (i+1) m' ys Z2 H3))
  (hRR:∀D C s' H' m ys,Inv X pins Z (bG H' D<|.lst ys) s'->H' D=aD->s'.heap.Ns C m->kR X pins (bG H' D<|.lst ys) C->R ys H'->RR (.ref D) C (.ok .next) s') :
  aS (aY X.prog X.w) X.A (newList []) (λacc s₃=>aS (aY X.prog X.w) X.A (newFunctionEnv scope X.env.globals (wI scope X.env) [] X.env.qual aD .none<|aA X.env) (λWj s₄=>tM (aY X.prog X.w) X.A (.compStart (.ListComp elt [⟨tg,cU,ct.toList,0⟩] scope pos) 0 (.ref it) acc { Wj with scope:=relabel scope X.env }) (RR acc Wj.locals) s₄) E s₃) E s2:=by
 refine tQ<|wpAny_newFunctionEnv hsc.Lf (by intro y hy;simp at hy) (λh₁ hns₁ hsb₁=>?_) hsc.kind;dsimp only at hns₁ hsb₁ ⊢;generalize hH2:s2.heap.push { cls:=.type "list",dict:=aD,data:=.seq ([]:Hu).toArray }=hp2 at hns₁ hsb₁ ⊢;have hC:hp2.objs.size=s2.heap.objs.size+1:=by rw[<- hH2,rH]
 have hDC:s2.heap.objs.size≠hp2.objs.size:=by rw[hC];exact bV<|cN _
 have hCle:s2.heap.objs.size<=hp2.objs.size:=by rw[hC];exact jQ _
 have below:∀b,b<s2.heap.objs.size->b≠hp2.objs.size/\b≠s2.heap.objs.size:=λb hb=>⟨by rw[hC];exact bV<|kC hb,bV hb⟩;have old:∀b o,s2.heap.get? b=aA o->h₁.get? b=aA o:=λb o e=>hsb₁.extBut b o (below b<|cZ e).1 (cT _<|hH2▸cT _ e);have D0:h₁.get? s2.heap.objs.size=aA (nC [] 0):=hsb₁.extBut _ _ hDC (cT _<|hH2▸fS _ rfl);have fD:kR X pins H2 s2.heap.objs.size:=I2.uB (aU _) (I2.bA.fresh<|aU _);have lfp:∀b∈fp,b<s2.heap.objs.size:=λb hb=>by obtain⟨o,e,_⟩:=T.obj 0 _ st2 b hb;exact cZ e
 have hf':∀b∈s2.heap.objs.size::fp,kR X pins H2 b/\b≠hp2.objs.size:=λb hb=>by
  rcases List.mem_cons.mp hb with rfl|hb
  .exact⟨fD,hDC⟩
  .exact⟨f2 b hb,(below b<|lfp b hb).1⟩
 have IY:=I2.comp (t:=s2.toks+([]:Yl).length) hsc hf' hCle old hns₁ hl hσ;generalize hDd:s2.heap.objs.size=D at *;generalize hCd:hp2.objs.size=C at *;have fnD:∀b∈fp,b≠D:=λb hb=>(below b<|lfp b hb).2;have ok:=IY.ok;have hg':=hg s2 H2 C (D::fp);have hct':=λc e=>hct c e s2 H2 C (D::fp);have he':=he s2 H2 C (D::fp);have fY:∀{pl:Hv} {H':Hp}{b:Addr},b∈D::fp->H' b=aD->(∀p∈pl,p.1≠b)->kR (X.comp N' scope s2 H2 C<|D::fp) pl H' b:=λ{pl H' b} hb hn hp=>
  ⟨hn,(ok.yo b hb).1,ok.ox b hb,.inl hb,(ok.yo b hb).2,λp h=>hp p (by simpa[Cx.comp]using h)⟩
 let Iv:Nat->aJ->Prop:=λn s'=>∃(i:Nat) (ys:Hw) (us:Hu) (k:Nat) (Z':St) (H':Hp),Inv (X.comp N' scope s2 H2 C<|D::fp) [] Z' H' s'/\tn i s'.heap/\(∀b∈D::fp,H' b=aD)/\s'.heap.get? D=aA (nC us k)/\Vals ys us/\ys.length<=sizeLine/\W i n ys Z' H'
 have turnA:∀(n:Nat) (s':aJ),Iv n s'->∀(K:aJ->Prop) (E':Value->aJ->Prop),
   (∀(i:Nat) (ys:Hw) (us:Hu) (k:Nat) (pl:Hv) (Z6:St) (H6:Hp) (s6:aJ),Inv (X.comp N' scope s2 H2 C<|D::fp) ([(D,nC us k)]++pl) Z6 H6 s6 ->
    (∀h7:bH,(∀p∈pl,h7.get? p.1=aA p.2)->tn (i+1) h7)->(∀b∈fp,∃o,(b,o)∈pl)->(∀p∈pl,p.1∈fp)->Vals ys us->ys.length<=sizeLine ->
    (tc Z6 H6 λb H3=>if b=aB then te Z6 H3 λy H4=>ys.length<sizeLine/\∃m',m'<n/\W (i+1) m' (ys++[y]) Z6 H4 else∃m',m'<n/\W (i+1) m' ys Z6 H3)->K s6) ->
   aS (aY X.prog X.w) X.A (tO<|.ref it) (λr s1=>match r with
    |none=>RR (.ref D) C (.ok .next) s1
    |some v=>aS (aY X.prog X.w) X.A (Tl tg (.ref it) v) (λ_ s0=>aS (aY X.prog X.w) X.A (cu tg (compEnvC scope (wI scope X.env) C X.env) v) (λ_ s2=>K s2) E' s0) E' s1) E' s':=by
  rintro n s' ⟨i,ys,us,k,Z3,H3,I3,st3,fr3,hD3,rv3,hz3,w3⟩ K E' hK
  have I3':Inv (X.comp N' scope s2 H2 C<|D::fp) [(D,nC us k)] Z3 H3 s':=I3.ie λp hp=>by
   have e:p=(D,nC us k):=by simpa using hp
   subst e;exact⟨hD3,fr3 D kB,(ok.yo D kB).1,ok.ox D kB,λv z=>by cases z⟩
  have fp3:∀{H':Hp},(∀b∈fp,H' b=aD)->∀b∈fp,kR (X.comp N' scope s2 H2 C<|D::fp) [(D,nC us k)] H' b:=λhn b hb=>fY (lT _ hb) (hn b hb) λp hp=>by
   have e:p=(D,nC us k):=by simpa using hp
   subst e;exact lE<|fnD b hb
  have fr3':∀b∈fp,H3 b=aD:=λb hb=>fr3 b (lT _ hb);rcases turn i n ys Z3 H3 w3 with⟨stop,hR⟩|⟨go,step⟩
  .refine bE (T.done (X.comp N' scope s2 H2 C<|D::fp) rfl rfl rfl sE i _ s' Z3 H3 E' I3' (fp3 fr3') st3 stop) λr s4 ⟨hr,I4⟩=>?_;subst hr;obtain⟨gD,nD,_⟩:=I4.pin (D,nC us k) (jP _ kB);obtain⟨m,hn,_⟩:=id I4.loc;have IX:Inv X pins Z H3 s4:=I2.VP (ch:=D::fp) I4.os I4.base I4.bA I4.bare λb hb=>⟨(hf' b hb).1.2.2.2.1,(hf' b hb).1.2.1,(hf' b hb).1.2.2.2.2.1,(hf' b hb).1.2.2.2.2.2⟩;refine hRR D C s4 H3 m ys (IX.aOk ⟨nD,fD.2⟩ gD rv3 hz3) nD hn ⟨by rw[bY (lE hDC)];exact I4.free,?_⟩ hR;have fC:kR X pins H3 C:=I2.uB (by rw[hDd];exact hCle) I4.free;exact fC.2
  .refine bE (T.item (X.comp N' scope s2 H2 C<|D::fp) rfl rfl rfl sE i _ s' Z3 H3 E' I3' (fp3 fr3') st3 go) λr s4 ⟨u,hr,h4⟩=>?_;subst hr;refine bE h4 λ_ s5 zq=>?_;obtain⟨x,H5,I5,r5,y5,st5,fr5⟩:=zq;have I5':=I5.pinned (fp3 fr5) (T.obj _ _ st5);refine Cj<|bE (hg' _ s5 Z3 H5 x u _ I5' r5<|step x H5 y5) λ_ s6 ⟨Z6,H6,I6,q6⟩=>?_;refine hK i ys us k _ Z6 H6 s6 I6 (λh7 h=>T.keep _ _ _ st5 λb hb o e=>h (b,o) (Ak hb e)) (λb hb=>?_) (λp hp=>(DG hp).1) rv3 hz3 q6;obtain⟨o,e,_⟩:=T.obj _ _ st5 b hb;exact⟨o,Ak hb e⟩
 have back:∀{n i:Nat}{ys:Hw}{us:Hu}{k:Nat}{pl:Hv}{Z6:St}{H6:Hp}{s6:aJ},Inv (X.comp N' scope s2 H2 C<|D::fp) ([(D,nC us k)]++pl) Z6 H6 s6 ->
   (∀h7:bH,(∀p∈pl,h7.get? p.1=aA p.2)->tn (i+1) h7)->(∀b∈fp,∃o,(b,o)∈pl)->Vals ys us->ys.length<=sizeLine->(∃m',m'<n/\W (i+1) m' ys Z6 H6)->∃m',m'<n/\Iv m' s6:=by
  intro n i ys us k pl Z6 H6 s6 I6 ht sD rv hz ⟨m',hm,w⟩;obtain⟨gD,nD,_⟩:=I6.pin (D,nC us k) (jP _<|Dv _ kB);refine⟨m',hm,i+1,ys,us,k,Z6,H6,I6.ie λp hp=>(by cases hp),ht _ λp hp=>(I6.pin p<|jP _<|jP _ hp).1,λb hb=>?_,gD,rv,hz,w⟩;rcases List.mem_cons.mp hb with rfl|hb
  .exact nD
  .obtain⟨o,ho⟩:=sD b hb;exact(I6.pin _<|jP _<|jP _ ho).2.1
 have app:∀{n i:Nat}{ys:Hw}{us:Hu}{k:Nat}{pl:Hv}{Z6:St}{H7:Hp}{s7:aJ}{y:V}{v:Value} {E':Value->aJ->Prop},Inv (X.comp N' scope s2 H2 C<|D::fp) ([(D,nC us k)]++pl) Z6 H7 s7 ->
   (∀h7:bH,(∀p∈pl,h7.get? p.1=aA p.2)->tn (i+1) h7)->(∀b∈fp,∃o,(b,o)∈pl)->(∀p∈pl,p.1∈fp)->Vals ys us->RelV y v->ys.length<sizeLine->(∃m',m'<n/\W (i+1) m' (ys++[y]) Z6 H7) ->
   aS (aY X.prog X.w) X.A (call (.builtin "list.append") [.ref D,v]) (λ_ s8=>∃m',m'<n/\Iv m' s8) E' s7:=by
  intro n i ys us k pl Z6 H7 s7 y v E' I7 ht sD hpl rv ry hz ⟨m',hm,w⟩;obtain⟨gD,nD,_⟩:=I7.pin (D,nC us k) (jP _<|Dv _ kB);have hus:us.length<sizeLine:=by rw[<- rv.length];exact hz
  refine append_at (hsz:=by rw[hW];exact tK hus) gD λh8 hs8 g8=>?_;have nb:∀b∈D::fp,H7 b=aD:=λb hb=>by
   rcases List.mem_cons.mp hb with rfl|hb
   .exact nD
   .obtain⟨o,ho⟩:=sD b hb;exact(I7.pin _<|jP _<|jP _ ho).2.1
  have f8:=fY (pl:=[]) (H':=H7) (b:=D) kB nD (λp hp=>by cases hp);refine⟨m',hm,i+1,ys++[y],us++[v],k+1,Z6,H7,(I7.ie (pins':=[]) λp hp=>(by cases hp)).turned (t':=s7.toks) (it:=D) (λb o hb e=>hs8.extBut b o hb e) nD f8.2.1 f8.2.2.2.1 f8.2.2.2.2.1 f8.2.2.2.2.2,
   ht _ λp hp=>?_,nb,?_,rv.append (.cons ry .nil),?_,w⟩
  .exact hs8.extBut _ _ (fnD _<|hpl p hp) (I7.pin p<|jP _<|jP _ hp).1
  .show h8.get? D=_;rw[g8];simp[nC]
  .rw[eU];exact hz
 have i0:Iv m0 { s2 with heap:=h₁,toks:=s2.toks+([]:Yl).length }:=⟨0,[],[],0,Z',H2,IY,T.keep _ _ _ st2 λb _ o e=>old b o e,λb hb=>(hf' b hb).1.1,D0,.nil,gX _,w0⟩;have loop:tM (aY X.prog X.w) X.A (.compLoop (.ListComp elt [⟨tg,cU,ct.toList,0⟩] scope pos) 0 (.ref it) (.ref D)<|compEnvC scope (wI scope X.env) C X.env) (RR (.ref D) C) { s2 with heap:=h₁,toks:=s2.toks+([]:Yl).length }:=by
  cases ct with
  |none=>refine PySem.W.kcp_loop Iv (λn s' hI=>turnA n s' hI _ _ ?_) m0 i0;intro i ys us k pl Z6 H6 s6 I6 ht sD hpl rv hz q6;have q7:=hct0 rfl Z6 H6 _ q6;rw[if_pos rfl]at q7;refine Cj<|bE (he' _ s6 Z6 H6 _ I6 q7) λv s7 ⟨y,H7,I7,r7,hz7,w7⟩=>?_;exact app I7 ht sD hpl rv r7 hz7 w7
  |some c=>
   refine PySem.W.kct_loop Iv (λn s' hI=>turnA n s' hI _ _ ?_) m0 i0;intro i ys us k pl Z6 H6 s6 I6 ht sD hpl rv hz q6;refine Cj<|bE (hct' c rfl _ s6 Z6 H6 _ I6 q6) λb s7 ⟨H7,I7,q7⟩=>?_;cases b with
   |true=>rw[if_pos rfl]at q7 ⊢;refine Cj<|bE (he' _ s7 Z6 H7 _ I7 q7) λv s8 ⟨y,H8,I8,r8,hz8,w8⟩=>?_;exact app I8 ht sD hpl rv r8 hz8 w8
   |false=>rw[if_neg fX]at q7 ⊢;exact back I7 ht sD rv hz q7
 exact codeAny_compStart_list loop<|T.self _ 0 _ _ _ (T.keep _ _ _ st2 λb _ o e=>old b o e) loop
def Oh(wi:TI)(imp:St->St)(g:TG)(tc:TT)(te:TE):TE:=λZ H Q=>wi Z H λJ H1=>∃(W:Nat->Nat->Hw->St->Hp->Prop) (m0:Nat),W 0 m0 [] (imp Z) H1/\∀i m ys Z' H',W i m ys Z' H' ->
 (J.stop i H'/\∀D,H' D=aD->Q (.ref D) (bG H' D<|.lst ys))\/(J.go i H'/\∀x H2,J.vh i H' x H2->g x Z' H2 λZ3 H3=>tc Z3 H3 λb H4=>if b=aB then te Z3 H4 λy H5=>ys.length<sizeLine/\∃m',m'<m/\W (i+1) m' (ys++[y]) Z3 H5 else∃m',m'<m/\W (i+1) m' ys Z3 H4)
variable {wi:TI}{imp:St->St}{g:TG}
theorem aAi(hsc:oT X N' scope)(sE:X.calm=aB)(hi:PI X tg cU wi)
  (hg:∀s H C fp,PG (X.comp N' scope s H C fp) tg g) (hct:∀c,ct=aA c->∀s H C fp,PT (X.comp N' scope s H C fp) c tc) (hct0:ct=aD->∀Z H Q,tc Z H Q->Q aB H) (he:∀s H C fp,PE (X.comp N' scope s H C fp) elt te)
  (himp:∀Z:St,(imp Z).length=N'.length)
  (hσ:∀(Z:St) (i:Nat) x v,N'[i]?=aA x->(imp Z)[i]?=aA (aA v)->scope.names.lookup x=aA .free/\(x,iY)∈scope.names/\∃j:Nat,X.N[j]?=aA x/\Z[j]?=aA (aA v))
  (Jf:∀x,Er cU X.env x=pure x):PE X (.ListComp elt [⟨tg,cU,ct.toList,0⟩] scope pos) (Oh wi imp g tc te):=by
 intro pins s Z H Q I h;refine OC rfl Jf (hsc.Wq I.ok) hsc.kind hsc.CF ?_;refine bE (hi pins s Z H _ I h) λv s1 h1=>bE h1 λk s2 l=>?_;obtain⟨it,fp,u,J,w,e,n,T,d,f2,W,m0,p,turn⟩:=l;subst e;refine Wv hsc sE n T d f2 hg hct hct0 he (himp Z) (hσ Z) p turn ?_;intro D C y z m A q r hn a t;exact⟨m,hn,λB f=>⟨.ref D,_,q.turned (λb o hb e=>f.extBut b o hb e) a.1 a.2.1 a.2.2.2.1 a.2.2.2.2.1 a.2.2.2.2.2,rfl,t D r⟩⟩
theorem aCu{i:Nat}{y:Str}{py pJ:Pos}(hN:X.N.Nodup)(hi':X.N[i]?=aA y)(hy:X.env.scope.names.lookup y=aA .local)
  (hsw:vT (.ListComp elt [⟨tg,cU,ct.toList,0⟩] scope pos) (aA<|.Name y py) pJ.line X.env=pure aB) (hsc:oT X N' scope) (sE:X.calm=aB) (hi:PI X tg cU wi)
  (hg:∀s H C fp,PG (X.comp N' scope s H C fp) tg g) (hct:∀c,ct=aA c->∀s H C fp,PT (X.comp N' scope s H C fp) c tc) (hct0:ct=aD->∀Z H Q,tc Z H Q->Q aB H) (he:∀s H C fp,PE (X.comp N' scope s H C fp) elt te)
  (himp:∀Z:St,(imp Z).length=N'.length)
  (hσ:∀(Z:St) (i:Nat) x v,N'[i]?=aA x->(imp Z)[i]?=aA (aA v)->scope.names.lookup x=aA .free/\(x,iY)∈scope.names/\∃j:Nat,X.N[j]?=aA x/\Z[j]?=aA (aA v))
  (Jf:∀x,Er cU X.env x=pure x):PS X (.Assign [.Name y py] (.ListComp elt [⟨tg,cU,ct.toList,0⟩] scope pos) pJ) (HN (Oh wi imp g tc te)<|Zv i):=by
 intro pins s Z H D I h;rw[exec_Assign_Name_used _ _ _ _ hsw];refine aP<|mm<|aP ?_;refine aP (wo (OC rfl Jf (hsc.Wq I.ok) hsc.kind hsc.CF ?_)
  (λ_ t A=>bZ (bZ A)) λ_ _ e=>e)
 refine bE (hi pins s Z H _ I h) λv s1 h1=>bE h1 λB s2 E=>?_;obtain⟨it,fp,U,J,V,e,F,T,l,f2,W,m0,G,turn⟩:=E;subst e;refine Wv hsc sE F T l f2 hg hct hct0 he (himp Z) (hσ Z) G turn ?_;intro d C t K m L u M hn a N;obtain⟨k,O,P,n,f,R⟩:=id hn;have q:Inv X (pins++[(C,k)]) Z (bG K d<|.lst L) t:=u.ie λp S=>(List.mem_append.mp S).elim (λz=>u.pin p (jP _ z)) λz=>by
  have e:p=(C,k):=by simpa using z
  subst e;exact⟨n,a.1,a.2.1,a.2.2.1,λv z=>by rw[f]at z;cases z⟩
 refine OA<|jf q hN hi' (.inl hy) (v:=.ref d) rfl (λY w=>?_)<|.inr hy;exact⟨m,⟨k,O,P,((w.pin (C,k)<|jP _<|jP _ kB).1),f,R⟩,λZA r=>⟨_,_,w.Co.turned (λb o hb e=>r.extBut b o hb e) a.1 a.2.1 a.2.2.2.1 a.2.2.2.2.1 a.2.2.2.2.2,N d M⟩⟩
end
end L2
namespace AM
open PySem PySem.Spec PyProof.Rows L2
variable {A:cJ}{H H':Hp}{O O':HO}{Q:VK}{S1 S2:Nat->bH->Prop}{a i1 i2 it l l1 l2 z:Addr}{apos kq p p2 pos py tp:Pos}{args elts es ts:List aL}{b bb:Bool}{c e tg:aL}{env:Env}{ep n tk:Nat}{fd:eT}{h':bH}{hU ys:Hw}{i j:Int}{items:YY}{ns:Hx}{op':pM}{pins:Hv}{prog:cB}{ps:YX}{s:aJ}{scope:gJ}{sp:Sp}{sts:YV}{ta tb:TE}{us:List (aN×V)}{w:bR}{x' y':V}{Y Y':Hy}{Z':L2.St}
def yD(K:bI)(H:Hp)(_:Nat)(x y:V)(b:Bool):Prop:=∃(a c:Addr) (xs:Hw),x = .ref a/\y = .ref c/\dN K H a xs/\dN K H c []/\b=xs.isEmpty
section
variable {X:Cx}{Z:L2.St}
theorem CK(I:Inv X pins Z H s){xs:Hw}(h:dN X.K H a xs):∃its:Hu,Vals xs its/\s.heap.IsList a its.toArray:=by obtain⟨its,r,p,_⟩:=I.list h;exact⟨its,r,p.isList⟩
theorem yD.rc(I:Inv X pins Z H s){c:Addr}(hu:A.units+n<cLine)(h:yD X.K H n (.ref a) (.ref c) b):SeqAt.RcAt A s (.ref a) (.ref c) b/\SeqAt.RcNeAt A s (.ref a) (.ref c) (!b):=by
 obtain⟨_,_,xs,e1,e2,h1,h2,rfl⟩:=h;cases e1;cases e2;have h0:A.units<cLine:=by omega
 obtain⟨us,r1,p1⟩:=CK I h1;obtain⟨vs,r2,p2⟩:=CK I h2;cases r2;cases r1 with
 |nil=>exact⟨SeqAt.RcAt.lists (e:=λ_=>aB) p1 p2 rfl h0 λj z=>absurd z (Dy j),SeqAt.RcNeAt.lists (e:=λ_=>aB) p1 p2 rfl h0 λj z=>absurd z (Dy j)⟩|cons _ _=>exact⟨SeqAt.RcAt.lists_lengths p1 p2 rfl h0,SeqAt.RcNeAt.lists_lengths p1 p2 rfl h0⟩
def aJa(K:bI):R2:=λx y H Q=>GB x y H Q\/∃b a c,x = .ref a/\y = .ref c/\yD K H 12 x y b/\Q (.bl b) H
def aJc(K:bI):R2:=λx y H Q=>GI x y H Q\/∃b a c,x = .ref a/\y = .ref c/\yD K H 12 x y b/\Q (.bl<|!b) H
theorem V0(hu:X.A.units+12<cLine):cW X (dM .Eq) (aJa X.K):=by
 intro pins s Z H x y v u Q I d e h;rcases h with h|⟨b,a,c,rfl,rfl,h,q⟩
 .exact U9 pins s Z H x y v u Q I d e h
 .cases d;cases e;exact(yD.rc I hu h).1 _ _ _ _ ⟨.bl b,H,I,rfl,q⟩
theorem W4(hu:X.A.units+12<cLine):cW X (dM .NotEq) (aJc X.K):=by
 intro pins s Z H x y v u Q I d e h;rcases h with h|⟨b,a,c,rfl,rfl,h,q⟩
 .exact W3 pins s Z H x y v u Q I d e h
 .cases d;cases e;exact(yD.rc I hu h).2 _ _ _ _ ⟨.bl (!b),H,I,rfl,q⟩
end
section
variable {X:Cx}
def aJb:R2:=λx y H Q=>∃a v,x = .ref a/\lV H a y (aA v)/\Q v H
theorem G8(hu:X.A.units+1<cLine):pP X aJb:=by
 intro value slice pins s Z H x y o i Q I e f h hs;obtain⟨a,v,rfl,g,q⟩:=h;cases e;have j:=XZ I g;have hl:=PySem.F.slot_dict_getitem.lookup;have k:aS (aY X.prog X.w) X.A (cy (.ref a) i) (EP X pins Z Q) X.xe s:=XM hu I g f λm s3 l d=>⟨v,H,l,d,q⟩;refine aP ?_;refine aP<|OK j hl ?_;have fin:aS (aY X.prog X.w) X.A (Tu slice aH (.ref a) i) (λr b=>aS (aY X.prog X.w) X.A (letTemporaryGo value (.ref a) r>>=λ_=>pure r) (EP X pins Z Q) X.xe b) X.xe s:=by rw[hs];exact wpAny_operating<|wo k (λr b c=>aP (wpAny_letTemporaryGo<|bZ c)) λ_ _ x=>x
 first
  |exact bZ<|aP fin|exact aP<|bZ<|aP fin|exact aP fin
def GD(neg:Bool):R2:=λy x H Q=>∃a o,x = .ref a/\lV H a y o/\Q (.bl<|if neg then !o.isSome else o.isSome) H
theorem V5(hu:X.A.units+1<cLine):cW X (dM .In) (GD aH):=by intro pins s Z H x y v u Q I b c h;obtain⟨a,o,rfl,g,q⟩:=h;cases c;exact XN hu I g b λs3 d=>⟨.bl o.isSome,H,d,rfl,q⟩
theorem W5(hu:X.A.units+1<cLine):cW X (dM .NotIn) (GD aB):=by intro pins s Z H x y v u Q I b c h;obtain⟨a,o,rfl,g,q⟩:=h;cases c;exact XO hu I g b λs3 d=>⟨.bl (!o.isSome),H,d,rfl,q⟩
def aJf:V->V->V->Hp->(Hp->Prop)->Prop:=λo i v H Q=>∃a H',o = .ref a/\mn H a i v H'/\Q H'
theorem aKf(hu:X.A.units+1<cLine):Fl X (λo i v H Q=>GJ o i v H Q\/aJf o i v H Q):=by
 intro pins s Z H o i v e f u Q I b c d h;rcases h with h|⟨a,k,rfl,g,q⟩
 .exact aKg pins s Z H o i v e f u Q I b c d h
 .cases b;exact XR hu I g c d λs4 j=>⟨_,j,q⟩
end
section
variable {X:Cx}
def FY:V->Hw->Hp->VK->Prop:=λx vs H Q=>∃a y o,x = .ref a/\lV H a y o/\((vs=[y]/\Q (o.getD .aE) H)\/∃z,vs=[y,z]/\Q (o.getD z) H)
theorem P4(hu:X.A.units+1<cLine):ec X "dict.get" FY:=by
 intro pins s Z H x l v us Q I e d h;obtain⟨a,y,o,rfl,g,h⟩:=h;cases e;rcases h with⟨rfl,q⟩|⟨z,rfl,q⟩
 .obtain⟨u,rfl,f⟩:=d.one;exact XI hu I g f λi s3 c b=>⟨_,H,c,b,q⟩
 .obtain⟨m,n,rfl,j,k⟩:=xJ d;exact XJ hu I g j k λi s3 c b=>⟨_,H,c,b,q⟩
def FZ:V->Hw->Hp->VK->Prop:=λx vs H Q=>∃a kvs k,x = .ref a/\H a=aA (.dK kvs) /\
 ((vs=[kV k]/\∃v,fK kvs k=aA v/\Q v (bG H a<|.dK<|rY kvs k))\/∃z,vs=[kV k,z]/\(∀v,fK kvs k=aA v->Q v (bG H a<|.dK<|rY kvs k))/\(fK kvs k=aD->Q z H))
theorem P5:ec X "dict.pop" FZ:=by
 intro pins s Z H x r v us Q I i f h;obtain⟨a,d,k,rfl,e,h⟩:=h;cases i;rcases h with⟨rfl,v,l,q⟩|⟨z,rfl,j,m⟩
 .obtain⟨u,rfl,n⟩:=f.one;exact Xh I e n l (.inl rfl) λo s3 c b=>⟨v,_,c,b,q⟩
 .obtain⟨t,w,rfl,g,p⟩:=xJ f;cases l:fK d k with
  |some v=>exact Xh I e g l (.inr ⟨_,rfl⟩) λo s3 c b=>⟨v,_,c,b,j v l⟩|none=>exact XQ I e g l λs3 c=>⟨z,H,c,p,m l⟩
def GA:V->Hw->Hp->VK->Prop:=λx vs H Q=>∃a kvs k z,x = .ref a/\H a=aA (.dK kvs)/\vs=[kV k,z]/\kvs.length<sizeLine/\(∀v,fK kvs k=aA v->Q v H)/\(fK kvs k=aD->Q z (bG H a<|.dK<|putK kvs k z))
theorem P6:ec X "dict.setdefault" GA:=by
 intro pins s Z H x y v us Q I i j h;obtain⟨a,b,k,z,rfl,e,rfl,A,m,n⟩:=h;cases i;obtain⟨B,o,rfl,p,f⟩:=xJ j;obtain⟨r,hd,ws,rel,dd⟩:=yi I.bA e;refine cx NG dd.typeIs aUk (aUj _ _ _) (kt_meets_setdefault (gP X.prog X.w) a (sH p) hd o)
  ⟨ws,dd,rel.length▸r,λC hw=>?_,λhn t c hs=>?_⟩
 .cases l:fK b k with
  |none=>have:di ws k=aD:=iH.none_of (by rw[<- l];exact rel.val k);rw[this]at hw;cases hw
  |some v=>obtain⟨u,d,g⟩:=iH.some_of (by rw[<- l];exact rel.val k);rw[d]at hw;cases hw;exact⟨v,H,I.tok _,g,m v l⟩
 .have l:fK b k=aD:=by
   cases l:fK b k with
   |none=>rfl|some v=>obtain⟨u,d,g⟩:=iH.some_of (by rw[<- l];exact rel.val k);rw[d]at hn;cases hn
  have he:∃q,t.get? a=aA q:=let ⟨q,_,_,w,_⟩:=c;⟨q,w⟩;refine⟨z,_,yg I (e▸oQ) hs he (Hg ?_ hd (rel.put k f) c),f,n l⟩;have:=Kb b k z;lia
end
theorem Jr{k:aN}{v:Value}(h:zT k v=aB):RelV (kV k) v:=by
 rcases sI h with⟨i,t,rfl,rfl⟩|⟨x,t,rfl,rfl⟩
 .exact⟨t,rfl⟩
 .exact⟨t,rfl⟩
theorem Ju{kvs:List (aN×V)}{vs:List (aN×Value)}(r:KV kvs vs):∀{i:Nat}{k:aN}{x:Value},vs[i]?=aA (k,x)->∃v,kvs[i]?=aA (k,v):=by
 induction r with
 |nil=>intro i k x e;simp at e|@cons p q ps b h t a=>
  intro i k x e;cases i with
  |zero=>simp at e;subst e;exact⟨p.2,by simp;exact Ry h.1 rfl⟩
  |succ i=>simpa using a (by simpa)
def NF(X:Cx)(a:Addr):Prop:=∀o u,X.H₀ a≠aA (.dC o u)
section
variable {X:Cx}{Z:L2.St}{kvs:List (aN×V)}{o:Obj}
theorem qs(I:Inv X pins Z H s)(e:H a=aA (.dK kvs)):NF X a:=λo u z=>by have:=I.base.pZ a o u z;rw[e]at this;cases this
theorem F4(I:Inv X pins Z H s)(e:H a=aA (.dK kvs)):∃o,s.heap.get? a=aA o/\Inv X pins Z (bG H a<|.dC o<|.dK kvs) s:=by obtain⟨z,y,d,r,ob,f,g,b,c⟩:=id (I.bA a _ e);have mu:ee (H a):=e▸oQ;have ob':hZ X.prog X.w (bG H a<|.dC ob<|.dK kvs) s.heap a (.dC ob<|.dK kvs):=⟨b,z,y,d,r,ob,f,g,b,c⟩;have:=I.un (t':=s.toks) (Un.write mu (.inl rfl) (λ_ _ _ q=>q) ⟨ob,b⟩) (eW.write I.bA mu (.inl rfl) (λ_ _ _ q=>q) ⟨ob,b⟩ ob');exact⟨ob,b,this⟩
theorem qv(I:Inv X pins Z H s)(e:H a=aA (.dC o<|.dK kvs))(nf:NF X a):Inv X pins Z (bG H a<|.dK kvs) s:=by
 have d:∀b,H b=aD->b≠a:=λb n z=>by rw[z,e]at n;cases n
 refine⟨I.ok,I.os,I.bare,⟨I.base.keep,I.base.slot,λb u q n g=>?_,I.base.there,λb xs q=>?_,λb x u q=>?_,λb ps q=>?_⟩,I.loc,I.cell,?_,λx c q=>?_,λp h=>?_,λb u q=>?_,I.len⟩
 .have:=I.base.free b u q n g;rw[bY (d b this)];exact this
 .have h1:=I.base.vB b xs q;rw[bY (λz=>by rw[z,e]at h1;cases h1)];exact h1
 .rw[bY (λz=>by rw[z]at q;exact nf x u q)];exact I.base.pZ b x u q
 .obtain⟨m,h1⟩:=I.base.vA b ps q;exact⟨m,by rw[bY (λz=>by rw[z,e]at h1;cases h1)];exact h1⟩
 .rw[bY (d _ I.free)];exact I.free
 .rw[bY (d _<|I.pX x c q)];exact I.pX x c q
 .obtain⟨h1,f,i⟩:=I.pin p h;exact⟨h1,by rw[bY (d _ f)];exact f,i⟩
 .by_cases hb:b=a
  .subst hb;rw[gU]at q;cases q;exact(I.bA b _ e).2
  .rw[bY hb]at q;exact(I.bA b u q).uY (λ_ _ _ r=>r) (λc r=>by rw[bY (λz=>by rw[z,e]at r;cases r)];exact r) λc xs r=>by rw[bY (λz=>by rw[z,e]at r;cases r)];exact r
def Ff(a:Addr)(o:Obj)(kvs:List (aN×V)):It:=
 ⟨λi H=>H a=aA (.dC o<|.dK kvs)/\i<kvs.length,λi H x H'=>H'=H/\∃k v,kvs[i]?=aA (k,v)/\x=kV k,λi H=>H a=aA (.dC o<|.dK kvs)/\kvs.length=i⟩
theorem Zf(I:Inv X pins Z H s)(e:H a=aA (.dC o<|.dK kvs)){es:Array DictEntry}(hd:o.data = .dict es ep):∃vs,KV kvs vs/\Qd (gP X.prog X.w) s.heap a vs ep:=by obtain⟨c,z,y,vs,r,ob,f,g,b,h,d,i⟩:=I.bA a _ e;rw[c]at b;cases b;rw[hd]at d;cases d;exact⟨vs,r,o,es,c,h,hd,i⟩
theorem aOm{P:cB}{K:bI}(a it:Addr)(hai:a≠it){es:Array DictEntry}(hd:o.data = .dict es ep):Turn P w K tg (Ff a o kvs) [it] it (λi h=>h.IsKeyIter it a i kvs.length ep) where
 mem:=by simp
 obj:=λi h st b hb=>by
  have e:b=it:=by simpa using hb
  subst e;obtain⟨o,e,c,d⟩:=st;exact⟨o,e,λv z=>by rw[d]at z;cases z⟩
 keep:=λi h j st k=>by obtain⟨o,e,c,d⟩:=st;exact⟨o,k it (by simp) o e,c,d⟩
 item:=by intro X l hw m n i pins s Z H E I hf st p;subst l hw m;obtain⟨e,F⟩:=p;obtain⟨g,r,q⟩:=Zf I e hd;have hl:=r.length;obtain⟨f0,f1,f2,t,f4,u⟩:=hf it (by simp);have W:=NP (knd:=gP X.prog X.w) (I.ok.hd n) it a hai g ep;refine W.item i s _ _ (by lia) ⟨hl▸st,q⟩ λv j tk B C D=>?_;obtain⟨k,x,G,B⟩:=B;obtain⟨y,J⟩:=Ju r G;have L:Inv X pins Z H { s with heap:=j,toks:=tk }:=I.turned (λb o hb e=>D b o (by simpa) e) f0 f1 t f4 u;obtain⟨f,_⟩:=C;rw[<- hl]at f;obtain⟨O,M,ci,N⟩:=id f;exact⟨v,rfl,zm M ci N (rfl) ⟨kV k,H,L,Jr B,⟨rfl,k,y,J,rfl⟩,f,λb hb=>(hf b hb).1⟩⟩
 done:=by intro X l hw m n i pins s Z H E I hf st p;subst l hw m;obtain⟨e,F⟩:=p;obtain⟨g,r,q⟩:=Zf I e hd;have hl:=r.length;obtain⟨f0,f1,f2,t,f4,u⟩:=hf it (by simp);have W:=NP (knd:=gP X.prog X.w) (I.ok.hd n) it a hai g ep;exact W.done s _ _ ⟨by rw[<- hl];rw[<- F]at st;exact st,q⟩ λj tk D=>⟨rfl,I.turned (λb o hb e=>D b o (by simpa using hb) e) f0 f1 t f4 u⟩
 self:=λA i s Q E st h=>by obtain⟨o,e,c,d⟩:=st;exact wpAny_pyIter_keyiter ⟨o,e,c,d⟩ h
def E1(tl:TE):TI:=λZ H R=>tl Z H λx H1=>∃a kvs,x = .ref a/\H1 a=aA (.dK kvs)/\∀o,R (Ff a o kvs) (bG H1 a<|.dC o<|.dK kvs)
theorem aBh{l:aL}{tl:TE}(hl:PE X l tl):PI X tg l (E1 tl):=by
 intro pins s Z H R I h;refine bE (hl pins s Z H _ I h) λv s1 k=>?_;obtain⟨x,H1,i,m,n⟩:=k;obtain⟨a,d,e,ha,q⟩:=n;subst e;cases m;obtain⟨o,f,g⟩:=F4 i ha;obtain⟨z,y,p,r,ob,t,A,c,u,j,w⟩:=i.bA a _ ha;rw[f]at c;cases c;have hl:=r.length;refine wpAny_pyIter_dict y ⟨o,t,f,u,j,w⟩ ?_;have dI:=cZ f;refine⟨s1.heap.objs.size,[s1.heap.objs.size],_,_,_,rfl,g.kept λb o e=>cT _ e,aOm a _ (bV dI) j,⟨_,fS _ rfl,rfl,by rw[hl];rfl⟩,λb hb=>?_,q o⟩;have e:b=s1.heap.objs.size:=by simpa using hb
 subst e;exact g.uB (aU _)<|g.bA.fresh<|aU _
def Tw(H0:Hp)(Q:Hp->Prop)(H:Hp):Prop:=∃a k0 o kvs,H0 a=aA (.dK k0)/\H a=aA (.dC o<|.dK kvs)/\Q (bG H a<|.dK kvs)
theorem aAy{t:TE}(h:PE X e t):PE X e (λZ H Q=>t Z H λx=>Tw H (Q x)):=by intro pins s Z H Q I q;refine bE (h pins s Z H _ I q) λv s1 b=>?_;obtain⟨x,H1,c,d,a,k,o,f,g,i,j⟩:=b;exact⟨x,_,qv c i (qs I g),d,j⟩
def Xx(H:Hp)(D:Ends):Ends:=⟨λZ=>Tw H (D.nx Z),λv=>Tw H (D.rt v),λZ=>Tw H (D.bk Z),λZ=>Tw H (D.ct Z)⟩
theorem aCv{st:Stmt}{t:TS}(h:PS X st t):PS X st (λD Z H=>t (Xx H D) Z H):=by
 intro pins s Z H D I q;refine bE (h pins s Z H _ I q) λf s1 h1=>?_;cases f with
 |next=>obtain⟨b,H1,c,a,j,o,d,e,g,i⟩:=h1;exact⟨b,_,qv c g (qs I e),i⟩|brk=>obtain⟨b,H1,c,a,j,o,d,e,g,i⟩:=h1;exact⟨b,_,qv c g (qs I e),i⟩|cont=>obtain⟨b,H1,c,a,j,o,d,e,g,i⟩:=h1;exact⟨b,_,qv c g (qs I e),i⟩|ret u=>obtain⟨v,b,H1,c,k,a,j,o,d,e,g,i⟩:=h1;exact⟨v,b,_,qv c g (qs I e),k,i⟩
end
theorem aPd{bs:Yt}:∀{us:Hu},Vals (bs.map V.bl) us->us=bs.map cq:=by
 induction bs with
 |nil=>intro us r;cases r;rfl|cons b bs a=>
  intro us r;cases r with
  |cons h t=>have c:=h;subst c;rw[a t];rfl
theorem Pb:∀{us:Hu},Vals (ns.map V.int) us->vK us ns:=by
 induction ns with
 |nil=>intro us r;cases r;exact .nil|cons n ns a=>
  intro us r;cases r with
  |cons h t=>obtain⟨k,rfl⟩:=(h);exact .cons n k<|a t
theorem Aa:∀{us:Hu}{ns:Hx},vK us ns->Vals (ns.map V.int) us
 |_,_,.nil=>.nil
 |_,_,.cons n t r=>.cons ⟨t,rfl⟩ (Aa r)
theorem aJi(bs:Yt):(Rh bs.length).any (λi=>(bs[i]?).getD aH)=bs.any id:=by
 rw[jv,KZ,KZ];constructor
 .rintro ⟨i,c,h⟩
  have a:=List.mem_range.mp c;rw[dZ a]at h;exact⟨bs[i],Qr a,h⟩
 .rintro ⟨b,hb,h⟩
  obtain⟨i,c,e⟩:=Qs hb;exact⟨i,List.mem_range.mpr c,by rw[dZ c,e];exact h⟩
def jX(rev:Bool)(ns:Hx):Hx:=ns.mergeSort (λa b=>if rev then decide (b<=a) else decide (a<=b))
theorem Cd{rev:Bool}{ns':Hx}(hp:ns'.Perm ns)(ho:Ordered rev ns'):ns'=jX rev ns:=by
 have hs:KR (λa b=>(if rev then decide (b<=a) else decide (a<=b))=aB) (jX rev ns):=by
  refine aTh ?_ ?_ ns
  .intro a b c;cases rev<;>simp<;>lia
  .intro a b;cases rev<;>simp<;>lia
 refine aSz ?_ ?_ hs<|hp.trans (LY _ _).symm
 .intro a b _ _;cases rev<;>simp<;>lia
 .unfold Ordered at ho;cases rev with
  |true=>exact KS (λh=>by simpa) (by simpa)|false=>exact KS (λh=>by simpa) (by simpa)
section
variable {X:Cx}{Z:L2.St}
theorem VQ(hc:X.calm=aB):iO X (.builtin "any") (λxs H Q=>∃(a:Addr) (bs:Yt),xs=[.ref a]/\dN X.K H a (bs.map V.bl)/\Q (.bl<|bs.any id) H):=by
 intro pins s Z H xs us Q I r h;obtain⟨a,bs,rfl,g,q⟩:=h;obtain⟨u,rfl,j⟩:=r.one;cases j;obtain⟨l,m,p,z⟩:=I.list g;have e:=aPd m;subst e;have t:X.A.in1.handled=aD:=I.ok.hd hc;obtain⟨ob,h1,w,n,x⟩:=p.isList;refine call_any_walk<|md p.isList ?_;refine⟨s.heap.objs.size,_,_,_,_,_,λi=>(bs[i]?).getD aH,rfl,Walks.list t s.heap.objs.size a (bV<|cZ h1) (bs.map cq).toArray,⟨⟨_,fS _ rfl,rfl,rfl⟩,⟨ob,cT _ h1,w,n,x⟩⟩,λi v A B C c d=>?_,λD tk k=>?_⟩
 .dsimp only at c d;rw[LQ,fM]at c;cases e:bs[i]? with
  |none=>rw[e]at c;cases c|some b=>rw[e]at c d;have f:=eF c;subst f;exact dw d
 .have hl:(bs.map cq).toArray.size=bs.length:=by simp
  rw[hl,aJi];refine⟨.bl _,H,I.kept λb o e=>k b o ?_ (cT _ e),rfl,q⟩;intro hb;have y:b=s.heap.objs.size:=by simpa using hb
  subst y;exact absurd (cZ e)<|lC _
theorem WI(b:Bool)(I:Inv X pins Z H s)(hq:dN X.K H l (ns.map V.int))(hn:ns.length<64)(q:∀D,H D=aD->Q (.ref D) (bG H D<|.lst<|(jX b ns).map V.int)) :
  aS (aY X.prog X.w) X.A (call (.builtin "sorted") [.ref l] [(vO "reverse",.bool b)]) (EP X pins Z Q) X.xe s:=by
 obtain⟨a,c,p,k⟩:=I.list hq;have hl:a.length=ns.length:=by have:=c.length;simpa using this.symm
 refine sorted_ints_rev p.isList (Pb c) (by lia) λout f g d h=>?_;have e:=Cd d h;subst e;obtain⟨i,j⟩:=sortedAll_at s.heap a out;refine⟨.ref _,_,I.laid (o:=.lst ((jX b ns).map V.int)) (λb u z=>sortedAll_old z) (jQ _) ⟨?_,out.toList,i,Aa g,by rw[j]⟩,rfl,q _ (I.bA.fresh<|jQ _)⟩;have:=d.length_eq;rw[aW];have:64<=sizeLine:=by decide
 lia
theorem CP(l:Addr)(d:Value):Builtin.min { pos:=[.ref l],kw:=[(vO "default",d)] }=(do
   let it <- wj (.ref l)
   let S <- newList []
   again (.builtin "min.loop" { pos:=[it,.none,S],kw:=[(vO "default",d)] })):=by
  with_unfolding_all rfl
theorem Wl(a d:Value):checkBuiltinCall "min" { pos:=[a],kw:=[(vO "default",d)] }=pure ():=by with_unfolding_all rfl
theorem O5(I S:Addr)(d:Value)(n:Str):∃k:Option (Array Value)->Sem Si,Builtin.«min.loop» { pos:=[.ref I,.none,.ref S],kw:=[(n,d)] }=(cz (.ref S)>>=k) /\
  ∃(h:Value->Sem Hz) (k2:Hz->Sem Si),k (aA #[])=((tryCatch (tO<|.ref I) h)>>=k2)/\k2 aD=(rule "min.default">>=λ_=>ret d):=by
 refine⟨_,by with_unfolding_all rfl,_,_,by with_unfolding_all rfl,by with_unfolding_all rfl⟩
theorem WE(hc:X.calm=aB){d:Value}{v:V}(I:Inv X pins Z H s)(hq:dN X.K H l [])(rd:RelV v d)(q:Q v H) :
  aS (aY X.prog X.w) X.A (call (.builtin "min") [.ref l] [(vO "default",d)]) (EP X pins Z Q) X.xe s:=by
 obtain⟨its,rv,p,hz⟩:=I.list hq;cases rv;have hh:=I.ok.hd hc;obtain⟨ob,h1,h2,n,h3⟩:=p.isList;refine wm<|NT ND NA ?_;rw[Wl];refine bZ ?_;rw[CP];refine aP<|md p.isList<|aP<|Uc ?_;refine bZ ⟨KI _ (by decide +kernel),Ep Ef ?_⟩;obtain⟨k,e1,hd,k2,e2,e3⟩:=O5 s.heap.objs.size (s.heap.push { cls:=.type "list_iterator",data:=.fields #[.ref l,.int 0 0] }).objs.size d (vO "default");rw[e1];refine aP<|nS (fS _ rfl) rfl ?_;show aS _ _ (k<|aA #[]) _ _ _;rw[e2];refine aP<|wu<|Ue (items:=#[]) (l:=l) (i:=0) hh ?_ ?_ rfl λh' eb=>?_
 .exact⟨_,cT _ (fS _ rfl),rfl,rfl⟩
 .exact⟨ob,cT _ (cT _ h1),h2,n,h3⟩
 .rw[e3];refine aP<|mf<|bZ ?_;refine⟨v,H,I.kept (t':=s.toks) λb o e=>eb b o ?_ (cT _<|cT _ e),rd,q⟩;intro hb;subst hb;exact absurd (cZ e)<|lC _
theorem DX{x nm:Str}{id:String}{kp:Pos}{kc:aL}{t:TE}{z:V}{r:V->Hp->VK->Prop}(hc:∀pins s Z H v u zu Q,Inv X pins Z H s->RelV v u->RelV z zu->r v H Q->aS (aY X.prog X.w) X.A (call (.builtin id) [u] [(nm,zu)]) (EP X pins Z Q) X.xe s)
  (hg:Gl X x)(hm:X.mg x=aD)(hv:mV x=aA (.builtin id))(ha:PE X e t)(hk:PE X kc (tC z))(hs:eO [e] X.env=[(aH,eval e X.env)])(hn:x≠"__name__":=by decide)(hdb:(x==("__debug__":Str))=aH:=by decide) :
  PE X (.Call (.Name x p) [e] [⟨aA nm,kc,kp⟩] pos) (λZ H Q=>t Z H λv H1=>r v H1 Q):=by
 intro pins s Z H Q I h;refine dk<|zX I hg hm hv ?_ hn hdb;have pa:=xA ha af hs;have j:PK X [⟨aA nm,kc,kp⟩] (Oi (tC z) jh):=aBn hk aBo;obtain⟨y,rest,b⟩:∃y rest,lU pos (eO [e] X.env)=(aH,y)::rest:=by rw[hs];exact⟨_,_,rfl⟩
 have c:(lU pos<|eO [e] X.env).any (·.1)=aH:=by rw[hs];rfl
 refine callWith_builtin_kwB c rfl ?_;have h1:=pa pos pins s Z H (λa H1=>match a with
  |[v]=>r v H1 Q
  |_=>False) I h
 rw[b]at h1 ⊢;refine evalArgs_kw rfl ?_;refine bE h1 λus s1 d=>?_;obtain⟨a,H1,k,l,i⟩:=d;obtain⟨v,rfl⟩:∃v,a=[v]:=by
  match a,i with
  |[v],_=>exact⟨v,rfl⟩
 obtain⟨u,rfl,m⟩:=l.one;refine bE (j pos pins s1 Z H1 (λzs f=>zs=[z]/\f=H1) k ⟨rfl,rfl⟩) λws s2 d=>?_;obtain⟨zs,f,n,o,q,w⟩:=d;subst q w;obtain⟨zu,rfl,g⟩:=o.one;exact hc pins s2 Z f v u zu Q n m g i
end
def sL:Hx->Int
 |[]=>0
 |n::r=>r.foldl (λm x=>if x<m then x else m) n
theorem Km:∀(r:Hx) (n:Int),(r.foldl (λm x=>if x<m then x else m) n∈n::r)/\∀a∈n::r,r.foldl (λm x=>if x<m then x else m) n<=a
 |[],n=>by simp
 |x::r,n=>by
  obtain⟨h1,b⟩:=Km r (if x<n then x else n);rw[LK];refine⟨?_,λa ha=>?_⟩
  .rcases List.mem_cons.mp h1 with e|e
   .rw[e];split<;>simp
   .exact lT _<|lT _ e
  .have c:=b _ (kB ..);have d:(if x<n then x else n)<=x/\(if x<n then x else n)<=n:=by split<;>lia
   rcases List.mem_cons.mp ha with rfl|ha
   .exact KO c d.2
   .rcases List.mem_cons.mp ha with rfl|ha
    .exact KO c d.1
    .exact b a<|lT _ ha
theorem CO(h:ns≠[]):sL ns∈ns:=by
 cases ns with
 |nil=>exact absurd rfl h|cons n r=>exact(Km r n).1
theorem O2{a:Int}(h:a∈ns):sL ns<=a:=by
 cases ns with
 |nil=>cases h|cons n r=>exact(Km r n).2 a h
theorem O1{M:Int}(h1:M∈ns)(h2:∀a∈ns,M<=a):M=sL ns:=by have b:=O2 h1;have c:=h2 _ (CO<|List.ne_nil_of_mem h1);lia
section
variable {R:Result->aJ->Prop}{I:Addr}{fp wr:Hy}{P:Nat->Value->Prop}{St:Nat->bH->Prop}
theorem O3(nm:Str)(d:Value)(W:Walks prog w A.in1 I fp wr n P St)(bt:Nat->Nat->Bool)(Jb:CmpOf prog w A.in1 .Lt P bt)(S:Addr)(hSf:S∉fp) :
  ∀(k j:Nat) (s:aJ) (vb:Value) (c:Nat),n-(j+1)=k->j+1<=n->St (j+1) s.heap->P (vQ bt j) vb->s.heap.get? S=aA { cls:=.type "list",dict:=aD,data:=.seq #[vb,vb] c,slots:=#[] } ->
  (∀v h' tk,P (vQ bt<|n-1) v->(∀b o,b∉wr->b≠S->s.heap.get? b=aA o->h'.get? b=aA o)->R (.ok<|.ret v) { s with heap:=h',toks:=tk }) ->
  tM (aY prog w) A (.builtin "min.loop" ⟨[.ref I,.none,.ref S],[(nm,d)]⟩) R s:=by
 have hSw:S∉wr:=λh=>hSf (W.sub _ h);have zt:(toString "min"++toString ".loop":String)="min.loop":=by decide
 intro k;induction k with
 |zero=>
  intro j s vb c hk hj hst hPb hS hR;have hin:j+1=n:=by omega
  refine Ep Ef ?_;rw[Pz kr _];show aS _ A.in1 (cz (.ref S)>>=_) _ _ s;refine aP<|nS hS rfl ?_;show aS _ A.in1 (tryCatch (tO<|.ref I) _>>=_) _ _ s;refine aP<|wu<|W.done s _ _ (hin▸hst) λh' tk hk'=>?_;have hS':=hk' S _ hSw hS;show aS _ A.in1 (updateSeq S (λ_=>#[])>>=_) _ _ _;refine aP ?_;refine Ug hS' rfl<|aP<|dq<|bZ ?_;exact hR vb _ tk (by rw[<- hin];exact hPb) λb o hbw hbS e=>(bu _ _<|lE hbS).trans (hk' b o hbw e)
 |succ k ih=>
  intro j s vb c hk hj hst hPb hS hR;have dI:j+1<n:=by omega
  refine Ep Ef ?_;rw[Pz kr _];show aS _ A.in1 (cz (.ref S)>>=_) _ _ s;refine aP<|nS hS rfl ?_;show aS _ A.in1 (tryCatch (tO<|.ref I) _>>=_) _ _ s;refine aP<|wu<|W.item (j+1) s _ _ dI hst λv h' tk hP hst' hk'=>?_;have hS':=hk' S _ hSw hS;show aS _ A.in1 (tryCatch (lu [v,v]<|richCompare .Lt v vb>>=_) _>>=_) _ _ _;refine aP<|wu<|oR<|aP<|Jb (j+1) (vQ bt j) v vb _ _ _ hP hPb ?_;refine aP<|oR<|dw ?_;refine aP<|dq<|bZ ?_;cases hb:bt (j+1) (vQ bt j) with
  |true=>
   simp only[if_true];refine aP ?_;refine Ug hS' rfl<|aP<|dq ?_;rw[zt];refine bZ ⟨Tp kr _,ih (j+1) _ v _ (by omega) dI (W.frame _ _ _ hst' λb hbf o e=>?_) (by simp only[vQ,hb,if_true];exact hP) (vj _ hS' rfl) λv' h'' tk'' hP' hk''=>?_⟩
   .exact(bu _ _ (λh:S=b=>hSf (by rw[h];exact hbf))).trans e
   .exact hR v' h'' tk'' hP' λb o hbw hbS e=>hk'' b o hbw hbS ((bu _ _<|lE hbS).trans (hk' b o hbw e))
  |false=>simp only[vi,if_false];refine aP<|dq ?_;rw[zt];refine bZ ⟨Tp kr _,ih (j+1) _ vb c (by omega) dI hst' (by simp only[vQ,hb,vi,if_false];exact hPb) hS' λv' h'' tk'' hP' hk''=>?_⟩;exact hR v' h'' tk'' hP' λb o hbw hbS e=>hk'' b o hbw hbS (hk' b o hbw e)
theorem O4(nm:Str)(d:Value)(W:Walks prog w A.in1 I fp wr n P St)(bt:Nat->Nat->Bool)(Jb:CmpOf prog w A.in1 .Lt P bt)(S:Addr)(hSf:S∉fp)(hn:0<n){c:Nat}(hst:St 0 s.heap)
  (hS:s.heap.get? S=aA { cls:=.type "list",dict:=aD,data:=.seq #[] c,slots:=#[] })
  (hR:∀v h' tk,P (vQ bt<|n-1) v->(∀b o,b∉wr->b≠S->s.heap.get? b=aA o->h'.get? b=aA o)->R (.ok<|.ret v) { s with heap:=h',toks:=tk }) :
  tM (aY prog w) A (.builtin "min.loop" ⟨[.ref I,.none,.ref S],[(nm,d)]⟩) R s:=by
 have hSw:S∉wr:=λh=>hSf (W.sub _ h);have zt:(toString "min"++toString ".loop":String)="min.loop":=by decide
 refine Ep Ef ?_;rw[Pz kr _];show aS _ A.in1 (cz (.ref S)>>=_) _ _ s;refine aP<|nS hS rfl ?_;show aS _ A.in1 (tryCatch (tO<|.ref I) _>>=_) _ _ s;refine aP<|wu<|W.item 0 s _ _ hn hst λv h' tk hP hst' hk'=>?_;have hS':=hk' S _ hSw hS;show aS _ A.in1 (updateSeq S (λ_=>#[v,v])>>=_) _ _ _;refine aP ?_;refine Ug hS' rfl ?_;rw[zt];refine bZ ⟨Tp kr _,O3 nm d W bt Jb S hSf _ 0 _ v _ rfl hn (W.frame _ _ _ hst' λb hbf o e=>?_) hP (vj _ hS' rfl) λv' h'' tk'' hP' hk''=>?_⟩
 .exact(bu _ _ (λh:S=b=>hSf (by rw[h];exact hbf))).trans e
 .exact hR v' h'' tk'' hP' λb o hbw hbS e=>hk'' b o hbw hbS ((bu _ _<|lE hbS).trans (hk' b o hbw e))
end
section
variable {X:Cx}{Z:L2.St}
theorem WG(hc:X.calm=aB){d:Value}(I:Inv X pins Z H s)(hq:dN X.K H l (ns.map V.int))(hne:ns≠[])(q:Q (.int<|sL ns) H) :
  aS (aY X.prog X.w) X.A (call (.builtin "min") [.ref l] [(vO "default",d)]) (EP X pins Z Q) X.xe s:=by
 obtain⟨its,rv,p,hz⟩:=I.list hq;have hi:=Pb rv;have hh:=I.ok.hd hc;obtain⟨xs,e⟩:=hi.allInts.items;have hns:ns=xs.toList.map (·.1):=by rw[<- hi.numsOf,<- nums_intItems,<- e]
 have hsz:0<xs.size:=by have:ns.length≠0:=λz=>hne (Ds z);rw[hns,aW,xN]at this;lia
 have hl:s.heap.IsList l (wh xs):=by rw[<- e];exact p.isList
 obtain⟨ob,h1,h2,n,h3⟩:=id hl;refine wm<|NT ND NA ?_;rw[Wl];refine bZ ?_;rw[CP];refine aP<|md hl<|aP<|Uc ?_;have dI:=cZ h1;refine bZ ⟨KI _ (by decide +kernel),?_⟩;refine O4 (vO "default") d (Walks.list (A:=X.A.in1) hh s.heap.objs.size l (bV dI)<|wh xs) (λi j=>decide (vS xs i<vS xs j)) (CmpOf.ints_lt (vS xs)<|λ_ _=>intItems_at) _ ?_ (by simpa[wh]using hsz) ?_ (fS _ rfl) λv h' tk hP hk=>?_
 .intro hm;have hs2:(s.heap.push { cls:=.type "list_iterator",data:=.fields #[.ref l,.int 0 0] }).objs.size=s.heap.objs.size+1:=rH ..;rw[hs2]at hm;simp only[kN,gI,or_false]at hm;rcases hm with hm|hm
  .exact absurd hm<|lD<|cN _
  .exact absurd hm<|lD<|kC dI
 .exact⟨⟨_,cT _ (fS _ rfl),rfl,rfl⟩,ob,cT _ (cT _ h1),h2,n,h3⟩
 .have hP':(wh xs)[vQ (λi j=>decide (vS xs i<vS xs j)) (xs.size-1)]?=aA v:=by simpa[wh]using hP
  obtain⟨t,rfl⟩:=intItems_at hP';obtain⟨b1,b2⟩:=argBest_lt (vS xs) (xs.size-1);have em:vS xs (vQ (λi j=>decide (vS xs i<vS xs j))<|xs.size-1)=sL ns:=by
   refine O1 ?_ λa ha=>?_
   .rw[hns,numAt_eq];exact getD_mem (by rw[aW,xN];lia)
   .rw[hns]at ha;obtain⟨j,hj,rfl⟩:=mem_getD ha;rw[aW,xN]at hj;rw[<- numAt_eq];exact b2 j (by omega)
  rw[em];refine⟨.int (sL ns),H,I.kept (t':=tk) λb o e=>hk b o ?_ ?_ (cT _<|cT _ e),⟨t,rfl⟩,q⟩
  .intro hm;simp only[kN,gI,or_false]at hm;exact absurd hm<|bV<|cZ e
  .have:=cZ e;have hs2:(s.heap.push { cls:=.type "list_iterator",data:=.fields #[.ref l,.int 0 0] }).objs.size=s.heap.objs.size+1:=rH ..;rw[hs2];exact bV<|kC this
theorem AS:∀{us:Hu}{ns:Hx},us.length=ns.length->(∀(j:Nat) v n,us[j]?=aA v->ns[j]?=aA n->∃t,v=vP n t)->vK us ns
 |[],[],_,_=>.nil
 |u::us,n::ns,hl,h=>by obtain⟨t,rfl⟩:=h 0 u n rfl rfl;exact .cons n t<|AS (by simpa using hl) λj v m a b=>h (j+1) v m (by simpa) (by simpa)
 |[],_::_,hl,_=>by simp at hl
 |_::_,[],hl,_=>by simp at hl
theorem WH(hc:X.calm=aB):iO X (.builtin "sorted") (λxs H Q=>∃(a:Addr) (kvs:List (aN×V)) (ns:Hx),xs=[.ref a]/\H a=aA (.dK kvs)/\kvs.map (·.1)=ns.map nP/\ns.length<64/\∀D,H D=aD->Q (.ref D) (bG H D<|.lst<|(jX aH ns).map V.int)):=by
 intro pins s Z H xs us Q I r h;obtain⟨a,kvs,ns,rfl,ha,f,hn,q⟩:=h;obtain⟨u,rfl,B⟩:=r.one;cases B;obtain⟨z,y,m,p,ob,C,E,F,G,J,K⟩:=I.bA a _ ha;have L:Qd (gP X.prog X.w) s.heap a m E:=⟨ob,C,F,G,J,K⟩;have M:kvs.length=ns.length:=by simpa using congrArg Qu f
 have N:=p.length;have O:=I.ok.hd hc;refine Calls.call_function_entry kind_sorted plain_sorted entry_sorted (args_sorted1 _) ?_;refine aP<|bZ ?_;refine aP<|W.kdu_collect (NL y) O L (by lia) λg tk acc P c=>?_;have t:vK acc.toList ns:=AS (by rw[xN,c.1];lia) λj v n R i=>by
  obtain⟨k,x,S,T⟩:=c.2 j v (by rw[<- Qa];exact R);obtain⟨ZB,U⟩:=Ju p S;have w:(kvs.map (·.1))[j]?=aA k:=by rw[fM,U];rfl
  rw[f,fM,i]at w;have W:=(eF w).symm;subst W;exact Jr (k:=nP n) T
 have hlen:=t.length;refine aP<|Uc ?_ (by lia);have d:(g.push<|seqObj "list" acc.toList.toArray 0).get? g.objs.size=aA (seqObj "list" acc.toList.toArray 0):=fS _ rfl;refine aP<|oR<|yB slot_list_sort ⟨_,d,rfl⟩ entry_list_sort (list_sort_tree d t (by lia) λout Y a1 a2 a3=>⟨_,rfl,?_⟩)<|args_list_sort _;have e:=Cd (rev:=aH) a2 (by unfold Ordered;simpa);subst e;obtain⟨i,l⟩:=sortedHeap_at d;have A:Inv X pins Z H { s with heap:=g,toks:=tk }:=I.kept P;refine bZ ⟨_,rfl,.ref _,_,A.laid (o:=.lst ((jX aH ns).map V.int)) (λb u h1=>?_) (aU _) ⟨?_,out.toList,i,Aa a1,by rw[l]⟩,rfl,q _ (A.bA.fresh<|aU _)⟩
 .have h1:=h1;rw[sortedHeap_old (bV<|cZ h1) (by rw[size_push'];exact kC<|cZ h1),cT _ h1]
 .have:=a2.length_eq;rw[aW];lia
theorem WJ:iO X (.builtin "sorted") (λxs H Q=>∃(a:Addr) (ns:Hx),xs=[.ref a]/\dN X.K H a (ns.map V.int)/\ns.length<64/\∀D,H D=aD->Q (.ref D) (bG H D<|.lst<|(jX aH ns).map V.int)):=by
 intro pins s Z H xs us Q I r h;obtain⟨l,ns,rfl,g,hn,q⟩:=h;obtain⟨u,rfl,i⟩:=r.one;cases i;obtain⟨c,d,p,t⟩:=I.list g;have hl:c.length=ns.length:=by have:=d.length;simpa using this.symm
 refine sorted_ints p.isList (Pb d) (by lia) λout j k f v=>?_;have e:=Cd (rev:=aH) f (by unfold Ordered;simpa);subst e;obtain⟨m,n⟩:=sortedAll_at s.heap c out;refine⟨.ref _,_,I.laid (o:=.lst ((jX aH ns).map V.int)) (λb u z=>sortedAll_old z) (jQ _) ⟨?_,out.toList,m,Aa k,by rw[n]⟩,rfl,q _ (I.bA.fresh<|jQ _)⟩;have:=f.length_eq;rw[aW];have:64<=sizeLine:=by decide
 lia
variable {k:Nat}{f:Addr}
variable {kS:Addr}{us:Hu}{ks:Hx}{keys:YY}{e e1:Nat}{E:Value->aJ->Prop}{P:Si->aJ->Prop}
end
section
variable {X:Cx}
theorem aPc{us:Hu}:∀{ys:Hw},us.length=ys.length->(∀(j:Nat) v y,us[j]?=aA v->ys[j]?=aA y->RelV y v)->Vals ys us:=by
 induction us with
 |nil=>intro ys hl _;cases ys with
  |nil=>exact .nil|cons _ _=>simp at hl
 |cons u us a=>intro ys hl h;cases ys with
  |nil=>simp at hl|cons y ys=>exact .cons (h 0 u y rfl rfl)<|a (by simpa using hl) λj v z b c=>h (j+1) v z (by simpa) (by simpa)
theorem VY(hc:X.calm=aB):iO X (.type "list") (λxs H Q=>∃(a:Addr) (kvs:List (aN×V)),xs=[.ref a]/\H a=aA (.dK kvs)/\∀D,H D=aD->Q (.ref D) (bG H D<|.lst<|kvs.map λp=>kV p.1)):=by intro pins s Z H xs us Q I r h;obtain⟨a,kvs,rfl,ha,q⟩:=h;obtain⟨u,rfl,f⟩:=r.one;cases f;obtain⟨z,y,c,d,ob,g,i,l,m,n,t⟩:=I.bA a _ ha;have w:Qd (gP X.prog X.w) s.heap a c i:=⟨ob,g,l,m,n,t⟩;have A:=d.length;refine W.kdl_call (NL y) (I.ok.hd hc) w (by lia) λL tk acc B C E b=>?_;refine⟨.ref s.heap.objs.size,_,I.laid (o:=.lst (kvs.map λp=>kV p.1)) C (aU _) ⟨by rw[aW];exact z,acc.toList,B,aPc (by rw[xN,b.1,aW];lia) λj v y F e=>?_,E⟩,rfl,q _ (I.bA.fresh<|aU _)⟩;obtain⟨k,x,G,J⟩:=b.2 j v (by rw[<- Qa];exact F);obtain⟨M,K⟩:=Ju d G;rw[fM,K]at e;cases e;exact Jr J
end
section
variable {E:Value->aJ->Prop}
theorem Q3{t:Addr}{i:Nat}{x:Value}{Q:Value->aJ->Prop}(u1:s.heap.IsTupleIter it t i)(u2:s.heap.IsTuple t items)(gx:items[i]?=aA x)
  (hQ:∀h',h'.IsTupleIter it t (i+1)->xQ it s.heap h'->Q x { s with heap:=h' }):aS (aY prog w) A (rG<|.ref it) Q E s:=by
 obtain⟨o,a,b,d1⟩:=id u1;obtain⟨d,c,_,e,d2⟩:=u2;refine aP<|dn u1.typeIs xP<|yB xP u1.typeIs Dk ?_<|Dj _;show aS _ _ (tN (.ref it) 0>>=_) _ _ s;refine aP<|kP a d1 rfl ?_;show aS _ _ (if(kO t==wb)=aB then _ else _) _ _ s;rw[if_neg (show¬((kO t==wb)=aB) from fX)];show aS _ _ (tN (.ref it) 1>>=_) _ _ s;refine aP<|kP a d1 rfl ?_;show aS _ _ (cz (.ref t)>>=_) _ _ s;refine aP<|nS c d2 ?_;simp only[tE,gx];refine aP<|Ez a d1 (by simp)<|bZ ⟨x,rfl,bZ (hQ _ ?_ (Dn ..))⟩;exact⟨_,vj _ a (MN<|Dz d1 _),(MM ..).trans b,by rw[Dz d1];simp[yA]⟩
theorem CU{t:Addr}{i:Nat}{Q:Value->aJ->Prop}(hh:A.handled=aD)(u1:s.heap.IsTupleIter it t i)(u2:s.heap.IsTuple t items)(gx:items[i]?=aD)
  (hE:∀h' e,ke it s.heap h'->(∃o,h'.get? e=aA o/\o.cls = .type "StopIteration")->E (.ref e) { s with heap:=h' }):aS (aY prog w) A (rG<|.ref it) Q E s:=by
 obtain⟨o,e1,c1,d1⟩:=id u1;obtain⟨p2,e2,_,n2,d2⟩:=u2;unfold rG;refine aP<|dn (name:=vO "__next__") u1.typeIs xP<|yB xP u1.typeIs Dk ?_<|Dj _;show aS _ _ (tN (.ref it) 0>>=_) _ _ s;refine aP<|kP e1 d1 rfl ?_;show aS _ _ (if(kO t==wb)=aB then _ else _) _ _ s;rw[if_neg (show¬((kO t==wb)=aB) from fX)];show aS _ _ (tN (.ref it) 1>>=_) _ _ s;refine aP<|kP e1 d1 rfl ?_;show aS _ _ (cz (.ref t)>>=_) _ _ s;refine aP<|nS e2 d2 ?_;simp only[tE,gx];refine aP<|mf<|aP<|Ez e1 d1 (by simp) ?_;show aS _ _ (newExc (.type "StopIteration") []>>=_) _ _ _;refine aP ?_;simp only[newExc];refine aP<|tQ ?_ (by size_fits);refine aP (m:=NU _ _)<|Ud (by first|rfl|(simp only[NU];rfl)) ?_;refine tQ ?_ (by size_fits);simp only[raiseNew];refine aP<|OD ?_;(first|rw[show A.in1.handled=aD from hh] | rw[hh]);refine aP<|bZ<|wpAny_throw ?_;exact hE _ _ (((Dn ..).extBut.push _).push _) ⟨_,fS _ rfl,rfl⟩
end
theorem YI(hh:A.handled=aD)(it l:Addr)(hne:l≠it)(items:YY):Draws prog w A it [it,l] items.size (λi v=>items[i]?=aA v) (λi h=>h.IsTupleIter it l i/\h.IsTuple l items) where
 live:=λ_ _ u=>u.1.elim λo p=>⟨o,p.1⟩
 frame:=λ_ _ _ st c=>⟨st.1.at λo e=>c it (.head _) o e,let ⟨o,f,r⟩:=st.2;⟨o,c l (.tail _<|.head _) o f,r⟩⟩
 item:=λi s Q E d st g=>Q3 st.1 st.2 (x:=items[i]) (by simp[d]) λj a b=>g _ j s.toks (by simp[d]) ⟨a,st.2.extBut b.extBut hne⟩ b
 done:=λs Q E st k=>CU hh st.1 st.2 (by simp) k
abbrev qy(l:Addr):Obj:={ cls:=.type "tuple_iterator",data:=.fields #[.ref l,.int 0 0] }
abbrev Hm(n:Addr):Obj:={ cls:=.type "enumerate",data:=.fields #[.none,.bool aH,.ref n,yA 0,.none,.none] }
theorem N9(l:Addr)(items:YY)(n:Nat)(aQ:Yu)(sl:Yr) :
  Meets (Builtin.«enumerate.__new__» ⟨[.type "enumerate",.ref l],[]⟩) (λ_ R s=>s.heap.get? l=aA { cls:=.type "tuple",dict:=aQ,data:=.seq items n,slots:=sl } /\
   R (.ok<|.ret<|.ref (s.heap.push<|qy l).objs.size)
    { s with heap:=(s.heap.push<|qy l).push (Hm s.heap.objs.size) }):=
 .of_wp λprog w A R s h=>by
  obtain⟨hp,g,d,tk,os⟩:=s;obtain⟨e1,h⟩:=h;have sb:=sub_enumerate;have v1:Heap.IsTuple (Tb ⟨hp,g,d,tk,os⟩) l items:=⟨_,e1,rfl,n,rfl⟩;wp_walk using Dg e1
  refine wpAny_stack_any λst=>bZ ?_;split
  .rename_i c _ _ _ _ _;cases(c==Tc "enumerate")
   .wp_walk using Dg e1,wq v1
    exact⟨_,rfl,h⟩
   .wp_walk using Dg e1,wq v1
    exact⟨_,rfl,h⟩
  .wp_walk using Dg e1,wq v1
   exact⟨_,rfl,h⟩
theorem VT{E:Value->aJ->Prop}{Q:Value->aJ->Prop}(v1:s.heap.IsTuple l items)
  (h:∀h',IsEnum h' (s.heap.objs.size+1) s.heap.objs.size 0 .none->h'.IsTupleIter s.heap.objs.size l 0->h'.objs.size=s.heap.objs.size+2->(∀b o,s.heap.get? b=aA o->h'.get? b=aA o)->Q (.ref<|s.heap.objs.size+1) { s with heap:=h' }):aS (aY prog w) A (call (.type "enumerate") [.ref l]) Q E s:=by
 obtain⟨⟨c,aQ,dt,sl⟩,e1,c1,n,d1⟩:=v1;cases(c1);cases(d1);refine NR F.called_enumerate (rfl) (F.typeCall_enumerate_1 _) (F.newCall_enumerate_1 _) (λobj=>F.args_object_init_2 obj _) F.entry_enumerate_new (N9 l items n aQ sl) ⟨e1,?_⟩;have z1:(s.heap.push<|qy l).objs.size=s.heap.objs.size+1:=rH ..;rw[z1];have q1:IsEnum ((s.heap.push<|qy l).push
   (Hm s.heap.objs.size)) (s.heap.objs.size+1) s.heap.objs.size 0 .none:=by
  have:=fS (s.heap.push<|qy l)
   (o:=(Hm s.heap.objs.size)) rfl
  rw[z1]at this;exact this
 exact⟨⟨_,q1,rfl⟩,h _ q1 ⟨_,cT _ (fS _ rfl),rfl,rfl⟩ (by rw[rH,z1]) λb o x=>cT _ (cT _ x)⟩
inductive AV where
 |aE|bl (b:Bool)|int (i:Int)|str (x:Str)|tup (xs:List AV)|ref (n:Nat)|lL (kvs:Yh)
 deriving Inhabited
abbrev _root_.Ht:=List AV
abbrev _root_.Yf:=List (Str×AV)
abbrev _root_.Yo:=Option AV
variable {dv xs:Ht}{kvs:List (aN×AV)}{v x y:AV}
inductive bJ where
 |lst (mu:Bool) (xs:Ht)
 |aQ (kvs:List (aN×AV))
 |dD (kvs:List (aN×AV))
 |ins (c:Nat) (fs:Yf)
variable {o:bJ}
def bJ.mu:bJ->Bool
 |.lst m _=>m
 |_=>aB
structure AH where
 nx:Nat
 ob:Nat->Option bJ
variable {R:AV->AH->Prop}{h:AH}
def AH.put(h:AH)(n:Nat)(o:bJ):AH:=⟨h.nx,λm=>if m=n then aA o else h.ob m⟩
def AH.new(h:AH)(o:bJ):AH:=⟨h.nx+1,λm=>if m=h.nx then aA o else h.ob m⟩
inductive Res(α:Type) where
 |ok (a:α) (h:AH)
 |bad
abbrev M(α:Type):=AH->Res α
variable {dp:Nat->Option (Ht->M AV)}{g':AV->AV->M AV}
def M.ret{α:Type}(a:α):M α:=λh=>.ok a h
def M.bad{α:Type}:M α:=λ_=>.bad
def M.bind{α β:Type}(m:M α)(k:α->M β):M β:=λh=>match m h with
 |.ok a h'=>k a h'
 |.bad=>.bad
def M.guard{α:Type}(p:Prop) [Decidable p] (m:M α):M α:=λh=>if p then m h else .bad
structure Tab where
 K:bI
 G:Yh->Addr->Prop
 C:Nat->Yu
variable {T:Tab}
mutual
inductive aX(T:Tab)(Y:Hy)(H:Hp):AV->V->Prop where
 |aE:aX T Y H .aE .aE
 |bl (b:Bool):aX T Y H (.bl b) (.bl b)
 |int (i:Int):aX T Y H (.int i) (.int i)
 |str (x:Str):aX T Y H (.str x) (.str x)
 |tup {a:Addr}{xs:Ht}{ys:Hw} (hq:eH T.K H a ys) (hr:bF T Y H xs ys):aX T Y H (.tup xs) (.ref a)
 |ref {n:Nat}{a:Addr} (e:Y[n]?=aA a):aX T Y H (.ref n) (.ref a)
 |lL {kvs:Yh}{a:Addr} (e:T.G kvs a):aX T Y H (.lL kvs) (.ref a)
inductive bF(T:Tab)(Y:Hy)(H:Hp):Ht->Hw->Prop where
 |nil:bF T Y H [] []
 |cons {x:AV}{y:V}{xs:Ht}{ys:Hw} (h:aX T Y H x y) (hs:bF T Y H xs ys):bF T Y H (x::xs) (y::ys)
end
structure Ext(Y:Hy)(H:Hp)(Y':Hy)(H':Hp):Prop where
 pre:∀(n:Nat) a,Y[n]?=aA a->Y'[n]?=aA a
 tup:∀b xs,H b=aA (.tup xs)->H' b=aA (.tup xs)
 dC:∀b o u,H b=aA (.dC o u)->H' b=aA (.dC o u)
theorem Ext.refl:Ext Y H Y H:=⟨λ_ _ e=>e,λ_ _ e=>e,λ_ _ _ e=>e⟩
theorem Ext.trans{Y1 Y2:Hy}{H1 H2:Hp}(a:Ext Y H Y1 H1)(b:Ext Y1 H1 Y2 H2):Ext Y H Y2 H2:=
 ⟨λn x e=>b.pre n x (a.pre n x e),λn x e=>b.tup n x (a.tup n x e),λn x u e=>b.dC n x u (a.dC n x u e)⟩
theorem Ext.ui{K:bI}(e:Ext Y H Y' H'){xs:Hw}(h:eH K H a xs):eH K H' a xs:=by
 rcases h with(h|⟨o,h⟩)|h
 .exact .inl<|.inl<|e.tup _ _ h
 .exact .inl<|.inr ⟨o,e.dC _ _ _ h⟩
 .exact .inr h
mutual
theorem aX.ext{T:Tab}{Y Y':Hy}{H H':Hp}(e:Ext Y H Y' H'):∀{x:AV}{y:V},aX T Y H x y->aX T Y' H' x y
 |_,_,.aE=>.aE
 |_,_,.bl b=>.bl b
 |_,_,.int i=>.int i
 |_,_,.str x=>.str x
 |_,_,.tup a hr=>.tup (e.ui a) (bF.ext e hr)
 |_,_,.ref q=>.ref (e.pre _ _ q)
 |_,_,.lL q=>.lL q
theorem bF.ext{T:Tab}{Y Y':Hy}{H H':Hp}(e:Ext Y H Y' H'):∀{xs:Ht}{ys:Hw},bF T Y H xs ys->bF T Y' H' xs ys
 |_,_,.nil=>.nil
 |_,_,.cons h hs=>.cons (aX.ext e h) (bF.ext e hs)
end
theorem bF.length{T:Tab}{Y:Hy}{H:Hp}:∀{xs:Ht}{ys:Hw},bF T Y H xs ys->xs.length=ys.length
 |_,_,.nil=>rfl|_,_,.cons _ hs=>congrArg (·+1) hs.length
theorem bF.get{T:Tab}{Y:Hy}{H:Hp}:∀{xs:Ht}{ys:Hw}{i:Nat}{x:AV},bF T Y H xs ys->xs[i]?=aA x->∃y,ys[i]?=aA y/\aX T Y H x y
 |_,_,_,_,.nil,e=>by simp at e
 |_,_,0,_,.cons h _,e=>by simp at e;subst e;exact⟨_,rfl,h⟩
 |_,_,i+1,x,.cons _ hs,e=>by obtain⟨y,h1,a⟩:=bF.get hs (by simpa);exact⟨y,by simpa using h1,a⟩
theorem bF.append{T:Tab}{Y:Hy}{H:Hp}:∀{xs zs:Ht}{ys ws:Hw},bF T Y H xs ys->bF T Y H zs ws->bF T Y H (xs++zs) (ys++ws)
 |_,_,_,_,.nil,s=>s
 |_,_,_,_,.cons h hs,s=>.cons h (bF.append hs s)
theorem bF.set{T:Tab}{Y:Hy}{H:Hp}{x:AV}{y:V}(r:aX T Y H x y):∀{xs:Ht}{ys:Hw} (i:Nat),bF T Y H xs ys->bF T Y H (xs.set i x) (ys.set i y)
 |_,_,_,.nil=>.nil
 |_,_,0,.cons _ t=>.cons r t
 |_,_,i+1,.cons q t=>.cons q (bF.set r i t)
theorem bF.take{T:Tab}{Y:Hy}{H:Hp}:∀{xs:Ht}{ys:Hw} (n:Nat),bF T Y H xs ys->bF T Y H (xs.take n) (ys.take n)
 |_,_,0,_=>.nil
 |_,_,_+1,.nil=>.nil
 |_,_,n+1,.cons r t=>.cons r (bF.take n t)
theorem bF.drop{T:Tab}{Y:Hy}{H:Hp}:∀{xs:Ht}{ys:Hw} (n:Nat),bF T Y H xs ys->bF T Y H (xs.drop n) (ys.drop n)
 |_,_,0,r=>r
 |_,_,_+1,.nil=>.nil
 |_,_,n+1,.cons _ t=>bF.drop n t
theorem bF.ints{T:Tab}{Y:Hy}{H:Hp}:∀(ns:Hx),bF T Y H (ns.map AV.int) (ns.map V.int)
 |[]=>.nil
 |n::ns=>.cons (.int n) (bF.ints ns)
def pO(K:bI)(H:Hp)(a:Addr)(xs:Hw):Prop:=
 (∃o,H a=aA (.dC o<|.lst xs)) \/
  ∃(o:Obj) (its:YY) (n:Nat),K.lookup a=aA o/\o.cls = .type "list"/\o.dict=aD/\o.data = .seq its n/\its.size<=sizeLine/\Vals xs its.toList
theorem pO.sq{K:bI}{xs:Hw}(h:pO K H a xs):dN K H a xs:=by
 rcases h with h|h
 .exact .inl<|.inr h
 .exact .inr h
theorem pO.ext{K:bI}{xs:Hw}(e:Ext Y H Y' H')(h:pO K H a xs):pO K H' a xs:=by
 rcases h with⟨o,h⟩|h
 .exact .inl ⟨o,e.dC _ _ _ h⟩
 .exact .inr h
def nW(T:Tab)(Y:Hy)(H:Hp)(a:Addr):bJ->Prop
 |.lst aB xs=>∃ys,H a=aA (.lst ys)/\bF T Y H xs ys
 |.lst aH xs=>∃ys,pO T.K H a ys/\bF T Y H xs ys
 |.aQ kvs=>∃ks ys,H a=aA (.dK<|ks.zip ys)/\ks=kvs.map (·.1)/\bF T Y H (kvs.map (·.2)) ys
 |.dD kvs=>∃o ks ys,H a=aA (.dC o<|.dK<|ks.zip ys)/\ks=kvs.map (·.1)/\bF T Y H (kvs.map (·.2)) ys
 |.ins c fs=>∃C dx ks ys,T.C c=aA C/\H a=aA (.ins C dx<|ks.zip ys)/\ks=fs.map (·.1)/\bF T Y H (fs.map (·.2)) ys
theorem nW.ext{T:Tab}{Y Y':Hy}{H H':Hp}{a:Addr}{o:bJ}(r:nW T Y H a o)(e:Ext Y H Y' H')(k:o.mu=aB->H' a=H a):nW T Y' H' a o:=by
 cases o with
 |lst m xs=>
  cases m with
  |true=>obtain⟨b,h,r⟩:=r;exact⟨b,by rw[k rfl];exact h,r.ext e⟩|false=>obtain⟨b,h,r⟩:=r;exact⟨b,h.ext e,r.ext e⟩
 |aQ g=>obtain⟨d,b,h,f,r⟩:=r;exact⟨d,b,by rw[k rfl];exact h,f,r.ext e⟩|dD g=>obtain⟨o,d,b,h,f,r⟩:=r;exact⟨o,d,b,by rw[k rfl];exact h,f,r.ext e⟩|ins c fs=>obtain⟨C,i,d,b,j,h,f,r⟩:=r;exact⟨C,i,d,b,j,by rw[k rfl];exact h,f,r.ext e⟩
structure bP(T:Tab)(Y:Hy)(h:AH)(H:Hp):Prop where
 len:Y.length=h.nx
 pW:∀(n:Nat) o,h.ob n=aA o->n<h.nx
 obj:∀(n:Nat) o a,h.ob n=aA o->Y[n]?=aA a->nW T Y H a o
 inj:∀(n m:Nat) a o u,h.ob n=aA o->h.ob m=aA u->o.mu=aB->u.mu=aB->Y[n]?=aA a->Y[m]?=aA a->n=m
theorem bP.at(R:bP T Y h H){n:Nat}{o:bJ}(e:h.ob n=aA o):∃a,Y[n]?=aA a/\nW T Y H a o:=by have hn:=R.pW n o e;rw[<- R.len]at hn;exact⟨Y[n],by simp[hn],R.obj n o _ e (by simp[hn])⟩
theorem Kt(r:nW T Y H a o)(m:o.mu=aB):∃u,H a=aA u:=by
 cases o with
 |lst k xs=>
  cases k with
  |true=>obtain⟨b,h,_⟩:=r;exact⟨_,h⟩|false=>cases m
 |aQ d=>obtain⟨e,b,h,_⟩:=r;exact⟨_,h⟩|dD d=>obtain⟨o,e,b,h,_⟩:=r;exact⟨_,h⟩|ins c fs=>obtain⟨C,f,e,b,_,h,_⟩:=r;exact⟨_,h⟩
theorem Ext.jL{o:HO}(hn:H a=aD):Ext Y H Y (bG H a o):=
 ⟨λ_ _ e=>e,λb xs e=>by rw[bY (jT e hn)];exact e,λb u xs e=>by rw[bY (jT e hn)];exact e⟩
theorem bP.keep(R:bP T Y h H){o:HO}(hn:H a=aD):bP T Y h (bG H a o):=
 ⟨R.len,R.pW,λn u b e q=>(R.obj n u b e q).ext (.jL hn) λm=>by obtain⟨w,hw⟩:=Kt (R.obj n u b e q) m;rw[bY (jT hw hn)],R.inj⟩
theorem bP.alloc(R:bP T Y h H)(hn:H a=aD)(ho:nW T (Y++[a]) (bG H a O) a o):bP T (Y++[a]) (h.new o) (bG H a O)/\Ext Y H (Y++[a]) (bG H a O):=by
 have ex:Ext Y H (Y++[a]) (bG H a O):=⟨λn x e=>by have hl:=(List.getElem?_eq_some_iff.mp e).1;rw[bz hl];exact e,(Ext.jL (Y:=Y) hn).tup,(Ext.jL (Y:=Y) hn).dC⟩
 have old:∀{n:Nat}{b:Addr},n<h.nx->(Y++[a])[n]?=aA b->Y[n]?=aA b:=λ{n b} hl e=>by rw[bz (R.len▸hl)]at e;exact e
 have at_:∀{b:Addr},(Y++[a])[h.nx]?=aA b->b=a:=λ{b} e=>by rw[<- R.len]at e;simp at e;exact e.symm
 refine⟨⟨by simp[AH.new,R.len],λn u e=>?_,λn u b e q=>?_,λn m b u v f d l p i j=>?_⟩,ex⟩
 .simp only[AH.new]at e ⊢;by_cases c:n=h.nx
  .lia
  .rw[if_neg c]at e;have:=R.pW n u e;lia
 .simp only[AH.new]at e;by_cases c:n=h.nx
  .rw[if_pos c]at e;cases e;subst c;rw[at_ q];exact ho
  .rw[if_neg c]at e;have r:=old (R.pW n u e) q;refine(R.obj n u b e r).ext ex λm=>?_;obtain⟨w,hw⟩:=Kt (R.obj n u b e r) m;rw[bY (jT hw hn)]
 .simp only[AH.new]at f d;have no:∀{k:Nat}{y:bJ},h.ob k=aA y->y.mu=aB->(Y++[a])[k]?=aA b->b≠a:=λ{k y} e m q=>by obtain⟨w,hw⟩:=Kt (R.obj k y b e<|old (R.pW k y e) q) m;exact jT hw hn
  by_cases c:n=h.nx
  .subst c;by_cases g:m=h.nx
   .exact g.symm
   .rw[if_neg g]at d;exact absurd (at_ i)<|no d p j
  .rw[if_neg c]at f;by_cases g:m=h.nx
   .subst g;exact absurd (at_ j)<|no f l i
   .rw[if_neg g]at d;exact R.inj n m b u v f d l p (old (R.pW n u f) i)<|old (R.pW m v d) j
theorem bP.write(R:bP T Y h H){o':bJ}(e:h.ob n=aA o)(m:o.mu=aB)(m':o'.mu=aB)(q:Y[n]?=aA a)(hO:H a=aA O)(nt:∀xs,O ≠ .tup xs)(nf:∀x u,O ≠ .dC x u)
  (ho:nW T Y (bG H a O') a o'):bP T Y (h.put n o') (bG H a O')/\Ext Y H Y (bG H a O'):=by
 have ex:Ext Y H Y (bG H a O'):=⟨λ_ _ z=>z,λb xs z=>by
   rw[bY (qP z hO λw=>nt xs w.symm)];exact z,λb x u z=>by
   rw[bY (qP z hO λw=>nf x u w.symm)];exact z⟩
 refine⟨⟨R.len,λk u z=>?_,λk u b z w=>?_,λk l b u v d f i p r s=>?_⟩,ex⟩
 .simp only[AH.put]at z;by_cases c:k=n
  .subst c;exact R.pW _ _ e
  .rw[if_neg c]at z;exact R.pW k u z
 .simp only[AH.put]at z;by_cases c:k=n
  .rw[if_pos c]at z;cases z;subst c;rw[q]at w;cases w;exact ho
  .rw[if_neg c]at z;refine(R.obj k u b z w).ext ex λmu=>?_;rw[bY];rintro rfl
   exact c<|R.inj k n b u o z e mu m w q
 .simp only[AH.put]at d f;have back:∀{j:Nat}{y:bJ},(if j=n then aA o' else h.ob j)=aA y->y.mu=aB->∃g,h.ob j=aA g/\g.mu=aB:=λ{j y} z mu=>by
   by_cases c:j=n
   .subst c;exact⟨o,e,m⟩
   .rw[if_neg c]at z;exact⟨y,z,mu⟩
  obtain⟨t,g1,k1⟩:=back d i;obtain⟨A,g2,k2⟩:=back f p;exact R.inj k l b t A g1 g2 k1 k2 r s
structure vU(Y:Hy)(H H':Hp):Prop where
 ui:∀K b xs,eH K H b xs->eH K H' b xs
 xd:∀b o fs,H b=aA (.dC o<|.xd fs)->H' b=aA (.dC o<|.xd fs)
 A5:∀K b xs,pO K H b xs->pO K H' b xs
mutual
theorem aX.ext2{T:Tab}{Y:Hy}{H H':Hp}(e:vU Y H H'):∀{x:AV}{y:V},aX T Y H x y->aX T Y H' x y
 |_,_,.aE=>.aE
 |_,_,.bl b=>.bl b
 |_,_,.int i=>.int i
 |_,_,.str x=>.str x
 |_,_,.tup a hr=>.tup (e.ui _ _ _ a) (bF.ext2 e hr)
 |_,_,.ref q=>.ref q
 |_,_,.lL q=>.lL q
theorem bF.ext2{T:Tab}{Y:Hy}{H H':Hp}(e:vU Y H H'):∀{xs:Ht}{ys:Hw},bF T Y H xs ys->bF T Y H' xs ys
 |_,_,.nil=>.nil
 |_,_,.cons h hs=>.cons (aX.ext2 e h) (bF.ext2 e hs)
end
theorem nW.ext2{T:Tab}{Y:Hy}{H H':Hp}{a:Addr}{o:bJ}(r:nW T Y H a o)(e:vU Y H H')(k:o.mu=aB->H' a=H a):nW T Y H' a o:=by
 cases o with
 |lst m xs=>
  cases m with
  |true=>obtain⟨b,h,r⟩:=r;exact⟨b,by rw[k rfl];exact h,r.ext2 e⟩|false=>obtain⟨b,h,r⟩:=r;exact⟨b,e.A5 _ _ _ h,r.ext2 e⟩
 |aQ g=>obtain⟨d,b,h,f,r⟩:=r;exact⟨d,b,by rw[k rfl];exact h,f,r.ext2 e⟩|dD g=>obtain⟨o,d,b,h,f,r⟩:=r;exact⟨o,d,b,by rw[k rfl];exact h,f,r.ext2 e⟩|ins c fs=>obtain⟨C,i,d,b,j,h,f,r⟩:=r;exact⟨C,i,d,b,j,by rw[k rfl];exact h,f,r.ext2 e⟩
theorem Ye{o:Obj}{kz:List (aN×V)}(hO:H a=aA (.dC o<|.dK kz)):vU Y H (bG H a<|.dK kz):=by
 have ne:∀b u,H b=aA u->(∀x y,u ≠ .dC x (.dK y))->b≠a:=λb u e n z=>by rw[z,hO]at e;cases e;exact n _ _ rfl
 refine⟨λK b xs h=>?_,λb x fs h=>by rw[bY (ne b _ h λ_ _ z=>by cases z)];exact h,λK b xs h=>?_⟩
 .rcases h with(h|⟨x,h⟩)|h
  .exact .inl<|.inl (by rw[bY (ne b _ h λ_ _ z=>by cases z)];exact h)
  .exact .inl<|.inr ⟨x,by rw[bY (ne b _ h λ_ _ z=>by cases z)];exact h⟩
  .exact .inr h
 .rcases h with⟨x,h⟩|h
  .exact .inl ⟨x,by rw[bY (ne b _ h λ_ _ z=>by cases z)];exact h⟩
  .exact .inr h
theorem bP.Oq(R:bP T Y h H)(e:h.ob n=aA (.dD kvs))(q:Y[n]?=aA a) :
  ∃o kz,H a=aA (.dC o<|.dK kz)/\bP T Y (h.put n<|.aQ kvs) (bG H a<|.dK kz):=by
 obtain⟨o,m,p,d,r,s⟩:=R.obj n _ a e q;have ex:=Ye (Y:=Y) d;refine⟨o,_,d,⟨R.len,λk u z=>?_,λk u b z w=>?_,λk l b u v f g t x A B=>?_⟩⟩
 .simp only[AH.put]at z;by_cases c:k=n
  .subst c;exact R.pW _ _ e
  .rw[if_neg c]at z;exact R.pW k u z
 .simp only[AH.put]at z;by_cases c:k=n
  .rw[if_pos c]at z;cases z;subst c;rw[q]at w;cases w;exact⟨m,p,gU,r,s.ext2 ex⟩
  .rw[if_neg c]at z;refine(R.obj k u b z w).ext2 ex λmu=>?_;rw[bY];rintro rfl
   exact c<|R.inj k n b u _ z e mu rfl w q
 .simp only[AH.put]at f g;have back:∀{j:Nat}{y:bJ},(if j=n then aA (.aQ kvs) else h.ob j)=aA y->y.mu=aB->∃i,h.ob j=aA i/\i.mu=aB:=λ{j y} z mu=>by
   by_cases c:j=n
   .subst c;exact⟨_,e,rfl⟩
   .rw[if_neg c]at z;exact⟨y,z,mu⟩
  obtain⟨C,g1,k1⟩:=back f t;obtain⟨D,g2,k2⟩:=back g x;exact R.inj k l b C D g1 g2 k1 k2 A B
abbrev Rl(α β:Type):=Hy->Hp->α->β->Prop
def W{α β:Type}(T:Tab)(Rp:Rl α β)(r:Res α)(Y:Hy)(H:Hp)(Q:β->Hp->Prop)(E:XK):Prop:=match r with
 |.ok a h=>∀Y' b H',Ext Y H Y' H'->bP T Y' h H'->Rp Y' H' a b->Q b H'
 |.bad=>False
section
variable {α β γ δ:Type}{Rp:Rl α β}{Rq:Rl γ δ}{E:XK}{Q:β->Hp->Prop}
theorem W.ext{r:Res α}(w:W T Rp r Y H Q E)(e:Ext Y H Y' H'):W T Rp r Y' H' Q E:=by
 cases r with
 |ok a h=>exact λc b d x R q=>w c b d (e.trans x) R q|bad=>exact w
theorem W.bind{m:M α}{k:α->M γ}{Q2:δ->Hp->Prop}(w:W T Rq (M.bind m k h) Y H Q2 E)
  (f:∀Y1 x y h1 H1,Ext Y H Y1 H1->bP T Y1 h1 H1->Rp Y1 H1 x y->W T Rq (k x h1) Y1 H1 Q2 E->Q y H1):W T Rp (m h) Y H Q E:=by
 unfold M.bind at w;cases e:m h with
 |ok a h1=>rw[e]at w;exact λY1 y H1 x R q=>f Y1 a y h1 H1 x R q (w.ext x)
 |bad=>rw[e]at w;exact w
theorem W.ok{a:α}{b:β}(w:W T Rp (.ok a h) Y H Q E)(e:Ext Y H Y' H')(R:bP T Y' h H')(q:Rp Y' H' a b):Q b H':=w Y' b H' e R q
theorem W.here{a:α}{b:β}(w:W T Rp (.ok a h) Y H Q E)(R:bP T Y h H)(q:Rp Y H a b):Q b H:=w Y b H .refl R q
end
abbrev aG:=List (Option AV)
variable {C N:aG->AH->Prop}{m m0 ma mb mc:aG->M AV}{mr:aG->M Ht}{Z:aG}
def cX(T:Tab)(Y:Hy)(H:Hp)(Z:aG)(Z':L2.St):Prop:=Z.length=Z'.length/\∀(i:Nat) v,Z[i]?=aA (aA v)->∃v',Z'[i]?=aA (aA v')/\aX T Y H v v'
theorem cX.ext{T:Tab}{Y Y':Hy}{H H':Hp}{Z:aG}{Z':L2.St}(S:cX T Y H Z Z')(e:Ext Y H Y' H'):cX T Y' H' Z Z':=
 ⟨S.1,λi v q=>let ⟨c,a,b⟩:=S.2 i v q;⟨c,a,b.ext e⟩⟩
theorem cX.set{T:Tab}{Y:Hy}{H:Hp}{Z:aG}{Z':L2.St}(S:cX T Y H Z Z'){v:AV}{v':V}(r:aX T Y H v v')(i:Nat):cX T Y H (Z.set i<|aA v) (Z'.set i<|aA v'):=by
 refine⟨by simp[S.1],λj u q=>?_⟩;by_cases c:i=j
 .subst c;by_cases hl:i<Z.length
  .rw[rL hl]at q;cases q;exact⟨v',rL (S.1▸hl),r⟩
  .rw[Qp (by simpa using hl)]at q;cases q
 .rw[rK c]at q;obtain⟨w,a,b⟩:=S.2 j u q;exact⟨w,by rw[rK c];exact a,b⟩
def QE(X:Cx)(T:Tab)(E:XK)(e:aL)(m:aG->M AV):Prop:=
 ∃t,PE X e t/\∀Y Z Z' h H Q,bP T Y h H->cX T Y H Z Z'->W T (aX T) (m Z h) Y H Q E->t Z' H Q
def QA(X:Cx)(T:Tab)(E:XK)(es:List aL)(m:aG->M Ht):Prop:=
 ∃t,PA X es t/\∀Y Z Z' h H Q,bP T Y h H->cX T Y H Z Z'->W T (bF T) (m Z h) Y H Q E->t Z' H Q
abbrev RB:Rl Bool Bool:=λ_ _ a b=>a=b
def QT(X:Cx)(T:Tab)(E:XK)(e:aL)(m:aG->M Bool):Prop:=
 ∃t,PT X e t/\∀Y Z Z' h H Q,bP T Y h H->cX T Y H Z Z'->W T RB (m Z h) Y H Q E->t Z' H Q
def QW(X:Cx)(T:Tab)(E:XK)(e:aL)(m:aG->M Bool):Prop:=
 ∃t,PW X e t/\∀Y Z Z' h H Q,bP T Y h H->cX T Y H Z Z'->W T RB (m Z h) Y H Q E->t Z' H Q
theorem QW.qt{X:Cx}{E:XK}{m:aG->M Bool}(h:QW X T E e m):QT X T E e m:=let ⟨t,a,b⟩:=h;⟨t,a.pt,b⟩
def eB(X:Cx)(T:Tab)(E:XK)(f:Value->Value->Sem Value)(g:AV->AV->M AV):Prop:=
 ∃r,cW X f r/\∀Y h H x y x' y' Q,bP T Y h H->aX T Y H x x'->aX T Y H y y'->W T (aX T) (g x y h) Y H Q E->r x' y' H Q
def Ut(X:Cx)(T:Tab)(E:XK)(f:Value->Sem Value)(g:AV->M AV):Prop:=
 ∃r,xm X f r/\∀Y h H x x' Q,bP T Y h H->aX T Y H x x'->W T (aX T) (g x h) Y H Q E->r x' H Q
def xc(X:Cx)(T:Tab)(E:XK)(g:AV->AV->M AV):Prop:=
 ∃r,pP X r/\∀Y h H x y x' y' Q,bP T Y h H->aX T Y H x x'->aX T Y H y y'->W T (aX T) (g x y h) Y H Q E->r x' y' H Q
def oS(X:Cx)(T:Tab)(E:XK)(f:Value)(g:Ht->M AV):Prop:=
 ∃r,iO X f r/\∀Y h H xs hU Q,bP T Y h H->bF T Y H xs hU->W T (aX T) (g xs h) Y H Q E->r hU H Q
def qO(i j:Int):Bool:=decide (i.natAbs<2 ^ 64)||decide (j.natAbs<2 ^ 64)||(decide (i.natAbs<2 ^ 1000)&&decide (j.natAbs<2 ^ 1000))
def pV(j:Int):Bool:=decide (0<j)&&decide (j<2 ^ 1000)
def xB(i j:Int):Bool:=decide (0<=j)&&decide (j<=1000000)&&decide (i.natAbs<2 ^ 64)
def ae(h:AH)(n:Nat):Option (List AV):=match h.ob n with
 |some (.lst aB xs)=>aA xs
 |_=>aD
theorem CJ(e:ae h n=aA xs):h.ob n=aA (.lst aB xs):=by
 unfold ae at e;split at e
 .rename_i q;cases e;exact q
 .cases e
def pv(n m:Nat):M AV:=λh=>match ae h n with
 |some xs=>(match ae h m with
  |some ys=>if xs.length+ys.length<=sizeLine then .ok (.ref h.nx) (h.new<|.lst aB<|xs++ys) else .bad
  |none=>.bad)
 |none=>.bad
def Zj:AV->AV->M AV
 |.int i,.int j=>M.ret (.int<|i+j)
 |.str i,.str j=>M.guard (i.length+j.length<=sizeLine) (M.ret<|.str<|i++j)
 |.tup xs,.tup ys=>M.guard (xs.length+ys.length<=sizeLine) (M.ret<|.tup<|xs++ys)
 |.ref n,.ref m=>pv n m
 |_,_=>M.bad
def mK(p:Int->Int->Bool)(f:Int->Int->Int):AV->AV->M AV
 |.int i,.int j=>λh=>if p i j=aB then .ok (.int<|f i j) h else .bad
 |_,_=>M.bad
def zi:AV->AV->M AV:=mK (λ_ _=>aB) HSub.hSub
def qi(x y:AV):M AV:=match x with
 |.ref n=>match y with
  |.int k=>λh=>match h.ob n with
   |some (.lst aB xs)=>if 0<=k/\xs.length*k.toNat<=sizeLine/\k<2 ^ 63 then .ok (.ref h.nx) (h.new<|.lst aB (fA k.toNat xs).flatten) else .bad
   |_=>.bad
  |_=>M.bad
 |_=>mK qO HMul.hMul x y
def Zl:AV->AV->M AV:=mK (λ_ j=>pV j) HDiv.hDiv
def Zu:AV->AV->M AV:=mK (λ_ j=>decide (0<j)) HMod.hMod
def Zx:AV->AV->M AV:=mK xB λi j=>i ^ j.toNat
def Zy:AV->AV->M AV:=mK xB λi j=>i*2 ^ j.toNat
def Zz:AV->AV->M AV:=mK (λ_ j=>decide (0<=j)) λi j=>i / 2 ^ j.toNat
def Zk:AV->AV->M AV:=mK (λ_ _=>aB) tD
def Zw:AV->AV->M AV:=mK (λ_ _=>aB) jx
def AA:AV->AV->M AV:=mK (λ_ _=>aB) jy
def pw(f:Int->Int->Bool):AV->AV->M AV
 |.int i,.int j=>M.ret (.bl<|f i j)
 |_,_=>M.bad
def Zr:AV->AV->M AV:=pw λi j=>decide (i<j)
def Zq:AV->AV->M AV:=pw λi j=>decide (i<=j)
def Zn:AV->AV->M AV:=pw λi j=>decide (j<i)
def Zm:AV->AV->M AV:=pw λi j=>decide (j<=i)
def tV:AV->AV->Option Bool
 |.aE,.aE=>aA aB | .aE,.int _=>aA aH | .int _,.aE=>aA aH | .aE,.bl _=>aA aH | .bl _,.aE=>aA aH | .aE,.str _=>aA aH | .str _,.aE=>aA aH
 |.int i,.int j=>aA (decide<|i=j) | .bl i,.bl j=>aA (decide<|i=j) | .str i,.str j=>aA (decide<|i=j)
 |.int _,.str _=>aA aH | .str _,.int _=>aA aH | .bl _,.str _=>aA aH | .str _,.bl _=>aA aH
 |_,_=>aD
def jE:AV->Bool
 |.aE=>aB | .bl _=>aB | .int _=>aB | .str _=>aB
 |_=>aH
def Hr:AV->AV->Bool
 |.aE,.aE=>aB
 |.bl a,.bl b=>a==b
 |.bl a,.int b=>(if a then 1 else 0)==b
 |.int a,.bl b=>a==(if b then 1 else 0)
 |.int a,.int b=>a==b
 |.str a,.str b=>a==b
 |_,_=>aH
def uh(h:AH):AV->Option (Bool×Ht)
 |.tup xs=>aA (aH,xs)
 |.ref n=>match h.ob n with
  |some (.lst _ xs)=>aA (aB,xs)
  |_=>aD
 |_=>aD
def sA(h:AH)(x y:AV):Option Bool:=match uh h x,uh h y with
 |some (aB,xs),aA (aB,[])=>aA xs.isEmpty
 |_,_=>aD
def zF(x y:AV):M AV:=λh=>match tV x y with
 |some b=>.ok (.bl b) h
 |none=>match sA h x y with
  |some b=>.ok (.bl b) h
  |none=>.bad
def zJ(x y:AV):M AV:=λh=>match tV x y with
 |some b=>.ok (.bl<|!b) h
 |none=>match sA h x y with
  |some b=>.ok (.bl<|!b) h
  |none=>.bad
def fO:AV->Bool
 |.aE=>aB
 |_=>aH
def Il(x y:AV):M AV:=if fO y=aB then M.ret (.bl<|fO x) else M.bad
def Im(x y:AV):M AV:=if fO y=aB then M.ret (.bl<|!fO x) else M.bad
def gO(x:AV)(xs:Ht):Bool:=xs.any λy=>Hr y x
def dW(h:AH):AV->Option (List AV)
 |.tup xs=>aA xs
 |.ref n=>match h.ob n with
  |some (.lst _ xs)=>aA xs
  |_=>aD
 |_=>aD
def fP:AV->Option aN
 |.int i=>aA (.inl i)
 |.str s=>aA (.inr s)
 |_=>aD
def gM(h:AH):AV->Option (List<|aN×AV)
 |.ref n=>match h.ob n with
  |some (.aQ kvs)=>aA kvs
  |_=>aD
 |_=>aD
def bK(kvs:List (aN×AV))(k:aN):Yo:=(kvs.find? λkv=>decide (kv.1=k)).map (·.2)
def gZ(kvs:List (aN×AV))(k:aN)(v:AV):List (aN×AV):=
 if(kvs.any λkv=>decide (kv.1=k))=aB then kvs.map (λkv=>if kv.1=k then(kv.1,v) else kv) else kvs++[(k,v)]
def wQ(kvs:List (aN×AV))(k:aN):List (aN×AV):=kvs.filter λkv=>decide (kv.1≠k)
def uE(neg:Bool)(x y:AV):M AV:=λh=>match dW h y with
 |some xs=>if(jE x&&xs.all jE)=aB then .ok (.bl<|if neg then !gO x xs else gO x xs) h else
  .bad
 |none=>.bad
def oX(neg:Bool)(x y:AV):M AV:=λh=>match gM h y with
 |some kvs=>match fP x with
  |some k=>.ok (.bl<|if neg then !(bK kvs k).isSome else(bK kvs k).isSome) h
  |none=>.bad
 |none=>uE neg x y h
def qj:AV->M AV
 |.int i=>M.ret (.int<|-i)
 |_=>M.bad
def gf(x y:AV):M AV:=λh=>match y with
 |.int i=>match x with
  |.str z=>if z.length<=sizeLine then match cH z.cps.toList i with
   |some c=>.ok (.str ⟨#[c]⟩) h
   |none=>.bad
   else .bad
  |x=>match (dW h x).bind λxs=>cH xs i with
   |some v=>.ok v h
   |none=>.bad
 |_=>.bad
def yU(h:AH):AV->Option (List<|aN×AV)
 |.ref n=>match h.ob n with
  |some (.dD kvs)=>aA kvs
  |_=>aD
 |_=>aD
def yz(x y:AV):M AV:=λh=>match yU h x with
 |some kvs=>match (fP y).bind (bK kvs) with
  |some v=>.ok v h
  |none=>.bad
 |none=>gf x y h
def uF(x y:AV):M AV:=λh=>match gM h x with
 |some kvs=>match (fP y).bind (bK kvs) with
  |some v=>.ok v h
  |none=>.bad
 |none=>yz x y h
def ji(h:AH):AV->Option Bool
 |.aE=>aA aH
 |.bl b=>aA b
 |.int i=>aA (i != 0)
 |.str y=>if y.length<=sizeLine then aA ((y.length:Int) != 0) else aD
 |.tup xs=>aA (!xs.isEmpty)
 |.ref n=>match h.ob n with
  |some (.lst _ xs)=>aA (!xs.isEmpty)
  |some (.aQ kvs)=>aA (!kvs.isEmpty)
  |_=>aD
 |_=>aD
def dH(x:AV):M Bool:=λh=>match ji h x with
 |some b=>.ok b h
 |none=>.bad
section
variable {X:Cx}{E:XK}(hK:X.K=T.K)
theorem zP{α β:Type}{Rp:Rl α β}{p:Prop}[Decidable p]{m:M α}{Q:β->Hp->Prop}(w:W T Rp (M.guard p m h) Y H Q E):p/\W T Rp (m h) Y H Q E:=by
 unfold M.guard at w;by_cases a:p
 .rw[if_pos a]at w;exact⟨a,w⟩
 .rw[if_neg a]at w;exact w.elim
theorem sN{f:Value->Value->Sem Value}{C:Int->Int->Prop}{p:Int->Int->Bool}{g:Int->Int->Int}(ho:cW X f (rI C λi j=>.int (g i j)))(hc:∀i j,p i j=aB->C i j):eB X T E f (mK p g):=by
 refine⟨_,ho,λd h H x y e k Q R b c w=>?_⟩;cases x with
 |int i=>
  cases y with
  |int j=>
   cases b;cases c;simp only[mK]at w;by_cases a:p i j=aB
   .rw[if_pos a]at w;exact⟨i,j,rfl,rfl,hc i j a,w.here R (.int _)⟩
   .rw[if_neg a]at w;cases w
  |_=>exact w.elim
 |_=>exact w.elim
theorem Au{f:Value->Value->Sem Value}{g:Int->Int->Bool}(ho:cW X f (oG λi j=>.bl (g i j))):eB X T E f (pw g):=by
 refine⟨_,ho,λc h H x y d e Q R a b w=>?_⟩;cases x with
 |int i=>
  cases y with
  |int j=>cases a;cases b;exact⟨i,j,rfl,rfl,W.here w R (.bl _)⟩
  |_=>exact w.elim
 |_=>exact w.elim
theorem Bl{f:Value->Value->Sem Value}{g:Int->Int->V}(h:cW X f (oG g)):cW X f (rI (λ_ _=>True) g):=
 λpins s Z H x y v u Q I c d ⟨i,j,a,b,_,q⟩=>h pins s Z H x y v u Q I c d ⟨i,j,a,b,q⟩
theorem Z7:eB X T E (eV .Sub) zi:=sN (Bl X3) λ_ _ _=>trivial
theorem X6:eB X T E (eV .BitAnd) Zk:=sN (Bl U5) λ_ _ _=>trivial
theorem Z3:eB X T E (eV .BitOr) Zw:=sN (Bl W8) λ_ _ _=>trivial
theorem Z8:eB X T E (eV .BitXor) AA:=sN (Bl X4) λ_ _ _=>trivial
theorem Y8:eB X T E (eV .Mod) Zu:=sN W0 λ_ _ h=>of_decide_eq_true h
theorem EI(h:xB i j=aB):Fb i j:=by simp only[xB,bQ,decide_eq_true_eq]at h;exact⟨h.1.1,h.1.2,h.2⟩
theorem Z4:eB X T E (eV .Pow) Zx:=sN W9 λ_ _ h=>EI h
theorem Z5:eB X T E (eV .LShift) Zy:=sN X1 λ_ _ h=>EI h
theorem Z6:eB X T E (eV .RShift) Zz:=sN X2 λ_ _ h=>of_decide_eq_true h
theorem P8(h:qO i j=aB):IntMulOk i j:=by
 simp only[qO,jw,bQ,decide_eq_true_eq]at h;rcases h with(h|h)|⟨h1,a⟩
 .exact .of_left<|Es h
 .exact .of_right<|Es h
 .exact .of_bits (cD (Es h1) (by decide))<|cD (Es a) (by decide)
theorem W2:cW X (eV .Mult) (rI IntMulOk λi j=>.int (i*j)):=ib λ_ _ _ _ _ _ _ hc q=>mul_int q hc
theorem log2_lt{j:Int}(h:j<2 ^ 1000)(h0:0<j):j.natAbs.log2<9000:=by
 have hn:j.natAbs<2 ^ 1000:=by omega
 have:j.natAbs.log2<1000:=(Nat.log2_lt (by lia)).mpr hn;lia
theorem V2:cW X (eV .FloorDiv) (rI (λ_ j=>0<j/\j<2 ^ 1000) λi j=>.int (i / j)):=ib λi j _ _ _ _ _ hc q=>by have h1:(0:Int)<j:=hc.1;exact floordiv_int (by omega) (by rw[Qg i (by omega)];exact q)<|.inl<|MU<|log2_lt hc.2 hc.1
theorem Xr(h:pV j=aB):0<j/\j<2 ^ 1000:=by simp only[pV,bQ,decide_eq_true_eq]at h;exact h
theorem X9:eB X T E (eV .FloorDiv) Zl:=sN V2 λ_ _ h=>Xr h
theorem Y7:eB X T E (dM .Lt) Zr:=Au V9
theorem Y6:eB X T E (dM .LtE) Zq:=Au V8
theorem Y1:eB X T E (dM .Gt) Zn:=Au V4
theorem Y0:eB X T E (dM .GtE) Zm:=Au V3
theorem Yb(rx:aX T Y H x x')(ry:aX T Y H y y')(e:tV x y=aA b):Nt x' y'=aB/\decide (x'=y')=b:=by
 cases rx<;>cases ry<;>first
  | (cases e;done)
  |exact⟨rfl,(decide_eq_false nofun).trans (eF e)⟩
  | (obtain rfl:=eF e;exact⟨rfl,by simp⟩)
theorem Ie(r:aX T Y H x x')(f:jE x=aB):sC x'=aB:=by cases r<;>first|rfl|cases f
theorem Ig{Y:Hy}{H:Hp}:∀{xs:Ht}{ys:Hw},bF T Y H xs ys->xs.all jE=aB->ys.all sC=aB
 |_,_,.nil,_=>rfl|_,_,.cons h hs,f=>by rw[jZ,bQ]at f ⊢;exact⟨Ie h f.1,Ig hs f.2⟩
theorem YT(rx:aX T Y H x x')(ry:aX T Y H y y')(fx:jE x=aB)(fy:jE y=aB):tW x' y'=Hr x y:=by
 cases rx<;>first|cases fx;done|skip
 all_goals (cases ry<;>first|rfl|cases fy)
theorem HH(hK:X.K=T.K){k:Bool}(R:bP T Y h H)(r:aX T Y H x x')(e:uh h x=aA (k,xs)):∃a ys,x' = .ref a/\bF T Y H xs ys/\(k=aB->dN X.K H a ys)/\(k=aH->eH X.K H a ys):=by
 cases r with
 |tup c hr=>cases e;exact⟨_,_,rfl,hr,(nofun),λ_=>hK▸c⟩
 |@ref n a q=>
  simp only[uh]at e;cases o:h.ob n with
  |none=>rw[o]at e;cases e|some u=>
   rw[o]at e;cases u with
   |lst m ys=>
    cases e;cases m with
    |true=>obtain⟨zs,h1,b⟩:=R.obj n _ a o q;exact⟨_,_,rfl,b,λ_=>.inl (.inl h1),nofun⟩|false=>obtain⟨zs,h1,b⟩:=R.obj n _ a o q;exact⟨_,_,rfl,b,λ_=>hK▸h1.sq,nofun⟩
   |_=>cases e
 |_=>cases e
theorem Yc(hK:X.K=T.K)(R:bP T Y h H)(rx:aX T Y H x x')(ry:aX T Y H y y')(e:sA h x y=aA b):∃a c,x' = .ref a/\y' = .ref c/\yD X.K H 12 x' y' b:=by
 unfold sA at e;split at e
 .rename_i xs h1 d;cases e;obtain⟨a,us,rfl,f,g,_⟩:=HH hK R rx h1;obtain⟨c,k,rfl,i,j,_⟩:=HH hK R ry d;cases i;exact⟨a,c,rfl,rfl,a,c,us,rfl,rfl,g rfl,j rfl,by cases f<;>rfl⟩
 .cases e
theorem X8(hK:X.K=T.K)(hu:X.A.units+12<cLine):eB X T E (dM .Eq) zF:=by
 refine⟨_,V0 hu,λl h H x y m n Q R f g w=>?_⟩;unfold zF at w;cases e:tV x y with
 |none=>
  simp only[e]at w;cases d:sA h x y with
  |none=>simp only[d]at w;exact w.elim|some b=>simp only[d]at w;obtain⟨a,c,i,j,q⟩:=Yc hK R f g d;exact .inr ⟨b,a,c,i,j,q,W.here w R (.bl _)⟩
 |some b=>simp only[e]at w;obtain⟨h1,k⟩:=Yb f g e;exact .inl ⟨h1,by rw[k];exact W.here w R<|.bl _⟩
theorem Z0(hK:X.K=T.K)(hu:X.A.units+12<cLine):eB X T E (dM .NotEq) zJ:=by
 refine⟨_,W4 hu,λl h H x y m n Q R f g w=>?_⟩;unfold zJ at w;cases e:tV x y with
 |none=>
  simp only[e]at w;cases d:sA h x y with
  |none=>simp only[d]at w;exact w.elim|some b=>simp only[d]at w;obtain⟨a,c,i,j,q⟩:=Yc hK R f g d;exact .inr ⟨b,a,c,i,j,q,W.here w R (.bl _)⟩
 |some b=>simp only[e]at w;obtain⟨h1,k⟩:=Yb f g e;exact .inl ⟨h1,by rw[k];exact W.here w R<|.bl _⟩
theorem Ad(r:aX T Y H x x'):decide (x' = .aE)=fO x:=by cases r<;>simp[fO]
theorem Y4:eB X T E (dM .Is) Il:=by
 refine⟨_,V7,λc h H x y d f Q R a b w=>?_⟩;unfold Il at w;by_cases e:fO y=aB
 .rw[if_pos e]at w;rw[<- Ad b]at e;exact⟨of_decide_eq_true e,by rw[Ad a];exact W.here w R<|.bl _⟩
 .rw[if_neg e]at w;exact w.elim
theorem Y5:eB X T E (dM .IsNot) Im:=by
 refine⟨_,W7,λc h H x y d f Q R a b w=>?_⟩;unfold Im at w;by_cases e:fO y=aB
 .rw[if_pos e]at w;rw[<- Ad b]at e;exact⟨of_decide_eq_true e,by rw[Ad a];exact W.here w R<|.bl _⟩
 .rw[if_neg e]at w;exact w.elim
theorem aPb:Ut X T E (Ew .USub) qj:=by
 refine⟨_,aOx,λb h H x c Q R a w=>?_⟩;cases x with
 |int i=>cases a;exact⟨i,rfl,W.here w R (.int _)⟩|_=>exact w.elim
theorem Jh{Y:Hy}{H:Hp}{x:AV}{x':V}(rx:aX T Y H x x')(fx:jE x=aB):∀{xs:Ht}{ys:Hw},bF T Y H xs ys->xs.all jE=aB->zw x' ys=gO x xs
 |_,_,.nil,_=>rfl|_,_,.cons h hs,f=>by rw[jZ,bQ]at f;have:=Jh rx fx hs f.2;unfold zw gO at this ⊢;rw[rJ,rJ,this,YT h rx f.1 fx]
theorem pB{m:Bool}(R:bP T Y h H)(e:h.ob n=aA (.lst m xs))(q:Y[n]?=aA a):∃ys,dN T.K H a ys/\bF T Y H xs ys:=by
 have r:=R.obj n _ a e q;cases m with
 |true=>obtain⟨ys,h1,b⟩:=r;exact⟨ys,.of h1,b⟩|false=>obtain⟨ys,h1,b⟩:=r;exact⟨ys,h1.sq,b⟩
theorem jd(R:bP T Y h H)(r:aX T Y H x x')(e:dW h x=aA xs):∃p ys,x' = .ref p/\(dN T.K H p ys\/eH T.K H p ys)/\bF T Y H xs ys:=by
 cases r with
 |tup b hr=>cases e;exact⟨_,_,rfl,.inr b,hr⟩|@ref n a q=>
  simp only[dW]at e;cases o:h.ob n with
  |none=>rw[o]at e;cases e|some u=>
   rw[o]at e;cases u with
   |lst m ys=>cases e;obtain⟨zs,h1,d⟩:=pB R o q;exact⟨_,zs,rfl,.inl h1,d⟩
   |aQ f=>cases e|dD _=>cases e|ins c fs=>cases e
 |_=>cases e
inductive iG(T:Tab)(Y:Hy)(H:Hp):List (aN×AV)->List (aN×V)->Prop where
 |nil:iG T Y H [] []
 |cons {k:aN}{v:AV}{y:V}{xs:List (aN×AV)}{ys:List (aN×V)} (h:aX T Y H v y) (t:iG T Y H xs ys):iG T Y H ((k,v)::xs) ((k,y)::ys)
theorem Nn{Y:Hy}{H:Hp}:∀{kvs:List (aN×AV)}{ys:Hw},bF T Y H (kvs.map (·.2)) ys->iG T Y H kvs ((kvs.map (·.1)).zip ys)
 |[],_,.nil=>.nil
 | (k,v)::kvs,_,.cons h t=>.cons h (Nn t)
theorem aJs(r:iG T Y H kvs us):∃ys,us=(kvs.map (·.1)).zip ys/\bF T Y H (kvs.map (·.2)) ys:=by
 induction r with
 |nil=>exact⟨[],rfl,.nil⟩|cons h t a=>obtain⟨ys,e,r⟩:=a;exact⟨_::ys,by rw[e];rfl,.cons h r⟩
theorem GQ(r:iG T Y H kvs us):kvs.length=us.length:=by
 induction r with
 |nil=>rfl|cons h t a=>rw[lA,lA,a]
theorem aw{k:aN}(r:iG T Y H kvs us):(∀v,bK kvs k=aA v->∃y,fK us k=aA y/\aX T Y H v y)/\(bK kvs k=aD->fK us k=aD):=by
 induction r with
 |nil=>exact⟨(λv h=>by cases h),λ_=>rfl⟩|@cons b v y xs c h t d=>
  by_cases e:b=k
  .subst e;refine⟨λi a=>?_,λa=>?_⟩
   .simp[bK]at a;subst a;exact⟨y,by simp[fK],h⟩
   .simp[bK]at a
  .have f:bK ((b,v)::xs) k=bK xs k:=by simp[bK,e]
   have g:fK ((b,y)::c) k=fK c k:=by simp[fK,e]
   rw[f,g];exact d
theorem GS{k:aN}(r:iG T Y H kvs us):(fK us k).isSome=(bK kvs k).isSome:=by
 obtain⟨h1,a⟩:=aw r;cases e:bK kvs k with
 |none=>rw[a e];rfl|some v=>obtain⟨y,b,_⟩:=h1 v e;rw[b];rfl
theorem aJq{k:aN}(r:iG T Y H kvs us):(kvs.any λkv=>decide (kv.1=k))=us.any λkv=>decide (kv.1=k):=by
 induction r with
 |nil=>rfl|cons h t a=>rw[rJ,rJ,a]
theorem aJr{k:aN}{y:V}(r:iG T Y H kvs us)(h:aX T Y H v y):iG T Y H (kvs++[(k,v)]) (us++[(k,y)]):=by
 induction r with
 |nil=>exact .cons h .nil|cons a t b=>exact .cons a b
theorem aJu{k:aN}{y:V}(r:iG T Y H kvs us)(h:aX T Y H v y):iG T Y H (kvs.map λkv=>if kv.1=k then(kv.1,v) else kv) (us.map λkv=>if kv.1=k then(kv.1,y) else kv):=by
 induction r with
 |nil=>exact .nil|@cons b d f xs g c t a=>
  by_cases e:b=k
  .simp only[kM,e];exact .cons h a
  .simp only[kM,e];exact .cons c a
theorem GR{k:aN}{y:V}(r:iG T Y H kvs us)(h:aX T Y H v y):iG T Y H (gZ kvs k v) (putK us k y):=by
 unfold gZ putK;rw[aJq r];split
 .exact aJu r h
 .exact aJr r h
theorem aJt{k:aN}(r:iG T Y H kvs us):iG T Y H (wQ kvs k) (rY us k):=by
 induction r with
 |nil=>exact .nil|@cons b d f xs g c t a=>
  unfold wQ rY;by_cases e:b=k
  .simp only[oO,e,ne_eq];exact a
  .simp only[oO,e,ne_eq];exact .cons c a
theorem iG.ext{Y Y':Hy}{H H':Hp}{kvs:List (aN×AV)}{us:List (aN×V)}(r:iG T Y H kvs us)(e:Ext Y H Y' H'):iG T Y' H' kvs us:=by
 induction r with
 |nil=>exact .nil|cons h t a=>exact .cons (h.ext e) a
theorem wN(R:bP T Y h H)(r:aX T Y H x x')(e:gM h x=aA kvs):∃n a us,x = .ref n/\Y[n]?=aA a/\h.ob n=aA (.aQ kvs)/\x' = .ref a/\H a=aA (.dK us)/\iG T Y H kvs us:=by
 cases r with
 |@ref n a q=>
  simp only[gM]at e;cases o:h.ob n with
  |none=>rw[o]at e;cases e|some u=>
   rw[o]at e;cases u with
   |aQ b=>cases e;obtain⟨d,f,h1,rfl,c⟩:=R.obj n _ a o q;exact⟨n,a,_,rfl,q,o,rfl,h1,Nn c⟩
   |_=>cases e
 |_=>cases e
theorem XX(R:bP T Y h H)(r:aX T Y H x x')(e:yU h x=aA kvs):∃a us,x' = .ref a/\Rd H a (.dK us)/\iG T Y H kvs us:=by
 cases r with
 |@ref n a q=>
  simp only[yU]at e;cases o:h.ob n with
  |none=>rw[o]at e;cases e|some u=>
   rw[o]at e;cases u with
   |dD b=>cases e;obtain⟨ob,d,f,h1,rfl,c⟩:=R.obj n _ a o q;exact⟨a,_,rfl,.inr ⟨ob,h1⟩,Nn c⟩
   |_=>cases e
 |_=>cases e
theorem Hc(e:H a=aA (.dK us))(r:iG T Y H kvs us):nW T Y H a (.aQ kvs):=by obtain⟨b,c,d⟩:=aJs r;subst c;exact⟨_,b,e,rfl,d⟩
theorem sJ{k:aN}(r:aX T Y H x x')(e:fP x=aA k):x'=kV k:=by cases r<;>simp[fP]at e<;>(subst e)<;>rfl
include hK in
theorem Y3
   :eB X T E (dM .In) (uE aH):=by
  refine⟨_,V6,λY h H x y x' y' Q R a c w=>?_⟩;unfold uE at w;cases e:dW h y with
  |none=>rw[e]at w;cases w
  |some xs=>
    rw[e]at w;by_cases f:(jE x&&xs.all jE)=aB
    · simp only[if_pos f]at w
      rw[bQ]at f;obtain⟨p,d,g,h1,b⟩:=jd R c e;refine⟨p,d,g,hK▸h1,Ie a f.1,Ig b f.2,?_⟩;rw[Jh a f.1 b f.2];exact w.here R<|.bl _
    · simp only[if_neg f]at w
      exact w.elim
include hK in
theorem Z2:eB X T E (dM .NotIn) (uE aB):=by
 refine⟨_,W6,λY h H x y x' y' Q R a c w=>?_⟩;unfold uE at w;cases e:dW h y with
 |none=>rw[e]at w;cases w
 |some xs=>
  rw[e]at w;by_cases f:(jE x&&xs.all jE)=aB
  .simp only[if_pos f]at w;rw[bQ]at f;obtain⟨p,d,g,h1,b⟩:=jd R c e;refine⟨p,d,g,hK▸h1,Ie a f.1,Ig b f.2,?_⟩;rw[Jh a f.1 b f.2];exact w.here R<|.bl _
  .simp only[if_neg f]at w;exact w.elim
theorem OV(r:bF T Y H xs ys)(e:cH xs i=aA v):∃v',cH ys i=aA v'/\aX T Y H v v':=by
 unfold cH at e ⊢;rw[<- r.length];cases q:iI xs.length i with
 |none=>rw[q]at e;cases e|some j=>rw[q]at e;exact r.get e
include hK in
theorem J1:xc X T E gf:=by
 refine⟨_,H9,λY h H x y f y' Q R g ry w=>?_⟩;cases y with
 |int i=>
  cases ry;have a:∀xs v,dW h x=aA xs->cH xs i=aA v->(W T (aX T) (.ok v h) Y H Q E)->Nj X.K f (.int i) H Q:=λxs v e1 e2 w=>by
   obtain⟨p,k,rfl,hq,hr⟩:=jd R g e1;obtain⟨l,m,rv⟩:=OV hr e2;rcases hq with hq|hq
   .exact .inl ⟨p,k,i,l,rfl,rfl,hK▸hq,m,w.here R rv⟩
   .exact .inr<|.inl ⟨p,k,i,l,rfl,rfl,hK▸hq,m,w.here R rv⟩
  have go:(match (dW h x).bind λxs=>cH xs i with
   |some v=>Res.ok v h
   |none=>Res.bad)=gf x (.int i) h->Nj X.K f (.int i) H Q:=λe=>by
    rw[<- e]at w;cases s:dW h x with
    |none=>rw[s]at w;cases w|some xs=>
     rw[s]at w;simp only[hX]at w;cases q:cH xs i with
     |none=>rw[q]at w;cases w|some v=>rw[q]at w;exact a xs v s q w
  cases x with
  |str z=>
   cases g;simp only[gf]at w;by_cases d:z.length<=sizeLine
   .rw[if_pos d]at w;cases q:cH z.cps.toList i with
    |none=>rw[q]at w;cases w|some c=>rw[q]at w;exact .inr<|.inr ⟨z,i,c,rfl,rfl,d,q,w.here R (.str _)⟩
   .rw[if_neg d]at w;cases w
  |aE=>exact go rfl|bl b=>exact go rfl|int j=>exact go rfl|tup xs=>exact go rfl|ref n=>exact go rfl|lL n=>exact go rfl
 |_=>exact w.elim
include hK in
theorem Y2(hu:X.A.units+1<cLine):eB X T E (dM .In) (oX aH):=by
 obtain⟨r0,e,f⟩:=(Y3 hK:eB X T E (dM .In) (uE aH));refine⟨_,e.or (V5 hu),λi h H x y x' y' Q R b c w=>?_⟩;unfold oX at w;cases d:gM h y with
 |none=>simp only[d]at w;exact .inl<|f i h H _ _ _ _ Q R b c w|some j=>
  simp only[d]at w;cases k:fP x with
  |none=>simp only[k]at w;exact w.elim|some k'=>simp only[k]at w;obtain⟨n,a,us,rfl,_,_,rfl,g,r⟩:=wN R c d;refine .inr ⟨a,_,rfl,(sJ b k)▸lV.k g,?_⟩;rw[GS r];exact W.here w R<|.bl _
include hK in
theorem Z1(hu:X.A.units+1<cLine):eB X T E (dM .NotIn) (oX aB):=by
 obtain⟨r0,e,f⟩:=(Z2 hK:eB X T E (dM .NotIn) (uE aB));refine⟨_,e.or (W5 hu),λi h H x y x' y' Q R b c w=>?_⟩;unfold oX at w;cases d:gM h y with
 |none=>simp only[d]at w;exact .inl<|f i h H _ _ _ _ Q R b c w|some j=>
  simp only[d]at w;cases k:fP x with
  |none=>simp only[k]at w;exact w.elim|some k'=>simp only[k]at w;obtain⟨n,a,us,rfl,_,_,rfl,g,r⟩:=wN R c d;refine .inr ⟨a,_,rfl,(sJ b k)▸lV.k g,?_⟩;rw[GS r];exact W.here w R<|.bl _
include hK in
theorem J0(hu:X.A.units+1<cLine):xc X T E uF:=by
 obtain⟨r0,p0,q0⟩:=(J1 hK:xc X T E gf);refine⟨_,p0.or (G8 hu),λY h H x y x' y' Q R f i w=>?_⟩;unfold uF at w;cases d:gM h x with
 |none=>
  simp only[d]at w;unfold yz at w;cases d2:yU h x with
  |none=>simp only[d2]at w;exact .inl<|q0 Y h H _ _ _ _ Q R f i w|some b=>
   simp only[d2]at w;cases k:fP y with
   |none=>simp only[k]at w;exact w.elim|some e=>
    simp only[k,hX]at w;cases l:bK b e with
    |none=>simp only[l]at w;exact w.elim|some v=>simp only[l]at w;obtain⟨a,us,rfl,g,r⟩:=XX R f d2;obtain⟨j,m,c⟩:=(aw r).1 v l;refine .inr ⟨a,j,rfl,?_,W.here w R c⟩;rw[sJ i k,<- m];exact .inl ⟨us,e,g,rfl,rfl⟩
 |some b=>
  simp only[d]at w;cases k:fP y with
  |none=>simp only[k]at w;exact w.elim|some e=>
   simp only[k,hX]at w;cases l:bK b e with
   |none=>simp only[l]at w;exact w.elim|some v=>simp only[l]at w;obtain⟨n,a,us,rfl,_,_,rfl,g,r⟩:=wN R f d;obtain⟨j,m,c⟩:=(aw r).1 v l;refine .inr ⟨a,j,rfl,?_,W.here w R c⟩;rw[sJ i k,<- m];exact lV.k g
def aIz(K:bI):R2:=λx y H Q=>∃a b ys,x = .ref a/\y = .ref b/\eH K H a []/\eH K H b ys/\Q (.ref b) H
theorem U8:cW X (eV .Add) (aIz X.K):=by
 intro pins s Z H x y v u Q I k l h;obtain⟨a,b,z,rfl,rfl,ha,hb,q⟩:=h;cases k;cases l;obtain⟨m,o,p,_⟩:=I.tuple ha;obtain⟨g,A,r,_⟩:=I.tuple hb;cases o;obtain⟨⟨cls,dd,data,sl⟩,i,t,n,hd⟩:=id p;obtain⟨⟨j,d,data2,e⟩,c,f,w,hd2⟩:=id r;subst t hd f hd2;exact Th ⟨_,i,rfl⟩ ⟨_,c,rfl⟩ To Tr Sh Se (Sb _ _)
  (tuple_addW0 a b _ _ n w dd d sl e<|rfl) ⟨i,c,⟨.ref b,H,I,rfl,q⟩⟩
include hK in
theorem X5:eB X T E (eV .Add) Zj:=by
 refine⟨_,U3.or (U4.or<|U7.or<|U8.or U6),λY h H x y x' y' Q R u v w=>?_⟩;cases x with
 |int i=>
  cases y with
  |int j=>cases u;cases v;exact .inl ⟨i,j,rfl,rfl,W.here w R (.int _)⟩|_=>cases w
 |str i=>
  cases y with
  |str j=>cases u;cases v;obtain⟨A,w⟩:=zP w;exact .inr<|.inl ⟨i,j,rfl,rfl,A,W.here w R (.str _)⟩
  |_=>cases w
 |tup xs=>
  cases y with
  |tup c=>
   obtain⟨h2,w⟩:=zP w;cases u with
   |@tup a _ d hq hr=>
    cases v with
    |@tup b _ f g l=>
     have l1:=hr.length;have l2:=l.length;by_cases h1:xs.length=0
     .have s:=Ds h1;subst s;have s:=Ds l1.symm;subst s;exact .inr<|.inr<|.inr<|.inl ⟨a,b,f,rfl,rfl,hK▸hq,hK▸g,W.here w R (.tup g l)⟩
     refine .inr<|.inr<|.inl ⟨a,b,d,f,rfl,rfl,hK▸hq,hK▸g,λz=>?_,by omega,λz=>?_,λz p o=>?_⟩
     .rw[z]at l1;exact h1 l1
     .subst z;have s:c=[]:=by cases c with|nil=>rfl|cons _ _=>cases l2
      subst s;rw[kL]at w;exact W.here w R<|.tup hq hr
     .exact W.ok w (.jL o) (R.keep o)<|.tup (.of gU)<|((hr.append l).ext (.jL o))
  |_=>cases w
 |ref n=>
  cases y with
  |ref m=>
   cases u with
   |@ref _ a q=>
    cases v with
    |@ref _ b q2=>
     have go:∀xs c,h.ob n=aA (.lst aB xs)->h.ob m=aA (.lst aB c)->W T (aX T) (if xs.length+c.length<=sizeLine then .ok (.ref h.nx) (h.new<|.lst aB<|xs++c) else .bad) Y H Q E->FX (.ref a) (.ref b) H Q:=λxs c r t w=>by
      by_cases A:xs.length+c.length<=sizeLine
      .rw[if_pos A]at w;obtain⟨d,g1,r1⟩:=R.obj n _ a r q;obtain⟨f,g2,r2⟩:=R.obj m _ b t q2;have l1:=r1.length;have l2:=r2.length;refine⟨a,b,d,f,rfl,rfl,g1,g2,by omega,λp o=>?_⟩;have ho:nW T (Y++[p]) (bG H p<|.lst<|d++f) p (.lst aB<|xs++c):=⟨_,gU,(r1.append r2).ext ⟨λk z e=>by rw[bz ((List.getElem?_eq_some_iff.mp e).1)];exact e,(Ext.jL (Y:=Y) o).tup,(Ext.jL (Y:=Y) o).dC⟩⟩
       obtain⟨R',ex⟩:=R.alloc o ho;exact W.ok w ex R'<|.ref (by rw[<- R.len];simp)
      .rw[if_neg A]at w;cases w
     refine .inr<|.inr<|.inr<|.inr ?_;replace w:W T (aX T) (pv n m h) Y H Q E:=w
     unfold pv at w;cases r:ae h n with
     |none=>rw[r]at w;cases w|some xs=>
      cases t:ae h m with
      |none=>rw[r,t]at w;cases w|some c=>rw[r,t]at w;exact go xs c (CJ r) (CJ t) w
  |_=>cases w
 |_=>cases w
theorem IE(hK:X.K=T.K)(R:bP T Y h H)(r:aX T Y H x x')(e:ji h x=aA b):yJ X.K x' H b:=by
 have emp:∀{xs:Ht}{d:Hw},bF T Y H xs d->(!xs.isEmpty) = !d.isEmpty:=λr=>by cases r<;>rfl
 cases r with
 |aE=>cases e;rfl|bl c=>cases e;rfl|int i=>cases e;rfl|str y=>
  simp only[ji]at e;by_cases f:y.length<=sizeLine
  .rw[if_pos f]at e;cases e;exact⟨f,rfl⟩
  .rw[if_neg f]at e;cases e
 |tup k hr=>cases e;exact .inr<|.inl ⟨_,hK▸k,emp hr⟩|@ref n a q=>
  simp only[ji]at e;cases o:h.ob n with
  |none=>rw[o]at e;cases e|some u=>
   rw[o]at e;cases u with
   |lst m d=>cases e;obtain⟨zs,h1,g⟩:=pB R o q;exact .inl ⟨zs,hK▸h1,emp g⟩
   |aQ j=>
    cases e;obtain⟨s,d,h1,g,l⟩:=R.obj n _ a o q;refine .inr<|.inr ⟨_,h1,?_⟩;subst g;cases j with
    |nil=>rfl|cons p r=>cases l;rfl
   |dD _=>cases e|ins c fs=>cases e
 |lL q=>cases e
end
def uG(i:Nat):aG->M AV:=λZ h=>match Z[i]? with
 |some (aA v)=>.ok v h
 |_=>.bad
def Uz(m k:M AV):M AV:=m.bind λx=>(dH x).bind λb=>if b=aB then k else M.ret x
def DO(m k:M AV):M AV:=m.bind λx=>(dH x).bind λb=>if b=aB then M.ret x else k
def Uy(m k:M Bool):M Bool:=m.bind λb=>if b=aB then k else M.ret aH
def DN(m k:M Bool):M Bool:=m.bind λb=>if b=aB then M.ret aB else k
def Ae{α:Type}(c:M Bool)(a b:M α):M α:=c.bind λt=>if t=aB then a else b
def rV:AV->Option Bool
 |.bl b=>aA b
 |_=>aD
def fe(g g':AV->AV->M AV)(a b c:M AV):M AV:=a.bind λx=>b.bind λy=>(g x y).bind λz h=>match rV z with
 |some aB=>(c.bind λw=>g' y w) h
 |some aH=>.ok (.bl aH) h
 |none=>.bad
def Xa(a:M AV)(r:M Ht):M Ht:=a.bind λx=>r.bind λxs=>M.ret (x::xs)
def Ov(r:M Ht):M AV:=r.bind λxs=>M.guard (xs.length<=sizeLine) (M.ret<|.tup xs)
def kH(xs:Ht):M AV:=λh=>.ok (.ref h.nx) (h.new<|.lst aB xs)
def uK(r:M Ht):M AV:=r.bind λxs=>M.guard (xs.length<=sizeLine) (kH xs)
def uO(g:AV->AV->M AV)(a b:M AV):M AV:=a.bind λx=>b.bind λy=>g x y
def bW:aL->Bool
 |.Name ..=>aB | .Constant ..=>aB | .BinOp ..=>aB | .UnaryOp ..=>aB | .Compare ..=>aB | .BoolOp ..=>aB | .IfExp ..=>aB
 |.Tuple ..=>aB | .List ..=>aB | .Subscript ..=>aB | .Call ..=>aB | .Attribute ..=>aB | .ListComp ..=>aB
 |.Dict ..=>aB
 |_=>aH
def uJ:aL->Bool
 |.ListComp ..=>aB
 |_=>aH
def tj:aL->Bool
 |.Name ..=>aB | .Constant ..=>aB | .BinOp ..=>aB | .Subscript ..=>aB | .Call ..=>aB | .Attribute ..=>aB | .Tuple ..=>aB | .List ..=>aB | .ListComp ..=>aB
 |.Dict ..=>aB
 |_=>aH
theorem fV(h:bW e=aB):eO (e::es) env=(aH,eval e env)::eO es env:=by cases e<;>first|rfl|cases h
theorem aKk(h:bW e=aB):Fm e:=λo i=>by cases e<;>first|rfl|cases h
theorem HA{t:Option aL}(h:bW e=aB)(hl:uJ e=aH):vT e t n env=pure aH:=by cases e<;>first|rfl|(cases hl;done)|(cases h;done)
theorem Nv{x:Value}(h:bW e=aB):Er e env x=pure x:=by cases e<;>first|rfl|cases h
theorem Bu{op:pM}(h:bW e=aB):wc op e=aH:=by cases e<;>first|rfl|cases h
theorem aBv(h:tj e=aB):∀whole,isTrue e env whole=(do let v <- whole;Eu e.pos;lu [v] (truthy v)):=λ_=>by cases e<;>first|rfl|cases h
theorem sW(h:es.all bW=aB):(lU pos<|eO es env).any (·.1)=aH:=by
 induction es with
 |nil=>rfl|cons e es a=>rw[jZ,bQ]at h;rw[fV h.1];have:=a h.2;simp only[lU]at this ⊢;exact this
section
variable {X:Cx}{E:XK}{a b:aL}{mt mu:aG->M Bool}
theorem aEt{i:Nat}{x:Str} (hN:X.N[i]?=aA x) (hv:nj X.env.scope x) (hd:(x==("__debug__":Str))=aH) (hcd:(x==("__classdict__":Str))=aH):QE X T E (.Name x pos) (uG i):=by
 refine⟨_,aBb hN hv hd hcd,λd Z a h H Q R S w=>?_⟩;unfold uG at w;cases q:Z[i]? with
 |none=>rw[q]at w;exact w.elim|some o=>
  cases o with
  |none=>rw[q]at w;exact w.elim|some v=>rw[q]at w;obtain⟨b,c,r⟩:=S.2 i v q;exact⟨b,c,w.here R r⟩
theorem uQ{v':V}(hp:PE X e (tC v'))(r:∀Y H,aX T Y H v v'):QE X T E e (λ_=>M.ret v):=
 ⟨_,hp,λY _ _ h H Q R _ w=>W.here w R (r Y H)⟩
theorem ER:QE X T E e (λ_=>M.bad):=⟨λ_ _ _=>False,λ_ _ _ _ _ _ h=>h.elim,λ_ _ _ _ _ _ _ _ w=>w⟩
theorem Nf:QT X T E e (λ_=>M.bad):=⟨λ_ _ _=>False,λ_ _ _ _ _ _ h=>h.elim,λ_ _ _ _ _ _ _ _ w=>w⟩
theorem rD{α β:Type}{Rp:Rl α β}(ra:∀Y Z Z' h H Q,bP T Y h H->cX T Y H Z Z'->W T (aX T) (ma Z h) Y H Q E->ta Z' H Q)(rb:∀Y Z Z' h H Q,bP T Y h H->cX T Y H Z Z'->W T (aX T) (mb Z h) Y H Q E->tb Z' H Q){g:AV->AV->M α}{Q:β->Hp->Prop}{F:V->V->Hp->Prop}(R:bP T Y h H)(S:cX T Y H Z Z')(w:W T Rp ((ma Z).bind (λx=>(mb Z).bind λy=>g x y) h) Y H Q E)
  (f:∀Y2 x y x' y' h2 H2,Ext Y H Y2 H2->bP T Y2 h2 H2->aX T Y2 H2 x x'->aX T Y2 H2 y y'->cX T Y2 H2 Z Z'->W T Rp (g x y h2) Y2 H2 Q E->F x' y' H2):ta Z' H λx H1=>tb Z' H1 λy H2=>F x y H2:=
 ra Y Z Z' h H _ R S (W.bind w λa x x' h1 H1 b d e i=>rb a Z Z' h1 H1 _ d (S.ext b) (W.bind i λY2 y y' h2 H2 c R2 j k=>f Y2 x y x' y' h2 H2 (b.trans c) R2 (e.ext c) j ((S.ext b).ext c) k))
theorem aEk{op:rN}{g:AV->AV->M AV}(ho:eB X T E (eV op) g)(ha:QE X T E a ma)(hb:QE X T E b mb):QE X T E (.BinOp a op b pos) (λZ=>uO g (ma Z) (mb Z)):=by obtain⟨r,hr,d⟩:=ho;obtain⟨s,pa,e⟩:=ha;obtain⟨tb,f,i⟩:=hb;exact⟨_,aAv hr pa f,λt Z j h H Q R S w=>rD e i R S w λc x y k l m n _ R2 o p _ q=>d c m n x y k l Q R2 o p q⟩
theorem aEc{g:AV->AV->M AV}(ho:xc X T E g)(ha:QE X T E a ma)(hb:QE X T E b mb)(hs:Fm b):QE X T E (.Subscript a b pos) (λZ=>uO g (ma Z) (mb Z)):=by obtain⟨r,hr,d⟩:=ho;obtain⟨s,pa,e⟩:=ha;obtain⟨tb,f,i⟩:=hb;exact⟨_,aAn hr pa f hs,λt Z j h H Q R S w=>rD e i R S w λc x y k l m n _ R2 o p _ q=>d c m n x y k l Q R2 o p q⟩
theorem aDw{op:pM}{g:AV->AV->M AV}(ho:eB X T E (dM op) g)(ha:QE X T E a ma)(hb:QE X T E b mb)(hm:wc op b=aH):QE X T E (.Compare a [op] [b] pos) (λZ=>uO g (ma Z) (mb Z)):=by obtain⟨r,hr,d⟩:=ho;obtain⟨s,pa,e⟩:=ha;obtain⟨tb,f,i⟩:=hb;exact⟨_,aAh hr pa f hm,λt Z j h H Q R S w=>rD e i R S w λc x y k l m n _ R2 o p _ q=>d c m n x y k l Q R2 o p q⟩
theorem aEs{op:PySem.UnaryOp}{g:AV->M AV}(ho:Ut X T E (Ew op) g)(ha:QE X T E a ma):QE X T E (.UnaryOp op a pos) (λZ=>(ma Z).bind g):=by obtain⟨r,hr,d⟩:=ho;obtain⟨m,pa,e⟩:=ha;exact⟨_,aBa hr pa,λf Z b h H Q R S w=>e f Z b h H _ R S (W.bind w λc x i h1 H1 n j k l=>d c h1 H1 x i Q j k l)⟩
theorem Ip(hK:X.K=T.K){γ δ:Type}{Rq:Rl γ δ}{k:Bool->M γ}{Q:δ->Hp->Prop}(R:bP T Y h H)(r:aX T Y H x x')(w:W T Rq ((dH x).bind k h) Y H Q E) :
  ∃d,yJ X.K x' H d/\W T Rq (k d h) Y H Q E:=by
 unfold M.bind dH at w;cases e:ji h x with
 |none=>rw[e]at w;cases w|some d=>rw[e]at w;exact⟨d,IE hK R r e,w⟩
theorem aEa(hc:QT X T E c mt)(ha:QE X T E a ma)(hb:QE X T E b mb):QE X T E (.IfExp c a b pos) (λZ=>Ae (mt Z) (ma Z) (mb Z)):=by
 obtain⟨r,pc,rc⟩:=hc;obtain⟨s,pa,l⟩:=ha;obtain⟨tb,m,n⟩:=hb;refine⟨_,aAm pc pa m,λo Z e h H Q R S w=>rc o Z e h H _ R S (W.bind w λf d p h1 H1 i j q k=>?_)⟩;have g:=q;subst g;cases d with
 |true=>exact l f Z e h1 H1 Q j (S.ext i) k|false=>exact n f Z e h1 H1 Q j (S.ext i) k
def aMn(K:bI)(ta tb:TE):TE:=λZ H Q=>ta Z H λx H1=>∃c,yJ K x H1 c/\if c=aB then tb Z H1 Q else Q x H1
def aNd(K:bI)(ta tb:TE):TE:=λZ H Q=>ta Z H λx H1=>∃c,yJ K x H1 c/\if c=aB then Q x H1 else tb Z H1 Q
def aNc(K:bI)(ta:TE):TE:=λZ H Q=>ta Z H λx H1=>∃c,yJ K x H1 c/\Q (.bl<|!c) H1
variable {rest:List aL}
theorem aAa(ha:PE X a ta)(hb:PE X (.BoolOp .And (b::rest) pos) tb):PE X (.BoolOp .And (a::b::rest) pos) (aMn X.K ta tb):=by
 intro pins s Z H Q I h;refine BoolOp_and<|bE (ha pins s Z H _ I h) λv s1 j=>?_;obtain⟨x,H1,k,f,c,ht,g⟩:=j;refine bE (Cm pins s1 Z H1 x v (λd e=>d=c/\e=H1) k f ⟨c,ht,rfl,rfl⟩) λd s2 ⟨e,i,l,m⟩=>?_;subst l;subst m;cases d with
 |true=>exact hb pins s2 Z e Q i g|false=>exact⟨x,e,i,f,g⟩
theorem aAw(ha:PE X a ta)(hb:PE X (.BoolOp .Or (b::rest) pos) tb):PE X (.BoolOp .Or (a::b::rest) pos) (aNd X.K ta tb):=by
 intro pins s Z H Q I h;refine BoolOp_or<|bE (ha pins s Z H _ I h) λv s1 j=>?_;obtain⟨x,H1,k,f,c,ht,g⟩:=j;refine bE (Cm pins s1 Z H1 x v (λd e=>d=c/\e=H1) k f ⟨c,ht,rfl,rfl⟩) λd s2 ⟨e,i,l,m⟩=>?_;subst l;subst m;cases d with
 |false=>exact hb pins s2 Z e Q i g|true=>exact⟨x,e,i,f,g⟩
theorem aAt(ha:PE X a ta):PE X (.UnaryOp .Not a pos) (aNc X.K ta):=by intro pins s Z H Q I h;refine UnaryOp_<|bE (ha pins s Z H _ I h) λv s1 e=>?_;obtain⟨x,H1,f,g,c,ht,i⟩:=e;refine not_of<|bE (Cm pins s1 Z H1 x v (λd b=>d=c/\b=H1) f g ⟨c,ht,rfl,rfl⟩) λd s2 ⟨b,j,k,l⟩=>?_;subst k;subst l;exact⟨.bl (!d),b,j,rfl,i⟩
theorem EU{op:PySem.BoolOp}(ha:QE X T E a ma):QE X T E (.BoolOp op [a] pos) ma:=let ⟨t,p,r⟩:=ha;⟨t,aAu p,r⟩
theorem aDn(hK:X.K=T.K)(ha:QE X T E a ma)(hb:QE X T E (.BoolOp .And (b::rest) pos) mb):QE X T E (.BoolOp .And (a::b::rest) pos) (λZ=>Uz (ma Z) (mb Z)):=by
 obtain⟨q,pa,j⟩:=ha;obtain⟨tb,k,l⟩:=hb;refine⟨_,aAa pa k,λm Z c h H Q R S w=>j m Z c h H _ R S (W.bind w λe x r h1 H1 n f g o=>?_)⟩;obtain⟨d,p,i⟩:=Ip hK f g o;refine⟨d,p,?_⟩;cases d with
 |true=>exact l e Z c h1 H1 Q f (S.ext n) i|false=>exact W.here i f g
theorem aEm(hK:X.K=T.K)(ha:QE X T E a ma)(hb:QE X T E (.BoolOp .Or (b::rest) pos) mb):QE X T E (.BoolOp .Or (a::b::rest) pos) (λZ=>DO (ma Z) (mb Z)):=by
 obtain⟨q,pa,j⟩:=ha;obtain⟨tb,k,l⟩:=hb;refine⟨_,aAw pa k,λm Z c h H Q R S w=>j m Z c h H _ R S (W.bind w λe x r h1 H1 n f g o=>?_)⟩;obtain⟨d,p,i⟩:=Ip hK f g o;refine⟨d,p,?_⟩;cases d with
 |false=>exact l e Z c h1 H1 Q f (S.ext n) i|true=>exact W.here i f g
theorem aEj(hK:X.K=T.K)(ha:QE X T E a ma):QE X T E (.UnaryOp .Not a pos) (λZ=>(ma Z).bind λx=>(dH x).bind λb=>M.ret (.bl<|!b)):=by obtain⟨n,pa,f⟩:=ha;refine⟨_,aAt pa,λg Z c h H Q R S w=>f g Z c h H _ R S (W.bind w λi x o h1 H1 p e j k=>?_)⟩;obtain⟨d,l,m⟩:=Ip hK e j k;exact⟨d,l,W.here m e (.bl _)⟩
theorem Wk{r r':R2}{g:AV->AV->M AV}{tc:TE}
  (hg:∀Y h H x y x' y' Q,bP T Y h H->aX T Y H x x'->aX T Y H y y'->W T (aX T) (g x y h) Y H Q E->r x' y' H Q)
  (hg':∀Y h H x y x' y' Q,bP T Y h H->aX T Y H x x'->aX T Y H y y'->W T (aX T) (g' x y h) Y H Q E->r' x' y' H Q)
  (ra:∀Y Z Z' h H Q,bP T Y h H->cX T Y H Z Z'->W T (aX T) (ma Z h) Y H Q E->ta Z' H Q)(rb:∀Y Z Z' h H Q,bP T Y h H->cX T Y H Z Z'->W T (aX T) (mb Z h) Y H Q E->tb Z' H Q)
  (rc:∀Y Z Z' h H Q,bP T Y h H->cX T Y H Z Z'->W T (aX T) (mc Z h) Y H Q E->tc Z' H Q)(R:bP T Y h H)(S:cX T Y H Z Z')
  (w:W T (aX T) (fe g g' (ma Z) (mb Z) (mc Z) h) Y H Q E):Og r r' ta tb tc Z' H Q:=by
 refine rD ra rb R S w λb x y x' y' m n _ R2 o i p q=>?_;refine hg b m n x y x' y' _ R2 o i<|W.bind q λa z I c j k l s t=>?_;have e:W T (aX T) (match rV z with
  |some aB=>((mc Z).bind λw=>g' y w) c
  |some aH=>Res.ok (.bl aH) c
  |none=>.bad) a j Q E:=t
 cases z with
 |bl d=>
  cases s;refine⟨d,rfl,?_⟩;cases d with
  |true=>exact rc a Z Z' c j _ l (p.ext k)<|W.bind e λf u v A B C D F G=>hg' f A B y u y' v Q D ((i.ext k).ext C) F G|false=>exact W.here e l<|.bl _
 |_=>exact e.elim
theorem aDu{op:pM}{g:AV->AV->M AV}(ho:eB X T E (dM op) g)(ho':eB X T E (dM op') g')(ha:QE X T E a ma)(hb:QE X T E b mb)(hc:QE X T E c mc)
  (hm:Et [op,op'] [b,c]=aH):QE X T E (.Compare a [op,op'] [b,c] pos) (λZ=>fe g g' (ma Z) (mb Z) (mc Z)):=by
 obtain⟨r,hr,f⟩:=ho;obtain⟨m,d,e⟩:=ho';obtain⟨n,pa,i⟩:=ha;obtain⟨tb,j,k⟩:=hb;obtain⟨o,pc,rc⟩:=hc;exact⟨_,aAg hr d pa j pc hm,λp Z l h H Q R S w=>Wk f e i k rc R S w⟩
theorem rB(hK:X.K=T.K)(ha:QE X T E a ma)(he:tj a=aB):QT X T E a (λZ=>(ma Z).bind dH):=by
 obtain⟨l,pa,g⟩:=ha;refine⟨_,aDc pa (aBv he),λi Z c h H Q R S w=>g i Z c h H _ R S (W.bind w λj x m h1 H1 n f k b=>?_)⟩;unfold dH at b;cases e:ji h1 x with
 |none=>rw[e]at b;cases b|some d=>rw[e]at b;exact⟨d,IE hK f k e,b.here f rfl⟩
theorem Wb{z:AV}{z':V}{Q:Bool->Hp->Prop}(R:bP T Y h H)(r:aX T Y H z z')(w:W T RB (match rV z with
  |some d=>Res.ok d h
  |none=>.bad) Y H Q E):∃k,z' = .bl k/\Q k H:=by
 cases z with
 |bl d=>cases r;exact⟨d,rfl,W.here w R rfl⟩|_=>exact w.elim
def yw(z:AV):M Bool:=λh=>match rV z with
 |some d=>.ok d h
 |none=>.bad
theorem aIk{op:pM}{g:AV->AV->M AV}(ho:eB X T E (dM op) g)(ha:QE X T E a ma)(hb:QE X T E b mb)(hm:wc op b=aH):QT X T E (.Compare a [op] [b] pos) (λZ=>(uO g (ma Z)<|mb Z).bind yw):=by obtain⟨r,hr,e⟩:=ho;obtain⟨D,pa,f⟩:=ha;obtain⟨tb,i,j⟩:=hb;refine⟨_,aDa hr pa i hm,λl Z m h H Q R S w=>?_⟩;have n:W T (aX T) (uO g (ma Z) (mb Z) h) l H (λx o=>∃k,x = .bl k/\Q k o) E:=W.bind w λp z F h1 H1 G q c s=>Wb q c s;exact rD f j R S n λd x y t u v A _ R2 c B _ C=>e d v A x y t u _ R2 c B C
theorem aIj{op:pM}{g:AV->AV->M AV}(ho:eB X T E (dM op) g)(ho':eB X T E (dM op') g')(ha:QE X T E a ma)(hb:QE X T E b mb)(hc:QE X T E c mc)
  (hm:Et [op,op'] [b,c]=aH):QT X T E (.Compare a [op,op'] [b,c] pos) (λZ=>(fe g g' (ma Z) (mb Z)<|mc Z).bind yw):=by
 obtain⟨r,hr,f⟩:=ho;obtain⟨v,d,e⟩:=ho';obtain⟨y,pa,i⟩:=ha;obtain⟨tb,j,l⟩:=hb;obtain⟨A,pc,rc⟩:=hc;refine⟨_,aCz hr d pa j pc hm,λm Z n h H Q R S w=>?_⟩;have o:W T (aX T) (fe g g' (ma Z) (mb Z) (mc Z) h) m H (λx p=>∃k,x = .bl k/\Q k p) E:=W.bind w λq z B h1 H1 C s t u=>Wb s t u;exact Wk f e i l rc R S o
theorem aIl(ha:QT X T E a mt):QT X T E (.UnaryOp .Not a pos) (λZ=>(mt Z).bind λb=>M.ret (!b)):=by obtain⟨m,pa,e⟩:=ha;refine⟨_,aDb pa,λf Z c h H Q R S w=>e f Z c h H _ R S (W.bind w λg x i h1 H1 n j k l=>?_)⟩;have d:=k;subst d;exact W.here l j rfl
theorem aIn(ha:QT X T E a mt):QW X T E (.BoolOp .And [a] pos) mt:=let ⟨t,p,r⟩:=ha;⟨t,aDh p,r⟩
theorem aIp(ha:QT X T E a mt):QW X T E (.BoolOp .Or [a] pos) mt:=let ⟨t,p,r⟩:=ha;⟨t,aDk p,r⟩
theorem aIm(ha:QT X T E a mt)(hb:QW X T E (.BoolOp .And (b::rest) pos) mu):QW X T E (.BoolOp .And (a::b::rest) pos) (λZ=>Uy (mt Z) (mu Z)):=by
 obtain⟨p,pa,i⟩:=ha;obtain⟨tb,j,k⟩:=hb;refine⟨_,aDg pa j,λl Z c h H Q R S w=>i l Z c h H _ R S (W.bind w λd x m h1 H1 n f o g=>?_)⟩;have e:=o;subst e;cases x with
 |true=>exact k d Z c h1 H1 Q f (S.ext n) g|false=>exact W.here g f rfl
theorem aIo(ha:QT X T E a mt)(hb:QW X T E (.BoolOp .Or (b::rest) pos) mu):QW X T E (.BoolOp .Or (a::b::rest) pos) (λZ=>DN (mt Z) (mu Z)):=by
 obtain⟨p,pa,i⟩:=ha;obtain⟨tb,j,k⟩:=hb;refine⟨_,aDj pa j,λl Z c h H Q R S w=>i l Z c h H _ R S (W.bind w λd x m h1 H1 n f o g=>?_)⟩;have e:=o;subst e;cases x with
 |true=>exact W.here g f rfl|false=>exact k d Z c h1 H1 Q f (S.ext n) g
theorem aDm:QA X T E [] (λ_=>M.ret []):=⟨_,af,λY _ _ h H Q R _ w=>W.here w R .nil⟩
theorem aDl(ha:QE X T E e m)(hr:QA X T E es mr)(hs:bW e=aB):QA X T E (e::es) (λZ=>Xa (m Z) (mr Z)):=by obtain⟨r,pa,c⟩:=ha;obtain⟨s,pr,d⟩:=hr;exact⟨_,xA pa pr (fV hs),λf Z a h H Q R S w=>c f Z a h H _ R S (W.bind w λb x t h1 H1 g i j k=>d b Z a h1 H1 _ i (S.ext g) (W.bind k λl xs n u v o R2 p q=>W.here q R2 (.cons (j.ext o) p)))⟩
theorem aCd{p:Addr}(hp:H p=aD):Ext Y H (Y++[p]) (bG H p O):=⟨λk z e=>by rw[bz ((List.getElem?_eq_some_iff.mp e).1)];exact e,(Ext.jL (Y:=Y) hp).tup,(Ext.jL (Y:=Y) hp).dC⟩
theorem uM{p:Addr}(R:bP T Y h H)(r:bF T Y H xs hU)(hp:H p=aD)(w:W T (aX T) (kH xs h) Y H Q E):Q (.ref p) (bG H p<|.lst hU):=by obtain⟨a,ex⟩:=R.alloc (o:=.lst aB xs) hp ⟨_,gU,r.ext (aCd hp)⟩;exact W.ok w ex a<|.ref (by rw[<- R.len];simp)
theorem Ao{p:Addr}(R:bP T Y h H)(r:bF T Y H xs hU)(hp:H p=aD)(w:W T (aX T) (.ok (.tup xs) h) Y H Q E):Q (.ref p) (bG H p<|.tup hU):=
 W.ok w (.jL hp) (R.keep hp) (.tup (.of gU)<|r.ext<|.jL hp)
theorem aEr{k:Nat}(h:QA X T E es mr):QE X T E (.Tuple es k pos) (λZ=>Ov (mr Z)):=by obtain⟨m,pr,d⟩:=h;refine⟨_,aAz pr,λe Z a h H Q R S w=>d e Z a h H _ R S (W.bind w λf xs g h1 H1 n i c b=>?_)⟩;obtain⟨j,b⟩:=zP b;exact⟨c.length▸j,λp l=>Ao i c l b⟩
theorem aEd(h:QA X T E es mr):QE X T E (.List es pos) (λZ=>uK (mr Z)):=by obtain⟨l,pr,d⟩:=h;refine⟨_,aAo pr,λe Z a h H Q R S w=>d e Z a h H _ R S (W.bind w λf xs g h1 H1 m i c b=>?_)⟩;obtain⟨j,b⟩:=zP b;exact⟨c.length▸j,λp k=>uM i c k b⟩
def sX(T:Tab)(g:Ht->M AV):Sp:=λvs H Q E=>∃Y h args,bP T Y h H/\bF T Y H args vs/\W T (aX T) (g args h) Y H Q E
inductive Fn(X:Cx)(T:Tab)(E:XK)(x:Str)(g:Ht->M AV):Prop
 |mk (k:Nat) (f:Addr) (fd:eT) (ps:YX) (_:iP X.prog X.w X.K X.mg X.base (kQ X.prog X.w) k f fd ps (sX T g)) (_:fF (k+1) X.A) (_:X.mg x=aA (.ref f)) (_:tL X.K (.ref f)=aB) (_:Binds X.K fd ps []) (_:rS (kQ X.prog X.w) X E):Fn X T E x g
theorem aDr{x:Str}{g:Ht->M AV}(F:Fn X T E x g)(hg:Gl X x)(hd:(x==("__debug__":Str))=aH):QE X T E (.Call (.Name x p) [] [] pos) (λ_=>g []):=by obtain⟨k,f,fd,ps,F,hr,hm,a,hb,b⟩:=F;exact⟨_,aAe F (hr.mono<|jQ _) hg hm a hb .nil b hd,λc Z d h H Q R S w=>⟨c,h,[],R,.nil,w⟩⟩
theorem aDq{x:Str}{g:Ht->M AV}(F:Fn X T E x g)(hg:Gl X x)(ha:QA X T E (e::es) mr)(hs:(e::es).all bW=aB)(hd:(x==("__debug__":Str))=aH):QE X T E (.Call (.Name x p) (e::es) [] pos) (λZ=>(mr Z).bind g):=by obtain⟨k,f,fd,ps,F,hr,hm,c,hb,d⟩:=F;obtain⟨q,pr,i⟩:=ha;rw[jZ,bQ]at hs;refine⟨_,aAd F (hr.mono<|jQ _) hg hm c hb .nil d pr hd (fV hs.1) (sW hs.2),λj Z a h H Q R S w=>i j Z a h H _ R S (W.bind w λb xs l h1 H1 r m n o=>?_)⟩;rw[kL];exact⟨b,h1,xs,m,n,o⟩
theorem bF.flat{Y:Hy}{H:Hp}{xs:Ht}{ys:Hw}(r:bF T Y H xs ys):∀(k:Nat),bF T Y H (fA k xs).flatten (fA k ys).flatten
 |0=>.nil
 |k+1=>by exact r.append<|bF.flat r k
theorem Y9:eB X T E (eV .Mult) qi:=by
 obtain⟨r,f,g⟩:=(sN W2 λ_ _ h=>P8 h:eB X T E (eV .Mult) (mK qO (·*·)));refine⟨_,f.or X0,λi h H x y s t Q R c d w=>?_⟩;cases x with
 |ref n=>
  refine .inr ?_;cases y with
  |int k=>
   cases d;cases c with
   |@ref _ a q=>
    simp only[qi]at w;cases o:h.ob n with
    |none=>simp only[o]at w;cases w|some u=>
     simp only[o]at w;cases u with
     |lst m xs=>
      cases m with
      |false=>cases w|true=>
       dsimp only at w;by_cases b:0<=k/\xs.length*k.toNat<=sizeLine/\k<2 ^ 63
       .rw[if_pos b]at w;obtain⟨j,h1,e⟩:=R.obj n _ a o q;exact⟨a,k,j,rfl,rfl,h1,by lia,b.2.2,by rw[<- e.length];exact b.2.1,λp l=>uM R (e.flat _) l w⟩
       .rw[if_neg b]at w;cases w
     |_=>cases w
  |_=>cases w
 |_=>exact .inl<|g i h H _ _ _ _ Q R c d w
end
inductive Out where
 |nx (Z:aG)|ret (v:AV)|brk (Z:aG)|cnt (Z:aG)
variable {body ms:aG->M Out}
inductive jR where
 |nx (Z:L2.St)|ret (v:V)|brk (Z:L2.St)|cnt (Z:L2.St)
def RO(T:Tab):Rl Out jR:=λY H a b=>match a,b with
 |.nx Z,.nx Z'=>cX T Y H Z Z'
 |.ret v,.ret v'=>aX T Y H v v'
 |.brk Z,.brk Z'=>cX T Y H Z Z'
 |.cnt Z,.cnt Z'=>cX T Y H Z Z'
 |_,_=>False
def nI(D:Ends):jR->Hp->Prop
 |.nx Z=>D.nx Z
 |.ret v=>D.rt v
 |.brk Z=>D.bk Z
 |.cnt Z=>D.ct Z
def QS(X:Cx)(T:Tab)(E:XK)(st:Stmt)(m:aG->M Out):Prop:=
 ∃t,PS X st t/\∀Y Z Z' h H D,bP T Y h H->cX T Y H Z Z'->W T (RO T) (m Z h) Y H (nI D) E->t D Z' H
def vX(X:Cx)(T:Tab)(E:XK)(st:YV)(m:aG->M Out):Prop:=
 ∃t,rR X st t/\∀Y Z Z' h H D,bP T Y h H->cX T Y H Z Z'->W T (RO T) (m Z h) Y H (nI D) E->t D Z' H
def QG(X:Cx)(T:Tab)(E:XK)(tg:aL)(g:AV->aG->M aG):Prop:=
 ∃t,PG X tg t/\∀Y v v' Z Z' h H Q,bP T Y h H->cX T Y H Z Z'->aX T Y H v v'->W T (cX T) (g v Z h) Y H Q E->t v' Z' H Q
def eh(X:Cx)(T:Tab)(E:XK)(uo:List aL)(g:Ht->aG->M aG):Prop:=
 ∃t,mz X uo t/\∀Y vs vs' Z Z' h H Q,bP T Y h H->cX T Y H Z Z'->bF T Y H vs vs'->W T (cX T) (g vs Z h) Y H Q E->t vs' Z' H Q
def GX(m:M Out)(k:aG->M Out):M Out:=m.bind λo=>match o with
 |.nx Z=>k Z
 |.ret v=>M.ret (.ret v)
 |.brk Z=>M.ret (.brk Z)
 |.cnt Z=>M.ret (.cnt Z)
section
variable {X:Cx}{E:XK}{a b:aL}{mt:aG->M Bool}{mk:aG->M Out}{st:Stmt}{rest:YV}{g:AV->aG->M aG}{gs:Ht->aG->M aG}
theorem iU:QS X T E st (λ_=>M.bad):=⟨_,aCp,λ_ _ _ _ _ _ _ _ w=>w⟩
theorem aIi:vX X T E [] (λZ=>M.ret (.nx Z)):=⟨_,aCy,λc Z a h H D R S w=>W.here (b:=jR.nx a) w R S⟩
theorem aIh(h1:QS X T E st ms)(h2:vX X T E rest mk):vX X T E (st::rest) (λZ=>GX (ms Z) mk):=by
 obtain⟨t,p,r⟩:=h1;obtain⟨u,q,s⟩:=h2;refine⟨_,aCx p q,λj Z g h H D R S w=>r j Z g h H _ R S (W.bind w λi o d h1 H1 l e b f=>?_)⟩;cases o with
 |nx c=>cases d with
  |nx a=>exact s i c a h1 H1 D e b f|_=>exact b.elim
 |ret v=>cases d with
  |ret k=>exact(W.here (Q:=nI D) f e b:D.rt k H1)|_=>exact b.elim
 |brk c=>cases d with
  |brk a=>exact(W.here (Q:=nI D) f e b:D.bk a H1)|_=>exact b.elim
 |cnt c=>cases d with
  |cnt a=>exact(W.here (Q:=nI D) f e b:D.ct a H1)|_=>exact b.elim
theorem aIb:QS X T E (.Pass pos) (λZ=>M.ret (.nx Z)):=⟨_,aCr,λc Z a h H D R S w=>W.here (b:=jR.nx a) w R S⟩
theorem aHt:QS X T E (.Break pos) (λZ=>M.ret (.brk Z)):=⟨_,aCi,λc Z a h H D R S w=>W.here (b:=jR.brk a) w R S⟩
theorem aHu:QS X T E (.Continue pos) (λZ=>M.ret (.cnt Z)):=⟨_,aCj,λc Z a h H D R S w=>W.here (b:=jR.cnt a) w R S⟩
theorem aHv(he:QE X T E e m)(hs:bW e=aB)(hlc:uJ e=aH):QS X T E (.Expr e pos) (λZ=>(m Z).bind λ_=>M.ret (.nx Z)):=by obtain⟨t,p,r⟩:=he;exact⟨_,aCk p (HA hs hlc),λc Z a h H D R S w=>r c Z a h H _ R S (W.bind w λd x j h1 H1 f g k i=>W.here (b:=jR.nx a) i g (S.ext f))⟩
theorem aIc(he:QE X T E e m):QS X T E (.Return (aA e) pos) (λZ=>(m Z).bind λv=>M.ret (.ret v)):=by obtain⟨t,p,r⟩:=he;exact⟨_,aCs p,λc Z a h H D R S w=>r c Z a h H _ R S (W.bind w λd x f h1 H1 k g i j=>W.here (b:=jR.ret f) j g i)⟩
theorem aIe:QS X T E (.Return aD pos) (λ_=>M.ret (.ret .aE)):=⟨_,aCt,λc d a h H D R S w=>W.here (b:=jR.ret .aE) w R .aE⟩
theorem aHz(hc:QT X T E c mt)(ha:vX X T E sts ms)(hb:vX X T E rest mk):QS X T E (.If c sts rest pos) (λZ=>Ae (mt Z) (ms Z) (mk Z)):=by
 obtain⟨p,pc,rc⟩:=hc;obtain⟨q,pa,j⟩:=ha;obtain⟨tb,k,l⟩:=hb;refine⟨_,aCo pc pa k,λm Z a h H D R S w=>rc m Z a h H _ R S (W.bind w λb d n h1 H1 f g o i=>?_)⟩;have e:=o;subst e;cases d with
 |true=>exact j b Z a h1 H1 D g (S.ext f) i|false=>exact l b Z a h1 H1 D g (S.ext f) i
theorem uR:QG X T E tg (λ_ _=>M.bad):=⟨λ_ _ _ _=>False,λ_ _ _ _ _ _ _ _ _ h=>h.elim,λ_ _ _ _ _ _ _ _ _ _ _ w=>w⟩
theorem Mf{i:Nat}{x:Str}(hN:X.N.Nodup)(hi:X.N[i]?=aA x)(hx:vV X.env.scope x)(hf:X.fn x=aB\/X.env.scope.names.lookup x=aA .local):QG X T E (.Name x pos) (λv Z=>M.ret (Z.set i<|aA v)):=
 ⟨_,aBc hN hi hx hf,λb v c Z a h H Q R S r w=>W.here w R (S.set r i)⟩
def Iy(vs:Ht)(Z:aG):M aG:=match vs with
 |[]=>M.ret Z
 |_=>M.bad
def Iw(g:AV->aG->M aG)(gs:Ht->aG->M aG)(vs:Ht)(Z:aG):M aG:=match vs with
 |v::r=>(g v Z).bind λZ1=>gs r Z1
 |[]=>M.bad
theorem EY:eh X T E [] Iy:=⟨_,aBg,λc d a e b h H Q R S r w=>by
 cases r with
 |nil=>exact⟨rfl,W.here w R S⟩|cons _ _=>exact w.elim⟩
def sY:aL->Bool
 |.Name ..=>aB | .Tuple ..=>aB | .Subscript ..=>aB | .Attribute ..=>aB
 |_=>aH
theorem Om{t:aL}(h:sY t=aB):rQ (t::ts) env=(aH,cu t env)::rQ ts env:=by cases t<;>first|rfl|cases h
theorem EX(h1:QG X T E tg g)(h2:eh X T E es gs)(ht:sY tg=aB):eh X T E (tg::es) (Iw g gs):=by
 obtain⟨t,p,r⟩:=h1;obtain⟨u,q,s⟩:=h2;refine⟨_,aBf p q (by rw[Om ht];rfl),λe v f i b h H Q R S j w=>?_⟩;cases j with
 |nil=>cases w|cons k rs=>exact⟨_,_,rfl,r e _ _ i b h H _ R S k (W.bind w λc d a h1 H1 l m n o=>s c _ _ d a h1 H1 Q m n (rs.ext l) o)⟩
theorem YN(h:ts.all sY=aB):(rQ ts env).length=ts.length/\(rQ ts env).findIdx? (·.1)=aD:=by
 induction ts with
 |nil=>exact⟨rfl,rfl⟩|cons t ts a=>rw[jZ,bQ]at h;rw[Om h.1];obtain⟨h1,b⟩:=a h.2;refine⟨by rw[lA,lA,h1],?_⟩;rw[List.findIdx?_cons,b];rfl
end
section
variable {E:Value->aJ->Prop}
theorem Xu{it l:Addr}{items:YY}(hne:l≠it):∀(n i:Nat) (s:aJ) (Q:Hu->aJ->Prop),s.heap.IsListIter it l i->s.heap.IsList l items->i+n<=items.size ->
  (∀h',h'.IsListIter it l (i+n)->xQ it s.heap h'->Q ((items.toList.drop i).take n) { s with heap:=h' })->aS (aY prog w) A (draw (.ref it) n) Q E s
 |0,i,s,Q,hit,_,_,hQ=>by show aS _ _ (pure []) Q E s;exact bZ (by simpa using hQ s.heap hit (Heap.SameBut.refl ..))
 |n+1,i,s,Q,hit,ht,hle,hQ=>by
  have dI:i<items.size:=by omega
  show aS _ _ (tO (.ref it)>>=_) Q E s;refine aP<|OJ hit ht (x:=items[i]) (by simp[dI]) λh₁ hit₁ hs₁=>?_;refine aP<|oR<|Xu hne n (i+1) _ _ hit₁ (ht.extBut hs₁.extBut hne) (by omega) λh₂ hit₂ hs₂=>bZ ?_;have hd:items.toList.drop i=items[i]::items.toList.drop (i+1):=by simp[Dq,dI]
  have:=hQ h₂ (by rw[show i+(n+1)=i+1+n by omega];exact hit₂) (hs₁.trans hs₂);rw[hd,List.take_succ_cons]at this;exact this
theorem aOy{t:Addr}{Q:Hu->aJ->Prop}(hh:A.handled=aD)(ht:s.heap.IsList t items)
  (hQ:∀h',ke s.heap.objs.size s.heap h'->Q items.toList { s with heap:=h' }):aS (aY prog w) A (Tx (.ref t) items.size aD) Q E s:=by
 have dI:t≠s.heap.objs.size:=by obtain⟨o,ho,_⟩:=ht;exact bV<|cZ ho
 unfold Tx;refine aP ?_
 .unfold notIterableAtAll;refine aP<|OK ht.typeIs PySem.slot_list_iter.lookup ?_;refine bZ ?_;simp only[vi,if_false];refine aP<|oR<|md ht ?_;have ht0:(s.heap.push { cls:=.type "list_iterator",data:=.fields #[.ref t,.int 0 0] }).IsList t items:=ht.at λo e=>cT _ e;refine aP<|oR<|Xu dI items.size 0 _ _ ⟨_,fS _ rfl,rfl,rfl⟩ ht0 (by omega) λh₁ hit₁ hs₁=>?_;have sD:List.take items.size (List.drop 0 items.toList)=items.toList:=by rw[LC];exact vq (by simp)
  rw[sD];rw[if_neg (by simp)];have ht₁:h₁.IsList t items:=ht0.extBut hs₁.extBut dI;refine aP<|oR<|Ue hh hit₁ ht₁ (by simp) λh₂ he₂=>?_;simp only[Option.isSome_none,vi,if_false];refine bZ<|hQ h₂ λb o hb e=>he₂ b o hb (hs₁.extBut b o hb<|cT _ e)
theorem OT{x1}{t:Addr}{Q:Unit->aJ->Prop}(hh:A.handled=aD)(ht:s.heap.IsList t items)
  (hn:(rQ elts env).length=items.size)(D9:(rQ elts env).findIdx? (·.1)=aD)
  (h:∀h',ke s.heap.objs.size s.heap h'->aS (aY prog w) A (Em ((rQ elts env).map (·.2)) items.toList) Q E { s with heap:=h' }) :
  aS (aY prog w) A (cu (.Tuple elts x1 pos) env<|.ref t) Q E s:=by
 refine aP<|mm ?_;unfold unpack;rw[hn,D9];exact aP<|oR<|aOy hh ht h
end
section
variable {X:Cx}{E:XK}{a b:aL}{mt:aG->M Bool}{mk:aG->M Out}{st:Stmt}{rest:YV}{g:AV->aG->M aG}{gs:Ht->aG->M aG}
def A9(K:bI)(n:Nat)(t:yI):TG:=λv Z H Q=>∃a xs,v = .ref a/\(dN K H a xs\/eH K H a xs)/\xs.length=n/\t xs Z H Q
theorem aBd{k:Nat}{t:yI}(hc:X.calm=aB)(h:mz X es t)(hs:es.all sY=aB):PG X (.Tuple es k pos) (A9 X.K es.length t):=by
 obtain⟨hn,hst⟩:=YN (env:=X.env) hs;intro pins s Z H v u Q I r hw;obtain⟨a,xs,e1,hq,hl,hw⟩:=hw;subst e1;cases r;rcases hq with hq|hq
 .obtain⟨its,rv,ht,hz⟩:=I.list hq;refine OT (I.ok.hd hc) ht.isList (by simp[hn,<- hl,rv.length]) hst λh' hx=>?_;have I1:Inv X pins Z H { s with heap:=h' }:=I.kept (t':=s.toks) λb o e=>hx b o (bV<|cZ e) e;exact h pins _ Z H xs _ Q I1 (by simpa using rv) hw
 .obtain⟨its,rv,ht,hz⟩:=I.tuple hq;refine assign_Tuple_tuple (I.ok.hd hc) ht (by simp[hn,<- hl,rv.length]) hst λh' hx=>?_;have I1:Inv X pins Z H { s with heap:=h' }:=I.kept (t':=s.toks) λb o e=>hx b o (bV<|cZ e) e;exact h pins _ Z H xs _ Q I1 (by simpa using rv) hw
def zL(n:Nat)(gs:Ht->aG->M aG)(v:AV)(Z:aG):M aG:=λh=>match dW h v with
 |some xs=>if xs.length=n then gs xs Z h else .bad
 |none=>.bad
theorem EW(hK:X.K=T.K)(hc:X.calm=aB){k:Nat}(h:eh X T E es gs)(hs:es.all sY=aB):QG X T E (.Tuple es k pos) (zL es.length gs):=by
 obtain⟨t,p,r⟩:=h;refine⟨_,aBd hc p hs,λc v g d a h H Q R S e w=>?_⟩;unfold zL at w;cases q:dW h v with
 |none=>rw[q]at w;cases w|some xs=>
  rw[q]at w;by_cases hl:xs.length=es.length
  .simp only[if_pos hl]at w;obtain⟨p,b,rfl,f,hr⟩:=jd R e q;exact⟨p,b,rfl,hK▸f,hr.length▸hl,r c xs b d a h H Q R S hr w⟩
  .simp only[if_neg hl]at w;exact w.elim
def qC(o i v:AV):M Unit:=λh=>match o,i with
 |.ref n,.int k=>match h.ob n with
  |some (.lst aB xs)=>match iI xs.length k with
   |some j=>.ok () (h.put n<|.lst aB<|xs.set j v)
   |none=>.bad
  |_=>.bad
 |_,_=>.bad
def nZ(o i v:AV):M Unit:=λh=>match gM h o with
 |some kvs=>match o,fP i with
  |.ref n,aA k=>if kvs.length<sizeLine then .ok () (h.put n<|.aQ<|gZ kvs k v) else .bad
  |_,_=>.bad
 |none=>qC o i v h
theorem aEu(hu:X.A.units+1<cLine)(ha:QE X T E a ma)(hb:QE X T E b mb)(hs:bW b=aB):QG X T E (.Subscript a b pos) (λv Z=>(ma Z).bind λo=>(mb Z).bind λi=>(nZ o i v).bind λ_=>M.ret Z):=by
 obtain⟨ta,pa,N⟩:=ha;obtain⟨tb,O,P⟩:=hb;refine⟨_,aBe pa O (aKf hu) (by intro v;cases b<;>first|rfl|cases hs),λY v F Z U h H Q R S V w=>?_⟩;refine rD N P R S w λf x y x' y' l m ZK R2 G I J c=>?_;have s:=V.ext ZK;cases d:gM l x with
 |some B=>
  refine .inr ?_;obtain⟨n,a,us,rfl,q,o,rfl,g,r⟩:=wN R2 G d;cases k:fP y with
  |none=>simp only[M.bind,nZ,d,k]at c;cases c|some ZC=>
   by_cases C:B.length<sizeLine
   .simp only[M.bind,nZ,d,k,if_pos C]at c;have ex:Ext f m f (bG m a<|.dK<|putK us ZC F):=⟨λ_ _ z=>z,λb xs z=>by
     rw[bY (qP z g nofun)];exact z,λb x u z=>by
     rw[bY (qP z g nofun)];exact z⟩
    obtain⟨D,t⟩:=R2.write o rfl rfl q g (nofun) (λ_ _ z=>by cases z) (Hc gU<|(GR r s).ext ex);refine⟨a,_,rfl,?_,W.ok c t D (J.ext t)⟩;rw[sJ I k];exact mn.k g (by rw[<- GQ r];exact C)
   .simp only[M.bind,nZ,d,k,if_neg C]at c;cases c
 |none=>
 refine .inl ?_;have c:W T (cX T) (((qC x y v).bind λ_=>M.ret Z) l) f m Q E:=by
  have e:(nZ x y v) l=qC x y v l:=by simp only[nZ,d]
  simp only[M.bind,e]at c ⊢;exact c
 cases x with
 |ref n=>
  cases y with
  |int k=>
   cases I;cases G with
   |@ref _ p q=>
    cases o:l.ob n with
    |none=>simp only[M.bind,qC,o]at c;cases c|some u=>
     cases u with
     |lst mu xs=>
      cases mu with
      |true=>
       obtain⟨K,g1,L⟩:=R2.obj n _ p o q;cases j:iI xs.length k with
       |none=>simp only[M.bind,qC,o,j]at c;cases c|some A=>
        simp only[M.bind,qC,o,j]at c;obtain⟨D,t⟩:=R2.write (o':=.lst aB (xs.set A v)) o rfl rfl q g1 (nofun) (λ_ _ z=>by cases z) ⟨_,gU,by
         have:Ext f m f (bG m p<|.lst<|K.set A F):=⟨λ_ _ z=>z,λb xs z=>by
          rw[bY (qP z g1 nofun)];exact z,λb x u z=>by
          rw[bY (qP z g1 nofun)];exact z⟩
         exact(bF.set s A L).ext this⟩
        exact⟨p,K,k,A,rfl,rfl,g1,L.length▸j,W.ok c t D (J.ext t)⟩
      |false=>simp only[M.bind,qC,o]at c;cases c
     |aQ _=>simp only[M.bind,qC,o]at c;cases c|dD _=>simp only[M.bind,qC,o]at c;cases c|ins _ _=>simp only[M.bind,qC,o]at c;cases c
  |_=>cases c
 |_=>cases c
def swE(ts:List aL)(e:aL)(sc:gJ):Sem (Option<|YX):=ly ts e { (default:Env)with scope:=sc }
def Of{α:Type}:Sem α->Option α
 |.pure x=>aA x
 |_=>aD
theorem HM{α:Type}{s:Sem α}{x:α}(h:Of s=aA x):s=pure x:=by
 cases s with
 |pure a=>cases h;rfl|_=>cases h
theorem aHs(he:QE X T E e m)(hg:QG X T E tg g)(hs:bW e=aB)(hlc:uJ e=aH)(ht:sY tg=aB)(hw:ly [tg] e X.env=pure aD):QS X T E (.Assign [tg] e pos) (λZ=>(m Z).bind λv=>(g v Z).bind λZ1=>M.ret (.nx Z1)):=by obtain⟨A,p,r⟩:=he;obtain⟨t,q,s⟩:=hg;refine⟨_,aCg p q (HA hs hlc) hw (by rw[Om ht];rfl),λf Z a h H D R S w=>r f Z a h H _ R S (W.bind w λd x i h1 H1 j k l n=>?_)⟩;exact s d x i Z a h1 H1 _ k (S.ext j) l<|W.bind n λo u c B C F R2 y z=>W.here (b:=jR.nx c) z R2 y
abbrev gK:=Nat->AH->Option (Option AV)
def RI(T:Tab):Rl gK It:=λY H it J=>∀Y' h' H' i,Ext Y H Y' H'->bP T Y' h' H' ->
 (it i h'=aA aD->J.stop i H')/\∀v,it i h'=aA (aA v)->J.go i H'/\∀x H2,J.vh i H' x H2->∃Y2,Ext Y' H' Y2 H2/\bP T Y2 h' H2/\aX T Y2 H2 v x
def QI(X:Cx)(T:Tab)(E:XK)(tg cU:aL)(mi:aG->M gK):Prop:=
 ∃wi,PI X tg cU wi/\∀Y Z Z' h H R,bP T Y h H->cX T Y H Z Z'->W T (RI T) (mi Z h) Y H R E->wi Z' H R
def kG(it:gK)(g:AV->aG->M aG)(body:aG->M Out):Nat->Nat->aG->M Out
 |0,_,_=>M.bad
 |f+1,i,Z=>λh=>match it i h with
  |none=>.bad
  |some aD=>.ok (.nx Z) h
  |some (aA v)=>((g v Z).bind λZ1=>(body Z1).bind λo=>match o with
   |.nx Z2=>kG it g body f (i+1) Z2
   |.cnt Z2=>kG it g body f (i+1) Z2
   |.brk Z2=>M.ret (.nx Z2)
   |.ret v=>M.ret (.ret v)) h
theorem Ui:∃n:Nat,n=1000000:=⟨_,rfl⟩
def FU:Nat:=Ui.choose
theorem eA:FU=1000000:=Ui.choose_spec
theorem aHy{cU:aL}{mi:aG->M gK}(hp:vx (aY X.prog X.w) X.A X.env X.xe)(hc:X.calm=aB)(hi:QI X T E tg cU mi)(hg:QG X T E tg g)(hb:vX X T E sts ms)(hs:bW cU=aB) :
  QS X T E (.For tg cU sts [] pos) (λZ=>(mi Z).bind λit=>kG it g ms FU 0 Z):=by
 obtain⟨wi,pi,ri⟩:=hi;obtain⟨t,q,s⟩:=hg;obtain⟨u,pb,rb⟩:=hb;refine⟨_,aCn hp hc pi q pb (λx=>Nv hs),λO B C h0 H0 D R0 Y w0=>ri O B C h0 H0 _ R0 Y (W.bind w0 λr it J h1 H1 e1 R1 ZD w1=>?_)⟩;refine⟨λi m j H=>∃A Z h,Ext r H1 A H/\bP T A h H/\cX T A H Z j/\W T (RO T) (kG it g ms m i Z h) A H (nI D) E,⟨FU,r,B,h1,.refl,R1,Y.ext e1,w1⟩,?_⟩;rintro i m j H ⟨A,Z,h,e,R,S,w⟩
 cases m with
 |zero=>cases w|succ f=>
  simp only[kG]at w;cases d:it i h with
  |none=>rw[d]at w;cases w|some o=>
   cases o with
   |none=>rw[d]at w;exact .inl ⟨(ZD A h H i e R).1 d,W.here (b:=jR.nx j) w R S⟩
   |some v=>
    rw[d]at w;obtain⟨go,yl⟩:=(ZD A h H i e R).2 v d;refine .inr ⟨go,λl n=>∃c F h2,Ext r H1 c n/\bP T c h2 n/\cX T c n F l/\W T (RO T) (kG it g ms f (i+1) F h2) c n (nI D) E,λl n z=>⟨f,cN f,z⟩,λx n y=>?_⟩;obtain⟨c,P,R2,rv⟩:=yl x n y;refine s c v x Z j h n _ R2 (S.ext P) rv<|W.bind (w.ext P) λU V G h3 H3 e3 R3 S3 w3=>?_;refine rb U V G h3 H3 _ R3 S3<|W.bind w3 λI o K h4 H4 e4 L p N=>?_;have eE:=((e.trans P).trans e3).trans e4;cases o with
    |nx k=>cases K with
     |nx a=>exact⟨I,k,h4,eE,L,p,N⟩|_=>cases p
    |cnt k=>cases K with
     |cnt a=>exact⟨I,k,h4,eE,L,p,N⟩|_=>cases p
    |brk k=>cases K with
     |brk a=>exact(W.here (b:=jR.nx a) N L p:D.nx a H4)|_=>cases p
    |ret v=>cases K with
     |ret v'=>exact(W.here (Q:=nI D) N L p:D.rt v' H4)|_=>cases p
def vF(c:aG->M Bool)(body:aG->M Out):Nat->aG->M Out
 |0,_=>M.bad
 |f+1,Z=>(c Z).bind λb=>if b=aB then((body Z).bind λo=>match o with
  |.nx Z2=>vF c body f Z2
  |.cnt Z2=>vF c body f Z2
  |.brk Z2=>M.ret (.nx Z2)
  |.ret v=>M.ret (.ret v)) else M.ret (.nx Z)
theorem aIg(hp:vx (aY X.prog X.w) X.A X.env X.xe)(hc:QT X T E c mt)(hb:vX X T E sts ms):QS X T E (.While c sts [] pos) (λZ=>vF mt ms FU Z):=by
 obtain⟨tc,pc,rc⟩:=hc;obtain⟨u,M,N⟩:=hb;refine⟨_,aCw hp pc M,λx y C h0 H0 D O P U=>?_⟩;refine⟨λm e H=>∃l Z h,bP T l h H/\cX T l H Z e/\W T (RO T) (vF mt ms m Z h) l H (nI D) E,⟨FU,x,y,h0,O,P,U⟩,?_⟩;rintro m e H ⟨l,Z,h,R,S,w⟩
 cases m with
 |zero=>cases w|succ f=>
  refine rc l Z e h H _ R S<|W.bind w λA d V h1 H1 F G Y I=>?_;have B:=Y;subst B;cases d with
  |false=>exact(W.here (b:=jR.nx e) I G (S.ext F):D.nx e H1)|true=>
   refine⟨λi q=>∃k n J,bP T k J q/\cX T k q n i/\W T (RO T) (vF mt ms f n J) k q (nI D) E,λi q z=>⟨f,cN f,z⟩,?_⟩;refine N A Z e h1 H1 _ G (S.ext F)<|W.bind I λp o r K L e4 s j t=>?_;cases o with
   |nx g=>cases r with
    |nx a=>exact⟨p,g,K,s,j,t⟩|_=>exact j.elim
   |cnt g=>cases r with
    |cnt a=>exact⟨p,g,K,s,j,t⟩|_=>exact j.elim
   |brk g=>cases r with
    |brk a=>exact(W.here (b:=jR.nx a) t s j:D.nx a L)|_=>exact j.elim
   |ret v=>cases r with
    |ret ZE=>exact(W.here (Q:=nI D) t s j:D.rt ZE L)|_=>exact j.elim
end
section
variable {E:Value->aJ->Prop}
theorem aDd{t:Addr}{i:Nat}{x:Value}{Q:Value->aJ->Prop}(hit:s.heap.IsTupleIter it t i)(ht:s.heap.IsTuple t items)(hx:items[i]?=aA x)
  (hQ:∀h',h'.IsTupleIter it t (i+1)->xQ it s.heap h'->Q x { s with heap:=h' }):aS (aY prog w) A (rG<|.ref it) Q E s:=by
 obtain⟨o,a,d,hd⟩:=id hit;obtain⟨ol,b,_,nl,c⟩:=ht;refine aP<|dn hit.typeIs xP<|yB xP hit.typeIs Dk ?_<|Dj _;show aS _ _ (tN (.ref it) 0>>=_) _ _ s;refine aP<|kP a hd rfl ?_;refine aP<|kP a hd rfl ?_;refine aP<|nS b c ?_;simp only[tE,hx];exact aP<|Ez a hd (by simp)<|bZ ⟨x,rfl,bZ (hQ _ (⟨_,vj _ a (MN<|Dz hd _),(MM ..).trans d,by rw[Dz hd];simp[yA]⟩) (Dn ..))⟩
theorem aDe{t:Addr}{i:Nat}{Q:Value->aJ->Prop}(hh:A.handled=aD)(hit:s.heap.IsTupleIter it t i)(ht:s.heap.IsTuple t items)(hx:items[i]?=aD)
  (hE:∀h' e,ke it s.heap h'->(∃o,h'.get? e=aA o/\o.cls = .type "StopIteration")->E (.ref e) { s with heap:=h' }):aS (aY prog w) A (rG<|.ref it) Q E s:=by
 obtain⟨o,ho,hc,hd⟩:=id hit;obtain⟨ol,hol,_,nl,hdl⟩:=ht;refine aP<|dn hit.typeIs xP<|yB xP hit.typeIs Dk ?_<|Dj _;show aS _ _ (tN (.ref it) 0>>=_) _ _ s;refine aP<|kP ho hd rfl ?_;refine aP<|kP ho hd rfl ?_;refine aP<|nS hol hdl ?_;simp only[tE,hx];refine aP<|mf<|aP<|Ez ho hd (by simp) ?_;refine aP ?_;refine aP<|tQ ?_ (by size_fits);refine aP<|Ud (by first|rfl|(rfl)) ?_;refine tQ ?_ (by size_fits);refine aP<|OD ?_;first|rw[show A.in1.handled=aD from hh] | rw[hh]
 exact aP<|bZ<|wpAny_throw<|hE _ _ (((Dn ..).extBut.push _).push _) ⟨_,fS _ rfl,rfl⟩
end
structure jB(prog:cB)(w:bR)(A:cJ)(it l:Addr)(S:Nat->bH->Prop)(items:YY):Prop where
 keep:∀k h h',S k h->(∀b,b=it\/b=l->∀o,h.get? b=aA o->h'.get? b=aA o)->S k h'
 live:∀k h,S k h->∃o,h.get? it=aA o/\o.cls ≠ .type "zip"/\(∀v,o.data ≠ .cell v)
 item:∀k x (s:aJ) (Q:Value->aJ->Prop) (E:Value->aJ->Prop),S k s.heap->items[k]?=aA x->(∀h',S (k+1) h'->xQ it s.heap h'->Q x { s with heap:=h' })->aS (aY prog w) A (rG<|.ref it) Q E s
 done:∀k (s:aJ) (Q:Value->aJ->Prop) (E:Value->aJ->Prop),S k s.heap->items[k]?=aD->(∀h' e,ke it s.heap h'->(∃o,h'.get? e=aA o/\o.cls = .type "StopIteration")->E (.ref e) { s with heap:=h' })->aS (aY prog w) A (rG<|.ref it) Q E s
theorem jB.list(hh:A.handled=aD)(hne:l≠it)(items:YY):jB prog w A it l (λk h=>h.IsListIter it l k/\h.IsList l items) items where
 keep:=λk h d st f=>⟨st.1.at λo e=>f it (.inl rfl) o e,st.2.at λo e=>f l (.inr rfl) o e⟩
 live:=λk h st=>let ⟨o,g,i,hd⟩:=st.1;⟨o,g,by rw[i];decide,λv z=>by rw[hd]at z;cases z⟩
 item:=λk x s Q E st c j=>wpAny_nextOf_list_item st.1 st.2 c λd a b=>j d ⟨a,st.2.extBut b.extBut hne⟩ b
 done:=λk s Q E st c m=>OG hh st.1 st.2 c m
theorem jB.tuple(hh:A.handled=aD)(hne:l≠it)(items:YY):jB prog w A it l (λk h=>h.IsTupleIter it l k/\h.IsTuple l items) items where
 keep:=λk h d st f=>⟨st.1.at λo e=>f it (.inl rfl) o e,let ⟨o,e,r⟩:=st.2;⟨o,f l (.inr rfl) o e,r⟩⟩
 live:=λk h st=>let ⟨o,g,i,hd⟩:=st.1;⟨o,g,by rw[i];decide,λv z=>by rw[hd]at z;cases z⟩
 item:=λk x s Q E st c j=>aDd st.1 st.2 c λd a b=>j d ⟨a,let ⟨o,e,r⟩:=st.2;⟨o,b.extBut _ _ hne e,r⟩⟩ b
 done:=λk s Q E st c m=>aDe hh st.1 st.2 c m
section
variable {E:Value->aJ->Prop}{TI TO:Addr}{xs ys:YY}{k:Nat}{a b x y:Value}
theorem oU(P:jB prog w A i1 l1 S1 xs){h:bH}{c:Addr}(st:S1 k h)(e:ke c h h')(n1:i1≠c)(n2:l1≠c):S1 k h':=P.keep k h h' st λb hb o q=>e b o (by rcases hb with rfl|rfl<;>assumption) q
theorem aSu{Q:Value->aJ->Prop}(D:lh z TI TO i1 i2 l1 l2)(P1:jB prog w A i1 l1 S1 xs)(P2:jB prog w A i2 l2 S2 ys)(hz:mE s.heap z TI TO .none)(hTI:hV s.heap TI (.ref i1) (.ref i2))(hTO:hV s.heap TO a b)
  (h1:S1 k s.heap) (h2:S2 k s.heap) (hx:xs[k]?=aA x) (hy:ys[k]?=aA y)
  (hQ:∀h',mE h' z TI TO (yA s.heap.objs.size)->hV h' TO x y->S1 (k+1) h'->S2 (k+1) h'->hV h' s.heap.objs.size x y ->
   (∀c o,c≠z->c≠TO->c≠i1->c≠i2->s.heap.get? c=aA o->h'.get? c=aA o)->Q (.ref s.heap.objs.size) { s with heap:=h' }) :
  aS (aY prog w) A (Builtin.«zip.__next__» ⟨[.ref z],[]⟩) (λfin s'=>∃v,fin = .done (.ret v)/\Q v s') E s:=by
 show aS _ _ (tN (.ref z) 2>>=_) _ _ _;refine aP<|kP hz rfl (x:=.bool aH) rfl ?_;show aS _ _ (tN (.ref z) 3>>=_) _ _ _;refine aP<|kP hz rfl (x:=.ref TI) rfl<|aP<|nS hTI rfl ?_;show aS _ _ (Di (.ref z)>>=_) _ _ _;refine aP ?_;unfold Di;refine aP<|kP hz rfl (x:=.none) rfl<|bZ ?_;simp only[if_true];refine aP<|mf<|aP<|kP hz rfl (x:=.ref TO) rfl<|aP<|mj hz (by simp) λha za sa=>?_;replace za:mE ha z TI TO .ellipsis:=za
 refine aP ?_;simp only[MD,ME,Qn,LL];refine aP<|aP<|Ey ?_;show aS _ _ (rG (.ref i1)>>=_) _ _ _;refine aP<|P1.item k x _ _ _ (oU P1 h1 sa.extBut D.i1z D.l1z) hx λhb pb sb=>bZ ?_;have tb:hV hb TO a b:=sb.extBut _ _ D.TOi1 (sa.extBut _ _ D.TOz hTO);refine aP<|nS tb rfl<|aP<|Uh tb λhc tc sc=>?_;replace tc:hV hc TO x b:=tc
 refine aP<|dq<|bZ<|aP<|aP<|Ey ?_;show aS _ _ (rG (.ref i2)>>=_) _ _ _;refine aP<|P2.item k y _ _ _ (oU P2 (oU P2 (oU P2 h2 sa.extBut D.i2z D.l2z) sb.extBut D.i12.symm D.l2i1) sc.extBut D.TOi2.symm D.l2TO) hy λhd pd sd=>bZ ?_;have td:hV hd TO x b:=sd.extBut _ _ D.TOi2 tc;refine aP<|nS td rfl<|aP<|Uh td λhe te se=>?_;replace te:hV he TO x y:=te
 refine aP<|dq<|bZ<|bZ<|aP<|nS te rfl<|aP<|wpAny_newTuple ?_;have size:he.objs.size=s.heap.objs.size:=by rw[se.1,sd.1,sc.1,sb.1,sa.1]
 have ze:mE he z TI TO .ellipsis:=se.extBut _ _ D.TOz.symm (sd.extBut _ _ D.i2z.symm<|sc.extBut _ _ D.TOz.symm<|sb.extBut _ _ D.i1z.symm za);have kept:∀c o,c≠z->c≠TO->c≠i1->c≠i2->s.heap.get? c=aA o->he.get? c=aA o:=λc o n1 n2 n3 n4 e=>se.extBut _ _ n2 (sd.extBut _ _ n4<|sc.extBut _ _ n2<|sb.extBut _ _ n3<|sa.extBut _ _ n1 e);have pe:S1 (k+1) he:=oU P1 (oU P1 (oU P1 pb sc.extBut D.TOi1.symm D.l1TO) sd.extBut D.i12 D.l1i2) se.extBut D.TOi1.symm D.l1TO;have re:S2 (k+1) he:=oU P2 pd se.extBut D.TOi2.symm D.l2TO;have zlt:z<he.objs.size:=cZ ze;show aS _ _ (KD (.ref z) (.ref he.objs.size)>>=_) _ _ _;refine aP ?_;unfold KD;have zf:mE (he.push { cls:=.type "tuple",data:=.seq #[x,y] }) z TI TO .ellipsis:=cT _ ze;refine aP<|mj zf (by simp) λhg zg sg=>?_;replace zg:mE hg z TI TO (yA he.objs.size):=zg
 refine mj zg (by simp) λhh zh sh=>?_;replace zh:mE hh z TI TO (yA he.objs.size):=zh
 have up:∀c o,c≠z->he.get? c=aA o->hh.get? c=aA o:=λc o n1 e=>sh.extBut _ _ n1 (sg.extBut _ _ n1<|cT _ e);have new:hV hh he.objs.size x y:=sh.extBut _ _ (lD zlt) (sg.extBut _ _ (lD zlt)<|fS _ rfl);rw[size]at zh new;refine bZ ⟨_,rfl,?_⟩;show Q (.ref he.objs.size) _;rw[size];exact hQ hh zh (up _ _ D.TOz te) (P1.keep _ _ _ pe λc hc o e=>up c o (by rcases hc with rfl|rfl;exact D.i1z;exact D.l1z) e) (P2.keep _ _ _ re λc hc o e=>up c o (by rcases hc with rfl|rfl;exact D.i2z;exact D.l2z) e) new
  λc o n1 n2 n3 n4 e=>up c o n1 (kept c o n1 n2 n3 n4 e)
theorem aSv{Q:Fin->aJ->Prop}(D:lh z TI TO i1 i2 l1 l2)(P1:jB prog w A i1 l1 S1 xs)(P2:jB prog w A i2 l2 S2 ys)(hz:mE s.heap z TI TO .none)(hTI:hV s.heap TI (.ref i1) (.ref i2))(hTO:hV s.heap TO a b)
  (h1:S1 k s.heap) (h2:S2 k s.heap) (qo:xs[k]?=aD\/ys[k]?=aD)
  (hE:∀h' e,(∀c o,c≠z->c≠TO->c≠i1->c≠i2->s.heap.get? c=aA o->h'.get? c=aA o)->(∃o,h'.get? e=aA o/\o.cls = .type "StopIteration")->E (.ref e) { s with heap:=h' }) :
  aS (aY prog w) A (Builtin.«zip.__next__» ⟨[.ref z],[]⟩) Q E s:=by
 show aS _ _ (tN (.ref z) 2>>=_) _ _ _;refine aP<|kP hz rfl (x:=.bool aH) rfl ?_;show aS _ _ (tN (.ref z) 3>>=_) _ _ _;refine aP<|kP hz rfl (x:=.ref TI) rfl<|aP<|nS hTI rfl ?_;show aS _ _ (Di (.ref z)>>=_) _ _ _;refine aP ?_;unfold Di;refine aP<|kP hz rfl (x:=.none) rfl<|bZ ?_;simp only[if_true];refine aP<|mf<|aP<|kP hz rfl (x:=.ref TO) rfl<|aP<|mj hz (by simp) λha za sa=>?_;replace za:mE ha z TI TO .ellipsis:=za
 refine aP ?_;simp only[MD,ME,Qn,LL];refine aP<|aP<|Ey ?_;show aS _ _ (rG (.ref i1)>>=_) _ _ _;have sa1:=oU P1 h1 sa.extBut D.i1z D.l1z;cases hx:xs[k]? with
 |none=>
  refine aP<|P1.done k _ _ _ sa1 hx λhb e sb he=>?_;obtain⟨oe,hoe,hce⟩:=he;have zb:mE hb z TI TO .ellipsis:=sb _ _ D.i1z.symm za;have ne:e≠z:=λq=>by subst q;rw[zb]at hoe;cases hoe;simp at hce
  exact mj zb (by simp) λhc _ sc=>hE hc e (λc o n1 _ n3 _ q=>sc.extBut _ _ n1 (sb _ _ n3<|sa.extBut _ _ n1 q)) ⟨oe,sc.extBut _ _ ne hoe,hce⟩
 |some x=>
  have hy:ys[k]?=aD:=by rcases qo with q|q;rw[hx]at q;cases q;exact q
  refine aP<|P1.item k x _ _ _ sa1 hx λhb pb sb=>bZ ?_;have tb:hV hb TO a b:=sb.extBut _ _ D.TOi1 (sa.extBut _ _ D.TOz hTO);refine aP<|nS tb rfl<|aP<|Uh tb λhc tc sc=>?_;refine aP<|dq<|bZ<|aP<|aP<|Ey ?_;show aS _ _ (rG (.ref i2)>>=_) _ _ _;refine aP<|P2.done k _ _ _ (oU P2 (oU P2 (oU P2 h2 sa.extBut D.i2z D.l2z) sb.extBut D.i12.symm D.l2i1) sc.extBut D.TOi2.symm D.l2TO) hy λhd e sd he=>?_;obtain⟨oe,hoe,hce⟩:=he;have zd:mE hd z TI TO .ellipsis:=sd _ _ D.i2z.symm (sc.extBut _ _ D.TOz.symm<|sb.extBut _ _ D.i1z.symm za);have ne:e≠z:=λq=>by subst q;rw[zd]at hoe;cases hoe;simp at hce
  exact mj zd (by simp) λhf _ sf=>hE hf e (λc o n1 n2 n3 n4 q=>sf.extBut _ _ n1 (sd _ _ n4<|sc.extBut _ _ n2<|sb.extBut _ _ n3<|sa.extBut _ _ n1 q)) ⟨oe,sf.extBut _ _ ne hoe,hce⟩
end
def kD(kd:Bool)(h:bH)(it l:Addr)(k:Nat):Prop:=if kd=aB then h.IsListIter it l k else h.IsTupleIter it l k
def iN(kd:Bool)(h:bH)(l:Addr)(items:YY):Prop:=if kd=aB then h.IsList l items else h.IsTuple l items
def lH(kd:Bool)(K:bI)(H:Hp)(a:Addr)(xs:Hw):Prop:=if kd=aB then dN K H a xs else eH K H a xs
def Gy(kd:Bool):String:=if kd=aB then "list_iterator" else "tuple_iterator"
theorem kD.at{kd:Bool}{h h':bH}{it l:Addr}{k:Nat}(st:kD kd h it l k)(f:∀o,h.get? it=aA o->h'.get? it=aA o):kD kd h' it l k:=by
 cases kd with
 |true=>exact Heap.IsListIter.at st f|false=>exact Heap.IsTupleIter.at st f
theorem kD.live{kd:Bool}{h:bH}{k:Nat}(st:kD kd h it l k):∃o,h.get? it=aA o/\∀v,o.data ≠ .cell v:=by
 cases kd with
 |true=>obtain⟨o,a,b,hd⟩:=(st);exact⟨o,a,λv z=>by rw[hd]at z;cases z⟩|false=>obtain⟨o,a,b,hd⟩:=(st);exact⟨o,a,λv z=>by rw[hd]at z;cases z⟩
theorem jB.kd{prog:cB}{w:bR}{A:cJ}(hh:A.handled=aD)(kd:Bool){it l:Addr}(hne:l≠it)(items:YY):jB prog w A it l (λk h=>kD kd h it l k/\iN kd h l items) items:=by
 cases kd with
 |true=>exact jB.list hh hne items|false=>exact jB.tuple hh hne items
theorem AZ(kd:Bool)(h:bH)(l:Addr):kD kd (h.push { cls:=.type (Gy kd),data:=.fields #[.ref l,.int 0 0] }) h.objs.size l 0:=by
 cases kd with
 |true=>exact⟨_,fS _ rfl,rfl,rfl⟩|false=>exact⟨_,fS _ rfl,rfl,rfl⟩
theorem BB{E:Value->aJ->Prop}(kd:Bool){Q:Value->aJ->Prop}(hl:iN kd s.heap l items)
  (hQ:Q (.ref s.heap.objs.size) { s with heap:=s.heap.push { cls:=.type (Gy kd),data:=.fields #[.ref l,.int 0 0] } }):aS (aY prog w) A (wj<|.ref l) Q E s:=by
 cases kd with
 |true=>exact md hl hQ|false=>exact wq hl hQ
theorem iN.push{kd:Bool}{h:bH}{l:Addr}{items:YY}(hl:iN kd h l items)(o:Obj):iN kd (h.push o) l items:=by
 cases kd with
 |true=>exact Heap.IsList.push hl o|false=>obtain⟨ob,e,r⟩:=(hl);exact⟨ob,cT _ e,r⟩
noncomputable abbrev zA(kd:Bool)(h:bH)(l:Addr):bH:=h.push { cls:=.type (Gy kd),data:=.fields #[.ref l,.int 0 0] }
noncomputable abbrev zB(cR dA:Bool)(h:bH)(l1 l2:Addr):bH:=zA dA (zA cR h l1) l2
noncomputable abbrev zC(cR dA:Bool)(h:bH)(l1 l2:Addr):bH:=(zB cR dA h l1 l2).push { cls:=.type "tuple",data:=.seq #[.ref h.objs.size,.ref (zA cR h l1).objs.size] }
noncomputable abbrev zD(cR dA:Bool)(h:bH)(l1 l2:Addr):bH:=(zC cR dA h l1 l2).push { cls:=.type "tuple",data:=.seq #[.none,.none] }
noncomputable abbrev zE(cR dA:Bool)(h:bH)(l1 l2:Addr):bH:=(zD cR dA h l1 l2).push { cls:=.type "zip",data:=.fields #[.none,.bool aH,.bool aH,.ref (zB cR dA h l1 l2).objs.size,.ref (zC cR dA h l1 l2).objs.size] }
theorem aSw(cR dA:Bool)(l1 l2:Addr)(xs ys:YY) :
  Meets (Builtin.«zip.__new__» ⟨[.type "zip",.ref l1,.ref l2],[]⟩) (λ_ R s=>iN cR s.heap l1 xs/\iN dA s.heap l2 ys/\R (.ok<|.ret<|.ref (zD cR dA s.heap l1 l2).objs.size) { s with heap:=zE cR dA s.heap l1 l2 }):=
 .of_wp λprog w A R s h=>by
  obtain⟨hp,g,d,tk,os⟩:=s;obtain⟨hl1,hl2,h⟩:=h;have aVs:=sub_zip;have hL1:iN cR (Tb ⟨hp,g,d,tk,os⟩) l1 xs:=hl1;have hL2:iN dA (Tb ⟨zA cR hp l1,g,d,tk,os⟩) l2 ys:=iN.push hl2 _;wp_walk using BB cR hL1,BB dA hL2
  exact⟨_,rfl,h⟩
section
variable {E:Value->aJ->Prop}
theorem WL(cR dA:Bool){xs ys:YY}{Q:Value->aJ->Prop}(hl1:iN cR s.heap l1 xs)(hl2:iN dA s.heap l2 ys)
  (h:∀h',mE h' (s.heap.objs.size+4) (s.heap.objs.size+2) (s.heap.objs.size+3) .none->hV h' (s.heap.objs.size+2) (.ref s.heap.objs.size) (.ref<|s.heap.objs.size+1) ->
   hV h' (s.heap.objs.size+3) .none .none->kD cR h' s.heap.objs.size l1 0->kD dA h' (s.heap.objs.size+1) l2 0 ->
   (∀c o,s.heap.get? c=aA o->h'.get? c=aA o)->Q (.ref<|s.heap.objs.size+4) { s with heap:=h' }):aS (aY prog w) A (call (.type "zip") [.ref l1,.ref l2]) Q E s:=by
 refine NR F.called_zip (by decide) (F.typeCall_zip_2 _ _) (F.newCall_zip_2 _ _) (λobj=>F.args_object_init_3 obj _ _) F.entry_zip_new (aSw cR dA l1 l2 xs ys) ⟨hl1,hl2,?_⟩;have z1:(zA cR s.heap l1).objs.size=s.heap.objs.size+1:=rH ..;have z2:(zB cR dA s.heap l1 l2).objs.size=s.heap.objs.size+2:=by rw[rH,z1]
 have z3:(zC cR dA s.heap l1 l2).objs.size=s.heap.objs.size+3:=by rw[rH,z2]
 have z4:(zD cR dA s.heap l1 l2).objs.size=s.heap.objs.size+4:=by rw[rH,z3]
 have g5:(zE cR dA s.heap l1 l2).get? (zD cR dA s.heap l1 l2).objs.size=aA _:=fS _ rfl;have g4:(zE cR dA s.heap l1 l2).get? (zC cR dA s.heap l1 l2).objs.size=aA _:=cT _ (fS _ rfl);have g3:(zE cR dA s.heap l1 l2).get? (zB cR dA s.heap l1 l2).objs.size=aA _:=cT _ (cT _<|fS _ rfl);have up:∀c o,(zB cR dA s.heap l1 l2).get? c=aA o->(zE cR dA s.heap l1 l2).get? c=aA o:=λc o e=>cT _ (cT _<|cT _ e);have i2:kD dA (zE cR dA s.heap l1 l2) (zA cR s.heap l1).objs.size l2 0:=(AZ dA (zA cR s.heap l1) l2).at λo e=>up _ o e;have i1:kD cR (zE cR dA s.heap l1 l2) s.heap.objs.size l1 0:=(AZ cR s.heap l1).at λo e=>up _ o (cT _ e);show _/\_;rw[z2,z3,z4]at g5;rw[z1,z2]at g3;rw[z3]at g4;rw[z1]at i2;rw[z4];exact⟨⟨_,g5,rfl⟩,h _ g5 g3 g4 i1 i2 λc o e=>up c o (cT _<|cT _ e)⟩
variable {TI TO:Addr}{xs ys:YY}{k:Nat}{a b x y:Value}
theorem Q4{Q:Hz->aJ->Prop}(D:lh z TI TO i1 i2 l1 l2)(P1:jB prog w A.in1 i1 l1 S1 xs)(P2:jB prog w A.in1 i2 l2 S2 ys)(hz:mE s.heap z TI TO .none)(hTI:hV s.heap TI (.ref i1) (.ref i2))(hTO:hV s.heap TO a b)
  (h1:S1 k s.heap) (h2:S2 k s.heap) (hx:xs[k]?=aA x) (hy:ys[k]?=aA y)
  (hQ:∀h',mE h' z TI TO (yA s.heap.objs.size)->hV h' TO x y->S1 (k+1) h'->S2 (k+1) h'->hV h' s.heap.objs.size x y ->
   (∀c o,c≠z->c≠TO->c≠i1->c≠i2->s.heap.get? c=aA o->h'.get? c=aA o)->Q (aA<|.ref s.heap.objs.size) { s with heap:=h' }):aS (aY prog w) A (tO<|.ref z) Q E s:=by
 have d:s.TypeIs (.ref z) "zip":=⟨_,hz,rfl⟩;exact aP (OB (dn d Dl
  (yB Dl d KL (aSu D P1 P2 hz hTI hTO h1 h2 hx hy λh' a1 a2 e f g h=>bZ (hQ h' a1 a2 e f g h))<|KJ _)))
theorem YO{Q:Hz->aJ->Prop}(D:lh z TI TO i1 i2 l1 l2)(P1:jB prog w A.in1 i1 l1 S1 xs)(P2:jB prog w A.in1 i2 l2 S2 ys)(hz:mE s.heap z TI TO .none)(hTI:hV s.heap TI (.ref i1) (.ref i2))(hTO:hV s.heap TO a b)
  (h1:S1 k s.heap) (h2:S2 k s.heap) (qo:xs[k]?=aD\/ys[k]?=aD)
  (hQ:∀h',(∀c o,c≠z->c≠TO->c≠i1->c≠i2->s.heap.get? c=aA o->h'.get? c=aA o)->Q aD { s with heap:=h' }):aS (aY prog w) A (tO<|.ref z) Q E s:=by
 have d:s.TypeIs (.ref z) "zip":=⟨_,hz,rfl⟩;refine aP (OB (dn d Dl
  (yB Dl d KL (aSv D P1 P2 hz hTI hTO h1 h2 qo λh' e f he=>?_)<|KJ _)))
 obtain⟨o,g,h⟩:=he;exact aP<|wpAny_isInstance ⟨o,g,h⟩ isSubtype_stop<|bZ<|hQ _ f
end
def jG(n:Nat):gK:=λi h=>match h.ob n with
 |some (.lst _ xs)=>aA xs[i]?
 |_=>aD
def lQ(xs:Ht):gK:=λi _=>aA xs[i]?
def rC(lo:Int)(n:Nat):gK:=λi _=>aA (if i<n then aA (.int<|lo+i) else aD)
def lJ(it:gK):gK:=λi h=>match it i h with
 |some (aA v)=>aA (aA<|.tup [.int i,v])
 |some aD=>aA aD
 |none=>aD
def nY(v:AV):M gK:=λh=>match v with
 |.tup xs=>.ok (lQ xs) h
 |.ref n=>match h.ob n with
  |some (.lst _ _)=>.ok (jG n) h
  |_=>.bad
 |_=>.bad
noncomputable abbrev zH:=nY
def xG(j:Int):Bool:=decide (-(2 ^ 62)<=j)&&decide (j<2 ^ 62)
def zc(xs:Ht):M gK:=λh=>match xs with
 |[.int j]=>if xG j=aB then .ok (rC 0 j.toNat) h else .bad
 |_=>.bad
def yy(v:AV):M gK:=λh=>match v with
 |.tup xs=>.ok (lJ<|lQ xs) h
 |.ref n=>match h.ob n with
  |some (.lst _ _)=>.ok (lJ<|jG n) h
  |_=>.bad
 |_=>.bad
section
variable {X:Cx}{E:XK}{a b l:aL}{tl:TE}
theorem GO{a:Addr}(q:Y[n]?=aA a):RI T Y H (jG n) (Fg T.K a):=by
 intro b g p i e R;unfold jG;cases o:g.ob n with
 |none=>exact⟨λz=>(by cases z),λv z=>(by cases z)⟩|some u=>
  cases u with
  |lst m xs=>
   obtain⟨c,h1,r⟩:=pB R o (e.pre n a q);refine⟨λz=>⟨c,h1,?_⟩,λv z=>?_⟩
   .have d:=eF z;rw[<- r.length];exact List.getElem?_eq_none_iff.mp d
   .have d:=eF z;obtain⟨y,f,h⟩:=r.get d;refine⟨⟨c,y,h1,f⟩,λx s j=>?_⟩;obtain⟨l,k⟩:=j;subst l;have:=k c h1;rw[f]at this;cases this;exact⟨b,.refl,R,h⟩
  |aQ _=>exact⟨λz=>(by cases z),λv z=>(by cases z)⟩|dD _=>exact⟨λz=>(by cases z),λv z=>(by cases z)⟩|ins _ _=>exact⟨λz=>(by cases z),λv z=>(by cases z)⟩
theorem GP{a:Addr}(hq:eH T.K H a ys)(r:bF T Y H xs ys):RI T Y H (lQ xs) (Fh T.K a):=by
 intro c m n i e R;have g:=r.ext e;have b:=e.ui hq;refine⟨λz=>⟨ys,b,?_⟩,λv z=>?_⟩
 .have d:=eF z;rw[<- r.length];exact List.getElem?_eq_none_iff.mp d
 .have d:=eF z;obtain⟨y,f,h⟩:=g.get d;refine⟨⟨ys,y,b,f⟩,λx o j=>?_⟩;obtain⟨l,k⟩:=j;subst l;have:=k ys b;rw[f]at this;cases this;exact⟨c,.refl,R,h⟩
theorem aJp{lo:Int}:RI T Y H (rC lo n) (xb lo n):=by
 intro a g h i e R;unfold rC;by_cases b:i<n
 .rw[if_pos b];refine⟨λz=>(by cases z),λv z=>⟨b,λx j c=>?_⟩⟩;cases z;obtain⟨d,f⟩:=c;subst d;subst f;exact⟨a,.refl,R,.int _⟩
 .rw[if_neg b];exact⟨λ_=>(by show n<=i;lia),λv z=>(by cases z)⟩
def E5(K:bI)(tl:TE):TI:=λZ H R=>tl Z H λx H1=>
 ∃a,x = .ref a/\(((∃xs,dN K H1 a xs)/\R (Fg K a) H1)\/((∃xs,eH K H1 a xs)/\R (Fh K a) H1))
theorem aBk(hl:PE X l tl):PI X tg l (E5 X.K tl):=by
 intro pins s g H R I h;refine bE (hl pins s g H _ I h) λv s1 i=>?_;obtain⟨x,H1,c,j,k⟩:=i;obtain⟨a,e,q⟩:=k;subst e;cases j;rcases q with⟨⟨xs,d⟩,q⟩|⟨⟨xs,d⟩,q⟩
 .obtain⟨f,m,p,n⟩:=c.list d;refine md p.isList ?_;refine⟨s1.heap.objs.size,[s1.heap.objs.size],_,_,H1,rfl,c.kept λb o e=>cT _ e,aOo a _,⟨_,fS _ rfl,rfl,rfl⟩,λb hb=>?_,q⟩;have e:b=s1.heap.objs.size:=by simpa using hb
  subst e;exact c.uB (aU _)<|c.bA.fresh<|aU _
 .obtain⟨f,m,p,n⟩:=c.tuple d;refine wq (p) ?_;refine⟨s1.heap.objs.size,[s1.heap.objs.size],_,_,H1,rfl,c.kept λb o e=>cT _ e,aOr a _,⟨_,fS _ rfl,rfl,rfl⟩,λb hb=>?_,q⟩;have e:b=s1.heap.objs.size:=by simpa using hb
  subst e;exact c.uB (aU _)<|c.bA.fresh<|aU _
theorem aj:QI X T E tg e (λ_=>M.bad):=⟨λ_ _ _=>False,λ_ _ _ _ _ _ h=>h.elim,λ_ _ _ _ _ _ _ _ w=>w⟩
theorem EZ(hK:X.K=T.K)(ha:QE X T E l m):QI X T E tg l (λZ=>(m Z).bind zH):=by
 obtain⟨tl,pl,g⟩:=ha;refine⟨_,aBk pl,λi Z c h H Q R S w=>g i Z c h H _ R S (W.bind w λj x p h1 H1 r d e b=>?_)⟩;cases x with
 |tup xs=>
  cases e with
  |tup f hr=>exact⟨_,rfl,.inr ⟨⟨_,hK▸f⟩,by rw[hK];exact W.here b d<|GP f hr⟩⟩
 |ref n=>
  cases e with
  |@ref _ a q=>
   simp only[nY]at b;cases o:h1.ob n with
   |none=>rw[o]at b;cases b|some u=>
    rw[o]at b;cases u with
    |lst mu xs=>obtain⟨k,g1,s⟩:=pB d o q;exact⟨a,rfl,.inl ⟨⟨k,hK▸g1⟩,by rw[hK];exact W.here b d<|GO q⟩⟩
    |aQ _=>cases b|dD _=>cases b|ins _ _=>cases b
 |_=>cases b
theorem aJv(h:xG j=aB):-(2 ^ 62)<=j/\j<2 ^ 62:=by simp only[xG,bQ,decide_eq_true_eq]at h;exact h
theorem aEx(hg:Gl X "range") (hm:X.mg "range"=aD) (ha:QA X T E [a] mr) (hs:bW a=aB):QI X T E tg (.Call (.Name "range" p) [a] [] pos) (λZ=>(mr Z).bind zc):=by
 obtain⟨q,pr,f⟩:=ha;refine⟨_,aBj hg hm pr (by rw[fV hs];rfl),λg Z c h H Q R S w=>f g Z c h H _ R S (W.bind w λi xs k h1 H1 r l m b=>?_)⟩;cases m with
 |nil=>cases b|cons e rs=>
  cases rs with
  |nil=>
   cases e with
   |int j=>
    simp only[zc]at b;by_cases d:xG j=aB
    .rw[if_pos d]at b;obtain⟨h1,n⟩:=aJv d;exact⟨j,rfl,h1,n,W.here b l aJp⟩
    .rw[if_neg d]at b;cases b
   |_=>exact b.elim
  |cons s o=>cases e<;>exact b.elim
def xa(kd:Bool)(K:bI)(a:Addr):It:=
 ⟨λi H=>∃xs x,lH kd K H a xs/\xs[i]?=aA x,λi H x H'=>∃T y,H T=aD/\x = .ref T/\H'=bG H T (.tup [.int i,y])/\∀xs,lH kd K H a xs->xs[i]?=aA y,λi H=>∃xs,lH kd K H a xs/\xs.length<=i⟩
theorem IJ{Z:L2.St}{ch:Hy}{Tt:Addr}{its:Hu}(I:Inv X pins Z H s)(hf:∀b∈ch,kR X pins H b)
  (k:∀b o,b∉ch->s.heap.get? b=aA o->h'.get? b=aA o)(th:∀b∈ch,∃o,h'.get? b=aA o)(hT:s.heap.objs.size<=Tt)(ht:IsTup h' Tt its.toArray)(rv:Vals ys its)(hz:ys.length<=sizeLine) :
  Inv X pins Z (bG H Tt<|.tup ys) { s with heap:=h',toks:=tk }:=by
 have hn:=I.bA.fresh hT;have a:∀b u,H b=aA u->b∉ch:=λb u e hb=>by rw[(hf b hb).1]at e;cases e
 have d:=λhb=>(hf _ hb).2.1 rfl;refine I.step (λb hb=>⟨(hf b hb).2.2.2.1,(hf b hb).2.1,(hf b hb).2.2.2.2.1,(hf b hb).2.2.2.2.2⟩) (λb o _ _ hc e _=>k b o hc e) (λb o _ _ hc e _=>⟨o.slots,k b o hc e⟩)
  (λb o _ e n=>by rw[bY (bV<|bD (cZ e) hT)];exact n) (λb o hc e=>⟨o,k b o hc e⟩)
  (λb xs e=>by rw[bY (jT e hn)];exact e) (λb o u e=>by rw[bY (jT e hn)];exact e) (λb ps e=>⟨#[],by rw[bY (jT e hn),e];simp⟩) (λm hm=>?_) (λb u e=>?_) I.bare
 .obtain⟨o,f,g,h,r⟩:=hm;exact⟨o,f,g,k _ o d h,r⟩
 .by_cases hb:b=Tt
  .subst hb;rw[gU]at e;cases e;exact⟨hz,its,rv,ht⟩
  .rw[bY hb]at e;refine(I.bA b u e).uY (λc v hc q=>k c v ?_ q) (λc q=>by rw[bY (jT q hn)];exact q) λc xs q=>by rw[bY (jT q hn)];exact q
   rcases hc with rfl|hc
   .exact a _ _ e
   .exact a _ _ hc
theorem II{Z:L2.St}{ch:Hy}(I:Inv X pins Z H s)(hf:∀b∈ch,kR X pins H b)
  (k:∀b o,b∉ch->s.heap.get? b=aA o->h'.get? b=aA o):Inv X pins Z H { s with heap:=h',toks:=tk }:=by
 have a:∀b u,H b=aA u->b∉ch:=λb u e hb=>by rw[(hf b hb).1]at e;cases e
 have d:=λhb=>(hf _ hb).2.1 rfl;refine I.step (λb hb=>⟨(hf b hb).2.2.2.1,(hf b hb).2.1,(hf b hb).2.2.2.2.1,(hf b hb).2.2.2.2.2⟩) (λb o _ _ hc e _=>k b o hc e) (λb o _ _ hc e _=>⟨o.slots,k b o hc e⟩)
  (λb o _ e n=>n) (λb o hc e=>⟨o,k b o hc e⟩) (λb xs e=>e) (λb o u e=>e) (λb ps e=>⟨#[],by rw[e];simp⟩) (λm hm=>?_) (λb u e=>?_) I.bare
 .obtain⟨o,f,g,h,r⟩:=hm;exact⟨o,f,g,k _ o d h,r⟩
 .refine(I.bA b u e).uY (λc v hc q=>k c v ?_ q) (λc q=>q) λc xs q=>q;rcases hc with rfl|hc
  .exact a _ _ e
  .exact a _ _ hc
theorem uX{Z:L2.St}{kd:Bool}{l:Addr}{xs:Hw}(I:Inv X pins Z H s)(h:lH kd X.K H l xs):∃its:Hu,Vals xs its/\iN kd s.heap l its.toArray:=by
 cases kd with
 |true=>obtain⟨its,a,p,_⟩:=I.list h;exact⟨its,a,p.isList⟩|false=>obtain⟨its,a,p,_⟩:=I.tuple h;exact⟨its,a,p⟩
theorem Oa{Z:L2.St}{kd:Bool}{l:Addr}{xs:Hw}(I:Inv X pins Z H s)(h:lH kd X.K H l xs)(h':lH kd X.K H l ys):xs=ys:=by
 cases kd with
 |true=>exact I.CA h h'|false=>exact I.IF h h'
theorem iN.at{kd:Bool}{h h':bH}{l:Addr}{items:YY}(st:iN kd h l items)(f:∀o,h.get? l=aA o->h'.get? l=aA o):iN kd h' l items:=by
 cases kd with
 |true=>exact Heap.IsList.at st f|false=>obtain⟨o,a,r⟩:=(st);exact⟨o,f _ a,r⟩
theorem YG(hh:A.handled=aD)(kd:Bool)(it l:Addr)(hne:l≠it)(items:YY):Draws prog w A it [it,l] items.size (λi v=>items[i]?=aA v) (λi h=>kD kd h it l i/\iN kd h l items):=by
 cases kd with
 |true=>exact Draws.list hh it l hne items|false=>exact YI hh it l hne items
theorem YH(hh:A.handled=aD)(kd:Bool)(it l:Addr)(items:YY)(n:Nat)(hn:items[n]?=aD):Draws prog w A it [it,l] n (λ_ _=>True) (λi h=>i=n/\kD kd h it l n/\iN kd h l items) where
 live:=λ_ _ st=>st.2.1.live.elim λo e=>⟨o,e.1⟩
 frame:=λ_ _ _ st a=>⟨st.1,st.2.1.at λo e=>a it (.head _) o e,st.2.2.at λo e=>a l (.tail _<|.head _) o e⟩
 item:=λi s Q E c st d=>absurd c (by rw[st.1];exact lC _)
 done:=λs Q E st b=>by
  cases kd with
  |true=>exact OG hh st.2.1 st.2.2 hn b|false=>exact CU hh st.2.1 st.2.2 hn b
theorem aOn{P:cB}{K:bI}{k:Nat}(kd:Bool)(a en it:Addr)(h1:en≠it)(h2:a≠en)(h3:a≠it) :
  Turn P w K (.Tuple elts k tp) (xa kd K a) [en,it] en (λi h=>(∃old,IsEnum h en it i old)/\kD kd h it a i) where
 mem:=.head _
 obj:=λi h st b hb=>by
  obtain⟨⟨old,he⟩,g⟩:=st;rcases List.mem_cons.mp hb with rfl|hb
  .exact⟨_,he,λv z=>by cases z⟩
  .cases List.mem_singleton.mp hb;exact g.live
 keep:=λi h F st k=>⟨st.1.elim λold he=>⟨old,k en (.head _) _ he⟩,st.2.at λo e=>k it (.tail _<|.head _) o e⟩
 item:=by
  intro X G hw J L i pins s V H E I B st M;subst G hw J;obtain⟨xs,x,C,D⟩:=M;obtain⟨c,N,p⟩:=uX I C;obtain⟨u,hu,Y⟩:=N.get D;have m:c.toArray[i]?=aA u:=by simpa
  have W:=WalksT.enumerateD (YG (prog:=X.prog) (w:=X.w) (A:=Around.in1 _) (I.ok.hd L) kd it a h3 c.toArray) en h1 (by simp[h1,h2.symm]) (by simp);refine W.item i s _ _ (Array.getElem?_eq_some_iff.mp m).1 ⟨st.1,st.2,p⟩ λj vals F tk Z O n d kk=>?_;obtain⟨t,x',R,rfl⟩:=Z;cases m.symm.trans R;refine⟨.ref j,rfl,?_⟩;refine W.go elts k tp i j { s with heap:=F,toks:=tk } _ _ d λq S r=>?_;obtain⟨y,f,hl2⟩:=S;have l:IsTup q j #[.int i t,u]:=n.elim λo e=>⟨o,r _ _ (W.apart i j _ d) e.1,e.2⟩;have I2:Inv X pins V (bG H j<|.tup [.int i,x]) { s with heap:=q,toks:=tk }:=IJ I B (λb o hb e=>r b o hb (kk b o hb e)) (λb hb=>by
   rcases List.mem_cons.mp hb with rfl|hb
   .exact y.elim λ_ he=>⟨_,he⟩
   .cases List.mem_singleton.mp hb;exact f.live.elim λo e=>⟨o,e.1⟩) O l (.cons ⟨t,rfl⟩<|.cons Y .nil) (by show 2<=sizeLine;decide)
  refine⟨.ref j,_,I2,rfl,⟨j,x,I.bA.fresh O,rfl,rfl,λzs T=>by rw[Oa I T C];exact D⟩,⟨y,f⟩,λb hb=>?_⟩;have U:b<s.heap.objs.size:=by
   rcases List.mem_cons.mp hb with rfl|hb
   .exact st.1.elim λ_ he=>cZ he
   .cases List.mem_singleton.mp hb;exact st.2.live.elim λ_ e=>cZ e.1
  rw[bY (bV<|bD U O)];exact(B b hb).1
 done:=by intro X G hw J L i pins s V H E I B st M;subst G hw J;obtain⟨xs,C,D⟩:=M;obtain⟨c,N,p⟩:=uX I C;obtain⟨⟨old,he⟩,g⟩:=st;exact wpAny_pyNext_enum_endD (YH (A:=Around.in1 _) (I.ok.hd L) kd it a c.toArray i (by rw[LQ];exact Qp<|N.length▸D)) he ⟨rfl,g,p⟩ λF eb=>⟨rfl,II I B λb o hb e=>eb b o (λz=>hb (z ▸ .tail _ (.head _))) e⟩
 self:=λA i s Q E st h=>st.1.elim λ_ he=>OH he h
def E2(K:bI)(ta:TA):TI:=λZ H R=>ta Z H λvs H1=>∃kd a,vs=[.ref a]/\(∃xs,lH kd K H1 a xs)/\R (xa kd K a) H1
theorem VS{E:Value->aJ->Prop}{kd:Bool}{l:Addr}{Q:Value->aJ->Prop}(v1:iN kd s.heap l items)
  (h:∀h',IsEnum h' (s.heap.objs.size+1) s.heap.objs.size 0 .none->kD kd h' s.heap.objs.size l 0->h'.objs.size=s.heap.objs.size+2->(∀b o,s.heap.get? b=aA o->h'.get? b=aA o)->Q (.ref<|s.heap.objs.size+1) { s with heap:=h' }):aS (aY prog w) A (call (.type "enumerate") [.ref l]) Q E s:=by
 cases kd with
 |true=>exact call_enumerate_list v1 h|false=>exact VT v1 h
theorem iN.lt{kd:Bool}{h:bH}{l:Addr}(v:iN kd h l items):l<h.objs.size:=by
 cases kd with
 |true=>obtain⟨o,e,_⟩:=(v);exact cZ e|false=>obtain⟨o,e,_⟩:=(v);exact cZ e
theorem aBi{k:Nat}{ta:TA}(hg:Gl X "enumerate")(hm:X.mg "enumerate"=aD)(ha:PA X [a] ta)(hs:eO [a] X.env=[(aH,eval a X.env)]):PI X (.Tuple elts k tp) (.Call (.Name "enumerate" p) [a] [] pos) (E2 X.K ta):=by
 intro pins s f H R I h;refine Call_<|zX I hg hm boot_enumerate<|Ed (bE (ha pos pins s f H _ I h) λus s1 ⟨t,H1,c,g,i⟩=>?_) hs rfl;obtain⟨kd,a,e,⟨xs,j⟩,q⟩:=i;subst e;cases g with
 |cons r l=>
  cases l;cases r;obtain⟨m,u,p⟩:=uX c j;refine VS p λv he d n o=>OH he ?_;refine⟨s1.heap.objs.size+1,[s1.heap.objs.size+1,s1.heap.objs.size],_,_,H1,rfl,c.kept o,aOn kd a _ _ (lD<|cN _) (bV<|kC p.lt) (bV p.lt),⟨⟨_,he⟩,d⟩,λb hb=>?_,q⟩;rcases List.mem_cons.mp hb with rfl|hb
  .exact c.uB (jQ _)<|c.bA.fresh<|jQ _
  .cases List.mem_singleton.mp hb;exact c.uB (aU _)<|c.bA.fresh<|aU _
theorem aJn{a:Addr}(q:Y[n]?=aA a):RI T Y H (lJ<|jG n) (
xa aB T.K a
):=by
 intro b d f i e R;obtain⟨h1,g⟩:=GO q b d f i e R;unfold lJ;cases o:jG n i d with
 |none=>exact⟨λz=>(by cases z),λv z=>(by cases z)⟩|some u=>
  cases u with
  |none=>exact⟨λ_=>h1 o,λv z=>(by cases z)⟩|some v=>refine⟨λz=>(by cases z),λm z=>?_⟩;cases z;obtain⟨g1,g2⟩:=g v o;refine⟨g1,λx p h=>?_⟩;obtain⟨r,y,hn,rfl,rfl,k⟩:=h;obtain⟨c,j,R2,l⟩:=g2 y f ⟨rfl,k⟩;exact⟨c,⟨j.pre,(Ext.jL (Y:=b) hn).tup,(Ext.jL (Y:=b) hn).dC⟩,R2.keep hn,.tup (.of gU) (.cons (.int _)<|.cons (l.ext<|.jL hn) .nil)⟩
theorem aJo{a:Addr}(hq:eH T.K H a ys)(r:bF T Y H xs ys):RI T Y H (lJ<|lQ xs) (
xa aH T.K a
):=by
 intro b d f i e R;obtain⟨h1,g⟩:=GP hq r b d f i e R;unfold lJ;cases o:lQ xs i d with
 |none=>exact⟨λz=>(by cases z),λv z=>(by cases z)⟩|some u=>
  cases u with
  |none=>exact⟨λ_=>h1 o,λv z=>(by cases z)⟩|some v=>refine⟨λz=>(by cases z),λm z=>?_⟩;cases z;obtain⟨g1,g2⟩:=g v o;refine⟨g1,λx n h=>?_⟩;obtain⟨p,y,hn,rfl,rfl,k⟩:=h;obtain⟨c,j,R2,l⟩:=g2 y f ⟨rfl,k⟩;exact⟨c,⟨j.pre,(Ext.jL (Y:=b) hn).tup,(Ext.jL (Y:=b) hn).dC⟩,R2.keep hn,.tup (.of gU) (.cons (.int _)<|.cons (l.ext<|.jL hn) .nil)⟩
theorem aEw{k:Nat}(hK:X.K=T.K)(hg:Gl X "enumerate")(hm:X.mg "enumerate"=aD)(ha:QE X T E a m)(hs:bW a=aB) :
  QI X T E (.Tuple elts k tp) (.Call (.Name "enumerate" p) [a] [] pos) (λZ=>(m Z).bind yy):=by
 obtain⟨r,pa,g⟩:=ha;refine⟨_,aBi hg hm (xA pa af<|fV hs) (by rw[fV hs];rfl),λi Z c h H Q R S w=>g i Z c h H _ R S (W.bind w λj x s h1 H1 t d e b=>?_)⟩;cases x with
 |tup xs=>
  cases e with
  |tup f hr=>exact⟨aH,_,rfl,⟨_,hK▸f⟩,by rw[hK];exact W.here b d<|aJo f hr⟩
 |ref n=>
  cases e with
  |@ref _ a q=>
   simp only[yy]at b;cases o:h1.ob n with
   |none=>rw[o]at b;cases b|some u=>
    rw[o]at b;cases u with
    |lst mu xs=>obtain⟨l,g1,v⟩:=pB d o q;exact⟨aB,a,rfl,⟨l,hK▸g1⟩,by rw[hK];exact W.here b d<|aJn q⟩
    |aQ _=>cases b|dD _=>cases b|ins _ _=>cases b
 |_=>exact b.elim
def iC(xs:Ht)(lo hi:Hs):Ht:=(xs.drop<|HT.cC xs.length 0 lo).take (HT.cC xs.length xs.length hi-HT.cC xs.length 0 lo)
theorem Xg(r:bF T Y H xs ys)(lo hi:Hs):bF T Y H (iC xs lo hi) (fm ys lo hi):=by unfold iC fm;rw[<- r.length];exact(r.drop _).take _
def qD(x:AV)(lo hi:Hs):M AV:=λh=>match x with
 |.ref n=>match h.ob n with
  |some (.lst _ xs)=>kH (iC xs lo hi) h
  |_=>.bad
 |.tup xs=>if HT.cC xs.length 0 lo=0/\HT.cC xs.length xs.length hi=xs.length then .bad else .ok (.tup<|iC xs lo hi) h
 |_=>.bad
def OM:Rl Hs Hs:=λ_ _ a b=>a=b
def QO(X:Cx)(T:Tab)(E:XK)(o:Option aL)(m:aG->M Hs):Prop:=
 ∃t,PO X o t/\∀Y Z Z' h H Q,bP T Y h H->cX T Y H Z Z'->W T OM (m Z h) Y H Q E->t Z' H Q
def Io(v:AV):M Hs:=λh=>match v with
 |.int i=>.ok (aA i) h
 |_=>.bad
theorem aHr:QO X T E aD (λ_=>M.ret aD):=⟨_,aBy,λb c a h H Q R S w=>W.here w R rfl⟩
theorem FH(ha:QE X T E a m):QO X T E (aA a) (λZ=>(m Z).bind Io):=by
 obtain⟨k,pa,d⟩:=ha;refine⟨_,aBz pa,λe Z b h H Q R S w=>d e Z b h H _ R S (W.bind w λf x l h1 H1 n g j c=>?_)⟩;cases x with
 |int i=>cases j;exact⟨i,rfl,W.here c g rfl⟩|_=>exact c.elim
theorem aEp(hK:X.K=T.K){lo hi:Option aL}{ml mh:aG->M Hs}(ha:QE X T E a m)(hl:QO X T E lo ml)(hh:QO X T E hi mh) :
  QE X T E (.Subscript a (.Slice lo hi aD p2) pos) (λZ=>(m Z).bind λx=>(ml Z).bind λl=>(mh Z).bind λu=>qD x l u):=by
 obtain⟨ta,pa,s⟩:=ha;obtain⟨tl,pl,t⟩:=hl;obtain⟨th,v,y⟩:=hh;refine⟨_,aAx (aKm.or aKn) pa pl v,λz Z c h H Q R S w=>s z Z c h H _ R S (W.bind w λe x x' h1 H1 k A B w1=>?_)⟩;refine t e Z c h1 H1 _ A (S.ext k)<|W.bind w1 λf l l' h2 H2 r R2 q2 w2=>?_;refine y f Z c h2 H2 _ R2 ((S.ext k).ext r)<|W.bind w2 λY3 u u' h3 H3 e3 g q3 b=>?_;cases(q2);cases(q3);have d:=(B.ext r).ext e3;cases x with
 |ref n=>
  cases d with
  |@ref _ a q=>
   simp only[qD]at b;cases o:h3.ob n with
   |none=>rw[o]at b;cases b|some ob=>
    rw[o]at b;cases ob with
    |lst mu xs=>obtain⟨i,g1,r1⟩:=pB g o q;exact .inl ⟨a,i,rfl,hK▸g1,λp j=>uM g (Xg r1 l u) j b⟩
    |aQ _=>cases b|dD _=>cases b|ins _ _=>cases b
 |tup xs=>
  cases d with
  |@tup a _ i hq hr=>
   simp only[qD]at b;by_cases hw:HT.cC xs.length 0 l=0/\HT.cC xs.length xs.length u=xs.length
   .rw[if_pos hw]at b;cases b
   .rw[if_neg hw]at b;refine .inr ⟨a,i,rfl,hK▸hq,hr.length▸hw,λp j=>Ao g (Xg hr l u) j b⟩
 |_=>exact b.elim
def qf(xs:Ht):M AV:=λh=>match xs with
 |[.str z]=>if z.length<=sizeLine then .ok (.int z.length) h else .bad
 |[x]=>match dW h x with
  |some ys=>.ok (.int ys.length) h
  |none=>.bad
 |_=>.bad
def Zo(xs:Ht):M AV:=λh=>match xs with
 |[.int i]=>.ok (.int i) h
 |[.bl k]=>.ok (.int<|if k then 1 else 0) h
 |_=>.bad
def wY:Ht->Option (Int×Int)
 |[.int i,.int j]=>aA (i,j)
 |_=>aD
def oD:Ht->Yo
 |[x]=>aA x
 |_=>aD
def Zt(xs:Ht):M AV:=λh=>match wY xs with
 |some (i,j)=>.ok (.int<|if j<i then j else i) h
 |none=>.bad
def Zs(xs:Ht):M AV:=λh=>match wY xs with
 |some (i,j)=>.ok (.int<|if j > i then j else i) h
 |none=>.bad
def yx(xs:Ht):M AV:=λh=>match wY xs with
 |some (i,j)=>if pV j=aB then .ok (.tup [.int (i / j),.int (i%j)]) h else .bad
 |none=>.bad
def sG:aN->AV
 |.inl i=>.int i
 |.inr x=>.str x
theorem BE(k:aN):aX T Y H (sG k) (kV k):=by
 cases k with
 |inl i=>exact .int i|inr x=>exact .str x
theorem BH{T:Tab}{Y:Hy}{H:Hp}{ys:Hw}:∀{kvs:List (aN×AV)},bF T Y H (kvs.map (·.2)) ys->bF T Y H (kvs.map λp=>sG p.1) (((kvs.map (·.1)).zip ys).map λp=>kV p.1)
 |[],.nil=>.nil
 |p::r,.cons h t=>.cons (BE p.1) (BH t)
def Hf(h:AH):AV->Option (List AV)
 |.ref n=>match h.ob n with
  |some (.aQ kvs)=>aA (kvs.map λp=>sG p.1)
  |_=>aD
 |_=>aD
def zj(xs:Ht):M AV:=λh=>match (oD xs).bind (dW h) with
 |some ys=>.ok (.tup ys) h
 |none=>.bad
def zI(xs:Ht):M AV:=λh=>match (oD xs).bind (dW h) with
 |some ys=>kH ys h
 |none=>match (oD xs).bind (Hf h) with
  |some ys=>kH ys h
  |none=>.bad
theorem F2(h:wY xs=aA (i,j)):xs=[.int i,.int j]:=by
 unfold wY at h;split at h
 .cases h;rfl
 .cases h
theorem DL(h:oD xs=aA x):xs=[x]:=by
 unfold oD at h;split at h
 .cases h;rfl
 .cases h
theorem WX(hK:X.K=T.K):oS X T E (.builtin "len") qf:=by
 refine⟨_,VW.or VX,λf h H xs g Q R r w=>?_⟩;cases r with
 |nil=>cases w|@cons x i _ _ d rs=>
  cases rs with
  |nil=>
   have go:(∀z,x ≠ .str z)->(∃p a,[i]=[.ref p]/\(dN X.K H p a\/eH X.K H p a)/\Q (.int a.length) H):=λj=>by
    have b:W T (aX T) (match dW h x with
     |some a=>Res.ok (.int a.length) h
     |none=>.bad) f H Q E:=by
      cases x with
      |str z=>exact absurd rfl<|j z|_=>exact w
    cases o:dW h x with
    |none=>rw[o]at b;cases b|some a=>rw[o]at b;obtain⟨p,zs,e,k,hr⟩:=jd R d o;refine⟨p,zs,by rw[e],hK▸k,?_⟩;rw[<- hr.length];exact b.here R<|.int _
   cases x with
   |str z=>
    cases d;simp only[qf]at w;by_cases c:z.length<=sizeLine
    .rw[if_pos c]at w;exact .inr ⟨z,rfl,c,w.here R (.int _)⟩
    .rw[if_neg c]at w;cases w
   |_=>exact .inl (go λz e=>by cases e)
  |cons m l=>cases x<;>exact w.elim
theorem WW:oS X T E (.type "int") Zo:=by
 refine⟨_,VU,λd h H xs b Q R r w=>?_⟩;cases r with
 |nil=>cases w|cons a rs=>
  cases rs with
  |nil=>
   cases a with
   |int i=>exact .inl ⟨i,rfl,W.here w R (.int _)⟩
   |bl k=>exact .inr ⟨k,rfl,W.here w R (.int _)⟩
   |_=>exact w.elim
  |cons e c=>cases a<;>exact w.elim
theorem Ha{f:Value}{k:Int->Int->M AV}{r:Hw->Hp->VK->Prop}(hr:iO X f r)
  (hw:∀Y h H i j Q,bP T Y h H->W T (aX T) (k i j h) Y H Q E->r [.int i,.int j] H Q):oS X T E f (λxs h=>match wY xs with
   |some (i,j)=>k i j h
   |none=>.bad):=by
 refine⟨_,hr,λY h H xs b Q R c w=>?_⟩;cases o:wY xs with
 |none=>simp only[o]at w;exact w.elim|some q=>
  obtain⟨i,j⟩:=q;have e:=F2 o;subst e;cases c with
  |cons d rs=>
   cases d;cases rs with
   |cons g a=>cases g;cases a;exact hw Y h H i j Q R w
theorem XA(hc:X.calm=aB):oS X T E (.builtin "min") Zt:=Ha (WD hc) λY h H i j Q R w=>⟨i,j,rfl,W.here w R (.int _)⟩
theorem WZ(hc:X.calm=aB):oS X T E (.builtin "max") Zs:=Ha (WA hc) λY h H i j Q R w=>⟨i,j,rfl,W.here w R (.int _)⟩
theorem VR:iO X (.builtin "divmod") (λxs H Q=>∃i j,xs=[.int i,.int j]/\(0<j/\j<2 ^ 1000)/\∀p,H p=aD->Q (.ref p) (bG H p<|.tup [.int (i / j),.int (i%j)])):=by intro pins s c H xs us Q I r h;obtain⟨i,j,rfl,⟨h1,a⟩,q⟩:=h;obtain⟨u,d,rfl,⟨t,rfl⟩,⟨f,rfl⟩⟩:=xJ r;refine divmod_int (by lia) ?_<|.inl<|MU<|log2_lt a h1;rw[Qg i (by omega),KN i (by omega)];have hn:=I.bA.fresh (aU _);refine⟨.ref s.heap.objs.size,_,?_,rfl,q _ hn⟩;refine I.laid (λb o e=>cT _ e) (aU _) ⟨by simp only[lA];decide,[.int (i / j) s.toks,.int (i%j) (s.toks+1)],.cons ⟨_,rfl⟩ (.cons ⟨_,rfl⟩ .nil),?_⟩;exact⟨_,fS s.heap rfl,rfl,0,rfl⟩
theorem WV:oS X T E (.builtin "divmod") yx:=Ha VR λc h H i j Q R w=>by
 by_cases a:pV j=aB
 .simp only[if_pos a]at w;exact⟨i,j,rfl,Xr a,λp b=>Ao R (.cons (.int _)<|.cons (.int _) .nil) b w⟩
 .simp only[if_neg a]at w;exact w.elim
theorem DM{k:Ht->M AV}(R:bP T Y h H)(r:bF T Y H xs hU)(w:W T (aX T) ((match (oD xs).bind (dW h) with
  |some ys=>k ys h
  |none=>.bad:Res AV)) Y H Q E):∃p ys zs,hU=[.ref p]/\(dN T.K H p zs\/eH T.K H p zs)/\bF T Y H ys zs/\W T (aX T) (k ys h) Y H Q E:=by
 cases a:oD xs with
 |none=>rw[a]at w;cases w|some x=>
  rw[a]at w;simp only[hX]at w;have e:=DL a;subst e;cases r with
  |cons b rs=>
   cases rs;cases o:dW h x with
   |none=>rw[o]at w;exact w.elim|some ys=>rw[o]at w;obtain⟨p,zs,e,c,hr⟩:=jd R b o;exact⟨p,ys,zs,by rw[e],c,hr,w⟩
theorem XB(hK:X.K=T.K):oS X T E (.type "tuple") zj:=by
 refine⟨_,WK,λc h H xs b Q R r w=>?_⟩;obtain⟨p,d,zs,rfl,hq,hr,a⟩:=DM R r w;rcases hq with hq|hq
 .exact⟨p,zs,rfl,.inl ⟨hK▸hq,λl hl=>Ao R hr hl a⟩⟩
 .exact⟨p,zs,rfl,.inr ⟨hK▸hq,W.here a R (.tup hq hr)⟩⟩
theorem WY(hK:X.K=T.K)(hc:X.calm=aB):oS X T E (.type "list") zI:=by
 refine⟨_,VZ.or (VY hc),λd h H xs f Q R r w=>?_⟩;unfold zI at w;cases o:(oD xs).bind (dW h) with
 |some b=>
  have g:W T (aX T) ((match (oD xs).bind (dW h) with
   |some b=>kH b h
   |none=>.bad:Res AV)) d H Q E:=by rw[o]at w ⊢;exact w
  obtain⟨p,b,zs,rfl,i,hr,j⟩:=DM R r g;exact .inl ⟨p,zs,rfl,hK▸i,λl hl=>uM R hr hl j⟩
 |none=>
  rw[o]at w;refine .inr ?_;cases c:oD xs with
  |none=>rw[c]at w;cases w|some x=>
   rw[c]at w;simp only[hX]at w;have e:=DL c;subst e;cases r with
   |cons k rs=>
    cases rs;cases x with
    |ref n=>
     cases k with
     |@ref _ a q=>
      simp only[Hf]at w;cases ob:h.ob n with
      |none=>rw[ob]at w;cases w|some u=>
       rw[ob]at w;cases u with
       |aQ m=>obtain⟨t,b,g1,rfl,s⟩:=R.obj n _ a ob q;exact⟨a,_,rfl,g1,λl hl=>uM R (BH s) hl w⟩
       |_=>cases w
    |_=>exact w.elim
theorem aDs{x:Str}{id:String}{g:Ht->M AV} (hc:oS X T E (.builtin id) g) (hg:Gl X x) (hm:X.mg x=aD) (hv:mV x=aA (.builtin id)) (ha:QA X T E (e::es) mr) (hs:(e::es).all bW=aB) (hn:x≠"__name__") (hd:(x==("__debug__":Str))=aH) :
  QE X T E (.Call (.Name x p) (e::es) [] pos) (λZ=>(mr Z).bind g):=by
 obtain⟨r,hr,a⟩:=hc;obtain⟨m,pr,f⟩:=ha;rw[jZ,bQ]at hs;exact⟨_,Ay hr hg hm hv pr hn hd (fV hs.1) (sW hs.2),λi Z b h H Q R S w=>f i Z b h H _ R S (W.bind w λc xs d h1 H1 n j k l=>a c h1 H1 xs d Q j k l)⟩
theorem aDt{x:Str}{id:String}{g:Ht->M AV} (hc:oS X T E (.type id) g) (hg:Gl X x) (hm:X.mg x=aD) (hv:mV x=aA (.type id)) (ha:QA X T E (e::es) mr) (hs:(e::es).all bW=aB) (hn:x≠"__name__") (hd:(x==("__debug__":Str))=aH) :
  QE X T E (.Call (.Name x p) (e::es) [] pos) (λZ=>(mr Z).bind g):=by
 obtain⟨r,hr,a⟩:=hc;obtain⟨m,pr,f⟩:=ha;rw[jZ,bQ]at hs;exact⟨_,aAf hr hg hm hv pr hn hd (fV hs.1) (sW hs.2),λi Z b h H Q R S w=>f i Z b h H _ R S (W.bind w λc xs d h1 H1 n j k l=>a c h1 H1 xs d Q j k l)⟩
end
def Up(cR dA:Bool)(K:bI)(a b:Addr):It:=
  ⟨λi H=>∃xs ys x y,lH cR K H a xs/\lH dA K H b ys/\xs[i]?=aA x/\ys[i]?=aA y,
   λi H x H'=>∃T u v,H T=aD/\x = .ref T/\H'=bG H T (.tup [u,v])/\(∀xs,lH cR K H a xs->xs[i]?=aA u)/\∀ys,lH dA K H b ys->ys[i]?=aA v,
   λi H=>∃xs ys,lH cR K H a xs/\lH dA K H b ys/\(xs[i]?=aD\/ys[i]?=aD)⟩
section
variable {X:Cx}{E:XK}{a b l:aL}
theorem aOt{P:cB}{K:bI}{k:Nat}(cR dA:Bool){TI TO:Addr}(D:lh z TI TO i1 i2 l1 l2) :
  Turn P w K (.Tuple elts k tp) (Up cR dA K l1 l2) [z,TI,TO,i1,i2] z (λi h=>mE h z TI TO .none/\hV h TI (.ref i1) (.ref i2)/\(∃a b,hV h TO a b)/\kD cR h i1 l1 i/\kD dA h i2 l2 i) where
 mem:=by simp
 obj:=λi h st b hb=>by
  obtain⟨hz,hTI,⟨a,b',hTO⟩,h1,h2⟩:=st;simp only[kN,gI,or_false]at hb;rcases hb with rfl|rfl|rfl|rfl|rfl
  .exact⟨_,hz,λv q=>by cases q⟩
  .exact⟨_,hTI,λv q=>by cases q⟩
  .exact⟨_,hTO,λv q=>by cases q⟩
  .exact h1.live
  .exact h2.live
 keep:=λi h h' st kk=>by obtain⟨hz,hTI,⟨a,b',hTO⟩,h1,h2⟩:=st;exact⟨kk z (by simp) _ hz,kk TI (by simp) _ hTI,⟨a,b',kk TO (by simp) _ hTO⟩,h1.at λo e=>kk i1 (by simp) o e,h2.at λo e=>kk i2 (by simp) o e⟩
 item:=by
  intro X hP hw hK hc i pins s Z H E I hf st hg;subst hP hw hK;obtain⟨xs,ys,x,y,hq1,hq2,hx,hy⟩:=hg;obtain⟨Jo,rv1,p1⟩:=uX I hq1;obtain⟨Jp,rv2,p2⟩:=uX I hq2;obtain⟨u1,hu1,ru1⟩:=rv1.get hx;obtain⟨u2,hu2,ru2⟩:=rv2.get hy;obtain⟨hz,hTI,⟨a,b',hTO⟩,h1,h2⟩:=id st;have hh:X.A.in1.handled=aD:=I.ok.hd hc;refine Q4 D (jB.kd hh cR D.l1i1 Jo.toArray) (jB.kd hh dA D.l2i2 Jp.toArray) hz hTI hTO ⟨h1,p1⟩ ⟨h2,p2⟩ (x:=u1) (y:=u2) (by simpa using hu1) (by simpa using hu2) λh' z' t' s1 s2 new kk=>?_;refine⟨_,rfl,?_⟩;refine wpAny_letOwnedTupleGo_zip z' λh'' z'' sb=>?_;have lt:∀{c:Addr}{o:Obj},s.heap.get? c=aA o->s.heap.objs.size≠c:=λe=>lD (cZ e);have keep2:∀c o,c∉[z,TI,TO,i1,i2]->s.heap.get? c=aA o->h''.get? c=aA o:=λc o hc e=>by simp only[kN,gI,or_false,not_or]at hc;exact sb.extBut _ _ hc.1<|kk c o hc.1 hc.2.2.1 hc.2.2.2.1 hc.2.2.2.2 e
  have hTI2:hV h'' TI (.ref i1) (.ref i2):=sb.extBut _ _ D.TIz (kk _ _ D.TIz D.TITO D.TIi1 D.TIi2 hTI);have hTO2:hV h'' TO u1 u2:=sb.extBut _ _ D.TOz t';have s1':kD cR h'' i1 l1 (i+1):=s1.1.at λo e=>sb.extBut _ _ D.i1z e;have s2':kD dA h'' i2 l2 (i+1):=s2.1.at λo e=>sb.extBut _ _ D.i2z e;have new2:hV h'' s.heap.objs.size u1 u2:=sb.extBut _ _ (lt hz) new;have I2:Inv X pins Z (bG H s.heap.objs.size<|.tup [x,y]) { s with heap:=h'' }:=IJ (tk:=s.toks) (its:=[u1,u2]) I hf keep2 (λc hc=>by
   simp only[kN,gI,or_false]at hc;rcases hc with rfl|rfl|rfl|rfl|rfl
   .exact⟨_,z''⟩
   .exact⟨_,hTI2⟩
   .exact⟨_,hTO2⟩
   .exact let ⟨o,e,_⟩:=s1'.live;⟨o,e⟩
   .exact let ⟨o,e,_⟩:=s2'.live;⟨o,e⟩) (aU _) ⟨_,new2,rfl,_,rfl⟩ (.cons ru1<|.cons ru2 .nil) (by show 2<=sizeLine;decide)
  have hn:H s.heap.objs.size=aD:=I.bA.fresh (aU _);refine⟨.ref s.heap.objs.size,_,I2,rfl,⟨_,x,y,hn,rfl,rfl,λzs hzs=>by rw[Oa I hzs hq1];exact hx,λzs hzs=>by rw[Oa I hzs hq2];exact hy⟩,⟨z'',hTI2,⟨_,_,hTO2⟩,s1',s2'⟩,λc hc=>?_⟩;have hc':s.heap.objs.size≠c:=by
   simp only[kN,gI,or_false]at hc;rcases hc with rfl|rfl|rfl|rfl|rfl
   .exact lt hz
   .exact lt hTI
   .exact lt hTO
   .exact let ⟨o,e,_⟩:=h1.live;lt e
   .exact let ⟨o,e,_⟩:=h2.live;lt e
  rw[bY hc'.symm];exact(hf c hc).1
 done:=by
  intro X hP hw hK hc i pins s Z H E I hf st hg;subst hP hw hK;obtain⟨xs,ys,hq1,hq2,qo⟩:=hg;obtain⟨Jo,rv1,p1⟩:=uX I hq1;obtain⟨Jp,rv2,p2⟩:=uX I hq2;obtain⟨hz,hTI,⟨a,b',hTO⟩,h1,h2⟩:=id st;have hh:X.A.in1.handled=aD:=I.ok.hd hc;refine YO D (jB.kd hh cR D.l1i1 Jo.toArray) (jB.kd hh dA D.l2i2 Jp.toArray) hz hTI hTO ⟨h1,p1⟩ ⟨h2,p2⟩ ?_ λh' kk=>⟨rfl,II (tk:=s.toks) I hf λc o hc e=>?_⟩
  .rcases qo with q|q
   .exact .inl (by simpa using rv1.none_of q)
   .exact .inr (by simpa using rv2.none_of q)
  .simp only[kN,gI,or_false,not_or]at hc;exact kk c o hc.1 hc.2.2.1 hc.2.2.2.1 hc.2.2.2.2 e
 self:=λA i s Q E st h=>OI st.1 h
theorem aSt(n a b:Nat)(ha:a<n)(hb:b<n):lh (n+4) (n+2) (n+3) n (n+1) a b:=
 ⟨bV (by lia),bV (aU _),bV (by lia),bV (by lia),bV (aU _),lD (by lia),lD (aU _),lD (by lia),lD (by lia),bV (aU _),
  bV (by lia),bV (by lia),bV (by omega),bV (by lia),bV (by lia),bV (by lia),bV (by omega),bV (by lia)⟩
def E6(K:bI)(ta:TA):TI:=λZ H R=>ta Z H λvs H1=>∃a b cR dA,vs=[.ref a,.ref b]/\(∃xs,lH cR K H1 a xs)/\(∃ys,lH dA K H1 b ys)/\R (Up cR dA K a b) H1
theorem aBl{k:Nat}{ta:TA}(hg:Gl X "zip")(hm:X.mg "zip"=aD)(ha:PA X [a,b] ta)(hs:bW a=aB)(hs2:bW b=aB):PI X (.Tuple elts k tp) (.Call (.Name "zip" p) [a,b] [] pos) (E6 X.K ta):=by
 intro pins s v H R I h;refine Call_<|zX I hg hm boot_zip<|Ed (bE (ha pos pins s v H _ I h) λus s1 ⟨P,H1,d,C,E⟩=>?_) (fV hs)<|sW (by simp[hs2]);obtain⟨a,b,f,g,e,⟨xs,j⟩,⟨Q,m⟩,q⟩:=E;subst e;cases C with
 |cons r F=>
  cases r;cases F with
  |cons G n=>
   cases G;cases n;obtain⟨w,J,x⟩:=uX d j;obtain⟨y,K,z⟩:=uX d m;have i:∀{kd:Bool}{l:Addr}{items:YY},iN kd s1.heap l items->l<s1.heap.objs.size:=λ{kd l items} hl=>by
    cases kd with
    |true=>obtain⟨o,e,_⟩:=(hl);exact cZ e|false=>obtain⟨o,e,_⟩:=(hl);exact cZ e
   have la:=i x;have lb:=i z;refine WL f g x z λL A t u h1 M N=>?_;have O:Inv X pins v H1 { s1 with heap:=L }:=d.kept N;refine OI A ?_;have D:=aSt _ _ _ la lb;refine⟨s1.heap.objs.size+4,[s1.heap.objs.size+4,s1.heap.objs.size+2,s1.heap.objs.size+3,s1.heap.objs.size,s1.heap.objs.size+1],_,_,H1,rfl,O,aOt f g D,⟨A,t,⟨_,_,u⟩,h1,M⟩,λc B=>?_,q⟩;have hle:s1.heap.objs.size<=c:=by
    simp only[kN,gI,or_false]at B;rcases B with rfl|rfl|rfl|rfl|rfl
    .exact oP _ _
    .exact oP _ _
    .exact oP _ _
    .exact aU _
    .exact oP _ _
   exact d.uB hle<|d.bA.fresh hle
def vH(it jt:gK):gK:=λi h=>match it i h,jt i h with
 |some (aA u),aA (aA v)=>aA (aA<|.tup [u,v])
 |some aD,aA _=>aA aD
 |some _,aA aD=>aA aD
 |_,_=>aD
def zk(xs:Ht):M gK:=λh=>match xs with
 |[x,y]=>match nY x h,nY y h with
  |.ok it _,.ok jt _=>.ok (vH it jt) h
  |_,_=>.bad
 |_=>.bad
theorem BC{it:gK}{h2:AH}(R:bP T Y h H)(r:aX T Y H x x')(e:nY x h = .ok it h2) :
  ∃a kd,x' = .ref a/\(∃xs,lH kd T.K H a xs)/\∀Y' h' H' i,Ext Y H Y' H'->bP T Y' h' H'->∀o,it i h'=aA o->∃ys,lH kd T.K H' a ys/\((o=aD/\ys[i]?=aD)\/∃v v',o=aA v/\ys[i]?=aA v'/\aX T Y' H' v v'):=by
 cases x with
 |tup xs=>
  cases r with
  |@tup a _ ys f hr=>
   cases e;refine⟨a,aH,rfl,⟨ys,f⟩,λY' h' H' i ex g o c=>⟨ys,ex.ui f,?_⟩⟩;have b:=eF c;cases o with
   |none=>exact .inl ⟨rfl,by rw[LN]at b ⊢;rw[<- hr.length];exact b⟩|some v=>obtain⟨v',g1,g2⟩:=(hr.ext ex).get b;exact .inr ⟨v,v',rfl,g1,g2⟩
 |ref n=>
  cases r with
  |@ref _ a q=>
   simp only[nY]at e;cases ob:h.ob n with
   |none=>rw[ob]at e;cases e|some u=>
    rw[ob]at e;cases u with
    |lst mu xs=>
     cases e;obtain⟨ys,g1,p⟩:=pB R ob q;refine⟨a,aB,rfl,⟨ys,g1⟩,λY' h' H' i ex g o c=>?_⟩;unfold jG at c;cases ob':h'.ob n with
     |none=>rw[ob']at c;cases c|some k=>
      rw[ob']at c;cases k with
      |lst l d=>
       obtain⟨zs,g2,j⟩:=pB g ob' (ex.pre n a q);have b:=eF c;refine⟨zs,g2,?_⟩;cases o with
       |none=>exact .inl ⟨rfl,by rw[LN]at b ⊢;rw[<- j.length];exact b⟩|some v=>obtain⟨v',g3,m⟩:=j.get b;exact .inr ⟨v,v',rfl,g3,m⟩
      |aQ _=>cases c|dD _=>cases c|ins _ _=>cases c
    |aQ _=>cases e|dD _=>cases e|ins _ _=>cases e
 |_=>cases e
theorem aEy{k:Nat}(hK:X.K=T.K)(hg:Gl X "zip")(hm:X.mg "zip"=aD)(ha:QA X T E [a,b] mr)(hs:bW a=aB)(hs2:bW b=aB) :
  QI X T E (.Tuple elts k tp) (.Call (.Name "zip" p) [a,b] [] pos) (λZ=>(mr Z).bind zk):=by
 obtain⟨ta,pa,F⟩:=ha;refine⟨_,aBl hg hm pa hs hs2,λG Z m h H Q R S w=>F G Z m h H _ R S (W.bind w λI xs J h1 H1 n o K c=>?_)⟩;cases K with
 |nil=>cases c|@cons x x' _ _ L rs=>
  cases rs with
  |nil=>cases c|@cons y y' _ _ M r=>
   cases r with
   |cons _ _=>cases c|nil=>
    simp only[zk]at c;cases g1:nY x h1 with
    |bad=>rw[g1]at c;cases c|ok it hx=>
     cases g2:nY y h1 with
     |bad=>rw[g1,g2]at c;cases c|ok N hy=>
      rw[g1,g2]at c;obtain⟨pa,s,rfl,sa,O⟩:=BC o L g1;obtain⟨P,t,rfl,U,V⟩:=BC o M g2;refine⟨pa,P,s,t,rfl,hK▸sa,hK▸U,?_⟩;rw[hK];refine W.here c o λf g C i ex z=>?_;unfold vH;cases Y:it i g with
      |none=>exact⟨λq=>(by cases q),λv q=>(by cases q)⟩|some u=>
       cases ZF:N i g with
       |none=>
        cases u with
        |none=>exact⟨λq=>(by cases q),λv q=>(by cases q)⟩|some u=>exact⟨λq=>(by cases q),λv q=>(by cases q)⟩
       |some v=>
        obtain⟨d,s1,c1⟩:=O f g C i ex z u Y;obtain⟨e,s2,c2⟩:=V f g C i ex z v ZF;rcases c1 with⟨rfl,j⟩|⟨u1,A,rfl,j,t1⟩
        .exact⟨λ_=>⟨d,e,s1,s2,.inl j⟩,λv q=>(by cases q)⟩
        .rcases c2 with⟨rfl,l⟩|⟨u2,B,rfl,l,t2⟩
         .exact⟨λ_=>⟨d,e,s1,s2,.inr l⟩,λv q=>(by cases q)⟩
         .refine⟨λq=>(by cases q),λv q=>⟨⟨d,e,A,B,s1,s2,j,l⟩,λx H2 yl=>?_⟩⟩;cases q;obtain⟨Tt,y1,y2,hn,rfl,rfl,k1,k2⟩:=yl;have n:=k1 d s1;have D:=k2 e s2;rw[j]at n;rw[l]at D;cases n;cases D;exact⟨f,.jL hn,z.keep hn,.tup (.of gU) (.cons (t1.ext<|.jL hn)<|.cons (t2.ext<|.jL hn) .nil)⟩
end
def oC{α:Type}(m:M α):M α:=λh=>match m h with
 |.ok a h1=>.ok a h1
 |_=>.bad
theorem DD{α β:Type}{Rp:Rl α β}{m:M α}{Q:β->Hp->Prop}{E E':XK}(w:W T Rp (oC m h) Y H Q E):W T Rp (m h) Y H Q E':=by
 unfold oC at w;cases e:m h with
 |ok a h1=>rw[e]at w;exact w|bad=>rw[e]at w;exact w.elim
theorem M.bind_assoc{α β γ:Type}(m:M α)(k:α->M β)(l:β->M γ):(m.bind k).bind l=m.bind λx=>(k x).bind l:=by
 funext h
 unfold M.bind;cases m h<;>rfl
def eK(it:gK)(g:AV->aG->M aG)(mt:aG->M Bool)(me:aG->M AV):Nat->Nat->Ht->aG->M Ht
 |0,_,_,_=>M.bad
 |f+1,i,ys,Z=>λh=>match it i h with
  |none=>.bad
  |some aD=>.ok ys h
  |some (aA v)=>((oC<|g v Z).bind λZ1=>(oC<|mt Z1).bind λb=>if b=aB then(me Z1).bind λy=>M.guard (ys.length<sizeLine) (eK it g mt me f (i+1) (ys++[y]) Z1) else eK it g mt me f (i+1) ys Z1) h
def mL{α:Type}(imp:Yg)(Z:List (Option α)):List (Option α):=imp.map λo=>match o with
 |some j=>(Z[j]?).getD aD
 |none=>aD
def yR(mi:M gK)(g:AV->aG->M aG)(mt:aG->M Bool)(me:aG->M AV)(imp:Yg)(Z:aG):M AV:=mi.bind λit=>(eK it g mt me FU 0 []<|mL imp Z).bind kH
def HX(T:Tab)(E:XK)(m:aG->M AV):TE:=λZ' H Q=>∃Y Z h,bP T Y h H/\cX T Y H Z Z'/\W T (aX T) (m Z h) Y H Q E
def HW(T:Tab)(m:aG->M Bool):TT:=λZ' H Q=>∃Y Z h,bP T Y h H/\cX T Y H Z Z'/\W T RB (m Z h) Y H Q E0
def HV(T:Tab)(g:AV->aG->M aG):TG:=λv' Z' H Q=>∃Y v Z h,bP T Y h H/\cX T Y H Z Z'/\aX T Y H v v'/\W T (cX T) (g v Z h) Y H Q E0
section
variable {X:Cx}{E:XK}{elt cU:aL}{ct:Option aL}{me:aG->M AV}{mt:aG->M Bool}{mi:aG->M gK}{g:AV->aG->M aG}{imp:Yg}{N':YX}
theorem QE.canon(h:QE X T E e m):PE X e (HX T E m):=let ⟨t,p,r⟩:=h;λpins s a H Q I ⟨b,c,h,R,S,w⟩=>p pins s a H Q I (r b c a h H Q R S w)
theorem QT.canon{m:aG->M Bool}(h:QT X T E0 e m):PT X e (HW T m):=let ⟨t,p,r⟩:=h;λpins s a H Q I ⟨b,c,h,R,S,w⟩=>p pins s a H Q I (r b c a h H Q R S w)
theorem QG.canon{g:AV->aG->M aG}(h:QG X T E0 e g):PG X e (HV T g):=let ⟨t,p,r⟩:=h;λpins s a H b u Q I c ⟨d,v,f,h,R,S,i,w⟩=>p pins s a H b u Q I c (r d v b f a h H Q R S i w)
theorem zv{α:Type}(Z:List (Option α)):(mL imp Z).length=imp.length:=by simp[mL]
theorem Jg{α:Type}{Z:List (Option α)}{i:Nat}{v:α}(h:(mL imp Z)[i]?=aA (aA v)):∃j,imp[i]?=aA (aA j)/\Z[j]?=aA (aA v):=by
 unfold mL at h;rw[fM]at h;cases e:imp[i]? with
 |none=>rw[e]at h;cases h|some o=>
  rw[e]at h;cases o with
  |none=>cases h|some j=>
   refine⟨j,rfl,?_⟩;have a:(Z[j]?).getD aD=aA v:=eF h;cases q:Z[j]? with
   |none=>rw[q]at a;cases a|some w=>rw[q]at a;exact congrArg aA a
theorem cX.E7(S:cX T Y H Z Z'):cX T Y H (mL imp Z) (mL imp Z'):=by refine⟨by rw[zv,zv],λi v e=>?_⟩;obtain⟨j,h1,a⟩:=Jg e;obtain⟨b,c,r⟩:=S.2 j v a;refine⟨b,?_,r⟩;unfold mL;rw[fM,h1];show aA ((Z'[j]?).getD aD)=_;rw[c];rfl
theorem Wy{wi:TI}(ri:∀Y Z Z' h H R,bP T Y h H->cX T Y H Z Z'->W T (RI T) (mi Z h) Y H R E->wi Z' H R)(R:bP T Y h H)(S:cX T Y H Z Z')
  (w:W T (aX T) (yR (mi Z) g mt me imp Z h) Y H Q E):Oh wi (mL imp) (HV T g) (HW T mt) (HX T E me) Z' H Q:=by
 refine ri Y Z Z' h H _ R S<|W.bind w λs it J h1 H1 I R1 V w1=>?_;refine⟨λi m t Z' H=>∃Y a Z h,Ext s H1 Y H/\bP T Y h H/\cX T Y H Z Z'/\bF T Y H a t/\W T (aX T) (((eK it g mt me m i a Z).bind kH) h) Y H Q E,FU,⟨s,[],_,h1,.refl,R1,(S.ext I).E7,.nil,w1⟩,?_⟩;rintro i m t Z' H ⟨Y,a,Z,h,e,R,S,n,w⟩
 cases m with
 |zero=>cases w|succ f=>
  cases l:it i h with
  |none=>
   have q:W T (aX T) Res.bad Y H Q E:=by simp only[eK,M.bind,l]at w;exact w
   cases q
  |some o=>
   cases o with
   |none=>
    have q:W T (aX T) (kH a h) Y H Q E:=by simp only[eK,M.bind,l]at w;exact w
    exact .inl ⟨(V Y h H i e R).1 l,λD hD=>uM R n hD q⟩
   |some v=>
    have q:W T (aX T) ((((oC<|g v Z).bind λc=>(oC<|mt c).bind λb=>if b=aB then(me c).bind λy=>M.guard (a.length<sizeLine) (eK it g mt me f (i+1) (a++[y]) c) else eK it g mt me f (i+1) a c).bind kH) h) Y H Q E:=by
     have I:∀k:Ht->M AV,((eK it g mt me (f+1) i a Z).bind k) h=((((oC<|g v Z).bind λc=>(oC<|mt c).bind λb=>if b=aB then(me c).bind λy=>M.guard (a.length<sizeLine) (eK it g mt me f (i+1) (a++[y]) c) else eK it g mt me f (i+1) a c).bind k) h):=λk=>by unfold M.bind;simp only[eK,l];rfl
     rw[I]at w;exact w
    rw[M.bind_assoc]at q;obtain⟨go,yl⟩:=(V Y h H i e R).2 v l;refine .inr ⟨go,λx H2 y=>?_⟩;obtain⟨K,r,R2,rv⟩:=yl x H2 y;refine⟨K,v,Z,h,R2,S.ext r,rv,DD (W.bind (q.ext r) λL j X h3 H3 B R3 C ZL=>?_)⟩;rw[M.bind_assoc]at ZL;refine⟨L,j,h3,R3,C,DD (W.bind ZL λu d d' ZG H4 p R4 q4 F=>?_)⟩;have N:=q4;subst N;cases d with
    |true=>
     rw[if_pos rfl]at F ⊢;rw[M.bind_assoc]at F;refine⟨u,j,ZG,R4,C.ext p,W.bind F λz y y' A H5 O R5 q5 G=>?_⟩;by_cases P:a.length<sizeLine
     .have w6:W T (aX T) (((eK it g mt me f (i+1) (a++[y]) j).bind kH) A) z H5 Q E:=by
       have U:((M.guard (a.length<sizeLine)<|eK it g mt me f (i+1) (a++[y]) j).bind kH) A=((eK it g mt me f (i+1) (a++[y]) j).bind kH) A:=by unfold M.bind M.guard;rw[if_pos P]
       rw[U]at G;exact G
      exact⟨by rw[<- n.length];exact P,f,cN f,z,a++[y],j,A,((((e.trans r).trans B).trans p).trans O),R5,(C.ext p).ext O,(n.ext<|((r.trans B).trans p).trans O).append (.cons q5 .nil),w6⟩
     .have U:((M.guard (a.length<sizeLine)<|eK it g mt me f (i+1) (a++[y]) j).bind kH) A = .bad:=by unfold M.bind M.guard;rw[if_neg P]
      rw[U]at G;cases G
    |false=>exact⟨f,cN f,u,a,j,ZG,((e.trans r).trans B).trans p,R4,C.ext p,n.ext ((r.trans B).trans p),F⟩
theorem ES(hsc:oT X N' scope)(sE:X.calm=aB)(hi:QI X T E tg cU mi)(hg:∀s H C fp,QG (X.comp N' scope s H C fp) T E0 tg g)(hct:∀c,ct=aA c->∀s H C fp,QT (X.comp N' scope s H C fp) T E0 c mt)
  (hct0:ct=aD->mt=λ_=>M.ret aB) (he:∀s H C fp,QE (X.comp N' scope s H C fp) T E0 elt me) (himp:imp.length=N'.length)
  (hσ:∀(i j:Nat) x,N'[i]?=aA x->imp[i]?=aA (aA j)->scope.names.lookup x=aA .free/\(x,iY)∈scope.names/\X.N[j]?=aA x) (hs:bW cU=aB) :
  QE X T E (.ListComp elt [⟨tg,cU,ct.toList,0⟩] scope pos) (λZ=>yR (mi Z) g mt me imp Z):=by
 obtain⟨wi,pi,d⟩:=hi;refine⟨_,aAi hsc sE pi (λs H C fp=>(hg s H C fp).canon) (λc e s H C fp=>(hct c e s H C fp).canon) (λe Z H Q=>?_) (λs H C fp=>(he s H C fp).canon) (λZ=>by rw[zv,himp]) (λZ i x v f k=>?_) λx=>Nv hs,λl Z m h H Q R S w=>Wy d R S w⟩
 .rintro ⟨l,Z,h,R,S,w⟩
  rw[hct0 e]at w;exact W.here w R rfl
 .obtain⟨j,h1,n⟩:=Jg k;obtain⟨a,b,c⟩:=hσ i j x f h1;exact⟨a,b,j,c,n⟩
theorem FJ{i:Nat}{y:Str}{pJ:Pos}(hN:X.N.Nodup)(hi':X.N[i]?=aA y)(hy:X.env.scope.names.lookup y=aA .local)
  (hsw:vT (.ListComp elt [⟨tg,cU,ct.toList,0⟩] scope pos) (aA<|.Name y py) pJ.line X.env=pure aB)(hsc:oT X N' scope)(sE:X.calm=aB)(hi:QI X T E tg cU mi)(hg:∀s H C fp,QG (X.comp N' scope s H C fp) T E0 tg g)(hct:∀c,ct=aA c->∀s H C fp,QT (X.comp N' scope s H C fp) T E0 c mt)
  (hct0:ct=aD->mt=λ_=>M.ret aB)(he:∀s H C fp,QE (X.comp N' scope s H C fp) T E0 elt me)(himp:imp.length=N'.length)
  (hσ:∀(i j:Nat) x,N'[i]?=aA x->imp[i]?=aA (aA j)->scope.names.lookup x=aA .free/\(x,iY)∈scope.names/\X.N[j]?=aA x)(hs:bW cU=aB) :
  QS X T E (.Assign [.Name y py] (.ListComp elt [⟨tg,cU,ct.toList,0⟩] scope pos) pJ) (λZ=>(yR (mi Z) g mt me imp Z).bind λv=>(M.ret<|Z.set i<|aA v).bind λZ1=>M.ret (.nx Z1)):=by
 obtain⟨wi,pi,k⟩:=hi;refine⟨_,aCu hN hi' hy hsw hsc sE pi (λs H C fp=>(hg s H C fp).canon) (λc e s H C fp=>(hct c e s H C fp).canon) (λe Z H Q=>?_) (λs H C fp=>(he s H C fp).canon) (λZ=>by rw[zv,himp]) (λZ i x v d l=>?_) λx=>Nv hs,
  λm Z f h H D R S w=>Wy k R S (W.bind w λn x o h1 H1 d p q r=>W.here (b:=jR.nx (f.set i<|aA o)) r p ((S.ext d).set q i))⟩
 .rintro ⟨m,Z,h,R,S,w⟩
  rw[hct0 e]at w;exact W.here w R rfl
 .obtain⟨j,h1,t⟩:=Jg l;obtain⟨a,b,c⟩:=hσ i j x d h1;exact⟨a,b,j,c,t⟩
end
section
variable {X:Cx}{E:XK}{l:aL}{st:Stmt}
def mG(ks:List aN):gK:=λi _=>match ks[i]? with
 |some k=>aA (aA<|sG k)
 |none=>if i=ks.length then aA aD else aD
def pk(v:AV):M gK:=λh=>match v with
 |.ref n=>match h.ob n with
  |some (.aQ kvs)=>.ok (mG<|kvs.map (·.1)) (h.put n<|.dD kvs)
  |_=>.bad
 |_=>.bad
def uq{α:Type}(n:Nat)(r:Res α):Res α:=match r with
 |.ok a h=>match h.ob n with
  |some (.dD kvs)=>.ok a (h.put n<|.aQ kvs)
  |_=>.bad
 |_=>.bad
theorem aJm{o:Obj}(hH:H a=aA (.dC o<|.dK<|(kvs.map (·.1)).zip ys))(hl:ys.length=kvs.length):RI T Y H (mG<|kvs.map (·.1)) (Ff a o<|(kvs.map (·.1)).zip ys):=by
 intro d j l i e R;have b:=e.dC _ _ _ hH;have hlen:((kvs.map (·.1)).zip ys).length=kvs.length:=by simp[hl]
 refine⟨λz=>?_,λv z=>?_⟩
 .unfold mG at z;cases q:(kvs.map (·.1))[i]? with
  |some k=>rw[q]at z;cases z|none=>
   rw[q]at z;by_cases c:i=(kvs.map (·.1)).length
   .exact⟨b,by rw[hlen];simpa using c.symm⟩
   .rw[if_neg c]at z;cases z
 .unfold mG at z;cases q:(kvs.map (·.1))[i]? with
  |none=>rw[q]at z;dsimp only at z;split at z<;>cases z
  |some k=>
   rw[q]at z;cases z;have c:i<kvs.length:=by simpa using (List.getElem?_eq_some_iff.mp q).1
   refine⟨⟨b,hlen▸c⟩,λx m y=>?_⟩;obtain⟨rfl,h,n,f,rfl⟩:=y;have g:h=k:=by rw[LR]at f;rw[q]at f;exact(eF f.1).symm
   subst g;exact⟨d,.refl,R,BE h⟩
theorem aEv(ha:QE X T E l m):QI X T E tg l (λZ=>(m Z).bind pk):=by
 obtain⟨tl,pl,p⟩:=ha;refine⟨_,aBh pl,λr Z g h H R s S w=>p r Z g h H _ s S (W.bind w λd v B h1 H1 C i t c=>?_)⟩;unfold pk at c;cases v with
 |ref n=>
  cases t with
  |@ref _ a q=>
   dsimp only at c;cases o:h1.ob n with
   |none=>rw[o]at c;cases c|some u=>
    rw[o]at c;cases u with
    |aQ e=>
     obtain⟨D,j,f,y,k⟩:=i.obj n _ a o q;subst y;refine⟨a,_,rfl,f,λob=>?_⟩;have ex:Ext d H1 d (bG H1 a<|.dC ob<|.dK<|(e.map (·.1)).zip j):=⟨λ_ _ z=>z,λb xs z=>by
      rw[bY (qP z f λw=>by cases w)];exact z,λb x u z=>by
      rw[bY (qP z f λw=>by cases w)];exact z⟩
     obtain⟨Rf,A⟩:=i.write (o':=.dD e) o rfl rfl q f (λ_ z=>by cases z) (λ_ _ z=>by cases z) ⟨ob,_,j,gU,rfl,k.ext ex⟩;exact c d _ _ A Rf<|aJm gU (by have:=k.length;simpa using this.symm)
    |_=>exact c.elim
 |_=>exact c.elim
theorem aOi{α β:Type}{Rp:Rl α β}(sb:∀Y H H' a b,vU Y H H'->Rp Y H a b->Rp Y H' a b){r:Res α}{Q:β->Hp->Prop}(R:bP T Y h H)(hn:h.ob n=aA (.aQ kvs))
  (w:W T Rp (uq n r) Y H Q E):W T Rp r Y H (λb=>Tw H (Q b)) E:=by
 cases r with
 |ok a k=>
  intro d b H' e l q;unfold uq at w;dsimp only at w;cases o:k.ob n with
  |none=>rw[o]at w;exact w.elim|some u=>
   rw[o]at w;cases u with
   |dD g=>
    obtain⟨i,m,s,t,j,_,_⟩:=R.at hn;obtain⟨ob,p,f,R2⟩:=l.Oq o (e.pre n i m);refine⟨i,_,ob,p,j,f,w d b _ ⟨e.pre,λc xs z=>?_,λc x u z=>?_⟩ R2 (sb _ _ _ _ _ (Ye f) q)⟩
    .have:=e.tup c xs z;rw[bY (λy=>by rw[y,f]at this;cases this)];exact this
    .have:=e.dC c x u z;rw[bY (λy=>by rw[y,j]at z;cases z)];exact this
   |_=>exact w.elim
 |bad=>cases w
def yf(r:Res AV):Option Nat:=match r with
 |.ok (.ref n) _=>aA n
 |_=>aD
def mD{α:Type}(m0:aG->M AV)(ms:aG->M α):aG->M α:=λZ h=>match yf (m0 Z h) with
 |some n=>match h.ob n with
  |some (.aQ _)=>uq n (ms Z h)
  |_=>.bad
 |none=>.bad
theorem IC{α β:Type}{Rp:Rl α β}(sb:∀Y H H' a b,vU Y H H'->Rp Y H a b->Rp Y H' a b){ma:aG->M α}{Q:β->Hp->Prop}(R:bP T Y h H)
  (w:W T Rp (mD m0 ma Z h) Y H Q E):W T Rp (ma Z h) Y H (λb=>Tw H (Q b)) E:=by
 unfold mD at w;cases d:yf (m0 Z h) with
 |none=>rw[d]at w;exact w.elim|some n=>
  rw[d]at w;dsimp only at w;cases o:h.ob n with
  |none=>rw[o]at w;exact w.elim|some u=>
   rw[o]at w;cases u with
   |aQ c=>exact aOi sb R o w|_=>exact w.elim
theorem cX.ext2{Y:Hy}{H H':Hp}{Z:aG}{Z':L2.St}(S:cX T Y H Z Z')(e:vU Y H H'):cX T Y H' Z Z':=
 ⟨S.1,λi v q=>let ⟨c,a,b⟩:=S.2 i v q;⟨c,a,b.ext2 e⟩⟩
theorem aJw{a:Out}{b:jR}(e:vU Y H H')(r:RO T Y H a b):RO T Y H' a b:=by cases a<;>cases b<;>first|exact cX.ext2 r e|exact aX.ext2 e r|exact r
theorem FK(m0:aG->M AV)(hq:QS X T E st ms):QS X T E st (mD m0 ms):=by
 obtain⟨t,p,r⟩:=hq;refine⟨_,aCv p,λd f c h H D R S w=>r d f c h H _ R S ?_⟩;have k:=IC (Rp:=RO T) (λd H g a b e q=>aJw e q) R w;have e:(λb=>Tw H (nI D b))=nI (Xx H D):=by funext b;cases b<;>rfl
 rw[e]at k;exact k
theorem EV(m0:aG->M AV)(hq:QE X T E e m):QE X T E e (mD m0 m):=by obtain⟨t,p,r⟩:=hq;exact⟨_,aAy p,λd f c h H Q R S w=>r d f c h H _ R S (IC (Rp:=aX T) (λd H g a b e q=>aX.ext2 e q) R w)⟩
end
inductive Kc where
 |any|srt (b:Bool)|Am
 |sd
def wC:Ht->Option (List Bool)
 |[]=>aA []
 |.bl b::r=>(wC r).map (b::·)
 |_=>aD
def oY:Ht->Option (List Int)
 |[]=>aA []
 |.int b::r=>(oY r).map (b::·)
 |_=>aD
theorem Vz:∀bs:Yt,wC (bs.map AV.bl)=aA bs
 |[]=>rfl|b::bs=>by simp[wC,Vz bs]
theorem zz:∀bs:Hx,oY (bs.map AV.int)=aA bs
 |[]=>rfl|b::bs=>by simp[oY,zz bs]
def Kc.gl:Kc->Ht->M AV
 |.any,xs=>λh=>match wC xs with
  |some bs=>.ok (.bl<|bs.any id) h
  |none=>.bad
 |.srt b,xs=>λh=>match oY xs with
  |some ns=>if ns.length<64 then kH ((jX b ns).map AV.int) h else .bad
  |none=>.bad
 |.Am,xs=>λh=>match oY xs with
  |some ns=>.ok (if ns.isEmpty then .aE else .int (sL ns)) h
  |none=>.bad
 |.sd,xs=>λh=>match oY xs with
  |some ns=>if ns.length<64 then kH ((jX aH ns).map AV.int) h else .bad
  |none=>.bad
def gk:List aN->Option (List Int)
 |[]=>aA []
 |.inl i::r=>(gk r).map (i::·)
 |_=>aD
theorem AR:∀{ks:List aN}{ns:Hx},gk ks=aA ns->ks=ns.map nP
 |[],ns,e=>by cases e;rfl
 |.inl i::r,ns,e=>by
  simp only[gk]at e;cases q:gk r with
  |none=>rw[q]at e;cases e|some bs=>rw[q]at e;cases e;rw[AR q];rfl
 |.inr _::_,_,e=>by cases e
def Kc.gd:Kc->List (aN×AV)->M AV
 |.sd,kvs=>λh=>match gk (kvs.map (·.1)) with
  |some ns=>if ns.length<64 then kH ((jX aH ns).map AV.int) h else .bad
  |none=>.bad
 |_,_=>M.bad
def Kc.g(k:Kc)(x:AV):M AV:=λh=>match x with
 |.ref n=>match h.ob n with
  |some (.lst _ xs)=>k.gl xs h
  |some (.aQ kvs)=>k.gd kvs h
  |_=>.bad
 |_=>.bad
section
variable {X:Cx}{E:XK}{a:aL}
theorem Vy{Y:Hy}{H:Hp}:∀{xs:Ht}{ys:Hw}{bs:Yt},bF T Y H xs ys->wC xs=aA bs->ys=bs.map V.bl
 |_,_,_,.nil,e=>by cases e;rfl
 |_,_,_,.cons (xs:=xs) h t,e=>by
  cases h with
  |bl b=>
   simp only[wC]at e;cases q:wC xs with
   |none=>rw[q]at e;cases e|some bs=>rw[q]at e;cases e;rw[Vy t q];rfl
  |_=>cases e
theorem zy{Y:Hy}{H:Hp}:∀{xs:Ht}{ys:Hw}{bs:Hx},bF T Y H xs ys->oY xs=aA bs->ys=bs.map V.int
 |_,_,_,.nil,e=>by cases e;rfl
 |_,_,_,.cons (xs:=xs) h t,e=>by
  cases h with
  |int b=>
   simp only[oY]at e;cases q:oY xs with
   |none=>rw[q]at e;cases e|some bs=>rw[q]at e;cases e;rw[zy t q];rfl
  |_=>cases e
theorem Js(hK:X.K=T.K){k:Kc}
  (hgd:k.gd=λ_=>M.bad)(R:bP T Y h H)(r:aX T Y H x x')(w:W T (aX T) (k.g x h) Y H Q E) :
  ∃(l:Addr) (xs:Ht) (ys:Hw),x' = .ref l/\dN X.K H l ys/\bF T Y H xs ys/\W T (aX T) (k.gl xs h) Y H Q E:=by
 unfold Kc.g at w;cases x with
 |ref n=>
  cases r with
  |@ref _ l q=>
   dsimp only at w;cases o:h.ob n with
   |none=>rw[o]at w;cases w|some u=>
    rw[o]at w;cases u with
    |lst b xs=>obtain⟨ys,h1,a⟩:=pB R o q;exact⟨l,xs,ys,rfl,hK▸h1,a,w⟩
    |aQ c=>dsimp only at w;rw[hgd]at w;cases w|_=>exact w.elim
 |_=>exact w.elim
theorem aDo(hK:X.K=T.K) (hc:X.calm=aB) (hg:Gl X "any") (hm:X.mg "any"=aD) (ha:QE X T E a m) (hs:bW a=aB):QE X T E (.Call (.Name "any" p) [a] [] pos) (λZ=>(m Z).bind (Kc.any.g)):=by
 obtain⟨o,pa,f⟩:=ha;refine⟨_,Ay (VQ hc) hg hm (by decide +kernel) (xA pa af<|fV hs) (by decide) (rfl) (fV hs) rfl,λg Z c h H Q R S w=>?_⟩;refine f g Z c h H _ R S<|W.bind w λi x r h1 H1 s d j k=>?_;obtain⟨l,xs,t,rfl,n,hr,b⟩:=Js hK rfl d j k;simp only[Kc.gl]at b;cases q:wC xs with
 |none=>rw[q]at b;cases b|some bs=>rw[q]at b;have e:=Vy hr q;subst e;exact⟨l,bs,rfl,n,b.here d (.bl _)⟩
theorem aEq(hK:X.K=T.K){k:Nat}{kp:Pos}(hg:Gl X "sorted")(hm:X.mg "sorted"=aD)(ha:QE X T E a m)(hs:bW a=aB) :
  QE X T E (.Call (.Name "sorted" p) [a] [⟨aA "reverse",.Constant (.bool b) k kq,kp⟩] pos) (λZ=>(m Z).bind ((Kc.srt b).g)):=by
 obtain⟨G,pa,n⟩:=ha;refine⟨_,DX (r:=λv H Q=>∃l ns,v = .ref l/\dN X.K H l (ns.map V.int)/\ns.length<64/\∀D,H D=aD->Q (.ref D) (bG H D<|.lst<|(jX b ns).map V.int)) ?_ hg hm boot_sorted pa Li (fV hs) (by decide) (rfl),λo Z d h H Q R S w=>?_⟩
 .intro pins s Z H v u t Q I y z ⟨l,ns,ev,f,hn,q⟩;subst ev;cases y;have i:=z;subst i;exact WI b I f hn q
 refine n o Z d h H _ R S<|W.bind w λA x J h1 H1 K j B C=>?_;obtain⟨l,xs,L,rfl,f,hr,c⟩:=Js hK rfl j B C;simp only[Kc.gl]at c;cases q:oY xs with
 |none=>rw[q]at c;cases c|some ns=>
  rw[q]at c;dsimp only at c;have e:=zy hr q;subst e;by_cases hn:ns.length<64
  .rw[if_pos hn]at c;exact⟨l,ns,rfl,f,hn,λD F=>uM j (bF.ints _) F c⟩
  .rw[if_neg hn]at c;exact c.elim
theorem aEi(hK:X.K=T.K)(hc:X.calm=aB){k:Nat}{kp:Pos}(hg:Gl X "min")(hm:X.mg "min"=aD)(ha:QE X T E a m)(hs:bW a=aB) :
  QE X T E (.Call (.Name "min" p) [a] [⟨aA "default",.Constant .none k kq,kp⟩] pos) (λZ=>(m Z).bind (Kc.Am.g)):=by
 obtain⟨B,pa,g⟩:=ha;refine⟨_,DX (r:=λv H Q=>∃l ns,v = .ref l/\dN X.K H l (ns.map V.int)/\Q (if ns.isEmpty then .aE else .int (sL ns)) H) ?_ hg hm (show mV "min"=aA (.builtin "min") from by decide +kernel) pa Lj (fV hs) (by decide) (rfl),λi Z d h H Q R S w=>?_⟩
 .intro pins s Z H v u C Q I j o ⟨l,ns,ev,c,q⟩;subst ev;cases j;cases ns with
  |nil=>exact WE hc I c o q|cons n r=>exact WG hc I c (by intro z;cases z) q
 refine g i Z d h H _ R S<|W.bind w λt x D h1 H1 F f y A=>?_;obtain⟨l,xs,G,rfl,c,hr,b⟩:=Js hK rfl f y A;simp only[Kc.gl]at b;cases q:oY xs with
 |none=>rw[q]at b;cases b|some ns=>
  rw[q]at b;have e:=zy hr q;subst e;refine⟨l,ns,rfl,c,?_⟩;cases ns with
  |nil=>exact W.here b f .aE|cons n r=>exact W.here b f<|.int _
theorem aEo(hK:X.K=T.K) (hc:X.calm=aB) (hg:Gl X "sorted") (hm:X.mg "sorted"=aD) (ha:QE X T E a m) (hs:bW a=aB):QE X T E (.Call (.Name "sorted" p) [a] [] pos) (λZ=>(m Z).bind (Kc.sd.g)):=by
 obtain⟨A,pa,k⟩:=ha;refine⟨_,Ay (iO.or (WH hc)
  WJ
  ) hg hm boot_sorted (xA pa af<|fV hs) (by decide) (rfl) (fV hs) rfl,λl Z g h H Q R S w=>?_⟩
 refine k l Z g h H _ R S<|W.bind w λr x B h1 H1 C f s c=>?_;unfold Kc.g at c;cases x with
 |ref n=>
  cases s with
  |@ref _ a q=>
   dsimp only at c;cases o:h1.ob n with
   |none=>rw[o]at c;cases c|some u=>
    rw[o]at c;cases u with
    |lst b xs=>
     obtain⟨t,g1,g2⟩:=pB f o q;simp only[Kc.gl]at c;cases d:oY xs with
     |none=>rw[d]at c;cases c|some ns=>
      rw[d]at c;dsimp only at c;have e:=zy g2 d;subst e;by_cases hn:ns.length<64
      .rw[if_pos hn]at c;exact .inr ⟨a,ns,rfl,hK▸g1,hn,λD i=>uM f (bF.ints _) i c⟩
      .rw[if_neg hn]at c;cases c
    |aQ j=>
     simp only[Kc.gd]at c;obtain⟨F,t,v,y,z⟩:=f.obj n _ a o q;subst y;cases d:gk (j.map (·.1)) with
     |none=>rw[d]at c;cases c|some ns=>
      rw[d]at c;dsimp only at c;by_cases hn:ns.length<64
      .rw[if_pos hn]at c;refine .inl ⟨a,_,ns,rfl,v,?_,hn,λD i=>uM f (bF.ints _) i c⟩;rw[List.map_fst_zip (by have:=z.length;simp at this ⊢;lia)];exact AR d
      .rw[if_neg hn]at c;cases c
    |_=>cases c
 |_=>exact c.elim
end
inductive BT where
 |aE|bl|int|str|tup|lst|aQ
 deriving DecidableEq
def BT.nm:BT->String
 |.aE=>"NoneType" |.bl=>"bool" |.int=>"int" |.str=>"str" |.tup=>"tuple" |.lst=>"list" |.aQ=>"dict"
def BT.sub(s t:BT):Bool:=decide (s=t)||(decide (s = .bl)&&decide (t = .int))
theorem zV{K:bI}(s t:BT):Sq K (.type s.nm) (.type t.nm)=aA (s.sub t):=by cases s<;>cases t<;>first|rfl|(with_unfolding_all rfl)|decide +kernel
inductive tR(K:bI)(H:Hp):V->BT->Prop where
 |aE:tR K H .aE .aE
 |bl (x:Bool):tR K H (.bl x) .bl
 |int (i:Int):tR K H (.int i) .int
 |str (x:Str):tR K H (.str x) .str
 |lst {a:Addr}{xs:Hw} (e:dN K H a xs):tR K H (.ref a) .lst
 |tup {a:Addr}{xs:Hw} (e:eH K H a xs):tR K H (.ref a) .tup
 |aQ {a:Addr}{kvs:List (aN×V)} (e:H a=aA (.dK kvs)):tR K H (.ref a) .aQ
def tS(h:AH):AV->Option BT
 |.aE=>aA .aE
 |.bl _=>aA .bl
 |.int _=>aA .int
 |.str _=>aA .str
 |.tup _=>aA .tup
 |.ref n=>match h.ob n with
  |some (.lst _ _)=>aA .lst
  |some (.aQ _)=>aA .aQ
  |_=>aD
 |_=>aD
def zG(t:BT)(x:AV):M AV:=λh=>match tS h x with
 |some s=>.ok (.bl<|s.sub t) h
 |none=>.bad
section
variable {X:Cx}{E:XK}{a b l o:aL}
theorem VV(t:BT):iO X (.builtin "isinstance") (λxs H Q=>∃x s,xs=[x,.ty t.nm]/\tR X.K H x s/\Q (.bl<|s.sub t) H):=by
 intro pins st Z H xs us Q I r h;obtain⟨x,s,rfl,ty,q⟩:=h;obtain⟨u,g,rfl,b,d⟩:=xJ r;obtain rfl:g=Tc t.nm:=d;have fin:∀tk,EP X pins Z Q (.bool<|s.sub t) { st with toks:=tk }:=λtk=>⟨.bl _,H,I.tok tk,rfl,q⟩;cases ty with
 |aE=>cases b;exact ck W.kitx_none I.fI oQ (zV .aE t) (nofun) fin|bl y=>cases b;exact ck W.kitx_bool I.fI oQ (zV .bl t) (nofun) fin|int i=>obtain⟨tk,rfl⟩:=b;exact ck W.kitx_int I.fI oQ (zV .int t) (nofun) fin|str y=>obtain⟨tk,rfl⟩:=b;exact ck W.kitx_str I.fI oQ (zV .str t) (nofun) fin|lst e=>cases b;obtain⟨_,_,⟨ob,n,h1,c,_⟩,_⟩:=I.list e;exact ck W.kitx_list I.fI ⟨ob,h1,c⟩ (zV .lst t) (nofun) fin
 |tup e=>cases b;obtain⟨_,_,⟨ob,h1,c,_⟩,_⟩:=I.tuple e;exact ck W.kitx_tuple I.fI ⟨ob,h1,c⟩ (zV .tup t) (nofun) fin
 |@aQ a f e=>cases b;obtain⟨_,_,j,_,ob,k,l,h1,c,_⟩:=(show hZ X.prog X.w H st.heap a (.dK f) from I.bA a _ e);exact ck W.kitx_dict I.fI ⟨ob,h1,c.1⟩ (zV .aQ t) (nofun) fin
theorem VL(hK:X.K=T.K){s:BT}(R:bP T Y h H)(r:aX T Y H x x')(e:tS h x=aA s):tR X.K H x' s:=by
 cases r with
 |aE=>cases e;exact .aE|bl b=>cases e;exact .bl b|int i=>cases e;exact .int i|str y=>cases e;exact .str y|tup c hr=>cases e;exact .tup<|hK▸c|@ref n a q=>
  simp only[tS]at e;cases o:h.ob n with
  |none=>rw[o]at e;cases e|some u=>
   rw[o]at e;cases u with
   |lst m xs=>cases e;obtain⟨d,h1,_⟩:=pB R o q;exact .lst<|hK▸h1
   |aQ f=>cases e;obtain⟨g,d,h1,_⟩:=R.obj n _ a o q;exact .aQ h1
   |dD _=>cases e|ins _ _=>cases e
 |lL q=>cases e
theorem aEb(hK:X.K=T.K){y:Str}(t:BT)(hg:Gl X "isinstance")(hm:X.mg "isinstance"=aD)(hg2:Gl X y)(hm2:X.mg y=aD)(hv2:mV y=aA (.type t.nm))(hn2:y≠"__name__")(hd2:(y==("__debug__":Str))=aH)
  (ha:QE X T E a m)(hs:bW a=aB):QE X T E (.Call (.Name "isinstance" p) [a,.Name y p2] [] pos) (λZ=>(m Z).bind (zG t)):=by
 obtain⟨k,pa,e⟩:=ha;refine⟨_,Ay (VV t) hg hm boot_isinstance (xA pa (xA (aAb (v:=.ty t.nm) hg2 hm2 hv2 rfl hn2 hd2) af)<|fV hs) (by decide) (rfl) (fV hs) rfl,λf Z c h H Q R S w=>?_⟩;refine e f Z c h H _ R S<|W.bind w λg x i h1 H1 l d j b=>?_;unfold zG at b;cases o:tS h1 x with
 |none=>rw[o]at b;cases b|some s=>rw[o]at b;exact⟨i,s,rfl,VL hK d j o,b.here d (.bl _)⟩
def uC(x v:AV):M AV:=λh=>match x with
 |.ref n=>match h.ob n with
  |some (.lst aB xs)=>if xs.length<sizeLine then .ok .aE (h.put n<|.lst aB<|xs++[v]) else .bad
  |_=>.bad
 |_=>.bad
def zS(h:AH):AV->Bool
 |.ref n=>match h.ob n with
  |some (.lst _ _)=>aB
  |_=>aH
 |_=>aH
def Fs(a b:M AV):M AV:=a.bind λx h=>if zS h x=aB then(b.bind λy=>uC x y) h else .bad
theorem ro{α β:Type} [BEq α] [LawfulBEq α]:∀{l:List (α×β)}{x:α}{v:β},l.lookup x=aA v->(x,v)∈l
 |[],_,_,h=>by cases h
 | (k,u)::r,x,v,h=>by
  rw[iX]at h;cases hb:(x==k) with
  |true=>simp only[hb]at h;rw[eq_of_beq hb,eF h];exact kB ..
  |false=>simp only[hb]at h;exact lT _<|ro h
def kE:aL->Bool
 |.Name ..=>aB | .Attribute ..=>aB | .Subscript ..=>aB
 |.Call (.Attribute ..) _ _ _=>aB
 |.Call (.Name ..) (_::_) _ _=>aB
 |_=>aH
theorem wB{o:aL}{f:Str}{whole:Sem Value}(h:kE o=aB):lj o f env whole=whole:=by
 cases o with
 |Name=>rfl|Attribute=>rfl|Subscript=>rfl|Call g a b p=>
  cases g with
  |Attribute=>rfl|Name=>
   cases a with
   |nil=>cases h|cons=>rfl
  |_=>cases h
 |_=>cases h
theorem js{p:Addr}(g1:H p=aA O)(nt:∀xs,O ≠ .tup xs)(nf:∀x u,O ≠ .dC x u):Ext Y H Y (bG H p O'):=⟨λ_ _ z=>z,λb xs z=>by
 rw[bY (qP z g1 λw=>nt xs w.symm)];exact z,λb x u z=>by
 rw[bY (qP z g1 λw=>nf x u w.symm)];exact z⟩
theorem aDp(hK:X.K=T.K)(ho:QE X T E o ma)(ha:QE X T E a mb)(hb:kE o=aB)(hs:bW a=aB)(hl:(apos.endLine==pos.line)=aB) :
  QE X T E (.Call (.Attribute o "append" apos) [a] [] pos) (λZ=>Fs (ma Z) (mb Z)):=by
 obtain⟨M,pa,B⟩:=ho;obtain⟨tb,C,D⟩:=ha;refine⟨_,DW NC aUl aUn P0 pa (xA C af<|fV hs) (wB hb) (by rw[fV hs];rfl) hl (fV hs) rfl,λF Z k h H Q R S w=>?_⟩;refine B F Z k h H _ R S<|W.bind w λg x N h1 H1 G t I J=>?_;have e:=J;by_cases d:zS h1 x=aB
 case neg=>rw[if_neg d]at e;cases e
 rw[if_pos d]at e;cases x with
 |ref n=>
  cases I with
  |@ref _ p q=>
   have fin:∀b y i j f,Ext g H1 b f->bP T b j f->aX T b f y i->W T (aX T) (uC (.ref n) y j) b f Q E->FW (.ref p) [i] f Q:=λb y i j f l R2 m c=>by
    have v:=l.pre n p q;simp only[uC]at c;cases ob:j.ob n with
    |none=>rw[ob]at c;cases c|some u=>
     rw[ob]at c;cases u with
     |lst mu xs=>
      cases mu with
      |true=>
       obtain⟨r,g1,A⟩:=R2.obj n _ p ob v;by_cases s:xs.length<sizeLine
       .simp only[if_pos s]at c;obtain⟨K,L⟩:=R2.write (o':=.lst aB (xs++[y])) ob rfl rfl v g1 (nofun) (λ_ _ z=>by cases z)
         ⟨_,gU,(A.append<|.cons m .nil).ext (js g1 (nofun) (λ_ _ z=>by cases z))⟩
        exact⟨p,r,i,rfl,rfl,g1,A.length▸s,W.ok c L K .aE⟩
       .simp only[if_neg s]at c;cases c
      |false=>cases c
     |aQ _=>cases c|dD _=>cases c|ins _ _=>cases c
   refine⟨.inl ⟨rfl,?_⟩,D g Z k h1 H1 _ t (S.ext G) (W.bind e λb y i j f l R2 m c=>fin b y i j f l R2 m c)⟩;simp only[zS]at d;cases ob:h1.ob n with
   |none=>rw[ob]at d;cases d|some u=>
    cases u with
    |lst mu xs=>obtain⟨r,g1,_⟩:=pB t ob q;exact⟨r,hK▸g1⟩
    |aQ _=>rw[ob]at d;cases d|dD _=>rw[ob]at d;cases d|ins _ _=>rw[ob]at d;cases d
 |_=>cases d
def my(P:cB)(w:bR)(K:bI)(a:Addr)(kvs:Yh):Prop:=∀h:bH,K.In h->StrTab P w h a (kvs.map λp=>(Rz p.1,rP p.2))
theorem N1(x:Str)(kvs:Yh):NI (.str x) (kvs.map λp=>(Rz p.1,rP p.2))=(kvs.lookup x).map rP:=by
 induction kvs with
 |nil=>rfl|cons p r a=>
  obtain⟨k,v⟩:=p;rw[iX];show(if(k==x)=aB then aA (rP v) else NI (.str x) (r.map λp=>(Rz p.1,rP p.2)))=_;by_cases h:k=x
  .subst h;simp
  .have h1:=beq_eq_false_iff_ne.mpr h;have b:=beq_eq_false_iff_ne.mpr (lE h);rw[h1,b,if_neg fX,a]
def getOf(kvs:Yh)(x:Str)(z:Int):Int:=(kvs.lookup x).getD z
def aMw(X:Cx)(to:TE)(t:TA):TE:=λZ H Q=>to Z H λx H1=>∃a kvs,x = .ref a/\my X.prog X.w X.K a kvs/\t Z H1 λvs H2=>∃s z,vs=[.str s,.int z]/\Q (.int<|getOf kvs s z) H2
theorem aAl{to:TE}{t:TA}(ho:PE X o to)(ha:PA X [a,b] t)(hb:kE o=aB)(hs:bW a=aB)(hs2:bW b=aB)(hl:(apos.endLine==pos.line)=aB):PE X (.Call (.Attribute o "get" apos) [a,b] [] pos) (aMw X to t):=by
 intro pins s Z H Q I h;refine NZ (wB hb) (by rw[fV hs,fV hs2];rfl) hl rfl<|bE (ho pins s Z H _ I h) λv s1 j=>?_;obtain⟨x,H1,l,u,p,c,e,tab,w⟩:=j;subst e;cases u;obtain⟨hn,C,⟨ob,D,E,g1,g2,_⟩,_⟩:=id (tab _ l.fI);refine⟨"dict","dict.get",NB,ku,NH,⟨ob,g1,g2.1⟩,λF y=>?_,?_⟩
 .cases y;exact⟨ob,g1,g2.2.1⟩
 .have m:=ha pos pins s1 Z H1 _ l w;rw[fV hs]at m ⊢;refine Qc (by show(aH||(lU pos<|eO [b] X.env).any (·.1))=aH;rw[fV hs2]<;>rfl)<|KH ?_;refine bE m λus s2 j=>?_;obtain⟨G,n,g,A,q,z,B,f⟩:=j;subst B;obtain⟨J,K,rfl,⟨t1,rfl⟩,⟨r,rfl⟩⟩:=xJ A;have i:=N1 q c;unfold getOf at f;cases lk:c.lookup q with
  |some d=>
   rw[lk]at i f;exact W.kt_get2_thereS (tab _ g.fI) i (MT z r) λv k=>by obtain⟨t3,rfl⟩:=k.int_inv;exact⟨.int d,n,g.tok _,⟨_,rfl⟩,f⟩
  |none=>
   rw[lk]at i f;exact W.kt_get2_noneS (tab _ g.fI) i (MT z r) λv k=>by obtain⟨t3,rfl⟩:=k.int_inv;exact⟨.int z,n,g.tok _,⟨_,rfl⟩,f⟩
def HZ:AV->Option (List<|Str×Int)
 |.lL kvs=>aA kvs
 |_=>aD
def jg:Ht->Option (Str×Int)
 |[.str s,.int z]=>aA (s,z)
 |_=>aD
theorem aMa{s:Str}{z:Int}(h:jg xs=aA (s,z)):xs=[.str s,.int z]:=by
 unfold jg at h;split at h
 .cases h;rfl
 .cases h
def Iu(o:M AV)(r:M Ht):M AV:=o.bind λx h=>match HZ x with
 |some kvs=>(r.bind λxs h2=>match jg xs with
  |some (s,z)=>.ok (.int<|getOf kvs s z) h2
  |none=>.bad) h
 |none=>.bad
theorem aDz(hT:∀kvs a,T.G kvs a->my X.prog X.w X.K a kvs)(ho:QE X T E o ma)(ha:QA X T E [a,b] mr)(hb:kE o=aB)(hs:bW a=aB)(hs2:bW b=aB)(hl:(apos.endLine==pos.line)=aB) :
  QE X T E (.Call (.Attribute o "get" apos) [a,b] [] pos) (λZ=>Iu (ma Z) (mr Z)):=by
 obtain⟨G,pa,m⟩:=ho;obtain⟨I,pr,n⟩:=ha;refine⟨_,aAl pa pr hb hs hs2 hl,λq Z c h H Q R S w=>m q Z c h H _ R S (W.bind w λd x J h1 H1 r t u v=>?_)⟩;have k:W T (aX T) (match HZ x with
  |some kvs=>((mr Z).bind λxs f=>match jg xs with
   |some (s,z)=>.ok (.int<|getOf kvs s z) f
   |none=>.bad) h1
  |none=>Res.bad) d H1 Q E:=v
 cases x with
 |lL kvs=>
  cases u with
  |@lL _ p e=>
   refine⟨p,kvs,rfl,hT kvs p e,n d Z c h1 H1 _ t (S.ext r) (W.bind k λg xs y f A K R2 B C=>?_)⟩;have i:W T (aX T) (match jg xs with
    |some (s,z)=>.ok (.int<|getOf kvs s z) f
    |none=>Res.bad) g A Q E:=C
   cases l:jg xs with
   |none=>rw[l]at i;cases i|some p=>
    obtain⟨s,z⟩:=p;have ex:=aMa l;subst ex;cases B with
    |cons D rs=>
     cases D;cases rs with
     |cons F j=>cases F;cases j;exact⟨s,z,rfl,W.here i R2 (.int _)⟩
 |_=>exact k.elim
end
section
variable {X:Cx}{E:XK}{o v:aL}{f:Str}{pos':Pos}
theorem Ih{v:AV}:∀{fs:Yf}{ys:Hw},bF T Y H (fs.map (·.2)) ys->fs.lookup f=aA v->∃y,((fs.map (·.1)).zip ys).lookup f=aA y/\aX T Y H v y
 |[],_,_,l=>by cases l
 | (k,x)::fs,_,.cons h hs,l=>by
  rw[iX]at l;rw[kM,Dx,iX];cases hb:(f==k) with
  |true=>simp only[hb]at l ⊢;cases l;exact⟨_,rfl,h⟩
  |false=>simp only[hb]at l ⊢;exact Ih hs l
def uD(cs:Ia)(f:Str)(x:AV):M AV:=λh=>match x with
 |.ref n=>match h.ob n with
  |some (.ins c fs)=>if cs.contains c=aB then match fs.lookup f with
   |some v=>.ok v h
   |none=>.bad
   else .bad
  |_=>.bad
 |_=>.bad
def dz(K:bI)(T:Tab)(cs:Ia)(f:Str):Prop:=∀c C,cs.contains c=aB->T.C c=aA C->mW K C/\vW K C f
theorem aDy{cs:Ia}(hC:dz X.K T cs f)(ho:QE X T E o ma)(hb:kE o=aB):QE X T E (.Attribute o f pos) (λZ=>(ma Z).bind (uD cs f)):=by
 obtain⟨B,pa,e⟩:=ho;refine⟨_,aAk pa (wB hb),λi Z b h H Q R S w=>e i Z b h H _ R S (W.bind w λj x D h1 H1 F d k a=>?_)⟩;cases x with
 |ref n=>
  cases k with
  |@ref _ p q=>
   simp only[uD]at a;cases ob:h1.ob n with
   |none=>rw[ob]at a;cases a|some u=>
    rw[ob]at a;cases u with
    |ins c fs=>
     obtain⟨C,m,G,I,s,g,rfl,r⟩:=d.obj n _ p ob q;by_cases hm:cs.contains c=aB
     case neg=>simp only[if_neg hm]at a;cases a
     simp only[if_pos hm]at a;cases l:fs.lookup f with
     |none=>rw[l]at a;cases a|some v=>rw[l]at a;obtain⟨y,t,z⟩:=Ih r l;obtain⟨h1,A⟩:=hC c C hm s;exact⟨p,C,m,_,y,rfl,g,h1,A,t,W.here a d z⟩
    |_=>cases a
 |_=>cases a
def gC(f:Str)(v:AV):Yf->Yf
 |[]=>[(f,v)]
 | (g,x)::r=>if g=f then(g,v)::r else(g,x)::gC f v r
theorem Lu{v:AV}{y:V}(rv:aX T Y H v y):∀{fs:Yf}{ys:Hw},bF T Y H (fs.map (·.2)) ys->∃ys',jU f y ((fs.map (·.1)).zip ys)=((gC f v fs).map (·.1)).zip ys'/\bF T Y H ((gC f v fs).map (·.2)) ys'
 |[],_,.nil=>⟨[y],rfl,.cons rv .nil⟩
 | (k,x)::fs,_,.cons (y:=z) (ys:=zs) h hs=>by
  obtain⟨ys',e,r⟩:=Lu rv hs;by_cases a:k=f
  .refine⟨y::zs,?_,?_⟩
   .simp only[gC,if_pos a,kM,Dx,jU]
   .simp only[gC,if_pos a];exact .cons rv hs
  .refine⟨z::ys',?_,?_⟩
   .simp only[gC,if_neg a,kM,Dx,jU,e]
   .simp only[gC,if_neg a];exact .cons h r
def uf(cs:Ia)(f:Str)(x v:AV)(h:AH):Option AH:=match x with
 |.ref n=>match h.ob n with
  |some (.ins c fs)=>if cs.contains c=aB/\fs.length<1000 then aA (h.put n<|.ins c<|gC f v fs) else aD
  |_=>aD
 |_=>aD
def Yz(cs:Ia)(f:Str)(a b:M AV)(Z:aG):M Out:=b.bind λv=>a.bind λx h=>match uf cs f x v h with
 |some h'=>.ok (.nx Z) h'
 |none=>.bad
theorem aHw{cs:Ia}(hC:dz X.K T cs f)(ho:QE X T E o ma)(hv:QE X T E v mb)(hs:vT v (aA<|.Attribute o f pos') pos.line X.env=pure aH) :
  QS X T E (.Assign [.Attribute o f pos'] v pos) (λZ=>Yz cs f (ma Z) (mb Z) Z):=by
 obtain⟨ZH,pa,B⟩:=ho;obtain⟨tb,F,G⟩:=hv;refine⟨_,aCl pa F hs,λY Z d h H D R S w=>G Y Z d h H _ R S (W.bind w λj y y' h1 H1 l I J K=>B j Z d h1 H1 _ I (S.ext l) (W.bind K λe x x' m L s R2 M N=>?_))⟩;have a:W T (RO T) (match uf cs f x y m with
  |some O=>.ok (.nx Z) O
  |none=>.bad) e L (nI D) E:=N
 cases x with
 |ref n=>
  cases M with
  |@ref _ p q=>
   simp only[uf]at a;cases ob:m.ob n with
   |none=>simp only[ob]at a;cases a|some u=>
    simp only[ob]at a;cases u with
    |ins c fs=>
     obtain⟨C,k,ks,ys,t,g,rfl,r⟩:=R2.obj n _ p ob q;by_cases hm:cs.contains c=aB/\fs.length<1000
     case neg=>simp only[if_neg hm]at a;exact a.elim
     simp only[if_pos hm]at a;obtain⟨P,Q⟩:=hC c C hm.1 t;obtain⟨i,U,V⟩:=Lu (f:=f) (J.ext s) r;have ex:=js (Y:=e) (O':=.ins C k (((gC f y fs).map (·.1)).zip i)) g (λ_ z=>by cases z) (λ_ _ z=>by cases z);obtain⟨ZM,A⟩:=R2.write (o':=.ins c (gC f y fs)) ob rfl rfl q g (λ_ z=>by cases z) (λ_ _ z=>by cases z)
      ⟨C,k,_,i,t,gU,rfl,V.ext ex⟩
     refine⟨p,C,k,_,rfl,g,P,Q,?_,?_⟩
     .rw[LV,aW];lia
     .rw[U];exact W.ok (b:=jR.nx d) a A ZM<|(S.ext l).ext (s.trans A)
    |_=>cases a
 |_=>exact a.elim
inductive yF(X:Cx)(T:Tab)(EE:L2.St->XK)(C:Addr)(m:Str)(g:Ht->M AV):Prop
 |mk (k:Nat) (f:Addr) (fd:eT) (ps:YX) (_:iP X.prog X.w X.K X.mg X.base (kQ X.prog X.w) k f fd ps (sX T g)) (_:fF k X.A) (_:mW X.K C) (_:xf X.K C m f) (_:Binds X.K fd ps []) (_:Us (kQ X.prog X.w) X EE):yF X T EE C m g
def HS(X:Cx)(T:Tab)(m:Str)(EE:L2.St->XK)(ta:TE)(t:TA):TE:=λZ H Q=>ta Z H λx H1=>∃(a C dx:Addr) (fs:Yk) (g:Ht->M AV),x = .ref a/\H1 a=aA (.ins C dx fs)/\fs.lookup m=aD/\yF X T EE C m g /\
 t Z H1 λvs H2=>sX T g (x::vs) H2 Q (EE Z)
variable {EE:L2.St->XK}
variable {m:Str}{t:TA}
theorem Gx{Xe:Value->aJ->Prop}{Q:Value->aJ->Prop}(h0:lj o m env (eval o env)=eval o env)
  (h1:Tn (args.length+([]:List tF).length) (lU pos<|eO args env) (xX pos<|xZ [] env)=aB)(h2:(apos.endLine==pos.line)=aB)
  (h:aS (aY X.prog X.w) A (eval o env) (λov s1=>∀pl,aS (aY X.prog X.w) A (Ti ov m pl) (λfx s2=>aS (aY X.prog X.w) A (callWith pos fx.1 fx.2 (lU pos<|eO args env)<|xX pos<|xZ [] env) Q Xe s2) Xe s1) Xe s) :
  aS (aY X.prog X.w) A (eval (.Call (.Attribute o m apos) args [] pos) env) Q Xe s:=by
 have a:NV aB o env apos pos=pure pos:=by unfold NV;simp[h2]
 rw[arm_eval_Call,h0];refine aP<|bE h λov s1 z=>aP (mm ?_);unfold methodCall;rw[h1];exact aP<|oR<|bE (z _) λfx s2 y=>aP (Ud a y)
theorem Ij(hs:args.all bW=aB)(hn:args.length<30):Tn (args.length+([]:List tF).length) (lU pos<|eO args env) (xX pos<|xZ [] env)=aB:=by unfold Tn;rw[<- MA,sW hs];simpa[xZ,xX]using hn
theorem aAr(he:PE X o ta)(ha:PA X (e::es) t)(hb:kE o=aB)(hs:(e::es).all bW=aB)(hn:(e::es).length<30)(hl:(apos.endLine==pos.line)=aB):PE X (.Call (.Attribute o m apos) (e::es) [] pos) (HS X T m EE ta t):=by
 intro pins s Z H Q I h;have b:=hs;rw[jZ,bQ]at hs;refine Gx (wB hb) ?_ hl<|bE (he pins s Z H _ I h) λu s1 ⟨x,H1,i,n,a,C,y,fs,g,ex,p,l,F,q⟩ pl=>?_
 .exact Ij b hn
 subst ex;obtain rfl:u=kO a:=n;obtain⟨k,f,fd,ps,F,hr,c,hm,d,v⟩:=F;refine AD i p c hm l ?_;refine Eg I.ok.mod.gr hm.kp (bE (ha pos pins s1 Z H1 _ i q) λus s2 ⟨vs,z,j,r,w⟩=>⟨j.fI,?_⟩) (fV hs.1)<|sW hs.2;exact GU (vs:=.ref a::vs) F hr d v j (.cons rfl r) w
theorem aAs(he:PE X o ta)(hb:kE o=aB)(hl:(apos.endLine==pos.line)=aB):PE X (.Call (.Attribute o m apos) [] [] pos) (HS X T m EE ta jh):=by intro pins s Z H Q I h;refine Gx (wB hb) (Ij rfl (by decide)) hl<|bE (he pins s Z H _ I h) λu s1 ⟨x,H1,b,e,a,C,n,fs,g,ex,i,l,F,q⟩ pl=>?_;subst ex;obtain rfl:u=kO a:=e;obtain⟨k,f,fd,ps,F,hr,c,hm,d,j⟩:=F;refine AD b i c hm l ?_;exact Sk b.fI hm.kp<|GU (vs:=[.ref a]) F hr d j b (.cons rfl .nil) q
def sj(dp:Nat->Option (Ht->M AV))(m:Str)(r:M Ht)(x:AV):M AV:=λh=>match x with
 |.ref n=>match h.ob n with
  |some (.ins c fs)=>match dp c,fs.lookup m with
   |some g,aD=>(r.bind λxs=>g (.ref n::xs)) h
   |_,_=>.bad
  |_=>.bad
 |_=>.bad
def Al(dp:Nat->Option (Ht->M AV))(m:Str)(a:M AV)(r:M Ht):M AV:=a.bind (sj dp m r)
theorem Za:∀{fs:Yf}{ys:Hw},bF T Y H (fs.map (·.2)) ys->fs.lookup f=aD->((fs.map (·.1)).zip ys).lookup f=aD
 |[],_,.nil,_=>rfl
 | (k,x)::fs,_,.cons h hs,l=>by
  rw[iX]at l;rw[kM,Dx,iX];cases hb:(f==k) with
  |true=>simp only[hb]at l;cases l|false=>simp only[hb]at l ⊢;exact Za hs l
theorem CN{r:M Ht}(hM:∀c C g,dp c=aA g->T.C c=aA C->yF X T EE C m g)(R:bP T Y h H)(q:aX T Y H x x')
  (w:W T (aX T) (sj dp m r x h) Y H Q (EE Z'))(rr:∀Q',W T (bF T) (r h) Y H Q' (EE Z')->t Z' H Q') :
  ∃(a C dx:Addr) (fs:Yk) (g:Ht->M AV),x' = .ref a/\H a=aA (.ins C dx fs)/\fs.lookup m=aD/\yF X T EE C m g/\t Z' H λvs H2=>sX T g (x'::vs) H2 Q (EE Z'):=by
 unfold sj at w;cases x with
 |ref n=>
  cases q with
  |@ref _ p q=>
   cases ob:h.ob n with
   |none=>simp only[ob]at w;cases w|some u=>
    simp only[ob]at w;cases u with
    |ins c fs=>
     obtain⟨C,dx,s,y,d,g1,rfl,e⟩:=R.obj n _ p ob q;cases hd:dp c with
     |none=>simp only[hd]at w;cases w|some g=>
      cases l:fs.lookup m with
      |some v=>simp only[hd,l]at w;exact w.elim|none=>simp only[hd,l]at w;exact⟨p,C,dx,_,g,rfl,g1,Za e l,hM c C g hd d,rr _ (W.bind w λb xs f i H2 j R2 k o=>⟨b,i,.ref n::xs,R2,.cons (.ref<|j.pre n p q) k,o⟩)⟩
    |_=>cases w
 |_=>exact w.elim
theorem aEg(hM:∀c C g,dp c=aA g->T.C c=aA C->yF X T (λ_=>E) C m g)(ho:QE X T E o ma)(ha:QA X T E (e::es) mr)(hb:kE o=aB)(hs:(e::es).all bW=aB)
  (hn:(e::es).length<30)(hl:(apos.endLine==pos.line)=aB):QE X T E (.Call (.Attribute o m apos) (e::es) [] pos) (λZ=>Al dp m (ma Z) (mr Z)):=by
 obtain⟨q,pa,f⟩:=ho;obtain⟨r,pr,i⟩:=ha;exact⟨_,aAr pa pr hb hs hn hl,λj Z a h H Q R S w=>f j Z a h H _ R S (W.bind w λb x s h1 H1 k d l n=>CN hM d l n λt p=>i b Z a h1 H1 _ d (S.ext k) p)⟩
theorem aEh(hM:∀c C g,dp c=aA g->T.C c=aA C->yF X T (λ_=>E) C m g)(ho:QE X T E o ma)(hb:kE o=aB)(hl:(apos.endLine==pos.line)=aB) :
  QE X T E (.Call (.Attribute o m apos) [] [] pos) (λZ=>Al dp m (ma Z) (M.ret [])):=by
 obtain⟨l,pa,d⟩:=ho;exact⟨_,aAs pa hb hl,λe Z a h H Q R S w=>d e Z a h H _ R S (W.bind w λf x n h1 H1 p b i j=>CN hM b i j λq k=>W.here k b .nil)⟩
inductive wy(X:Cx)(T:Tab)(E:XK)(x:Str)(c:Nat)(dv:Ht)(g:Ht->M AV):Prop
 |mk (k:Nat) (C f:Addr) (fd:eT) (ps:YX) (ds:Hu) (dvs:Hw) (_:T.C c=aA C) (_:Mk X.K C f) (_:iP X.prog X.w X.K X.mg X.base (kQ X.prog X.w) k f fd ps (sX T g)) (_:fF (k+1) X.A) (_:X.mg x=aA (.ref C)) (_:Binds X.K fd ps ds) (_:Vals dvs ds) (_:(∀Y H,bF T Y H dv dvs)) (_:rS (kQ X.prog X.w) X E):wy X T E x c dv g
def isNone:AV->Bool
 |.aE=>aB
 |_=>aH
def Ai(c:Nat)(dv:Ht)(g:Ht->M AV)(r:M Ht):M AV:=r.bind λxs h=>((g<|.ref h.nx::(xs++dv)).bind λv=>if isNone v=aB then M.ret (.ref h.nx) else M.bad) (h.new<|.ins c [])
theorem CL{c:Nat}{C dx:Addr}{g:Ht->M AV}(hc:T.C c=aA C)(R:bP T Y h H)(r:bF T Y H xs ys)(h1:H a=aD)(h2:H dx=aD)(h3:dx≠a)
  (w:W T (aX T) (((g<|.ref h.nx::xs).bind λv=>if isNone v=aB then M.ret (.ref h.nx) else M.bad)<|h.new<|.ins c []) Y H Q E) :
  sX T g (.ref a::ys) (bG (bG H dx<|.own a) a<|.ins C dx []) (λv H2=>v = .aE/\Q (.ref a) H2) E:=by
 have f:Ext Y H Y (bG H dx<|.own a):=.jL h2;have hn:(bG H dx<|.own a) a=aD:=by rw[bY (lE h3)];exact h1
 obtain⟨R2,i⟩:=(R.keep (a:=dx) (o:=.own a) h2).alloc (o:=.ins c []) hn ⟨C,dx,[],[],hc,gU,rfl,.nil⟩;have e:=f.trans i;have b:(Y++[a])[h.nx]?=aA a:=by rw[<- R.len];simp
 refine⟨Y++[a],h.new (.ins c []),.ref h.nx::xs,R2,.cons (.ref b) (r.ext e),W.bind (w.ext e) λj v n h3 p k l m d=>?_⟩;cases v with
 |aE=>cases m;exact⟨rfl,W.here d l (.ref<|k.pre _ _ b)⟩
 |_=>exact d.elim
theorem aEe{x:Str}{c:Nat}{g:Ht->M AV}(F:wy X T E x c dv g)(hg:Gl X x)(ha:QA X T E (e::es) mr)(hs:(e::es).all bW=aB)(hd:(x==("__debug__":Str))=aH) :
  QE X T E (.Call (.Name x p) (e::es) [] pos) (λZ=>Ai c dv g (mr Z)):=by
 obtain⟨k,C,f,fd,ps,ds,i,j,K,F,hr,hm,hb,l,b,m⟩:=F;obtain⟨A,pr,n⟩:=ha;rw[jZ,bQ]at hs;exact⟨_,aAp K F hr hg hm hb l m pr hd (fV hs.1) (sW hs.2),λo Z d h H Q R S w=>n o Z d h H _ R S (W.bind w λq xs r h1 H1 B s t u=>λa D v y z=>CL j s (t.append<|b _ _) v y z u)⟩
theorem aEf{x:Str}{c:Nat}{g:Ht->M AV}(F:wy X T E x c dv g)(hg:Gl X x)(hd:(x==("__debug__":Str))=aH) :
  QE X T E (.Call (.Name x p) [] [] pos) (λZ=>Ai c dv g (M.ret [])):=by
 obtain⟨k,C,f,fd,ps,ds,d,e,K,F,hr,hm,hb,i,b,j⟩:=F;exact⟨_,aAq K F hr hg hm hb i j hd,λq Z l h H Q R S w=>λa r m n o=>CL e R (b _ _) m n o w⟩
def Fu(f:Str)(n c:Nat)(i:Int)(Z:aG)(y:AV):M Out:=λh=>match y with
 |.int j=>match h.ob n with
  |some (.ins c' fs)=>if c'=c/\fs.length<1000 then .ok (.nx Z) (h.put n<|.ins c<|gC f (.int<|i+j) fs) else .bad
  |_=>.bad
 |_=>.bad
def Vf(cs:Ia)(f:Str)(a b:M AV)(Z:aG):M Out:=a.bind λx h=>match x with
 |.ref n=>match h.ob n with
  |some (.ins c fs)=>if cs.contains c=aB then match fs.lookup f with
   |some (.int i)=>(b.bind<|Fu f n c i Z) h
   |_=>.bad
   else .bad
  |_=>.bad
 |_=>.bad
theorem aHx{cs:Ia}{tpos:Pos}(hC:dz X.K T cs f)(ho:QE X T E o ma)(hv:QE X T E v mb) :
  QS X T E (.AugAssign (.Attribute o f tpos) .Add v pos) (λZ=>Vf cs f (ma Z) (mb Z) Z):=by
 obtain⟨ta,pa,P⟩:=ho;obtain⟨tb,Q,U⟩:=hv;refine⟨_,aCm pa Q E9,λY Z k h H D R S w=>P Y Z k h H _ R S (W.bind w λF x x' h1 H1 J K V a=>?_)⟩;cases x with
 |ref n=>
  cases V with
  |@ref _ p q=>
   cases ob:h1.ob n with
   |none=>simp only[ob]at a;cases a|some u=>
    simp only[ob]at a;cases u with
    |ins c fs=>
     obtain⟨C,ZN,ks,ys,G,g,rfl,r⟩:=K.obj n _ p ob q;by_cases hm:cs.contains c=aB
     case neg=>simp only[if_neg hm]at a;cases a
     simp only[if_pos hm]at a;cases l:fs.lookup f with
     |none=>simp only[l]at a;cases a|some v1=>
      simp only[l]at a;cases v1 with
      |int i=>
       obtain⟨y1,ZI,ry⟩:=Ih r l;cases ry;obtain⟨c1,c2⟩:=hC c C hm G;refine⟨p,C,ZN,_,_,rfl,g,c1,c2,ZI,U F Z k h1 H1 _ K (S.ext J) (W.bind a λI y y' h2 H2 L R2 q2 d=>?_)⟩;cases y with
       |int j=>
        cases q2;simp only[Fu]at d;cases e:h2.ob n with
        |none=>simp only[e]at d;cases d|some u2=>
         simp only[e]at d;cases u2 with
         |ins M m=>
          by_cases B:M=c/\m.length<1000
          case neg=>simp only[if_neg B]at d;cases d
          simp only[if_pos B]at d;obtain⟨rfl,B⟩:=B;have N:=L.pre n p q;obtain⟨C2,s,ks2,ys2,t,g2,rfl,r2⟩:=R2.obj n _ p e N;rw[G]at t;cases t;obtain⟨A,ez,rz⟩:=Lu (.int _) r2;have ex:=js (Y:=I) (O':=.ins C s (((gC f (.int<|i+j) m).map (·.1)).zip A)) g2 (nofun) (λ_ _ z=>by cases z);obtain⟨R3,O⟩:=R2.write (o':=.ins M (gC f (.int<|i+j) m)) e rfl rfl N g2 (nofun) (λ_ _ z=>by cases z)
           ⟨C,s,_,A,G,gU,rfl,rz.ext ex⟩
          refine⟨i,j,rfl,rfl,s,_,g2,?_,?_⟩
          .rw[LV,aW];lia
          .rw[ez];exact W.ok (b:=jR.nx k) d O R3<|(S.ext J).ext (L.trans O)
         |_=>cases d
       |_=>cases d
      |_=>cases a
    |_=>cases a
 |_=>cases a
structure Uo(K:bI)(C:Addr):Prop where
 cl:mW K C
 ha:nO K (.ref C) "__class__"=aA (aA<|.builtin "object.__class__")
 hn:Ek K (.builtin "object.__class__") "__get__"=aA (aA<|.builtin "getset_descriptor.__get__")
 ht:W.takesIn K (.builtin "object.__class__")=aA aB
 hm:W.mroIn K C (.type "object")=aA aB
def nu(sub:Bool)(i:Nat)(b:M AV)(Z:aG):M Out:=match Z[i]? with
 |some (aA<|.int a)=>b.bind λy=>match y with
  |.int j=>M.ret (.nx<|Z.set i<|aA<|.int<|if sub=aB then a-j else a+j)
  |_=>M.bad
 |_=>M.bad
theorem FI{i:Nat}{x:Str}(sub:Bool)(hN:X.N.Nodup)(hi:X.N[i]?=aA x)(hx:vV X.env.scope x)(hf:X.fn x=aB\/X.env.scope.names.lookup x=aA .local)(hv:QE X T E v mb) :
  QS X T E (.AugAssign (.Name x pos') (if sub=aB then .Sub else .Add) v pos) (λZ=>nu sub i (mb Z) Z):=by
 obtain⟨tb,e,f⟩:=hv;have k:xh X (if sub=aB then .Sub else .Add) (Jk λa j=>if sub=aB then a-j else a+j):=by
  cases sub
  .exact F6
  .exact F7
 refine⟨_,aCh hN hi hx e k hf,λm Z c h H D R S w=>?_⟩;unfold nu at w;cases l:Z[i]? with
 |none=>simp only[l]at w;exact w.elim|some u=>
  cases u with
  |none=>simp only[l]at w;exact w.elim|some a=>
   obtain⟨y,g,r⟩:=S.2 i a l;cases a with
   |int a=>
    simp only[l]at w;cases r;refine⟨_,g,f m Z c h H _ R S (W.bind w λn z s h1 H1 o p q d=>?_)⟩;cases z with
    |int j=>cases q;exact⟨a,j,rfl,rfl,W.here (b:=jR.nx (c.set i<|aA<|.int<|if sub=aB then a-j else a+j)) d p ((S.ext o).set (.int _) i)⟩
    |_=>exact d.elim
   |_=>simp only[l]at w;exact w.elim
inductive Fa(X:Cx)(T:Tab)(E:XK)(x m:Str)(g:Ht->M AV):Prop
 |mk (k:Nat) (C f:Addr) (fd:eT) (ps:YX) (_:X.mg x=aA (.ref C)) (_:iP X.prog X.w X.K X.mg X.base (kQ X.prog X.w) k f fd ps (sX T g)) (_:fF k X.A) (_:tL X.K (.ref f)=aB) (_:Ek X.K (.ref C) "__getattribute__"=aA (aA<|.builtin "type.__getattribute__")) (_:Sv X.K C (.type "type")=aB) (_:So X.K (.ref C) (.type "type") m=aA (.val<|.ref f)) (_:Eh (.ref f)=aB) (_:Binds X.K fd ps []) (_:rS (kQ X.prog X.w) X E):Fa X T E x m g
theorem aDv{x:Str}{g:Ht->M AV}(B:Fa X T E x m g)(hg:Gl X x)(hd:(x==("__debug__":Str))=aH)(ha:QA X T E (e::es) mr)(hs:(e::es).all bW=aB)(hn:(e::es).length<30)
  (hl:(apos.endLine==pos.line)=aB):QE X T E (.Call (.Attribute (.Name x p) m apos) (e::es) [] pos) (λZ=>(mr Z).bind g):=by
 obtain⟨k,C,f,fd,ps,hm,F,hr,kp,h1,o,t,z,hb,A⟩:=B;obtain⟨l,pr,D⟩:=ha;refine⟨λZ H Q=>l Z H λa b=>sX T g a b Q E,?_,λG Z c h H Q R S w=>D G Z c h H _ R S (W.bind w λd xs J h1 H1 V K L N=>⟨d,h1,xs,K,L,N⟩)⟩;intro pins s Z H Q I h;have i:=hs;rw[jZ,bQ]at hs;refine Gx (wB rfl) (Ij i hn) hl<|bE ((DY (v:=.ref C) hg hm rfl hd) pins s Z H (λy H1=>y = .ref C/\l Z H1 λa b=>sX T g a b Q E) I ⟨rfl,h⟩) λu s1 ⟨y,H1,j,O,P,q⟩ pl=>?_;subst P;obtain rfl:u=kO C:=O;refine W.method_cls j.fI h1<|W.cls_value j.fI o t z ?_;refine Eg I.ok.mod.gr kp (bE (pr pos pins _ Z H1 _ (j.tok _) q) λus s2 ⟨a,b,n,r,U⟩=>⟨n.fI,?_⟩) (fV hs.1)<|sW hs.2;exact Nr F hr hb .nil A n r (by rw[kL];exact U)
end
section
variable {X:Cx}{E:XK}{o:aL}
def zK(x:AV):M AV:=λh=>match x with
 |.ref n=>match h.ob n with
  |some (.lst aB xs)=>match xs[xs.length-1]? with
   |some y=>.ok y (h.put n<|.lst aB xs.dropLast)
   |none=>.bad
  |_=>.bad
 |_=>.bad
theorem bF.dropLast{Y:Hy}{H:Hp}{xs:Ht}{ys:Hw}(r:bF T Y H xs ys):bF T Y H xs.dropLast ys.dropLast:=by rw[LB,LB,r.length];exact r.take _
theorem aEn(hK:X.K=T.K)(ho:QE X T E o ma)(hb:kE o=aB)(hl:(apos.endLine==pos.line)=aB):QE X T E (.Call (.Attribute o "pop" apos) [] [] pos) (λZ=>(ma Z).bind zK):=by
 obtain⟨s,pa,j⟩:=ho;refine⟨_,aAc NC PySem.F.slot_list_pop PySem.F.type_list_pop P7 pa (wB hb) hl,λY Z b h H Q R S w=>?_⟩;refine j Y Z b h H _ R S<|W.bind w λc x t h1 H1 v g k a=>?_;cases x with
 |ref n=>
  cases k with
  |@ref _ p q=>
   simp only[zK]at a;cases ob:h1.ob n with
   |none=>rw[ob]at a;cases a|some u=>
    rw[ob]at a;cases u with
    |lst mu xs=>
     cases mu with
     |false=>cases a|true=>
      obtain⟨d,g1,e⟩:=g.obj n _ p ob q;dsimp only at a;cases f:xs[xs.length-1]? with
      |none=>rw[f]at a;cases a|some y=>rw[f]at a;obtain⟨l,g2,m⟩:=e.get f;have ex:=js (Y:=c) (O':=.lst d.dropLast) g1 (nofun) (λ_ _ z=>by cases z);obtain⟨r,i⟩:=g.write (o':=.lst aB xs.dropLast) ob rfl rfl q g1 (nofun) (λ_ _ z=>by cases z) ⟨_,gU,e.dropLast.ext ex⟩;exact⟨.inl ⟨rfl,⟨d,.inl (.inl g1)⟩⟩,p,d,l,rfl,rfl,g1,e.length▸g2,W.ok a i r (m.ext i)⟩
    |_=>cases a
 |_=>exact a.elim
def Hh:M AV:=λh=>.ok (.ref h.nx) (h.new<|.aQ [])
theorem aDx:QE X T E (.Dict [] [] pos) (λ_=>Hh):=by refine⟨_,aAj,λe Z a h H Q R S w p b=>?_⟩;obtain⟨c,d⟩:=R.alloc (o:=.aQ []) b ⟨[],[],gU,rfl,.nil⟩;refine W.ok w d c<|.ref ?_;rw[<- R.len];simp
def yj(g:AV->Ht->M AV)(a:M AV)(r:M Ht):M AV:=a.bind λx h=>if(gM h x).isSome=aB then(r.bind λxs=>g x xs) h else .bad
theorem Me{m:Str}{id:String}{r:V->Hw->Hp->VK->Prop}{g:AV->Ht->M AV} (slot:Slot "dict" m id) (hty:typeOf (.builtin id)=pure (.type "method_descriptor")) (hm:ec X id r)
  (hg:∀Y h H x x' xs hU Q,bP T Y h H->aX T Y H x x'->bF T Y H xs hU->W T (aX T) (g x xs h) Y H Q E->r x' hU H Q)
  (ho:QE X T E o ma) (ha:QA X T E (e::es) mr) (hb:kE o=aB) (hs:(e::es).all bW=aB) (hn:(e::es).length<29) (hl:(apos.endLine==pos.line)=aB) :
  QE X T E (.Call (.Attribute o m apos) (e::es) [] pos) (λZ=>yj g (ma Z) (mr Z)):=by
 obtain⟨C,pa,k⟩:=ho;obtain⟨D,pr,l⟩:=ha;have f:=hs;rw[jZ,bQ]at hs;refine⟨_,DW NB slot hty hm pa pr (wB hb) ?_ hl (fV hs.1) (sW hs.2),λY Z c h H Q R S w=>?_⟩
 .rw[<- MA,(sW (env:=X.env) (pos:=pos) f)];simp only[xZ,xX,List.map_nil,List.all_nil,Qv,List.isEmpty_nil,if_true,Bool.not_false,Bool.true_and,decide_eq_true_eq];lia
 refine k Y Z c h H _ R S<|W.bind w λd x x' h1 H1 p j s t=>?_;have b:=t;by_cases hd:(gM h1 x).isSome=aB
 case neg=>rw[if_neg hd]at b;cases b
 rw[if_pos hd]at b;obtain⟨u,hd⟩:=Option.isSome_iff_exists.mp hd;obtain⟨n,a,us,rfl,q,ob,rfl,gd,F⟩:=wN j s hd;exact⟨.inr (.inr<|.inl ⟨rfl,.inl ⟨us,gd⟩⟩),l d Z c h1 H1 _ j (S.ext p) (W.bind b λi xs hU v y z R2 A B=>hg i v y _ _ xs hU Q R2 (.ref<|z.pre n a q) A B)⟩
def yZ(x:AV)(xs:Ht):M AV:=λh=>match gM h x with
 |some kvs=>match xs with
  |[y]=>match fP y with
   |some k=>.ok ((bK kvs k).getD .aE) h
   |none=>
    .bad
  |[y,z]=>match fP y with
   |some k=>.ok ((bK kvs k).getD z) h
   |none=>.bad
  |_=>.bad
 |none=>.bad
def Nk:AV->Nat
 |.ref n=>n
 |_=>0
def qa(x:AV)(xs:Ht):M AV:=λh=>match gM h x with
 |some kvs=>match xs with
  |[y]=>match fP y with
   |some k=>match bK kvs k with
    |some v=>.ok v (h.put (Nk x)<|.aQ<|wQ kvs k)
    |none=>.bad
   |none=>.bad
  |[y,z]=>match fP y with
   |some k=>match bK kvs k with
    |some v=>.ok v (h.put (Nk x)<|.aQ<|wQ kvs k)
    |none=>.ok z h
   |none=>.bad
  |_=>.bad
 |none=>.bad
def qc(x:AV)(xs:Ht):M AV:=λh=>match gM h x with
 |some kvs=>match xs with
  |[y,z]=>match fP y with
   |some k=>if kvs.length<sizeLine then match bK kvs k with
    |some v=>.ok v h
    |none=>.ok z (h.put (Nk x)<|.aQ<|gZ kvs k z)
    else .bad
   |none=>.bad
  |_=>.bad
 |none=>.bad
theorem XY(Y:Hy)(h:AH)(H:Hp)(x:AV)(x':V)(xs:Ht)(hU:Hw)(Q:VK)(R:bP T Y h H)(rx:aX T Y H x x')(rs:bF T Y H xs hU)(w:W T (aX T) (yZ x xs h) Y H Q E):FY x' hU H Q:=by
 unfold yZ at w;cases d:gM h x with
 |none=>simp only[d]at w;cases w|some b=>
  simp only[d]at w;obtain⟨n,a,us,rfl,q,ob,rfl,gd,i⟩:=wN R rx d;cases rs with
  |nil=>cases w|@cons y s t j g rs=>
   have fin:∀{k:aN}{z:AV}{c:V},aX T Y H z c->aX T Y H ((bK b k).getD z) ((fK us k).getD c):=λ{k z c} e=>by
    obtain⟨g1,g2⟩:=aw i;cases l:bK b k with
    |none=>rw[g2 l];exact e|some v=>obtain⟨u,m,o⟩:=g1 v l;rw[m];exact o
   cases rs with
   |nil=>
    cases k:fP y with
    |none=>simp only[k]at w;cases w
    |some p=>simp only[k]at w;have f:=sJ g k;subst f;exact⟨a,_,_,rfl,lV.k gd,.inl ⟨rfl,W.here w R (fin .aE)⟩⟩
   |@cons z c zs r e rs=>
    cases rs with
    |nil=>
     cases k:fP y with
     |none=>simp only[k]at w;cases w|some p=>simp only[k]at w;have f:=sJ g k;subst f;exact⟨a,_,_,rfl,lV.k gd,.inr ⟨c,rfl,W.here w R (fin e)⟩⟩
    |cons _ _=>cases w
theorem YF(Y:Hy)(h:AH)(H:Hp)(x:AV)(x':V)(xs:Ht)(hU:Hw)(Q:VK)(R:bP T Y h H)(rx:aX T Y H x x')(rs:bF T Y H xs hU)(w:W T (aX T) (qa x xs h) Y H Q E):FZ x' hU H Q:=by
 unfold qa at w;cases d:gM h x with
 |none=>simp only[d]at w;cases w|some b=>
  simp only[d]at w;obtain⟨n,a,us,rfl,q,ob,rfl,gd,i⟩:=wN R rx d;have wr:∀{k:aN}{v:AV}{y:V},bK b k=aA v->aX T Y H v y->W T (aX T) (.ok v<|h.put n<|.aQ<|wQ b k) Y H Q E->Q y (bG H a<|.dK<|rY us k):=λ{k v y} l r w=>by have ex:=js (Y:=Y) (O':=.dK (rY us k)) gd (nofun) (λ_ _ z=>by cases z);obtain⟨s,o⟩:=R.write ob rfl rfl q gd (nofun) (λ_ _ z=>by cases z) (Hc gU<|(aJt i).ext ex);exact W.ok w o s<|r.ext o
  cases rs with
  |nil=>cases w|@cons y C D t p rs=>
   cases rs with
   |nil=>
    cases k:fP y with
    |none=>simp only[k]at w;cases w|some e=>
     simp only[k]at w;have j:=sJ p k;subst j;obtain⟨g1,g2⟩:=aw i;cases l:bK b e with
     |none=>simp only[l]at w;cases w|some v=>simp only[l]at w;obtain⟨m,c,g⟩:=g1 v l;exact⟨a,us,e,rfl,gd,.inl ⟨rfl,m,c,wr l g w⟩⟩
   |@cons z u zs A B rs=>
    cases rs with
    |nil=>
     cases k:fP y with
     |none=>simp only[k]at w;cases w|some e=>
      simp only[k]at w;have j:=sJ p k;subst j;obtain⟨g1,g2⟩:=aw i;refine⟨a,us,e,rfl,gd,.inr ⟨u,rfl,λv1 c=>?_,λc=>?_⟩⟩
      .cases l:bK b e with
       |none=>rw[g2 l]at c;cases c|some v=>simp only[l]at w;obtain⟨m,f,g⟩:=g1 v l;rw[c]at f;cases f;exact wr l g w
      .cases l:bK b e with
       |none=>simp only[l]at w;exact W.here w R B|some v=>obtain⟨m,f,g⟩:=g1 v l;rw[c]at f;cases f
    |cons _ _=>cases w
theorem YK(Y:Hy)(h:AH)(H:Hp)(x:AV)(x':V)(xs:Ht)(hU:Hw)(Q:VK)(R:bP T Y h H)(rx:aX T Y H x x')(rs:bF T Y H xs hU)(w:W T (aX T) (qc x xs h) Y H Q E):GA x' hU H Q:=by
 unfold qc at w;cases d:gM h x with
 |none=>simp only[d]at w;cases w|some b=>
  simp only[d]at w;obtain⟨n,a,us,rfl,q,ob,rfl,gd,g⟩:=wN R rx d;cases rs with
  |nil=>cases w|@cons y C D r s rs=>
   cases rs with
   |nil=>cases w|@cons z j zs t m rs=>
    cases rs with
    |nil=>
     cases k:fP y with
     |none=>simp only[k]at w;cases w|some f=>
      simp only[k]at w;have u:=sJ s k;subst u;by_cases i:b.length<sizeLine
      case neg=>rw[if_neg i]at w;cases w
      rw[if_pos i]at w;obtain⟨g1,g2⟩:=aw g;refine⟨a,us,f,j,rfl,gd,rfl,by rw[<- GQ g];exact i,λv1 c=>?_,λc=>?_⟩
      .cases l:bK b f with
       |none=>rw[g2 l]at c;cases c|some v=>simp only[l]at w;obtain⟨A,e,o⟩:=g1 v l;rw[c]at e;cases e;exact W.here w R o
      .cases l:bK b f with
       |none=>simp only[l]at w;have ex:=js (Y:=Y) (O':=.dK (putK us f j)) gd (nofun) (λ_ _ z=>by cases z);obtain⟨B,p⟩:=R.write ob rfl rfl q gd (nofun) (λ_ _ z=>by cases z) (Hc gU<|(GR g m).ext ex);exact W.ok w p B<|m.ext p
       |some v=>obtain⟨A,e,o⟩:=g1 v l;rw[c]at e;cases e
    |cons _ _=>cases w
inductive Dm where
 |get
 |pop|setd
def Dm.g:Dm->AV->Ht->M AV
 |.get=>yZ
 |.pop=>qa | .setd=>qc
def yk(m:Str):Option Dm:=if m="get" then aA .get else
 if m="pop" then aA .pop else if m="setdefault" then aA .setd else
 aD
theorem ET{m:Str}{f:Dm}(hf:yk m=aA f)(hu:X.A.units+1<cLine)(ho:QE X T E o ma)(ha:QA X T E (e::es) mr)(hb:kE o=aB)(hs:(e::es).all bW=aB)(hn:(e::es).length<29)(hl:(apos.endLine==pos.line)=aB) :
  QE X T E (.Call (.Attribute o m apos) (e::es) [] pos) (λZ=>yj f.g (ma Z) (mr Z)):=by
 unfold yk at hf;split at hf
 case isTrue h=>cases hf;subst h;exact Me ku NH (P4 hu) XY ho ha hb hs hn hl
 split at hf
 case isTrue h=>cases hf;subst h;exact Me Sf PySem.F.type_dict_pop P5 YF ho ha hb hs hn hl
 split at hf
 case isTrue h=>cases hf;subst h;exact Me NG aUm P6 YK ho ha hb hs hn hl
 cases hf
end
inductive Op where
 |add|sub|mul|fdiv|mod|pow|shl|shr|band|bor|bxor|ix
def Op.g:Op->AV->AV->M AV
 |.add=>Zj | .sub=>zi | .mul=>qi | .fdiv=>Zl | .mod=>Zu | .pow=>Zx | .shl=>Zy | .shr=>Zz | .band=>Zk | .bor=>Zw | .bxor=>AA | .ix=>uF
inductive Cp where
 |eq|ne|lt|le|gt|ge|gp|isn|zR|nin
variable {o':Cp}
def Cp.g:Cp->AV->AV->M AV
 |.eq=>zF | .ne=>zJ | .lt=>Zr | .le=>Zq | .gt=>Zn | .ge=>Zm | .gp=>Il | .isn=>Im | .zR=>oX aH | .nin=>oX aB
inductive Bi where
 |len|int|min|max|divmod|tuple|list
def Bi.g:Bi->Ht->M AV
 |.len=>qf | .int=>Zo | .min=>Zt | .max=>Zs | .divmod=>yx | .tuple=>zj | .list=>zI
inductive CT where
 |bad
 |nm (i:Nat)
 |tup (is:Ia)
def xp:Ia->Ht->aG->M aG
 |[]=>Iy
 |i::is=>Iw (λv Z=>M.ret (Z.set i<|aA v)) (xp is)
def pS:CT->AV->aG->M aG
 |.bad,_,_=>M.bad
 |.nm i,v,Z=>M.ret (Z.set i<|aA v)
 |.tup is,v,Z=>zL is.length (xp is) v Z
mutual
inductive Ex where
 |wJ (imp:Yg) (t:CT) (it:Ir) (e:Ex)
 |wK (imp:Yg) (t:CT) (it:Ir) (c e:Ex)
 |kK (d e:Ex)
 |bad|no
 |var (i:Nat)
 |val (v:AV)
 |op (o:Op) (a b:Ex)
 |cmp (o:Cp) (a b:Ex)
 |chain (o o':Cp) (a b c:Ex)
 |neg (a:Ex)
 |not (a:Ex)
 |and (a b:Ex)
 |or (a b:Ex)
 |ite (c a b:Ex)
 |tup (es:eP)
 |lst (es:eP)
 |slice (a lo hi:Ex)
 |call (f:Nat) (es:eP)
 |bi (f:Bi) (es:eP)
 |qG (t:BT) (a:Ex)
 |kc (k:Kc) (a:Ex)
 |lK (cs:Ia) (f:Str) (o:Ex)
 |qN (m:Str) (dp:YZ) (o:Ex) (es:eP)
 |make (c i:Nat) (dv:Ht) (es:eP)
 |fh (i:Nat) (es:eP)
 |ot
 |dm (f:Dm) (o:Ex) (es:eP)
 |tm (o:Ex)
 |app (o a:Ex)
 |get (o:Ex) (es:eP)
inductive eP where
 |nil
 |cons (e:Ex) (es:eP)
inductive Ir where
 |bad
 |seq (e:Ex)
 |Bn (es:eP)
 |enum (e:Ex)
 |zip (es:eP)
 |aQ (e:Ex)
end
variable {d:Ex}
abbrev Run:=Nat->Ht->M AV
def pD(e:Ex)(m:M AV):M Hs:=match e with
 |.no=>M.ret aD
 |_=>m.bind Io
mutual
noncomputable def aM(F:Run):Ex->aG->M AV
 |.bad,_=>M.bad
 |.no,_=>M.bad
 |.var i,Z=>uG i Z
 |.val v,_=>M.ret v
 |.op o a b,Z=>uO o.g (aM F a Z) (aM F b Z)
 |.cmp o a b,Z=>uO o.g (aM F a Z) (aM F b Z)
 |.chain o o' a b c,Z=>fe o.g o'.g (aM F a Z) (aM F b Z) (aM F c Z)
 |.neg a,Z=>(aM F a Z).bind qj
 |.not a,Z=>(aM F a Z).bind λx=>(dH x).bind λb=>M.ret (.bl<|!b)
 |.and a b,Z=>Uz (aM F a Z) (aM F b Z)
 |.or a b,Z=>DO (aM F a Z) (aM F b Z)
 |.ite c a b,Z=>Ae (dR F c Z) (aM F a Z) (aM F b Z)
 |.tup es,Z=>Ov (dS F es Z)
 |.lst es,Z=>uK (dS F es Z)
 |.slice a lo hi,Z=>(aM F a Z).bind λx=>(pD lo<|aM F lo Z).bind λl=>(pD hi<|aM F hi Z).bind λu=>qD x l u
 |.call f es,Z=>(dS F es Z).bind (F f)
 |.bi f es,Z=>(dS F es Z).bind f.g
 |.qG t a,Z=>(aM F a Z).bind (zG t)
 |.kc k a,Z=>(aM F a Z).bind k.g
 |.lK cs f o,Z=>(aM F o Z).bind (uD cs f)
 |.qN m dp o es,Z=>Al (λc=>(dp.lookup c).map F) m (aM F o Z) (dS F es Z)
 |.make c i dv es,Z=>Ai c dv (F i) (dS F es Z)
 |.fh i es,Z=>(dS F es Z).bind (F i)
 |.ot,_=>Hh
 |.dm f o es,Z=>yj f.g (aM F o Z) (dS F es Z)
 |.tm o,Z=>(aM F o Z).bind zK
 |.app o a,Z=>Fs (aM F o Z) (aM F a Z)
 |.get o es,Z=>Iu (aM F o Z) (dS F es Z)
 |.wJ imp t it e,Z=>yR (cU F it Z) (pS t) (λ_=>M.ret aB) (aM F e) imp Z
 |.wK imp t it c e,Z=>yR (cU F it Z) (pS t) (dR F c) (aM F e) imp Z
 |.kK d e,Z=>mD (aM F d) (aM F e) Z
noncomputable def dR(F:Run):Ex->aG->M Bool
 |.bad,_=>M.bad
 |.no,_=>M.bad
 |.ite _ _ _,_=>M.bad
 |.var i,Z=>(uG i Z).bind dH
 |.val v,_=>dH v
 |.op o a b,Z=>(uO o.g (aM F a Z)<|aM F b Z).bind dH
 |.cmp o a b,Z=>(uO o.g (aM F a Z)<|aM F b Z).bind yw
 |.chain o o' a b c,Z=>(fe o.g o'.g (aM F a Z) (aM F b Z)<|aM F c Z).bind yw
 |.neg a,_=>M.bad
 |.not a,Z=>(dR F a Z).bind λb=>M.ret (!b)
 |.and a b,Z=>Uy (dR F a Z) (dR F b Z)
 |.or a b,Z=>DN (dR F a Z) (dR F b Z)
 |.tup es,Z=>(Ov<|dS F es Z).bind dH
 |.lst es,Z=>(uK<|dS F es Z).bind dH
 |.slice a lo hi,Z=>((aM F a Z).bind λx=>(pD lo<|aM F lo Z).bind λl=>(pD hi<|aM F hi Z).bind λu=>qD x l u).bind dH
 |.call f es,Z=>((dS F es Z).bind (F f)).bind dH
 |.bi f es,Z=>((dS F es Z).bind f.g).bind dH
 |.qG t a,Z=>((aM F a Z).bind (zG t)).bind dH
 |.kc k a,Z=>((aM F a Z).bind k.g).bind dH
 |.lK cs f o,Z=>((aM F o Z).bind (uD cs f)).bind dH
 |.qN m dp o es,Z=>(Al (λc=>(dp.lookup c).map F) m (aM F o Z)<|dS F es Z).bind dH
 |.make c i dv es,Z=>(Ai c dv (F i)<|dS F es Z).bind dH
 |.fh i es,Z=>((dS F es Z).bind (F i)).bind dH
 |.ot,_=>Hh.bind dH
 |.dm f o es,Z=>(yj f.g (aM F o Z)<|dS F es Z).bind dH
 |.tm o,Z=>((aM F o Z).bind zK).bind dH
 |.app o a,Z=>(Fs (aM F o Z)<|aM F a Z).bind dH
 |.get o es,Z=>(Iu (aM F o Z)<|dS F es Z).bind dH
 |.wJ imp t it e,Z=>(yR (cU F it Z) (pS t) (λ_=>M.ret aB) (aM F e) imp Z).bind dH
 |.wK imp t it c e,Z=>(yR (cU F it Z) (pS t) (dR F c) (aM F e) imp Z).bind dH
 |.kK d e,Z=>(mD (aM F d) (aM F e) Z).bind dH
noncomputable def dS(F:Run):eP->aG->M Ht
 |.nil,_=>M.ret []
 |.cons e es,Z=>Xa (aM F e Z) (dS F es Z)
noncomputable def cU(F:Run):Ir->aG->M gK
 |.bad,_=>M.bad
 |.seq e,Z=>(aM F e Z).bind zH
 |.Bn es,Z=>(dS F es Z).bind zc
 |.enum e,Z=>(aM F e Z).bind yy
 |.zip es,Z=>(dS F es Z).bind zk
 |.aQ e,Z=>(aM F e Z).bind pk
end
structure Cn where
 N:YX
 sc:gJ
 fns:YX
 ql:Yf
 jD:YX
 JZ:List (Str×Nat)
 cat:List (Str×Ys)
 AY:List (Str×Ys)
 top:Bool:=aB
 kU:List (Str×Ia):=[]
 nG:List (Str×YZ):=[]
 mP:List ((Str×Nat)×(Nat×Nat×Ht)):=[]
 sF:List (Str×Ys):=[]
 oW:List (Str×List (Str×Nat)):=[]
 Hk:YX:=[]
def Cn.gl(C:Cn)(x:Str):Bool:=decide (C.sc.names.lookup x=aA .globalImplicit)
def ia(x:Str):Bool:=!(x==("__debug__":Str)) && !(x==("__classdict__":Str)) && !(x==("__name__":Str))
def Cn.loc(C:Cn)(x:Str):Bool:=decide (C.sc.names.lookup x=aA .local)||decide (C.sc.names.lookup x=aA .cell)
def Cn.name(C:Cn)(x:Str):Ex:=if ia x then
  if C.loc x then match C.N.idxOf? x with
   |some i=>.var i
   |none=>.bad
  else if C.gl x then match C.ql.lookup x with
   |some v=>.val v
   |none=>.bad
  else .bad
 else .bad
def Xc:Const->Ex
 |.none=>.val .aE
 |.bool b=>.val (.bl b)
 |.int i=>.val (.int i)
 |.str x=>.val (.str x)
 |_=>.bad
def Vt:rN->Option Op
 |.Add=>aA .add | .Sub=>aA .sub | .Mult=>aA .mul | .FloorDiv=>aA .fdiv | .Mod=>aA .mod | .Pow=>aA .pow
 |.LShift=>aA .shl | .RShift=>aA .shr | .BitAnd=>aA .band | .BitOr=>aA .bor | .BitXor=>aA .bxor
 |_=>aD
def yc:pM->Cp
 |.Eq=>.eq | .NotEq=>.ne | .Lt=>.lt | .LtE=>.le | .Gt=>.gt | .GtE=>.ge | .Is=>.gp | .IsNot=>.isn | .In=>.zR | .NotIn=>.nin
def Gj(op:rN)(a b:Ex):Ex:=match Vt op with
 |some o=>.op o a b
 |none=>.bad
def yO(k:Ex->Ex->Ex):List Ex->Ex
 |[]=>.bad
 |[a]=>a
 |a::r=>k a (yO k r)
def mJ:List Ex->eP
 |[]=>.nil
 |e::es=>.cons e (mJ es)
def Wg:List (Str×BT):=[("int",.int),("bool",.bl),("str",.str),("tuple",.tup),("list",.lst)]
def VO(x:Str):Option BT:=Wg.lookup x
def Vs:List (Str×Bi):=[("len",.len),("int",.int),("min",.min),("max",.max),("divmod",.divmod),("tuple",.tuple),("list",.list)]
def VD(x:Str):Option Bi:=Vs.lookup x
def Cn.bl(C:Cn)(x:Str):Bool:=C.gl x&&C.jD.contains x&&ia x
def gz:aL->Option Str
 |.Name x _=>aA x
 |_=>aD
def Cn.Gw(C:Cn)(x:Str)(es:List aL)(cs:List Ex):Ex:=if ia x&&es.all bW then match C.fns.idxOf? x with
    |some i=>if C.gl x then .call i (mJ cs) else .bad
    |none=>match C.mP.lookup (x,es.length) with
     |some (c,i,dv)=>if C.gl x then .make c i dv (mJ cs) else .bad
     |none=>match VD x with
      |some f=>if C.bl x && !es.isEmpty then .bi f (mJ cs) else .bad
      |none=>if decide (x="isinstance")&&C.bl x then match es,cs with
          |[_,t],[a,_]=>match (gz t).bind λy=>if C.bl y then VO y else aD with
            |some bt=>.qG bt a
            |none=>.bad
          |_,_=>.bad
        else .bad
  else .bad
def EF:Nat:=40
def Cn.slot(C:Cn)(x:Str):Option Nat:=if C.loc x then C.N.idxOf? x else aD
def Cn.Jn(C:Cn):aL->Bool
 |.Attribute _ f _=>C.Hk.contains f
 |_=>aH
def Cn.kK(C:Cn)(it:aL)(d e:Ex):Ex:=if C.Jn it then .kK d e else e
def cI(C:Cn)(f:aL->Ex)(tg:aL)(e:aL):Ir:=match e with
 |.Call (.Name x _) es [] _=>
  if decide (x="range")&&C.bl x then match es with
   |[a]=>if bW a then .Bn (mJ<|[a].map f) else .bad
   |_=>.bad
  else if decide (x="enumerate")&&C.bl x then match es,tg with
   |[a],.Tuple _ _ _=>if bW a then .enum (f a) else .bad
   |_,_=>.bad
  else if decide (x="zip")&&C.bl x then match es,tg with
   |[a,b],.Tuple _ _ _=>if bW a&&bW b then .zip (mJ<|[a,b].map f) else .bad
   |_,_=>.bad
  else .seq (f e)
 |e=>if bW e then(if C.Jn e then .aQ (f e) else .seq (f e)) else .bad
def yS(scope:gJ):YX:=(scope.names.filter λx=>(x.2==NameKind.local&&x.1 != (".0":Str))||x.2==iY).map (·.1)
def GL(scope sc:gJ):gJ:=
 { scope with names:=scope.names.map λ(n,k)=>if(k == .free&&sc.kind == .function&&sc.names.lookup n==aA .cell) then(n,.cell) else(n,k) }
def Cn.comp(C:Cn)(scope:gJ):Cn:={ C with N:=yS scope,sc:=GL scope C.sc,top:=aH }
def Cn.imp(C:Cn)(scope:gJ):Yg:=(yS scope).map λx=>if decide (scope.names.lookup x=aA .free) then C.N.idxOf? x else aD
def Cn.yT(C:Cn)(scope:gJ):Bool:=decide (scope.kind = .function)&&scope.names.all (λy=>decide (y.2 ≠ .cell))&&scope.names.all (λy=>decide (y.2 = .local->scope.names.lookup y.1=aA .local)) &&
 scope.names.all (λy=>decide (y.2 = .free->C.sc.names.lookup y.1=aA .cell))&&decide (yS scope).Nodup&&C.top
def ye(C:Cn):List aL->Option (List Nat)
 |[]=>aA []
 |.Name x _::r=>if decide (C.sc.names.lookup x=aA .local) then match C.N.idxOf? x,ye C r with
   |some i,aA l=>aA (i::l)
   |_,_=>aD
  else aD
 |_=>aD
def xw(C:Cn)(e:aL):CT:=match e with
 |.Name x _=>if decide (C.sc.names.lookup x=aA .local) then match C.N.idxOf? x with
   |some i=>.nm i
   |none=>.bad
  else .bad
 |.Tuple es _ _=>match ye C es with
  |some l=>.tup l
  |none=>.bad
 |_=>.bad
def Kq(o:aL)(m:Str)(eo:Ex):Ex:=
 if decide (m="pop")&&kE o then .tm eo else
 .bad
def Kr(o:aL)(m:Str)(eo ea:Ex):Ex:=
 if decide (m="append")&&kE o then .app eo ea else
 if kE o then(match yk m with
  |some f=>.dm f eo (.cons ea .nil)
  |none=>.bad) else
 .bad
def Ks(o:aL)(m:Str)(eo ea eb:Ex):Ex:=
 if decide (m="get")&&kE o&&(gz o).isSome then .get eo (.cons ea<|.cons eb .nil) else
 if kE o then(match yk m with
  |some f=>.dm f eo (.cons ea<|.cons eb .nil)
  |none=>.bad) else
 .bad
def Wa(o:aL)(m:Str)(eo:Ex):List Ex->Ex
 |[]=>Kq o m eo
 |[a]=>Kr o m eo a
 |[a,b]=>Ks o m eo a b
 |_=>.bad
def Cn.Ws(C:Cn)(o:aL)(m:Str):Option Nat:=(gz o).bind λx=>if ia x&&C.gl x then(C.oW.lookup x).bind (·.lookup m) else aD
def Cn.Kl(C:Cn)(o:aL)(m:Str)(apos pos:Pos)(es:List aL)(eo:Ex)(cs:List Ex):Ex:=
 if es.all bW&&(apos.endLine==pos.line) then
  match C.Ws o m with
  |some i=>if !es.isEmpty&&decide (es.length<30) then .fh i (mJ cs) else .bad
  |none=>match C.nG.lookup m with
   |some dp=>if kE o&&decide (es.length<30) then .qN m dp eo (mJ cs) else .bad
   |none=>Wa o m eo cs
 else .bad
def Gv(op:UnaryOp)(a:Ex):Ex:=match op with
 |.USub=>.neg a
 |.Not=>.not a
 |_=>.bad
def Go(f:aL->Ex)(a:aL)(os:List pM)(bs:List aL):Ex:=match os,bs with
 |[o],[b]=>if bW b then .cmp (yc o) (f a) (f b) else .bad
 |[o,o'],[b,c]=>if bW c then .chain (yc o) (yc o') (f a) (f b) (f c) else .bad
 |_,_=>.bad
def Gk(op:BoolOp)(vs:List Ex):Ex:=match op with
 |.And=>yO .and vs
 |.Or=>yO .or vs
def nN:Ex->Ex
 |.no=>.bad
 |x=>x
def Gu(C:Cn)(f:aL->Ex)(a s:aL):Ex:=match s with
 |.Slice lo hi aD _=>.slice (f a) (lo.elim .no λe=>nN (f e)) (hi.elim .no λe=>nN (f e))
 |b=>if bW b then .op .ix (f a) (f b) else .bad
def Gm(C:Cn)(f:aL->Ex)(g:aL)(es:List aL)(ks:List tF)(pos:Pos):Ex:=match ks with
 |[]=>match g with
  |.Name x _=>C.Gw x es (es.map f)
  |.Attribute o m apos=>C.Kl o m apos pos es (f o) (es.map f)
  |_=>.bad
 |_=>.bad
def oo(C:Cn)(r:Cn->aL->Ex)(elt:aL)(gs:List Comprehension)(scope:gJ):Ex:=match gs with
 |[⟨t,it,cs,0⟩]=>if C.yT scope&&bW it then match cs with
   |[]=>C.kK it (r C it) (.wJ (C.imp scope) (xw (C.comp scope) t) (cI C (r C) t it)<|r (C.comp scope) elt)
   |[c]=>C.kK it (r C it) (.wK (C.imp scope) (xw (C.comp scope) t) (cI C (r C) t it) (r (C.comp scope) c)<|r (C.comp scope) elt)
   |_=>.bad
  else .bad
 |_=>.bad
def Gf(C:Cn)(o:aL)(f:Str)(eo:Ex):Ex:=if kE o then
  match C.kU.lookup f with
  |some cs=>.lK cs f eo
  |none=>
   .bad
 else .bad
def Gp(f:aL->Ex)(ks:List (Option aL))(vs:List aL):Ex:=match ks,vs with
 |[],[]=>.ot
 |_,_=>.bad
def BF(x:Str)(ks:List tF):Option Kc:=match ks with
 |[]=>if x="any" then aA .any else
  if x="sorted" then aA .sd else
  aD
 |[⟨aA nm,kc,_⟩]=>match kc with
  |.Constant (.bool b) _ _=>if x="sorted"/\nm="reverse" then aA (.srt b) else aD
  |.Constant .none _ _=>if x="min"/\nm="default" then aA .Am else aD
  |_=>aD
 |_=>aD
def xx(C:Cn)(f:aL->Ex)(g:aL)(es:List aL)(ks:List tF):Option Ex:=match g,es with
 |.Name x _,[a]=>match BF x ks with
  |some k=>if C.bl x&&bW a then aA (.kc k<|f a) else aD
  |none=>aD
 |_,_=>aD
def cE:Cn->Nat->aL->Ex
 |_,0,_=>.bad
 |C,n+1,e=>match e with
  |.Name x _=>C.name x
  |.Constant c _ _=>Xc c
  |.BinOp a op b _=>Gj op (cE C n a) (cE C n b)
  |.UnaryOp op a _=>Gv op (cE C n a)
  |.Compare a os bs _=>Go (cE C n) a os bs
  |.BoolOp op vs _=>Gk op (vs.map<|cE C n)
  |.IfExp c a b _=>.ite (cE C n c) (cE C n a) (cE C n b)
  |.Tuple es _ _=>if es.all bW then .tup (mJ<|es.map<|cE C n) else .bad
  |.List es _=>if es.all bW then .lst (mJ<|es.map<|cE C n) else .bad
  |.Subscript a s _=>Gu C (cE C n) a s
  |.Call g es ks pos=>match xx C (cE C n) g es ks with
   |some y=>y
   |none=>Gm C (cE C n) g es ks pos
  |.Dict ks vs _=>Gp (cE C n) ks vs
  |.Attribute o f _=>Gf C o f (cE C n o)
  |.ListComp elt gs scope _=>oo C (λC' e'=>cE C' n e') elt gs scope
  |_=>.bad
theorem Ah{α:Type}{x:Str}{v:α}:∀{l:List (Str×α)},l.lookup x=aA v->(x,v)∈l
 |[],h=>by cases h
 | (k,u)::r,h=>by
  rw[iX]at h;split at h
  .rename_i q;have:=eq_of_beq q;subst this;cases h;exact kB
  .exact lT _<|Ah h
theorem VM:∀q∈Wg,mV q.1=aA (.type q.2.nm):=by decide +kernel
structure Lk(X:Cx)(T:Tab)(E:XK)(C:Cn)(F:Run):Prop where
 K:X.K=T.K
 N:X.N=C.N
 sc:X.env.scope=C.sc
 nd:C.N.Nodup
 fn:C.top=aB->∀x,X.fn x=aB
 calm:X.calm=aB
 po:C.top=aB->vx (aY X.prog X.w) X.A X.env X.xe
 gv:∀x v,C.ql.lookup x=aA v->∃u v',X.mg x=aA u/\RelV v' u/\∀Y H,aX T Y H v v'
 fns:∀(i:Nat) x,C.fns[i]?=aA x->Fn X T E x (F i)
 jD:∀x,C.jD.contains x=aB->X.mg x=aD
 tab:∀kvs a,T.G kvs a->my X.prog X.w X.K a kvs
 un:X.A.units+64<cLine
 kU:∀f cs,C.kU.lookup f=aA cs->dz X.K T cs f
 nG:∀m dp,C.nG.lookup m=aA dp->∀c D g,(dp.lookup c).map F=aA g->T.C c=aA D->yF X T (λ_=>E) D m g
 mP:∀x n c i dv,C.mP.lookup (x,n)=aA (c,i,dv)->wy X T E x c dv (F i)
 sF:∀y cs,C.sF.lookup y=aA cs->∃D:Addr,X.mg y=aA (.ref D)/\∀k b,cs.lookup k=aA b->∃D':Addr,T.C k=aA D'/\Uo X.K D'/\Sq X.K (.ref D') (.ref D)=aA b
 oW:∀x m i,(C.oW.lookup x).bind (·.lookup m)=aA i->Fa X T E x m (F i)
section
variable {X:Cx}{E:XK}{C:Cn}{F:Run}(L:Lk X T E C F)
theorem Ar{x:Str}(h:ia x=aB):(x==("__debug__":Str))=aH/\(x==("__classdict__":Str))=aH/\x≠"__name__":=by simp only[ia,bQ,KB,beq_eq_false_iff_ne]at h;exact⟨beq_eq_false_iff_ne.mpr h.1.1,beq_eq_false_iff_ne.mpr h.1.2,h.2⟩
theorem uI{x:Str}{l:YX}{i:Nat}(h:l.idxOf? x=aA i):l[i]?=aA x:=by obtain⟨h1,a,_⟩:=List.findIdx?_eq_some_iff_getElem.mp h;rw[dZ h1];exact congrArg aA<|eq_of_beq a
include L in
theorem Lk.gl{x:Str}(h:C.gl x=aB):Gl X x:=by have a:=of_decide_eq_true h;rw[<- L.sc]at a;exact a
def Q2(X:Cx)(T:Tab)(E:XK)(F:Run)(e:aL)(x:Ex):Prop:=QE X T E e (aM F x)/\QT X T E e (dR F x)
theorem dO:Q2 X T E F e .bad:=⟨ER,Nf⟩
include L in
theorem EO{it:aL}{y:Ex}(pl:tj e=aB)(h:Q2 X T E F e y):Q2 X T E F e (C.kK it d y):=by
 unfold Cn.kK;split
 .exact⟨EV (aM F d) h.1,rB L.K (EV (aM F d) h.1) pl⟩
 .exact h
include L in
theorem aLe(x:Str)(pos:Pos):Q2 X T E F (.Name x pos) (C.name x):=by
 unfold Cn.name;split
 case isFalse=>exact dO
 case isTrue ok=>
  obtain⟨h1,b,g⟩:=Ar ok;split
  case isTrue hl=>
   split
   case h_1 i c=>
    have a:nj X.env.scope x:=by
     rw[L.sc];simp only[Cn.loc,jw,decide_eq_true_eq]at hl;rcases hl with hl|hl
     .exact .inl hl
     .exact .inr<|.inl hl
    have q:QE X T E (.Name x pos) (uG i):=aEt (by rw[L.N];exact uI c) a h1 b;exact⟨q,rB L.K q rfl⟩
   case h_2=>exact dO
  case isFalse=>
   split
   case isFalse=>exact dO
   case isTrue d=>
    split
    case h_1 v a=>obtain⟨u,h,e,r,f⟩:=L.gv x v a;have q:QE X T E (.Name x pos) (λ_=>M.ret v):=uQ (DY (L.gl d) e r h1) f;exact⟨q,rB L.K q rfl⟩
    case h_2=>exact dO
include L in
theorem aLb(c:Const)(k:Nat)(pos:Pos):Q2 X T E F (.Constant c k pos) (Xc c):=by
 cases c with
 |none=>exact⟨uQ Lj λ_ _=>.aE,rB L.K (uQ Lj λ_ _=>.aE) rfl⟩|bool b=>exact⟨uQ Li λ_ _=>.bl b,rB L.K (uQ Li λ_ _=>.bl b) rfl⟩|int i=>exact⟨uQ DZ λ_ _=>.int i,rB L.K (uQ DZ λ_ _=>.int i) rfl⟩|str x=>exact⟨uQ EA λ_ _=>.str x,rB L.K (uQ EA λ_ _=>.str x) rfl⟩|_=>exact dO
include L in
theorem X7{op:rN}{o:Op}(h:Vt op=aA o):eB X T E (eV op) o.g:=by
 cases op<;>cases h
 .exact X5 L.K
 .exact Z7
 .exact Y9
 .exact Y8
 .exact Z4
 .exact Z5
 .exact Z6
 .exact Z3
 .exact Z8
 .exact X6
 .exact X9
include L in
theorem ic(op:pM):eB X T E (dM op) (yc op).g:=by
 cases op
 .exact X8 L.K (by have:=L.un;omega)
 .exact Z0 L.K (by have:=L.un;omega)
 .exact Y7
 .exact Y6
 .exact Y1
 .exact Y0
 .exact Y4
 .exact Y5
 .exact Y2 L.K (by have:=L.un;omega)
 .exact Z1 L.K (by have:=L.un;omega)
theorem nX{f:aL->Ex}(hs:es.all bW=aB)(h:∀e,Q2 X T E F e (f e)):QA X T E es (dS F<|mJ<|es.map f):=by
 induction es with
 |nil=>exact aDm|cons e es a=>rw[jZ,bQ]at hs;exact aDl (h e).1 (a hs.2) hs.1
include L in
theorem Vb{pos:Pos}{f:aL->Ex}(h:∀e,Q2 X T E F e (f e)):∀(e:aL) (es:List aL),QE X T E (.BoolOp .And (e::es) pos) (aM F<|yO .and<|(e::es).map f)/\QW X T E (.BoolOp .And (e::es) pos) (dR F<|yO .and<|(e::es).map f)
 |e,[]=>⟨EU (h e).1,aIn (h e).2⟩
 |e,b::rest=>by obtain⟨h1,a⟩:=Vb h b rest;exact⟨aDn L.K (h e).1 h1,aIm (h e).2 a⟩
include L in
theorem DQ{pos:Pos}{f:aL->Ex}(h:∀e,Q2 X T E F e (f e)):∀(e:aL) (es:List aL),QE X T E (.BoolOp .Or (e::es) pos) (aM F<|yO .or<|(e::es).map f)/\QW X T E (.BoolOp .Or (e::es) pos) (dR F<|yO .or<|(e::es).map f)
 |e,[]=>⟨EU (h e).1,aIp (h e).2⟩
 |e,b::rest=>by obtain⟨h1,a⟩:=DQ h b rest;exact⟨aEm L.K (h e).1 h1,aIo (h e).2 a⟩
theorem Q0{x:Ex}(q:QE X T E e (aM F x)):QO X T E (aA e) (λZ=>pD (nN x) (aM F (nN x) Z)):=by cases x<;>first|exact FH q|exact FH ER
theorem DU{o:Option aL}{f:aL->Ex}(h:∀e,Q2 X T E F e (f e)):QO X T E o (λZ=>pD (o.elim .no λe=>nN (f e)) (aM F (o.elim .no λe=>nN (f e)) Z)):=by
 cases o with
 |none=>exact aHr|some e=>exact Q0 (h e).1
include L in
theorem aLc{f:aL->Ex}(ih:∀e,Q2 X T E F e (f e)){g:aL}{ks:List tF}{y:Ex}(h:xx C f g es ks=aA y):Q2 X T E F (.Call g es ks pos) y:=by
 unfold xx at h;split at h
 case h_2=>cases h
 case h_1 x p a=>
  split at h
  case h_2=>cases h
  case h_1 k c=>
   split at h
   case isFalse=>cases h
   case isTrue hb=>
    cases h;simp only[bQ,Cn.bl]at hb;obtain⟨⟨⟨i,hm⟩,_⟩,hs⟩:=hb;have mk:QE X T E (.Call (.Name x p) [a] ks pos) (aM F<|.kc k<|f a)->Q2 X T E F (.Call (.Name x p) [a] ks pos) (.kc k<|f a):=λq=>⟨q,rB L.K q rfl⟩;refine mk ?_;unfold BF at c;split at c
    case h_1=>
     split at c
     case isTrue d=>cases c;subst d;exact aDo L.K L.calm (L.gl i) (L.jD _ hm) (ih a).1 hs
     split at c
     case isTrue d=>cases c;subst d;exact aEo L.K L.calm (L.gl i) (L.jD _ hm) (ih a).1 hs
     cases c
    case h_2 nm kc kp=>
     split at c
     case h_1 b j l=>
      split at c
      case isFalse=>cases c
      case isTrue d=>cases c;obtain⟨rfl,rfl⟩:=d;exact aEq L.K (L.gl i) (L.jD _ hm) (ih a).1 hs
     case h_2 j l=>
      split at c
      case isFalse=>cases c
      case isTrue d=>cases c;obtain⟨rfl,rfl⟩:=d;exact aEi L.K L.calm (L.gl i) (L.jD _ hm) (ih a).1 hs
     case h_3=>cases c
    case h_3=>cases c
include L in
theorem VE:∀q∈Vs,(∃id,oS X T E (.builtin id) q.2.g/\mV q.1=aA (.builtin id))\/∃id,oS X T E (.type id) q.2.g/\mV q.1=aA (.type id):=
 List.forall_mem_cons.2 ⟨.inl ⟨_,WX L.K,boot_len⟩,List.forall_mem_cons.2 ⟨.inr ⟨_,WW,boot_int⟩,List.forall_mem_cons.2 ⟨.inl ⟨_,XA L.calm,boot_min⟩,List.forall_mem_cons.2 ⟨.inl ⟨_,WZ L.calm,boot_max⟩,List.forall_mem_cons.2 ⟨.inl ⟨_,WV,boot_divmod⟩,List.forall_mem_cons.2 ⟨.inr ⟨_,XB L.K,boot_tuple⟩,List.forall_mem_cons.2 ⟨.inr ⟨_,WY L.K L.calm,boot_list⟩,λ_ h=>nomatch h⟩⟩⟩⟩⟩⟩⟩
include L in
theorem aLa(ih:∀e,Q2 X T E F e (cE C n e))(x:Str)(p:Pos)(es:List aL)(pos:Pos):Q2 X T E F (.Call (.Name x p) es [] pos) (C.Gw x es<|es.map<|cE C n):=by
  have mk:∀{y:Ex},QE X T E (.Call (.Name x p) es [] pos) (aM F y)->(∀j,dR F y j=(aM F y j).bind dH)->Q2 X T E F (.Call (.Name x p) es [] pos) y:=λ{y} q e=>by refine⟨q,?_⟩;have:=rB L.K q rfl;have A:=funext e;rw[A];exact this
  unfold Cn.Gw;split
  case isFalse=>exact dO
  case isTrue ok=>
    rw[bQ]at ok;obtain⟨h1,Q,u⟩:=Ar ok.1;split
    case h_1 i k=>
      split
      case isFalse=>exact dO
      case isTrue d=>
        have v:=L.fns i x (uI k);refine mk ?_ λ_=>rfl;cases es with
        |nil=>exact aDr v (L.gl d) h1|cons e es=>exact aDq v (L.gl d) (nX ok.2 ih) ok.2 h1
    case h_2=>
     split
     case h_1 c i B D=>
      split
      case isFalse=>exact dO
      case isTrue d=>
        have w:=L.mP x _ c i B D;refine mk ?_ λ_=>rfl;cases es with
        |nil=>exact aEf w (L.gl d) h1|cons e es=>exact aEe w (L.gl d) (nX ok.2 ih) ok.2 h1
     case h_2=>
      split
      case h_1 f G=>
        split
        case isFalse=>exact dO
        case isTrue hb=>
          simp only[Cn.bl,bQ]at hb;obtain⟨⟨⟨d,hm⟩,_⟩,l⟩:=hb;refine mk ?_ λ_=>rfl;cases es with
          |nil=>cases l|cons e es=>
            have q:=nX ok.2 ih;have h:=L.jD x hm;rcases VE L _ (Ah G)with⟨_,c,b⟩|⟨_,c,b⟩
            · exact aDs c (L.gl d) h b q ok.2 u h1
            · exact aDt c (L.gl d) h b q ok.2 u h1
      case h_2=>
        split
        case isFalse=>exact dO
        case isTrue k=>
          simp only[bQ,decide_eq_true_eq,Cn.bl]at k;obtain⟨H,⟨d,hm⟩,_⟩:=k;subst H;split
          case h_2=>exact dO
          case h_1 a t ca ct I J=>
            injection J with m K;subst m;cases t with
            |Name y M=>
              simp only[gz,hX];have N:bW a=aB:=by have:=ok.2;rw[jZ,bQ]at this;exact this.1
              split
              case h_2=>exact dO
              case h_1 bt g=>
                refine mk ?_ λ_=>rfl;split at g
                case isFalse=>cases g
                case isTrue z=>
                  simp only[Cn.bl,bQ]at z;obtain⟨⟨o,r⟩,s⟩:=z;obtain⟨k1,k2,O⟩:=Ar s;have sa:bW a=aB:=by have:=ok.2;rw[jZ,bQ]at this;exact this.1
                  have fin:∀bt,mV y=aA (.type bt.nm)->QE X T E (.Call (.Name "isinstance" p) [a,.Name y M] [] pos) (aM F<|.qG bt<|cE C n a):=λbt P=>aEb L.K bt (L.gl d) (L.jD _ hm) (L.gl o) (L.jD _ r) P O k1 (ih a).1 sa
                  exact fin _<|VM _<|Ah g
            |_=>exact dO
include L in
theorem ug{f:aL->Ex}(ih:∀e,Q2 X T E F e (f e))(tg e:aL):QI X T E tg e (cU F<|cI C f tg e):=by
 unfold cI;split
 .rename_i x p d pos;split
  .rename_i h;simp only[bQ,decide_eq_true_eq,Cn.bl]at h;obtain⟨b,⟨c,hm⟩,_⟩:=h;subst b;split
   .split
    .rename_i a hs;exact aEx (L.gl c) (L.jD _ hm) (nX (by simp[hs]) ih) hs
    .exact aj
   .exact aj
  .split
   .rename_i h;simp only[bQ,decide_eq_true_eq,Cn.bl]at h;obtain⟨b,⟨c,hm⟩,_⟩:=h;subst b;split
    .split
     .rename_i hs;exact aEw L.K (L.gl c) (L.jD _ hm) (ih _).1 hs
     .exact aj
    .exact aj
   .split
    .rename_i h;simp only[bQ,decide_eq_true_eq,Cn.bl]at h;obtain⟨b,⟨c,hm⟩,_⟩:=h;subst b;split
     .split
      .rename_i hs;rw[bQ]at hs;exact aEy L.K (L.gl c) (L.jD _ hm) (nX (by simp[hs.1,hs.2]) ih) hs.1 hs.2
      .exact aj
     .exact aj
    .exact EZ L.K (ih _).1
 .split
  .split
   .exact aEv (ih _).1
   .exact EZ L.K (ih _).1
  .exact aj
include L in
theorem HF:∀{es:List aL}{l:Ia},ye C es=aA l->eh X T E es (xp l)/\es.all sY=aB/\l.length=es.length
 |[],l,h=>by cases h;exact⟨EY,rfl,rfl⟩
 |e::es,l,h=>by
  cases e with
  |Name x p=>
   simp only[ye]at h;split at h
   .rename_i b;split at h
    .rename_i i g c hl;cases h;obtain⟨h1,d,f⟩:=HF hl;have a:X.env.scope.names.lookup x=aA .local:=by rw[L.sc];exact of_decide_eq_true b
     exact⟨EX (Mf (L.N▸L.nd) (by rw[L.N];exact uI c) (.inl a)<|.inr a) h1 rfl,by rw[jZ,d];rfl,by simp[f]⟩
    .cases h
   .cases h
  |_=>cases h
include L in
theorem Cc(e:aL):QG X T E e (pS<|xw C e):=by
 unfold xw;split
 .split
  .rename_i a;split
   .rename_i i b;have lc:∀{x:Str},C.sc.names.lookup x=aA .local->X.env.scope.names.lookup x=aA .local:=λ{x} h=>L.sc▸h;exact Mf (L.N▸L.nd) (by rw[L.N];exact uI b) (.inl<|lc<|of_decide_eq_true a)<|.inr<|lc<|of_decide_eq_true a
   .exact uR
  .exact uR
 .split
  .rename_i l hl;obtain⟨h1,c,d⟩:=HF L hl;show QG X T E _ (zL l.length<|xp l);rw[d];exact EW L.K L.calm h1 c
  .exact uR
 .exact uR
end
section
variable {X:Cx}{E:XK}{C:Cn}{F:Run}
theorem Wu(ok:C.yT scope=aB):scope.kind = .function/\(∀y∈scope.names,y.2 ≠ .cell)/\(∀y∈scope.names,y.2 = .local->scope.names.lookup y.1=aA .local)/\(∀y∈scope.names,y.2 = .free->C.sc.names.lookup y.1=aA .cell)/\(yS scope).Nodup/\C.top=aB:=by simp only[Cn.yT,bQ,decide_eq_true_eq,KU]at ok;exact⟨ok.1.1.1.1.1,ok.1.1.1.1.2,ok.1.1.1.2,ok.1.1.2,ok.1.2,ok.2⟩
theorem Lk.yd(L:Lk X T E C F)(ok:C.yT scope=aB):oT X (yS scope) scope:=by obtain⟨h1,a,b,c,_⟩:=Wu ok;exact⟨h1,a,b,λy d e=>by rw[L.sc];exact c y d e⟩
theorem Lk.imp(L:Lk X T E C F){i j:Nat}{x:Str}(e1:(yS scope)[i]?=aA x)(e2:(C.imp scope)[i]?=aA (aA j)):scope.names.lookup x=aA .free/\(x,iY)∈scope.names/\X.N[j]?=aA x:=by
 unfold Cn.imp at e2;rw[fM,e1]at e2;have a:(if decide (scope.names.lookup x=aA .free) then C.N.idxOf? x else aD)=aA j:=eF e2;split at a
 .rename_i h;have h:=of_decide_eq_true h;exact⟨h,Ah h,by rw[L.N];exact uI a⟩
 .cases a
theorem Lk.comp(L:Lk X T E C F)(ok:C.yT scope=aB)(s:aJ)(H:Hp)(a:Addr)(fp:Hy):Lk (X.comp (yS scope) scope s H a fp) T E0 (C.comp scope) F where
 K:=L.K
 N:=rfl
 sc:=by show relabel scope X.env=GL scope C.sc;rw[<- L.sc];rfl
 nd:=(Wu ok).2.2.2.2.1
 fn:=λz=>by cases z
 calm:=L.calm
 po:=λz=>by cases z
 gv:=L.gv
 fns:=λi x h=>let ⟨k,f,fd,ps,F,hr,hm,j,hb,_⟩:=(L.fns i x h);⟨k,f,fd,ps,F,hr,hm,j,hb,λ_ _ _ _ _ _ _ z=>(oq z).elim⟩
 jD:=L.jD
 tab:=L.tab
 un:=L.un
 kU:=L.kU
 nG:=λm dp h c D g h1 b=>let ⟨k,f,fd,ps,F,hr,c,hm,hb,_⟩:=(L.nG m dp h c D g h1 b);⟨k,f,fd,ps,F,hr,c,hm,hb,λ_ _ _ _ _ _ _ z=>(oq z).elim⟩
 mP:=λx n c i l h=>let ⟨k,C,f,fd,ps,ds,d,o,K,F,hr,hm,hb,p,e,_⟩:=(L.mP x n c i l h);⟨k,C,f,fd,ps,ds,d,o,K,F,hr,hm,hb,p,e,λ_ _ _ _ _ _ _ z=>(oq z).elim⟩
 sF:=L.sF
 oW:=λx m i h=>let ⟨k,C,f,fd,ps,hm,F,hr,kp,h1,b,q,r,hb,_⟩:=(L.oW x m i h);⟨k,C,f,fd,ps,hm,F,hr,kp,h1,b,q,r,hb,λ_ _ _ _ _ _ _ z=>(oq z).elim⟩
end
theorem aLd{X:Cx}{E:XK}{C:Cn}{F:Run}(L:Lk X T E C F)(ih:∀e,Q2 X T E F e (cE C n e))(o:aL)(m:Str)(apos pos:Pos)(es:List aL):Q2 X T E F (.Call (.Attribute o m apos) es [] pos) (C.Kl o m apos pos es (cE C n o)<|es.map<|cE C n):=by
 have k:∀{e:aL}{y:Ex},QE X T E e (aM F y)->tj e=aB->(∀s,dR F y s=(aM F y s).bind dH)->Q2 X T E F e y:=λ{e y} q pl z=>by refine⟨q,?_⟩;have:=rB L.K q pl;have A:=funext z;rw[A];exact this
 unfold Cn.Kl;split
 case isFalse=>exact dO
 case isTrue hb=>
  rw[bQ]at hb;obtain⟨hs,hl⟩:=hb;have blt:Q2 X T E F (.Call (.Attribute o m apos) es [] pos) (Wa o m (cE C n o)<|es.map<|cE C n):=by
   cases es with
   |nil=>
    show Q2 X T E F _ (Kq o m<|cE C n o);unfold Kq;split
    case isTrue hm=>simp only[bQ,decide_eq_true_eq]at hm;obtain⟨hm,h⟩:=hm;subst hm;exact k (aEn L.K (ih _).1 h hl) rfl λ_=>rfl
    exact dO
   |cons a es=>
    rw[jZ,bQ]at hs;cases es with
    |nil=>
     show Q2 X T E F _ (Kr o m (cE C n o)<|cE C n a);unfold Kr;split
     case isTrue hm=>simp only[bQ,decide_eq_true_eq]at hm;obtain⟨hm,h⟩:=hm;subst hm;exact k (aDp L.K (ih _).1 (ih _).1 h hs.1 hl) rfl λ_=>rfl
     split
     case isTrue h=>
      split
      .rename_i f t;exact k (ET t (by have:=L.un;omega) (ih _).1 (nX (by simp[hs.1]) ih) h (by simp[hs.1]) (by simp) hl) rfl λ_=>rfl
      .exact dO
     exact dO
    |cons b es=>
     obtain⟨j,d⟩:=hs;rw[jZ,bQ]at d;cases es with
     |nil=>
      show Q2 X T E F _ (Ks o m (cE C n o) (cE C n a)<|cE C n b);unfold Ks;split
      case isTrue hm=>simp only[bQ,decide_eq_true_eq]at hm;obtain⟨⟨hm,h⟩,_⟩:=hm;subst hm;exact k (aDz L.tab (ih _).1 (nX (by simp[j,d.1]) ih) h j d.1 hl) rfl λ_=>rfl
      split
      case isTrue h=>
       split
       .rename_i f t;exact k (ET t (by have:=L.un;omega) (ih _).1 (nX (by simp[j,d.1]) ih) h (by simp[j,d.1]) (by simp) hl) rfl λ_=>rfl
       .exact dO
      exact dO
     |cons c es=>exact dO
  split
  case h_1 i r=>
   split
   case isFalse=>exact dO
   case isTrue l=>
    simp only[bQ,decide_eq_true_eq]at l;unfold Cn.Ws at r;cases o with
    |Name x p=>
     simp only[gz,hX]at r;split at r
     case isFalse=>cases r
     case isTrue u=>
      rw[bQ]at u;cases es with
      |nil=>cases l.1|cons e es=>exact k (aDv (L.oW _ _ _ r) (L.gl u.2) (Ar u.1).1 (nX hs ih) hs l.2 hl) rfl λ_=>rfl
    |_=>cases r
  case h_2=>
   split
   case h_2=>exact blt
   case h_1 dp v=>
    split
    case isFalse=>exact dO
    case isTrue l=>
     rw[bQ,decide_eq_true_eq]at l;have w:=λc D g h1 B=>L.nG m dp v c D g h1 B;cases es with
     |nil=>exact k (aEh w (ih _).1 l.1 hl) rfl λ_=>rfl|cons e es=>exact k (aEg w (ih _).1 (nX hs ih) l.1 hs l.2 hl) rfl λ_=>rfl
theorem iF{T:Tab}{F:Run}:∀(n:Nat) {X:Cx}{E:XK}{C:Cn} (L:Lk X T E C F) (e:aL),Q2 X T E F e (cE C n e)
 |0,X,E,C,L,e=>dO
 |n+1,X,E,C,L,e=>by
  have d:=λe=>iF n L e;have m:∀{e:aL}{y:Ex},QE X T E e (aM F y)->tj e=aB->(∀B,dR F y B=(aM F y B).bind dH)->Q2 X T E F e y:=λ{e y} q pl u=>by refine⟨q,?_⟩;have:=rB L.K q pl;have w:=funext u;rw[w];exact this
  cases e
  case Name=>exact aLe L _ _
  case Constant=>exact aLb L _ _ _
  case BinOp a op b p=>
   show Q2 X T E F _ (Gj op (cE C n a)<|cE C n b);unfold Gj;split
   .rename_i o J;exact m (aEk (X7 L J) (d _).1 (d _).1) rfl λ_=>rfl
   .exact dO
  case UnaryOp op a p=>
   show Q2 X T E F _ (Gv op<|cE C n a);unfold Gv;split
   .exact⟨aEs aPb (d _).1,Nf⟩
   .exact⟨aEj L.K (d _).1,aIl (d _).2⟩
   .exact dO
  case Compare a os bs p=>
   show Q2 X T E F _ (Go (cE C n) a os bs);unfold Go;split
   .split
    .rename_i hb;exact⟨aDw (ic L _) (d _).1 (d _).1 (Bu hb),aIk (ic L _) (d _).1 (d _).1 (Bu hb)⟩
    .exact dO
   .split
    .rename_i D;exact⟨aDu (ic L _) (ic L _) (d _).1 (d _).1 (d _).1 (Bu D),aIj (ic L _) (ic L _) (d _).1 (d _).1 (d _).1 (Bu D)⟩
    .exact dO
   .exact dO
  case BoolOp op t p=>
   show Q2 X T E F _ (Gk op<|t.map<|cE C n);unfold Gk;cases t with
   |nil=>split<;>exact dO|cons v t=>
    split
    .obtain⟨h1,I⟩:=Vb L d v t;exact⟨h1,I.qt⟩
    .obtain⟨h1,I⟩:=DQ L d v t;exact⟨h1,I.qt⟩
  case IfExp=>exact⟨aEa (d _).2 (d _).1 (d _).1,Nf⟩
  case Tuple r k p=>
   show Q2 X T E F _ (if r.all bW then .tup (mJ<|r.map<|cE C n) else .bad);split
   .rename_i hs;exact m (aEr<|nX hs d) rfl λ_=>rfl
   .exact dO
  case List r p=>
   show Q2 X T E F _ (if r.all bW then .lst (mJ<|r.map<|cE C n) else .bad);split
   .rename_i hs;exact m (aEd<|nX hs d) rfl λ_=>rfl
   .exact dO
  case Subscript a s p=>
   show Q2 X T E F _ (Gu C (cE C n) a s);unfold Gu;split
   .exact m (aEp L.K (d _).1 (DU d) (DU d)) rfl λ_=>rfl
   .split
    .rename_i hb;exact m (aEc (J0 L.K (by have:=L.un;omega)) (d _).1 (d _).1 (aKk hb)) rfl λ_=>rfl
    .exact dO
  case Call g r G p=>
   show Q2 X T E F _ (match xx C (cE C n) g r G with
    |some y=>y
    |none=>Gm C (cE C n) g r G p)
   split
   .rename_i h;exact aLc L d h
   unfold Gm;split
   .split
    .exact aLa L d _ _ _ _
    .exact aLd L d _ _ _ _ _
    .exact dO
   .exact dO
  case Dict G t p=>
   show Q2 X T E F _ (Gp (cE C n) G t);unfold Gp;split
   .exact m aDx rfl λ_=>rfl
   .exact dO
  case Attribute o f p=>
   show Q2 X T E F _ (Gf C o f<|cE C n o);unfold Gf;split
   .rename_i hb;split
    .rename_i cs D;exact m (aDy (L.kU _ _ D) (d _).1 hb) rfl λ_=>rfl
    all_goals exact dO
   .exact dO
  case ListComp elt gs scope p=>
   show Q2 X T E F _ (oo C (λK M=>cE K n M) elt gs scope);unfold oo;split
   .split
    .rename_i hb;rw[bQ]at hb;have A:=λs H a l=>L.comp hb.1 s H a l;split
     .exact EO L rfl<|m (ES (ct:=aD) (L.yd hb.1) L.calm (ug L d _ _) (λs H a l=>Cc (A s H a l) _) (λc z=>by cases z) (λ_=>rfl) (λs H a l=>(iF n (A s H a l) _).1) (by simp[Cn.imp]) (λi j x u w=>L.imp u w) hb.2) rfl λ_=>rfl
     .exact EO L rfl<|m (ES (ct:=aA _) (L.yd hb.1) L.calm (ug L d _ _) (λs H a l=>Cc (A s H a l) _) (λc z s H a l=>by cases z;exact(iF n (A s H a l) _).2) (λz=>by cases z) (λs H a l=>(iF n (A s H a l) _).1) (by simp[Cn.imp]) (λi j x u w=>L.imp u w) hb.2) rfl λ_=>rfl
     .exact dO
    .exact dO
   .exact dO
  all_goals exact dO
def Br:Ia->Ht->aG->aG
 |i::is,v::vs,Z=>Br is vs (Z.set i<|aA v)
 |_,_,Z=>Z
def DT(is:Ia)(mr:M Ht)(Z:aG):M Out:=mr.bind λvs=>M.guard (vs.length=is.length) (M.ret<|.nx<|Br is vs Z)
def aNe(i j k:Nat)(ta:TA):TS:=λD Z H=>ta Z H λvs H1=>∃v w z,vs=[v,w,z]/\D.nx (((Z.set i<|aA v).set j (aA w)).set k (aA z)) H1
section
variable {X:Cx}{E:XK}{a b:aL}{x y z:Str}{px pz pt:Pos}{kt k2:Nat}{pt2:Pos}{i j k:Nat}
theorem aCq{ta:TA}(hc:X.calm=aB)(hN:X.N.Nodup)(hi:X.N[i]?=aA x)(hj:X.N[j]?=aA y)(hk:X.N[k]?=aA z)(hij:i≠j)(hik:i≠k)(hjk:j≠k)
  (hx:X.env.scope.names.lookup x=aA .local) (hy:X.env.scope.names.lookup y=aA .local) (hz:X.env.scope.names.lookup z=aA .local) (ha:PA X [a,b,c] ta)
  (hw:ly [.Tuple [.Name x px,.Name y py,.Name z pz] kt pt] (.Tuple [a,b,c] k2 pt2) X.env=pure (aA [x,y,z])) :
  PS X (.Assign [.Tuple [.Name x px,.Name y py,.Name z pz] kt pt] (.Tuple [a,b,c] k2 pt2) pos) (aNe i j k ta):=by
 have hs:NY [.Tuple [.Name x px,.Name y py,.Name z pz] kt pt] (.Tuple [a,b,c] k2 pt2) pos.line X.env=pure aH:=by rfl
 intro pins s Z H D I h;rw[exec_Assign_arm];refine aP<|mm ?_;rw[hs];refine aP<|bZ ?_;rw[if_neg (by decide)];refine aP<|Tuple_<|bE (ha _ pins s Z H _ I h) λus s1 ⟨vs,H1,I1,r1,q1⟩=>?_;obtain⟨v,w,z',e1,q1⟩:=q1;subst e1;obtain⟨u1,u2,u3,rfl,rv,rw',rz⟩:∃u1 u2 u3,us=[u1,u2,u3]/\RelV v u1/\RelV w u2/\RelV z' u3:=by
  cases r1 with
  |cons p q=>
   cases q with
   |cons p' q'=>
    cases q' with
    |cons p2 q2=>cases q2;exact⟨_,_,_,rfl,p,p',p2⟩
 refine tQ ?_ (by show 3<=sizeLine;decide);have I2:Inv X pins Z H1 { s1 with heap:=s1.heap.push { cls:=.type "tuple",data:=.seq [u1,u2,u3].toArray } }:=I1.kept (t':=s1.toks) λb o e=>cT _ e;rw[hw];refine aP<|bZ ?_;show aS (aY X.prog X.w) X.A (do rule "assign.swapped-stores";let items <- Tx (.ref s1.heap.objs.size) 3 aD;Em [λv=>lq X.env z v,λv=>lq X.env y v,λv=>lq X.env x v] items.reverse;pure Flow.next) _ _ _;refine aP<|mf<|aP<|unpackItems_tuple (items:=#[u1,u2,u3]) (I.ok.hd hc) (Dp s1.heap _) λh' hx'=>?_;have I3:=I2.kept (h':=h') (t':=s1.toks) λb o e=>hx' b o (bV<|cZ e) e;show aS _ _ (Em [λv=>lq X.env z v,λv=>lq X.env y v,λv=>lq X.env x v] [u3,u2,u1]>>=λ_=>pure Flow.next) _ _ _;refine aP<|En<|Ua<|jf I3 hN hk (.inl hz) rz (λs2 I4=>?_)<|.inr hz;refine En<|Ua<|jf I4 hN hj (.inl hy) rw' (λs3 I5=>?_)<|.inr hy;refine En<|Ua<|jf I5 hN hi (.inl hx) rv (λs4 I6=>NQ (bZ ?_))<|.inr hx;rw[Rk _ _ (lE hjk),Rk _ _ (lE hik),Rk _ _ (lE hij)]at I6;exact⟨_,H1,I6,q1⟩
theorem aIa(hc:X.calm=aB)(hN:X.N.Nodup)(hi:X.N[i]?=aA x)(hj:X.N[j]?=aA y)(hk:X.N[k]?=aA z)(hij:i≠j)(hik:i≠k)(hjk:j≠k)
  (hx:X.env.scope.names.lookup x=aA .local) (hy:X.env.scope.names.lookup y=aA .local) (hz:X.env.scope.names.lookup z=aA .local) (ha:QA X T E [a,b,c] mr)
  (hw:ly [.Tuple [.Name x px,.Name y py,.Name z pz] kt pt] (.Tuple [a,b,c] k2 pt2) X.env=pure (aA [x,y,z])) :
  QS X T E (.Assign [.Tuple [.Name x px,.Name y py,.Name z pz] kt pt] (.Tuple [a,b,c] k2 pt2) pos) (λZ=>DT [i,j,k] (mr Z) Z):=by
 obtain⟨t,pr,f⟩:=ha;refine⟨_,aCq hc hN hi hj hk hij hik hjk hx hy hz pr hw,λg Z d h H D R S w=>f g Z d h H _ R S (W.bind w λl xs m h1 H1 n o p e=>?_)⟩;obtain⟨hz,e⟩:=zP e;cases p with
 |nil=>cases hz|cons q rs=>
  cases rs with
  |nil=>cases hz|cons r rs=>
   cases rs with
   |nil=>cases hz|cons s rs=>
    cases rs with
    |nil=>exact⟨_,_,_,rfl,W.here (b:=jR.nx _) e o ((((S.ext n).set q i).set r j).set s k)⟩|cons _ _=>cases hz
end
mutual
inductive Tg where
 |bad
 |nm (i:Nat)
 |tup (n:Nat) (ts:vY)
 |sub (o i:Ex)
inductive vY where
 |nil
 |cons (t:Tg) (ts:vY)
end
mutual
inductive Sx where
 |bad|pass|brk|cnt|Bm
 |expr (e:Ex)
 |ret (e:Ex)
 |asg (t:Tg) (e:Ex)
 |ite (c:Ex) (a b:aR)
 |wW (t:Tg) (it:Ir) (b:aR)
 |kK (d:Ex) (s:Sx)
 |vc (c:Ex) (b:aR)
 |par (is:Ia) (es:eP)
 |gc (cs:Ia) (f:Str) (o e:Ex)
 |pf (cs:Ia) (f:Str) (o e:Ex)
 |aug (sub:Bool) (i:Nat) (e:Ex)
inductive aR where
 |nil
 |cons (s:Sx) (ss:aR)
end
mutual
noncomputable def oV(F:Run):Tg->AV->aG->M aG
 |.bad,_,_=>M.bad
 |.nm i,v,Z=>M.ret (Z.set i<|aA v)
 |.tup n ts,v,Z=>zL n (vZ F ts) v Z
 |.sub o i,v,Z=>(aM F o Z).bind λx=>(aM F i Z).bind λy=>(nZ x y v).bind λ_=>M.ret Z
noncomputable def vZ(F:Run):vY->Ht->aG->M aG
 |.nil,vs,Z=>Iy vs Z
 |.cons t ts,vs,Z=>Iw (oV F t) (vZ F ts) vs Z
end
mutual
noncomputable def eM(F:Run):Sx->aG->M Out
 |.bad,_=>M.bad
 |.pass,Z=>M.ret (.nx Z)
 |.brk,Z=>M.ret (.brk Z)
 |.cnt,Z=>M.ret (.cnt Z)
 |.Bm,_=>M.ret (.ret .aE)
 |.expr e,Z=>(aM F e Z).bind λ_=>M.ret (.nx Z)
 |.ret e,Z=>(aM F e Z).bind λv=>M.ret (.ret v)
 |.asg t e,Z=>(aM F e Z).bind λv=>(oV F t v Z).bind λZ1=>M.ret (.nx Z1)
 |.ite c a b,Z=>Ae (dR F c Z) (jS F a Z) (jS F b Z)
 |.wW t it b,Z=>(cU F it Z).bind λi=>kG i (oV F t) (jS F b) FU 0 Z
 |.kK d s,Z=>mD (aM F d) (eM F s) Z
 |.vc c b,Z=>vF (dR F c) (jS F b) FU Z
 |.par is es,Z=>DT is (dS F es Z) Z
 |.gc cs f o e,Z=>Yz cs f (aM F o Z) (aM F e Z) Z
 |.pf cs f o e,Z=>Vf cs f (aM F o Z) (aM F e Z) Z
 |.aug sub i e,Z=>nu sub i (aM F e Z) Z
noncomputable def jS(F:Run):aR->aG->M Out
 |.nil,Z=>M.ret (.nx Z)
 |.cons s ss,Z=>GX (eM F s Z) (jS F ss)
end
def uo:List Tg->vY
 |[]=>.nil
 |t::ts=>.cons t (uo ts)
def cG(C:Cn):Nat->aL->Tg
 |0,_=>.bad
 |n+1,e=>match e with
  |.Name x _=>match C.slot x with
   |some i=>.nm i
   |none=>.bad
  |.Tuple es _ _=>if es.all sY then .tup es.length (uo<|es.map<|cG C n) else .bad
  |.Subscript a b _=>if bW b then .sub (cE C EF a) (cE C EF b) else .bad
  |_=>.bad
def uZ:List Sx->aR
 |[]=>.nil
 |s::ss=>.cons s (uZ ss)
def cK(C:Cn)(t:aL):Option Nat:=match t with
 |.Name x _=>if decide (C.sc.names.lookup x=aA .local) then C.N.idxOf? x else aD
 |_=>aD
def swL(C:Cn)(t e:aL):Bool:=decide (Of (vT e (aA t) 0 { (default:Env)with scope:=C.sc })=aA aB)
def cL(C:Cn)(t e:aL):Sx:=match cK C t with
 |some i=>if swL C t e then .asg (.nm i) (cE C EF e) else .bad
 |none=>.bad
def Oe(C:Cn)(t e:aL)(o:Option (List Str)):Bool:=decide (Of (swE [t] e C.sc)=aA o)
def Aw(C:Cn)(t e:aL)(ts vs:List aL):Bool:=ts.length==3&&vs.length==3&&ts.all (λt=>(cK C t).isSome)&&decide ((ts.filterMap<|cK C).Nodup)&&vs.all bW&&Oe C t e (aA<|ts.filterMap gz)
def cP(C:Cn)(t e:aL):Sx:=match t,e with
 |.Tuple ts _ _,.Tuple vs _ _=>if Aw C t e ts vs then .par (ts.filterMap<|cK C) (mJ<|vs.map<|cE C EF) else .bad
 |_,_=>.bad
def F9:aL->Bool
 |.Attribute ..=>aB
 |_=>aH
def Gq(C:Cn)(t e:aL):Sx:=match t with
 |.Attribute o f _=>match C.kU.lookup f with
  |some cs=>if bW e then .gc cs f (cE C EF o) (cE C EF e) else .bad
  |none=>.bad
 |_=>.bad
def Gi(C:Cn)(t:aL)(op:rN)(e:aL):Sx:=match t with
 |.Name x _=>match C.slot x with
  |some i=>match op with
   |.Add=>.aug aH i (cE C EF e)
   |.Sub=>.aug aB i (cE C EF e)
   |_=>.bad
  |none=>.bad
 |.Attribute o f _=>match C.kU.lookup f with
  |some cs=>match op with
   |.Add=>.pf cs f (cE C EF o) (cE C EF e)
   |_=>.bad
  |none=>.bad
 |_=>.bad
def Gr(C:Cn)(o:Option aL):Sx:=match o with
 |none=>.Bm
 |some e=>.ret (cE C EF e)
def Wh(C:Cn)(t e:aL):Sx:=
 if uJ e then cL C t e else
 if F9 t then Gq C t e else
 if bW e&&sY t&&Oe C t e aD then .asg (cG C 4 t) (cE C EF e) else
  cP C t e
def Ge(C:Cn)(ts:List aL)(e:aL):Sx:=match ts with
 |[t]=>Wh C t e
 |_=>.bad
def Cn.Ci(C:Cn)(it:aL)(d:Ex)(s:Sx):Sx:=if C.Jn it then .kK d s else s
def cS(C:Cn):Nat->Stmt->Sx
 |0,_=>.bad
 |n+1,s=>match s with
  |.Pass _=>.pass
  |.Break _=>.brk
  |.Continue _=>.cnt
  |.Return o _=>Gr C o
  |.Expr e _=>if bW e && !uJ e then .expr (cE C EF e) else .bad
  |.Assign ts e _=>Ge C ts e
  |.AugAssign t op e _=>Gi C t op e
  |.If c a b _=>.ite (cE C EF c) (uZ<|a.map<|cS C n) (uZ<|b.map<|cS C n)
  |.For t it b els _=>if els.isEmpty&&bW it then C.Ci it (cE C EF it) (.wW (cG C 4 t) (cI C (cE C EF) t it)<|uZ<|b.map<|cS C n) else .bad
  |.While c b els _=>if els.isEmpty then .vc (cE C EF c) (uZ<|b.map<|cS C n) else .bad
  |_=>.bad
section
variable {X:Cx}{E:XK}{C:Cn}{F:Run}(L:Lk X T E C F)(ht:C.top=aB)
theorem aOh{k:aG->AV->aG}(Z:aG):mD m0 (λZ=>(ma Z).bind λv=>(M.ret<|k Z v).bind λZ1=>M.ret (Out.nx Z1)) Z=(mD m0 ma Z).bind λv=>(M.ret<|k Z v).bind λZ1=>M.ret (Out.nx Z1):=by
 funext h
 simp only[M.bind,M.ret,mD];cases yf (m0 Z h) with
 |none=>rfl|some n=>
  dsimp only;cases h.ob n with
  |none=>rfl|some u=>
   cases u with
   |aQ b=>
    cases ma Z h with
    |ok a h1=>
     dsimp only[uq];cases h1.ob n with
     |none=>rfl|some w=>cases w<;>rfl
    |bad=>rfl
   |_=>rfl
theorem FL{st:Stmt}{it:aL}{y:Ex}{i:Nat}(h:QS X T E st (λZ=>(aM F y Z).bind λv=>(M.ret<|Z.set i<|aA v).bind λZ1=>M.ret (.nx Z1))) :
  QS X T E st (λZ=>(aM F (C.kK it d y) Z).bind λv=>(M.ret<|Z.set i<|aA v).bind λZ1=>M.ret (.nx Z1)):=by
 unfold Cn.kK;split
 .have q:=FK (aM F d) h;have e:mD (aM F d) (λZ=>(aM F y Z).bind λv=>(M.ret<|Z.set i<|aA v).bind λZ1=>M.ret (Out.nx Z1))=λZ=>(aM F (.kK d y) Z).bind λv=>(M.ret<|Z.set i<|aA v).bind λZ1=>M.ret (Out.nx Z1):=funext λZ=>aOh Z;rw[e]at q;exact q
 .exact h
theorem aIf{st:Stmt}{it:aL}{s:Sx}(h:QS X T E st (eM F s)):QS X T E st (eM F<|C.Ci it d s):=by
 unfold Cn.Ci;split
 .exact FK (aM F d) h
 .exact h
theorem aOg{f:aL->Tg}(hs:es.all sY=aB)(h:∀e,QG X T E e (oV F<|f e)):eh X T E es (vZ F<|uo<|es.map f):=by
 induction es with
 |nil=>exact EY|cons e es a=>rw[jZ,bQ]at hs;exact EX (h e) (a hs.2) hs.1
include L ht in
theorem Ny:∀(n:Nat) (e:aL),QG X T E e (oV F<|cG C n e)
 |0,e=>uR
 |n+1,e=>by
  unfold cG;split
  .split
   .rename_i i a;unfold Cn.slot at a;split at a
    .rename_i hl;have b:∀{x:Str},C.loc x=aB->vV X.env.scope x:=λ{x} hl=>by rw[L.sc];simp only[Cn.loc,jw,decide_eq_true_eq]at hl;exact hl
     exact Mf (by rw[L.N];exact L.nd) (by rw[L.N];exact uI a) (b hl)<|.inl<|L.fn ht _
    .cases a
   .exact uR
  .split
   .rename_i hs;exact EW L.K L.calm (aOg hs<|Ny n) hs
   .exact uR
  .split
   .rename_i hs;exact aEu (by have:=L.un;lia) (iF EF L _).1 (iF EF L _).1 hs
   .exact uR
  .exact uR
theorem uk{ss:YV}{f:Stmt->Sx}(h:∀s,QS X T E s (eM F<|f s)):vX X T E ss (jS F<|uZ<|ss.map f):=by
 induction ss with
 |nil=>exact aIi|cons s ss a=>exact aIh (h s) a
theorem Ca{t:aL}(h:(cK C t).isSome=aB):∃x p i,t = .Name x p/\cK C t=aA i/\C.sc.names.lookup x=aA .local/\C.N[i]?=aA x:=by
 cases t with
 |Name x p=>
  obtain⟨i,a⟩:=Option.isSome_iff_exists.mp h;refine⟨x,p,i,rfl,a,?_⟩;have a:(if decide (C.sc.names.lookup x=aA .local)=aB then C.N.idxOf? x else aD)=aA i:=a;by_cases e:C.sc.names.lookup x=aA .local
  .rw[if_pos (decide_eq_true e)]at a;exact⟨e,uI a⟩
  .rw[if_neg (mt of_decide_eq_true e)]at a;cases a
 |_=>cases h
theorem BX{α:Type}{l:List α}(h:l.length=3):∃a b c,l=[a,b,c]:=by
 match l,h with
 |[a,b,c],_=>exact⟨a,b,c,rfl⟩
theorem HL{t:aL}{o:Option (List Str)}(hs:X.env.scope=C.sc)(h:Oe C t e o=aB):ly [t] e X.env=pure o:=by have h:=HM (of_decide_eq_true h);rw[<- hs]at h;exact h
include L ht in
theorem aKz(t e:aL)(pJ:Pos):QS X T E (.Assign [t] e pJ) (eM F<|cP C t e):=by
 cases t with
 |Tuple f p pt=>
  cases e with
  |Tuple g k2 q=>
   show QS X T E _ (eM F<|if Aw C (.Tuple f p pt) (.Tuple g k2 q) f g then .par (f.filterMap<|cK C) (mJ<|g.map<|cE C EF) else .bad);by_cases ok:Aw C (.Tuple f p pt) (.Tuple g k2 q) f g=aB
   .rw[if_pos ok];unfold Aw at ok;rw[bQ,bQ,bQ,bQ,bQ]at ok;obtain⟨⟨⟨⟨⟨r,s⟩,m⟩,d⟩,l⟩,n⟩:=ok;obtain⟨t1,u,t3,rfl⟩:=BX (eq_of_beq r);obtain⟨a,b,c,rfl⟩:=BX (eq_of_beq s);have sl:=List.all_eq_true.mp m;obtain⟨x,v,i,rfl,w,A,g1⟩:=Ca (sl t1<|.head _);obtain⟨y,py,j,rfl,B,D,g2⟩:=Ca (sl u<|.tail _<|.head _);obtain⟨z,G,k,rfl,H,I,g3⟩:=Ca (sl t3<|.tail _<|.tail _<|.head _);have d:=of_decide_eq_true d;have J:[Expr.Name x v,.Name y py,.Name z G].filterMap (cK C)=[i,j,k]:=by rw[Qk w,Qk B,Qk H];rfl
    rw[J]at d ⊢;have lc:∀{x:Str},C.sc.names.lookup x=aA .local->X.env.scope.names.lookup x=aA .local:=λ{x} h=>L.sc▸h;have o:=List.nodup_cons.mp d;exact aIa L.calm (by rw[L.N];exact L.nd) (by rw[L.N];exact g1) (by rw[L.N];exact g2) (by rw[L.N];exact g3) (λe=>o.1 (e ▸ .head _)) (λe=>o.1 (e ▸ .tail _ (.head _))) (λe=>(List.nodup_cons.mp o.2).1 (e ▸ .head _)) (lc A) (lc D) (lc I) (nX l<|iF EF L)<|HL L.sc n
   .rw[if_neg ok];exact iU
  |_=>exact iU
 |_=>exact iU
include L ht in
theorem aKy(t e:aL)(pJ:Pos)(hlc:uJ e=aB):QS X T E (.Assign [t] e pJ) (eM F<|cL C t e):=by
 unfold cL;split
 .rename_i i p;obtain⟨y,py,j,rfl,u,k,d⟩:=Ca (by rw[p];rfl);cases p.symm.trans u;split
  .rename_i l;rw[<- L.N]at d;rw[<- L.sc]at k;have q:=L.N▸L.nd;cases e with
   |ListComp elt gens scope pos=>
    have f:vT (.ListComp elt gens scope pos) (aA<|.Name y py) pJ.line X.env=pure aB:=by have h:=HM (of_decide_eq_true l);rw[<- L.sc]at h;exact h
    show QS X T E _ (λr=>(aM F (oo C (λw A=>cE w 39 A) elt gens scope) r).bind λv=>(M.ret<|r.set i<|aA v).bind λm=>M.ret (.nx m));unfold oo;split
    .split
     .rename_i hb;rw[bQ]at hb;have g:=λs H a b=>L.comp hb.1 s H a b;split
      .exact FL<|FJ (ct:=aD) q d k f (L.yd hb.1) L.calm (ug L (iF 39 L) _ _) (λs H a b=>Cc (g s H a b) _) (λc z=>by cases z) (λ_=>rfl) (λs H a b=>(iF 39 (g s H a b) _).1) (by simp[Cn.imp]) (λi j x n o=>L.imp n o) hb.2
      .exact FL<|FJ (ct:=aA _) q d k f (L.yd hb.1) L.calm (ug L (iF 39 L) _ _) (λs H a b=>Cc (g s H a b) _) (λc z s H a b=>by cases z;exact(iF 39 (g s H a b) _).2) (λz=>by cases z) (λs H a b=>(iF 39 (g s H a b) _).1) (by simp[Cn.imp]) (λi j x n o=>L.imp n o) hb.2
      .exact iU
     .exact iU
    .exact iU
   |_=>cases hlc
  .exact iU
 .exact iU
theorem aMb{v o:aL}{f:Str}{l:Nat}(h:bW v=aB)(hn:uJ v=aH):vT v (aA<|.Attribute o f p) l env=pure aH:=by cases v<;>first|rfl|cases h|cases hn
include L in
theorem aKx(t e:aL)(pJ:Pos)(hlc:uJ e=aH):QS X T E (.Assign [t] e pJ) (eM F<|Gq C t e):=by
 unfold Gq;split
 .split
  .rename_i cs a;split
   .rename_i hs;exact aHw (L.kU _ _ a) (iF EF L _).1 (iF EF L _).1 (aMb hs hlc)
   .exact iU
  .exact iU
 .exact iU
include L ht in
theorem aKw(t:aL)(op:rN)(e:aL)(pos:Pos):QS X T E (.AugAssign t op e pos) (eM F<|Gi C t op e):=by
 unfold Gi;split
 .rename_i x d;split
  .rename_i i a;unfold Cn.slot at a;split at a
   .rename_i hl;have b:vV X.env.scope x:=by rw[L.sc];simp only[Cn.loc,jw,decide_eq_true_eq]at hl;exact hl
    split
    .exact FI aH (L.N▸L.nd) (by rw[L.N];exact uI a) b (.inl<|L.fn ht _) (iF EF L _).1
    .exact FI aB (L.N▸L.nd) (by rw[L.N];exact uI a) b (.inl<|L.fn ht _) (iF EF L _).1
    .exact iU
   .cases a
  .exact iU
 .split
  .rename_i cs c;split
   .exact aHx (L.kU _ _ c) (iF EF L _).1 (iF EF L _).1
   .exact iU
  .exact iU
 .exact iU
include L ht in
theorem HG:∀(n:Nat) (s:Stmt),QS X T E s (eM F<|cS C n s)
 |0,s=>iU
 |n+1,s=>by
  have g:=HG n;cases s
  case Pass=>exact aIb
  case Break=>exact aHt
  case Continue=>exact aHu
  case Return o p=>
   show QS X T E _ (eM F<|Gr C o);unfold Gr;split
   .exact aIe
   .exact aIc (iF EF L _).1
  case Expr e p=>
   show QS X T E _ (eM F<|if bW e && !uJ e then .expr (cE C EF e) else .bad);split
   .rename_i hs;rw[bQ,KB]at hs;exact aHv (iF EF L _).1 hs.1 hs.2
   .exact iU
  case Assign h e a=>
   show QS X T E _ (eM F<|Ge C h e);unfold Ge;split
   case h_2=>exact iU
   case h_1 t=>
    unfold Wh;split
    .rename_i f;exact aKy L ht t e a f
    .rename_i f;split
     .exact aKx L t e a (by simpa using f)
     split
     .rename_i hs;rw[bQ,bQ]at hs;exact aHs (iF EF L _).1 (Ny L ht 4 _) hs.1.1 (by simpa using f) hs.1.2 (HL L.sc hs.2)
     .exact aKz L ht t e a
  case AugAssign=>exact aKw L ht _ _ _ _
  case If=>exact aHz (iF EF L _).2 (uk g) (uk g)
  case For t it b d p=>
   show QS X T E _ (eM F<|if d.isEmpty&&bW it then C.Ci it (cE C EF it) (.wW (cG C 4 t) (cI C (cE C EF) t it)<|uZ<|b.map<|cS C n) else .bad);split
   .rename_i hs;rw[bQ]at hs;cases d with
    |nil=>exact aIf<|aHy (L.po ht) L.calm (ug L (iF EF L) _ _) (Ny L ht 4 _) (uk g) hs.2|cons _ _=>cases hs.1
   .exact iU
  case While c b d p=>
   show QS X T E _ (eM F<|if d.isEmpty then .vc (cE C EF c) (uZ<|b.map<|cS C n) else .bad);split
   .rename_i hs;cases d with
    |nil=>exact aIg (L.po ht) (iF EF L _).2 (uk g)|cons _ _=>cases hs
   .exact iU
  all_goals exact iU
end
abbrev Pg:=Nat->Option (Nat×Nat×aR)
def DS:Out->M AV
 |.nx _=>M.ret .aE
 |.ret v=>M.ret v
 |_=>M.bad
def run(P:Pg):Nat->Run
 |0,_,_=>M.bad
 |k+1,f,args=>match P f with
  |none=>M.bad
  |some (np,nn,b)=>M.guard (args.length=np) ((jS (run P k) b<|args.map aA++fA (nn-np) aD).bind DS)
def WQ:Stmt->YV
 |.ClassDef _ _ _ body ..=>body
 |_=>[]
structure Df where
 name:Str
 qual:Str
 st:Stmt
 N:YX
 ps:YX
structure Pr where
 defs:List Df
 yY:Nat
 ql:Yf
 jD:YX
 JZ:List (Str×Nat):=[]
 cat:List (Str×Ys):=[]
 AY:List (Str×Ys):=[]
 kU:List (Str×Ia):=[]
 nG:List (Str×YZ):=[]
 mP:List ((Str×Nat)×(Nat×Nat×Ht)):=[]
 sF:List (Str×Ys):=[]
 oW:List (Str×List (Str×Nat)):=[]
 Hk:YX:=[]
def SF:Nat:=30
def Pr.cn(p:Pr)(d:Df):Cn:=⟨d.N,pU d.st,(p.defs.take p.yY).map (·.name),p.ql,p.jD,p.JZ,p.cat,p.AY,aB
 ,p.kU,p.nG,p.mP,p.sF,p.oW
 ,p.Hk
 ⟩
def Pr.bodyOf(p:Pr)(d:Df):Nat×Nat×aR:=(d.ps.length,d.N.length,uZ ((fq d.st).map (cS (p.cn d) SF)))
def Pr.ir(p:Pr):Pg:=λi=>(p.defs[i]?).map p.bodyOf
structure Uk(K:bI)(x qual:Str)(st:Stmt)(f:Addr)(fd:eT):Prop where
 ex:∃(oc:Value) (od:Yu) (dV kV doc pm:Value) (an:Yu) (cdv ct:Value) (osl:Yr),
  fd=ky x qual (yh st) (fq st) (pU st) dV kV doc pm an cdv ct/\K.lookup f=aA ⟨oc,od,.func fd,osl⟩/\Sm K cdv qual=aB
 kp:tL K (.ref f)=aB
theorem xu{K:bI}{ds:Hu}{D:Addr}{o:Obj}(hd:fd.defaults = .ref D)(l:K.lookup D=aA o)(hs:o.data = .seq items n)
  (h:∀us:Hu,(us++ds).length=ps.length->∃k,bindArgs fd ⟨us,[]⟩=cz fd.defaults>>=k/\k (aA items)=pure (ps.zip<|us++ds)):Binds K fd ps ds:=λs us X hl=>
 let ⟨_,h1,a⟩:=h us hl;BindsTo.of_defaults hd (X _ _ l) hs h1 a
structure Fc(K:bI)(d:Df)(f:Addr)(fd:eT):Prop where
 fn:Uk K d.name d.qual d.st f fd
 bd:Binds K fd d.ps []
 sc:mq d.N d.ps (pU d.st)
inductive jA(K:bI):List Df->Hy->List eT->Prop
 |nil:jA K [] [] []
 |cons {d:Df}{a:Addr}{f:eT}{ds:List Df}{as:Hy}{fs:List eT} (h:Fc K d a f) (t:jA K ds as fs):jA K (d::ds) (a::as) (f::fs)
theorem jA.get{K:bI}{ds:List Df}{as:Hy}{fs:List eT}(h:jA K ds as fs){f0:eT}:∀(i:Nat) d,ds[i]?=aA d->Fc K d (as.getD i 0) (fs.getD i f0):=by
 induction h with
 |nil=>intro i d e;simp at e|cons h t a=>
  intro i d e;cases i with
  |zero=>cases(e);exact h|succ i=>exact a i d e
theorem aPe{α:Type}{us:List α}(h:us.length=0):us=[]:=Ds h
theorem Pc{α:Type}{us:List α}(h:us.length=1):∃a0,us=[a0]:=by obtain⟨a,r,rfl⟩:=xS h;obtain rfl:=aPe (by simpa using h);exact⟨a,rfl⟩
theorem uv{α:Type}{us:List α}(h:us.length=2):∃a0 a1,us=[a0,a1]:=by obtain⟨a,r,rfl⟩:=xS h;obtain⟨b,rfl⟩:=Pc (by simpa using h);exact⟨a,b,rfl⟩
theorem Pd{α:Type}{us:List α}(h:us.length=3):∃a0 a1 a2,us=[a0,a1,a2]:=by obtain⟨a,r,rfl⟩:=xS h;obtain⟨b,b1,rfl⟩:=uv (by simpa using h);exact⟨a,b,b1,rfl⟩
theorem Pe{α:Type}{us:List α}(h:us.length=4):∃a0 a1 a2 a3,us=[a0,a1,a2,a3]:=by obtain⟨a,r,rfl⟩:=xS h;obtain⟨b,b1,b2,rfl⟩:=Pd (by simpa using h);exact⟨a,b,b1,b2,rfl⟩
theorem IP{α:Type}{us:List α}(h:us.length=5):∃a0 a1 a2 a3 a4,us=[a0,a1,a2,a3,a4]:=by obtain⟨a,r,rfl⟩:=xS h;obtain⟨b,b1,b2,c,rfl⟩:=Pe (by simpa using h);exact⟨a,b,b1,b2,c,rfl⟩
theorem IQ{α:Type}{us:List α}(h:us.length=6):∃a0 a1 a2 a3 a4 a5,us=[a0,a1,a2,a3,a4,a5]:=by obtain⟨a,r,rfl⟩:=xS h;obtain⟨b,b1,b2,c,d,rfl⟩:=IP (by simpa using h);exact⟨a,b,b1,b2,c,d,rfl⟩
theorem aPf{α:Type}{us:List α}(h:us.length=7):∃a0 a1 a2 a3 a4 a5 a6,us=[a0,a1,a2,a3,a4,a5,a6]:=by obtain⟨a,r,rfl⟩:=xS h;obtain⟨b,b1,b2,c,d,e,rfl⟩:=IQ (by simpa using h);exact⟨a,b,b1,b2,c,d,e,rfl⟩
theorem IS{α:Type}{us:List α}(h:us.length=8):∃a0 a1 a2 a3 a4 a5 a6 a7,us=[a0,a1,a2,a3,a4,a5,a6,a7]:=by obtain⟨a,r,rfl⟩:=xS h;obtain⟨b,b1,b2,c,d,e,f,rfl⟩:=aPf (by simpa using h);exact⟨a,b,b1,b2,c,d,e,f,rfl⟩
structure Fo(P:cB)(w:bR)(p:Pr)(T:Tab)(mg:Str->Hz)(ad:Nat->Addr)(fds:Nat->eT):Prop where
 df:∀(i:Nat) d,p.defs[i]?=aA d->Fc T.K d (ad i) (fds i)
 gn:∀(i:Nat) d,(p.defs.take p.yY)[i]?=aA d->mg d.name=aA (.ref<|ad i)
 gv:∀x v,p.ql.lookup x=aA v->∃u v',mg x=aA u/\RelV v' u/\∀Y H,aX T Y H v v'
 bl:∀x,p.jD.contains x=aB->mg x=aD
 tab:∀(kvs:Yh) a,T.G kvs a->my P w T.K a kvs
 kU:∀f cs,p.kU.lookup f=aA cs->dz T.K T cs f
 nG:∀m dp,p.nG.lookup m=aA dp->∀c i,dp.lookup c=aA i->∃d D,p.defs[i]?=aA d/\T.C c=aA D/\mW T.K D/\xf T.K D m (ad i)
 mP:∀x n c i dv,p.mP.lookup (x,n)=aA (c,i,dv)->∃d D ds dvs,p.defs[i]?=aA d/\T.C c=aA D/\Mk T.K D (ad i)/\mg x=aA (.ref D)/\Binds T.K (fds i) d.ps ds/\Vals dvs ds/\∀Y H,bF T Y H dv dvs
 sF:∀y cs,p.sF.lookup y=aA cs->∃D:Addr,mg y=aA (.ref D)/\∀k b,cs.lookup k=aA b->∃D':Addr,T.C k=aA D'/\Uo T.K D'/\Sq T.K (.ref D') (.ref D)=aA b
 oW:∀x m i,(p.oW.lookup x).bind (·.lookup m)=aA i->∃d D,p.defs[i]?=aA d/\mg x=aA (.ref D)/\tL T.K (.ref<|ad i)=aB /\
  Ek T.K (.ref D) "__getattribute__"=aA (aA<|.builtin "type.__getattribute__")/\Sv T.K D (.type "type")=aB/\So T.K (.ref D) (.type "type") m=aA (.val<|.ref<|ad i)/\Eh (.ref<|ad i)=aB
theorem K5{P:cB}{K:bI}{o:Obj}{kvs:Yh}(l:K.lookup a=aA o)(e:Ec Sa (λ_=>aA o) a (kvs.map λp=>(p.1,rP p.2))=aB)
  (n:(kvs.map (·.1)).Nodup)(q:Eb (λ_=>aA o) a=(kvs.map λp=>(p.1,rP p.2)).map λp=>(Ta P w).hash p.1):my P w K a kvs:=λh x=>by
 have c:Ec Sa (λb=>K.lookup b) a (kvs.map λp=>(p.1,rP p.2))=aB:=by rw[<- e];simp only[Ec,l]
 have d:Eb (λb=>K.lookup b) a=(kvs.map λp=>(p.1,rP p.2)).map λp=>(Ta P w).hash p.1:=by rw[<- q];simp only[Eb,l]
 have:=W.kt_tab_in P w x c (by rw[jO];exact n) d;rw[jO]at this;exact this
section
variable {P:cB}{mg:Str->Hz}{base:bH}{p:Pr}{ad:Nat->Addr}{fds:Nat->eT}
theorem aLv{args:Ht}{vs:Hw}{N:YX}(r:bF T Y H args vs)(hn:N.length=n):cX T Y H (args.map aA++fA (n-args.length) aD) (L2.start N vs):=by
 subst hn;unfold L2.start;have hl:=r.length;refine⟨by simp[hl],λi v e=>?_⟩;by_cases b:i<args.length
 .rw[bz (by simpa),fM]at e;cases q:args[i]? with
  |none=>rw[q]at e;cases e|some a=>rw[q]at e;cases e;obtain⟨y,h1,c⟩:=r.get q;exact⟨y,by rw[bz (by rw[aW,<- hl];exact b),fM,h1];rfl,c⟩
 .rw[LM (by simpa using b),LO]at e;split at e<;>cases e
theorem A4{K:bI}{x qual:Str}{st:Stmt}{f:Addr}{N:YX}{k:Nat}(F:Uk K x qual st f fd)(S:mq N ps (pU st))(len:∀vs H Q E,sp vs H Q E->vs.length=ps.length)
  (Ja:∀(cdv:Value) (A:cJ) (outer:Yp) (s:aJ) (H:Hp) (vs:Hw) (Q:VK) (E:XK),fF k (A.deeper<|vR qual (pU st) s.heap.objs.size f cdv)->sp vs H Q E ->
   ∃t,rR (wM (kQ P w) P w K mg base N qual (pU st) f cdv A outer s H E) (fq st) t/\t { nx:=λ_ H'=>Q .aE H',rt:=Q } (L2.start N vs) H):iP P w K mg base (kQ P w) (k+1) f fd ps sp:=by
 obtain⟨d,od,e,kV,doc,pm,an,cdv,ct,c,rfl,lk,a⟩:=F.ex;exact z8 lk a S len λA outer s H vs Q E hr b=>Ja cdv A outer s H vs Q E hr b
theorem GW(O:Fo P w p T mg ad fds):∀(k i:Nat) (d:Df),p.defs[i]?=aA d->iP P w T.K mg base (kQ P w) (2*k+2) (ad i) (fds i) d.ps (sX T<|run p.ir k i)
 |0,i,d,hd=>⟨λy H Q E ⟨z,h,args,_,_,w⟩=>w.elim,λA outer s H args us y Q E _ _ _ _ ⟨z,h,ar,_,_,w⟩=>w.elim⟩
 |k+1,i,d,hd=>by
  have B:=GW O k;have D:=O.df i d hd;have u:p.ir i=aA (p.bodyOf d):=by unfold Pr.ir;rw[hd];rfl
  refine A4 D.fn D.sc (λy H Q E h=>?_)<|λI A outer s H y Q E hr h=>?_
  .obtain⟨z,h,args,R,r,w⟩:=h;simp only[run,u,Pr.bodyOf]at w;obtain⟨hl,_⟩:=zP w;rw[<- r.length,hl]
  .obtain⟨z,h,args,R,r,C⟩:=h;simp only[run,u]at C;obtain⟨hl,C⟩:=zP C;have L:Lk (wM (kQ P w) P w T.K mg base d.N d.qual (pU d.st) (ad i) I A outer s H E) T E (p.cn d) (run p.ir k):={
    K:=rfl
    N:=rfl
    sc:=rfl
    nd:=D.sc.nd
    fn:=λ_ _=>rfl
    calm:=rfl
    po:=λ_=>PassesOwn.leaving
    gv:=O.gv
    fns:=λj x hx=>by
     have b:((p.defs.take p.yY).map (·.name))[j]?=aA x:=hx;rw[fM]at b;cases q:(p.defs.take p.yY)[j]? with
     |none=>rw[q]at b;cases b|some a=>
      rw[q]at b;cases b;have f:p.defs[j]?=aA a:=by
       rw[List.getElem?_take]at q;split at q
       .exact q
       .cases q
      have l:=O.df j a f;exact⟨2*k+2,ad j,fds j,a.ps,B j a f,hr,O.gn j a q,l.fn.kp,l.bd,Ax⟩
    jD:=O.bl
    tab:=O.tab
    un:=hr.units
    kU:=O.kU
    nG:=λm dp h c D g h1 J=>by obtain⟨j,hj,e⟩:=Option.map_eq_some_iff.mp h1;subst e;obtain⟨a,l,f,F,M,S⟩:=O.nG m dp h c j hj;rw[J]at F;cases F;exact⟨2*k+2,ad j,fds j,a.ps,B j a f,hr.mono (jQ _),M,S,(O.df j a f).bd,Ax⟩
    mP:=λx n c j dv h=>by obtain⟨a,l,ds,U,f,F,M,S,c3,c4,c5⟩:=O.mP x n c j dv h;exact⟨2*k+2,l,ad j,fds j,a.ps,ds,U,F,M,B j a f,hr,S,c3,c4,c5,Ax⟩
    sF:=O.sF
    oW:=λx m j h=>by obtain⟨a,l,f,hm,kp,h1,J,h3,h4⟩:=O.oW x m j h;exact⟨2*k+2,l,ad j,fds j,a.ps,hm,B j a f,hr.mono (jQ _),kp,h1,J,h3,h4,(O.df j a f).bd,Ax⟩
   }
   obtain⟨t,ps,rs⟩:=uk (HG L rfl SF);refine⟨t,ps,rs z _ (L2.start d.N y) h H _ R ?_ (W.bind C λY1 o Y h1 H1 e1 ZJ X G=>?_)⟩
   .rw[<- hl];exact aLv r rfl
   .cases o with
    |nx Z=>cases Y with
     |nx Z'=>exact(W.here G ZJ aX.aE:Q V.aE H1)|_=>cases X
    |ret v=>cases Y with
     |ret v'=>exact(W.here G ZJ X:Q v' H1)|_=>cases X
    |brk Z=>cases G|cnt Z=>cases G
def Nz(K:bI):Sp:=λvs H Q _=>∃(a:Addr) (ns:Hx),vs=[.ref a]/\pO K H a (ns.map V.int)/\ns.length<=63/\∀H',Q (.bl aB) H'
def h0(ns:Hx):AH:=⟨1,λm=>if m=0 then aA (.lst aH<|ns.map AV.int) else aD⟩
def Keeps(P:Pg)(k i:Nat):Prop:=∀ns:Hx,ns.length<=63->∃h',run P k i [.ref 0] (h0 ns) = .ok (.bl aB) h'
theorem C9(h:pO T.K H a (ns.map V.int)):bP T [a] (h0 ns) H:=by
 have z:∀{n:Nat}{o:bJ},(h0 ns).ob n=aA o->n=0/\o = .lst aH (ns.map AV.int):=λ{n o} e=>by
  have c:(if n=0 then aA (bJ.lst aH<|ns.map AV.int) else aD)=aA o:=e;by_cases hn:n=0
  .rw[if_pos hn]at c;exact⟨hn,(eF c).symm⟩
  .rw[if_neg hn]at c;cases c
 refine⟨rfl,λn o e=>?_,λn o b e q=>?_,λn m b o u d f g i _ _=>?_⟩
 .rw[(z e).1];exact ML
 .obtain⟨rfl,rfl⟩:=z e;cases q;exact⟨_,h,bF.ints ns⟩
 .rw[(z d).1,(z f).1]
theorem L4(O:Fo P w p T mg ad fds){k i:Nat}{d:Df}(hd:p.defs[i]?=aA d)(h:Keeps p.ir k i):iP P w T.K mg base (kQ P w) (2*k+2) (ad i) (fds i) d.ps (Nz T.K):=by refine(GW O k i d hd).imp λl H Q E c=>?_;obtain⟨a,ns,e,f,hl,q⟩:=c;subst e;obtain⟨m,e⟩:=h ns hl;refine⟨[a],h0 ns,[.ref 0],C9 f,.cons (.ref rfl) .nil,?_⟩;rw[e];intro g b j _ _ r;cases r;exact q j
theorem A6{K:bI}{xs:Hw}(ho:xg H)(h:dN K H a xs):pO K H a xs:=by
 rcases h with(h|h)|h
 .rcases ho a with z|⟨o,ys,z⟩
  .rw[h]at z;cases z
  .rw[h]at z;cases z
 .exact .inl h
 .exact .inr h
end
theorem walk{l:Sj}{q:cB}{loose:YX}{XP:(Str->Hz)->bH->Prop}{YP:bR->bH->Prop}{d:DefRec}{K:bS->bI}{k:Nat}{x:Str}(hn:l.most=aA 63)(hdf:d.params.defaults=[])(hr:fF k xY)
  (hY:∀(w:bR) (h:bH),YP w h->(K w.params).In h)
  (F:∀(w:bR) (mg:Str->Hz) (fa:Addr) (h:bH),(K w.params).In h->h.Ns iZ mg->mg d.name=aA (.ref fa) ->
   ∃fd:eT,(∀(s:aJ) (u:Value),ju s fd ⟨[u],[]⟩ [(x,u)])/\∀base:bH,(K w.params).In base->base.Ns iZ mg->iP l.prog w (K w.params) mg base (kQ l.prog w) k fa fd [x] (Nz<|K w.params)) :
  NJ q loose XP YP l.row.toRowW d [] (λf vs=>Sz f vs):=
 L2.aPn hn (by decide) hdf hr hY F (λ_ _ a ns hl b c=>⟨a,ns,rfl,A6 b c,hl,λ_=>rfl⟩) λ_ _ _ _ _ z=>oq z
def We{α:Type}(m:M α)(h:AH)(Q:α->AH->Prop):Prop:=match m h with
 |.ok a h'=>Q a h'
 |.bad=>False
abbrev Wp{α:Type}(m:M α)(h:AH)(Q:α->AH->Prop):Prop:=We m h Q
section
variable {α β:Type}{m:M α}{k:α->M β}{h':AH}{Q:α->AH->Prop}{Q2:β->AH->Prop}{F:Run}
theorem bM(w:We m h λa h1=>We (k a) h1 Q2):We (M.bind m k) h Q2:=by
 unfold We at w ⊢;unfold M.bind;cases e:m h with
 |ok a h1=>rw[e]at w;exact w|bad=>rw[e]at w;exact w.elim
theorem We.mono{Q':α->AH->Prop}(w:We m h Q)(f:∀a h1,Q a h1->Q' a h1):We m h Q':=by
 unfold We at w ⊢;cases e:m h with
 |ok a h1=>rw[e]at w;exact f a h1 w|bad=>rw[e]at w;exact w.elim
theorem We.eq{a:α}(e:m h = .ok a h')(q:Q a h'):We m h Q:=by unfold We;rw[e];exact q
theorem We.ex(w:We m h Q):∃a h',m h = .ok a h'/\Q a h':=by
 unfold We at w;cases e:m h with
 |ok a h1=>rw[e]at w;exact⟨a,h1,rfl,w⟩|bad=>rw[e]at w;exact w.elim
theorem jr{p:Prop} [Decidable p] (hp:p)(w:We m h Q):We (M.guard p m) h Q:=by unfold We at w ⊢;unfold M.guard;rw[if_pos hp];exact w
variable {V1:AV->AH->Prop}{B1:Bool->AH->Prop}{L1:Ht->AH->Prop}
theorem De{i:Nat}(e:Z[i]?=aA (aA v))(q:V1 v h):We (aM F (.var i) Z) h V1:=by show We (uG i Z) h V1;unfold We uG;rw[e];exact q
theorem aRo{o:Op}{a b:Ex}(w:We (aM F a Z) h λx h1=>We (aM F b Z) h1 λy h2=>We (o.g x y) h2 V1):We (aM F (.op o a b) Z) h V1:=bM (w.mono λ_ _ z=>bM z)
theorem aRg{o:Cp}{a b:Ex}(w:We (aM F a Z) h λx h1=>We (aM F b Z) h1 λy h2=>We (o.g x y) h2 V1):We (aM F (.cmp o a b) Z) h V1:=bM (w.mono λ_ _ z=>bM z)
theorem aRm{a:Ex}(w:We (aM F a Z) h λx h1=>We (qj x) h1 V1):We (aM F (.neg a) Z) h V1:=bM w
theorem aRn{a:Ex}(w:We (aM F a Z) h λx h1=>We (dH x) h1 λb h2=>V1 (.bl<|!b) h2):We (aM F (.not a) Z) h V1:=bM (w.mono λ_ _ z=>bM z)
theorem aRc{a b:Ex}(w:We (aM F a Z) h λx h1=>We (dH x) h1 λt h2=>if t=aB then We (aM F b Z) h2 V1 else V1 x h2):We (aM F (.and a b) Z) h V1:=
 bM (w.mono λx _ z=>bM (z.mono λt _ y=>by
  cases t with
  |true=>exact y|false=>exact y))
theorem aRp{a b:Ex}(w:We (aM F a Z) h λx h1=>We (dH x) h1 λt h2=>if t=aB then V1 x h2 else We (aM F b Z) h2 V1):We (aM F (.or a b) Z) h V1:=
 bM (w.mono λx _ z=>bM (z.mono λt _ y=>by
  cases t with
  |true=>exact y|false=>exact y))
theorem aRj{c a b:Ex}(w:We (dR F c Z) h λt h1=>if t=aB then We (aM F a Z) h1 V1 else We (aM F b Z) h1 V1):We (aM F (.ite c a b) Z) h V1:=bM (w.mono λt _ y=>by
 cases t with
 |true=>exact y|false=>exact y)
theorem JS{o:Cp}{a b c:Ex}(w:We (aM F a Z) h λx h1=>We (aM F b Z) h1 λy h2=>We (o.g x y) h2 λz h3=>∃t,z = .bl t/\if t=aB then We (aM F c Z) h3 λu h4=>We (o'.g y u) h4 V1 else V1 (.bl aH) h3) :
 We (aM F (.chain o o' a b c) Z) h V1:=bM (w.mono λx _ z=>bM (z.mono λy _ z=>bM (z.mono λu h3 ⟨t,e,q⟩=>by
 subst e;cases t with
 |true=>exact bM q|false=>exact q)))
theorem aRx{es:eP}(w:We (dS F es Z) h λxs h1=>xs.length<=sizeLine/\V1 (.tup xs) h1):We (aM F (.tup es) Z) h V1:=bM (w.mono λxs _ z=>jr z.1 z.2)
theorem aRk{es:eP}(w:We (dS F es Z) h λxs h1=>xs.length<=sizeLine/\V1 (.ref h1.nx) (h1.new<|.lst aB xs)):We (aM F (.lst es) Z) h V1:=bM (w.mono λxs _ z=>jr z.1 z.2)
theorem aRu{a lo hi:Ex}(w:We (aM F a Z) h λx h1=>We (pD lo<|aM F lo Z) h1 λl h2=>We (pD hi<|aM F hi Z) h2 λu h3=>We (qD x l u) h3 V1):We (aM F (.slice a lo hi) Z) h V1:=
 bM (w.mono λ_ _ z=>bM (z.mono λ_ _ z=>bM z))
theorem JR{f:Nat}{es:eP}(w:We (dS F es Z) h λxs h1=>We (F f xs) h1 V1):We (aM F (.call f es) Z) h V1:=bM w
theorem aRe{f:Bi}{es:eP}(w:We (dS F es Z) h λxs h1=>We (f.g xs) h1 V1):We (aM F (.bi f es) Z) h V1:=bM w
theorem JV{t:BT}{a:Ex}(w:We (aM F a Z) h λx h1=>We (zG t x) h1 V1):We (aM F (.qG t a) Z) h V1:=bM w
theorem aRd{o a:Ex}(w:We (aM F o Z) h λx h1=>zS h1 x=aB/\We (aM F a Z) h1 λy h2=>We (uC x y) h2 V1):We (aM F (.app o a) Z) h V1:=bM (w.mono λx h1 ⟨b,c⟩=>by unfold We;simp only[if_pos b];exact bM c)
theorem aRi{o:Ex}{es:eP}(w:We (aM F o Z) h λx h1=>∃kvs,x = .lL kvs/\We (dS F es Z) h1 λxs h2=>∃s z,xs=[.str s,.int z]/\V1 (.int<|getOf kvs s z) h2):We (aM F (.get o es) Z) h V1:=bM (w.mono λx h1 ⟨kvs,e,a⟩=>by subst e;exact bM (a.mono λxs h2 ⟨s,z,b,q⟩=>by subst b;exact q))
theorem aRy(q:L1 [] h):We (dS F .nil Z) h L1:=q
theorem JX{e:Ex}{es:eP}(w:We (aM F e Z) h λx h1=>We (dS F es Z) h1 λxs h2=>L1 (x::xs) h2):We (dS F (.cons e es) Z) h L1:=bM (w.mono λ_ _ z=>bM z)
theorem aSm{o:Cp}{a b:Ex}(w:We (aM F a Z) h λx h1=>We (aM F b Z) h1 λy h2=>We (o.g x y) h2 λz h3=>∃t,z = .bl t/\B1 t h3):We (dR F (.cmp o a b) Z) h B1:=
 bM (bM<|w.mono λ_ _ z=>bM (z.mono λ_ _ z=>z.mono λu h3 ⟨t,e,q⟩=>by subst e;exact q))
theorem aSl{o:Cp}{a b c:Ex}(w:We (aM F (.chain o o' a b c) Z) h λz h3=>∃t,z = .bl t/\B1 t h3):We (dR F (.chain o o' a b c) Z) h B1:=
 bM (w.mono λu h3 ⟨t,e,q⟩=>by subst e;exact q)
theorem aSq{a:Ex}(w:We (dR F a Z) h λt h1=>B1 (!t) h1):We (dR F (.not a) Z) h B1:=bM w
theorem aSj{a b:Ex}(w:We (dR F a Z) h λt h1=>if t=aB then We (dR F b Z) h1 B1 else B1 aH h1):We (dR F (.and a b) Z) h B1:=bM (w.mono λt _ y=>by
 cases t with
 |true=>exact y|false=>exact y)
theorem aSr{a b:Ex}(w:We (dR F a Z) h λt h1=>if t=aB then B1 aB h1 else We (dR F b Z) h1 B1):We (dR F (.or a b) Z) h B1:=bM (w.mono λt _ y=>by
 cases t with
 |true=>exact y|false=>exact y)
theorem aSs{i:Nat}(w:We (aM F (.var i) Z) h λx h1=>We (dH x) h1 B1):We (dR F (.var i) Z) h B1:=bM w
theorem aSk{f:Nat}{es:eP}(w:We (aM F (.call f es) Z) h λx h1=>We (dH x) h1 B1):We (dR F (.call f es) Z) h B1:=bM w
theorem aSo{t:BT}{a:Ex}(w:We (aM F (.qG t a) Z) h λx h1=>We (dH x) h1 B1):We (dR F (.qG t a) Z) h B1:=bM w
theorem aPr(q:V1 (.int<|i+j) h):We (Op.g .add (.int i)<|.int j) h V1:=q
theorem aQr(q:V1 (.int<|i-j) h):We (Op.g .sub (.int i)<|.int j) h V1:=q
theorem vE{p:Int->Int->Bool}{f:Int->Int->Int}(hp:p i j=aB)(q:V1 (.int<|f i j) h):We (mK p f (.int i)<|.int j) h V1:=by unfold We mK;simp only[if_pos hp];exact q
theorem aQj(hp:qO i j=aB)(q:V1 (.int<|i*j) h):We (Op.g .mul (.int i)<|.int j) h V1:=vE hp q
theorem aPz(hp:pV j=aB)(q:V1 (.int<|i / j) h):We (Op.g .fdiv (.int i)<|.int j) h V1:=vE (p:=λ_ j=>pV j) hp q
theorem aQi(hp:0<j)(q:V1 (.int<|i%j) h):We (Op.g .mod (.int i)<|.int j) h V1:=vE (p:=λ_ j=>decide (0<j)) (decide_eq_true hp) q
theorem Cz(hp:xB i j=aB)(q:V1 (.int<|i ^ j.toNat) h):We (Op.g .pow (.int i)<|.int j) h V1:=vE (f:=λi j=>i ^ j.toNat) hp q
theorem Pm(hp:xB i j=aB)(q:V1 (.int<|i*2 ^ j.toNat) h):We (Op.g .shl (.int i)<|.int j) h V1:=vE (f:=λi j=>i*2 ^ j.toNat) hp q
theorem JK(hp:0<=j)(q:V1 (.int<|i / 2 ^ j.toNat) h):We (Op.g .shr (.int i)<|.int j) h V1:=vE (p:=λ_ j=>decide (0<=j)) (f:=λi j=>i / 2 ^ j.toNat) (decide_eq_true hp) q
theorem JB(q:V1 (.int<|tD i j) h):We (Op.g .band (.int i)<|.int j) h V1:=vE (p:=λ_ _=>aB) rfl q
theorem JC(q:V1 (.int<|jx i j) h):We (Op.g .bor (.int i)<|.int j) h V1:=vE (p:=λ_ _=>aB) rfl q
theorem Ct(q:V1 (.int<|jy i j) h):We (Op.g .bxor (.int i)<|.int j) h V1:=vE (p:=λ_ _=>aB) rfl q
theorem aQf(q:V1 (.bl<|decide<|i<j) h):We (Cp.g .lt (.int i)<|.int j) h V1:=q
theorem aQe(q:V1 (.bl<|decide<|i<=j) h):We (Cp.g .le (.int i)<|.int j) h V1:=q
theorem aQb(q:V1 (.bl<|decide<|j<i) h):We (Cp.g .gt (.int i)<|.int j) h V1:=q
theorem aQa(q:V1 (.bl<|decide<|j<=i) h):We (Cp.g .ge (.int i)<|.int j) h V1:=q
theorem aPx(q:V1 (.bl<|decide<|i=j) h):We (Cp.g .eq (.int i)<|.int j) h V1:=q
theorem aQl(q:V1 (.bl<|!decide (i=j)) h):We (Cp.g .ne (.int i)<|.int j) h V1:=q
theorem aPy{i j:Str}(q:V1 (.bl<|decide<|i=j) h):We (Cp.g .eq (.str i)<|.str j) h V1:=q
theorem aQm{i j:Str}(q:V1 (.bl<|!decide (i=j)) h):We (Cp.g .ne (.str i)<|.str j) h V1:=q
theorem Cu(e:tV x y=aA b)(q:V1 (.bl b) h):We (Cp.g .eq x y) h V1:=by show We (zF x y) h V1;unfold We zF;rw[e];exact q
theorem aQk(e:tV x y=aA b)(q:V1 (.bl<|!b) h):We (Cp.g .ne x y) h V1:=by show We (zJ x y) h V1;unfold We zJ;rw[e];exact q
theorem aQc(q:V1 (.bl<|fO x) h):We (Cp.g .gp x .aE) h V1:=q
theorem aQd(q:V1 (.bl<|!fO x) h):We (Cp.g .isn x .aE) h V1:=q
theorem Bq(e:dW h x=aA xs):gM h x=aD:=by
 cases x with
 |ref n=>
  simp only[dW]at e;simp only[gM];cases o:h.ob n with
  |none=>rfl|some u=>
   rw[o]at e;cases u with
   |lst m ys=>rfl|_=>cases e
 |_=>rfl
theorem aKe(e:dW h x=aA xs):yU h x=aD:=by
 cases x with
 |ref n=>
  simp only[dW]at e;simp only[yU];cases o:h.ob n with
  |none=>rfl|some u=>
   rw[o]at e;cases u with
   |lst m ys=>rfl|_=>cases e
 |_=>rfl
theorem Cv(e:dW h y=aA xs)(f:(jE x&&xs.all jE)=aB)(q:V1 (.bl<|gO x xs) h):We (Cp.g .zR x y) h V1:=by show We (oX aH x y) h V1;have a:=Bq e;unfold We oX;simp only[a];unfold uE;rw[e];simp only[if_pos f];exact q
theorem aQn(e:dW h y=aA xs)(f:(jE x&&xs.all jE)=aB)(q:V1 (.bl<|!gO x xs) h):We (Cp.g .nin x y) h V1:=by show We (oX aB x y) h V1;have a:=Bq e;unfold We oX;simp only[a];unfold uE;rw[e];simp only[if_pos f];exact q
theorem eJ(e:dW h x=aA xs)(e2:cH xs i=aA v)(q:V1 v h):We (Op.g .ix x<|.int i) h V1:=by
 show We (uF x<|.int i) h V1;have a:=Bq e;unfold We uF;simp only[a];unfold yz;simp only[aKe e];unfold gf;cases x with
 |str z=>cases e|aE=>cases e|bl _=>cases e|int _=>cases e|lL _=>cases e|tup b=>simp only[e,hX,e2];exact q|ref n=>simp only[e,hX,e2];exact q
theorem JG{t s:BT}(e:tS h x=aA s)(q:V1 (.bl<|s.sub t) h):We (zG t x) h V1:=by unfold We zG;rw[e];exact q
theorem fR(e:dW h x=aA xs)(q:V1 (.int xs.length) h):We (Bi.g .len [x]) h V1:=by
 show We (qf [x]) h V1;unfold We qf;cases x with
 |str z=>cases e|aE=>cases e|bl _=>cases e|int _=>cases e|lL _=>cases e|tup ys=>simp only[e];exact q|ref n=>simp only[e];exact q
theorem aPu(hp:pV j=aB)(q:V1 (.tup [.int (i / j),.int (i%j)]) h):We (Bi.g .divmod [.int i,.int j]) h V1:=by show We (yx [.int i,.int j]) h V1;unfold We yx wY;simp only[if_pos hp];exact q
theorem rF(e:dW h x=aA xs)(q:V1 (.tup xs) h):We (Bi.g .tuple [x]) h V1:=by show We (zj [x]) h V1;unfold We zj oD;simp only[hX,e];exact q
theorem uy(e:dW h x=aA xs)(q:V1 (.ref h.nx) (h.new<|.lst aB xs)):We (Bi.g .list [x]) h V1:=by show We (zI [x]) h V1;unfold We zI oD kH;simp only[hX,e];exact q
theorem rE(e:h.ob n=aA (.lst aB xs))(hz:xs.length<sizeLine)(q:V1 .aE (h.put n<|.lst aB<|xs++[v])):We (uC (.ref n) v) h V1:=by unfold We uC;simp only[e,if_pos hz];exact q
theorem aPt{k:Nat}{ys:Ht}(e:h.ob n=aA (.lst aB xs))(e2:h.ob k=aA (.lst aB ys))(hz:xs.length+ys.length<=sizeLine)(q:V1 (.ref h.nx) (h.new<|.lst aB<|xs++ys)):We (Op.g .add (.ref n)<|.ref k) h V1:=by show We (pv n k) h V1;unfold We pv ae;simp only[e,e2,if_pos hz];exact q
theorem uz{lo hi:Hs}(e:h.ob n=aA (.lst b xs))(q:V1 (.ref h.nx) (h.new<|.lst aB<|iC xs lo hi)):We (qD (.ref n) lo hi) h V1:=by unfold We qD;simp only[e];exact q
variable {P1:Hs->AH->Prop}
theorem aRq{e:Ex}(he:∀m,pD e m=m.bind Io)(w:We (aM F e Z) h λx h1=>∃i,x = .int i/\P1 (aA i) h1):We (pD e<|aM F e Z) h P1:=by rw[he];exact bM (w.mono λx h1 ⟨i,e,q⟩=>by subst e;exact q)
end
def Wt(m:M Out)(h:AH)(N:aG->AH->Prop)(R:AV->AH->Prop)(B C:aG->AH->Prop):Prop:=We m h λo h1=>match o with
 |.nx Z=>N Z h1
 |.ret v=>R v h1
 |.brk Z=>B Z h1
 |.cnt Z=>C Z h1
section
variable {F:Run}{B:aG->AH->Prop}
theorem aSb{s:Sx}{ss:aR}(w:Wt (eM F s Z) h (λZ1 h1=>Wt (jS F ss Z1) h1 N R B C) R B C):Wt (jS F (.cons s ss) Z) h N R B C:=
 bM (We.mono w λo h1 z=>by
  cases o with
  |nx Z1=>exact z|ret v=>exact z|brk Z1=>exact z|cnt Z1=>exact z)
theorem aSh{e:Ex}(w:We (aM F e Z) h R):Wt (eM F (.ret e) Z) h N R B C:=bM w
theorem aSc{e:Ex}(w:We (aM F e Z) h λ_ h1=>N Z h1):Wt (eM F (.expr e) Z) h N R B C:=bM w
theorem aRz{t:Tg}{e:Ex}(w:We (aM F e Z) h λv h1=>We (oV F t v Z) h1 N):Wt (eM F (.asg t e) Z) h N R B C:=bM (w.mono λ_ _ z=>bM z)
theorem aPm{ts:vY}{Q:aG->AH->Prop}(e:dW h v=aA xs)(hl:xs.length=n)(w:We (vZ F ts xs Z) h Q):We (oV F (.tup n ts) v Z) h Q:=by show We (zL n (vZ F ts) v Z) h Q;unfold We zL;simp only[e,if_pos hl];exact w
theorem aPk{t:Tg}{ts:vY}{vs:Ht}{Q:aG->AH->Prop}(w:We (oV F t v Z) h λZ1 h1=>We (vZ F ts vs Z1) h1 Q):We (vZ F (.cons t ts) (v::vs) Z) h Q:=bM w
theorem aSf{c:Ex}{a b:aR}(w:We (dR F c Z) h λt h1=>if t=aB then Wt (jS F a Z) h1 N R B C else Wt (jS F b Z) h1 N R B C):Wt (eM F (.ite c a b) Z) h N R B C:=bM (w.mono λt _ y=>by
 cases t with
 |true=>exact y|false=>exact y)
theorem wV{it:gK}{g:AV->aG->M aG}{body:aG->M Out}(I:Nat->aG->AH->Prop)(n:Nat)
  (turn:∀i Z h,i<n->I i Z h->∃v,it i h=aA (aA v)/\We (g v Z) h λZ1 h1=>Wt (body Z1) h1 (I<|i+1) R N (I<|i+1))
  (done:∀Z h,I n Z h->it n h=aA aD/\N Z h):∀(f i:Nat) (Z:aG) (h:AH),i<=n->n-i<f->I i Z h->Wt (kG it g body f i Z) h N R B C
 |0,i,Z,h,j,hf,_=>by lia
 |f+1,i,Z,h,j,hf,b=>by
  have c:=wV I n turn done f;by_cases hn:i<n
  .obtain⟨v,e,w⟩:=turn i Z h hn b;unfold Wt We kG;simp only[e];refine bM<|w.mono λZ1 h1 k=>bM (We.mono k λo d z=>?_);cases o with
   |nx a=>exact c (i+1) a d hn (by omega) z|cnt a=>exact c (i+1) a d hn (by omega) z|brk a=>exact z|ret v=>exact z
  .have l:i=n:=by lia
   subst l;obtain⟨e,q⟩:=done Z h b;unfold Wt We kG;simp only[e];exact q
theorem lR{t:Tg}{it:Ir}{b:aR}(w:We (cU F it Z) h λi h1=>Wt (kG i (oV F t) (jS F b) FU 0 Z) h1 N R B C):Wt (eM F (.wW t it b) Z) h N R B C:=bM w
variable {Q:gK->AH->Prop}
theorem aQu{e:Ex}(w:We (aM F e Z) h λx h1=>We (zH x) h1 Q):We (cU F (.seq e) Z) h Q:=bM w
theorem aQt{es:eP}(w:We (dS F es Z) h λxs h1=>∃j,xs=[.int j]/\xG j=aB/\Q (rC 0 j.toNat) h1):We (cU F (.Bn es) Z) h Q:=bM (w.mono λxs h1 ⟨j,e,r,q⟩=>by subst e;unfold We zc;simp only[if_pos r];exact q)
theorem Pn{e:Ex}(w:We (aM F e Z) h λx h1=>∃n b xs,x = .ref n/\h1.ob n=aA (.lst b xs)/\Q (lJ<|jG n) h1):We (cU F (.enum e) Z) h Q:=bM (w.mono λx h1 ⟨n,b,xs,e,r,q⟩=>by subst e;unfold We yy;simp only[r];exact q)
theorem aQs{e:Ex}(w:We (aM F e Z) h λx h1=>∃xs,x = .tup xs/\Q (lJ<|lQ xs) h1):We (cU F (.enum e) Z) h Q:=bM (w.mono λx h1 ⟨xs,e,q⟩=>by subst e;exact q)
theorem JN{es:eP}(w:We (dS F es Z) h λxs h1=>∃x y it jt,xs=[x,y]/\nY x h1 = .ok it h1/\nY y h1 = .ok jt h1/\Q (vH it jt) h1):We (cU F (.zip es) Z) h Q:=bM (w.mono λxs h1 ⟨x,y,it,jt,e,a,b,q⟩=>by subst e;unfold We zk;simp only[a,b];exact q)
theorem aQv(q:Q (lQ xs) h):We (zH<|.tup xs) h Q:=q
theorem nK(e:h.ob n=aA (.lst b xs))(q:Q (jG n) h):We (zH<|.ref n) h Q:=by unfold We zH nY;simp only[e];exact q
theorem aRs{P:Pg}{k f np nn:Nat}{b:aR}{args:Ht}(e:P f=aA (np,nn,b))(hl:args.length=np)(w:Wt (jS (run P k) b<|args.map aA++fA (nn-np) aD) h (λ_ h1=>R .aE h1) R (λ_ _=>False) (λ_ _=>False)):We (run P (k+1) f args) h R:=by
 show We (match P f with
  |none=>M.bad
  |some (np,nn,b)=>M.guard (args.length=np) ((jS (run P k) b<|args.map aA++fA (nn-np) aD).bind DS)) h R
 rw[e];refine jr hl<|bM<|We.mono w λo h1 z=>?_;cases o with
 |nx Z=>exact z|ret v=>exact z|brk Z=>exact z.elim|cnt Z=>exact z.elim
end
theorem Keeps.of{P:Pg}{k i:Nat}(h:∀ns:Hx,ns.length<=63->Wp (run P k i [.ref 0]) (h0 ns) λv _=>v = .bl aB):Keeps P k i:=λns hl=>by obtain⟨a,b,e,q⟩:=(h ns hl).ex;subst q;exact⟨b,e⟩
theorem An(h1:-18446744073709551616<i)(h2:i<18446744073709551616):qO i j=aB:=by simp only[qO,jw,decide_eq_true_eq];exact .inl<|.inl (by lia)
theorem P9(h1:-18446744073709551616<j)(h2:j<18446744073709551616):qO i j=aB:=by simp only[qO,jw,decide_eq_true_eq];exact .inl<|.inr (by omega)
theorem bO(e:h.ob n=aA (.lst b xs)):dW h (.ref n)=aA xs:=by simp only[dW,e]
def cell(ns:Hx)(i:Int):Int:=ns.getD i.toNat 0
theorem yK(h0:0<=i)(h1:i<(ns.map AV.int).length):cH (ns.map AV.int) i=aA (.int<|cell ns i):=by
 have hl:i.toNat<ns.length:=by rw[aW]at h1;lia
 unfold cH iI;rw[if_pos h0,if_pos h1];simp only[hX,fM,cell,List.getD,dZ hl,rO,MQ]
def fj{α:Type}(xs:List α)(lo hi:Hs):List α:=(xs.drop<|HT.cC xs.length 0 lo).take (HT.cC xs.length xs.length hi-HT.cC xs.length 0 lo)
theorem XE{α:Type}(xs:List α)(f:α->AV)(lo hi:Hs):iC (xs.map f) lo hi=(fj xs lo hi).map f:=by unfold iC fj;rw[aW,<- Qz,<- Ra]
theorem bC:(h.new o).ob h.nx=aA o:=by simp only[AH.new,if_pos]
theorem dJ(hn:n≠h.nx):(h.new o).ob n=h.ob n:=by simp only[AH.new,if_neg hn]
theorem bB:(h.put n o).ob n=aA o:=by simp only[AH.put,if_pos]
theorem aV{k:Nat}(hn:k≠n):(h.put n o).ob k=h.ob k:=by simp only[AH.put,if_neg hn]
theorem oZ{i:Nat}(e:h.ob n=aA (.lst b xs)):jG n i h=aA xs[i]?:=by simp only[jG,e]
theorem Ya{i:Nat}(e:h.ob n=aA (.lst b xs))(hv:xs[i]?=aA v):lJ (jG n) i h=aA (aA<|.tup [.int i,v]):=by simp only[lJ,oZ e,hv]
theorem Xz{i:Nat}(e:h.ob n=aA (.lst b xs))(hv:xs[i]?=aD):lJ (jG n) i h=aA aD:=by simp only[lJ,oZ e,hv]
theorem Zd{g:AV->aG->M aG}{B:aG->AH->Prop}(I:Nat->aG->AH->Prop)(hn:xs.length<FU)(i0:I 0 Z h)(il:∀i Z h,I i Z h->h.ob n=aA (.lst bb xs))
  (turn:∀(i:Nat) x Z h,xs[i]?=aA x->I i Z h->We (g (.tup [.int i,x]) Z) h λZ1 h1=>Wt (body Z1) h1 (I<|i+1) R N (I<|i+1))
  (done:∀Z h,I xs.length Z h->N Z h):Wt (kG (lJ<|jG n) g body FU 0 Z) h N R B C:=by
 exact wV I xs.length (λi Z h b a=>⟨_,Ya (il _ _ _ a) (dZ b),turn i _ Z h (dZ b) a⟩) (λZ h a=>⟨Xz (il _ _ _ a) (by simp),done Z h a⟩) FU 0 Z h (gX _) (by omega) i0
theorem A0{g:AV->aG->M aG}{B:aG->AH->Prop}(I:Nat->aG->AH->Prop)(hn:xs.length<FU)(i0:I 0 Z h)
  (turn:∀(i:Nat) x Z h,xs[i]?=aA x->I i Z h->We (g (.tup [.int i,x]) Z) h λZ1 h1=>Wt (body Z1) h1 (I<|i+1) R N (I<|i+1))
  (done:∀Z h,I xs.length Z h->N Z h):Wt (kG (lJ<|lQ xs) g body FU 0 Z) h N R B C:=by
 exact wV I xs.length (λi Z h b a=>⟨_,by simp only[lJ,lQ,dZ b],turn i _ Z h (dZ b) a⟩) (λZ h a=>⟨by simp[lJ,lQ],done Z h a⟩) FU 0 Z h (gX _) (by omega) i0
theorem uA{g:AV->aG->M aG}{B:aG->AH->Prop}(I:Nat->aG->AH->Prop)(hn:xs.length<FU)(i0:I 0 Z h)(il:∀i Z h,I i Z h->h.ob n=aA (.lst bb xs))
  (turn:∀(i:Nat) x Z h,xs[i]?=aA x->I i Z h->We (g x Z) h λZ1 h1=>Wt (body Z1) h1 (I<|i+1) R N (I<|i+1))
  (done:∀Z h,I xs.length Z h->N Z h):Wt (kG (jG n) g body FU 0 Z) h N R B C:=by
 exact wV I xs.length (λi Z h b a=>⟨_,by rw[oZ (il _ _ _ a),dZ b],turn i _ Z h (dZ b) a⟩) (λZ h a=>⟨by rw[oZ (il _ _ _ a)];simp,done Z h a⟩) FU 0 Z h (gX _) (by omega) i0
theorem Ii{lo:Int}{g:AV->aG->M aG}{B:aG->AH->Prop}(I:Nat->aG->AH->Prop)(hn:n<FU)(i0:I 0 Z h)
  (turn:∀(i:Nat) Z h,i<n->I i Z h->We (g (.int<|lo+i) Z) h λZ1 h1=>Wt (body Z1) h1 (I<|i+1) R N (I<|i+1))
  (done:∀Z h,I n Z h->N Z h):Wt (kG (rC lo n) g body FU 0 Z) h N R B C:=by
 exact wV I n (λi Z h b a=>⟨_,by simp only[rC,if_pos b],turn i Z h b a⟩) (λZ h a=>⟨by simp[rC],done Z h a⟩) FU 0 Z h (gX _) (by omega) i0
theorem ue(h1:-4611686018427387904<=j)(h2:j<4611686018427387904):xG j=aB:=by simp only[xG,bQ,decide_eq_true_eq];lia
end AM
namespace AM
variable {h:AH}
structure Kp(h h':AH):Prop where
 nx:h.nx<=h'.nx
 ob:∀n,n<h.nx->h'.ob n=h.ob n
theorem Kp.refl:Kp h h:=⟨aU _,λ_ _=>rfl⟩
theorem Kp.trans{a b c:AH}(x:Kp a b)(y:Kp b c):Kp a c:=⟨cD x.nx y.nx,λn hn=>(y.ob n<|bD hn x.nx).trans (x.ob n hn)⟩
theorem Kp.new{a b:AH}{o:bJ}(x:Kp a b):Kp a (b.new o):=⟨vr x.nx,λn hn=>(dJ<|bV<|bD hn x.nx).trans (x.ob n hn)⟩
theorem Kp.put{a b:AH}{o:bJ}{k:Nat}(x:Kp a b)(hk:a.nx<=k):Kp a (b.put k o):=⟨x.nx,λn hn=>(aV<|bV<|bD hn hk).trans (x.ob n hn)⟩
theorem A1{xs ys:Ht}{g:AV->aG->M aG}{body:aG->M Out}{N B C:aG->AH->Prop}{R:AV->AH->Prop}{Z:aG}(I:Nat->aG->AH->Prop)(hl:xs.length=ys.length)(hn:xs.length<FU)(i0:I 0 Z h)
  (turn:∀(i:Nat) x y Z h,xs[i]?=aA x->ys[i]?=aA y->I i Z h->We (g (.tup [x,y]) Z) h λZ1 h1=>Wt (body Z1) h1 (I<|i+1) R N (I<|i+1))
  (done:∀Z h,I xs.length Z h->N Z h):Wt (kG (vH (lQ xs)<|lQ ys) g body FU 0 Z) h N R B C:=by
 refine wV I xs.length (λi Z h d a=>?_) (λZ h a=>⟨by simp[vH,lQ],done Z h a⟩) FU 0 Z h (gX _) (by omega) i0;have b:=dZ d;have c:=dZ (show i<ys.length by lia);exact⟨_,by simp only[vH,lQ,b,c],turn i _ _ Z h b c a⟩
end AM
namespace AM
open PySem PySem.Spec PyProof.Rows L2
variable {B1:Bool->AH->Prop}{C N:aG->AH->Prop}{L1:Ht->AH->Prop}{Q R V1:AV->AH->Prop}{a:Int}{as:Hy}{b b1 b2 bb:Bool}{body:aG->M Out}{c i j n:Nat}{d e o:Ex}{dp:YZ}{ds:List Df}{es:eP}{h h':AH}{it:Ir}{ks:List aN}{kvs:List (aN×AV)}{m:Str}{ns ws:Hx}{v x y z:AV}{xs ys:Ht}{Z:aG}
inductive dG where
 |sum|less|times|share|rest|both|je|odd|up|down|below|same
def dG.nm:dG->Str
 |.sum=>"sum" |.less=>"less" |.times=>"times" |.share=>"share" |.rest=>"rest" |.both=>"both" |.je=>"some" |.odd=>"odd" |.up=>"up" |.down=>"down" |.below=>"below" |.same=>"same"
inductive aI where
 |way (w:dG) (x y z:Int)|set (x v:Int)|move (x y:Int)|load (x y s:Int)|store (x y s:Int)|dQ (x t:Int)|go (t:Int)|fault (v:Int)
def aI.av:aI->AV
 |.way w x y z=>.tup [.str w.nm,.int x,.int y,.int z] | .set x v=>.tup [.str "set",.int x,.int v] | .move x y=>.tup [.str "move",.int x,.int y]
 |.load x y s=>.tup [.str "load",.int x,.int y,.int s] | .store x y s=>.tup [.str "store",.int x,.int y,.int s] | .dQ x t=>.tup [.str "jump",.int x,.int t]
 |.go t=>.tup [.str "go",.int t] | .fault v=>.tup [.str "fault",.int v]
def aI.nw:aI->Nat
 |.way _ _ _ _=>2 | .set _ _=>0 | .move _ _=>1 | .load _ _ _=>1 | .store _ _ _=>2 | .dQ _ _=>1 | .go _=>0 | .fault _=>0
def aI.pl(ws:Hx):aI->AV
 |.load _ _ s=>.int (cell ws 0+s) | .store _ _ s=>.int (cell ws 1+s)
 |_=>.aE
def aI.gs(a:Int)(ws:Hx):aI->Int
 |.go t=>t
 |.dQ _ t=>if cell ws 0≠0 then t else a+1
 |_=>a+1
theorem rk(h:ws.length=1):∃a,ws=[a]:=by
 match ws,h with
 |[a],_=>exact⟨a,rfl⟩
theorem rn(h:ws.length=2):∃a b,ws=[a,b]:=by
 match ws,h with
 |[a,b],_=>exact⟨a,b,rfl⟩
def dG.fH:dG->Int
 |.times=>1 | .share=>2 | .rest=>2
 |_=>0
def aI.eG:aI->Hx
 |.way _ _ y z=>[y,z] | .move _ y=>[y] | .load _ y _=>[y] | .store x y _=>[x,y] | .dQ x _=>[x]
 |_=>[]
def aI.fl:aI->AV
 |.way _ x _ _=>.int x | .set x _=>.int x | .move x _=>.int x | .load x _ _=>.int x
 |_=>.aE
def aI.fH:aI->Int
 |.way w _ _ _=>w.fH | .set _ _=>0 | .move _ _=>0 | .load _ _ _=>3 | .store _ _ _=>3
 |_=>4
def Pl(st:Bool):Nat->AV->Prop
 |0,v=>v = .aE\/(∃i,v = .int i)\/∃s,st=aB/\v = .str s
 |n+1,v=>(v = .aE\/(∃i,v = .int i)\/∃s,st=aB/\v = .str s)\/∃xs,v = .tup xs/\xs.length<=1000/\∀x∈xs,Pl st n x
def nE(b:Int):Int:=if 64<b then 64 else b
def dG.wk(a b:Int):dG->Int
 |.sum=>(a+b)%18446744073709551616 | .less=>(a-b)%18446744073709551616 | .times=>a*b%18446744073709551616
 |.share=>a / b | .rest=>a%b
 |.both=>tD a b | .je=>jx a b | .odd=>jy a b
 |.up=>a*2 ^ (nE b).toNat%18446744073709551616 | .down=>a / 2 ^ (nE b).toNat
 |.below=>if a<b then 1 else 0 | .same=>if a=b then 1 else 0
def dG.sr:dG->Bool
 |.share=>aB | .rest=>aB
 |_=>aH
def aI.Lm(ws:Hx):aI->Hs
 |.load _ _ s=>aA (cell ws 0+s) | .store _ _ s=>aA (cell ws 1+s)
 |_=>aD
def aI.ft(ws:Hx)(room:Int):aI->Yo
 |.fault v=>aA (.tup [.str "told",.int v])
 |.way w _ _ _=>cond w.sr (if cell ws 1=0 then aA (.tup [.str "nought",.int (cell ws 0)]) else aD) aD
 |.load _ _ s=>if 0<=cell ws 0+s/\cell ws 0+s<room then aD else aA (.tup [.str "place",.int (cell ws 0+s)])
 |.store _ _ s=>if 0<=cell ws 1+s/\cell ws 1+s<room then aD else aA (.tup [.str "place",.int (cell ws 1+s)])
 |_=>aD
def aI.br(ws:Hx)(held:AV):aI->AV
 |.way w _ _ _=>.int (w.wk (cell ws 0)<|cell ws 1) | .set _ v=>.int v | .move _ _=>.int (cell ws 0) | .store _ _ _=>.int (cell ws 0) | .load _ _ _=>held
 |_=>.aE
def aI.dB(a:Int)(ws:Hx)(room:Int)(held:AV)(r:aI):AV:=match r.ft ws room with
 |some f=>.tup [.int a,.aE,.aE,.aE,.aE,f]
 |none=>.tup [.int a,r.fl,r.pl ws,r.br ws held,.int (r.gs a ws),.aE]
def kZ(ws:Hx):Prop:=∀w∈ws,0<=w/\w<18446744073709551616
theorem aOz{b:Int}(h:¬b<64):a*2 ^ (nE b).toNat%18446744073709551616=0:=by
 have e:nE b=64:=by unfold nE;split<;>lia
 rw[e];exact Int.mul_emod_left ..
theorem YC{b:Int}(h:¬b<64)(a0:0<=a)(a1:a<18446744073709551616):a / 2 ^ (nE b).toNat=0:=by
 have e:nE b=64:=by unfold nE;split<;>lia
 rw[e];exact Int.ediv_eq_zero_of_lt a0 a1
theorem CQ{b:Int}(h:b<64):nE b=b:=by unfold nE;split<;>lia
theorem Lq{b:Int}(a0:0<=a)(a1:a<18446744073709551616)(b0:0<=b)(b1:b<=64):xB a b=aB:=by simp only[xB,bQ,decide_eq_true_eq];exact⟨⟨b0,by lia⟩,by lia⟩
theorem Xs{b:Int}(b0:0<b)(b1:b<18446744073709551616):pV b=aB:=by
 have e:(18446744073709551616:Int)<2 ^ 1000:=by decide
 simp only[pV,bQ,decide_eq_true_eq];exact⟨b0,Qh b1 e⟩
section
variable {α:Type}{m:M α}{Q:α->AH->Prop}{F:Run}
theorem JA(w:Wp m h Q):We (oC m) h Q:=by obtain⟨a,h1,e,q⟩:=w.ex;exact We.eq (show oC m h = .ok a h1 by unfold oC;rw[e]) q
theorem bo{imp:Yg}{t:CT}(w:We (cU F it Z) h λi h1=>We (eK i (pS t) (λ_=>M.ret aB) (aM F e) FU 0 []<|mL imp Z) h1 λys h2=>V1 (.ref h2.nx) (h2.new<|.lst aB ys)):We (aM F (.wJ imp t it e) Z) h V1:=
 bM (w.mono λ_ _ z=>bM (z.mono λ_ _ y=>y))
theorem JT{imp:Yg}{t:CT}{c:Ex}(w:We (cU F it Z) h λi h1=>We (eK i (pS t) (dR F c) (aM F e) FU 0 []<|mL imp Z) h1 λys h2=>V1 (.ref h2.nx) (h2.new<|.lst aB ys)):We (aM F (.wK imp t it c e) Z) h V1:=
 bM (w.mono λ_ _ z=>bM (z.mono λ_ _ y=>y))
theorem bc{Q:aG->AH->Prop}(q:Q (Z.set i<|aA v) h):We (pS (.nm i) v Z) h Q:=q
theorem aPl{a b:AV}{Q:aG->AH->Prop}(q:Q ((Z.set i<|aA a).set j (aA b)) h):We (pS (.tup [i,j]) (.tup [a,b]) Z) h Q:=q
theorem wL{it:gK}{g:AV->aG->M aG}{mt:aG->M Bool}{me:aG->M AV}(I:Nat->Ht->aG->AH->Prop)(n:Nat)
  (turn:∀i ys Z h,i<n->I i ys Z h->∃v,it i h=aA (aA v)/\Wp (g v Z) h λZ1 h1=>Wp (mt Z1) h1 λb h2=>if b=aB then We (me Z1) h2 λy h3=>ys.length<sizeLine/\I (i+1) (ys++[y]) Z1 h3 else I (i+1) ys Z1 h2)
  (done:∀ys Z h,I n ys Z h->it n h=aA aD/\L1 ys h):∀(f i:Nat) (ys:Ht) (Z:aG) (h:AH),i<=n->n-i<f->I i ys Z h->We (eK it g mt me f i ys Z) h L1
 |0,i,ys,Z,h,_,hf,_=>absurd hf (Dy _)
 |f+1,i,ys,Z,h,m,hf,d=>by
  by_cases a:i<n
  .obtain⟨v,e,w⟩:=turn i ys Z h a d;have c:eK it g mt me (f+1) i ys Z h=((oC<|g v Z).bind λZ1=>(oC<|mt Z1).bind λb=>if b=aB then(me Z1).bind λy=>M.guard (ys.length<sizeLine) (eK it g mt me f (i+1) (ys++[y]) Z1) else eK it g mt me f (i+1) ys Z1) h:=by simp only[eK,e]
   unfold We;rw[c];refine bM<|JA<|w.mono λZ1 h1 l=>bM (JA<|l.mono λb h2 j=>?_);cases b with
   |true=>exact bM<|j.mono λy h3 k=>jr k.1 (wL I n turn done f (i+1) _ Z1 h3 a (by omega) k.2)
   |false=>exact wL I n turn done f (i+1) ys Z1 h2 a (by omega) j
  .have:i=n:=by lia
   subst this;obtain⟨e,q⟩:=done ys Z h d;unfold We;have c:eK it g mt me (f+1) i ys Z h = .ok ys h:=by simp only[eK,e]
   rw[c];exact q
variable {g:AV->aG->M aG}{mt:aG->M Bool}{me:aG->M AV}
theorem uu{A B:AH->Prop}(q:A h):Wp (M.ret aB) h λb h2=>if b=aB then A h2 else B h2:=by
 show if aB=aB then A h else B h
 exact q
theorem Wz{lo:Int}(I:Nat->Ht->aG->AH->Prop)(hn:n<FU)(i0:I 0 [] Z h)
  (turn:∀(i:Nat) ys Z h,i<n->I i ys Z h->Wp (g (.int<|lo+i) Z) h λZ1 h1=>We (me Z1) h1 λy h3=>ys.length<sizeLine/\I (i+1) (ys++[y]) Z1 h3)
  (done:∀ys Z h,I n ys Z h->L1 ys h):We (eK (rC lo n) g (λ_=>M.ret aB) me FU 0 [] Z) h L1:=by
 exact wL I n (λi ys Z h b a=>⟨_,by simp only[rC,if_pos b],(turn i ys Z h b a).mono λZ1 h1 w=>uu w⟩) (λys Z h a=>⟨by simp[rC],done ys Z h a⟩) FU 0 [] Z h (gX _) (by omega) i0
theorem WT(I:Nat->Ht->aG->AH->Prop)(hn:xs.length<FU)(i0:I 0 [] Z h)
  (turn:∀(i:Nat) x ys Z h,xs[i]?=aA x->I i ys Z h->Wp (g x Z) h λZ1 h1=>We (me Z1) h1 λy h3=>ys.length<sizeLine/\I (i+1) (ys++[y]) Z1 h3)
  (done:∀ys Z h,I xs.length ys Z h->L1 ys h):We (eK (lQ xs) g (λ_=>M.ret aB) me FU 0 [] Z) h L1:=by
 exact wL I xs.length (λi ys Z h b a=>⟨xs[i],by simp only[lQ,dZ b],(turn i _ ys Z h (dZ b) a).mono λZ1 h1 w=>uu w⟩) (λys Z h a=>⟨by simp[lQ],done ys Z h a⟩) FU 0 [] Z h (gX _) (by omega) i0
theorem Gz(I:Nat->Ht->aG->AH->Prop)(hn:xs.length<FU)(i0:I 0 [] Z h)(il:∀i ys Z h,I i ys Z h->h.ob n=aA (.lst bb xs))
  (turn:∀(i:Nat) x ys Z h,xs[i]?=aA x->I i ys Z h->Wp (g x Z) h λZ1 h1=>We (me Z1) h1 λy h3=>ys.length<sizeLine/\I (i+1) (ys++[y]) Z1 h3)
  (done:∀ys Z h,I xs.length ys Z h->L1 ys h):We (eK (jG n) g (λ_=>M.ret aB) me FU 0 [] Z) h L1:=by
 exact wL I xs.length (λi ys Z h b a=>⟨_,by rw[oZ (il _ _ _ _ a),dZ b],(turn i _ ys Z h (dZ b) a).mono λZ1 h1 w=>uu w⟩) (λys Z h a=>⟨by rw[oZ (il _ _ _ _ a)];simp,done ys Z h a⟩) FU 0 [] Z h (gX _) (by omega) i0
theorem WS(I:Nat->Ht->aG->AH->Prop)(hn:xs.length<FU)(i0:I 0 [] Z h)(il:∀i ys Z h,I i ys Z h->h.ob n=aA (.lst bb xs))
  (turn:∀(i:Nat) x ys Z h,xs[i]?=aA x->I i ys Z h->Wp (g (.tup [.int i,x]) Z) h λZ1 h1=>We (me Z1) h1 λy h3=>ys.length<sizeLine/\I (i+1) (ys++[y]) Z1 h3)
  (done:∀ys Z h,I xs.length ys Z h->L1 ys h):We (eK (lJ<|jG n) g (λ_=>M.ret aB) me FU 0 [] Z) h L1:=by
 exact wL I xs.length (λi ys Z h b a=>⟨_,Ya (il _ _ _ _ a) (dZ b),(turn i _ ys Z h (dZ b) a).mono λZ1 h1 w=>uu w⟩) (λys Z h a=>⟨Xz (il _ _ _ _ a) (by simp),done ys Z h a⟩) FU 0 [] Z h (gX _) (by omega) i0
variable {B:aG->AH->Prop}
theorem aSg{is:Ia}(w:We (dS F es Z) h λvs h1=>vs.length=is.length/\N (Br is vs Z) h1):Wt (eM F (.par is es) Z) h N R B C:=
 bM (w.mono λvs h1 z=>jr z.1 z.2)
end
theorem A2{n1 n2:Nat}{g:AV->aG->M aG}{B:aG->AH->Prop}(I:Nat->aG->AH->Prop)(hl:xs.length=ys.length)(hn:xs.length<FU)(i0:I 0 Z h)
  (il:∀i Z h,I i Z h->h.ob n1=aA (.lst b1 xs)/\h.ob n2=aA (.lst b2 ys))
  (turn:∀(i:Nat) x y Z h,xs[i]?=aA x->ys[i]?=aA y->I i Z h->We (g (.tup [x,y]) Z) h λZ1 h1=>Wt (body Z1) h1 (I<|i+1) R N (I<|i+1))
  (done:∀Z h,I xs.length Z h->N Z h):Wt (kG (vH (jG n1)<|jG n2) g body FU 0 Z) h N R B C:=by
 refine wV I xs.length (λi Z h d a=>?_) (λZ h a=>⟨?_,done Z h a⟩) FU 0 Z h (gX _) (by omega) i0
 .obtain⟨g1,g2⟩:=il _ _ _ a;have b:=dZ d;have c:=dZ (show i<ys.length by lia);exact⟨_,by simp only[vH,oZ g1,oZ g2,b,c],turn i _ _ Z h b c a⟩
 .obtain⟨g1,g2⟩:=il _ _ _ a;simp[vH,oZ g1,oZ g2]
theorem Zp(e:h.ob n=aA (.lst b xs)):nY (.ref n) h = .ok (jG n) h:=by simp only[nY,e]
theorem gq(h:i<n):iI n (i:Int)=aA i:=by unfold iI;rw[if_pos (by lia),if_pos (by lia)];simp
theorem JD(hz:xs.length+ys.length<=sizeLine)(q:V1 (.tup<|xs++ys) h):We (Op.g .add (.tup xs)<|.tup ys) h V1:=jr hz q
theorem JL{lo hi:Hs}(hz:¬(HT.cC xs.length 0 lo=0/\HT.cC xs.length xs.length hi=xs.length))(q:V1 (.tup<|iC xs lo hi) h):We (qD (.tup xs) lo hi) h V1:=by unfold We qD;simp only[if_neg hz];exact q
section
variable {F:Run}{B:aG->AH->Prop}
theorem JU{cs:Ia}{f:Str}(w:We (aM F o Z) h λx h1=>We (uD cs f x) h1 V1):We (aM F (.lK cs f o) Z) h V1:=bM w
theorem JF{cs:Ia}{f:Str}{fs:Yf}(e:h.ob n=aA (.ins c fs))(hc:cs.contains c=aB)(l:fs.lookup f=aA v)(q:V1 v h):We (uD cs f<|.ref n) h V1:=by unfold We uD;simp only[e,if_pos hc,l];exact q
theorem aQg{dp:Nat->Option (Ht->M AV)}{r:M Ht}{fs:Yf}{g:Ht->M AV}(e2:h.ob n=aA (.ins c fs))(e3:dp c=aA g)(e4:fs.lookup m=aD)(q:We r h λxs h2=>We (g<|.ref n::xs) h2 V1):We (sj dp m r<|.ref n) h V1:=by unfold We sj;simp only[e2,e3,e4];exact bM q
theorem JW(w:We (aM F o Z) h λx h1=>∃(n c:Nat) (fs:Yf) (i:Nat),x = .ref n/\h1.ob n=aA (.ins c fs)/\dp.lookup c=aA i/\fs.lookup m=aD/\We (dS F es Z) h1 λxs h2=>We (F i<|.ref n::xs) h2 V1) :
  We (aM F (.qN m dp o es) Z) h V1:=bM (w.mono λx h1 ⟨n,c,fs,i,a,b,d,e,q⟩=>by
 subst a;exact aQg b (by rw[d];rfl) e q)
theorem aRl{dv:Ht}(w:We (dS F es Z) h λxs h1=>We (F i<|.ref h1.nx::(xs++dv)) (h1.new<|.ins c []) λv h2=>v = .aE/\V1 (.ref h1.nx) h2):We (aM F (.make c i dv es) Z) h V1:=
 bM (w.mono λxs h1 z=>by exact bM (z.mono λv h2 ⟨e,q⟩=>by subst e;exact q))
theorem aRf(w:We (dS F es Z) h λxs h1=>We (F i xs) h1 V1):We (aM F (.fh i es) Z) h V1:=bM w
theorem aSn{cs:Ia}{f:Str}(w:We (aM F (.lK cs f o) Z) h λx h1=>We (dH x) h1 B1):We (dR F (.lK cs f o) Z) h B1:=bM w
theorem aSp(w:We (aM F (.qN m dp o es) Z) h λx h1=>We (dH x) h1 B1):We (dR F (.qN m dp o es) Z) h B1:=bM w
theorem aSe{cs:Ia}{f:Str}(w:We (aM F e Z) h λv h1=>We (aM F o Z) h1 λx h2=>∃(n c:Nat) (fs:Yf),x = .ref n/\h2.ob n=aA (.ins c fs)/\cs.contains c=aB/\fs.length<1000/\N Z (h2.put n<|.ins c<|gC f v fs)) :
  Wt (eM F (.gc cs f o e) Z) h N R B C:=bM (w.mono λv h1 z=>bM (z.mono λx h2 ⟨n,c,fs,a,b,d,g,q⟩=>by
 subst a;have i:uf cs f (.ref n) v h2=aA (h2.put n<|.ins c<|gC f v fs):=by simp only[uf,b];rw[if_pos ⟨d,g⟩]
 unfold We;simp only[i];exact q))
theorem aSd{cs:Ia}{f:Str}(w:We (aM F o Z) h λx h1=>∃(n c:Nat) (fs:Yf) (i:Int),x = .ref n/\h1.ob n=aA (.ins c fs)/\cs.contains c=aB/\fs.lookup f=aA (.int i) /\
  We (aM F e Z) h1 λy h2=>∃(j:Int) (fs2:Yf),y = .int j/\h2.ob n=aA (.ins c fs2)/\fs2.length<1000/\N Z (h2.put n<|.ins c<|gC f (.int<|i+j) fs2)) :
  Wt (eM F (.pf cs f o e) Z) h N R B C:=bM (w.mono λx h1 ⟨n,c,fs,i,a,b,d,g,z⟩=>by
 subst a;unfold We;simp only[b,if_pos d,g];refine bM<|z.mono λy h2 k=>?_;obtain⟨j,fs2,l,m,p,q⟩:=k;subst l;unfold We;simp only[Fu,m];rw[if_pos ⟨trivial,p⟩];exact q)
theorem aSa{sub:Bool}(l:Z[i]?=aA (aA<|.int a))(w:We (aM F e Z) h λy h1=>∃j:Int,y = .int j/\N (Z.set i<|aA<|.int<|if sub=aB then a-j else a+j) h1):Wt (eM F (.aug sub i e) Z) h N R B C:=by show We (nu sub i (aM F e Z) Z) h _;unfold nu;simp only[l];exact bM (w.mono λy h1 ⟨j,b,q⟩=>by subst b;exact q)
theorem aRh{f:Dm}(w:We (aM F o Z) h λx h1=>(gM h1 x).isSome=aB/\We (dS F es Z) h1 λxs h2=>We (f.g x xs) h2 V1):We (aM F (.dm f o es) Z) h V1:=bM (w.mono λx h1 ⟨a,b⟩=>by unfold We;simp only[if_pos a];exact bM b)
theorem wO(e:h.ob n=aA (.aQ kvs)):gM h (.ref n)=aA kvs:=by simp only[gM,e]
theorem JE{k:aN}(e:h.ob n=aA (.aQ kvs))(hk:fP y=aA k)(q:V1 ((bK kvs k).getD z) h):We (Dm.g .get (.ref n) [y,z]) h V1:=by show We (yZ (.ref n) [y,z]) h V1;unfold We yZ;simp only[wO e,hk];exact q
theorem ux{k:aN}(e:h.ob n=aA (.aQ kvs))(hk:fP y=aA k)(q:V1 ((bK kvs k).getD .aE) h):We (Dm.g .get (.ref n) [y]) h V1:=by show We (yZ (.ref n) [y]) h V1;unfold We yZ;simp only[wO e,hk];exact q
theorem Pk{k:aN}(e:h.ob n=aA (.aQ kvs))(hk:fP y=aA k)(l:bK kvs k=aA v)(q:V1 v (h.put n<|.aQ<|wQ kvs k)):We (Dm.g .pop (.ref n) [y]) h V1:=by show We (qa (.ref n) [y]) h V1;unfold We qa;simp only[wO e,hk,l];exact q
theorem aPv{k:aN}(e:h.ob n=aA (.aQ kvs))(hk:fP y=aA k)(hz:kvs.length<sizeLine)(q1:∀v,bK kvs k=aA v->V1 v h)(q2:bK kvs k=aD->V1 z (h.put n<|.aQ<|gZ kvs k z)):We (Dm.g .setd (.ref n) [y,z]) h V1:=by
 show We (qc (.ref n) [y,z]) h V1;unfold We qc;simp only[wO e,hk,if_pos hz];cases l:bK kvs k with
 |none=>exact q2 l|some v=>exact q1 v l
theorem Cw{k:aN}(e:h.ob n=aA (.aQ kvs))(hk:fP y=aA k)(l:bK kvs k=aA v)(q:V1 v h):We (Op.g .ix (.ref n) y) h V1:=by show We (uF (.ref n) y) h V1;unfold We uF;simp only[wO e,hk,hX,l];exact q
theorem Cy{k:aN}(e:h.ob n=aA (.dD kvs))(hk:fP y=aA k)(l:bK kvs k=aA v)(q:V1 v h):We (Op.g .ix (.ref n) y) h V1:=by show We (uF (.ref n) y) h V1;unfold We uF;simp only[gM];unfold yz;simp only[yU,e,hk,hX,l];exact q
theorem bh{k:aN}(e:h.ob n=aA (.aQ kvs))(hk:fP y=aA k)(q:V1 (.bl (bK kvs k).isSome) h):We (Cp.g .zR y<|.ref n) h V1:=by show We (oX aH y<|.ref n) h V1;unfold We oX;simp only[wO e,hk];exact q
theorem Oy{k k':aN}:bK (gZ kvs k v) k'=if k=k' then aA v else bK kvs k':=by
 induction kvs with
 |nil=>
  by_cases e:k=k'
  .simp[bK,gZ]
  .simp[bK,gZ]
 |cons p r j=>
  obtain⟨b,v0⟩:=p;by_cases h:b=k
  .subst h;have i:gZ ((b,v0)::r) b v=(b,v)::r.map (λa=>if a.1=b then(a.1,v) else a):=by simp[gZ]
   rw[i];by_cases e:b=k'
   .subst e;simp[bK]
   .have:bK (r.map λa=>if a.1=b then(a.1,v) else a) k'=bK r k':=by
     clear j i;induction r with
     |nil=>rfl|cons q s g=>
      obtain⟨k2,v2⟩:=q;by_cases l:k2=b
      .subst l;simp only[kM,if_true];have d:bK ((k2,v)::s.map λa=>if a.1=k2 then(a.1,v) else a) k'=bK (s.map λa=>if a.1=k2 then(a.1,v) else a) k':=by simp[bK,e]
       have f:bK ((k2,v2)::s) k'=bK s k':=by simp[bK,e]
       rw[d,f,g]
      .simp only[kM,l,if_false];by_cases c:k2=k'
       .simp[bK,c]
       .have d:bK ((k2,v2)::s.map λa=>if a.1=b then(a.1,v) else a) k'=bK (s.map λa=>if a.1=b then(a.1,v) else a) k':=by simp[bK,c]
        have f:bK ((k2,v2)::s) k'=bK s k':=by simp[bK,c]
        rw[d,f,g]
    have d:bK ((b,v)::r.map λa=>if a.1=b then(a.1,v) else a) k'=bK (r.map λa=>if a.1=b then(a.1,v) else a) k':=by simp[bK,e]
    have f:bK ((b,v0)::r) k'=bK r k':=by simp[bK,e]
    rw[d,this,if_neg e,f]
  .have i:gZ ((b,v0)::r) k v=(b,v0)::gZ r k v:=by unfold gZ;simp only[rJ,h,decide_false,Bool.false_or];split<;>simp[h]
   rw[i];by_cases c:b=k'
   .have ne:k≠k':=λz=>h (c.trans z.symm);simp[bK,c,ne]
   .have d:bK ((b,v0)::gZ r k v) k'=bK (gZ r k v) k':=by simp[bK,c]
    have f:bK ((b,v0)::r) k'=bK r k':=by simp[bK,c]
    rw[d,f,j]
theorem Ls{k:aN}:(gZ kvs k v).length<=kvs.length+1:=by
 unfold gZ;split
 .rw[aW];lia
 .rw[eU];exact aU _
theorem JJ{k:Int}(e:h.ob n=aA (.lst aB xs))(h0:0<=k)(hz:xs.length*k.toNat<=sizeLine)(h1:k<2 ^ 63)(q:V1 (.ref h.nx) (h.new<|.lst aB (fA k.toNat xs).flatten)):We (Op.g .mul (.ref n)<|.int k) h V1:=by show We (qi (.ref n)<|.int k) h V1;unfold We qi;simp only[e,if_pos (show 0<=k/\xs.length*k.toNat<=sizeLine/\k<2 ^ 63 from⟨h0,hz,h1⟩)];exact q
theorem aRr(w:We (aM F o Z) h λx h1=>We (zK x) h1 V1):We (aM F (.tm o) Z) h V1:=bM w
theorem aQo(e:h.ob n=aA (.lst aB<|xs++[y]))(q:V1 y (h.put n<|.lst aB xs)):We (zK<|.ref n) h V1:=by
 unfold We zK;have a:(xs++[y])[(xs++[y]).length-1]?=aA y:=by simp
 have b:(xs++[y]).dropLast=xs:=by simp
 simp only[e,a,b];exact q
theorem aPw(e:tV x y=aD)(e2:sA h x y=aA b)(q:V1 (.bl b) h):We (Cp.g .eq x y) h V1:=by show We (zF x y) h V1;unfold We zF;simp only[e,e2];exact q
theorem JI(e:tV x y=aD)(e2:sA h x y=aA b)(q:V1 (.bl<|!b) h):We (Cp.g .ne x y) h V1:=by show We (zJ x y) h V1;unfold We zJ;simp only[e,e2];exact q
theorem Hq{m:Nat}(e1:h.ob n=aA (.lst b1 xs))(e2:h.ob m=aA (.lst b2 [])):sA h (.ref n) (.ref m)=aA (decide<|xs=[]):=by simp only[sA,uh,e1,e2];cases xs<;>rfl
end
theorem Kp.get(g:Kp h h'){o:Option bJ}(hn:n<h.nx)(e:h.ob n=o):h'.ob n=o:=(g.ob n hn).trans e
theorem xD{o:bJ}:(h.put n o).nx=h.nx:=rfl
theorem aVv{o:bJ}:(h.new o).nx=h.nx+1:=rfl
theorem Wx{g:AV->aG->M aG}{mt:aG->M Bool}{me:aG->M AV}(I:Nat->Ht->aG->AH->Prop)(hn:xs.length<FU)(i0:I 0 [] Z h)(il:∀i ys Z h,I i ys Z h->h.ob n=aA (.lst bb xs))
  (turn:∀(i:Nat) x ys Z h,xs[i]?=aA x->I i ys Z h->Wp (g x Z) h λZ1 h1=>Wp (mt Z1) h1 λb h2=>if b=aB then We (me Z1) h2 λy h3=>ys.length<sizeLine/\I (i+1) (ys++[y]) Z1 h3 else I (i+1) ys Z1 h2)
  (done:∀ys Z h,I xs.length ys Z h->L1 ys h):We (eK (jG n) g mt me FU 0 [] Z) h L1:=by
 exact wL I xs.length (λi ys Z h c a=>⟨_,by rw[oZ (il _ _ _ _ a),dZ c],turn i _ ys Z h (dZ c) a⟩) (λys Z h a=>⟨by rw[oZ (il _ _ _ _ a)];simp,done ys Z h a⟩) FU 0 [] Z h (gX _) (by omega) i0
theorem kX:(1000:Nat)<sizeLine:=by decide
theorem mO{α:Type}{f:α->AV}{ws:List α}(h:(ws.map f)[i]?=aA x):∃w,ws[i]?=aA w/\x=f w:=by rw[fM]at h;obtain⟨w,h1,a⟩:=Option.map_eq_some_iff.mp h;exact⟨w,h1,a.symm⟩
theorem XH:iC xs aD (aA (n:Int))=xs.take n:=by
 unfold iC;rw[HT.Bo,HT.ax,LC,Nat.sub_zero];rcases Rt n xs.length with h|h
 .rw[vt h]
 .rw[Ru h,tI,vq h]
theorem Xf:iC xs (aA (n:Int)) aD=xs.drop n:=by
 unfold iC;rw[HT.Bo,HT.ax];rcases Rt n xs.length with h|h
 .rw[vt h,vq (by rw[vp];exact aU _)]
 .rw[Ru h,List.drop_eq_nil_of_le h,MK];rfl
theorem Vc(h0:0<n)(h1:n<=xs.length):cH xs (-(n:Int))=xs[xs.length-n]?:=by
 unfold cH iI;rw[if_neg (by lia)];first
  |rw[if_pos (by lia)]|skip
 have:(-n+(xs.length:Int)).toNat=xs.length-n:=by lia
 simp[this]
section
variable {F:Run}{B:aG->AH->Prop}
theorem xM{c:Ex}{b:aR}(w:Wt (vF (dR F c) (jS F b) FU Z) h N R B C):Wt (eM F (.vc c b) Z) h N R B C:=w
theorem vG{c:aG->M Bool}{body:aG->M Out}(I:Nat->aG->AH->Prop)(n:Nat)(hb:∀i Z h,I i Z h->i<=n)
  (turn:∀i Z h,I i Z h->We (c Z) h λb h1=>if b=aB then Wt (body Z) h1 (I<|i+1) R N (I<|i+1) else N Z h1):∀(f i:Nat) (Z:aG) (h:AH),n-i<f->I i Z h->Wt (vF c body f Z) h N R B C
 |0,i,Z,h,hf,_=>absurd hf (Dy _)
 |f+1,i,Z,h,hf,g=>by
  have d:=vG I n hb turn f;refine bM<|(turn i Z h g).mono λb h1 w=>?_;cases b with
  |false=>exact w|true=>
   refine bM<|We.mono w λo e z=>?_;cases o with
   |nx a=>have:=hb _ _ _ z;exact d (i+1) a e (by omega) z
   |cnt a=>have:=hb _ _ _ z;exact d (i+1) a e (by omega) z
   |brk a=>exact z|ret v=>exact z
end
section
variable {F:Run}{B:aG->AH->Prop}
theorem Xq{k:aN}(e:ks[i]?=aA k):mG ks i h=aA (aA<|sG k):=by simp only[mG,e]
theorem Xp:mG ks ks.length h=aA aD:=by simp[mG]
theorem Ww{g:AV->aG->M aG}{mt:aG->M Bool}{me:aG->M AV}(I:Nat->Ht->aG->AH->Prop)(hn:ks.length<FU)(i0:I 0 [] Z h)
  (turn:∀(i:Nat) k ys Z h,ks[i]?=aA k->I i ys Z h->Wp (g (sG k) Z) h λZ1 h1=>Wp (mt Z1) h1 λb h2=>if b=aB then We (me Z1) h2 λy h3=>ys.length<sizeLine/\I (i+1) (ys++[y]) Z1 h3 else I (i+1) ys Z1 h2)
  (done:∀ys Z h,I ks.length ys Z h->L1 ys h):We (eK (mG ks) g mt me FU 0 [] Z) h L1:=by
 exact wL I ks.length (λi ys Z h c a=>⟨_,Xq (dZ c),turn i _ ys Z h (dZ c) a⟩) (λys Z h a=>⟨Xp,done ys Z h a⟩) FU 0 [] Z h (gX _) (by omega) i0
theorem WR{g:AV->aG->M aG}{me:aG->M AV}(I:Nat->Ht->aG->AH->Prop)(hn:ks.length<FU)(i0:I 0 [] Z h)
  (turn:∀(i:Nat) k ys Z h,ks[i]?=aA k->I i ys Z h->Wp (g (sG k) Z) h λZ1 h1=>We (me Z1) h1 λy h3=>ys.length<sizeLine/\I (i+1) (ys++[y]) Z1 h3)
  (done:∀ys Z h,I ks.length ys Z h->L1 ys h):We (eK (mG ks) g (λ_=>M.ret aB) me FU 0 [] Z) h L1:=
 Ww I hn i0 (λi k ys Z h e a=>(turn i k ys Z h e a).mono λZ1 h1 w=>uu w) done
theorem ID{L:bJ}(ho:h.ob n=aA (.aQ kvs))(hn:n<h.nx):((h.put n<|.dD kvs).new L).put n (.aQ kvs)=h.new L:=by
 unfold AH.put AH.new;congr 1
 funext m
 dsimp only;by_cases e:m=n
 .subst e;rw[if_pos rfl,if_neg (bV hn),ho]
 .rw[if_neg e,if_neg e]
theorem Oo{α:Type}{m0:aG->M AV}{ma:aG->M α}{kv':List (aN×AV)}{a:α}(hd:m0 Z h = .ok (.ref n) h)(ho:h.ob n=aA (.aQ kvs))(hm:ma Z h = .ok a h')(h2:h'.ob n=aA (.dD kv')):mD m0 ma Z h = .ok a (h'.put n<|.aQ kv'):=by unfold mD;simp only[hd,yf,ho,hm,uq,h2]
theorem Ik(hd:aM F d Z h = .ok (.ref n) h)(ho:h.ob n=aA (.aQ kvs)):cU F (.aQ d) Z h = .ok (mG<|kvs.map (·.1)) (h.put n<|.dD kvs):=by show M.bind (aM F d Z) pk h=_;simp only[M.bind,hd,pk,ho]
theorem aRw{c:Ex}{imp:Yg}{t:CT}(hd:aM F d Z h = .ok (.ref n) h)(ho:h.ob n=aA (.aQ kvs))(hn:n<h.nx)
  (w:Wp (eK (mG<|kvs.map (·.1)) (pS t) (dR F c) (aM F e) FU 0 []<|mL imp Z) (h.put n<|.dD kvs) λys h2=>h2=h.put n (.dD kvs)/\V1 (.ref h.nx) (h.new<|.lst aB ys)):We (aM F (.kK d<|.wK imp t (.aQ d) c e) Z) h V1:=by
 obtain⟨ys,h2,a,rfl,q⟩:=w.ex;have b:aM F (.wK imp t (.aQ d) c e) Z h = .ok (.ref h.nx) ((h.put n<|.dD kvs).new (.lst aB ys)):=by show M.bind (cU F (.aQ d) Z) _ h=_;simp only[M.bind,Ik hd ho,a];rfl
 show We (mD (aM F d) (aM F<|.wK imp t (.aQ d) c e) Z) h V1;unfold We;rw[(Oo (kv':=kvs) hd ho b (by simp[AH.new,AH.put,bV hn])),ID ho hn];exact q
theorem aRv{imp:Yg}{t:CT}(hd:aM F d Z h = .ok (.ref n) h)(ho:h.ob n=aA (.aQ kvs))(hn:n<h.nx)
  (w:Wp (eK (mG<|kvs.map (·.1)) (pS t) (λ_=>M.ret aB) (aM F e) FU 0 []<|mL imp Z) (h.put n<|.dD kvs) λys h2=>h2=h.put n (.dD kvs)/\V1 (.ref h.nx) (h.new<|.lst aB ys)):We (aM F (.kK d<|.wJ imp t (.aQ d) e) Z) h V1:=by
 obtain⟨ys,h2,a,rfl,q⟩:=w.ex;have b:aM F (.wJ imp t (.aQ d) e) Z h = .ok (.ref h.nx) ((h.put n<|.dD kvs).new (.lst aB ys)):=by show M.bind (cU F (.aQ d) Z) _ h=_;simp only[M.bind,Ik hd ho,a];rfl
 show We (mD (aM F d) (aM F<|.wJ imp t (.aQ d) e) Z) h V1;unfold We;rw[(Oo (kv':=kvs) hd ho b (by simp[AH.new,AH.put,bV hn])),ID ho hn];exact q
theorem z9{g:AV->aG->M aG}(I:Nat->aG->AH->Prop)(hn:ks.length<FU)(i0:I 0 Z h)
  (turn:∀(i:Nat) k Z h,ks[i]?=aA k->I i Z h->We (g (sG k) Z) h λZ1 h1=>Wt (body Z1) h1 (I<|i+1) R N (I<|i+1))
  (done:∀Z h,I ks.length Z h->N Z h):Wt (kG (mG ks) g body FU 0 Z) h N R B C:=by
 exact wV I ks.length (λi Z h b a=>⟨_,Xq (dZ b),turn i _ Z h (dZ b) a⟩) (λZ h a=>⟨Xp,done Z h a⟩) FU 0 Z h (gX _) (by omega) i0
theorem aSi{t:Tg}{b:aR}(hd:aM F d Z h = .ok (.ref n) h)(ho:h.ob n=aA (.aQ kvs))
  (w:Wt (kG (mG<|kvs.map (·.1)) (oV F t) (jS F b) FU 0 Z) (h.put n<|.dD kvs) (λZ' h'=>h'.ob n=aA (.dD kvs)/\N Z' (h'.put n<|.aQ kvs)) (λ_ _=>False) (λ_ _=>False) (λ_ _=>False)):Wt (eM F (.kK d<|.wW t (.aQ d) b) Z) h N R B C:=by
 have a:=w;obtain⟨o,h',e,q⟩:=a.ex;cases o with
 |nx Z'=>
  obtain⟨c,f⟩:=(q:h'.ob n=aA (.dD kvs)/\N Z' (h'.put n<|.aQ kvs));have g:eM F (.wW t (.aQ d) b) Z h = .ok (.nx Z') h':=by show M.bind (cU F (.aQ d) Z) _ h=_;simp only[M.bind,Ik hd ho];exact e
  show Wt (mD (aM F d) (eM F<|.wW t (.aQ d) b) Z) h N R B C;unfold Wt We;rw[(Oo (kv':=kvs) hd ho g c)];exact f
 |_=>exact(q).elim
theorem fz{cs:Ia}{f:Str}{fs:Yf}(ho:aM F o Z h = .ok (.ref n) h)(e:h.ob n=aA (.ins c fs))(hc:cs.contains c=aB)(l:fs.lookup f=aA v):aM F (.lK cs f o) Z h = .ok v h:=by show M.bind (aM F o Z) (uD cs f) h=_;simp only[M.bind,ho,uD,e,hc,l,if_true]
theorem jm(e:Z[i]?=aA (aA v)):aM F (.var i) Z h = .ok v h:=by show uG i Z h=_;simp only[uG,e]
theorem aPs{bs:Yt}(e:h.ob n=aA (.lst b<|bs.map AV.bl))(q:V1 (.bl<|bs.any id) h):We (Kc.any.g<|.ref n) h V1:=by unfold We Kc.g;simp only[e,Kc.gl,Vz];exact q
theorem aQq{r:Bool}(e:h.ob n=aA (.lst b<|ns.map AV.int))(hn:ns.length<64)(q:V1 (.ref h.nx) (h.new<|.lst aB<|(jX r ns).map AV.int)):We ((Kc.srt r).g (.ref n)) h V1:=by unfold We Kc.g;simp only[e,Kc.gl,zz,if_pos hn];exact q
theorem aLj(hi:ns.Pairwise (·<·)):jX aB ns=ns.reverse:=by refine(Cd (List.reverse_perm ns) ?_).symm;show KR (λa b=>a ≥ b) ns.reverse;rw[List.pairwise_reverse];exact hi.imp λh=>by lia
theorem aQh(e:h.ob n=aA (.lst b<|ns.map AV.int))(q:V1 (if ns.isEmpty then .aE else .int (sL ns)) h):We (Kc.Am.g<|.ref n) h V1:=by unfold We Kc.g;simp only[e,Kc.gl,zz];exact q
theorem aQp(e:h.ob n=aA (.lst b<|ns.map AV.int))(hn:ns.length<64)(q:V1 (.ref h.nx) (h.new<|.lst aB<|(jX aH ns).map AV.int)):We (Kc.sd.g<|.ref n) h V1:=by unfold We Kc.g;simp only[e,Kc.gl,zz,if_pos hn];exact q
end
def aF(b:Bool)(A B:Prop):Prop:=match b with
 |true=>A
 |false=>B
theorem aF.ite{A B:Prop}(w:aF b A B):if b=aB then A else B:=by
 cases b with
 |true=>exact w|false=>exact w
theorem aF.mp{A B A' B':Prop}(w:aF b A B)(f:A->A')(g:B->B'):aF b A' B':=by
 cases b with
 |true=>exact f w|false=>exact g w
theorem aF.t{A B:Prop}(e:b=aB)(q:A):aF b A B:=by rw[e];exact q
theorem aF.f{A B:Prop}(e:b=aH)(q:B):aF b A B:=by rw[e];exact q
theorem aF.dt{c:Prop} [Decidable c] {A B:Prop}(e:c)(q:A):aF (decide c) A B:=aF.t (decide_eq_true e) q
theorem aF.df{c:Prop} [Decidable c] {A B:Prop}(e:¬c)(q:B):aF (decide c) A B:=aF.f (decide_eq_false e) q
theorem aF.nt{c:Prop} [Decidable c] {A B:Prop}(e:c)(q:B):aF (!decide c) A B:=aF.f (by rw[decide_eq_true e];rfl) q
theorem aF.nf{c:Prop} [Decidable c] {A B:Prop}(e:¬c)(q:A):aF (!decide c) A B:=aF.t (by rw[decide_eq_false e];rfl) q
theorem aF.dc{c:Prop} [Decidable c] {A B:Prop}(t:c->A)(f:¬c->B):aF (decide c) A B:=by
 by_cases z:c
 .exact aF.dt z<|t z
 .exact aF.df z<|f z
theorem aF.nd{c:Prop} [Decidable c] {A B:Prop}(t:¬c->A)(f:c->B):aF (!decide c) A B:=by
 by_cases z:c
 .exact aF.nt z<|f z
 .exact aF.nf z<|t z
theorem aF.by{b:Bool}{A B:Prop}(t:b=aB->A)(f:b=aH->B):aF b A B:=by
 cases b with
 |true=>exact t rfl|false=>exact f rfl
@[irreducible] def WC {α:Type} (m:M α) (h:AH) (Q:α->AH->Prop):Prop:=We m h Q
theorem WC.of{α:Type}{m:M α}{Q:α->AH->Prop}(w:We m h Q):WC m h Q:=by unfold WC;exact w
theorem WC.we{α:Type}{m:M α}{Q:α->AH->Prop}(w:WC m h Q):We m h Q:=by unfold WC at w;exact w
@[irreducible] def WB (m:M Out) (h:AH) (N:aG->AH->Prop) (R:AV->AH->Prop) (B C:aG->AH->Prop):Prop:=Wt m h N R B C
theorem WB.of{m:M Out}{B:aG->AH->Prop}(w:Wt m h N R B C):WB m h N R B C:=by unfold WB;exact w
theorem WB.wt{m:M Out}{B:aG->AH->Prop}(w:WB m h N R B C):Wt m h N R B C:=by unfold WB at w;exact w
def aC{α:Type}(o:Option α)(K:α->Prop):Prop:=match o with
 |some v=>K v
 |none=>False
theorem aC.of{α:Type}{o:Option α}{K:α->Prop}{v:α}(e:o=aA v)(q:K v):aC o K:=by rw[e];exact q
def zQ:AV->Hs
 |.int i=>aA i
 |_=>aD
def Ph(o:Op)(x y:AV)(h:AH)(Q:AV->AH->Prop):Prop:=match o with
 |.add=>match x,y with
  |.int i,.int j=>Q (.int<|i+j) h
  |x,y=>WC (Op.g .add x y) h Q
 |.sub=>match x,y with
  |.int i,.int j=>Q (.int<|i-j) h
  |x,y=>WC (Op.g .sub x y) h Q
 |.mod=>match x,y with
  |.int i,.int j=>aF (decide<|0<j) (Q (.int<|i%j) h) False
  |x,y=>WC (Op.g .mod x y) h Q
 |.fdiv=>match x,y with
  |.int i,.int j=>aF (pV j) (Q (.int<|i / j) h) False
  |x,y=>WC (Op.g .fdiv x y) h Q
 |.mul=>match x,y with
  |.int i,.int j=>aF (qO i j) (Q (.int<|i*j) h) False
  |x,y=>WC (Op.g .mul x y) h Q
 |.ix=>match x,y with
  |.tup xs,.int i=>aC (cH xs i) λv=>Q v h
  |x,y=>WC (Op.g .ix x y) h Q
 |o=>WC (o.g x y) h Q
def ba(o:Cp)(x y:AV)(h:AH)(Q:AV->AH->Prop):Prop:=match o with
 |.lt=>match x,y with
  |.int i,.int j=>Q (.bl<|decide<|i<j) h
  |x,y=>WC (Cp.g .lt x y) h Q
 |.le=>match x,y with
  |.int i,.int j=>Q (.bl<|decide<|i<=j) h
  |x,y=>WC (Cp.g .le x y) h Q
 |.gt=>match x,y with
  |.int i,.int j=>Q (.bl<|decide<|j<i) h
  |x,y=>WC (Cp.g .gt x y) h Q
 |.ge=>match x,y with
  |.int i,.int j=>Q (.bl<|decide<|j<=i) h
  |x,y=>WC (Cp.g .ge x y) h Q
 |.eq=>match x,y with
  |.int i,.int j=>Q (.bl<|decide<|i=j) h
  |.str i,.str j=>Q (.bl<|decide<|i=j) h
  |x,y=>WC (Cp.g .eq x y) h Q
 |.ne=>match x,y with
  |.int i,.int j=>Q (.bl<|!decide (i=j)) h
  |.str i,.str j=>Q (.bl<|!decide (i=j)) h
  |x,y=>WC (Cp.g .ne x y) h Q
 |.gp=>match y with
  |.aE=>Q (.bl<|fO x) h
  |y=>WC (Cp.g .gp x y) h Q
 |.isn=>match y with
  |.aE=>Q (.bl<|!fO x) h
  |y=>WC (Cp.g .isn x y) h Q
 |o=>WC (o.g x y) h Q
def vD(x:AV)(h:AH)(Q:Bool->AH->Prop):Prop:=match x with
 |.bl b=>Q b h
 |.int i=>Q (i != 0) h
 |x=>WC (dH x) h Q
def Cq(f:Bi)(xs:Ht)(h:AH)(Q:AV->AH->Prop):Prop:=match f with
 |.len=>match xs with
  |[.tup ys]=>Q (.int ys.length) h
  |xs=>WC (Bi.g .len xs) h Q
 |.int=>match xs with
  |[.int i]=>Q (.int i) h
  |[.bl b]=>Q (.int<|if b then 1 else 0) h
  |xs=>WC (Bi.g .int xs) h Q
 |.min=>match xs with
  |[.int i,.int j]=>Q (.int<|if j<i then j else i) h
  |xs=>WC (Bi.g .min xs) h Q
 |.max=>match xs with
  |[.int i,.int j]=>Q (.int<|if j > i then j else i) h
  |xs=>WC (Bi.g .max xs) h Q
 |.tuple=>match xs with
  |[.tup ys]=>Q (.tup ys) h
  |xs=>WC (Bi.g .tuple xs) h Q
 |f=>WC (f.g xs) h Q
def IU(x:AV)(h:AH)(Q:AV->AH->Prop):Prop:=match x with
 |.int i=>Q (.int<|-i) h
 |x=>WC (qj x) h Q
def hJ(x:AV)(h:AH)(K:Nat->Nat->Yf->Prop):Prop:=match x with
 |.ref n=>aC (h.ob n) λo=>match o with
  |.ins c fs=>K n c fs
  |_=>False
 |_=>False
mutual
noncomputable def wE(F:Run):Ex->aG->AH->(AV->AH->Prop)->Prop
 |.var i,Z,h,Q=>aC Z[i]? λo=>aC o λv=>Q v h
 |.val v,_,h,Q=>Q v h
 |.op o a b,Z,h,Q=>wE F a Z h λx h1=>wE F b Z h1 λy h2=>Ph o x y h2 Q
 |.cmp o a b,Z,h,Q=>wE F a Z h λx h1=>wE F b Z h1 λy h2=>ba o x y h2 Q
 |.neg a,Z,h,Q=>wE F a Z h λx h1=>IU x h1 Q
 |.not a,Z,h,Q=>wE F a Z h λx h1=>vD x h1 λb h2=>Q (.bl<|!b) h2
 |.and a b,Z,h,Q=>wE F a Z h λx h1=>vD x h1 λt h2=>aF t (wE F b Z h2 Q) (Q x h2)
 |.or a b,Z,h,Q=>wE F a Z h λx h1=>vD x h1 λt h2=>aF t (Q x h2) (wE F b Z h2 Q)
 |.ite c a b,Z,h,Q=>wT F c Z h λt h1=>aF t (wE F a Z h1 Q) (wE F b Z h1 Q)
 |.tup es,Z,h,Q=>oH F es Z h λxs h1=>aF (Ro xs.length 64) (Q (.tup xs) h1) False
 |.lst es,Z,h,Q=>oH F es Z h λxs h1=>aF (Ro xs.length 64) (Q (.ref h1.nx)<|h1.new<|.lst aB xs) False
 |.call f es,Z,h,Q=>oH F es Z h λxs h1=>WC (F f xs) h1 Q
 |.bi f es,Z,h,Q=>oH F es Z h λxs h1=>Cq f xs h1 Q
 |.qG t a,Z,h,Q=>wE F a Z h λx h1=>aC (tS h1 x) λs=>Q (.bl<|s.sub t) h1
 |.chain o o' a b c,Z,h,Q=>wE F a Z h λx h1=>wE F b Z h1 λy h2=>ba o x y h2 λz h3=>aC (rV z) λt=>aF t (wE F c Z h3 λu h4=>ba o' y u h4 Q) (Q (.bl aH) h3)
 |.app o a,Z,h,Q=>wE F o Z h λx h1=>aF (zS h1 x) (wE F a Z h1 λy h2=>WC (uC x y) h2 Q) False
 |.lK cs f o,Z,h,Q=>wE F o Z h λx h1=>hJ x h1 λ_ c fs=>aF (cs.contains c) (aC (fs.lookup f) λv=>Q v h1) False
 |.qN m dp o es,Z,h,Q=>wE F o Z h λx h1=>hJ x h1 λn c fs=>aC (dp.lookup c) λi=>aF (fs.lookup m).isNone (oH F es Z h1 λxs h2=>WC (F i<|.ref n::xs) h2 Q) False
 |.make c i dv es,Z,h,Q=>oH F es Z h λxs h1=>WC (F i<|.ref h1.nx::(xs++dv)) (h1.new<|.ins c []) λv h2=>v = .aE/\Q (.ref h1.nx) h2
 |.fh i es,Z,h,Q=>oH F es Z h λxs h1=>WC (F i xs) h1 Q
 |.ot,_,h,Q=>Q (.ref h.nx) (h.new<|.aQ [])
 |.dm f o es,Z,h,Q=>wE F o Z h λx h1=>aF (gM h1 x).isSome (oH F es Z h1 λxs h2=>WC (f.g x xs) h2 Q) False
 |.kc k a,Z,h,Q=>wE F a Z h λx h1=>WC (k.g x) h1 Q
 |e,Z,h,Q=>WC (aM F e Z) h Q
noncomputable def wT(F:Run):Ex->aG->AH->(Bool->AH->Prop)->Prop
 |.var i,Z,h,Q=>aC Z[i]? λo=>aC o λv=>vD v h Q
 |.cmp o a b,Z,h,Q=>wE F a Z h λx h1=>wE F b Z h1 λy h2=>ba o x y h2 λz h3=>aC (rV z) λt=>Q t h3
 |.not a,Z,h,Q=>wT F a Z h λb h1=>Q (!b) h1
 |.and a b,Z,h,Q=>wT F a Z h λt h1=>aF t (wT F b Z h1 Q) (Q aH h1)
 |.or a b,Z,h,Q=>wT F a Z h λt h1=>aF t (Q aB h1) (wT F b Z h1 Q)
 |.chain o o' a b c,Z,h,Q=>wE F a Z h λx h1=>wE F b Z h1 λy h2=>ba o x y h2 λz h3=>aC (rV z) λt=>aF t (wE F c Z h3 λu h4=>ba o' y u h4 λz h5=>aC (rV z) λt=>Q t h5) (Q aH h3)
 |.call f es,Z,h,Q=>oH F es Z h λxs h1=>WC (F f xs) h1 λv h2=>vD v h2 Q
 |.qG t a,Z,h,Q=>wE F a Z h λx h1=>aC (tS h1 x) λs=>Q (s.sub t) h1
 |.lK cs f o,Z,h,Q=>wE F o Z h λx h1=>hJ x h1 λ_ c fs=>aF (cs.contains c) (aC (fs.lookup f) λv=>vD v h1 Q) False
 |.qN m dp o es,Z,h,Q=>wE F o Z h λx h1=>hJ x h1 λn c fs=>aC (dp.lookup c) λi=>aF (fs.lookup m).isNone (oH F es Z h1 λxs h2=>WC (F i<|.ref n::xs) h2 λv h3=>vD v h3 Q) False
 |.kc k a,Z,h,Q=>wE F a Z h λx h1=>WC (k.g x) h1 λv h3=>vD v h3 Q
 |e,Z,h,Q=>WC (dR F e Z) h Q
noncomputable def oH(F:Run):eP->aG->AH->(Ht->AH->Prop)->Prop
 |.nil,_,h,Q=>Q [] h
 |.cons e es,Z,h,Q=>wE F e Z h λx h1=>oH F es Z h1 λxs h2=>Q (x::xs) h2
end
mutual
noncomputable def wA(F:Run):Tg->AV->aG->AH->(aG->AH->Prop)->Prop
 |.nm i,v,Z,h,K=>K (Z.set i<|aA v) h
 |.tup n ts,v,Z,h,K=>aC (dW h v) λxs=>aF (decide<|xs.length=n) (Pf F ts xs Z h K) False
 |.sub o i,v,Z,h,K=>wE F o Z h λx h1=>wE F i Z h1 λy h2=>WC (nZ x y v) h2 λ_ h3=>K Z h3
 |t,v,Z,h,K=>WC (oV F t v Z) h K
noncomputable def Pf(F:Run):vY->Ht->aG->AH->(aG->AH->Prop)->Prop
 |.nil,[],Z,h,K=>K Z h
 |.nil,_::_,_,_,_=>False
 |.cons _ _,[],_,_,_=>False
 |.cons t ts,v::vs,Z,h,K=>wA F t v Z h λZ1 h1=>Pf F ts vs Z1 h1 K
end
mutual
noncomputable def wS(F:Run):Sx->aG->AH->(aG->AH->Prop)->(AV->AH->Prop)->(aG->AH->Prop)->(aG->AH->Prop)->Prop
 |.pass,Z,h,N,_,_,_=>N Z h
 |.brk,Z,h,_,_,B,_=>B Z h
 |.cnt,Z,h,_,_,_,C=>C Z h
 |.Bm,_,h,_,R,_,_=>R .aE h
 |.expr e,Z,h,N,_,_,_=>wE F e Z h λ_ h1=>N Z h1
 |.ret e,Z,h,_,R,_,_=>wE F e Z h R
 |.asg t e,Z,h,N,_,_,_=>wE F e Z h λv h1=>wA F t v Z h1 N
 |.ite c a b,Z,h,N,R,B,C=>wT F c Z h λt h1=>aF t (dY F a Z h1 N R B C) (dY F b Z h1 N R B C)
 |.gc cs f o e,Z,h,N,_,_,_=>wE F e Z h λv h1=>wE F o Z h1 λx h2=>hJ x h2 λn c fs=>aF (cs.contains c) (aF (decide<|fs.length<1000) (N Z<|h2.put n<|.ins c<|gC f v fs) False) False
 |.pf cs f o e,Z,h,N,_,_,_=>wE F o Z h λx h1=>hJ x h1 λn c fs=>aF (cs.contains c) (aC (fs.lookup f) λv=>aC (zQ v) λi=>wE F e Z h1 λy h2=>aC (zQ y) λj=>hJ (.ref n) h2 λ_ c' fs2=>aF (decide<|c'=c) (aF (decide<|fs2.length<1000) (N Z<|h2.put n<|.ins c<|gC f (.int<|i+j) fs2) False) False) False
 |.aug sub i e,Z,h,N,_,_,_=>aC Z[i]? λo=>aC o λv=>aC (zQ v) λa=>wE F e Z h λy h1=>aC (zQ y) λj=>N (Z.set i<|aA<|.int<|if sub=aB then a-j else a+j) h1
 |.par is es,Z,h,N,_,_,_=>oH F es Z h λvs h1=>aF (decide<|vs.length=is.length) (N (Br is vs Z) h1) False
 |s,Z,h,N,R,B,C=>WB (eM F s Z) h N R B C
noncomputable def dY(F:Run):aR->aG->AH->(aG->AH->Prop)->(AV->AH->Prop)->(aG->AH->Prop)->(aG->AH->Prop)->Prop
 |.nil,Z,h,N,_,_,_=>N Z h
 |.cons s ss,Z,h,N,R,B,C=>wS F s Z h (λZ1 h1=>dY F ss Z1 h1 N R B C) R B C
end
section
variable {F:Run}
theorem vg{i:Int}{Q:Unit->AH->Prop}(e:h.ob n=aA (.lst aB xs))(hi:iI xs.length i=aA j)(q:Q () (h.put n<|.lst aB<|xs.set j v)):WC (nZ (.ref n) (.int i) v) h Q:=by refine WC.of ?_;have a:gM h (.ref n)=aD:=Bq (xs:=xs) (by simp only[dW,e]);unfold We nZ;simp only[a];unfold qC;simp only[e,hi];exact q
theorem tB{k:aN}{Q:Unit->AH->Prop}(e:h.ob n=aA (.aQ kvs))(hk:fP y=aA k)(hl:kvs.length<sizeLine)(q:Q () (h.put n<|.aQ<|gZ kvs k v)):WC (nZ (.ref n) y v) h Q:=by refine WC.of ?_;unfold We nZ;simp only[wO e,hk,if_pos hl];exact q
theorem qF(e:h.ob n=aA (.aQ kvs)):(gM h<|.ref n).isSome=aB:=by rw[wO e];rfl
theorem aC.ex{α:Type}{o:Option α}{K:α->Prop}(w:aC o K):∃v,o=aA v/\K v:=by
 cases o with
 |some v=>exact⟨v,rfl,w⟩|none=>cases w
theorem aF.an{A:Prop}(w:aF b A False):b=aB/\A:=by
 cases b with
 |true=>exact⟨rfl,w⟩|false=>cases w
theorem aF.len{c:Prop} [Decidable c] {A:Prop}(w:aF (decide c) A False):c/\A:=⟨of_decide_eq_true (aF.an w).1,(aF.an w).2⟩
theorem BY(h:Ro n 64=aB):n<=sizeLine:=cD (Rr h) (by decide)
theorem aPi{o:Op}(w:Ph o x y h Q):We (o.g x y) h Q:=by
 cases o with
 |add=>cases x<;>first|exact WC.we w|(cases y<;>first|exact WC.we w|exact aPr w)
 |sub=>cases x<;>first|exact WC.we w|(cases y<;>first|exact WC.we w|exact aQr w)
 |mod=>cases x<;>first|exact WC.we w|(cases y<;>first|exact WC.we w|exact aQi (aF.len w).1 (aF.len w).2)
 |fdiv=>cases x<;>first|exact WC.we w|(cases y<;>first|exact WC.we w|exact aPz (aF.an w).1 (aF.an w).2)
 |mul=>cases x<;>first|exact WC.we w|(cases y<;>first|exact WC.we w|exact aQj (aF.an w).1 (aF.an w).2)
 |ix=>cases x<;>first|exact WC.we w|(cases y<;>first|exact WC.we w|(obtain⟨v,e,q⟩:=aC.ex w;exact eJ rfl e q))
 |_=>exact WC.we w
theorem jn{o:Cp}(w:ba o x y h Q):We (o.g x y) h Q:=by
 cases o with
 |lt=>cases x<;>first|exact WC.we w|(cases y<;>first|exact WC.we w|exact aQf w)
 |le=>cases x<;>first|exact WC.we w|(cases y<;>first|exact WC.we w|exact aQe w)
 |gt=>cases x<;>first|exact WC.we w|(cases y<;>first|exact WC.we w|exact aQb w)
 |ge=>cases x<;>first|exact WC.we w|(cases y<;>first|exact WC.we w|exact aQa w)
 |eq=>cases x<;>first|exact WC.we w|(cases y<;>first|exact WC.we w|exact aPx w|exact aPy w)
 |ne=>cases x<;>first|exact WC.we w|(cases y<;>first|exact WC.we w|exact aQl w|exact aQm w)
 |gp=>cases y<;>first|exact WC.we w|exact aQc w
 |isn=>cases y<;>first|exact WC.we w|exact aQd w
 |_=>exact WC.we w
theorem xK{Q:Bool->AH->Prop}(w:vD x h Q):We (dH x) h Q:=by cases x<;>first|exact WC.we w|exact w
theorem aPh(w:IU x h Q):We (qj x) h Q:=by cases x<;>first|exact WC.we w|exact w
theorem aPg{f:Bi}(w:Cq f xs h Q):We (f.g xs) h Q:=by
 unfold Cq at w;split at w
 .split at w
  .exact fR rfl w
  .exact WC.we w
 .split at w
  .exact w
  .exact w
  .exact WC.we w
 .split at w
  .exact w
  .exact WC.we w
 .split at w
  .exact w
  .exact WC.we w
 .split at w
  .exact rF rfl w
  .exact WC.we w
 .exact WC.we w
theorem xv{m:M AV}{Q:Bool->AH->Prop}(w:We m h λz h1=>aC (rV z) λt=>Q t h1):We m h λz h1=>∃t,z = .bl t/\Q t h1:=w.mono λz h1 w=>by obtain⟨t,e,q⟩:=aC.ex w;cases z<;>cases e;exact⟨_,rfl,q⟩
theorem hJ.ex{x:AV}{h:AH}{K:Nat->Nat->Yf->Prop}(w:hJ x h K):∃n c fs,x = .ref n/\h.ob n=aA (.ins c fs)/\K n c fs:=by
 unfold hJ at w;split at w
 .obtain⟨o,e,w⟩:=aC.ex w;split at w
  .exact⟨_,_,_,rfl,e,w⟩
  .cases w
 .cases w
theorem CB{fs:Yf}(h:(fs.lookup m).isNone=aB):fs.lookup m=aD:=by
 cases e:fs.lookup m with
 |none=>rfl|some v=>rw[e]at h;cases h
mutual
theorem cF(e:Ex):∀{Z:aG}{h:AH}{Q:AV->AH->Prop},wE F e Z h Q->We (aM F e Z) h Q:=by
 intro Z h Q w;cases e with
 |var i=>obtain⟨o,e1,w⟩:=aC.ex w;obtain⟨v,e2,w⟩:=aC.ex w;subst e2;exact De e1 w
 |val v=>exact w|op o a b=>exact aRo<|(cF a w).mono λx h1 w=>(cF b w).mono λy h2 w=>aPi w|cmp o a b=>exact aRg<|(cF a w).mono λx h1 w=>(cF b w).mono λy h2 w=>jn w|neg a=>exact aRm<|(cF a w).mono λx h1 w=>aPh w|not a=>exact aRn<|(cF a w).mono λx h1 w=>xK w|and a b=>exact aRc<|(cF a w).mono λx h1 w=>(xK w).mono λt h2 w=>aF.ite (w.mp (cF b) id)|or a b=>exact aRp<|(cF a w).mono λx h1 w=>(xK w).mono λt h2 w=>aF.ite (w.mp id<|cF b)|ite c a b=>exact aRj<|(jN c w).mono λt h1 w=>aF.ite (w.mp (cF a)<|cF b)|tup es=>exact aRx<|(oJ es w).mono λxs h1 w=>⟨BY (aF.an w).1,(aF.an w).2⟩|lst es=>exact aRk<|(oJ es w).mono λxs h1 w=>⟨BY (aF.an w).1,(aF.an w).2⟩|call f es=>exact JR<|(oJ es w).mono λxs h1 w=>w.we|bi f es=>exact aRe<|(oJ es w).mono λxs h1 w=>aPg w|qG t a=>exact JV ((cF a w).mono λx h1 w=>by obtain⟨s,e,w⟩:=aC.ex w;exact JG e w)
 |chain o o' a b c=>exact JS<|(cF a w).mono λx h1 w=>(cF b w).mono λy h2 w=>xv ((jn w).mono λz h3 w=>by obtain⟨t,e,w⟩:=aC.ex w;exact aC.of e<|aF.ite<|w.mp (λw=>(cF c w).mono λu h4 w=>jn w) id)
 |app o a=>exact aRd<|(cF o w).mono λx h1 w=>⟨(aF.an w).1,(cF a (aF.an w).2).mono λy h2 w=>w.we⟩|lK cs f o=>exact JU ((cF o w).mono λx h1 w=>by obtain⟨n,c,fs,rfl,e,w⟩:=hJ.ex w;obtain⟨hc,w⟩:=aF.an w;obtain⟨v,l,w⟩:=aC.ex w;exact JF e hc l w)
 |qN m dp o es=>exact JW ((cF o w).mono λx h1 w=>by obtain⟨n,c,fs,rfl,e,w⟩:=hJ.ex w;obtain⟨i,l,w⟩:=aC.ex w;obtain⟨hm,w⟩:=aF.an w;exact⟨n,c,fs,i,rfl,e,l,CB hm,(oJ es w).mono λxs h2 w=>w.we⟩)
 |make c i dv es=>exact aRl<|(oJ es w).mono λxs h1 w=>w.we|fh i es=>exact aRf<|(oJ es w).mono λxs h1 w=>w.we|ot=>exact w|dm f o es=>exact aRh<|(cF o w).mono λx h1 w=>⟨(aF.an w).1,(oJ es (aF.an w).2).mono λxs h2 w=>w.we⟩|kc k a=>exact bM<|(cF a w).mono λx h1 w=>w.we|_=>exact WC.we w
theorem jN(e:Ex):∀{Z:aG}{h:AH}{Q:Bool->AH->Prop},wT F e Z h Q->We (dR F e Z) h Q:=by
 intro Z h Q w;cases e with
 |var i=>obtain⟨o,e1,w⟩:=aC.ex w;obtain⟨v,e2,w⟩:=aC.ex w;subst e2;exact aSs<|De e1<|xK w
 |cmp o a b=>exact aSm<|(cF a w).mono λx h1 w=>(cF b w).mono λy h2 w=>xv (jn w)|not a=>exact aSq<|jN a w|and a b=>exact aSj<|(jN a w).mono λt h1 w=>aF.ite (w.mp (jN b) id)|or a b=>exact aSr<|(jN a w).mono λt h1 w=>aF.ite (w.mp id<|jN b)|chain o o' a b c=>exact aSl<|JS<|(cF a w).mono λx h1 w=>(cF b w).mono λy h2 w=>xv ((jn w).mono λz h3 w=>by obtain⟨t,e,w⟩:=aC.ex w;exact aC.of e<|aF.ite<|w.mp (λw=>(cF c w).mono λu h4 w=>xv (jn w)) λw=>⟨_,rfl,w⟩)
 |call f es=>exact aSk<|JR<|(oJ es w).mono λxs h1 w=>w.we.mono λv h2 w=>xK w|qG t a=>exact aSo<|JV ((cF a w).mono λx h1 w=>by obtain⟨s,e,w⟩:=aC.ex w;exact JG e w)
 |lK cs f o=>exact aSn<|JU ((cF o w).mono λx h1 w=>by obtain⟨n,c,fs,rfl,e,w⟩:=hJ.ex w;obtain⟨hc,w⟩:=aF.an w;obtain⟨v,l,w⟩:=aC.ex w;exact JF e hc l<|xK w)
 |qN m dp o es=>exact aSp<|JW ((cF o w).mono λx h1 w=>by obtain⟨n,c,fs,rfl,e,w⟩:=hJ.ex w;obtain⟨i,l,w⟩:=aC.ex w;obtain⟨hm,w⟩:=aF.an w;exact⟨n,c,fs,i,rfl,e,l,CB hm,(oJ es w).mono λxs h2 w=>w.we.mono λv h3 w=>xK w⟩)
 |kc k a=>exact bM<|bM<|(cF a w).mono λx h1 w=>w.we.mono λv h3 w=>xK w|_=>exact WC.we w
theorem oJ(es:eP):∀{Z:aG}{h:AH}{Q:Ht->AH->Prop},oH F es Z h Q->We (dS F es Z) h Q:=by
 intro Z h Q w;cases es with
 |nil=>exact w|cons e es=>exact JX<|(cF e w).mono λx h1 w=>oJ es w
end
mutual
theorem jY(t:Tg):∀{v:AV}{Z:aG}{h:AH}{K:aG->AH->Prop},wA F t v Z h K->We (oV F t v Z) h K:=by
 intro v Z h K w;cases t with
 |nm i=>exact w|tup n a=>obtain⟨xs,e,w⟩:=aC.ex w;exact aPm e (aF.len w).1 (IT a (aF.len w).2)
 |sub o i=>exact bM<|(cF o w).mono λx h1 w=>bM ((cF i w).mono λy b w=>bM (w.we.mono λ_ c q=>q))|_=>exact WC.we w
theorem IT(ts:vY):∀{vs:Ht}{Z:aG}{h:AH}{K:aG->AH->Prop},Pf F ts vs Z h K->We (vZ F ts vs Z) h K:=by
 intro vs Z h K w;cases ts with
 |nil=>
  cases vs with
  |nil=>exact w|cons=>exact w.elim
 |cons t ts=>
  cases vs with
  |nil=>exact w.elim|cons v vs=>exact aPk<|(jY t w).mono λa h1 w=>IT ts w
end
mutual
theorem aPj(s:Sx):∀{Z:aG}{h:AH}{N:aG->AH->Prop}{R:AV->AH->Prop}{B C:aG->AH->Prop},wS F s Z h N R B C->Wt (eM F s Z) h N R B C:=by
 intro Z h N R B C w;cases s with
 |pass=>exact w|brk=>exact w|cnt=>exact w|Bm=>exact w|expr e=>exact aSc<|cF e w|ret e=>exact aSh<|cF e w|asg t e=>exact aRz<|(cF e w).mono λv h1 w=>jY t w|ite c a b=>exact aSf<|(jN c w).mono λt h1 w=>aF.ite (w.mp (fW a)<|fW b)|gc cs f o e=>exact aSe ((cF e w).mono λv h1 w=>(cF o w).mono λx q w=>by obtain⟨n,c,fs,rfl,e,w⟩:=hJ.ex w;obtain⟨d,w⟩:=aF.an w;obtain⟨hl,w⟩:=aF.len w;exact⟨n,c,fs,rfl,e,d,hl,w⟩)
 |pf cs f o e=>exact aSd ((cF o w).mono λx h1 w=>by
   obtain⟨n,c,fs,rfl,g,r⟩:=hJ.ex w;obtain⟨d,u⟩:=aF.an r;obtain⟨v,k,z⟩:=aC.ex u;obtain⟨i,l,A⟩:=aC.ex z;have ev:v = .int i:=by cases v<;>cases l;rfl
   refine⟨n,c,fs,i,rfl,g,d,by rw[k,ev],(cF e A).mono λy q D=>?_⟩;obtain⟨j,m,E⟩:=aC.ex D;have G:y = .int j:=by cases y<;>cases m;rfl
   obtain⟨O,P,p,H,I,J⟩:=hJ.ex E;cases H;obtain⟨K,L⟩:=aF.len J;obtain⟨hl,w⟩:=aF.len L;subst K;exact⟨j,p,G,I,hl,w⟩)
 |aug sub i e=>
  obtain⟨o,g,w⟩:=aC.ex w;obtain⟨v,k,w⟩:=aC.ex w;obtain⟨a,l,w⟩:=aC.ex w;subst k;cases v<;>cases l;exact aSa g ((cF e w).mono λy h1 w=>by obtain⟨j,m,w⟩:=aC.ex w;cases y<;>cases m;exact⟨_,rfl,w⟩)
 |par is M=>exact aSg<|(oJ M w).mono λQ h1 w=>aF.len w|_=>exact WB.wt w
theorem fW(ss:aR):∀{Z:aG}{h:AH}{N:aG->AH->Prop}{R:AV->AH->Prop}{B C:aG->AH->Prop},dY F ss Z h N R B C->Wt (jS F ss Z) h N R B C:=by
 intro Z h N R B C w;cases ss with
 |nil=>exact w|cons s ss=>
  refine aSb<|(aPj s w).mono λo h1 w=>?_;cases o with
  |nx Z=>exact fW ss w|ret v=>exact w|brk Z=>exact w|cnt Z=>exact w
end
end
def Cr(F:Run)(e:Ex)(Z:aG)(h:AH)(K:Hs->AH->Prop):Prop:=match e with
 |.no=>K aD h
 |e=>wE F e Z h λx h1=>aC (zQ x) λi=>K (aA i) h1
theorem IV{F:Run}{K:Hs->AH->Prop}(w:Cr F e Z h K):We (pD e<|aM F e Z) h K:=by
 unfold Cr at w;split at w
 .exact w
 .rename_i hn;have key:We (aM F e Z) h λx h1=>∃i,x = .int i/\K (aA i) h1:=(cF e w).mono λx h1 w=>by obtain⟨i,e,q⟩:=aC.ex w;cases x<;>cases e;exact⟨_,rfl,q⟩
  exact aRq (λm=>by unfold pD;split;exact absurd rfl hn;rfl) key
theorem bp{F:Run}{a lo hi:Ex}(w:wE F a Z h λx h1=>Cr F lo Z h1 λl h2=>Cr F hi Z h2 λu h3=>WC (qD x l u) h3 Q):WC (aM F (.slice a lo hi) Z) h Q:=
 WC.of (aRu<|(cF a w).mono λ_ _ w=>(IV w).mono λ_ _ w=>(IV w).mono λ_ _ w=>w.we)
theorem aRt{P:Pg}{k f np nn:Nat}{b:aR}{args:Ht}(e:P f=aA (np,nn,b))(hl:args.length=np)(w:dY (run P k) b (args.map aA++fA (nn-np) aD) h (λ_ h1=>R .aE h1) R (λ_ _=>False) (λ_ _=>False)):We (run P (k+1) f args) h R:=aRs e hl (fW b w)
section
variable {F:Run}{Q:gK->AH->Prop}
theorem E3{K:Int->Prop}(w:aC (zQ x) K):∃i,x = .int i/\K i:=by obtain⟨i,e,q⟩:=aC.ex w;cases x<;>cases e;exact⟨_,rfl,q⟩
theorem vd{a:Ex}(w:wE F a Z h λx h1=>aC (zQ x) λj=>xG j=aB/\Q (rC 0 j.toNat) h1):We (cU F (.Bn<|.cons a .nil) Z) h Q:=
 aQt (JX<|(cF a w).mono λx h1 w=>aRy (by obtain⟨j,rfl,w⟩:=E3 w;exact⟨j,rfl,w⟩))
theorem mS{a:Ex}(w:wE F a Z h λx h1=>We (zH x) h1 Q):We (cU F (.seq a) Z) h Q:=aQu (cF a w)
end
def gm:Yn->Addr->Bool
 |some (aA<|.ref a),f=>a==f
 |_,_=>aH
def Ac:Yn->Bool
 |some aD=>aB
 |_=>aH
def Jm:Yn->String->Bool
 |some (aA<|.builtin b),s=>b==s
 |_,_=>aH
theorem qw{o:Yn}{f:Addr}(h:gm o f=aB):o=aA (aA<|.ref f):=by
 unfold gm at h;split at h
 .rw[eq_of_beq h]
 .cases h
theorem AW{o:Yn}(h:Ac o=aB):o=aA aD:=by
 unfold Ac at h;split at h
 .rfl
 .cases h
theorem G0{o:Yn}{s:String}(h:Jm o s=aB):o=aA (aA<|.builtin s):=by
 unfold Jm at h;split at h
 .rw[eq_of_beq h]
 .cases h
def yb(K:bI)(C:Addr):Bool:=vz K C Str.empty&&Ei K C&&Su K C&&Jm (nO K (.ref C) "__setattr__") "object.__setattr__"
theorem Wr{K:bI}{C:Addr}(h:yb K C=aB):mW K C:=by unfold yb at h;rw[bQ,bQ,bQ]at h;exact⟨h.1.1.1,h.1.1.2,h.1.2,G0 h.2⟩
def pR(cs:Yq)(c:Nat):Addr:=(cs.lookup c).getD 0
def sy(K:bI)(p:Pr)(fG:Hy):Bool:=((p.defs.take p.yY).zip fG).all (λx=>gm (vN K iZ x.1.name) x.2)&&p.jD.all λx=>Ac (vN K iZ x)
def DH(K:bI)(p:Pr)(cs:Yq):Bool:=p.kU.all λx=>x.2.all λc=>(cs.lookup c).isSome&&yb K (pR cs c)&&Ac (nO K (.ref<|pR cs c) x.1)
def DJ(K:bI)(p:Pr)(fG:Hy)(cs:Yq):Bool:=p.nG.all λx=>x.2.all λy=>(cs.lookup y.1).isSome&&(p.defs[y.2]?).isSome&&yb K (pR cs y.1)&&gm (nO K (.ref<|pR cs y.1) x.1) (fG.getD y.2 0)&&vy K (.ref<|fG.getD y.2 0)
def DI(K:bI)(p:Pr)(fG:Hy)(cs:Yq):Bool:=p.mP.all λx=>(cs.lookup x.2.1).isSome&&(p.defs[x.2.2.1]?).isSome&&gm (vN K iZ x.1.1) (pR cs x.2.1)&&Sr K (pR cs x.2.1) &&
 gm (nO K (.ref<|pR cs x.2.1) "__init__") (fG.getD x.2.2.1 0)&&vy K (.ref<|fG.getD x.2.2.1 0)&&tL K (.ref<|pR cs x.2.1)
theorem xo{cs:Yq}(h:(cs.lookup c).isSome=aB):cs.lookup c=aA (pR cs c):=by
 unfold pR;cases e:cs.lookup c with
 |none=>rw[e]at h;cases h|some a=>rfl
theorem jA.len{K:bI}{fs:List eT}(h:jA K ds as fs):ds.length=as.length:=by
 induction h with
 |nil=>rfl|cons _ _ a=>rw[lA,lA,a]
theorem jA.one{K:bI}{nm qu:Str}{st:Stmt}{N ps:YX}{f:Addr}{oc dV kV doc pm cd ct:Value}{od an:Yu}{sl:Yr}{fs:List eT}
  (l:K.lookup f=aA ⟨oc,od,.func (ky nm qu (yh st) (fq st) (pU st) dV kV doc pm an cd ct),sl⟩)(c:Sm K cd qu=aB)(k:tL K (.ref f)=aB)
  (b:Binds K (ky nm qu (yh st) (fq st) (pU st) dV kV doc pm an cd ct) ps [])(s:mq N ps (pU st))(t:jA K ds as fs):jA K (⟨nm,qu,st,N,ps⟩::ds) (f::as) (ky nm qu (yh st) (fq st) (pU st) dV kV doc pm an cd ct::fs):=
 .cons ⟨⟨⟨_,_,_,_,_,_,_,_,_,_,rfl,l,c⟩,k⟩,b,s⟩ t
section
variable {P:cB}{w:bR}{K:bI}{h:bH}{mg:Str->Hz}{p:Pr}{fG:Hy}{fds:List eT}{cs:Yq}{G:Yh->Addr->Prop}{f0:eT}
theorem DK(X:K.In h)(N:h.Ns iZ mg)(D:jA K p.defs fG fds)(ok:sy K p fG=aB):∀(i:Nat) d,(p.defs.take p.yY)[i]?=aA d->mg d.name=aA (.ref<|fG.getD i 0):=λi d hd=>by
 unfold sy at ok;rw[bQ]at ok;have a:=(List.getElem?_eq_some_iff.mp hd).1;rw[lB,D.len]at a;have ha:fG[i]?=aA (fG.getD i 0):=by rw[Du,dZ (by lia)];rfl
 have hm:(d,fG.getD i 0)∈(p.defs.take p.yY).zip fG:=cM (by rw[LR];exact⟨hd,ha⟩);exact vM X N<|qw<|List.all_eq_true.mp ok.1 _ hm
theorem U2(X:K.In h)(N:h.Ns iZ mg)(ok:sy K p fG=aB):∀x,p.jD.contains x=aB->mg x=aD:=λx a=>by unfold sy at ok;rw[bQ]at ok;exact W.mg_none_of X N<|AW<|List.all_eq_true.mp ok.2 x<|List.contains_iff_mem.mp a
theorem T9(ok:DH K p cs=aB):∀f c,p.kU.lookup f=aA c->dz K ⟨K,G,λi=>cs.lookup i⟩ c f:=λf c a k C b d=>by have:=List.all_eq_true.mp (List.all_eq_true.mp ok _<|ro a) k (List.contains_iff_mem.mp b);rw[bQ,bQ]at this;have e:=xo this.1.1;have g:cs.lookup k=aA C:=d;rw[g]at e;rw[(eF e)];exact⟨Wr this.1.2,AW this.2⟩
theorem U1(D:jA K p.defs fG fds)(ok:DJ K p fG cs=aB):∀m dp,p.nG.lookup m=aA dp->∀c i,dp.lookup c=aA i->∃d C,p.defs[i]?=aA d/\cs.lookup c=aA C/\mW K C/\xf K C m (fG.getD i 0):=λm dp a c i b=>by have:=List.all_eq_true.mp (List.all_eq_true.mp ok _<|ro a) _ (ro b);rw[bQ,bQ,bQ,bQ]at this;obtain⟨⟨⟨⟨h1,e⟩,f⟩,g⟩,h⟩:=this;obtain⟨d,hd⟩:=Option.isSome_iff_exists.mp e;exact⟨d,_,hd,xo h1,Wr f,qw g,h,(jA.get D (f0:=default) i d hd).fn.kp⟩
theorem U0(X:K.In h)(N:h.Ns iZ mg)(D:jA K p.defs fG fds)(ok:DI K p fG cs=aB)
  (dv:∀x n c i dv,p.mP.lookup (x,n)=aA (c,i,dv)->dv≠[]->∃d ds dvs,p.defs[i]?=aA d/\Binds K (fds.getD i f0) d.ps ds/\Vals dvs ds/\∀Y H,bF ⟨K,G,λi=>cs.lookup i⟩ Y H dv dvs) :
  ∀x n c i dv,p.mP.lookup (x,n)=aA (c,i,dv)->∃d C ds dvs,p.defs[i]?=aA d/\cs.lookup c=aA C/\Mk K C (fG.getD i 0)/\mg x=aA (.ref C)/\Binds K (fds.getD i f0) d.ps ds/\Vals dvs ds/\∀Y H,bF ⟨K,G,λi=>cs.lookup i⟩ Y H dv dvs:=λx n c i v e=>by
 have:=List.all_eq_true.mp ok _ (ro e);rw[bQ,bQ,bQ,bQ,bQ,bQ]at this;obtain⟨⟨⟨⟨⟨⟨h1,j⟩,f⟩,k⟩,l⟩,m⟩,o⟩:=this;obtain⟨d,hd⟩:=Option.isSome_iff_exists.mp j;have mk:Mk K (pR cs c) (fG.getD i 0):=⟨k,qw l,m,o⟩;by_cases g:v=[]
 .subst g;exact⟨d,_,[],[],hd,xo h1,mk,vM X N (qw f),(jA.get D i d hd).bd,.nil,λ_ _=>.nil⟩
 .obtain⟨q,ds,dvs,a,b,s,r⟩:=dv x n c i v e g;exact⟨q,_,ds,dvs,a,xo h1,mk,vM X N (qw f),b,s,r⟩
end
end AM
namespace AMx
open PySem PySem.Spec PyProof.Rows L2 AM
def top(i:Nat):Stmt:=PySem.Challenge.pw_aheadmill_k36_window_of_one.main.body.getD i (.Pass ⟨0,0,0,0⟩)
def cb(i j:Nat):Stmt:=(WQ<|top i).getD j (.Pass ⟨0,0,0,0⟩)
section
local macro_rules|`(!($a,$i,[$p,*],[$l,*]))=>`(⟨$a,$a,top $i,[$p,*,$l,*],[$p,*]⟩)|`(!($a,$q,$i,$j,[$p,*],[$l,*]))=>`(⟨$a,$q,cb $i $j,[$p,*,$l,*],[$p,*]⟩)
def He:List Df:=[!("_wall",0,["k"],[]),!("word_of",11,["number"],[]),!("shared",12,["one","other"],[]),!("leaves_some",13,["places"],[]),!("moved_up",14,["one","places"],[]),!("moved_down",15,["one","places"],[]),!("worked",16,["way","one","other"],[]),!("wants",19,["row"],["kind"]),!("fills",20,["row"],["kind"]),!("group_of",21,["row"],[]),!("place_of",22,["row","words"],[]),!("goes",23,["row","at","words"],[]),!("fault_of",24,["row","words","room"],["kind","place"]),!("brought",25,["row","words","held"],["kind"]),!("made",26,["row","at","words","room","held"],["fault"]),!("fetch_all",28,["window","ledger"],["put"]),!("fetch",29,["window","ledger"],["slot"]),!("give_known",30,["window","slot","boxes"],["want","box","word"]),!("known_word",31,["giver","word"],[]),!("row_behind",32,["slot","guesser"],[]),!("in_memory",54,["place","memory"],[]),!("replaced",55,["words","number","word"],[]),!("behind",56,["stand","deed"],["box","place","word","after"]),!("take_off",59,["window","ledger"],["told","slot"]),!("take",60,["window","ledger","slot"],[]),!("note_memory",61,["window","ledger","slot"],[]),!("teach",62,["ledger","slot"],[]),!("was_near",63,["ledger","slot"],[]),!("finish_all",65,["window","ledger"],["ticket","slot"]),!("finish",66,["window","slot","room"],[]),!("give_word",67,["window","ticket","word"],["number","slot","want"]),!("start_all",68,["window","ledger"],["slot"]),!("start",69,["window","ledger","slot"],["group"]),!("take_word",70,["window","ledger","slot"],["place","found"]),!("or_plain",74,["guesser"],[]),!("_law_cell_at",76,["_law_script","_law_k"],[]),!("_law_number",77,["_law_cell","_law_k"],[]),!("_law_word_by",78,["_law_number_here"],["_law_kind","_law_part"]),!("_law_way_row",79,["_law_boxes","_law_part","_law_calm"],["_law_x","_law_y","_law_z","_law_ways","_law_way"]),!("_law_place_row",80,["_law_kind","_law_boxes","_law_part","_law_calm"],["_law_x","_law_y","_law_z"]),!("_law_turn_row",81,["_law_kind","_law_boxes","_law_part","_law_spot","_law_calm"],["_law_x","_law_y","_law_z","_law_k","_law_many","_law_target"]),!("_law_row",82,["_law_cell","_law_k","_law_many","_law_calm"],["_law_number_here","_law_boxes","_law_part","_law_kind"]),!("_law_late",83,["_law_cell","_law_k"],["_law_number_here"]),!("_law_program",84,["_law_cells","_law_calm"],["_law_rows","_law_k","_law_cell"]),!("_law_stand",85,["_law_cell","_law_other","_law_calm"],["_law_boxes","_law_most","_law_room","_law_memory"]),!("_law_worked",86,["_law_way","_law_one","_law_other"],[]),!("_law_place_deed",87,["_law_row_here","_law_at","_law_boxes","_law_memory"],["_law_place"]),!("_law_deed",88,["_law_row_here","_law_at","_law_boxes","_law_memory"],["_law_kind","_law_one","_law_other"]),!("_law_plain_run",89,["_law_program_here","_law_stand_here","_law_most"],["_law_at","_law_boxes","_law_memory","_law_deeds","_law_stands","_law_deed_here"]),!("_law_alike",90,["_law_found","_law_due_here"],["_law_one","_law_other"]),!("_law_table",91,["_law_cell","_law_most"],["_law_pairs","_law_k","_law_number_here"]),!("_law_guesser",92,["_law_cell","_law_script"],["_law_number_here","_law_part","_law_kind"]),!("_law_group",94,["_law_row_here"],[]),!("_law_wants",95,["_law_row_here"],[]),!("_law_until",96,["_law_turn","_law_last"],[]),!("_law_slip",97,["_law_k","_law_row_here","_law_deed_here","_law_filled","_law_times"],["_law_giver","_law_names"]),!("_law_due",98,["_law_program_here","_law_deeds","_law_table_here","_law_last"],["_law_filled","_law_slips","_law_turn","_law_k","_law_deed_here","_law_row_here","_law_late_here","_law_times"]),!("law",99,["_law_script"],["_law_calm","_law_program_here","_law_start","_law_deeds","_law_table_here","_law_guesser_here","_law_nerve","_law_mill","_law_last","_law_turn","_law_slips","_law_gone"]),!("__init__","Tally.__init__",35,0,["self","many","begin"],[]),!("likely","Tally.likely",35,1,["self","number"],[]),!("move","Tally.move",35,2,["self","number","up"],["place","level"]),!("__init__","Guesser.__init__",36,0,["self"],[]),!("guess","Guesser.guess",36,1,["self","at"],[]),!("heed","Guesser.heed",36,2,["self","at","came"],[]),!("learn","Guesser.learn",36,3,["self","at","came"],[]),!("lessons","Guesser.lessons",36,4,["self"],[]),!("guess","Always.guess",37,0,["self","at"],[]),!("__init__","Last.__init__",38,0,["self","first"],[]),!("guess","Last.guess",38,1,["self","at"],[]),!("heed","Last.heed",38,2,["self","at","came"],[]),!("__init__","Counts.__init__",39,0,["self","many","begin"],[]),!("guess","Counts.guess",39,1,["self","at"],[]),!("heed","Counts.heed",39,2,["self","at","came"],[]),!("__init__","Paths.__init__",40,0,["self","many","long"],[]),!("guess","Paths.guess",40,1,["self","at"],[]),!("heed","Paths.heed",40,2,["self","at","came"],["longer"]),!("__init__","Listed.__init__",41,0,["self","truths"],[]),!("guess","Listed.guess",41,1,["self","at"],[]),!("__init__","Turned.__init__",42,0,["self","one"],[]),!("guess","Turned.guess",42,1,["self","at"],[]),!("heed","Turned.heed",42,2,["self","at","came"],[]),!("__init__","Chosen.__init__",43,0,["self","one","other","many"],[]),!("guess","Chosen.guess",43,1,["self","at"],[]),!("heed","Chosen.heed",43,2,["self","at","came"],["second"]),!("__init__","Benches.__init__",45,0,["self","table"],[]),!("free","Benches.free",45,1,["self","group"],["there"]),!("start","Benches.start",45,2,["self","ticket","group","turn"],["due"]),!("done","Benches.done",45,3,["self","turn"],["tickets","ticket"]),!("busy","Benches.busy",45,4,["self"],[]),!("throw","Benches.throw",45,5,["self","ticket"],["tickets","other"]),!("__init__","Names.__init__",47,0,["self"],[]),!("fill","Names.fill",47,1,["self","ticket","box"],["other","giver"]),!("giver","Names.giver",47,2,["self","box"],["tickets"]),!("givers","Names.givers",47,3,["self","boxes"],[]),!("throw","Names.throw",47,4,["self","ticket"],["thrown","box","tickets"]),!("__init__","Shelf.__init__",49,0,["self"],[]),!("store","Shelf.store",49,1,["self","ticket"],[]),!("placed","Shelf.placed",49,2,["self","ticket","place"],["known"]),!("bitten","Shelf.bitten",49,3,["self","ticket","place"],["told","other","giver"]),!("worded","Shelf.worded",49,4,["self","ticket","word"],["known"]),!("look","Shelf.look",49,5,["self","ticket","place","dares"],["elder","other","spot","word"]),!("loaded","Shelf.loaded",49,6,["self","ticket","place","giver"],[]),!("leave","Shelf.leave",49,7,["self","ticket"],[]),!("throw","Shelf.throw",49,8,["self","ticket"],["stores","loads","other"]),!("stores","Shelf.stores",49,9,["self"],[]),!("loads","Shelf.loads",49,10,["self"],[]),!("__init__","Slot.__init__",51,0,["self","ticket","at","row","names","put"],[]),!("ready","Slot.ready",51,1,["self"],[]),!("spot","Slot.spot",51,2,["self"],[]),!("slip","Slot.slip",51,3,["self"],["times"]),!("__init__","Window.__init__",52,0,["self","program","at","size","wide","table"],[]),!("at_end","Window.at_end",52,1,["self"],[]),!("slot_of","Window.slot_of",52,2,["self","ticket"],["slot"]),!("enter","Window.enter",52,3,["self"],["row","slot"]),!("give","Window.give",52,4,["self","slot","want","word"],[]),!("place","Window.place",52,5,["self","slot"],["bitten"]),!("throw","Window.throw",52,6,["self","ticket"],["left"]),!("__init__","Ledger.__init__",58,0,["self","stand","guesser","nerve"],[]),!("poke","Ledger.poke",58,1,["self","place","word"],[]),!("__init__","Mill.__init__",73,0,["self","program","stand","size","wide","table","guesser","nerve"],[]),!("turn","Mill.turn",73,1,["self"],["window","told"]),!("turns","Mill.turns",73,2,["self","many"],["done"]),!("taken","Mill.taken",73,3,["self"],[]),!("inside","Mill.inside",73,4,["self"],[]),!("stand","Mill.stand",73,5,["self"],[]),!("halted","Mill.halted",73,6,["self"],[]),!("refuse_halted","Mill.refuse_halted",73,7,["self"],[]),!("counts","Mill.counts",73,8,["self"],[]),!("poke","Mill.poke",73,9,["self","place","word"],[])]
end
def pr:Pr:=⟨He,58,[("BITS",.int 64),("BEYOND",.int 18446744073709551616),("WAYS",.tup [.str "sum",.str "less",.str "times",.str "share",.str "rest",.str "both",.str "some",.str "odd",.str "up",.str "down",.str "below",.str "same"]),("GROUPS",.lL [("times",1),("share",2),("rest",2),("load",3),("store",3),("jump",4),("go",4),("fault",4)]),("GREATEST_COUNT",.int 3)],["len","int","min","max","divmod","tuple","list","str","any","sorted","isinstance","bool","range","enumerate","zip"],[],[],[],[(("slots":Str),[18]),(("size":Str),[18]),(("wide":Str),[18]),(("ahead":Str),[18]),(("chosen":Str),[17]),(("guesser":Str),[19]),(("row":Str),[17]),(("dares":Str),[17]),(("nerve":Str),[19]),(("at":Str),[17]),(("state":Str),[19]),(("names":Str),[17,18]),(("finished":Str),[17]),(("deed":Str),[17]),(("ticket":Str),[17]),(("broken":Str),[19]),(("slips":Str),[19]),(("off":Str),[17]),(("now":Str),[18]),(("shelf":Str),[18]),(("gone":Str),[19]),(("storers":Str),[19]),(("words":Str),[17]),(("source":Str),[17]),(("put":Str),[17]),(("benches":Str),[18]),(("held":Str),[17]),(("started":Str),[17]),(("levels":Str),[5]),(("learned":Str),[6,7,8,9,10,11,12,13]),(("lately":Str),[8]),(("first":Str),[8]),(("tally":Str),[9,10,13]),(("trail":Str),[10]),(("length":Str),[10]),(("truths":Str),[11]),(("one":Str),[12,13]),(("other":Str),[13]),(("working":Str),[14]),(("table":Str),[14]),(("filled":Str),[15]),(("begun":Str),[16]),(("kept":Str),[16]),(("thrown":Str),[18]),(("tickets":Str),[18]),(("program":Str),[18]),(("ledger":Str),[20]),(("window":Str),[20])],[(("at_end":Str),[(18,111)]),(("guess":Str),[(6,62),(7,66),(8,68),(9,71),(10,74),(11,77),(12,79),(13,82)]),(("enter":Str),[(18,113)]),(("give":Str),[(18,114)]),(("slot_of":Str),[(18,112)]),(("slip":Str),[(17,109)]),(("throw":Str),[(14,89),(15,94),(16,103),(18,116)]),(("leave":Str),[(16,102)]),(("learn":Str),[(6,64),(7,64),(8,64),(9,64),(10,64),(11,64),(12,64),(13,64)]),(("done":Str),[(14,87)]),(("ready":Str),[(17,107)]),(("free":Str),[(14,85)]),(("start":Str),[(14,86)]),(("loaded":Str),[(16,101)]),(("look":Str),[(16,100)]),(("spot":Str),[(17,108)]),(("counts":Str),[(20,127)]),(("inside":Str),[(20,123)]),(("taken":Str),[(20,122)]),(("turns":Str),[(20,121)]),(("halted":Str),[(20,125)]),(("turn":Str),[(20,120)]),(("heed":Str),[(6,63),(7,63),(8,69),(9,72),(10,75),(11,63),(12,80),(13,83)]),(("likely":Str),[(5,59)]),(("move":Str),[(5,60)]),(("giver":Str),[(15,92)]),(("bitten":Str),[(16,98)]),(("store":Str),[(16,96)]),(("fill":Str),[(15,91)]),(("givers":Str),[(15,93)]),(("place":Str),[(18,115)]),(("worded":Str),[(16,99)]),(("placed":Str),[(16,97)]),(("refuse_halted":Str),[(20,126)])],[(("Guesser",0),(6,61,[])),(("Chosen",3),(13,81,[])),(("Paths",1),(10,73,[.int 4])),(("Last",0),(8,67,[.bl aH])),(("Turned",1),(12,78,[])),(("Counts",1),(9,70,[.int 1])),(("Listed",1),(11,76,[])),(("Paths",2),(10,73,[])),(("Counts",2),(9,70,[])),(("Last",1),(8,67,[])),(("Always",0),(7,61,[])),(("Mill",7),(20,119,[])),(("Tally",2),(5,58,[])),(("Shelf",0),(16,95,[])),(("Benches",1),(14,84,[])),(("Names",0),(15,90,[])),(("Slot",5),(17,106,[])),(("Ledger",3),(19,117,[])),(("Window",5),(18,110,[]))],[],[("Guesser",[("__init__",61)])],["begun","filled","gone","kept","lately","storers","working"]⟩
theorem oi(n:Nat):Int.ofNat (no_index (MO n):Nat)=(MO n:Int):=rfl
def bq(i:Nat):aR:=((pr.defs.map pr.bodyOf).getD i (0,0,.nil)).2.2
section
local macro_rules | `(!$n:num)=>`(fE (p:=λt=>t=bq $n) ⟨_,by refine(?f:(_=bq $n)->_) ?e;(case e=>conv=>rhs;reduce;dsimp only[oi]);(case f=>intro h;show type_of% h;kernel_rfl)⟩)
def UU:aR:=!0
def UX:aR:=!1
def UP:aR:=!2
def UG:aR:=!3
def UJ:aR:=!4
def UI:aR:=!5
def UY:aR:=!6
def Vp:aR:=!7
def SV:aR:=!8
def TB:aR:=!9
def UM:aR:=!10
def SZ:aR:=!11
def SS:aR:=!12
def Vi:aR:=!13
def UH:aR:=!14
def SU:aR:=!15
def Vj:aR:=!16
def SX:aR:=!17
def TF:aR:=!18
def UO:aR:=!19
def TC:aR:=!20
def UN:aR:=!21
def SR:aR:=!22
def US:aR:=!23
def ny:aR:=!24
def UK:aR:=!25
def UT:aR:=!26
def UW:aR:=!27
def SW:aR:=!28
def Fv:aR:=!29
def SY:aR:=!30
def UR:aR:=!31
def UQ:aR:=!32
def nz:aR:=!33
def UL:aR:=!34
def TJ:aR:=!35
def TR:aR:=!36
def UD:aR:=!37
def UC:aR:=!38
def TV:aR:=!39
def Vo:aR:=!40
def TY:aR:=!41
def TQ:aR:=!42
def TX:aR:=!43
def Vn:aR:=!44
def UE:aR:=!45
def TU:aR:=!46
def TK:aR:=!47
def Vl:aR:=!48
def TH:aR:=!49
def TZ:aR:=!50
def TN:aR:=!51
def TM:aR:=!52
def UB:aR:=!53
def UA:aR:=!54
def Vm:aR:=!55
def TL:aR:=!56
def Vk:aR:=!57
def SE:aR:=!58
def SG:aR:=!59
def SH:aR:=!60
def PX:aR:=!61
def PY:aR:=!62
def PZ:aR:=!63
def QB:aR:=!64
def QC:aR:=!65
def PB:aR:=!66
def QD:aR:=!67
def QF:aR:=!68
def QH:aR:=!69
def PR:aR:=!70
def PU:aR:=!71
def PV:aR:=!72
def RH:aR:=!73
def RJ:aR:=!74
def RK:aR:=!75
def QL:aR:=!76
def QM:aR:=!77
def SI:aR:=!78
def SJ:aR:=!79
def SK:aR:=!80
def PM:aR:=!81
def PN:aR:=!82
def PQ:aR:=!83
def PC:aR:=!84
def PH:aR:=!85
def PJ:aR:=!86
def PF:aR:=!87
def PD:aR:=!88
def PL:aR:=!89
def RC:aR:=!90
def RD:aR:=!91
def RE:aR:=!92
def RF:aR:=!93
def RG:aR:=!94
def RL:aR:=!95
def RU:aR:=!96
def RT:aR:=!97
def RM:aR:=!98
def RX:aR:=!99
def RS:aR:=!100
def RP:aR:=!101
def RN:aR:=!102
def RW:aR:=!103
def RV:aR:=!104
def RQ:aR:=!105
def RY:aR:=!106
def RZ:aR:=!107
def SD:aR:=!108
def SA:aR:=!109
def Vh:aR:=!110
def SM:aR:=!111
def SO:aR:=!112
def xq:aR:=!113
def xr:aR:=!114
def SN:aR:=!115
def SQ:aR:=!116
def QJ:aR:=!117
def QK:aR:=!118
def QN:aR:=!119
def QZ:aR:=!120
def RA:aR:=!121
def QY:aR:=!122
def QR:aR:=!123
def QX:aR:=!124
def QQ:aR:=!125
def QV:aR:=!126
def QP:aR:=!127
def QU:aR:=!128
end
def Jl:List (Nat×Nat×aR):=[(1,1,UU),(1,1,UX),(2,2,UP),(1,1,UG),(2,2,UJ),(2,2,UI),(3,3,UY),(1,2,Vp),(1,2,SV),(1,1,TB),(2,2,UM),(3,3,SZ),(3,5,SS),(3,4,Vi),(5,6,UH),(2,3,SU),(2,3,Vj),(3,6,SX),(2,2,TF),(2,2,UO),(2,2,TC),(3,3,UN),(2,6,SR),(2,4,US),(3,3,ny),(3,3,UK),(2,2,UT),(2,2,UW),(2,4,SW),(3,3,Fv),(3,6,SY),(2,3,UR),(3,4,UQ),(3,5,nz),(1,1,UL),(2,2,TJ),(2,2,TR),(1,3,UD),(3,8,UC),(4,7,TV),(5,11,Vo),(4,8,TY),(2,3,TQ),(2,5,TX),(3,7,Vn),(3,3,UE),(4,5,TU),(4,7,TK),(3,9,Vl),(2,4,TH),(2,5,TZ),(2,5,TN),(1,1,TM),(1,1,UB),(2,2,UA),(5,7,Vm),(4,12,TL),(1,13,Vk),(3,3,SE),(2,2,SG),(3,5,SH),(1,1,PX),(2,2,PY),(3,3,PZ),(3,3,QB),(1,1,QC),(2,2,PB),(2,2,QD),(2,2,QF),(3,3,QH),(3,3,PR),(2,2,PU),(3,3,PV),(3,3,RH),(2,2,RJ),(3,4,RK),(2,2,QL),(2,2,QM),(2,2,SI),(2,2,SJ),(3,3,SK),(4,4,PM),(2,2,PN),(3,4,PQ),(2,2,PC),(2,3,PH),(4,5,PJ),(2,4,PF),(1,1,PD),(2,4,PL),(1,1,RC),(3,5,RD),(2,3,RE),(2,2,RF),(2,5,RG),(1,1,RL),(2,2,RU),(3,4,RT),(3,6,RM),(3,4,RX),(4,8,RS),(4,4,RP),(2,2,RN),(2,5,RW),(1,1,RV),(1,1,RQ),(6,6,RY),(1,1,RZ),(1,1,SD),(1,2,SA),(6,6,Vh),(1,1,SM),(2,3,SO),(1,3,xq),(4,4,xr),(2,3,SN),(2,3,SQ),(4,4,QJ),(3,3,QK),(8,8,QN),(1,3,QZ),(2,3,RA),(1,1,QY),(1,1,QR),(1,1,QX),(1,1,QQ),(1,1,QV),(1,1,QP),(3,3,QU)]
noncomputable abbrev pg:Pg:=λi=>Jl[i]?
theorem F8:pr.ir=pg:=by
 have e:pr.defs.map pr.bodyOf=Jl:=by kernel_rfl
 funext i
 show(pr.defs[i]?).map pr.bodyOf=Jl[i]?;rw[<- e,fM]
end AMx
open AM
namespace AMx
open PySem PySem.Spec PyProof.Rows L2 AM
variable {C N:aG->AH->Prop}{L d d0 gu i j n n1 n2 nb np nr nv:Nat}{Q R V1:AV->AH->Prop}{S1 Sg Sn:Ia}{T a b last now p pc room tk u w w1 x y z:Int}{bb dr:Bool}{e:Hs×Hs}{e2 fi w0:Hs}{fnd held t1 t2 t3 t4 v v2:AV}{h h':AH}{k0 k1:List (aN×AV)}{l ls mem ns ts ws:Hx}{o o':bJ}{r row:aI}{rs:List aI}{ss:aR}{tb:Yj}{xs ys:Ht}{Z:aG}
theorem aT{k f nn:Nat}{b:aR}{args:Ht}(e:pg f=aA (np,nn,b))(hl:args.length=np)(w:dY (run pg k) b (args.map aA++fA (nn-np) aD) h (λ_ h1=>R .aE h1) R (λ_ _=>False) (λ_ _=>False)):WC (run pg (k+1) f args) h R:=WC.of (aRt e hl w)
def oI:Hs->AV
 |none=>.aE
 |some i=>.int i
structure iA where
 tk:Int
 pc:Int
 row:aI
 bU:Yi
 ch:Int
 dr:Bool
 src:Hs
 jF:Hs
 dd:AV
 put:Int
 st:Hs
 fi:Hs
 of:Hs
def iA.fs(s:iA)(w:Nat):Yf:=[("ticket",.int s.tk),("at",.int s.pc),("row",s.row.av),("names",.tup (s.bU.map oI)),("words",.ref w),("chosen",.int s.ch),("dares",.bl s.dr),("source",oI s.src),("held",oI s.jF),("deed",s.dd),("put",.int s.put),("started",oI s.st),("finished",oI s.fi),("off",oI s.of)]
def iA.eZ(s:iA):AV:=.tup [.int s.tk,.int s.pc,.tup (s.bU.map oI),oI s.src,s.dd,.tup [.int s.put,oI s.st,oI s.fi,oI s.of]]
theorem Nw{k w:Nat}{s:iA}(o:h.ob n=aA (.ins 17<|s.fs w))(q:R s.eZ h):WC (run pg (k+1) 109 [.ref n]) h R:=by
 refine aT rfl rfl ?_;repeat refine aC.of o ?_
 exact q
section
variable {k:Nat}
theorem Dd(q:R (.int<|z%18446744073709551616) h):WC (run pg (k+1) 1 [.int z]) h R:=aT rfl rfl q
theorem BW(z0:0<=z)(q:R (.bl<|decide<|z<64) h):WC (run pg (k+1) 3 [.int z]) h R:=aT rfl rfl (aF.dt z0 q)
theorem aPa(a0:0<=a)(a1:a<18446744073709551616)(b0:0<=b)(q:R (.int<|dG.wk a b .up) h):WC (run pg (k+2) 4 [.int a,.int b]) h R:=by
 refine aT rfl rfl<|BW b0<|aF.dc (λc=>?_) λc=>?_
 .unfold dG.wk at q;simp only[CQ c]at q;exact WC.of<|Pm (Lq a0 a1 b0 (by lia))<|Dd q
 .unfold dG.wk at q;simp only[aOz c]at q;exact q
theorem YD(a0:0<=a)(a1:a<18446744073709551616)(b0:0<=b)(q:R (.int<|dG.wk a b .down) h):WC (run pg (k+2) 5 [.int a,.int b]) h R:=by
 refine aT rfl rfl<|BW b0<|aF.dc (λc=>?_) λc=>?_
 .unfold dG.wk at q;simp only[CQ c]at q;exact WC.of<|JK b0 q
 .unfold dG.wk at q;simp only[YC c a0 a1]at q;exact q
theorem GZ(b0:0<b)(b1:b<18446744073709551616)(q:R (.tup [.int (a / b),.int (a%b)]) h):WC (run pg (k+1) 2 [.int a,.int b]) h R:=
 aT rfl rfl (aF.df (by lia)<|WC.of<|aPu (Xs b0 b1) q)
theorem aRb{w:dG}(a0:0<=a)(a1:a<18446744073709551616)(b0:0<=b)(b1:b<18446744073709551616)(hz:¬(w.sr=aB/\b=0))(q:R (.int<|w.wk a b) h):WC (run pg (k+3) 6 [.str w.nm,.int a,.int b]) h R:=by
 refine aT rfl rfl ?_;cases w with
 |sum=>exact Dd q|less=>exact Dd q|times=>exact aF.t (by unfold qO;rw[decide_eq_true (show a.natAbs<2 ^ 64 by omega)];rfl)<|Dd q|share=>exact GZ (k:=k+1) (by rcases vm b0 with e|e;exact e;exact absurd ⟨rfl,e.symm⟩ hz) b1 q|rest=>exact GZ (k:=k+1) (by rcases vm b0 with e|e;exact e;exact absurd ⟨rfl,e.symm⟩ hz) b1 q|both=>exact WC.of<|JB q|je=>exact WC.of<|JC q|odd=>exact WC.of<|Ct q|up=>exact aPa a0 a1 b0 q|down=>exact YD a0 a1 b0 q|below=>exact aF.dc (λhc=>by rw[show dG.wk a b .below=1 from if_pos hc]at q;exact q) λhc=>by rw[show dG.wk a b .below=0 from if_neg hc]at q;exact q
 |same=>exact aF.dc (λhc=>by rw[show dG.wk a b .same=1 from if_pos hc]at q;exact q) λhc=>by rw[show dG.wk a b .same=0 from if_neg hc]at q;exact q
theorem su(w:dG):¬(w.nm=("load":cV)):=by cases w<;>decide
theorem Ap(w:dG):¬(w.nm=("store":cV)):=by cases w<;>decide
theorem Q9(w:dG):¬(w.nm=("set":cV)):=by cases w<;>decide
theorem CZ(w:dG):¬(w.nm=("move":cV)):=by cases w<;>decide
theorem sm(w:dG):¬(w.nm=("jump":cV)):=by cases w<;>decide
theorem CY(w:dG):¬(w.nm=("go":cV)):=by cases w<;>decide
theorem CW(w:dG):¬(w.nm=("fault":cV)):=by cases w<;>decide
theorem bj{x y:AV}(e:dW h y=aA xs)(f:(jE x&&xs.all jE)=aB)(n:gO x xs=aB)(q:V1 (.bl aB) h):WC (Cp.g .zR x y) h V1:=WC.of (Cv e f<|n.symm▸q)
theorem sZ{x y:AV}(e:dW h y=aA xs)(f:(jE x&&xs.all jE)=aB)(n:gO x xs=aH)(q:V1 (.bl aH) h):WC (Cp.g .zR x y) h V1:=WC.of (Cv e f<|n.symm▸q)
abbrev pL:Ht:=[.str "sum",.str "less",.str "times",.str "share",.str "rest",.str "both",.str "some",.str "odd",.str "up",.str "down",.str "below",.str "same"]
theorem Kv(w:dG):gO (.str w.nm) pL=aB:=by cases w<;>rfl
theorem Ld:gO (.str "set") pL=aH:=by decide +kernel
theorem Lc:gO (.str "move") pL=aH:=by decide +kernel
theorem Lb:gO (.str "load") pL=aH:=by decide +kernel
theorem Le:gO (.str "store") pL=aH:=by decide +kernel
theorem La:gO (.str "jump") pL=aH:=by decide +kernel
theorem Kz:gO (.str "go") pL=aH:=by decide +kernel
theorem Ky:gO (.str "fault") pL=aH:=by decide +kernel
def bL:aR->aR
 |.cons _ t=>t
 |.nil=>.nil
theorem bf{z:Str}{l:Ht}(e:cH l 0=aA (.str z))(n:gO (.str z) pL=aH)(q:dY (run pg k) (bL<|bL Vp) [aA (.tup l),aA (.str z)] h (λ_ h1=>R .aE h1) R (λ_ _=>False) (λ_ _=>False)):WC (run pg (k+1) 7 [.tup l]) h R:=aT rfl rfl (aC.of e<|sZ rfl rfl n q)
theorem IZ(q:R (.tup<|r.eG.map .int) h):WC (run pg (k+1) 7 [r.av]) h R:=by
 cases r with
 |way w x y z=>exact aT rfl rfl<|bj rfl rfl (Kv w) q|set=>exact bf rfl Ld q|move=>exact bf rfl Lc q|load=>exact bf rfl Lb q|store=>exact bf rfl Le q|dQ=>exact bf rfl La q|go=>exact bf rfl Kz q|fault=>exact bf rfl Ky q
abbrev HE:Ht:=[.str "set",.str "move",.str "load"]
theorem Ib{z:Str}{l:Ht}(e:cH l 0=aA (.str z))(n:gO (.str z) pL=aH)(m:gO (.str z) HE=aB)(d:cH l 1=aA v)(q:R v h):WC (run pg (k+1) 8 [.tup l]) h R:=aT rfl rfl (aC.of e<|sZ rfl rfl n<|bj rfl rfl m<|aC.of rfl<|aC.of d q)
theorem yr{z:Str}{l:Ht}(e:cH l 0=aA (.str z))(n:gO (.str z) pL=aH)(m:gO (.str z) HE=aH)(q:R .aE h):WC (run pg (k+1) 8 [.tup l]) h R:=aT rfl rfl (aC.of e<|sZ rfl rfl n<|sZ rfl rfl m q)
theorem Ic(q:R r.fl h):WC (run pg (k+1) 8 [r.av]) h R:=by
 cases r with
 |way w x y z=>exact aT rfl rfl<|bj rfl rfl (Kv w) q|set=>exact Ib rfl Ld rfl rfl q|move=>exact Ib rfl Lc rfl rfl q|load=>exact Ib rfl Lb rfl rfl q|store=>exact yr rfl Le rfl q|dQ=>exact yr rfl La rfl q|go=>exact yr rfl Kz rfl q|fault=>exact yr rfl Ky rfl q
end
section
variable {k:Nat}
theorem Lo(hl:ws.length=r.nw)(q:R (r.pl ws) h):WC (run pg (k+1) 10 [r.av,.tup (ws.map .int)]) h R:=by
 refine aT rfl rfl ?_;cases r with
 |way w x y z=>exact aF.df (su w)<|aF.df (Ap w) q|load x y s=>obtain⟨a,rfl⟩:=rk hl;exact q|store x y s=>obtain⟨a,b,rfl⟩:=rn hl;exact q|_=>exact q
theorem C7(q:R (.int r.fH) h):WC (run pg (k+1) 9 [r.av]) h R:=by
 refine aT rfl rfl<|WC.of<|aRi<|cF _ ⟨_,rfl,oJ _ ?_⟩;cases r with
 |way w x y z=>exact⟨_,_,rfl,by cases w<;>exact q⟩|_=>exact⟨_,_,rfl,q⟩
theorem F0(q:R (.bl<|decide<|0<=p/\p<mem.length) h):WC (run pg (k+1) 20 [.int p,.tup (mem.map .int)]) h R:=by
 refine aT rfl rfl<|aF.dc (λa=>?_) λa=>?_
 .have e:decide (0<=p/\p<(mem.length:Int))=decide (p<((mem.map AV.int).length:Int)):=by rw[aW];exact decide_eq_decide.mpr ⟨λz=>z.2,λz=>⟨a,z⟩⟩
  rw[e]at q;exact q
 .rw[decide_eq_false λz=>a z.1]at q;exact q
end
section
variable {k:Nat}
theorem DB{w:dG}(h:w.sr=aH):¬(w.nm=("share":cV)):=by cases w<;>first|decide|cases h
theorem DA{w:dG}(h:w.sr=aH):¬(w.nm=("rest":cV)):=by cases w<;>first|decide|cases h
theorem HI(w:dG):w = .share\/w = .rest\/w.sr=aH:=by cases w<;>simp[dG.sr]
theorem u0(hl:ws.length=r.nw)(q:R ((r.ft ws room).getD .aE) h):WC (run pg (k+2) 12 [r.av,.tup (ws.map .int),.int room]) h R:=by
 have c:∀{R:AV->AH->Prop},R (r.pl ws) h->WC (run pg (k+1) 10 [r.av,.tup (ws.map .int)]) h R:=λq=>Lo hl q;refine aT rfl rfl ?_;cases r with
 |load x y s=>
  obtain⟨a,rfl⟩:=rk hl;refine c<|aF.dc (λh0=>aF.nd (λh1=>?_) λh1=>?_) λh0=>?_
  .rw[show aI.ft [a] room (.load x y s)=aA _ from if_neg λz=>h1 z.2]at q;exact q
  .rw[show aI.ft [a] room (.load x y s)=aD from if_pos ⟨h0,h1⟩]at q;exact q
  .rw[show aI.ft [a] room (.load x y s)=aA _ from if_neg λz=>h0 z.1]at q;exact q
 |store x y s=>
  obtain⟨a,b,rfl⟩:=rn hl;refine c<|aF.dc (λh0=>aF.nd (λh1=>?_) λh1=>?_) λh0=>?_
  .rw[show aI.ft [a,b] room (.store x y s)=aA _ from if_neg λz=>h1 z.2]at q;exact q
  .rw[show aI.ft [a,b] room (.store x y s)=aD from if_pos ⟨h0,h1⟩]at q;exact q
  .rw[show aI.ft [a,b] room (.store x y s)=aA _ from if_neg λz=>h0 z.1]at q;exact q
 |way w x y z=>
  obtain⟨a,b,rfl⟩:=rn hl;refine aF.df (CW w) ?_;rcases HI w with rfl|rfl|hs
  .refine aF.dc (λd=>?_) λd=>c ?_
   .rw[show aI.ft [a,b] room (.way .share x y z)=aA _ from if_pos d]at q;exact q
   .rw[show aI.ft [a,b] room (.way .share x y z)=aD from if_neg d]at q;exact q
  .refine aF.dc (λd=>?_) λd=>c ?_
   .rw[show aI.ft [a,b] room (.way .rest x y z)=aA _ from if_pos d]at q;exact q
   .rw[show aI.ft [a,b] room (.way .rest x y z)=aD from if_neg d]at q;exact q
  .simp only[aI.ft,hs,cond]at q;exact aF.df (DB hs)<|aF.df (DA hs)<|c q
 |fault v=>exact q|_=>exact c q
end
section
variable {k:Nat}
theorem AI(hl:∀x t,r = .dQ x t->ws.length=1)(q:R (.int<|r.gs a ws) h):WC (run pg (k+1) 11 [r.av,.int a,.tup (ws.map .int)]) h R:=by
 refine aT rfl rfl ?_;cases r with
 |way w x y z=>exact aF.df (CY w)<|aF.df (sm w) q|dQ x t=>obtain⟨b,rfl⟩:=rk (hl _ _ rfl);exact aF.nd (λc=>by rw[show aI.gs a [b] (.dQ x t)=t from if_pos c]at q;exact q) λc=>by rw[show aI.gs a [b] (.dQ x t)=a+1 from if_neg λz=>z c]at q;exact q
 |_=>exact q
end
section
variable {k:Nat}
theorem yM{z:Str}{l:Ht}{u:AV}(e:cH l 0=aA (.str z))(n:gO (.str z) pL=aH)(q:dY (run pg k) (bL<|bL Vi) [aA (.tup l),aA u,aA v,aA (.str z)] h (λ_ h1=>R .aE h1) R (λ_ _=>False) (λ_ _=>False)):WC (run pg (k+1) 13 [.tup l,u,v]) h R:=aT rfl rfl (aC.of e<|sZ rfl rfl n q)
theorem VJ(hl:ws.length=r.nw)(hw:kZ ws)(hf:∀w x y z,r = .way w x y z->¬(w.sr=aB/\cell ws 1=0))(q:R (r.br ws held) h):WC (run pg (k+4) 13 [r.av,.tup (ws.map .int),held]) h R:=by
 cases r with
 |way w x y z=>obtain⟨a,b,rfl⟩:=rn hl;have c:=hw a (.head _);have d:=hw b (.tail _<|.head _);exact aT rfl rfl<|bj rfl rfl (Kv w)<|aRb c.1 c.2 d.1 d.2 (hf w x y z rfl) q
 |set=>exact yM rfl Ld q|move=>obtain⟨a,rfl⟩:=rk hl;exact yM rfl Lc q|load=>exact yM rfl Lb q|store=>obtain⟨a,b,rfl⟩:=rn hl;exact yM rfl Le q|dQ=>exact yM rfl La q|go=>exact yM rfl Kz q|fault=>exact yM rfl Ky q
theorem A3{w:dG}(h:(aI.way w x y z).ft ws room=aD):¬(w.sr=aB/\cell ws 1=0):=by
 rintro ⟨h1,a⟩
 simp[aI.ft,h1,a]at h
theorem yv{f:AV}(e:r.ft ws room=aA f):∃xs,f = .tup xs:=by
 cases r<;>simp only[aI.ft]at e<;>first
  | (cases e;done)
  | (cases e;exact⟨_,rfl⟩)
  | (split at e<;>cases e<;>exact⟨_,rfl⟩)
  |skip
 rename_i w x y z;cases hs:w.sr with
 |true=>rw[hs]at e;simp only[cond]at e;split at e<;>cases e;exact⟨_,rfl⟩|false=>rw[hs]at e;cases e
theorem N4(hl:ws.length=r.nw)(hw:kZ ws)(q:R (r.dB a ws room held) h):WC (run pg (k+5) 14 [r.av,.int a,.tup (ws.map .int),.int room,held]) h R:=by
 refine aT rfl rfl<|u0 hl ?_;unfold aI.dB at q;cases e:r.ft ws room with
 |some f=>rw[e]at q;obtain⟨xs,rfl⟩:=yv e;exact q
 |none=>rw[e]at q;exact Ic<|Lo hl<|VJ hl hw (λw x y z b=>by subst b;exact A3 e)<|AI (λx t b=>by subst b;exact hl) q
end
section
variable {k:Nat}
theorem aLl{w:Nat}{s:iA}(o:h.ob n=aA (.ins 17<|s.fs w))(ow:h.ob w=aA (.lst aB<|ws.map AV.int))(hl:ws.length=s.row.nw)(q:R (s.row.pl ws) h):WC (run pg (k+2) 108 [.ref n]) h R:=by refine aT rfl rfl ?_;exact aC.of o<|aC.of o<|WC.of<|rF (bO ow)<|Lo (k:=k) hl q
theorem aJy{w g:Nat}{s:iA}(o:h.ob n=aA (.ins 17<|s.fs w))(hj:∀x t,s.row ≠ .dQ x t)(q:R (.int<|s.row.gs s.pc []) h):WC (run pg (k+2) 19 [.ref n,.ref g]) h R:=by
 obtain⟨tk,pc,r,bU,ch,dr,src,jF,dd,pt,st,fi,of⟩:=s;have a:WC (run pg (k+1) 11 [r.av,.int pc,.tup []]) h R:=AI (ws:=[]) (λx t e=>absurd e (hj x t)) q;refine aT rfl rfl ?_;refine aC.of o ?_;cases r with
 |dQ x t=>exact absurd rfl<|hj x t|way ww x y z=>refine aF.df (sm ww) ?_;refine aC.of o ?_;refine aC.of o ?_;exact a|_=>refine aC.of o ?_;refine aC.of o ?_;exact a
theorem OX{fs:List (cV×AV)}(o:h.ob n=aA (.ins 18 fs))(e1:fs.lookup ("ahead":cV)=aA (AV.int a))(e2:fs.lookup ("program":cV)=aA (AV.ref np))(op:h.ob np=aA (.lst aB xs))(q:R (.bl<|decide<|(xs.length:Int)<=a) h):WC (run pg (k+1) 111 [.ref n]) h R:=by refine aT rfl rfl ?_;refine aC.of o ?_;refine aC.of e1 ?_;refine aC.of o ?_;exact aC.of e2<|WC.of<|fR (bO op) q
end
section
variable {k:Nat}
theorem aKv{pt:Int}{bU:Yi}(o:h.ob n=aA (.ins 17 []))(hn:n<h.nx)(hl:bU.length<=2)
  (q:∀h',h'.nx=h.nx+2->h'.ob n=aA (.ins 17<|iA.fs ⟨tk,pc,r,bU,pc+1,aH,aD,aD,.aE,pt,aD,aD,aD⟩<|h.nx+1)->h'.ob (h.nx+1)=aA (.lst aB<|fA bU.length .aE)->(∀m,m≠n->m<h.nx->h'.ob m=h.ob m)->R .aE h') :
  WC (run pg (k+1) 106 [.ref n,.int tk,.int pc,r.av,.tup (bU.map oI),.int pt]) h R:=by
 have l1:(0:Int)<=((bU.map oI).length:Int):=by omega
 have l2:[AV.aE].length*((bU.map oI).length:Int).toNat<=sizeLine:=by
  have e:(sizeLine:Nat) > 1000:=by decide
  rw[aW];simp only[lA,Qv,tE];omega
 have l3:((bU.map oI).length:Int)<2 ^ 63:=by rw[aW];omega
 refine aT rfl rfl ?_;refine aC.of o ?_;refine aC.of bB ?_;refine aC.of bB ?_;refine aC.of bB ?_;refine WC.of<|JJ bC l1 l2 l3 ?_;refine aC.of rfl ?_;refine aC.of rfl ?_;refine aC.of (Eq.trans (dJ<|show n≠_ from λe=>?a)<|Eq.trans (dJ<|show n≠_ from λe=>?b) bB) ?_
 case a=>have:n=h.nx+1:=e;omega
 case b=>have:n=h.nx:=e;omega
 refine aC.of bB ?_;refine aC.of bB ?_;refine aC.of bB ?_;refine aC.of bB ?_;refine aC.of bB ?_;refine aC.of bB ?_;refine aC.of bB ?_;refine aC.of bB ?_;refine aC.of bB ?_;refine q _ rfl bB ?_ λm hm hx=>?_
 .repeat rw[aV (show h.nx+1≠n by omega)]
  refine bC.trans ?_;rw[aW,tE,LJ]
 .repeat rw[aV hm]
  rw[dJ (show m≠_ from λe=>by have:m=h.nx+1:=e;omega),dJ (show m≠_ from λe=>by have:m=h.nx:=e;omega)];repeat rw[aV hm]
end
section
variable {k:Nat}
theorem y9(vs:Yi):(vs.map oI).all jE=aB:=by rw[KW,KU];intro v _;cases v<;>rfl
theorem Q5(vs:Yi):(!gO .aE (vs.map oI))=vs.all Rv:=by
 induction vs with
 |nil=>rfl|cons v vs a=>have e:gO .aE ((v::vs).map oI)=(Hr (oI v) .aE||gO .aE (vs.map oI)):=rfl;rw[e,Bool.not_or,a];cases v<;>rfl
theorem aJk{w:Nat}{s:iA}{vs:Yi}(o:h.ob n=aA (.ins 17<|s.fs w))(ow:h.ob w=aA (.lst aB<|vs.map oI))(q:R (.bl<|vs.all Rv) h):WC (run pg (k+1) 107 [.ref n]) h R:=by rw[<- Q5]at q;refine aT rfl rfl ?_;exact aC.of o<|WC.of<|aQn (bO ow) (by rw[y9];rfl) q
end
section
variable {k:Nat}
theorem G7{i:Int}(hn:0<n):∃j,iI n (i%(n:Int))=aA j/\j<n:=by have h0:0<=i%n:=mU _ (by lia);have h1:i%n<n:=nL _ (by lia);refine⟨(i%n).toNat,?_,by lia⟩;unfold iI;simp only[h0,h1,if_true]
structure lI(h:AH)(t l:Nat)(ls:Hx):Prop where
 ob:h.ob t=aA (.ins 5 [("levels",.ref l)])
 lv:h.ob l=aA (.lst aB<|ls.map AV.int)
 pos:0<ls.length
theorem lI.len{t l:Nat}(T:lI h t l ls):(0:Int)<((ls.map AV.int).length:Int):=by rw[aW];have:=T.pos;omega
theorem lI.at{t l:Nat}(T:lI h t l ls){i:Int}:cH (ls.map AV.int) (i%((ls.map AV.int).length:Int))=aA (.int<|cell ls<|i%((ls.map AV.int).length:Int)):=
 yK (mU _ (by have:=T.len;lia)) (nL _ T.len)
theorem Kd{t l:Nat}{i:Int}(T:lI h t l ls)(q:∀b,R (.bl b) h):WC (run pg (k+1) 59 [.ref t,.int i]) h R:=by refine aT rfl rfl ?_;refine aC.of T.ob<|aC.of T.ob ?_;refine WC.of<|fR (bO T.lv) ?_;refine aF.dt T.len ?_;exact WC.of<|eJ (bO T.lv) T.at<|WC.of<|Cv rfl rfl<|q _
theorem Ko{t l:Nat}{i:Int}{b:Bool}(T:lI h t l ls)(q:∀mN:Hx,mN.length=ls.length->R .aE (h.put l<|.lst aB<|mN.map AV.int)):WC (run pg (k+1) 60 [.ref t,.int i,.bl b]) h R:=by
 obtain⟨j,hj,_⟩:=G7 (i:=i) (n:=(ls.map AV.int).length) (by rw[aW];exact T.pos);have fin:∀c:Int,WC (nZ (.ref l) (.int<|i%((ls.map AV.int).length:Int))<|.int c) h λ_ h3=>R .aE h3:=λc=>by refine vg T.lv hj ?_;have:=q (ls.set j c) (cf ..);rw[ki]at this;exact this
 refine aT rfl rfl ?_;refine aC.of T.ob ?_;refine WC.of<|fR (bO T.lv) ?_;refine aF.dt T.len ?_;refine aC.of T.ob ?_;refine WC.of<|eJ (bO T.lv) T.at ?_;refine aF.by (λe=>?_) λe=>?_
 .exact aC.of T.ob<|fin _
 .exact aC.of T.ob<|fin _
end
inductive Gs(h:AH)(c:Nat):Nat->Nat->Ia->Prop
 |pl {d n:Nat}{i:Int} (o:h.ob n=aA (.ins 6 [("learned",.int i)])):Gs h c d n [n]
 |al {d n:Nat}{i:Int} (o:h.ob n=aA (.ins 7 [("learned",.int i)])):Gs h c d n [n]
 |la {d n m:Nat}{i:Int}{f:Bool}{kvs:List (aN×AV)} (o:h.ob n=aA (.ins 8 [("learned",.int i),("first",.bl f),("lately",.ref m)])) (od:h.ob m=aA (.aQ kvs)) (hb:∀j v,bK kvs j=aA v->∃b,v = .bl b) (hc:kvs.length<=c) (ne:n≠m):Gs h c d n [n,m]
 |co {d n t l:Nat}{i:Int}{ls:Hx} (o:h.ob n=aA (.ins 9 [("learned",.int i),("tally",.ref t)])) (T:lI h t l ls) (ne:n≠t/\n≠l/\t≠l):Gs h c d n [n,t,l]
 |pa {d n t l:Nat}{i g x:Int}{ls:Hx} (o:h.ob n=aA (.ins 10 [("learned",.int i),("tally",.ref t),("length",.int g),("trail",.int x)])) (T:lI h t l ls) (ne:n≠t/\n≠l/\t≠l) (g0:0<=g/\g<16) (x0:0<=x/\x<65536):Gs h c d n [n,t,l]
 |li {d n l:Nat}{i:Int}{bs:Yt} (o:h.ob n=aA (.ins 11 [("learned",.int i),("truths",.ref l)])) (ol:h.ob l=aA (.lst aB<|bs.map AV.bl)) (ne:n≠l):Gs h c d n [n,l]
 |tu {d n m:Nat}{S:Ia}{i:Int} (o:h.ob n=aA (.ins 12 [("learned",.int i),("one",.ref m)])) (G:Gs h c d m S) (ne:n∉S):Gs h c (d+1) n (n::S)
 |ch {d n m m' t l:Nat} {S S':Ia}{i:Int}{ls:Hx} (o:h.ob n=aA (.ins 13 [("learned",.int i),("one",.ref m),("other",.ref m'),("tally",.ref t)])) (G:Gs h c d m S) (G':Gs h c d m' S') (T:lI h t l ls) (ne:n≠t/\n≠l/\t≠l) (nd:(∀j∈S,j∉S')/\n∉S++S'/\t∉S++S'/\l∉S++S'):Gs h c (d+1) n (n::t::l::(S++S'))
theorem lI.kp{t l:Nat}(T:lI h t l ls)(e1:h'.ob t=h.ob t)(e2:h'.ob l=h.ob l):lI h' t l ls:=⟨e1.trans T.ob,e2.trans T.lv,T.pos⟩
theorem Gs.kp{h h':AH}{c c' d n:Nat}{S:Ia}(G:Gs h c d n S)(hc':c<=c'):(∀m∈S,h'.ob m=h.ob m)->Gs h' c' d n S:=by
 induction G with
 |pl o=>exact λe=>.pl ((e _ (by simp)).trans o)|al o=>exact λe=>.al ((e _ (by simp)).trans o)|la o od hb f ne=>exact λe=>.la ((e _ (by simp)).trans o) ((e _<|.tail _<|.head _).trans od) hb (cD f hc') ne|co o T ne=>exact λe=>.co ((e _<|.head _).trans o) (T.kp (e _ (by simp))<|e _ (by simp)) ne|pa o T ne g x0=>exact λe=>.pa ((e _<|.head _).trans o) (T.kp (e _<|.tail _<|.head _)<|e _<|.tail _<|.tail _<|.head _) ne g x0|li o ol ne=>exact λe=>.li ((e _ (by simp)).trans o) ((e _ (by simp)).trans ol) ne|tu o G ne a=>exact λe=>.tu ((e _ (by simp)).trans o) (a λm hm=>e m (by simp[hm])) ne|ch o G i T ne nd a b=>exact λe=>.ch ((e _<|.head _).trans o) (a λm hm=>e m (by simp[hm])) (b λm hm=>e m (by simp[hm])) (T.kp (e _<|.tail _<|.head _)<|e _<|.tail _<|.tail _<|.head _) ne nd
theorem OU{bs:Yt}{i:Int}(h0:0<=i)(h1:i<(bs.map AV.bl).length):∃b,cH (bs.map AV.bl) i=aA (.bl b):=by
 have hl:i.toNat<bs.length:=by rw[aW]at h1;lia
 unfold cH iI;rw[if_pos h0,if_pos h1];exact⟨bs[i.toNat],by simp only[hX,fM,dZ hl,rO]⟩
noncomputable abbrev ym:YZ:=[(6,62),(7,66),(8,68),(9,71),(10,74),(11,77),(12,79),(13,82)]
def Ul(L n:Nat)(a:Int)(h:AH)(R:AV->AH->Prop):Prop:=hJ (.ref n) h λn c fs=>aC (ym.lookup c) λi=>aF (fs.lookup ("guess":cV)).isNone (WC (run pg L i [.ref n,.int a]) h R) False
theorem zp{c:Nat}{S:Ia}(G:Gs h c d n S):(∀m∈S,m<h.nx)->∀{L:Nat}{a:Int}{R:AV->AH->Prop},d+2<=L->(∀b h',Kp h h'->R (.bl b) h')->Ul L n a h R:=by
 induction G with
 |pl o=>intro k L a R p q;obtain⟨L,rfl⟩:∃g,L=g+1:=⟨L-1,by omega⟩;exact aC.of o<|aT rfl rfl<|q _ _ Kp.refl
 |al o=>intro k L a R p q;obtain⟨L,rfl⟩:∃g,L=g+1:=⟨L-1,by omega⟩;exact aC.of o<|aT rfl rfl<|q _ _ Kp.refl
 |la o od hb A ne=>
  rename_i d n m i f t;intro k L a R p q;obtain⟨L,rfl⟩:∃g,L=g+1:=⟨L-1,by lia⟩;refine aC.of o<|aT rfl rfl<|aC.of o<|aF.t rfl<|aC.of rfl<|aF.t (qF od)<|aC.of o<|aF.t rfl<|aC.of rfl<|WC.of<|JE od rfl ?_;cases e:bK t (.inl a) with
  |none=>exact q _ _ Kp.refl|some v=>obtain⟨b,rfl⟩:=hb _ _ e;exact q _ _ Kp.refl
 |co o T ne=>intro k L a R p q;obtain⟨L,rfl⟩:∃g,L=g+2:=⟨L-2,by omega⟩;exact aC.of o<|aT rfl rfl<|aC.of o<|aF.t rfl<|aC.of rfl<|aC.of T.ob<|Kd T λb=>q _ _ Kp.refl
 |pa o T ne B x0=>intro k L a R p q;obtain⟨L,rfl⟩:∃g,L=g+2:=⟨L-2,by omega⟩;exact aC.of o<|aT rfl rfl<|aC.of o<|aF.t rfl<|aC.of rfl<|aC.of T.ob<|aC.of rfl<|aF.t rfl<|aC.of o<|aF.t rfl<|aC.of rfl<|WC.of<|Ct<|Kd T λb=>q _ _ Kp.refl
 |li o ol ne=>
  rename_i d n l i bs;intro k L a R p q;obtain⟨L,rfl⟩:∃g,L=g+1:=⟨L-1,by omega⟩;have u:=(dJ (o:=.lst aB [])<|bV<|k n (by simp)).trans o;have r:=(dJ (o:=.lst aB [])<|bV<|k l (by simp)).trans ol;refine aC.of o<|aT rfl rfl<|aC.of o<|aF.t rfl<|aC.of rfl<|WC.of<|aPw rfl (Hq r bC) ?_;cases bs with
  |nil=>exact q _ _ Kp.refl.new|cons y bs=>
   have hl:0<(((y::bs).map AV.bl).length:Int):=by simp only[aW,lA];omega
   obtain⟨b,z⟩:=OU (mU i (by omega)) (nL i hl);exact aC.of rfl<|aF.df (by simp)<|aC.of u<|aF.t rfl<|aC.of rfl<|aC.of u<|aF.t rfl<|aC.of rfl<|aC.of u<|aF.t rfl<|aC.of rfl<|WC.of<|fR (bO r)<|aF.dt hl<|WC.of<|eJ (bO r) z<|q _ _ Kp.refl.new
 |tu o G ne w=>intro k L a R p q;obtain⟨L,rfl⟩:∃g,L=g+1:=⟨L-1,by omega⟩;exact aC.of o<|aT rfl rfl<|aC.of o<|aF.t rfl<|aC.of rfl<|w (λj s=>k j (by simp[s])) (by omega) λb h' kp=>q _ _ kp
 |ch o G C T ne nd w x=>
  intro k L a R p q;obtain⟨L,rfl⟩:∃g,L=g+2:=⟨L-2,by omega⟩;refine aC.of o<|aT rfl rfl<|aC.of o<|aF.t rfl<|aC.of rfl<|aC.of T.ob<|Kd T λb=>aF.by (λ_=>?_) λ_=>?_
  .exact aC.of o<|aF.t rfl<|aC.of rfl<|x (λj s=>k j (by simp[s])) (by omega) q
  .exact aC.of o<|aF.t rfl<|aC.of rfl<|w (λj s=>k j (by simp[s])) (by omega) q
structure Kx(S:Ia)(h h':AH):Prop where
 nx:h.nx<=h'.nx
 ob:∀m,m<h.nx->m∉S->h'.ob m=h.ob m
theorem Kx.refl{S:Ia}:Kx S h h:=⟨aU _,λ_ _ _=>rfl⟩
theorem Kx.trans{S:Ia}{a b c:AH}(x:Kx S a b)(y:Kx S b c):Kx S a c:=⟨cD x.nx y.nx,λm hm hs=>(y.ob m (bD hm x.nx) hs).trans (x.ob m hm hs)⟩
theorem Kx.put{S:Ia}{a b:AH}{n:Nat}{o:bJ}(x:Kx S a b)(hn:n∈S):Kx S a (b.put n o):=⟨x.nx,λm hm hs=>(aV λe=>hs (by rw[e];exact hn)).trans (x.ob m hm hs)⟩
theorem Kx.of{S:Ia}{a b:AH}(x:Kp a b):Kx S a b:=⟨x.nx,λm hm _=>x.ob m hm⟩
theorem Kx.sub{S S':Ia}{a b:AH}(x:Kx S a b)(hs:∀m∈S,m∈S'):Kx S' a b:=⟨x.nx,λm hm hn=>x.ob m hm λz=>hn (hs m z)⟩
theorem Gs.top{c:Nat}{S:Ia}(G:Gs h c d n S):∃cl i fs,h.ob n=aA (.ins cl<|("learned",.int i)::fs)/\[6,7,8,9,10,11,12,13].contains cl=aB/\fs.length<900/\n∈S/\∀j,Gs (h.put n<|.ins cl<|("learned",.int j)::fs) c d n S:=by
 cases G with
 |pl o=>exact⟨_,_,_,o,rfl,by decide,by simp,λj=>.pl bB⟩|al o=>exact⟨_,_,_,o,rfl,by decide,by simp,λj=>.al bB⟩|la o od hb a ne=>exact⟨_,_,_,o,rfl,by simp,(.head _),λj=>.la bB ((aV ne.symm).trans od) hb a ne⟩|co o T ne=>exact⟨_,_,_,o,rfl,by simp,(.head _),λj=>.co bB (T.kp (aV ne.1.symm)<|aV ne.2.1.symm) ne⟩|pa o T ne b x0=>exact⟨_,_,_,o,rfl,by simp,(.head _),λj=>.pa bB (T.kp (aV ne.1.symm)<|aV ne.2.1.symm) ne b x0⟩|li o ol ne=>exact⟨_,_,_,o,rfl,by simp,(.head _),λj=>.li bB ((aV ne.symm).trans ol) ne⟩|tu o G ne=>exact⟨_,_,_,o,rfl,by simp,by simp,λj=>.tu bB (G.kp (aU _) λm hm=>aV λe=>ne (e▸hm)) ne⟩|ch o G f T ne nd=>exact⟨_,_,_,o,rfl,by simp,(.head _),λj=>.ch bB (G.kp (aU _) λm hm=>aV λe=>nd.2.1 (by rw[<- e];simp[hm])) (f.kp (aU _) λm hm=>aV λe=>nd.2.1 (by rw[<- e];simp[hm])) (T.kp (aV ne.1.symm)<|aV ne.2.1.symm) ne nd⟩
noncomputable abbrev YE:YZ:=[(6,63),(7,63),(8,69),(9,72),(10,75),(11,63),(12,80),(13,83)]
def wz(L n:Nat)(a:Int)(b:Bool)(h:AH)(R:AV->AH->Prop):Prop:=hJ (.ref n) h λn c fs=>aC (YE.lookup c) λi=>aF (fs.lookup ("heed":cV)).isNone (WC (run pg L i [.ref n,.int a,.bl b]) h R) False
noncomputable abbrev Hi:YZ:=[(6,64),(7,64),(8,64),(9,64),(10,64),(11,64),(12,64),(13,64)]
def Fi(L n:Nat)(a:Int)(b:Bool)(h:AH)(R:AV->AH->Prop):Prop:=hJ (.ref n) h λn c fs=>aC (Hi.lookup c) λi=>aF (fs.lookup ("learn":cV)).isNone (WC (run pg L i [.ref n,.int a,.bl b]) h R) False
def mx(W:Nat->Nat->Int->Bool->AH->(AV->AH->Prop)->Prop)(d l:Nat):Prop:=∀{h:AH}{c n:Nat}{S:Ia},Gs h c d n S->c<1000->(∀m∈S,m<h.nx)->∀{L:Nat}{a:Int}{b:Bool}{R:AV->AH->Prop},l<=L->(∀h',Kx S h h'->Gs h' (c+1) d n S->R .aE h')->W L n a b h R
theorem rj(H:mx wz d (2*d+2)):mx Fi d (2*d+3):=by
 intro h c n S G f j L a b R m q;obtain⟨L,rfl⟩:∃k,L=k+1:=⟨L-1,by lia⟩;have fin:WC (run pg (L+1) 64 [.ref n,.int a,.bl b]) h R:=by refine aT rfl rfl<|H G f j (by lia) λp kx g=>?_;obtain⟨cl,i,fs,o,e,hl,hn,l⟩:=g.top;exact aC.of o<|aF.t e<|aC.of rfl<|aC.of rfl<|aC.of o<|aF.dt rfl<|aF.dt (by simp only[lA];lia)<|q _ (kx.put hn)<|l _
 cases G with
 |pl o=>exact aC.of o fin|al o=>exact aC.of o fin|la o od hb f ne=>exact aC.of o fin|co o T ne=>exact aC.of o fin|pa o T ne r x0=>exact aC.of o fin|li o ol ne=>exact aC.of o fin|tu o G ne=>exact aC.of o fin|ch o G g T ne nd=>exact aC.of o fin
theorem AL(IH:∀d',d'+1=d->mx wz d' (2*d'+2)):mx wz d (2*d+2):=by
 intro h c n S G hc hS L a b R hL q;have big:=nR;obtain⟨L,rfl⟩:∃L',L=L'+2:=⟨L-2,by lia⟩;cases G with
 |pl o=>exact aC.of o<|aT rfl rfl<|q _ Kx.refl<|Gs.kp (.pl o) (jQ _) λ_ _=>rfl|al o=>exact aC.of o<|aT rfl rfl<|q _ Kx.refl<|Gs.kp (.al o) (jQ _) λ_ _=>rfl|li o ol ne=>exact aC.of o<|aT rfl rfl<|q _ Kx.refl<|Gs.kp (.li o ol ne) (jQ _) λ_ _=>rfl|la o od hb hcl ne=>
  refine aC.of o<|aT rfl rfl<|aC.of o<|aF.t rfl<|aC.of rfl<|tB od rfl (by lia) ?_;refine q _ (Kx.refl.put (by simp))<|.la ((aV ne).trans o) bB (λj v e=>?_) (cD Ls (by lia)) ne;rw[Oy]at e;split at e
  .cases e;exact⟨_,rfl⟩
  .exact hb _ _ e
 |co o T ne=>exact aC.of o<|aT rfl rfl<|aC.of o<|aF.t rfl<|aC.of rfl<|aC.of T.ob<|Ko (k:=L) T λmN e=>q _ (Kx.refl.put (by simp)) (.co ((aV ne.2.1).trans o) ⟨(aV ne.2.2).trans T.ob,bB,e▸T.pos⟩ ne)
 |pa o T ne g0 x0=>
  rename_i t l i g x ls;refine aC.of o<|aT rfl rfl<|aC.of o<|aF.t rfl<|aC.of rfl<|aC.of T.ob<|aC.of rfl<|aF.t rfl<|aC.of o<|aF.t rfl<|aC.of rfl<|WC.of<|Ct<|Ko T λmN e=>?_;have o1:=(aV (o:=.lst aB (mN.map AV.int)) ne.2.1).trans o;have T1:lI (h.put l<|.lst aB<|mN.map AV.int) t l mN:=⟨(aV ne.2.2).trans T.ob,bB,e▸T.pos⟩;have kx:Kx [n,t,l] h (h.put l<|.lst aB<|mN.map AV.int):=Kx.refl.put (by simp);generalize h.put l (.lst aB<|mN.map AV.int)=h1 at o1 T1 kx ⊢;have p0:(0:Int)<1*2 ^ g.toNat:=by rw[Int.one_mul];exact KQ (by decide)
  have p1:(1:Int)*2 ^ g.toNat<=65536:=by
   have:g.toNat<=16:=by lia
   have:=Nat.pow_le_pow_right (n:=2) (by decide) this;have e:((2 ^ g.toNat:Nat):Int)=2 ^ g.toNat:=rfl;lia
  refine aC.of o1<|aF.t rfl<|aC.of rfl<|aF.t (An (by lia) (by lia)) ?_;have fin:∀y:Int,WC (Op.g .shl (.int 1)<|.int g) h1 λz h2=>Ph .mod (.int y) z h2 λv h3=>hJ (.ref n) h3 λn c fs=>aF ([10].contains c) (aF (decide<|fs.length<1000) (R .aE<|h3.put n<|.ins c<|gC "trail" v fs) False) False:=λy=>by exact WC.of<|Pm (Lq (by decide) (by decide) g0.1 (by lia))<|aF.dt p0<|aC.of o1<|q _ (kx.put (by simp))<|.pa bB (T1.kp (aV ne.1.symm)<|aV ne.2.1.symm) ne g0 ⟨mU _ (by lia),Int.lt_of_lt_of_le (nL _ p0) p1⟩
  cases b with
  |true=>exact aC.of o1<|aF.t rfl<|aC.of rfl<|fin _|false=>exact aC.of o1<|aF.t rfl<|aC.of rfl<|fin _
 |tu o G ne=>rename_i d' m S i;refine aC.of o<|aT rfl rfl<|aC.of o<|aF.t rfl<|aC.of rfl ?_;exact rj (IH d' rfl) G hc (λj hj=>hS j (by simp[hj])) (by lia) λh' kx G'=>q _ (kx.sub λm hm=>by simp[hm]) (.tu ((kx.ob _ (hS _ (by simp)) ne).trans o) G' ne)
 |ch o G G' T ne nd=>
  rename_i d' m m' t l S S' i ls;have lS:∀j∈S,j<h.nx:=λj hj=>hS j (by simp[hj]);have lS':∀j∈S',j<h.nx:=λj hj=>hS j (by simp[hj]);have ln:=hS n (by simp);have lt:=hS t (by simp);have ll:=hS l (by simp);refine aC.of o<|aT rfl rfl<|aC.of o<|aF.t rfl<|aC.of rfl<|zp G' lS' (by omega) λb1 h1 k1=>?_;have G1:=G.kp (aU _) λj hj=>k1.ob j (lS j hj);refine aC.of (k1.get ln o)<|aF.t rfl<|aC.of rfl<|zp G1 (λj hj=>bD (lS j hj) k1.nx) (by omega) λb2 h2 k2'=>?_;have k2:=k1.trans k2';have o2:=k2.get ln o;have T2:=T.kp (k2.ob _ lt) (k2.ob _ ll);have rest:∀h3 mN,Kx [n,t,l] h h3->h3.ob n=h2.ob n->lI h3 t l mN->Fi (L+1) m a b h3 λ_ h4=>hJ (.ref n) h4 λ_ c fs=>aF ([13].contains c) (aC (fs.lookup ("other":cV)) λv=>hJ v h4 λn c fs=>aC (Hi.lookup c) λi=>aF (fs.lookup ("learn":cV)).isNone (WC (run pg (L+1) i [.ref n,.int a,.bl b]) h4 λ_ h5=>R .aE h5) False) False:=λh3 mN kx e3 T3=>by
   have S3:=λj hj=>kx.ob j (by rcases List.mem_append.mp hj with z|z;exact lS j z;exact lS' j z) (by
    simp only[kN,gI,or_false,not_or];exact⟨λz=>nd.2.1 (z▸hj),λz=>nd.2.2.1 (z▸hj),λz=>nd.2.2.2 (z▸hj)⟩)
   refine rj (IH d' rfl) (G.kp (aU _) λj hj=>S3 j (by simp[hj])) hc (λj hj=>bD (lS j hj) kx.nx) (by lia) λh4 kx4 G4=>?_;have e4:=λj hj hs=>kx4.ob j (bD hj kx.nx) hs;have n4:h4.ob n=h.ob n:=by rw[e4 n ln λz=>nd.2.1 (by simp[z]),e3,k2.ob n ln]
   refine aC.of (n4.trans o)<|aF.t rfl<|aC.of rfl ?_;refine rj (IH d' rfl) (G'.kp (aU _) λj hj=>(e4 j (lS' j hj) λz=>nd.1 j z hj).trans (S3 j (by simp[hj]))) hc (λj hj=>bD (lS' j hj) (cD kx.nx kx4.nx)) (by lia) λh5 kx5 G5=>?_;have e5:=λj hj hs=>kx5.ob j (bD hj<|cD kx.nx kx4.nx) hs;have e45:∀j,j<h.nx->j∉S++S'->h5.ob j=h3.ob j:=λj hj hs=>(e5 j hj λz=>hs (by simp[z])).trans (e4 j hj λz=>hs (by simp[z]));exact q _ ((kx.sub λj hj=>by simp only[kN,gI,or_false]at hj;rcases hj with rfl|rfl|rfl<;>simp).trans ((kx4.sub λj hj=>by simp[hj]).trans (kx5.sub λj hj=>by simp[hj])))<|.ch ((e5 n ln λz=>nd.2.1 (by simp[z])).trans (n4.trans o)) (G4.kp (aU _) λj hj=>e5 j (lS j hj) (nd.1 j hj)) G5 (T3.kp (e45 t lt nd.2.2.1)<|e45 l ll nd.2.2.2) ne nd
  refine aC.of rfl<|aC.of rfl<|WC.of<|aQk rfl<|aC.of rfl<|aF.nd (λ_=>?_) λ_=>?_
  .refine aC.of o2<|aF.t rfl<|aC.of rfl<|aC.of T2.ob<|aC.of rfl<|aF.t rfl<|aC.of rfl<|aC.of rfl<|WC.of<|Cu rfl<|Ko T2 λmN e=>?_;exact aC.of ((aV (o:=.lst aB (mN.map AV.int)) ne.2.1).trans o2)<|aF.t rfl<|aC.of rfl<|rest _ mN ((Kx.of k2).put (by simp)) (aV ne.2.1) ⟨(aV ne.2.2).trans T2.ob,bB,e▸T.pos⟩
  .exact aC.of o2<|aF.t rfl<|aC.of rfl<|rest _ ls (Kx.of k2) rfl T2
theorem Jc:∀d,mx wz d (2*d+2)
 |0=>AL λa e=>by omega
 |d+1=>AL λa e=>by exact Jc a
section
variable {k:Nat}
theorem uN{c i:Int}(h0:0<=i)(h1:i<1000)(q:∀z,0<=z->z<2147483647->R (.int z) h):WC (run pg (k+1) 36 [.int c,.int i]) h R:=
 aT rfl rfl (WC.of<|Cz rfl<|aF.t (An (by lia) (by lia))<|aF.t (P9 (by lia) (by lia))<|q _ (mU _ (by decide))<|nL _ (by decide))
theorem aOd{t:Nat}{m:Int}(o:h.ob t=aA (.ins 5 []))(ht:t<h.nx)(m0:0<m)(m1:m<=64)(q:∀h' l ls,lI h' t l ls->h.nx<=l->l<h'.nx->Kx [t] h h'->R .aE h'):WC (run pg (k+1) 58 [.ref t,.int m,.int b]) h R:=by have big:=nR;refine aT rfl rfl<|WC.of<|JJ bC (by lia) (by simp;lia) (by lia) ?_;have k1:Kp h ((h.new<|.lst aB [.int b]).new (.lst aB (fA m.toNat [AV.int b]).flatten)):=Kp.refl.new.new;have a:((h.new<|.lst aB [.int b]).new (.lst aB (fA m.toNat [AV.int b]).flatten)).ob (h.new<|.lst aB [.int b]).nx=aA (.lst aB (fA m.toNat [AV.int b]).flatten):=bC;have c:(h.new<|.lst aB [.int b]).nx<((h.new<|.lst aB [.int b]).new (.lst aB (fA m.toNat [AV.int b]).flatten)).nx:=cN _;have d:h.nx<=(h.new<|.lst aB [.int b]).nx:=jQ _;generalize (h.new<|.lst aB [.int b]).new (.lst aB (fA m.toNat [AV.int b]).flatten)=e at k1 a c ⊢;generalize (h.new<|.lst aB [.int b]).nx=l at a c d ⊢;rw[LJ]at a;refine aC.of rfl<|aC.of rfl<|aC.of (k1.get ht o) ?_;refine q _ l (fA m.toNat b) ⟨bB,(aV (by omega)).trans (a.trans (by rw[LW])),by rw[Qw];omega⟩ d c<|(Kx.of k1).put (.head _)
def pQ(L c i:Nat)(as:Ht)(h:AH)(Q:AV->AH->Prop):Prop:=WC (run pg L i<|.ref h.nx::as) (h.new<|.ins c []) λv h2=>v = .aE/\Q (.ref h.nx) h2
def Gn(h:AH)(d:Nat)(Q:AV->AH->Prop):Prop:=∀h' n S,Kp h h'->Gs h' 0 d n S->(∀j∈S,h.nx<=j/\j<h'.nx)->Q (.ref n) h'
theorem aBw(q:Gn h d R):pQ (k+1) 6 61 [] h R:=
 aT rfl rfl (aC.of bC ⟨rfl,q _ _ _ (Kp.refl.new.put<|aU _) (.pl bB) λj a=>by rw[List.mem_singleton.mp a];exact⟨aU _,cN _⟩⟩)
theorem OS(q:Gn h d R):pQ (k+1) 7 61 [] h R:=
 aT rfl rfl (aC.of bC ⟨rfl,q _ _ _ (Kp.refl.new.put<|aU _) (.al bB) λj a=>by rw[List.mem_singleton.mp a];exact⟨aU _,cN _⟩⟩)
theorem gj{c:Nat}(o:h.ob n=aA (.ins c []))(hc:[6,7,8,9,10,11,12,13].contains c=aB)(q:R .aE (h.put n<|.ins c [("learned",.int 0)])):WC (run pg (k+1) 61 [.ref n]) h R:=aT rfl rfl (aC.of o<|aF.t hc q)
theorem BO{f:Bool}(q:Gn h d R):pQ (k+2) 8 67 [.bl f] h R:=by refine aT rfl rfl<|gj bC rfl<|aC.of bB<|aC.of ((dJ (show h.nx≠h.nx+1 by omega)).trans bB) ?_;refine⟨rfl,q _ h.nx [h.nx,h.nx+1] ((((Kp.refl.new.put<|aU _).put (aU _)).new).put (aU _)) (.la bB ((aV<|lD<|cN _).trans bC) (nofun) (aU _) (by omega)) λj b=>?_⟩;have nx:∀{a:AH}{o:bJ},(a.new o).nx=a.nx+1:=rfl;simp only[kN,gI,or_false]at b;simp only[xD,nx];lia
theorem Ol{h1:AH}{m:Int}{K:AV->AH->Prop}(m0:0<m)(m1:m<=64)(q:∀h2 l ls,lI h2 h1.nx l ls->h1.nx+1<=l->l<h2.nx->(∀j,j<h1.nx->h2.ob j=h1.ob j)->K .aE h2) :
  WC (run pg (k+1) 58 [.ref h1.nx,.int m,.int b]) (h1.new<|.ins 5 []) K:=
 aOd bC (cN _) m0 m1 λh2 l ls T c d kx=>q h2 l ls T c d λj a=>(kx.ob j (kC a) (by simp;lia)).trans (dJ<|bV a)
theorem Xb{m:Int}(m0:0<m)(m1:m<=64)(q:Gn h d R):pQ (k+2) 9 70 [.int m,.int b] h R:=by
 refine aT rfl rfl<|gj bC rfl ?_;have k1:Kp h ((h.new<|.ins 9 []).put h.nx (.ins 9 [("learned",.int 0)])):=Kp.refl.new.put (aU _);have c:((h.new<|.ins 9 []).put h.nx (.ins 9 [("learned",.int 0)])).ob h.nx=aA (.ins 9 [("learned",.int 0)]):=bB;have e:((h.new<|.ins 9 []).put h.nx (.ins 9 [("learned",.int 0)])).nx=h.nx+1:=rfl;generalize (h.new<|.ins 9 []).put h.nx (.ins 9 [("learned",.int 0)])=h1 at k1 c e ⊢;refine Ol m0 m1 λf l ls T g i keep=>⟨rfl,aC.of rfl (aC.of rfl<|aC.of ((keep _ (by lia)).trans c) ⟨rfl,?_⟩)⟩;refine q _ h.nx [h.nx,h1.nx,l] ⟨by simp only[xD];lia,λj a=>?_⟩ (.co bB (T.kp (aV (by lia))<|aV (by lia)) ⟨by lia,by lia,(bV ‹_›)⟩) λj a=>?_
 .rw[aV (bV ‹_›),keep j (by lia),k1.ob j a]
 .simp only[kN,gI,or_false]at a;simp only[xD];lia
theorem DV{m g:Int}(m0:0<m)(m1:m<=64)(g0:0<=g/\g<16)(q:Gn h d R):pQ (k+2) 10 73 [.int m,.int g] h R:=by
 refine aT rfl rfl<|gj bC rfl ?_;have k1:Kp h ((h.new<|.ins 10 []).put h.nx (.ins 10 [("learned",.int 0)])):=Kp.refl.new.put (aU _);have b:((h.new<|.ins 10 []).put h.nx (.ins 10 [("learned",.int 0)])).ob h.nx=aA (.ins 10 [("learned",.int 0)]):=bB;have c:((h.new<|.ins 10 []).put h.nx (.ins 10 [("learned",.int 0)])).nx=h.nx+1:=rfl;generalize (h.new<|.ins 10 []).put h.nx (.ins 10 [("learned",.int 0)])=h1 at k1 b c ⊢;refine Ol m0 m1 λe l ls T f i keep=>⟨rfl,aC.of rfl (aC.of rfl<|aC.of ((keep _ (by lia)).trans b)<|aC.of bB<|aC.of bB ⟨rfl,?_⟩)⟩;refine q _ h.nx [h.nx,h1.nx,l] ⟨by simp only[xD];lia,λj a=>?_⟩ (.pa bB (T.kp ((aV (by lia)).trans ((aV (by lia)).trans (aV (by lia))))<|(aV (by omega)).trans ((aV (by omega)).trans (aV (by omega)))) ⟨by omega,by omega,(bV ‹_›)⟩ g0 (by decide)) λj a=>?_
 .rw[aV (by omega),aV (by omega),aV (by omega),keep j (by omega),k1.ob j a]
 .simp only[kN,gI,or_false]at a;simp only[xD];omega
theorem M5{l:Nat}{bs:Yt}(ol:h.ob l=aA (.lst aB<|bs.map AV.bl))(hl:l<h.nx)(q:Gn h d R):pQ (k+2) 11 76 [.ref l] h R:=by refine aT rfl rfl<|gj bC rfl ?_;have k1:Kp h ((h.new<|.ins 11 []).put h.nx (.ins 11 [("learned",.int 0)])):=Kp.refl.new.put (aU _);have b:((h.new<|.ins 11 []).put h.nx (.ins 11 [("learned",.int 0)])).ob h.nx=aA (.ins 11 [("learned",.int 0)]):=bB;have c:((h.new<|.ins 11 []).put h.nx (.ins 11 [("learned",.int 0)])).nx=h.nx+1:=rfl;generalize (h.new<|.ins 11 []).put h.nx (.ins 11 [("learned",.int 0)])=h1 at k1 b c ⊢;refine WC.of<|uy (bO<|k1.get hl ol)<|aC.of rfl<|aC.of rfl<|aC.of ((dJ (by omega)).trans b) ⟨rfl,?_⟩;refine q _ h.nx [h.nx,h1.nx] ((k1.new).put (aU _)) (.li bB ((aV (by lia)).trans bC) (by omega)) λj e=>?_;have nx:∀{a:AH}{o:bJ},(a.new o).nx=a.nx+1:=rfl;simp only[kN,gI,or_false]at e;simp only[xD,nx];lia
end
section
variable {k:Nat}
theorem aOu{c:Nat}(G:Gs h c d n1 S1)(hS:∀j∈S1,j<h.nx)(q:∀h' n S,Kp h h'->Gs h' c (d+1) n S->(∀j∈S,j∈S1\/h.nx<=j)->(∀j∈S,j<h'.nx)->R (.ref n) h'):pQ (k+2) 12 78 [.ref n1] h R:=by
 refine aT rfl rfl<|gj bC rfl<|aC.of bB ⟨rfl,?_⟩;have kp:Kp h (((h.new<|.ins 12 []).put h.nx (.ins 12 [("learned",.int 0)])).put h.nx (.ins 12<|gC "one" (.ref n1) [("learned",.int 0)])):=(Kp.refl.new.put<|aU _).put (aU _);refine q _ h.nx (h.nx::S1) kp (.tu bB (G.kp (aU _) λj a=>kp.ob j (hS j a)) λz=>absurd (hS _ z) (lC _)) (λj a=>?_) λj a=>?_
 .rcases List.mem_cons.mp a with rfl|z
  .exact .inr<|aU _
  .exact .inl z
 .rcases List.mem_cons.mp a with rfl|z
  .exact cN _
  .exact bD (hS j z) kp.nx
theorem WN{c:Nat}{S2:Ia}{m:Int}(m0:0<m)(m1:m<=64)(G1:Gs h c d n1 S1)(G2:Gs h c d n2 S2)(h1S:∀j∈S1,j<h.nx)(h2S:∀j∈S2,j<h.nx)(dj:∀j∈S1,j∉S2)
  (q:∀h' n S,Kp h h'->Gs h' c (d+1) n S->(∀j∈S,j∈S1\/j∈S2\/h.nx<=j)->(∀j∈S,j<h'.nx)->R (.ref n) h'):pQ (k+2) 13 81 [.ref n1,.ref n2,.int m] h R:=by
 refine aT rfl rfl<|gj bC rfl<|aC.of bB<|aC.of bB ?_;have k1:Kp h ((((h.new<|.ins 13 []).put h.nx (.ins 13 [("learned",.int 0)])).put h.nx (.ins 13 [("learned",.int 0),("one",.ref n1)])).put h.nx (.ins 13 [("learned",.int 0),("one",.ref n1),("other",.ref n2)])):=((Kp.refl.new.put<|aU _).put (aU _)).put (aU _);refine Ol m0 m1 λb l ls T g i keep=>⟨rfl,aC.of rfl (aC.of rfl<|aC.of ((keep _<|cN _).trans bB) ⟨rfl,?_⟩)⟩;have T:lI b (h.nx+1) l ls:=T;have g:h.nx+2<=l:=g;have keep:=λj a=>(keep j<|kC a).trans (k1.ob j a);have f:∀{o:bJ},∀j,j<h.nx->(b.put h.nx o).ob j=h.ob j:=λj a=>(aV<|bV a).trans (keep j a);refine q _ h.nx (h.nx::(h.nx+1)::l::(S1++S2)) ⟨by simp only[xD];omega,f⟩ (.ch bB (G1.kp (aU _) λj a=>f j (h1S j a)) (G2.kp (aU _) λj a=>f j (h2S j a)) (T.kp (aV (by omega))<|aV (by omega)) ⟨by omega,by omega,by omega⟩ ⟨dj,?_,?_,?_⟩) (λj a=>?_) λj a=>?_
 .intro z;rcases List.mem_append.mp z with z|z;have:=h1S _ z;omega;have:=h2S _ z;omega
 .intro z;rcases List.mem_append.mp z with z|z;have:=h1S _ z;omega;have:=h2S _ z;omega
 .intro z;rcases List.mem_append.mp z with z|z;have:=h1S _ z;omega;have:=h2S _ z;omega
 .simp only[kN,LX]at a;rcases a with e|e|e|e|e
  .exact .inr<|.inr (by omega)
  .exact .inr<|.inr (by omega)
  .exact .inr<|.inr (by omega)
  .exact .inl e
  .exact .inr<|.inl e
 .simp only[kN,LX]at a;simp only[xD];rcases a with e|e|e|e|e
  .omega
  .omega
  .omega
  .have:=h1S _ e;omega
  .have:=h2S _ e;omega
end
section
variable {k:Nat}
theorem XC{lo hi:Hs}:(fj ns lo hi).length<=ns.length:=by unfold fj;rw[lB,vp];lia
theorem BQ{c:Int}{ps:Nat}(os:h.ob ps=aA (.lst bb<|ns.map AV.int))(hn:ns.length<=63)(q:Gn h 1 R):WC (run pg (k+4) 51 [.int c,.ref ps]) h R:=by
 have big:sizeLine=16777216:=nR;refine aT rfl rfl<|uN (k:=k+2) (by decide) (by decide) λz z0 z1=>?_;have p0:0<=z / 8:=Qf z0 (by decide);have a0:0<1+z / 8%64:=by omega
 have a1:1+z / 8%64<=64:=by omega
 refine aF.dc (λ_=>?_) λ_=>?_
 .exact aBw (k:=k+2) q
 refine aF.dc (λ_=>?_) λ_=>?_
 .exact OS (k:=k+2) q
 refine aF.dc (λ_=>?_) λ_=>?_
 .exact BO (k:=k+1) q
 refine aF.dc (λ_=>?_) λ_=>?_
 .exact Xb (k:=k+1) a0 a1 q
 refine aF.dc (λ_=>?_) λ_=>?_
 .exact DV (k:=k+1) a0 a1 (by omega) q
 refine aF.dc (λ_=>?_) λ_=>?_
 .refine WC.of<|bo<|mS<|bp<|WC.of<|uz os<|nK bC ?_;have k1:Kp h (h.new<|.lst aB<|iC (ns.map AV.int) aD<|aA 60):=Kp.refl.new;have o1:(h.new<|.lst aB<|iC (ns.map AV.int) aD<|aA 60).ob h.nx=aA (.lst aB<|(fj ns aD<|aA 60).map AV.int):=by rw[<- XE];exact bC
  have hl:=XC (ns:=ns) (lo:=aD) (hi:=aA 60);generalize h.new (.lst aB<|iC (ns.map AV.int) aD<|aA 60)=h1 at k1 o1 ⊢;generalize h.nx=m1 at o1 ⊢;generalize fj ns aD (aA 60)=ms at o1 hl ⊢;refine Gz (bb:=aB) (xs:=ms.map AV.int) (λi ys Z h'=>h'=h1/\(∃a,Z=[a])/\∃bs:Yt,ys=bs.map AV.bl/\bs.length=i) (by rw[aW,eA];omega) ⟨rfl,⟨_,rfl⟩,[],rfl,rfl⟩ (λi ys Z h' y=>by rw[y.1];exact o1) ?_ ?_
  .rintro i x ys Z h' hx ⟨rfl,⟨a,rfl⟩,bs,rfl,rfl⟩
   obtain⟨y,hy,rfl⟩:=mO hx;have hi:=(List.getElem?_eq_some_iff.mp hy).1;refine bc<|cF _ ⟨by rw[aW];omega,rfl,⟨_,rfl⟩,bs++[_],by rw[iM];rfl,by simp⟩
  rintro ys Z h' ⟨rfl,⟨a,rfl⟩,bs,rfl,_⟩
  refine M5 (k:=k+1) (d:=1) bC (cN _) λh2 n S k2 G hS=>?_;have k3:=k1.trans (Kp.refl.new.trans k2);refine q _ _ _ k3 G λj hj=>⟨?_,(hS j hj).2⟩;exact cD (k1.trans Kp.refl.new).nx (hS j hj).1
 refine aF.dc (λ_=>?_) λ_=>?_
 .refine Xb (k:=k+1) (d:=0) (R:=λv h1=>pQ (k+3) 12 78 [v] h1 R) a0 a1 λh1 n S k1 G hS=>?_;refine aOu (k:=k+1) G (λj hj=>(hS j hj).2) λh2 n2 S2 k2 G2 s1 s2=>?_;refine q _ _ _ (k1.trans k2) G2 λj hj=>⟨?_,s2 j hj⟩;rcases s1 j hj with e|e
  .exact(hS j e).1
  .exact cD k1.nx e
 .refine BO (k:=k+1) (d:=0) (R:=λv1 h1=>pQ (k+3) 10 73 [.int (1+z / 8%64),.int 4] h1 λv2 h2=>pQ (k+3) 13 81 [v1,v2,.int (1+z / 8 / 64%64)] h2 R) λh1 n1 S1 k1 G1 hS1=>?_;refine DV (k:=k+1) (d:=0) a0 a1 (by decide) λh2 n2 S2 k2 G2 hS2=>?_;refine WN (k:=k+1) (by omega) (by omega) (G1.kp (aU _) λj hj=>k2.ob j (hS1 j hj).2) G2 (λj hj=>bD (hS1 j hj).2 k2.nx) (λj hj=>(hS2 j hj).2) (λj h1 h2=>absurd (hS2 j h2).1 (Nat.not_le.mpr (hS1 j h1).2)) λh3 n3 S3 k3 G3 s1 s2=>?_;refine q _ _ _ ((k1.trans k2).trans k3) G3 λj hj=>⟨?_,s2 j hj⟩;rcases s1 j hj with e|e|e
  .exact(hS1 j e).1
  .exact cD k1.nx (hS2 j e).1
  .exact cD (k1.trans k2).nx e
end
section
def wd(v:Int):Prop:=0<=v/\v<18446744073709551616
def cY(b:Int):Prop:=0<=b/\b<8
def lX:aI->Prop
 |.way _ x y z=>cY x/\cY y/\cY z
 |.set x v=>cY x/\wd v
 |.move x y=>cY x/\cY y
 |.load x y _=>cY x/\cY y
 |.store x y _=>cY x/\cY y
 |.dQ x t=>cY x/\0<=t
 |.go t=>0<=t
 |.fault _=>True
variable {k:Nat}
def nh(h:AH)(R:AV->AH->Prop):Prop:=∀r h',Kp h h'->lX r->R r.av h'
theorem tU{i:Int}(h0:0<=i)(hn:h.ob n=aA (.lst bb<|ns.map AV.int))(q:∀z,R (.int z) h):WC (run pg (k+1) 35 [.ref n,.int i]) h R:=by exact aT rfl rfl<|WC.of<|fR (bO hn)<|aF.dc (λa=>WC.of (eJ (bO hn) (yK h0 a)<|q _)) λ_=>q _
theorem vf(z0:0<=z)(z1:z<2147483647)(q:∀w,wd w->R (.int w) h):WC (run pg (k+1) 37 [.int z]) h R:=by
 have e:(2:Int) ^ Int.toNat 64=18446744073709551616:=rfl;refine aT rfl rfl<|aF.dc (λ_=>aF.t (An (by omega) (by omega)) (WC.of<|Cz rfl ?_)) λ_=>aF.dc (λ_=>WC.of (Cz rfl ?_)) λ_=>q _ ⟨by omega,by omega⟩
 .exact(q _ ⟨mU _ (by decide),nL _ (by decide)⟩)
 .rw[e];exact q _ ⟨by omega,by omega⟩
def Cs:Ht:=[.str "sum",.str "less",.str "times",.str "share",.str "rest",.str "both",.str "some",.str "odd",.str "up",.str "down",.str "below",.str "same"]
def Pj:List dG:=[.sum,.less,.times,.share,.rest,.both,.je,.odd,.up,.down,.below,.same]
theorem aPp{i:Int}(h0:0<=i)(h1:i<12):∃w:dG,cH Cs i=aA (.str w.nm):=by
 obtain⟨n,rfl⟩:=vJ h0;have e:Cs=Pj.map λw=>.str w.nm:=rfl;have hl:n<Pj.length:=by show n<12;lia
 unfold cH;rw[e,gq (by rw[aW];exact hl)];exact⟨Pj[n],by simp only[hX,fM,dZ hl,rO]⟩
theorem aPq{b:Bool}(hx:cY x)(hy:cY y)(hz:cY z)(q:nh h R):WC (run pg (k+1) 38 [.tup [.int x,.int y,.int z],.int p,.bl b]) h R:=by
 obtain⟨w,ew⟩:=aPp (i:=p%12) (by omega) (by omega);refine aT rfl rfl<|WC.of<|eJ (bO (xs:=Cs) bC) ew ?_;have fin:∀x' z',cY x'->cY z'->R (.tup [.str w.nm,.int x',.int y,.int z']) (h.new<|.lst aB Cs):=λx' z' h1 h2=>q (.way w x' y z') _ Kp.refl.new ⟨h1,hy,h2⟩;have b4:cY (x%4):=by unfold cY;omega
 have b2:cY (6+x%2):=by unfold cY;omega
 have b5:cY 5:=⟨by decide,by decide⟩;have b6:cY 4:=⟨by decide,by decide⟩;cases b with
 |false=>exact fin _ _ hx hz|true=>refine aF.dc (λ_=>fin _ _ b4 b5) λ_=>aF.dc (λ_=>fin _ _ b2 b5) λ_=>aF.dc (λ_=>fin _ _ b6 hz) λ_=>aF.dc (λ_=>fin _ _ b6 hz) λ_=>fin _ _ b4 hz
theorem EG{kd:Bool}{b:Bool}(hx:cY x)(hy:cY y)(q:nh h R):WC (run pg (k+1) 39 [.str (if kd then "load" else "store"),.tup [.int x,.int y,.int z],.int p,.bl b]) h R:=by
 have b2:cY (6+y%2):=by unfold cY;omega
 have b5:cY (x%5):=by unfold cY;omega
 refine aT rfl rfl ?_;cases b with
 |true=>
  cases kd with
  |true=>exact q (.load _ _ _) _ Kp.refl ⟨b5,b2⟩|false=>exact q (.store _ _ _) _ Kp.refl ⟨hx,b2⟩
 |false=>
  cases kd with
  |true=>exact aF.dc (λ_=>q (.load _ _ _) _ Kp.refl ⟨hx,hy⟩) λ_=>q (.load _ _ _) _ Kp.refl ⟨hx,hy⟩|false=>exact aF.dc (λ_=>q (.store _ _ _) _ Kp.refl ⟨hx,hy⟩) λ_=>q (.store _ _ _) _ Kp.refl ⟨hx,hy⟩
noncomputable abbrev aOl:aR:=bL (bL<|bL<|bL Vo)
theorem Ll{i:Int}(h0:0<=i)(h1:i<2)(q:∀v,v=a\/v=b->Q (.int v) h)(e:h.ob n=aA (.lst aB [.int a,.int b])):WC (Op.g .ix (.ref n)<|.int i) h Q:=by
 have:i=0\/i=1:=by lia
 rcases this with rfl|rfl
 .exact WC.of<|eJ (bO e) rfl<|q _<|.inl rfl
 .exact WC.of<|eJ (bO e) rfl<|q _<|.inr rfl
theorem aOq{kd i m:Int}{b:Bool}(hx:cY x)(hy:cY y)(hz:cY z)(hi:0<=i)(hm:0<=m)(p0:0<=p)(p1:p<2147483647)(q:nh h R):WC (run pg (k+2) 40 [.int kd,.tup [.int x,.int y,.int z],.int p,.tup [.int i,.int m],.bl b]) h R:=by
 have b5:cY (x%5):=by unfold cY;omega
 have tail:∀t:Int,0<=t->dY (run pg<|k+1) aOl [aA (.int kd),aA (.tup [.int x,.int y,.int z]),aA (.int p),aA (.tup [.int i,.int m]),aA (.bl b),aA (.int x),aA (.int y),aA (.int z),aA (.int i),aA (.int m),aA (.int t)] h (λ_ h1=>R .aE h1) R (λ_ _=>False) λ_ _=>False:=λt ht=>by
  refine aF.dc (λ_=>?_) λ_=>?_
  .cases b with
   |false=>exact q (.dQ x t) _ Kp.refl ⟨hx,ht⟩|true=>exact Ll (by omega) (by omega) (λv hv=>q (.dQ v t) _ Kp.refl.new ⟨by unfold cY;omega,ht⟩) bC
  refine aF.dc (λ_=>?_) λ_=>?_
  .exact q (.go _) _ Kp.refl (by show 0<=ite _ _ _;split<;>omega)
  cases b with
  |true=>exact q (.move _ _) _ Kp.refl ⟨b5,hz⟩|false=>exact vf (k:=k) p0 p1 λw hw=>q (.fault w) _ Kp.refl trivial
 refine aT rfl rfl<|aF.dc (λ_=>?_) λ_=>?_
 .exact aF.dt (by omega)<|tail _<|mU _ (by omega)
 .refine tail _ ?_;show 0<=ite _ _ _;split<;>omega
theorem aJz{c i m:Int}{b:Bool}(h0:0<=i)(h1:i<100)(hm:0<=m)(q:nh h R):WC (run pg (k+3) 41 [.int c,.int i,.int m,.bl b]) h R:=by
 refine aT rfl rfl<|uN h0 (by lia) λz o r=>?_;have bx:∀d:Int,0<d->cY (z / d%8):=λd hd=>⟨mU _ (by decide),nL _ (by decide)⟩;have x0:=bx 20 (by decide);have g:=bx 160 (by decide);have n:=bx 1280 (by decide);have j:0<=z / 10240:=Qf o (by decide);have l:z / 10240<2147483647:=by lia
 refine aF.dc (λ_=>aPq (k:=k+1) x0 g n q) λ_=>?_;refine aF.dc (λ_=>?_) λ_=>?_
 .cases b with
  |true=>exact WC.of<|eJ (bO bC) rfl<|vf (k:=k+1) j l λw hw=>q (.set _ w) _ Kp.refl.new ⟨by unfold cY;lia,hw⟩|false=>exact WC.of<|eJ (bO bC) rfl<|vf (k:=k+1) j l λw hw=>q (.set _ w) _ Kp.refl.new ⟨by unfold cY;lia,hw⟩
 have rest:WC (run pg (k+2) 39 [.str "load",.tup [.int (z / 20%8),.int (z / 160%8),.int (z / 1280%8)],.int (z / 10240),.bl b]) h R:=EG (k:=k+1) (kd:=aB) x0 g q;have a:WC (run pg (k+2) 39 [.str "store",.tup [.int (z / 20%8),.int (z / 160%8),.int (z / 1280%8)],.int (z / 10240),.bl b]) h R:=EG (k:=k+1) (kd:=aH) x0 g q;have f:WC (run pg (k+2) 40 [.int (z%20),.tup [.int (z / 20%8),.int (z / 160%8),.int (z / 1280%8)],.int (z / 10240),.tup [.int i,.int m],.bl b]) h R:=aOq (k:=k) x0 g n h0 hm j l q;have p:cY 5:=⟨by decide,by decide⟩;refine aF.dc (λe=>?_) λe=>?_
 .cases b with
  |true=>exact q (.way .rest _ _ _) _ Kp.refl ⟨by unfold cY;lia,g,p⟩|false=>exact aF.dt e<|q (.move _ _) _ Kp.refl ⟨x0,g⟩
 .exact aF.df e<|aF.dc (λ_=>rest) λ_=>aF.dc (λ_=>a) λ_=>f
theorem K6{c i:Int}(h0:0<=i)(h1:i<100)(q:nh h R):WC (run pg (k+2) 42 [.int c,.int i]) h R:=by
 refine aT rfl rfl<|uN (by lia) (by lia) λz e f=>?_;have a:cY (z%5):=by unfold cY;lia
 have b:cY 6:=⟨by decide,by decide⟩;have d:cY 7:=⟨by decide,by decide⟩;refine aF.dc (λ_=>q (.way .rest _ _ _) _ Kp.refl ⟨b,by unfold cY;lia,⟨by decide,by decide⟩⟩) λ_=>?_;exact aF.dc (λ_=>Ll (by lia) (by lia) (λv g=>q (.store _ v _) _ Kp.refl.new ⟨a,by unfold cY;omega⟩) bC) λ_=>aF.dc (λ_=>q (.store _ _ _) _ Kp.refl ⟨a,b⟩) λ_=>q (.load _ _ _) _ Kp.refl ⟨a,d⟩
end
section
variable {k:Nat}
def nc(h:AH)(m:Nat)(rs:List aI):Prop:=h.ob m=aA (.lst aB<|rs.map aI.av)/\∀r∈rs,lX r
theorem aCf{b:Bool}(os:h.ob n=aA (.lst bb<|ns.map AV.int))(hn:n<h.nx)(hl:ns.length<=60)(q:∀h' m rs,Kp h h'->m<h'.nx->nc h' m rs->rs.length=ns.length->R (.ref m) h'):WC (run pg (k+4) 43 [.ref n,.bl b]) h R:=by
 have big:sizeLine=16777216:=nR;refine aT rfl rfl<|WC.of<|bo<|Pn<|De rfl ?_;refine⟨_,_,_,rfl,os,?_⟩;refine WS (bb:=bb) (xs:=ns.map AV.int) (λi p e h'=>Kp h h'/\(∃a c,e=[a,c,aA (.bl b),aA (.ref n)])/\∃rs:List aI,p=rs.map aI.av/\rs.length=i/\∀r∈rs,lX r) (by rw[aW,eA];omega) ⟨Kp.refl,⟨_,_,rfl⟩,[],rfl,rfl,λr hr=>by cases hr⟩ (λi p e h' y=>y.1.get hn os) ?_ ?_
 .rintro i x p e h' s ⟨kp,⟨a,c,rfl⟩,rs,rfl,d,hr⟩
  obtain⟨y,t,rfl⟩:=mO s;have A:=(List.getElem?_eq_some_iff.mp t).1;refine aPl<|cF _<|WC.of<|fR (bO<|kp.get hn os)<|aJz (k:=k) (by omega) (by omega) (by omega) λr B o f=>⟨by rw[aW];omega,kp.trans o,⟨_,_,rfl⟩,rs++[r],by rw[iM];rfl,by rw[eU,d];rfl,λu g=>?_⟩;rcases List.mem_append.mp g with z|z
  .exact hr u z
  .rw[List.mem_singleton.mp z];exact f
 rintro p e h1 ⟨k1,⟨a,c,rfl⟩,rs,rfl,d,hr⟩
 have k2:Kp h (h1.new<|.lst aB<|rs.map aI.av):=k1.new;have j:(h1.new<|.lst aB<|rs.map aI.av).ob h1.nx=aA (.lst aB<|rs.map aI.av):=bC;have l:h1.nx<(h1.new<|.lst aB<|rs.map aI.av).nx:=cN _;have v:=k1.nx;rw[aW]at d;generalize h1.new (.lst aB<|rs.map aI.av)=D at k2 j l ⊢;generalize h1.nx=m at j l v ⊢;have s2:=k2.get hn os;cases b with
 |false=>exact q _ _ rs k2 l ⟨j,hr⟩ d|true=>
  refine WC.of<|fR (bO s2)<|aF.dc (λE=>?_) λ_=>q _ _ rs k2 l ⟨j,hr⟩ d;refine WC.of<|eJ (bO s2) (yK (by decide) (by omega))<|aC.of rfl<|aF.dc (λ_=>?_) λ_=>q _ _ rs k2 l ⟨j,hr⟩ d;refine WB.of ?_;with_reducible refine lR<|Pn<|De rfl ?_
  refine⟨_,_,_,rfl,s2,?_⟩;refine Zd (xs:=ns.map AV.int) (λi e h'=>(∃a c,e=[aA (.ref n),aA (.bl aB),aA (.ref m),a,c])/\Kp h h'/\m<h'.nx/\∃rs:List aI,nc h' m rs/\rs.length=ns.length) (by rw[aW,eA];omega) ⟨⟨_,_,rfl⟩,k2,l,rs,⟨j,hr⟩,d⟩ (λi e h' y=>y.2.1.get hn os) ?_ ?_
  .rintro i x e h' s ⟨⟨a,c,rfl⟩,kp,lm,rs,⟨w,hr⟩,d⟩
   obtain⟨y,t,rfl⟩:=mO s;have A:=(List.getElem?_eq_some_iff.mp t).1;refine jY _<|fW _<|aF.dc (λ_=>?_) λ_=>⟨⟨_,_,rfl⟩,kp,lm,rs,⟨w,hr⟩,d⟩;refine K6 (k:=k+1) (by omega) (by omega) λr B o f=>?_;refine vg (o.get lm w) (gq (by rw[aW];omega)) ⟨⟨_,_,rfl⟩,(kp.trans o).put v,bD lm o.nx,rs.set i r,⟨?_,λu g=>?_⟩,by rw[cf];exact d⟩
   .rw[bB,ki]
   .rcases Rb g with z|z
    .exact hr u z
    .rw[z];exact f
  rintro e h' ⟨⟨a,c,rfl⟩,kp,lm,rs,C,d⟩
  exact q _ _ rs kp lm C d
end
section
variable {k:Nat}
theorem oA(e:h.ob n=aA (.lst aB xs)):zS h (.ref n)=aB:=by simp only[zS,e]
def dX(p:Int×Int):AV:=.tup [.int p.1,.int p.2]
def ei(tb:Yj):Prop:=tb.length=5/\∀p∈tb,1<=p.1/\1<=p.2/\p.2<=16
theorem aNp{c:Int}(q:∀h' tb,Kp h h'->ei tb->R (.tup<|tb.map dX) h'):WC (run pg (k+2) 50 [.int c,.int 16]) h R:=by
 have big:sizeLine=16777216:=nR;refine aT rfl rfl<|WB.of ?_;with_reducible refine lR<|vd ?_
 refine⟨ue (by omega) (by omega),?_⟩;have k1:Kp h (h.new<|.lst aB []):=Kp.refl.new;have l:(h.new<|.lst aB []).ob h.nx=aA (.lst aB []):=bC;have l1:h.nx<(h.new<|.lst aB []).nx:=cN _;generalize em:h.nx=m at l l1 ⊢;refine Ii (λi f h'=>(∃a b,f=[aA (.int c),aA (.int 16),aA (.ref m),a,b])/\Kp h h'/\m<h'.nx/\∃tb:Yj,h'.ob m=aA (.lst aB<|tb.map dX)/\tb.length=i/\∀p∈tb,1<=p.1/\1<=p.2/\p.2<=16) (by rw[eA];decide) ⟨⟨_,_,rfl⟩,k1,l1,[],l,rfl,λp g=>by cases g⟩ ?_ ?_
 .rintro i f h' hi ⟨⟨a,b,rfl⟩,kp,lm,tb,e,tl,ht⟩
  have app:∀p:Int×Int,1<=p.1/\1<=p.2/\p.2<=16->∀{Q:AV->AH->Prop},(∀d,(Kp h d/\m<d.nx/\∃tb:Yj,d.ob m=aA (.lst aB<|tb.map dX)/\tb.length=i+1/\∀p∈tb,1<=p.1/\1<=p.2/\p.2<=16)->Q .aE d)->WC (uC (.ref m)<|dX p) h' Q:=λp g Q q=>by
   refine WC.of<|rE e (by rw[aW];omega)<|q _ ⟨kp.put (by omega),lm,tb++[p],by rw[bB,iM];rfl,by rw[eU,tl];rfl,λp' j=>?_⟩;rcases List.mem_append.mp j with z|z
   .exact ht p' z
   .rw[List.mem_singleton.mp z];exact g
  refine jY _<|fW _<|uN (by omega) (by omega) λz z0 z1=>aF.dc (λ_=>?_) λ_=>?_
  .exact aF.t (oA e)<|app (1+z / 4%8,1+z / 32%16) ⟨by omega,by omega,by omega⟩ λd y=>⟨⟨_,_,rfl⟩,y⟩
  .exact aF.t (oA e)<|app (1+z / 4%2,1+z / 8%4) ⟨by omega,by omega,by omega⟩ λd y=>⟨⟨_,_,rfl⟩,y⟩
 rintro f h' ⟨⟨a,b,rfl⟩,kp,lm,tb,e,tl,ht⟩
 exact WC.of<|rF (bO e)<|q _ tb kp ⟨tl,ht⟩
end
section
variable {k:Nat}
theorem JQ(hw:kZ ws)(w0:wd w):kZ (ws++[w]):=λx a=>by
 rcases List.mem_append.mp a with z|z
 .exact hw x z
 .rw[List.mem_singleton.mp z];exact w0
noncomputable abbrev aLr:aR:=bL (bL<|bL<|bL Vn)
theorem HJ{c o v:Int}{b:Bool}{m room:Nat}{bx:Hx}(om:h.ob m=aA (.lst aB<|bx.map AV.int))(hm:m<h.nx)(r1:room<=80)(q:∀h' mem,Kp h h'->kZ mem->mem.length=room->R (.tup [.int 0,.tup (bx.map AV.int),.tup (mem.map AV.int)]) h') :
  dY (run pg<|k+1) aLr [aA (.int c),aA (.int o),aA (.bl b),aA (.ref m),aA (.int v),aA (.int room),aD] h (λ_ h1=>R .aE h1) R (λ_ _=>False) λ_ _=>False:=by
 have big:=nR;refine WC.of ?_;with_reducible refine bo ?_
 with_reducible refine vd ?_
 refine⟨ue (by lia) (by lia),?_⟩;refine Wz (λi d e h'=>h'=h/\(∃a,e=[a,aA (.int o)])/\∃ws:Hx,d=ws.map AV.int/\ws.length=i/\kZ ws) (by rw[eA];lia) ⟨rfl,⟨_,rfl⟩,[],rfl,rfl,nofun⟩ ?_ ?_
 .rintro i d e h' l ⟨rfl,⟨a,rfl⟩,ws,rfl,wl,hw⟩
  refine bc<|cF _<|uN (by lia) (by lia) λz g j=>vf g j λw f=>⟨by rw[aW];lia,rfl,⟨_,rfl⟩,ws++[w],by rw[iM];rfl,by rw[eU,wl];rfl,JQ hw f⟩
 rintro d e h' ⟨rfl,⟨a,rfl⟩,ws,rfl,wl,hw⟩
 exact WC.of<|rF (bO<|(Kp.refl.new (a:=h')).get hm om)<|WC.of<|rF (bO bC)<|q _ ws Kp.refl.new hw (by rw[wl];lia)
theorem aLs{c o:Int}{b:Bool}(q:∀h' bx mem,Kp h h'->kZ bx->bx.length=8->kZ mem->0<mem.length->mem.length<=80->R (.tup [.int 0,.tup (bx.map AV.int),.tup (mem.map AV.int)]) h'):WC (run pg (k+2) 44 [.int c,.int o,.bl b]) h R:=by
 have big:=nR;refine aT rfl rfl<|WC.of<|bo<|vd ?_;refine⟨ue (by lia) (by lia),?_⟩;refine Wz (λi y A h'=>h'=h/\(∃a,A=[a,aA (.int c)])/\∃ws:Hx,y=ws.map AV.int/\ws.length=i/\kZ ws) (by rw[eA];decide) ⟨rfl,⟨_,rfl⟩,[],rfl,rfl,λw hw=>by cases hw⟩ ?_ ?_
 .rintro i y A h' N ⟨rfl,⟨a,rfl⟩,ws,rfl,wl,hw⟩
  refine bc<|cF _<|uN (k:=k) (by lia) (by lia) λz p s=>vf (k:=k) p s λw d=>⟨by rw[aW];lia,rfl,⟨_,rfl⟩,ws++[w],by rw[iM];rfl,by rw[eU,wl];rfl,JQ hw d⟩
 rintro y A h' ⟨rfl,⟨a,rfl⟩,ws,rfl,wl,hw⟩
 have k1:Kp h' (h'.new<|.lst aB<|ws.map AV.int):=Kp.refl.new;have B:(h'.new<|.lst aB<|ws.map AV.int).ob h'.nx=aA (.lst aB<|ws.map AV.int):=bC;have t:h'.nx<(h'.new<|.lst aB<|ws.map AV.int).nx:=cN _;generalize h'.new (.lst aB<|ws.map AV.int)=h1 at k1 B t ⊢;generalize h'.nx=J at B t ⊢;refine uN (k:=k) (by decide) (by decide) λz p s=>?_;have k2:Kp h' (h1.new<|.lst aB [.int 16,.int 64]):=k1.new;have u:=(Kp.refl.new (a:=h1) (o:=.lst aB [.int 16,.int 64])).get t B;have C:J<(h1.new<|.lst aB [.int 16,.int 64]).nx:=kC t;refine Ll (by split<;>decide) (by split<;>decide) (λv O=>?_) bC;generalize h1.new (.lst aB [.int 16,.int 64])=n at k2 u C ⊢;refine uN (k:=k) (by decide) (by decide) λz p s=>aF.dt (by lia) ?_;cases b with
 |false=>have D:0<=z%v:=mU _ (by lia);have K:z%v<v:=nL _ (by lia);obtain⟨r,hr⟩:=vJ D;have:=HJ (k:=k) (c:=c) (o:=o) (v:=v) (b:=aH) (R:=R) u C (room:=1+r) (by lia) λE mem kp hm hl=>q _ ws mem (k2.trans kp) hw wl hm (by lia) (by lia);rw[show((1+r:Nat):Int)=1+z%v by lia]at this;exact this
 |true=>
  obtain⟨e,a1,a2,f,g,j,l,m,rfl⟩:=IS wl;refine uN (k:=k) (by decide) (by decide) λz p s=>aF.dt (by lia) ?_;refine bp<|WC.of<|uz u ?_;have x:=(Kp.refl.new (a:=n) (o:=.lst aB (iC ([e,a1,a2,f,g,j,l,m].map AV.int) aD<|aA 5))).get C u;have F:(n.new<|.lst aB<|iC ([e,a1,a2,f,g,j,l,m].map AV.int) aD<|aA 5).ob n.nx=aA (.lst aB [.int e,.int a1,.int a2,.int f,.int g]):=bC;have G:Kp h' (n.new<|.lst aB<|iC ([e,a1,a2,f,g,j,l,m].map AV.int) aD<|aA 5):=k2.new;have H:n.nx<(n.new<|.lst aB<|iC ([e,a1,a2,f,g,j,l,m].map AV.int) aD<|aA 5).nx:=cN _;generalize n.new (.lst aB<|iC ([e,a1,a2,f,g,j,l,m].map AV.int) aD<|aA 5)=I at x F G H ⊢;refine WC.of<|eJ (bO x) rfl<|WC.of<|eJ (bO x) rfl<|WC.of<|eJ (bO x) rfl ?_;refine WC.of<|aPt ((Kp.refl.new (a:=I)).get H F) bC (by simp;lia) ?_;have D:0<=z%(v-6):=mU _ (by lia);have K:z%(v-6)<v-6:=nL _ (by lia);obtain⟨r,hr⟩:=vJ D;have L:Kp h' ((I.new<|.lst aB [.int (1+j%4),.int (l%4),.int (m%4)]).new (.lst aB<|[.int e,.int a1,.int a2,.int f,.int g]++[.int (1+j%4),.int (l%4),.int (m%4)])):=G.new.new;have M:kZ [e,a1,a2,f,g,1+j%4,l%4,m%4]:=λw d=>by
   simp only[kN,gI,or_false]at d;rcases d with rfl|rfl|rfl|rfl|rfl|rfl|rfl|rfl
   .exact hw _ (by simp)
   .exact hw _ (by simp)
   .exact hw _ (by simp)
   .exact hw _ (by simp)
   .exact hw _ (by simp)
   .lia
   .lia
   .lia
  have:=HJ (k:=k) (c:=c) (o:=o) (v:=v) (b:=aB) (R:=R) bC (cN _) (room:=7+r) (by omega) λE mem kp hm hl=>q _ _ mem (L.trans kp) M rfl hm (by omega) (by omega);rw[show((7+r:Nat):Int)=7+z%(v-6) by omega]at this;exact this
end
section
variable {k:Nat}
theorem Av(q:V1 (.int 18446744073709551616) h):WC (Op.g .pow (.int 2)<|.int 64) h V1:=by refine WC.of<|Cz rfl ?_;exact q
theorem L7{w:dG}(a0:wd a)(b0:wd b)(hz:¬(w.sr=aB/\b=0))(q:R (.int<|w.wk a b) h):WC (run pg (k+1) 45 [.str w.nm,.int a,.int b]) h R:=by
 obtain⟨a0,a1⟩:=a0;obtain⟨b0,b1⟩:=b0;have n0:0<=nE b:=by unfold nE;split<;>omega
 have n1:nE b<=64:=by unfold nE;split<;>omega
 refine aT rfl rfl ?_;cases w with
 |sum=>exact Av q|less=>exact Av q|times=>exact aF.t (An (by omega) (by omega))<|Av q|share=>exact aF.t (Xs (by rcases vm b0 with e|e;exact e;exact absurd ⟨rfl,e.symm⟩ hz) b1) q|rest=>exact aF.dt (by rcases vm b0 with e|e;exact e;exact absurd ⟨rfl,e.symm⟩ hz) q|both=>exact WC.of<|JB q|je=>exact WC.of<|JC q|odd=>exact WC.of<|Ct q|up=>exact WC.of<|Pm (Lq a0 a1 n0 n1)<|Av q|down=>exact WC.of<|JK n0 q|below=>exact(by
  have:dG.wk a b .below=if(decide<|a<b)=aB then 1 else 0:=by unfold dG.wk;simp
  rw[this]at q;exact q)
 |same=>exact(by
  have:dG.wk a b .same=if(decide<|a=b)=aB then 1 else 0:=by unfold dG.wk;simp
  rw[this]at q;exact q)
end
section
variable {k:Nat}
def gW(bx:Hx)(r:aI):Hx:=r.eG.map (cell bx)
def qm(bx mem:Hx):aI->AV
 |.load _ y s=>.int (cell mem<|cell bx y+s)
 |_=>.aE
def fZ(a:Int)(bx mem:Hx)(r:aI):AV:=r.dB a (gW bx r) mem.length (qm bx mem r)
theorem yN{bx:Hx}(hl:bx.length=8)(hx:cY x):cH (bx.map AV.int) x=aA (.int<|cell bx x):=yK hx.1 (by rw[aW,hl];exact hx.2)
theorem ED{ld:Bool}{s:Int}{nm:Nat}{bx:Hx}(ob:h.ob nb=aA (.lst aB<|bx.map AV.int))(om:h.ob nm=aA (.lst aB<|mem.map AV.int))(hl:bx.length=8)(hx:cY x)(hy:cY y)(q:R (fZ a bx mem<|if ld then .load x y s else .store x y s) h) :
  WC (run pg (k+1) 46 [aI.av (if ld then .load x y s else .store x y s),.int a,.ref nb,.ref nm]) h R:=by
 have ml:((mem.map AV.int).length:Int)=mem.length:=by rw[aW]
 cases ld with
 |true=>
  have e:fZ a bx mem (.load x y s)=if 0<=cell bx y+s/\cell bx y+s<(mem.length:Int) then .tup [.int a,.int x,.int (cell bx y+s),.int (cell mem<|cell bx y+s),.int (a+1),.aE] else .tup [.int a,.aE,.aE,.aE,.aE,.tup [.str "place",.int (cell bx y+s)]]:=by unfold fZ aI.dB aI.ft;show(match (if 0<=cell bx y+s/\cell bx y+s<(mem.length:Int) then aD else aA (AV.tup [.str "place",.int (cell bx y+s)]))with|some f=>_|none=>_)=_;split<;>split<;>first|rfl|(rename_i h1 h2;simp_all)
  simp only[if_true]at q ⊢;rw[e]at q;refine aT rfl rfl<|WC.of<|eJ (bO ob) (yN hl hy)<|aF.dc (λh0=>?_) λh0=>WC.of (fR (bO om)<|aF.dc (λh1=>?_) λh1=>?_)
  .rw[if_neg λz=>by omega]at q;exact q
  .rw[ml]at h1;rw[if_neg λz=>by omega]at q;exact q
  .rw[ml]at h1;rw[if_pos ⟨by omega,by omega⟩]at q;exact WC.of<|eJ (bO om) (yK (by omega) (by omega)) q
 |false=>
  have e:fZ a bx mem (.store x y s)=if 0<=cell bx y+s/\cell bx y+s<(mem.length:Int) then .tup [.int a,.aE,.int (cell bx y+s),.int (cell bx x),.int (a+1),.aE] else .tup [.int a,.aE,.aE,.aE,.aE,.tup [.str "place",.int (cell bx y+s)]]:=by unfold fZ aI.dB aI.ft;show(match (if 0<=cell bx y+s/\cell bx y+s<(mem.length:Int) then aD else aA (AV.tup [.str "place",.int (cell bx y+s)]))with|some f=>_|none=>_)=_;split<;>split<;>first|rfl|(rename_i h1 h2;simp_all)
  simp only[vi,if_false]at q ⊢;rw[e]at q;refine aT rfl rfl<|WC.of<|eJ (bO ob) (yN hl hy)<|aF.dc (λh0=>?_) λh0=>WC.of (fR (bO om)<|aF.dc (λh1=>?_) λh1=>?_)
  .rw[if_neg λz=>by omega]at q;exact q
  .rw[ml]at h1;rw[if_neg λz=>by omega]at q;exact q
  .rw[ml]at h1;rw[if_pos ⟨by omega,by omega⟩]at q;exact WC.of<|eJ (bO ob) (yN hl hx) q
end
section
variable {k:Nat}
theorem wH{bx:Hx}(hw:kZ bx){i:Int}:wd (cell bx i):=by
 unfold cell;rw[Du];cases e:bx[i.toNat]? with
 |none=>exact⟨by decide,by decide⟩|some v=>exact hw v<|cM e
theorem EB{u:AV}{b:Bool}(e:h.ob n=aA (.lst aB [u,v]))(q:Q (if b=aB then v else u) h):WC (Op.g .ix (.ref n)<|.int<|if b=aB then 1 else 0) h Q:=by
 cases b with
 |true=>exact WC.of<|eJ (bO e) rfl q|false=>exact WC.of<|eJ (bO e) rfl q
theorem K8{nm:Nat}{bx:Hx}(hr:lX r)(ob:h.ob nb=aA (.lst aB<|bx.map AV.int))(om:h.ob nm=aA (.lst aB<|mem.map AV.int))(lb:nb<h.nx)(hl:bx.length=8)(hw:kZ bx)(q:∀h',Kp h h'->R (fZ a bx mem r) h') :
  WC (run pg (k+2) 47 [r.av,.int a,.ref nb,.ref nm]) h R:=by
 have q0:=q _ Kp.refl;refine aT rfl rfl ?_;cases r with
 |load x y s=>exact ED (k:=k) (ld:=aB) ob om hl hr.1 hr.2 q0|store x y s=>exact ED (k:=k) (ld:=aH) ob om hl hr.1 hr.2 q0|fault v=>exact q0|go t=>exact q0|set x v=>exact q0|move x y=>exact WC.of<|eJ (bO ob) (yN hl hr.2) q0|dQ x t=>
  have q1:=q (h.new<|.lst aB [.int (a+1),.int t]) Kp.refl.new;refine WC.of<|eJ (bO<|(Kp.refl.new (a:=h)).get lb ob) (yN hl hr.1) ?_;refine EB bC ?_;have e:fZ a bx mem (.dQ x t) = .tup [.int a,.aE,.aE,.aE,if(!decide (cell bx x=0))=aB then .int t else .int (a+1),.aE]:=by
   show AV.tup [.int a,.aE,.aE,.aE,.int (if cell bx x≠0 then t else a+1),.aE]=_;by_cases hc:cell bx x=0
   .rw[if_neg λz=>z hc,decide_eq_true hc];rfl
   .rw[if_pos hc,decide_eq_false hc];rfl
  rw[e]at q1;exact q1
 |way w x y z=>
  refine aF.df (su w)<|aF.df (Ap w)<|aF.df (CW w)<|aF.df (CY w)<|aF.df (sm w)<|aF.df (Q9 w)<|aF.df (CZ w)<|WC.of<|eJ (bO ob) (yN hl hr.2.1)<|WC.of<|eJ (bO ob) (yN hl hr.2.2) ?_;have wk:¬(w.sr=aB/\cell bx z=0)->fZ a bx mem (.way w x y z) = .tup [.int a,.int x,.aE,.int (w.wk (cell bx y)<|cell bx z),.int (a+1),.aE]:=λhn=>by
   have:aI.ft [cell bx y,cell bx z] mem.length (.way w x y z)=aD:=by
    show cond w.sr (if cell bx z=0 then _ else aD) aD=aD;cases hs:w.sr with
    |false=>rfl|true=>exact if_neg λz=>hn ⟨hs,z⟩
   show aI.dB a [cell bx y,cell bx z] mem.length _ (.way w x y z)=_;unfold aI.dB;rw[this];rfl
  have go:¬(w.sr=aB/\cell bx z=0)->WC (run pg (k+1) 45 [.str w.nm,.int (cell bx y),.int (cell bx z)]) h λv h1=>R (.tup [.int a,.int x,.aE,v,.int (a+1),.aE]) h1:=λhn=>L7 (k:=k) (wH hw) (wH hw) hn (by rw[wk hn]at q0;exact q0);have ng:w.sr=aB->cell bx z=0->R (.tup [.int a,.aE,.aE,.aE,.aE,.tup [.str "nought",.int (cell bx y)]]) h:=λh1 h2=>by
   have:fZ a bx mem (.way w x y z) = .tup [.int a,.aE,.aE,.aE,.aE,.tup [.str "nought",.int (cell bx y)]]:=by
    have:aI.ft [cell bx y,cell bx z] mem.length (.way w x y z)=aA (.tup [.str "nought",.int (cell bx y)]):=by show cond w.sr (if cell bx z=0 then _ else aD) aD=_;rw[h1,if_pos h2];rfl
    show aI.dB a [cell bx y,cell bx z] mem.length _ (.way w x y z)=_;unfold aI.dB;rw[this]
   rw[this]at q0;exact q0
  refine aF.dc (λh0=>?_) λh0=>go λz=>h0 z.2;rcases HI w with rfl|rfl|hs
  .exact ng rfl h0
  .exact ng rfl h0
  .exact aF.df (DB hs)<|aF.df (DA hs) (go λz=>by rw[hs]at z;cases z.1)
end
theorem Va(a0:0<=a)(b0:0<=b):0<=tD a b/\tD a b<=a/\tD a b<=b:=by have c:=PyProof.Rows.bitAnd_pp a0 b0;have d:a.toNat &&& b.toNat<=a.toNat:=Nat.and_le_left;have e:a.toNat &&& b.toNat<=b.toNat:=Nat.and_le_right;lia
theorem DP:∀(n:Nat) {x y:Int},0<=x->0<=y->x<2 ^ n->y<2 ^ n->x+y-tD x y<2 ^ n
 |0,x,y,x0,a,b,c=>by have e:2 ^ 0=1:=rfl;have:=Va x0 a;lia
 |n+1,x,y,x0,a,b,c=>by
  have e:2 ^ (n+1)=2*2 ^ n:=by lia
  have f:=DP n (x:=x / 2) (y:=y / 2) (by lia) (by lia) (by lia) (by lia);have d:=W.kbt_halves x y;split at d<;>lia
theorem aQy{w:dG}(a0:0<=a)(a1:a<18446744073709551616)(b0:0<=b)(b1:b<18446744073709551616)(hz:¬(w.sr=aB/\b=0)):0<=w.wk a b/\w.wk a b<18446744073709551616:=by
 have f:=PyProof.Rows.bitOr_and a b;have g:=bitXor_and a b;have h:=Va a0 b0;have i:2 ^ 64=18446744073709551616:=rfl;have j:=DP 64 a0 b0 (a1) (b1);have hb:=λe=>(vm b0).resolve_right λz=>hz ⟨e,z.symm⟩;have c:∀d:Int,0<d->0<=a / d/\a / d<18446744073709551616:=λd hd=>⟨Qf a0 (Int.le_of_lt hd),Int.lt_of_le_of_lt (Int.ediv_le_self d a0) a1⟩;cases w with
 |sum=>exact⟨mU _ (by decide),nL _ (by decide)⟩|less=>exact⟨mU _ (by decide),nL _ (by decide)⟩|times=>exact⟨mU _ (by decide),nL _ (by decide)⟩|share=>exact c b<|hb rfl|rest=>exact⟨mU _ (by have:=hb rfl;lia),Qh (nL _<|hb rfl) b1⟩|both=>show 0<=tD a b/\tD a b<_;lia|je=>show 0<=jx a b/\jx a b<_;omega|odd=>show 0<=jy a b/\jy a b<_;omega|up=>exact⟨mU _ (by decide),nL _ (by decide)⟩|down=>exact c _<|KQ (by decide)|below=>show 0<=(if a<b then 1 else 0)/\(if a<b then 1 else 0)<_;split<;>omega|same=>show 0<=(if a=b then 1 else 0)/\(if a=b then 1 else 0)<_;split<;>omega
structure Sd where
 pc:Int
 bx:Hx
 mem:Hx
def Sd.av(s:Sd):AV:=.tup [.int s.pc,.tup (s.bx.map AV.int),.tup (s.mem.map AV.int)]
structure Sd.ok(s:Sd):Prop where
 pc:0<=s.pc
 bl:s.bx.length=8
 bw:kZ s.bx
 mw:kZ s.mem
def yL(s:Sd):aI->Int
 |.way w _ y z=>w.wk (cell s.bx y) (cell s.bx z) | .set _ v=>v | .move _ y=>cell s.bx y | .load _ y d=>cell s.mem (cell s.bx y+d) | .store x _ _=>cell s.bx x
 |_=>0
def oj(s:Sd)(r:aI):Hx:=match r with
 |.way _ x _ _=>s.bx.set x.toNat (yL s r) | .set x _=>s.bx.set x.toNat (yL s r) | .move x _=>s.bx.set x.toNat (yL s r) | .load x _ _=>s.bx.set x.toNat (yL s r)
 |_=>s.bx
def rq(s:Sd)(r:aI):Hx:=match r with
 |.store _ y d=>s.mem.set (cell s.bx y+d).toNat (yL s r)
 |_=>s.mem
def dU(s:Sd)(r:aI):Yo:=r.ft (gW s.bx r) s.mem.length
def pK(s:Sd)(r:aI):Sd:=⟨r.gs s.pc (gW s.bx r),oj s r,rq s r⟩
def Sd.dB(s:Sd)(r:aI):AV:=fZ s.pc s.bx s.mem r
def iJ(rows:List aI):Nat->Sd->List (aI×Sd)
 |0,_=>[]
 |n+1,s=>match rows[s.pc.toNat]? with
  |none=>[]
  |some r=>(r,s)::match dU s r with
   |some _=>[]
   |none=>iJ rows n (pK s r)
theorem JP{v:Int}(hw:kZ ws)(hv:wd v):kZ (ws.set i v):=λx a=>by
 rcases Rb a with z|z
 .exact hw x z
 .rw[z];exact hv
theorem VI{s:Sd}(hs:s.ok)(hr:lX r)(hf:dU s r=aD):wd (yL s r):=by
 cases r with
 |way w x y z=>
  have h1:=wH hs.bw (i:=y);have a:=wH hs.bw (i:=z);exact aQy h1.1 h1.2 a.1 a.2 λe=>by have:dU s (.way w x y z)=cond w.sr (if cell s.bx z=0 then aA (.tup [.str "nought",.int (cell s.bx y)]) else aD) aD:=rfl;rw[this,e.1,if_pos e.2]at hf;cases hf
 |set x v=>exact hr.2|move x y=>exact wH hs.bw|load x y d=>exact wH hs.mw|store x y d=>exact wH hs.bw|_=>exact(⟨by decide,by decide⟩:wd 0)
theorem Ob{s:Sd}(hs:s.ok)(hr:lX r)(hf:dU s r=aD):(pK s r).ok:=by
 have hb:=VI hs hr hf;refine⟨?_,?_,?_,?_⟩
 .have:=hs.pc;cases r with
  |go t=>exact hr|dQ x t=>show 0<=ite _ _ _;split;exact hr.2;lia|_=>show 0<=s.pc+1;lia
 .cases r<;>first|exact hs.bl|(show(fB _ _ _).length=8;rw[cf];exact hs.bl)
 .cases r<;>first|exact hs.bw|exact JP hs.bw hb
 .cases r<;>first|exact hs.mw|exact JP hs.mw hb
variable {ps:List (aI×Sd)}
section
variable {k:Nat}
def gY(ps:List (aI×Sd)):Ht:=ps.map λp=>p.2.dB p.1
inductive xi(h:AH)(nr b:Nat)(s:Sd)(rs:List aI)(i:Nat)(Z:aG)(h':AH):Prop
 |mk (s':Sd) (done:List (aI×Sd)) (v8:Yo) (zs:Ht) (z:AV) (_:Kp h h') (_:b+4<=h'.nx) (_:Z=[aA (.ref nr),aA s.av,aA (.int 45),aA (.int s'.pc),aA (.ref b),aA (.ref<|b+1),aA (.ref<|b+2),aA (.ref<|b+3),v8]) (_:h'.ob b=aA (.lst aB<|s'.bx.map AV.int)) (_:h'.ob (b+1)=aA (.lst aB<|s'.mem.map AV.int)) (_:h'.ob (b+2)=aA (.lst aB<|gY done)) (_:h'.ob (b+3)=aA (.lst aB<|zs++[z])) (_:zs.length=i) (_:done.length=i) (_:i<=45) (_:s'.ok) (_:iJ rs 45 s=done++iJ rs (45-i) s'):xi h nr b s rs i Z h'
def whB:aR->aR
 |.cons (.vc _ b) _=>b
 |_=>.nil
noncomputable abbrev aKa:aR:=bL (bL<|bL<|bL<|bL<|whB<|bL<|bL<|bL Vl)
theorem OW{i:Int}(h0:0<=i)(h1:i<(rs.map aI.av).length):∃r,rs[i.toNat]?=aA r/\cH (rs.map aI.av) i=aA r.av:=by
 have hl:i.toNat<rs.length:=by rw[aW]at h1;lia
 refine⟨rs[i.toNat],dZ hl,?_⟩;unfold cH iI;rw[if_pos h0,if_pos h1];simp only[hX,fM,dZ hl,rO]
theorem Lr{s:Sd}(h:n=0\/¬s.pc<(rs.length:Int))(h0:0<=s.pc):iJ rs n s=[]:=by
 cases n with
 |zero=>rfl|succ n=>have:rs[s.pc.toNat]?=aD:=Qp (by rcases h with h|h<;>lia);unfold iJ;rw[this]
theorem Bb{s:Sd}(e:rs[s.pc.toNat]?=aA r):iJ rs (n+1) s=(r,s)::(match dU s r with|some _=>[] | none=>iJ rs n (pK s r)):=by show(match rs[s.pc.toNat]? with|none=>[] | some r=>(r,s)::match dU s r with|some _=>[] | none=>iJ rs n (pK s r))=_;rw[e]
inductive ON(s:Sd)(r:aI):Prop
 |bx (x v:Int) (_:r.fl = .int x) (_:r.br (gW s.bx r) (qm s.bx s.mem r) = .int v) (_:cY x) (_:oj s r=s.bx.set x.toNat v) (_:rq s r=s.mem)
 |me (x v:Int) (_:r.fl = .aE) (_:r.pl (gW s.bx r) = .int x) (_:r.br (gW s.bx r) (qm s.bx s.mem r) = .int v) (_:0<=x/\x<(s.mem.length:Int)) (_:oj s r=s.bx) (_:rq s r=s.mem.set x.toNat v)
 |no (_:r.fl = .aE) (_:r.pl (gW s.bx r) = .aE) (_:oj s r=s.bx) (_:rq s r=s.mem)
theorem stC{s:Sd}(hr:lX r)(f:dU s r=aD):ON s r:=by
 cases r with
 |store x y d=>
  have f:(if 0<=cell s.bx y+d/\cell s.bx y+d<(s.mem.length:Int) then aD else aA (AV.tup [.str "place",.int (cell s.bx y+d)]))=aD:=f;by_cases a:0<=cell s.bx y+d/\cell s.bx y+d<(s.mem.length:Int)
  .exact .me _ _ rfl rfl rfl a rfl rfl
  .rw[if_neg a]at f;cases f
 |way w x y z=>exact .bx _ _ rfl rfl hr.1 rfl rfl|set x v=>exact .bx _ _ rfl rfl hr.1 rfl rfl|move x y=>exact .bx _ _ rfl rfl hr.1 rfl rfl|load x y d=>exact .bx _ _ rfl rfl hr.1 rfl rfl|fault v=>cases f|_=>exact .no rfl rfl rfl rfl
theorem aBx{s:Sd}(Rw:nc h nr rs)(lr:nr<h.nx)(hs:s.ok)(hl:rs.length<=60)(q:∀h' nd ns,Kp h h'->nd<h'.nx->h'.ob nd=aA (.lst aB<|gY<|iJ rs 45 s)->R (.tup [.ref nd,.ref ns]) h'):WC (run pg (k+3) 48 [.ref nr,s.av,.int 45]) h R:=by
 have big:sizeLine=16777216:=nR;refine aT rfl rfl<|WC.of<|uy rfl<|WC.of<|uy rfl ?_;refine WB.of ?_;with_reducible refine xM ?_
 refine vG (xi h nr h.nx s rs) 45 (λi Z h' y=>by obtain⟨_,_,_,_,_,_,_,_,_,_,_,_,_,_,y,_⟩:=y;exact y) ?_ FU 0 _ _ (by rw[eA];omega) ?_
 .rintro i Z h' ⟨s',done,v8,zs,z,kp,nx,rfl,o4,o5,o6,o7,zl,dl,hi,ok,pr⟩
  have orr:=kp.get lr Rw.1;have fin:iJ rs (45-i) s'=[]->R (.tup [.ref (h.nx+2),.ref (h.nx+3)]) h':=λe=>by rw[e,kL]at pr;exact q _ _ _ kp (by omega) (by rw[pr];exact o6)
  refine jN _<|WC.of<|fR (bO o6)<|aC.of rfl<|aF.dc (λh1=>WC.of (fR (bO orr)<|aC.of rfl<|aF.ite<|aF.dc (λh2=>?_) λh2=>?_)) λh1=>?_
  .have hi2:i<45:=by unfold gY at h1;rw[aW,dl]at h1;omega
   obtain⟨r,er,ea⟩:=OW ok.pc h2;have hr:=Rw.2 r (cM er);obtain⟨n,hn⟩:∃n,45-i=n+1:=⟨44-i,Nat.succ_sub (Nat.le_of_lt_succ hi2)⟩;rw[hn,Bb er]at pr;refine fW _<|WC.of<|eJ (bO orr) ea<|K8 (k:=k) hr o4 o5 (by omega) ok.bl ok.bw λg k2=>?_;have o6':=k2.get (by omega) o6;refine aF.t (oA o6')<|WC.of<|rE o6' (by unfold gY;rw[aW];omega) ?_;have kp3:Kp h (g.put (h.nx+2)<|.lst aB<|gY done++[fZ s'.pc s'.bx s'.mem r]):=(kp.trans k2).put (by omega);have p4:=(aV (o:=.lst aB (gY done++[fZ s'.pc s'.bx s'.mem r])) (show h.nx≠h.nx+2 by omega)).trans (k2.get (by omega) o4);have p5:=(aV (o:=.lst aB (gY done++[fZ s'.pc s'.bx s'.mem r])) (show h.nx+1≠h.nx+2 by omega)).trans (k2.get (by omega) o5);have p7:=(aV (o:=.lst aB (gY done++[fZ s'.pc s'.bx s'.mem r])) (show h.nx+3≠h.nx+2 by omega)).trans (k2.get (by omega) o7);have p6:(g.put (h.nx+2)<|.lst aB<|gY done++[fZ s'.pc s'.bx s'.mem r]).ob (h.nx+2)=aA (.lst aB<|gY<|done++[(r,s')]):=by rw[bB];unfold gY;rw[iM];rfl
   have nx3:h.nx+4<=(g.put (h.nx+2)<|.lst aB<|gY done++[fZ s'.pc s'.bx s'.mem r]).nx:=(cD nx k2.nx);generalize g.put (h.nx+2) (.lst aB<|gY done++[fZ s'.pc s'.bx s'.mem r])=h3 at kp3 p4 p5 p6 p7 nx3 ⊢;cases e:dU s' r with
   |some f=>
    rw[e]at pr;have eD:fZ s'.pc s'.bx s'.mem r = .tup [.int s'.pc,.aE,.aE,.aE,.aE,f]:=by unfold fZ aI.dB;rw[show r.ft (gW s'.bx r) (s'.mem.length:Int)=aA f from e]
    rw[eD];obtain⟨xs,rfl⟩:=yv e;refine aF.t (oA p7)<|WC.of<|eJ (bO p7) (v:=z) ((Vc (n:=1) (by decide) (by simp)).trans (by simp)) ?_;refine WC.of<|rE p7 (by simp;omega) ?_;exact q _ _ _ (kp3.put (by omega)) (bD (by omega) nx3)<|(aV (by omega)).trans (by rw[p6,pr])
   |none=>
    rw[e]at pr;have eD:fZ s'.pc s'.bx s'.mem r = .tup [.int s'.pc,r.fl,r.pl (gW s'.bx r),r.br (gW s'.bx r) (qm s'.bx s'.mem r),.int (pK s' r).pc,.aE]:=by unfold fZ aI.dB;rw[show r.ft (gW s'.bx r) (s'.mem.length:Int)=aD from e];rfl
    rw[eD];have tail:∀{B:aG->AH->Prop}{v8:AV}{bx me:Hx} (h4:AH),oj s' r=bx->rq s' r=me->Kp h h4->h.nx+4<=h4.nx->h4.ob h.nx=aA (.lst aB<|bx.map AV.int)->h4.ob (h.nx+1)=aA (.lst aB<|me.map AV.int)->h4.ob (h.nx+2)=aA (.lst aB<|gY<|done++[(r,s')])->h4.ob (h.nx+3)=aA (.lst aB<|zs++[z]) ->
      dY (run pg<|k+2) aKa [aA (.ref nr),aA s.av,aA (.int 45),aA (.int (pK s' r).pc),aA (.ref h.nx),aA (.ref<|h.nx+1),aA (.ref<|h.nx+2),aA (.ref<|h.nx+3),aA v8] h4 (xi h nr h.nx s rs<|i+1) R B (xi h nr h.nx s rs<|i+1):=λ{B v8 bx me} h4 e1 e2 kp4 nx4 q4 q5 q6 q7=>by
     refine aF.t (oA q7)<|WC.of<|rF (bO q4)<|WC.of<|rF (bO q5)<|WC.of<|rE q7 (by simp;omega) ?_;subst e1 e2;refine⟨pK s' r,done++[(r,s')],_,zs++[z],_,kp4.put (by omega),nx4,rfl,(aV (by omega)).trans q4,(aV (by omega)).trans q5,(aV (by omega)).trans q6,bB,by simp[zl],by simp[dl],by omega,(Ob ok hr e),?_⟩;rw[pr,vn,show 45-(i+1)=n from congrArg Nat.pred hn];rfl
    obtain⟨x,v,a1,a2,hx,e1,e2⟩|⟨x,v,a1,a2,a3,hp,e1,e2⟩|⟨a1,a2,e1,e2⟩:=stC hr e
    .rw[a1,a2];obtain⟨xn,rfl⟩:=vJ hx.1;have hx2:=hx.2;exact vg p4 (gq (by rw[aW,ok.bl];omega))<|tail _ e1 e2 (kp3.put<|aU _) nx3 (bB.trans (by rw[ki];rfl)) ((aV (by omega)).trans p5) ((aV (by omega)).trans p6)<|(aV (by omega)).trans p7
    .rw[a1,a2,a3];exact vg p5 (j:=x.toNat) (by unfold iI;rw[if_pos hp.1,if_pos (by rw[aW];exact hp.2)])<|tail _ e1 e2 (kp3.put (by omega)) nx3 ((aV (by omega)).trans p4) (bB.trans (by rw[ki])) ((aV (by omega)).trans p6)<|(aV (by omega)).trans p7
    .rw[a1,a2];exact tail _ e1 e2 kp3 nx3 p4 p5 p6 p7
  .rw[aW]at h2;exact fin<|Lr (.inr h2) ok.pc
  .unfold gY at h1;rw[aW,dl]at h1;exact fin<|Lr (.inl (by omega)) ok.pc
 .refine⟨s,[],_,[],_,Kp.refl.new.new.new.new,aU _,rfl,?_,?_,?_,bC,rfl,rfl,by decide,hs,rfl⟩
  .exact(dJ (show h.nx≠h.nx+3 by omega)).trans ((dJ (show h.nx≠h.nx+2 by omega)).trans ((dJ (show h.nx≠h.nx+1 by omega)).trans bC))
  .exact(dJ (show h.nx+1≠h.nx+3 by omega)).trans ((dJ (show h.nx+1≠h.nx+2 by omega)).trans bC)
  .exact(dJ (show h.nx+2≠h.nx+3 by omega)).trans bC
end
theorem Uu{k:Nat}(hv:v = .aE\/(∃i,v = .int i)\/∃s,aB=aB/\v = .str s)(q:R (.bl aB) h):WC (run pg (k+1) 49 [v,v]) h R:=by
 refine aT rfl rfl ?_;rcases hv with rfl|⟨i,rfl⟩|⟨s,_,rfl⟩
 .exact q
 .have:R (.bl<|decide<|i=i) h:=by rw[decide_eq_true rfl];exact q
  exact this
 .have:R (.bl<|decide<|s=s) h:=by rw[decide_eq_true rfl];exact q
  exact this
theorem Uw:∀(n:Nat) {k:Nat}{v:AV}{h:AH}{R:AV->AH->Prop},Pl aB n v->R (.bl aB) h->WC (run pg (k+n+1) 49 [v,v]) h R:=by
 intro n;induction n with
 |zero=>intro k v h R hv q;exact Uu hv q|succ n ih=>
  intro k v h R hv q;rcases hv with hv|⟨xs,rfl,hx,hp⟩
  .exact Uu hv q
  .refine aT rfl rfl<|aF.nt rfl<|WB.of ?_;with_reducible refine lR (JN ?_)
   refine⟨_,_,_,_,rfl,rfl,rfl,?_⟩;refine A1 (λi Z h'=>h'=h/\∃a b,Z=[aA (.tup xs),aA (.tup xs),a,b]) rfl (by rw[eA];omega) ⟨rfl,_,_,rfl⟩ ?_ ?_
   .rintro i x y Z h' e1 e2 ⟨rfl,a,b,rfl⟩
    rw[e1]at e2;cases e2;exact jY _<|fW _<|ih (k:=k) (hp x<|cM e1) ⟨rfl,_,_,rfl⟩
   .rintro Z h' ⟨rfl,a,b,rfl⟩
    exact q
section
theorem oh{b:Bool}(e:h.ob n=aA (.lst b xs)):tS h (.ref n)=aA .lst:=by simp only[tS,e]
theorem Uv{k:Nat}{b1 b2:Bool}(e1:h.ob n1=aA (.lst b1 xs))(e2:h.ob n2=aA (.lst b2 xs))(hp:∀x∈xs,Pl aB n x)(hl:xs.length<=1000)(q:R (.bl aB) h):WC (run pg (k+n+2) 49 [.ref n1,.ref n2]) h R:=by
 refine aT rfl rfl ?_;refine aC.of (oh e2)<|aC.of (oh e2)<|aC.of (oh e2)<|aC.of (oh e2)<|aC.of (oh e1) ?_;refine WC.of<|fR (bO e1)<|WC.of<|fR (bO e2)<|aF.nt rfl<|WB.of ?_;with_reducible refine lR<|JN ?_
 refine⟨_,_,_,_,rfl,Zp e1,Zp e2,?_⟩;refine A2 (xs:=xs) (ys:=xs) (λi Z h'=>h'=h/\∃a b,Z=[aA (.ref n1),aA (.ref n2),a,b]) rfl (by rw[eA];omega) ⟨rfl,_,_,rfl⟩ (λi Z h' y=>by rw[y.1];exact⟨e1,e2⟩) ?_ ?_
 .rintro i x y Z h' f1 f2 ⟨rfl,a,b,rfl⟩
  rw[f1]at f2;cases f2;exact jY _<|fW _<|Uw n (k:=k) (hp x<|cM f1) ⟨rfl,_,_,rfl⟩
 .rintro Z h' ⟨rfl,a,b,rfl⟩
  exact q
variable {k:Nat}
theorem Jz{t l:Int}(q:R (if t > l then .aE else .int t) h):WC (run pg (k+1) 54 [.int t,.int l]) h R:=by
 refine aT rfl rfl<|aF.dc (λe=>?_) λe=>?_
 .rw[if_pos e]at q;exact q
 .rw[if_neg e]at q;exact q
end
section
variable {k:Nat}
theorem gh{x:cV} (b:Bool) (e:gO (.str x) [.str "jump",.str "go",.str "fault"]=b) (q:∀h',Kp h h'->R (if b=aB then .int 4 else .int 0) h') :
  WC (Cp.g .zR (.str x)<|.ref<|h.nx+1) ((h.new<|.lst aB [.int 0,.int 4]).new (.lst aB [.str "jump",.str "go",.str "fault"])) λv h2=>Cq .int [v] h2 λu h3=>WC (Op.g .ix (.ref h.nx) u) h3 R:=
 WC.of (Cv (bO bC) rfl<|EB ((dJ (show h.nx≠h.nx+1 by lia)).trans bC) (by rw[e];exact q _ Kp.refl.new.new))
theorem L3(q:∀h',Kp h h'->R (.int r.fH) h'):WC (run pg (k+1) 52 [r.av]) h R:=by
 have a:=q _ Kp.refl;refine aT rfl rfl ?_;cases r with
 |load x y d=>exact a|store x y d=>exact a|set x v=>exact gh aH (by decide +kernel) q|move x v=>exact gh aH (by decide +kernel) q|dQ x v=>exact gh aB (by decide +kernel) q|go v=>exact gh aB (by decide +kernel) q|fault v=>exact gh aB (by decide +kernel) q|way w x y z=>
  have fin:=λe h' kp=>by have:=q h' kp;rw[show aI.fH (.way w x y z)=0 from e]at this;exact this
  cases w with
  |times=>exact a|share=>exact a|rest=>exact a|_=>exact gh aH (by decide +kernel)<|fin rfl
end
section
variable {k:Nat}
theorem L6(q:∀h' n,Kp h h'->h.nx<=n->n<h'.nx->h'.ob n=aA (.lst aB<|r.eG.map AV.int)->R (.ref n) h'):WC (run pg (k+1) 53 [r.av]) h R:=by
 have fin:∀{xs:Ht},xs=r.eG.map AV.int->R (.ref<|h.nx+1) ((h.new<|.lst aB [.str "set",.str "go",.str "fault"]).new (.lst aB xs)):=λ{xs} e=>by subst e;exact q _ _ Kp.refl.new.new (jQ _) (cN _) bC
 refine aT rfl rfl ?_;cases r with
 |set x v=>exact bj (bO bC) rfl (by decide +kernel)<|fin rfl|go v=>exact bj (bO bC) rfl (by decide +kernel)<|fin rfl|fault v=>exact bj (bO bC) rfl (by decide +kernel)<|fin rfl|dQ x v=>exact sZ (bO bC) rfl (by decide +kernel)<|fin rfl|move x v=>exact sZ (bO bC) rfl (by decide +kernel)<|fin rfl|load x y d=>exact sZ (bO bC) rfl (by decide +kernel)<|fin rfl|store x y d=>exact sZ (bO bC) rfl (by decide +kernel)<|fin rfl|way w x y z=>exact sZ (bO bC) rfl (by cases w<;>decide +kernel)<|aF.df (sm w)<|aF.df (CZ w)<|aF.df (su w)<|aF.df (Ap w)<|fin rfl
end
section
variable {k:Nat}
def uj(s:Sd)(kvs:List (aN×AV))(t2:AV):aI->AV
 |.load x y d=>if(dU s<|.load x y d).isNone=aB/\fO t2=aH then(bK kvs<|.inl<|cell s.bx y+d).getD .aE else .aE
 |_=>.aE
def pC(kvs:List (aN×AV))(r:aI):Ht:=r.eG.map λx=>(bK kvs<|.inl x).getD .aE
def pI(i:Int)(r:aI)(s:Sd)(k0 k1:List (aN×AV))(t1 t2 t3 t4:AV):AV:=.tup [.int i,.int s.pc,.tup (pC k0 r),uj s k1 t2 r,if fO t3=aB then .aE else s.dB r,.tup [t1,t2,t3,t4]]
theorem XV(s:Sd)(r:aI):∃a b c d e,s.dB r = .tup [.int s.pc,a,b,c,d,e]:=by unfold Sd.dB fZ aI.dB;split<;>exact⟨_,_,_,_,_,rfl⟩
theorem IW(r:aI):r.eG.length<=2:=by cases r<;>simp[aI.eG]
noncomputable abbrev aKr:aR:=bL (bL Vm)
theorem aKt{i:Int}{s:Sd}{src:AV}{d1:Nat}(o0:h.ob d0=aA (.aQ k0))(l0:d0<h.nx)(hr:lX r)(q:∀h',Kp h h'->R (.tup [.int i,.int s.pc,.tup (pC k0 r),src,if fO t3=aB then .aE else s.dB r,.tup [t1,t2,t3,t4]]) h') :
  dY (run pg<|k+1) aKr [aA (.int i),aA r.av,aA (s.dB r),aA (.tup [.ref d0,.ref d1]),aA (.tup [t1,t2,t3,t4]),aA src,aD] h (λ_ h1=>R .aE h1) R (λ_ _=>False) λ_ _=>False:=by
 have big:=nR;refine WC.of ?_;with_reducible refine bo ?_
 refine mS ?_;refine L6 λh1 n k1 ln ln2 on=>?_;refine nK on ?_;refine Gz (xs:=r.eG.map AV.int) (λj c d h'=>h'=h1/\(∃a,d=[a,aA (.tup [.ref d0,.ref d1])])/\c=(pC k0 r).take j) (by rw[aW,eA];have:=IW r;lia) ⟨rfl,⟨_,rfl⟩,rfl⟩ (λj c d h' y=>y.1▸on) ?_ ?_
 .rintro j x c d h' g ⟨rfl,⟨a,rfl⟩,rfl⟩
  obtain⟨y,l,rfl⟩:=mO g;have f:=k1.get l0 o0;refine bc<|cF _<|aF.t (qF f)<|WC.of<|ux f rfl ⟨?_,rfl,⟨_,rfl⟩,?_⟩
  .rw[lB];have:(pC k0 r).length<=2:=by unfold pC;rw[aW];exact IW r
   lia
  .rw[tH];unfold pC;rw[fM,l];rfl
 rintro c d h' ⟨rfl,⟨a,rfl⟩,rfl⟩
 have hl:(pC k0 r).take (r.eG.map AV.int).length=pC k0 r:=vq (by unfold pC;simp);rw[hl];refine WC.of<|rF (bO bC) ?_;have b:=q _ (k1.new (o:=.lst aB (pC k0 r)));obtain⟨a1,b1,p,d2,t,m⟩:=XV s r;rw[m]at b ⊢;refine aF.by (λe=>?_) λe=>?_
 .rw[if_pos e]at b;exact b
 .rw[if_neg (by rw[e];decide)]at b;exact b
theorem L5{i:Int}{s:Sd}{d1:Nat}(o0:h.ob d0=aA (.aQ k0))(o1:h.ob d1=aA (.aQ k1))(l0:d0<h.nx)(hr:lX r)(q:∀h',Kp h h'->R (pI i r s k0 k1 t1 t2 t3 t4) h') :
  WC (run pg (k+2) 55 [.int i,r.av,s.dB r,.tup [.ref d0,.ref d1],.tup [t1,t2,t3,t4]]) h R:=by
 have tail:=λsrc=>aKt (k:=k) (R:=R) (i:=i) (s:=s) (t1:=t1) (t2:=t2) (t3:=t3) (t4:=t4) (src:=src) (d1:=d1) o0 l0 hr;unfold pI at q;refine aT rfl rfl ?_;cases r with
 |load x y d=>
  cases e:dU s (.load x y d) with
  |some f=>
   have a:s.dB (.load x y d) = .tup [.int s.pc,.aE,.aE,.aE,.aE,f]:=by unfold Sd.dB fZ aI.dB;rw[show(aI.load x y d).ft (gW s.bx<|.load x y d) (s.mem.length:Int)=aA f from e]
   have c:uj s k1 t2 (.load x y d) = .aE:=by show(if(dU s<|.load x y d).isNone=aB/\fO t2=aH then(bK k1<|.inl<|cell s.bx y+d).getD .aE else .aE)=_;rw[e];exact if_neg λz=>by cases z.1
   rw[c]at q;have t0:=tail .aE q;rw[a]at t0 ⊢;exact t0
  |none=>
   have a:s.dB (.load x y d) = .tup [.int s.pc,.int x,.int (cell s.bx y+d),.int (cell s.mem<|cell s.bx y+d),.int (s.pc+1),.aE]:=by unfold Sd.dB fZ aI.dB;rw[show(aI.load x y d).ft (gW s.bx<|.load x y d) (s.mem.length:Int)=aD from e];rfl
   have c:∀b,fO t2=b->uj s k1 t2 (.load x y d)=if b=aH then(bK k1<|.inl<|cell s.bx y+d).getD .aE else .aE:=λb hb=>by show(if(dU s<|.load x y d).isNone=aB/\fO t2=aH then(bK k1<|.inl<|cell s.bx y+d).getD .aE else .aE)=_;rw[e,hb];cases b<;>rfl
   cases hb:fO t2 with
   |false=>rw[c _ hb]at q;have t0:=tail _ q;rw[a]at t0 ⊢;refine aF.t (by rw[hb];rfl)<|aF.t (qF o1)<|WC.of<|ux o1 rfl ?_;exact t0
   |true=>rw[c _ hb]at q;have t0:=tail _ q;rw[a]at t0 ⊢;exact aF.f (by rw[hb];rfl) t0
 |way w x y z=>exact aF.df (su w)<|tail .aE q|_=>exact tail .aE q
end
theorem EK{rs:List aI}(hr:∀r∈rs,lX r):∀{n:Nat}{s:Sd},s.ok->∀p∈iJ rs n s,rs[p.2.pc.toNat]?=aA p.1/\p.2.ok
 |0,s,hs,p,hp=>by cases hp
 |n+1,s,hs,p,hp=>by
  cases e:rs[s.pc.toNat]? with
  |none=>
   have:iJ rs (n+1) s=[]:=by show(match rs[s.pc.toNat]? with|none=>[] | some r=>_)=_;rw[e]
   rw[this]at hp;cases hp
  |some r=>
   rw[Bb e]at hp;rcases List.mem_cons.mp hp with rfl|hp
   .exact⟨e,hs⟩
   .cases f:dU s r with
    |some v=>rw[f]at hp;cases hp|none=>rw[f]at hp;exact EK hr (Ob hs (hr r<|cM e) f) p hp
theorem EJ{rs:List aI}:∀{n:Nat}{s:Sd},(iJ rs n s).length<=n
 |0,s=>aU _
 |n+1,s=>by
  cases e:rs[s.pc.toNat]? with
  |none=>
   have:iJ rs (n+1) s=[]:=by show(match rs[s.pc.toNat]? with|none=>[] | some r=>_)=_;rw[e]
   rw[this];exact gX _
  |some r=>
   rw[Bb e];cases f:dU s r with
   |some v=>exact vv<|gX _|none=>exact vv EJ
def nJ(t last:Int):AV:=if t > last then .aE else .int t
def bX(tb:Yj)(r:aI):Int:=(tb.getD r.fH.toNat (1,1)).2
def ph(x:AV)(k:Nat)(kvs:List (aN×AV)):List (aN×AV):=match x with
 |.int x=>gZ kvs (.inl x) (.int k)
 |_=>kvs
def Hb(v:AV)(i:Nat):AV:=match v with
 |.tup l=>l.getD i .aE
 |_=>.aE
def tY(k:Nat)(r:aI)(s:Sd)(kvs:List (aN×AV)):List (aN×AV):=ph (Hb (s.dB r) 1) k kvs
def tZ(k:Nat)(r:aI)(s:Sd)(kvs:List (aN×AV)):List (aN×AV):=ph (cond (fO<|Hb (s.dB r) 1) (Hb (s.dB r) 2) .aE) k kvs
theorem Xm{s:Sd}(f:dU s r=aD):s.dB r = .tup [.int s.pc,r.fl,r.pl (gW s.bx r),r.br (gW s.bx r) (qm s.bx s.mem r),.int (r.gs s.pc<|gW s.bx r),.aE]:=by unfold Sd.dB fZ aI.dB;rw[show r.ft (gW s.bx r) (s.mem.length:Int)=aD from f]
theorem XU(s:Sd)(r:aI):∃a b c d e,s.dB r = .tup [.int s.pc,a,b,c,d,e]/\((∃x,a = .int x)\/a = .aE/\((∃x,b = .int x)\/b = .aE)):=by
 unfold Sd.dB fZ aI.dB;split
 .exact⟨_,_,_,_,_,rfl,.inr ⟨rfl,.inr rfl⟩⟩
 .refine⟨_,_,_,_,_,rfl,?_⟩;cases r with
  |store x y d=>exact .inr ⟨rfl,.inl ⟨_,rfl⟩⟩|dQ x t=>exact .inr ⟨rfl,.inr rfl⟩|go t=>exact .inr ⟨rfl,.inr rfl⟩|fault v=>exact .inr ⟨rfl,.inr rfl⟩|_=>exact .inl ⟨_,rfl⟩
def mH(tb:Yj)(last:Int):Nat->Int->List (aN×AV)->List (aN×AV)->List (aI×Sd)->Ht
 |_,_,_,_,[]=>[]
 |k,t,k0,k1,(r,s)::ps=>if t > last then[] else
  pI k r s k0 k1 (.int t) (nJ (t+1) last) (nJ (t+1+bX tb r) last) (nJ (t+1+bX tb r+1) last)::mH tb last (k+1) (t+1+bX tb r+1) (tY k r s k0) (tZ k r s k1) ps
section
variable {k:Nat}
theorem aOe(ht:ei tb)(r:aI):∃a:Int,cH (tb.map dX) r.fH=aA (.tup [.int a,.int (bX tb r)]):=by
 have b:0<=r.fH/\r.fH<5:=by cases r<;>first|(rename_i w x y z;cases w<;>simp[aI.fH,dG.fH];done)|simp[aI.fH]
 obtain⟨n,hn⟩:=vJ b.1;have hl:n<tb.length:=by rw[ht.1];lia
 refine⟨tb[n].1,?_⟩;unfold cH bX;rw[hn,gq (by rw[aW];exact hl)];simp only[hX,fM,dZ hl,rO,tE,Du,MQ,dX]
inductive Fd(h:AH)(nr nd b:Nat)(tb:Yj)(last:Int)(ps:List (aI×Sd))(i:Nat)(Z:aG)(h':AH):Prop
 |mk (t:Int) (k0 k1:List (aN×AV)) (sl:Ht) (v7 v8 v9 v10 v11:Yo) (_:Kp h h') (_:b+3<=h'.nx) (_:Z=[aA (.ref nr),aA (.ref nd),aA (.tup<|tb.map dX),aA (.int last),aA (.tup [.ref b,.ref (b+1)]),aA (.ref<|b+2),aA (.int t),v7,v8,v9,v10,v11]) (_:h'.ob b=aA (.aQ k0)) (_:h'.ob (b+1)=aA (.aQ k1)) (_:h'.ob (b+2)=aA (.lst aB sl)) (_:k0.length<=i) (_:k1.length<=i) (_:sl.length<=i) (_:mH tb last 0 1 [] [] ps=sl++mH tb last i t k0 k1 (ps.drop i)):Fd h nr nd b tb last ps i Z h'
theorem K9{nd:Nat}(Rw:nc h nr rs)(lr:nr<h.nx)(od:h.ob nd=aA (.lst aB<|gY ps))(ld:nd<h.nx)(ht:ei tb)(hl:ps.length<=45)(hp:∀p∈ps,rs[p.2.pc.toNat]?=aA p.1/\p.2.ok)
  (q:∀h' n,Kp h h'->h.nx<=n->n<h'.nx->h'.ob n=aA (.lst aB<|mH tb last 0 1 [] [] ps)->R (.ref n) h'):WC (run pg (k+3) 56 [.ref nr,.ref nd,.tup (tb.map dX),.int last]) h R:=by
 have big:sizeLine=16777216:=nR;have fin:∀{Z:aG} {h':AH}{sl:Ht},Kp h h'->h.nx+3<=h'.nx->h'.ob (h.nx+2)=aA (.lst aB sl)->mH tb last 0 1 [] [] ps=sl->R (.ref<|h.nx+2) h':=λkp nx o e=>q _ _ kp (by omega) (by omega) (by rw[o,e]);refine aT rfl rfl<|WB.of ?_;with_reducible refine lR<|Pn ?_
 refine⟨_,_,_,rfl,Kp.refl.new.new.new.get ld od,?_⟩;refine Zd (xs:=gY ps) (Fd h nr nd h.nx tb last ps) (by unfold gY;rw[aW,eA];omega) ⟨1,[],[],[],_,_,_,_,_,Kp.refl.new.new.new,aU _,rfl,(dJ (show h.nx≠h.nx+2 by omega)).trans ((dJ (show h.nx≠h.nx+1 by omega)).trans bC),(dJ (show h.nx+1≠h.nx+2 by omega)).trans bC,bC,aU _,aU _,aU _,rfl⟩ (λi Z h' y=>by obtain⟨_,_,_,_,_,_,_,_,_,kp,_⟩:=y;exact kp.get ld od) ?_ ?_
 .rintro i x Z h' hx ⟨t,k0,k1,sl,v7,v8,v9,v10,v11,kp,nx,rfl,o0,o1,o2,l0,l1,l2,e⟩
  unfold gY at hx;obtain⟨⟨r,s⟩,hpi,rfl⟩:=mO hx;have hi:=(List.getElem?_eq_some_iff.mp hpi).1;obtain⟨er,so⟩:=hp _ (cM hpi);have hr:=Rw.2 r (cM er);have dr:ps.drop i=(r,s)::ps.drop (i+1):=by rw[Dq hi,(List.getElem?_eq_some_iff.mp hpi).2]
  rw[dr]at e;obtain⟨da,db,dc,dd,de,eD,sh⟩:=XU s r;obtain⟨a,ea⟩:=aOe ht r;have er2:cH (rs.map aI.av) s.pc=aA r.av:=by have hl:s.pc.toNat<rs.length:=(List.getElem?_eq_some_iff.mp er).1;have:=so.pc;unfold cH iI;rw[if_pos this,if_pos (by rw[aW];omega)];simp only[hX,fM,er,rO]
  have eZ:=λ(h1:AH) (R:AV->AH->Prop) t1 t2 t3 t4=>L5 (k:=k) (h:=h1) (R:=R) (i:=i) (r:=r) (s:=s) (t1:=t1) (t2:=t2) (t3:=t3) (t4:=t4) (d0:=h.nx) (d1:=h.nx+1) (k0:=k0) (k1:=k1);show We _ _ _;simp only[eD]at eZ ⊢;refine jY _<|fW _<|WC.of<|eJ (bO<|kp.get lr Rw.1) er2<|L3 (k:=k+1) λh1 kp1=>aC.of ea ?_;have c0:=kp1.get (by omega) o0;have c1:=kp1.get (by omega) o1;have c2:=kp1.get (by omega) o2;refine aF.dc (λc=>?_) λc=>?_
  .exact fin (Z:=[]) (kp.trans kp1) (cD nx kp1.nx) c2 (by rw[e];show sl++(if t > last then[] else _)=sl;rw[if_pos c,kL])
  refine Jz (k:=k+1)<|Jz (k:=k+1)<|Jz (k:=k+1) ?_;refine aF.t (oA c2)<|eZ h1 _ _ _ _ _ c0 c1 (by have:=kp1.nx;omega) hr λh2 k2=>?_;have nx2:h.nx+3<=h2.nx:=cD nx (cD kp1.nx k2.nx);have kp2:=(kp.trans kp1).trans k2;have lx:h.nx+3<=h1.nx:=cD nx kp1.nx;refine WC.of<|rE (k2.get (by omega) c2) (by omega) ?_;have tail:∀(h4:AH) (k0' k1':List (aN×AV)) (u7 u8 u9 u10 u11:Yo),Kp h h4->h.nx+3<=h4.nx->h4.ob h.nx=aA (.aQ k0')->h4.ob (h.nx+1)=aA (.aQ k1')->h4.ob (h.nx+2)=aA (.lst aB<|sl++[pI i r s k0 k1 (.int t) (nJ (t+1) last) (nJ (t+1+bX tb r) last) (nJ (t+1+bX tb r+1) last)])->k0'=tY i r s k0->k1'=tZ i r s k1->k0'.length<=i+1->k1'.length<=i+1 ->
    Fd h nr nd h.nx tb last ps (i+1) [aA (.ref nr),aA (.ref nd),aA (.tup<|tb.map dX),aA (.int last),aA (.tup [.ref h.nx,.ref (h.nx+1)]),aA (.ref<|h.nx+2),aA (.int<|t+1+bX tb r+1),u7,u8,u9,u10,u11] h4:=λh4 k0' k1' u7 u8 u9 u10 u11 kp4 nx4 q0 q1 q2 e0 e1 f0 f1=>
   ⟨_,_,_,_,_,_,_,_,_,kp4,nx4,rfl,q0,q1,q2,f0,f1,by simp;omega,by
    rw[e,e0,e1,vn];show sl++(if t > last then[] else _)=_;rw[if_neg c];rfl⟩
  have g0:=λo=>(aV (o:=o) (show h.nx≠h.nx+2 by omega)).trans (k2.get (by omega) c0);have g1:=λo=>(aV (o:=o) (show h.nx+1≠h.nx+2 by omega)).trans (k2.get (by omega) c1);have e0:tY i r s k0=ph da i k0:=by unfold tY;rw[eD];rfl
  have e1:tZ i r s k1=ph (cond (fO da) db .aE) i k1:=by unfold tZ;rw[eD];rfl
  obtain⟨x,a1⟩|⟨a1,⟨x,a2⟩|a2⟩:=sh
  .exact aF.t (by rw[a1];rfl)<|tB (k:=.inl x) (g0 _) (by rw[a1];rfl) (by omega)<|tail _ (gZ k0 (.inl x)<|.int i) k1 _ _ _ _ _ ((kp2.put (by omega)).put (aU _)) nx2 bB ((aV (by omega)).trans (g1 _)) ((aV (by omega)).trans bB) (by rw[e0,a1];rfl) (by rw[e1,a1];rfl) (cD Ls (by omega)) (by omega)
  .exact aF.f (by rw[a1];rfl)<|aF.t (by rw[a2];rfl)<|tB (k:=.inl x) (g1 _) (by rw[a2];rfl) (by omega)<|tail _ k0 (gZ k1 (.inl x)<|.int i) _ _ _ _ _ ((kp2.put (by omega)).put (by omega)) nx2 ((aV (by omega)).trans (g0 _)) bB ((aV (by omega)).trans bB) (by rw[e0,a1];rfl) (by rw[e1,a1,a2];rfl) (by omega)<|cD Ls (by omega)
  .exact aF.f (by rw[a1];rfl)<|aF.f (by rw[a2];rfl)<|tail _ k0 k1 _ _ _ _ _ (kp2.put (by omega)) nx2 (g0 _) (g1 _) bB (by rw[e0,a1];rfl) (by rw[e1,a1,a2];rfl) (by omega) (by omega)
 .rintro Z h' ⟨t,k0,k1,sl,v7,v8,v9,v10,v11,kp,nx,rfl,o0,o1,o2,l0,l1,l2,e⟩
  unfold gY at e;rw[aW,Dr]at e;exact fin (Z:=[]) kp nx o2 (by rw[e];exact kL _)
end
section
abbrev Dc(β:Type):=List (Int×β)
variable {β:Type}{e:β->AV}{l:Dc β}{v:β}
def dE(e:β->AV)(l:Dc β):List (aN×AV):=l.map λp=>(.inl p.1,e p.2)
def aZ(l:Dc β)(x:Int):Option β:=(l.find? λp=>decide (p.1=x)).map (·.2)
def eC(l:Dc β)(x:Int)(v:β):Dc β:=if(l.any λp=>decide (p.1=x))=aB then l.map (λp=>if p.1=x then(p.1,v) else p) else l++[(x,v)]
def mF(l:Dc β)(x:Int):Dc β:=l.filter λp=>decide (p.1≠x)
theorem zx:((nP a:aN)=nP b)=(a=b):=propext ⟨El,congrArg _⟩
theorem jM:bK (dE e l) (.inl x)=(aZ l x).map e:=by unfold bK aZ dE;rw[List.find?_map,MR,MR];simp only[jz,zx]
theorem xC:gZ (dE e l) (.inl x) (e v)=dE e (eC l x v):=by
 unfold gZ eC dE;rw[LA];simp only[jz,zx];split
 .rw[jO,jO];refine Qy λp _=>?_;by_cases a:p.1=x
  .simp only[jz,a,if_true]
  .simp only[jz,if_neg a,if_neg (show¬(nP p.1:aN)=nP x by rw[zx];exact a)]
 .rw[iM];rfl
theorem Hj:wQ (dE e l) (.inl x)=dE e (mF l x):=by unfold wQ mF dE;rw[List.filter_map];simp only[jz,ne_eq,zx]
theorem nA:(dE e l).length=l.length:=aW ..
theorem EL:(eC l x v).length<=l.length+1:=by unfold eC;split<;>simp
theorem Bd(h:aZ l x=aD):eC l x v=l++[(x,v)]:=by unfold eC;rw[if_neg];intro z;obtain⟨p,a,e⟩:=List.any_eq_true.mp z;exact List.find?_eq_none.mp (Option.map_eq_none_iff.mp h) p a e
theorem Ag(h:aZ l x=aA v):(x,v)∈l:=by obtain⟨p,a,rfl⟩:=Option.map_eq_some_iff.mp h;have b:=LH a;simp only[decide_eq_true_eq]at b;subst b;exact(Dw a)
theorem pA(nd:(l.map (·.1)).Nodup)(h:(x,v)∈l):aZ l x=aA v:=by
 unfold aZ;induction l with
 |nil=>cases h|cons p l a=>
  rw[kM,List.nodup_cons]at nd;rw[nM];rcases List.mem_cons.mp h with rfl|h'
  .simp
  .have:decide (p.1=x)=aH:=decide_eq_false λz=>nd.1 (List.mem_map.mpr ⟨_,h',z.symm⟩);rw[this];exact a nd.2 h'
theorem fu{F:AM.Run}{d c:Ex}{imp:Yg}{rest:List (Option AV)}{f:Int×β->Bool}(hd:aM F d Z h = .ok (.ref n) h)(ho:h.ob n=aA (.aQ<|dE e l))(hn:n<h.nx)(hl:l.length<1000)(hs:mL imp Z=aD::rest)
  (hc:∀p∈l,wT F c (aA (.int p.1)::rest) (h.put n<|.dD<|dE e l) λb h'=>b=f p/\h'=h.put n (.dD<|dE e l))
  (q:V1 (.ref h.nx) (h.new<|.lst aB<|(l.filter f).map λp=>AV.int p.1)):WC (aM F (.kK d<|.wK imp (.nm 0) (.aQ d) c<|.var 0) Z) h V1:=by
 have big:=kX;refine WC.of<|aRw hd ho hn ?_;rw[hs];refine Ww (λj a Z h'=>(∃v0,Z=v0::rest)/\a=(((l.take j).filter f).map λp=>AV.int p.1)/\h'=h.put n (.dD<|dE e l)) (by rw[aW,nA,eA];lia) ⟨⟨aD,rfl⟩,rfl,rfl⟩ (λj x a Z h' g y=>?_)<|λa Z h' y=>?_
 .obtain⟨⟨v0,rfl⟩,rfl,rfl⟩:=y;unfold dE at g;rw[jO,fM]at g;obtain⟨p,hr,rfl⟩:=Option.map_eq_some_iff.mp g;have i:l.take (j+1)=l.take j++[p]:=by rw[tH,hr];rfl
  refine(jN c<|hc p<|cM hr).mono λb k z=>?_;obtain⟨rfl,rfl⟩:=z;split
  .rename_i hb;refine⟨?_,⟨_,rfl⟩,?_,rfl⟩
   .have h1:((l.take j).filter f).length<=(l.take j).length:=rM _ _;have m:(l.take j).length<=l.length:=by rw[lB];lia
    rw[aW];lia
   .rw[i,vL,iM,oO,if_pos hb];rfl
  .rename_i hb;refine⟨⟨_,rfl⟩,?_,rfl⟩;rw[i,vL,oO,if_neg hb];simp
 .obtain⟨⟨v0,rfl⟩,rfl,rfl⟩:=y;refine⟨rfl,?_⟩;rw[aW,nA,tI];exact q
theorem YB{F:AM.Run}{d c:Ex}{imp:Yg}{rest:List (Option AV)}{f:Int×β->AV}(hd:aM F d Z h = .ok (.ref n) h)(ho:h.ob n=aA (.aQ<|dE e l))(hn:n<h.nx)(hl:l.length<1000)(hs:mL imp Z=aD::rest)
  (hc:∀p∈l,wE F c (aA (.int p.1)::rest) (h.put n<|.dD<|dE e l) λv h'=>v=f p/\h'=h.put n (.dD<|dE e l))
  (q:V1 (.ref h.nx) (h.new<|.lst aB<|l.map f)):WC (aM F (.kK d<|.wJ imp (.nm 0) (.aQ d) c) Z) h V1:=by
 have big:=kX;refine WC.of<|aRv hd ho hn ?_;rw[hs];refine WR (λj a Z h'=>(∃v0,Z=v0::rest)/\a=(l.take j).map f/\h'=h.put n (.dD<|dE e l)) (by rw[aW,nA,eA];omega) ⟨⟨aD,rfl⟩,rfl,rfl⟩ (λj x a Z h' g y=>?_)<|λa Z h' y=>?_
 .obtain⟨⟨v0,rfl⟩,rfl,rfl⟩:=y;unfold dE at g;rw[jO,fM]at g;obtain⟨p,hr,rfl⟩:=Option.map_eq_some_iff.mp g;refine(cF c<|hc p<|cM hr).mono λb i z=>?_;obtain⟨rfl,rfl⟩:=z;refine⟨?_,⟨_,rfl⟩,?_,rfl⟩
  .rw[aW,lB];lia
  .rw[tH,hr,iM];rfl
 .obtain⟨⟨v0,rfl⟩,rfl,rfl⟩:=y;refine⟨rfl,?_⟩;rw[aW,nA,tI];exact q
end
variable {bg bg':Dc (Int×Hs)}{kf:Dc Nat}{kp':Dc (Hs×Hs)}
section
variable {β:Type}{e:β->AV}{l:Dc β}
theorem sM{a b:Nat}{x y:bJ}(e1:h.ob a=aA x)(e2:h.ob b=aA y)(n:x≠y):a≠b:=λz=>n (by rw[z,e2]at e1;exact(eF e1).symm)
theorem Kx.get{S:Ia}(g:Kx S h h'){o:Option bJ}(hn:n<h.nx)(ns:n∉S)(e:h.ob n=o):h'.ob n=o:=(g.ob n hn ns).trans e
theorem Kx.kp{S:Ia}{a b c:AH}(x:Kp a b)(y:Kx S b c):Kx S a c:=(Kx.of x).trans y
theorem Kx.new{S:Ia}{a b:AH}{o:bJ}(x:Kx S a b):Kx S a (b.new o):=x.trans (Kx.of Kp.refl.new)
theorem XW{t:Int}:mF (l.filter λp=>!ts.contains p.1) t=l.filter λp=>!(ts++[t]).contains p.1:=by unfold mF;rw[List.filter_filter];refine LG λp _=>?_;by_cases z:p.1=t<;>simp[z]
theorem M7{f:Int->Bool}{t:Int}(hf:f t=aB):aZ (l.filter λp=>f p.1) t=aZ l t:=by
 unfold aZ;induction l with
 |nil=>rfl|cons p l a=>
  rw[oO];by_cases z:p.1=t
  .rw[if_pos (z▸hf)];simp[z]
  .have:decide (p.1=t)=aH:=decide_eq_false z;split
   .rw[nM,nM,this];exact a
   .rw[nM,this];exact a
variable {F:AM.Run}{B:aG->AH->Prop}
theorem Ba{cs:Ia}{f:cV}{fs:List (cV×AV)}{a c:Nat}(ha:Z[0]?=aA (aA<|.ref a))(hj:Z[j]?=aA (aA<|.ref n))(i0:i≠0)(il:i<Z.length)
  (o:h.ob a=aA (.ins c fs))(hc:cs.contains c=aB)(hf:fs.lookup f=aA (.ref d))(od:h.ob d=aA (.aQ<|dE e l))(on:h.ob n=aA (.lst aB<|ts.map .int))(hd:d<h.nx)
  (ht:∀t∈ts,(aZ l t).isSome)(nd:ts.Nodup)(hl:ts.length<1000)
  (q:∀o' h',Kx [d] h h'->h'.nx=h.nx->h'.ob d=aA (.aQ<|dE e<|l.filter λp=>!ts.contains p.1)->N (Z.set i o') h') :
  WB (eM F (.wW (.nm i) (.seq<|.var j)<|.cons (.expr<|.dm .pop (.lK cs f<|.var 0)<|.cons (.var i) .nil) .nil) Z) h N R B C:=by
 have ad:=sM o od (nofun);have r:=sM on od (nofun);refine WB.of<|lR<|mS<|aC.of hj<|nK on ?_;refine uA (λk b h'=>(∃o',b=Z.set i o')/\Kx [d] h h'/\h'.nx=h.nx/\h'.ob d=aA (.aQ<|dE e<|l.filter λp=>!(ts.take k).contains p.1)/\h'.ob n=aA (.lst aB<|ts.map .int)/\h'.ob a=aA (.ins c fs)) (by rw[aW,eA];lia) ?_ (λ_ _ _ y=>y.2.2.2.2.1) (λk x b h' D y=>?_)<|λb h' y=>?_
 .refine⟨⟨Z[i],by simp⟩,Kx.refl,rfl,?_,on,o⟩;rw[od,List.take_zero,show(λp:Int×β=>!([]:Hx).contains p.1)=λ_=>aB from rfl,List.filter_eq_self.mpr λ_ _=>rfl]
 .obtain⟨⟨o',rfl⟩,kx,nx,g,A,s⟩:=y;obtain⟨t,u,rfl⟩:=mO D;have tk:t∉ts.take k:=by rw[<- (List.getElem?_eq_some_iff.mp u).2];intro z;obtain⟨m,hm,e⟩:=Qs z;rw[lB]at hm;rw[LU]at e;have:=(Qq nd).mp e;lia
  have E:(aZ (l.filter λp=>!(ts.take k).contains p.1) t)=aZ l t:=M7 (f:=λx=>!(ts.take k).contains x) (by simp[tk]);have v:=ht t (cM u);rw[<- E]at v;obtain⟨w,hw⟩:=Option.isSome_iff_exists.mp v;have s0:((Z.set i o').set i (aA<|.int t))[0]?=aA (aA<|.ref a):=by rw[rK i0,rK i0];exact ha
  have s1:((Z.set i o').set i (aA<|.int t))[i]?=aA (aA<|.int t):=by rw[rL (by simpa)]
  refine jY _ ?_;refine fW _ ?_;refine aC.of s0<|aC.of rfl ?_;refine aC.of s<|aF.t hc<|aC.of hf ?_;refine aF.t (qF g) ?_;refine aC.of s1<|aC.of rfl ?_;refine(WC.of<|Pk g rfl (by rw[jM,hw];rfl) ?_);rw[Hj,XW];refine⟨⟨_,by rw[Rm]⟩,kx.put (.head _),nx,?_,(aV r).trans A,(aV ad).trans s⟩;rw[bB,tH,u];rfl
 .obtain⟨⟨o',rfl⟩,kx,nx,g,A,s⟩:=y;rw[aW,tI]at g;exact q _ _ kx nx g
end
section
variable {k:Nat}{a:Nat}{wk:Dc (Int×Int)}
def fb(tb:Yj)(d:Nat):List (cV×AV):=[("table",.tup (tb.map dX)),("working",.ref d)]
structure pN(h:AH)(a d:Nat)(tb:Yj)(wk:Dc (Int×Int)):Prop where
 o:h.ob a=aA (.ins 14<|fb tb d)
 od:h.ob d=aA (.aQ<|dE dX wk)
 ha:a<h.nx
 hd:d<h.nx
 hl:wk.length<1000
 nd:(wk.map (·.1)).Nodup
theorem pN.Po(B:pN h a d tb wk){F:AM.Run}(e:Z[i]?=aA (aA<|.ref a)):aM F (.lK [14] "working"<|.var i) Z h = .ok (.ref d) h:=fz (jm e) B.o rfl rfl
theorem pN.oz(B:pN h a d tb wk):(h.put d o).ob a=aA (.ins 14<|fb tb d):=(aV<|sM B.o B.od<|nofun).trans B.o
theorem pN.at{p:Int×Int×Int}(B:pN h a d tb wk)(hp:p∈wk):bK (dE dX wk) (.inl p.1)=aA (dX p.2):=by rw[jM,pA B.nd hp];rfl
def gi(wk:Dc (Int×Int))(g:Int):Int:=(wk.filter λp=>decide (p.2.1=g)).length
theorem Ze{g:Int}{t:Int×Int}(B:pN h a d tb wk)(hg:cH (tb.map dX) g=aA (dX t))(q:∀h',Kp h h'->R (.int<|t.1-gi wk g) h'):WC (run pg (k+1) 85 [.ref a,.int g]) h R:=by
 refine aT rfl rfl<|fu (f:=λp=>decide (p.2.1=g)) (B.Po rfl) B.od B.hd B.hl rfl (λp b=>?_) ?_
 .exact aC.of B.oz<|WC.of<|Cy bB rfl (B.at b) ⟨rfl,rfl⟩
 .refine aC.of (Kp.refl.new.get B.ha B.o)<|aC.of hg ?_;refine WC.of<|fR (bO bC) ?_;rw[aW];exact q _ Kp.refl.new
theorem aLw{t g:Int}{c:Int×Int}(B:pN h a d tb wk)(hg:cH (tb.map dX) g=aA (dX c))(hn:aZ wk t=aD)(hf:gi wk g<c.1)(q:∀v h',Kx [d] h h'->h'.ob d=aA (.aQ<|dE dX<|wk++[(t,g,now+c.2)])->R v h'):WC (run pg (k+2) 86 [.ref a,.int t,.int g,.int now]) h R:=by refine aT rfl rfl<|aC.of B.o<|WC.of<|bh B.od rfl ?_;rw[jM,hn];refine aC.of rfl<|aC.of B.o<|Ze B hg λh1 k1=>aF.df (by omega) ?_;have b:=k1.get B.ha B.o;refine aC.of b<|aC.of hg<|aC.of b<|tB (k1.get B.hd B.od) rfl (by have:=B.hl;have:=kX;rw[nA];omega) ?_;refine q _ _ ((Kx.of k1).put (.head _)) ?_;rw[bB,show AV.tup [.int g,.int (now+c.2)]=dX (g,now+c.2) from rfl,xC,Bd hn]
def rZ(wk:Dc (Int×Int))(now:Int):Hx:=(wk.filter λp=>decide (p.2.2<=now)).map (·.1)
theorem yq{β:Type}{wk:Dc β}{f:Int×β->Bool}(nd:(wk.map (·.1)).Nodup)(ht:∀x,x∈ts↔x∈(wk.filter f).map (·.1)):(wk.filter λp=>!ts.contains p.1)=wk.filter λp=>!f p:=by
 refine LG λp a=>?_;congr 1
 rw[jv,List.contains_iff_mem,ht,List.mem_map];constructor
 .rintro ⟨c,h1,e⟩
  obtain⟨h1,d⟩:=List.mem_filter.mp h1;have b:=pA nd h1;rw[e,pA nd a]at b;have:c=p:=Ry e (eF b).symm;rw[<- this];exact d
 .exact λz=>⟨p,List.mem_filter.mpr ⟨a,z⟩,rfl⟩
theorem yp{β:Type}{wk:Dc β}{f:Int×β->Bool}(nd:(wk.map (·.1)).Nodup):∀t∈(wk.filter f).map (·.1),(aZ wk t).isSome:=λt ht=>by obtain⟨p,h1,rfl⟩:=List.mem_map.mp ht;rw[pA nd (List.mem_filter.mp h1).1];rfl
theorem uL{β:Type}{l:Dc β}{f:Int×β->Bool}(nd:(l.map (·.1)).Nodup):((l.filter f).map (·.1)).Nodup:=kh (List.filter_sublist.map _) nd
theorem aLi(r:Bool)(ns:Hx):(jX r ns).Perm ns:=LY ..
theorem Xt(B:pN h a d tb wk)(hl:wk.length<64)(q:∀n h',Kx [d] h h'->h'.ob d=aA (.aQ<|dE dX<|wk.filter λp=>!decide (p.2.2<=now))->h.nx<=n->n<h'.nx->h'.ob n=aA (.lst aB<|(jX aH<|rZ wk now).map .int)->R (.ref n) h'):WC (run pg (k+1) 87 [.ref a,.int now]) h R:=by
 have pm:=aLi aH (rZ wk now);refine aT rfl rfl<|fu (f:=λp=>decide (p.2.2<=now)) (B.Po rfl) B.od B.hd B.hl rfl (λp c=>?_) ?_
 .exact aC.of B.oz<|WC.of<|Cy bB rfl (B.at c) ⟨rfl,rfl⟩
 have lf:(rZ wk now).length<=wk.length:=by unfold rZ;rw[aW];exact rM ..
 refine WC.of<|aQp (ns:=rZ wk now) (by rw[bC];unfold rZ;rw[jO];rfl) (cg ‹_› ‹_›) ?_;refine Ba rfl rfl (by decide) (show 3<4 by decide) (Kp.refl.new.new.get B.ha B.o) rfl rfl (Kp.refl.new.new.get B.hd B.od) bC (kC<|kC B.hd) (λt ht=>yp B.nd t (pm.mem_iff.mp ht)) (pm.nodup_iff.mpr<|uL B.nd) (by rw[pm.length_eq];lia) λe h' kx nx b=>?_;rw[yq B.nd λx=>pm.mem_iff]at b;exact q (h.nx+1) h' (Kx.kp Kp.refl.new.new kx) b (jQ _) (by rw[nx];exact cN _)<|kx.get (cN _) (by simp;have:=B.hd;omega) bC
theorem VN{t:Int}(B:pN h a d tb wk)(q:∀v h',Kx [d] h h'->h'.ob d=aA (.aQ<|dE dX<|wk.filter λp=>!decide (t<=p.1))->R v h'):WC (run pg (k+1) 89 [.ref a,.int t]) h R:=by refine aT rfl rfl<|fu (B.Po rfl) B.od B.hd B.hl rfl (λp c=>⟨rfl,rfl⟩) ?_;refine Ba rfl rfl (by decide) (show 3<4 by decide) (Kp.refl.new.get B.ha B.o) rfl rfl (Kp.refl.new.get B.hd B.od) (by rw[bC,jO];rfl) (kC B.hd) (yp B.nd) (uL B.nd) (by rw[aW];exact cg (rM ..) B.hl) λe h' kx nx b=>?_;rw[yq B.nd λx=>Qe]at b;refine WC.of<|fR (bO<|kx.get (cN _) (by simp;have:=B.hd;lia) bC)<|q _ h' (Kx.kp Kp.refl.new kx) b
end
section
variable {k:Nat}{a b:Nat}{kp:Dc (Hs×Hs)}
def lM(p:Hs×Hs):AV:=.tup [oI p.1,oI p.2]
def lW(p:Int×Hs):AV:=.tup [.int p.1,oI p.2]
structure lG(h:AH)(a d b:Nat)(kp:Dc (Hs×Hs))(bg:Dc (Int×Hs)):Prop where
 o:h.ob a=aA (.ins 16 [("kept",.ref d),("begun",.ref b)])
 od:h.ob d=aA (.aQ<|dE lM kp)
 ob:h.ob b=aA (.aQ<|dE lW bg)
 ha:a<h.nx
 hd:d<h.nx
 hb:b<h.nx
 ne:d≠b
 lk:kp.length<64
 lb:bg.length<64
 nk:(kp.map (·.1)).Pairwise (·<·)
 nb:(bg.map (·.1)).Nodup
theorem lG.nd(S:lG h a d b kp bg):(kp.map (·.1)).Nodup:=S.nk.imp λh=>by lia
theorem lG.oz(S:lG h a d b kp bg):(h.put d o).ob a=aA (.ins 16 [("kept",.ref d),("begun",.ref b)]):=(aV<|sM S.o S.od<|nofun).trans S.o
theorem aLz{t:Int}(S:lG h a d b kp bg)(hb:aZ bg t=aD)(hk:∀p∈kp,p.1<t)(q:∀v h',Kx [d] h h'->h'.ob d=aA (.aQ<|dE lM<|kp++[(t,aD,aD)])->R v h'):WC (run pg (k+1) 96 [.ref a,.int t]) h R:=by
 have hn:aZ kp t=aD:=Option.eq_none_iff_forall_ne_some.mpr λv e=>by have:=hk _ (Ag e);lia
 refine aT rfl rfl<|aC.of S.o<|WC.of<|bh S.ob rfl ?_;rw[jM,hb];refine aC.of rfl<|YB (fz (jm rfl) S.o rfl rfl) S.od S.hd (by have:=S.lk;lia) rfl (λp c=>⟨rfl,rfl⟩) ?_;refine WC.of<|aPs (by rw[bC,jO];rfl) ?_;rw[show(kp.map λp=>decide (t<=p.1)).any id=aH from by
  rw[LA,KY];intro p c;have:=hk p c;simp;omega]
 have k1:Kp h (h.new<|.lst aB<|kp.map λp=>AV.bl (decide<|t<=p.1)):=Kp.refl.new;refine aC.of (k1.get S.ha S.o)<|tB (k1.get S.hd S.od) rfl (by have:=S.lk;have:=kX;rw[nA];omega) ?_;refine q _ _ ((Kx.of k1).put (.head _)) ?_;rw[bB,show AV.tup [.aE,.aE]=lM (aD,aD) from rfl,xC,Bd hn]
theorem aRa{t:Int}{p:Hs}(S:lG h a d b kp bg)(hk:aZ kp t=aA (p,aD))(q:∀v,R v (h.put d<|.aQ<|dE lM<|eC kp t (p,aA w))):WC (run pg (k+1) 99 [.ref a,.int t,.int w]) h R:=by refine aT rfl rfl<|aC.of S.o<|aF.t rfl<|aC.of rfl<|aF.t (qF S.od)<|WC.of<|ux S.od rfl ?_;rw[jM,hk];refine aC.of S.o<|tB S.od rfl (by have:=S.lk;have:=kX;rw[nA];omega) ?_;rw[show AV.tup [oI p,.int w]=lM (p,aA w) from rfl,xC];exact q _
theorem M8{t:Int}{g:Hs}(S:lG h a d b kp bg)(hb:aZ bg t=aD)(hk:aZ kp t=aD)(q:∀v,R v (h.put b<|.aQ<|dE lW<|bg++[(t,p,g)])):WC (run pg (k+1) 101 [.ref a,.int t,.int p,oI g]) h R:=by refine aT rfl rfl<|aC.of S.o<|WC.of<|bh S.ob rfl ?_;rw[jM,hb];refine aC.of rfl<|aC.of S.o<|WC.of<|bh S.od rfl ?_;rw[jM,hk];refine aC.of rfl<|aC.of S.o<|tB S.ob rfl (by have:=S.lb;have:=kX;rw[nA];lia) ?_;rw[show AV.tup [.int p,oI g]=lW (p,g) from rfl,xC,Bd hb];exact q _
theorem M1{t:Int}{v:Hs×Hs}(S:lG h a d b kp bg)(hk:aZ kp t=aA v)(q:∀v,R v (h.put d<|.aQ<|dE lM<|mF kp t)):WC (run pg (k+1) 102 [.ref a,.int t]) h R:=by refine aT rfl rfl<|aC.of S.o<|WC.of<|bh S.od rfl ?_;rw[jM,hk];refine aC.of rfl<|aC.of S.o<|aF.t rfl<|aC.of rfl<|aF.t (qF S.od)<|WC.of<|Pk S.od rfl (by rw[jM,hk];rfl) ?_;rw[Hj];exact q _
theorem M0{t:Int}{v:Int×Hs}(S:lG h a d b kp bg)(hk:aZ kp t=aD)(hb:aZ bg t=aA v)(q:∀v,R v (h.put b<|.aQ<|dE lW<|mF bg t)):WC (run pg (k+1) 102 [.ref a,.int t]) h R:=by refine aT rfl rfl<|aC.of S.o<|WC.of<|bh S.od rfl ?_;rw[jM,hk];refine aC.of rfl<|aC.of S.o<|WC.of<|bh S.ob rfl ?_;rw[jM,hb];refine aC.of rfl<|aC.of S.o<|aF.t rfl<|aC.of rfl<|aF.t (qF S.ob)<|WC.of<|Pk S.ob rfl (by rw[jM,hb];rfl) ?_;rw[Hj];exact q _
end
section
variable {k:Nat}{a b:Nat}{kp:Dc (Hs×Hs)}
theorem Kx.putN{S:Ia}{x y:AH}(g:Kx S x y)(hn:x.nx<=n):Kx S x (y.put n o):=⟨g.nx,λm hm hs=>(aV<|bV<|bD hm hn).trans (g.ob m hm hs)⟩
theorem Kx.Oq{x y:AH}(g:Kx [n] x y)(e:x.ob n=aA o):Kp x (y.put n o):=⟨g.nx,λm hm=>by
 by_cases z:m=n
 .rw[z,bB,e]
 .exact(aV z).trans (g.ob m hm (by simpa))⟩
def mX(t p:Int)(q:Int×Int×Hs):Bool:=decide (t<q.1)&&(decide (q.2.1=p)&&match q.2.2 with|none=>aB|some g=>decide (g<t))
theorem VH{t:Int}(S:lG h a d b kp bg)(q:∀n h',Kp h h'->h'.ob n=aA (.lst aB<|(bg.filter<|mX t p).map λq=>.int q.1)->R (.ref n) h'):WC (run pg (k+1) 98 [.ref a,.int t,.int p]) h R:=by
 have big:=kX;have lb:=S.lb;have hb:=S.hb;have k0:Kp h (h.new<|.lst aB []):=Kp.refl.new;refine aT rfl rfl<|WB.of<|aSi (n:=b) (kvs:=dE lW bg) (fz (jm rfl) (k0.get S.ha S.o) rfl rfl) (k0.get hb S.ob) ?_;refine z9 (λj Z h'=>(∃v4 v5,Z=[aA (.ref a),aA (.int t),aA (.int p),aA (.ref h.nx),v4,v5])/\Kx [b] h h'/\h'.ob b=aA (.dD<|dE lW bg)/\h'.ob h.nx=aA (.lst aB<|((bg.take j).filter (mX t p)).map λq=>.int q.1)/\h.nx<h'.nx) (by rw[aW,nA,eA];lia) ?_ (λj x Z h' hx y=>?_)<|λZ h' y=>?_
 .exact⟨⟨_,_,rfl⟩,(Kx.of k0).put (by simp),bB,(aV<|lD hb).trans bC,cN _⟩
 .obtain⟨⟨v4,v5,rfl⟩,kx,q1,q2,lt⟩:=y;unfold dE at hx;rw[jO,fM]at hx;obtain⟨⟨o,pl,g⟩,hr,rfl⟩:=Option.map_eq_some_iff.mp hx;have oa:=kx.get S.ha (by simpa using sM S.o S.ob (λz=>nomatch z)) S.o;have va:bK (dE lW bg) (.inl o)=aA (.tup [.int pl,oI g]):=by rw[jM,pA S.nb (cM hr)];rfl
  have et:bg.take (j+1)=bg.take j++[(o,pl,g)]:=by rw[tH,hr];rfl
  have no:mX t p (o,pl,g)=aH->h'.ob h.nx=aA (.lst aB<|((bg.take<|j+1).filter (mX t p)).map λq=>.int q.1):=λe=>by rw[q2,et,vL,oO,e];simp
  have yes:mX t p (o,pl,g)=aB->WC (uC (.ref h.nx)<|.int o) h' λ_ h2=>Kx [b] h h2/\h2.ob b=aA (.dD<|dE lW bg)/\h2.ob h.nx=aA (.lst aB<|((bg.take<|j+1).filter (mX t p)).map λq=>.int q.1)/\h.nx<h2.nx:=λe=>by
   have l1:((bg.take j).filter (mX t p)).length<=(bg.take j).length:=rM ..;have l2:(bg.take j).length<=bg.length:=by rw[lB];lia
   refine WC.of<|rE q2 (by rw[aW];lia) ⟨kx.putN (aU _),(aV<|bV hb).trans q1,?_,lt⟩;rw[bB,et,vL,oO,e,iM];rfl
  refine jY _<|fW _<|aC.of oa<|WC.of<|Cy (k:=.inl o) q1 rfl va ?_;refine aF.dc (λc1=>?_) λc1=>⟨⟨_,_,rfl⟩,kx,q1,no (by unfold mX;rw[decide_eq_false c1];rfl),lt⟩;refine aC.of oa<|WC.of<|Cy (k:=.inl o) q1 rfl va<|aF.dc (λc2=>?_) λc2=>⟨⟨_,_,rfl⟩,kx,q1,no (by unfold mX;rw[decide_eq_false c2,Bool.false_and,Bool.and_false]),lt⟩;have fin:=λe=>WC.of ((yes e).we.mono (Q':=λ(_:AV) h2=>_) λv h2 z=>(show(∃v4 v5,[aA (.ref a),aA (.int t),aA (.int p),aA (.ref h.nx),aA (.int o),aA (oI g)]=[aA (.ref a),aA (.int t),aA (.int p),aA (.ref h.nx),v4,v5])/\_ from⟨⟨_,_,rfl⟩,z⟩));cases g with
  |none=>exact aF.t (oA q2)<|fin (by unfold mX;rw[decide_eq_true c1,decide_eq_true c2];rfl)|some g=>exact aF.dc (λc3=>aF.t (oA q2) (fin (by unfold mX;rw[decide_eq_true c1,decide_eq_true c2];exact decide_eq_true c3))) λc3=>⟨⟨_,_,rfl⟩,kx,q1,no (by unfold mX;rw[decide_eq_true c1,decide_eq_true c2];exact decide_eq_false c3),lt⟩
 .obtain⟨⟨v4,v5,rfl⟩,kx,q1,q2,lt⟩:=y;refine⟨q1,q _ _ (kx.Oq S.ob) ((aV<|lD hb).trans ?_)⟩;rw[aW,nA,tI]at q2;exact q2
end
section
variable {k:Nat}{a b:Nat}{kp:Dc (Hs×Hs)}
def Kn(l:Hx):Hs:=if l.isEmpty then aD else aA (sL l)
def rT(bg:Dc (Int×Hs))(t p:Int):Hs:=Kn ((bg.filter<|mX t p).map (·.1))
theorem CV(h:d<n):n∉[d]:=λz=>by rw[List.mem_singleton.mp z]at h;exact lC _ h
theorem Bc{β:Type}{l:Dc β}{v w:β}(h:aZ l x=aA w):(eC l x v).map (·.1)=l.map (·.1):=by unfold eC;rw[if_pos (List.any_eq_true.mpr ⟨_,Ag h,by simp⟩),jO];refine Qy λp _=>?_;simp only[jz];split<;>rfl
theorem lG.putK{t:Int}{v w:Hs×Hs}(S:lG h a d b kp bg)(hk:aZ kp t=aA w):lG (h.put d<|.aQ<|dE lM<|eC kp t v) a d b (eC kp t v) bg:=
 ⟨S.oz,bB,(aV S.ne.symm).trans S.ob,S.ha,S.hd,S.hb,S.ne,by rw[<- aW,Bc hk,aW];exact S.lk,S.lb,by rw[Bc hk];exact S.nk,S.nb⟩
theorem aBt{t:Int}{w:Hs}(S:lG h a d b kp bg)(hk:aZ kp t=aA (aD,w))(q:∀h',Kp (h.put d<|.aQ<|dE lM<|eC kp t (aA p,w)) h'->R (oI<|rT bg t p) h'):WC (run pg (k+2) 97 [.ref a,.int t,.int p]) h R:=by
 refine aT rfl rfl<|aC.of S.o<|aF.t rfl<|aC.of rfl<|aF.t (qF S.od)<|WC.of<|ux S.od rfl ?_;rw[jM,hk];refine aC.of S.o<|tB S.od rfl (by have:=S.lk;have:=kX;rw[nA];lia) ?_;rw[show AV.tup [.int p,oI w]=lM (aA p,w) from rfl,xC];have e:=S.putK (v:=(aA p,w)) hk;refine aC.of e.o<|VH e λn h' c on=>?_;refine WC.of<|aQh (by rw[on,jO];rfl) ?_;have:=q h' c;unfold rT Kn at this;split at this<;>rename_i z
 .rw[if_pos z];exact this
 .rw[if_neg z];exact this
def ab(p:Int)(dr:Bool):List (Int×Hs×Hs)->Option (Option<|Int×Int)
 |[]=>aA aD
 | (t,sp,w)::l=>if sp=aD/\dr=aH then aD else if sp=aA p then w.map λw=>aA (t,w) else ab p dr l
def N0:Option (Option<|Int×Int)->AV
 |none=>.aE
 |some aD=>.tup [.aE,.aE]
 |some (aA (t,w))=>.tup [.int t,.int w]
theorem N2{t:Int}(S:lG h a d b kp bg)(q:∀h',Kp h h'->R (N0<|ab p dr (kp.filter λq=>decide (q.1<t)).reverse) h'):WC (run pg (k+1) 100 [.ref a,.int t,.int p,.bl dr]) h R:=by
 have lk:=S.lk;have lf:(kp.filter λq=>decide (q.1<t)).length<=kp.length:=rM ..;refine aT rfl rfl<|fu (f:=λq=>decide (q.1<t)) (fz (jm rfl) S.o rfl rfl) S.od S.hd (by omega) rfl (λp hp=>⟨rfl,rfl⟩) ?_;have srt:jX aB ((kp.filter λq=>decide (q.1<t)).map (·.1))=((kp.filter λq=>decide (q.1<t)).reverse.map (·.1)):=by rw[List.map_reverse];exact aLj<|kh (List.filter_sublist.map _) S.nk
 refine WB.of<|lR<|mS<|WC.of<|aQq (ns:=(kp.filter λq=>decide (q.1<t)).map (·.1)) (by rw[bC,jO];rfl) (by rw[aW];omega) ?_;rw[srt];generalize el:(kp.filter λq=>decide (q.1<t)).reverse=l at q ⊢;have ll:l.length<64:=by rw[<- el,Qx];omega
 have hm:∀q∈l,q∈kp:=λq hq=>by rw[<- el]at hq;exact(List.mem_filter.mp<|List.mem_reverse.mp hq).1
 refine nK bC ?_;have k2:∀{o1 o2:bJ},Kp h ((h.new o1).new o2):=Kp.refl.new.new;refine uA (n:=h.nx+1) (bb:=aB) (xs:=(l.map (·.1)).map AV.int) (λj Z h'=>(∃v5 v6 v7,Z=[aA (.ref a),aA (.int t),aA (.int p),aA (.bl dr),aA (.ref h.nx),v5,v6,v7])/\Kp h h'/\ab p dr l=ab p dr (l.drop j)/\h'.ob (h.nx+1)=aA (.lst aB<|(l.map (·.1)).map .int)) (by rw[aW,aW,eA];omega) ⟨⟨_,_,_,rfl⟩,k2,rfl,bC⟩ (λ_ _ _ y=>y.2.2.2) (λj x Z h' hx y=>?_)<|λZ h' y=>?_
 .obtain⟨⟨v5,v6,v7,rfl⟩,kx,e,on⟩:=y;rw[jO]at hx;obtain⟨⟨o,sp,w⟩,hr,rfl⟩:=mO hx;have hj:=(List.getElem?_eq_some_iff.mp hr).1;have de:l.drop j=(o,sp,w)::l.drop (j+1):=by rw[Dq hj,(List.getElem?_eq_some_iff.mp hr).2]
  rw[de]at e;have oa:=kx.get S.ha S.o;have od:=kx.get S.hd S.od;have va:bK (dE lM kp) (.inl o)=aA (.tup [oI sp,oI w]):=by rw[jM,pA S.nd (hm _<|cM hr)];rfl
  have q':=q h' kx;rw[e]at q';refine jY _<|fW _<|aC.of oa<|WC.of<|Cw (k:=.inl o) od rfl va<|aC.of oa<|WC.of<|Cw (k:=.inl o) od rfl va ?_;cases sp with
  |none=>
   cases dr with
   |false=>exact q'|true=>exact WC.of<|Cu (b:=aH) rfl ⟨⟨_,_,_,rfl⟩,kx,e,on⟩
  |some sp=>
   refine aF.dc (λc=>?_) λc=>⟨⟨_,_,_,rfl⟩,kx,?_,on⟩
   .subst c;unfold ab at q';rw[if_neg (λz=>nomatch z.1),if_pos rfl]at q';cases w<;>exact q'
   .rw[e];show(if aA sp=aD/\dr=aH then aD else if aA sp=aA p then _ else _)=_;rw[if_neg (λz=>nomatch z.1),if_neg λz=>c (eF z)]
 .obtain⟨⟨v5,v6,v7,rfl⟩,kx,e,on⟩:=y;rw[aW,aW,Dr]at e;have q':=q h' kx;rw[e]at q';exact q'
theorem aLx{t:Int}(S:lG h a d b kp bg)(q:∀v h',Kx [d,b] h h'->h'.ob d=aA (.aQ<|dE lM<|kp.filter λp=>!decide (t<=p.1))->h'.ob b=aA (.aQ<|dE lW<|bg.filter λp=>!decide (t<=p.1))->R v h'):WC (run pg (k+1) 103 [.ref a,.int t]) h R:=by
 have lk:=S.lk;have lb:=S.lb;have k1:∀{o:bJ},Kp h (h.new o):=Kp.refl.new;refine aT rfl rfl<|fu (f:=λq=>decide (t<=q.1)) (fz (jm rfl) S.o rfl rfl) S.od S.hd (by omega) rfl (λp hp=>⟨rfl,rfl⟩) ?_;refine(fu (f:=λq=>decide (t<=q.1)) (fz (jm rfl) (k1.get S.ha S.o) rfl rfl) (k1.get S.hb S.ob) (kC S.hb) (by omega) rfl (λp hp=>⟨rfl,rfl⟩) ?_);have k2:∀{o1 o2:bJ},Kp h ((h.new o1).new o2):=Kp.refl.new.new;have hd:=S.hd;have hb:=S.hb;refine Ba (e:=lM) (l:=kp) (ts:=(kp.filter λp=>decide (t<=p.1)).map (·.1)) (j:=2) (n:=h.nx) rfl rfl (by decide) (show 4<5 by decide) (k2.get S.ha S.o) rfl rfl (k2.get S.hd S.od) (by rw[dJ (bV<|cN h.nx),bC,jO];rfl) (bD hd k2.nx) (yp S.nd) (uL S.nd) (by rw[aW];have:=rM (λp:Int×Hs×Hs=>decide (t<=p.1)) kp;omega) λo' h3 kx nx q1=>?_;have ka:=Kx.kp k2 kx;refine Ba (e:=lW) (l:=bg) (ts:=(bg.filter λp=>decide (t<=p.1)).map (·.1)) (j:=3) (n:=h.nx+1) rfl rfl (by decide) (show 4<5 by decide) (ka.get S.ha (by simpa using sM S.o S.od (λz=>nomatch z)) S.o) rfl rfl (ka.get hb (by simpa using S.ne.symm) S.ob) ((kx.get (cN _) (CV<|kC hd) bC).trans (by rw[jO];rfl)) (bD hb ka.nx) (yp S.nb) (uL S.nb) (by rw[aW];have:=rM (λp:Int×Int×Hs=>decide (t<=p.1)) bg;omega) λo'' h4 kx' nx' q2=>?_;rw[yq S.nd λx=>Qe]at q1;rw[yq S.nb λx=>Qe]at q2;have lx:h.nx+2<=h3.nx:=by rw[nx];exact aU _
 have c1:∃xs,h4.ob h.nx=aA (.lst aB xs):=⟨_,kx'.get (tK ‹_›) (by simp;omega) (kx.get (kC<|cN _) (by simp;omega)<|(dJ<|bV<|cN h.nx).trans bC)⟩;have c2:∃xs,h4.ob (h.nx+1)=aA (.lst aB xs):=⟨_,kx'.get ‹_› (by simp;omega) (kx.get (cN _) (CV<|kC hd) bC)⟩;obtain⟨x1,c1⟩:=c1;obtain⟨x2,c2⟩:=c2;refine WC.of<|fR (bO c1)<|WC.of<|fR (bO c2)<|q _ h4 ?_ ?_ q2
 .exact(ka.sub (by simp)).trans (kx'.sub (by simp))
 .exact kx'.get (bD hd ka.nx) (by simpa using S.ne) q1
end
section
variable {k:Nat}{a:Nat}{fl:Int->Hx}
structure lF(h:AH)(a d:Nat)(kf:Dc Nat)(fl:Int->Hx):Prop where
 o:h.ob a=aA (.ins 15 [("filled",.ref d)])
 od:h.ob d=aA (.aQ<|dE AV.ref kf)
 ha:a<h.nx
 hd:d<h.nx
 nd:(kf.map (·.1)).Nodup
 lk:kf.length<64
 ls:∀x f,aZ kf x=aA f->f<h.nx/\h.ob f=aA (.lst aB<|(fl x).map .int)
 no:∀x,aZ kf x=aD->fl x=[]
 inj:∀x y f,aZ kf x=aA f->aZ kf y=aA f->x=y
 lf:∀x,(fl x).length<100000
theorem lF.keep(S:lF h a d kf fl)(g:Kp h h'):lF h' a d kf fl:=⟨g.get S.ha S.o,g.get S.hd S.od,bD S.ha g.nx,bD S.hd g.nx,S.nd,S.lk,λx f e=>⟨bD (S.ls x f e).1 g.nx,g.get (S.ls x f e).1 (S.ls x f e).2⟩,S.no,S.inj,S.lf⟩
theorem lF.ld(S:lF h a d kf fl){f:Nat}(e:aZ kf x=aA f):f≠d:=sM (S.ls x f e).2 S.od (nofun)
theorem lF.la(S:lF h a d kf fl){f:Nat}(e:aZ kf x=aA f):f≠a:=sM (S.ls x f e).2 S.o (nofun)
theorem BN{t:Int}(e:l.getLast?=aA t):cH (l.map AV.int) (-1)=aA (.int t):=by
 have hl:l≠[]:=λz=>by rw[z]at e;cases e
 have:=List.length_pos_iff.mpr hl;rw[show -1 = -((1:Nat):Int) from rfl,Vc (by decide) (by rw[aW];exact this),aW,fM];rw[aTf]at e;rw[e];rfl
theorem AF(S:lF h a d kf fl)(q:∀h',Kp h h'->R (oI (fl x).getLast?) h'):WC (run pg (k+1) 92 [.ref a,.int x]) h R:=by
 have k1:∀{o:bJ},Kp h (h.new o):=Kp.refl.new;have k2:∀{i j:bJ},Kp h ((h.new i).new j):=Kp.refl.new.new;have fin:∀{n:Nat} {h':AH}{o:bJ},Kp h (h'.new<|.lst aB [])->n≠h'.nx->h'.ob n=aA (.lst aB<|(fl x).map .int)->WC (Cp.g .ne (.ref n)<|.ref h'.nx) (h'.new<|.lst aB []) λz g=>aC (rV z) λb=>aF b (WC (Op.g .ix (.ref n)<|.int<|-1) g R) (R .aE g):=λ{n h' o} kp hn on=>by
  have c:=(dJ (o:=.lst aB []) hn).trans on;refine WC.of<|JI rfl (Hq c bC) ?_;cases e:(fl x).getLast? with
  |none=>have:=q _ kp;rw[e]at this;rw[(List.getLast?_eq_none_iff.mp e)];exact this
  |some t=>
   have hl:¬((fl x).map AV.int=[]):=λz=>by rw[List.map_eq_nil_iff.mp z]at e;cases e
   rw[decide_eq_false hl];have:=q _ kp;rw[e]at this;exact WC.of<|eJ (bO c) (BN e) this
 refine aT rfl rfl<|aC.of S.o<|aF.t rfl<|aC.of rfl<|aF.t (qF S.od)<|WC.of<|JE (k1.get S.hd S.od) rfl ?_;rw[jM];cases e:aZ kf x with
 |none=>exact fin (o:=.lst aB []) k2 (bV<|cN _) (by rw[S.no x e];exact bC)|some f=>have lf:=S.ls x f e;exact fin (o:=.lst aB []) k2 (bV<|kC lf.1)<|k1.get lf.1 lf.2
theorem C4{xs:Hx}(S:lF h a d kf fl)(hx:xs.length<64)(q:∀h',Kp h h'->R (.tup<|xs.map λx=>oI (fl x).getLast?) h'):WC (run pg (k+2) 93 [.ref a,.tup (xs.map .int)]) h R:=by
 have big:=kX;refine aT rfl rfl ?_;refine WC.of<|bo ?_;refine mS<|aC.of rfl<|aC.of rfl<|aQv ?_;refine WT (λj b Z h'=>(∃v0,Z=[v0,aA (.ref a)])/\b=(xs.take j).map (λx=>oI (fl x).getLast?)/\Kp h h') (by rw[aW,eA];lia) ⟨⟨_,rfl⟩,rfl,Kp.refl⟩ (λj x b Z h' hx y=>?_)<|λb Z h' y=>?_
 .obtain⟨⟨v0,rfl⟩,rfl,kp⟩:=y;obtain⟨x,hr,rfl⟩:=mO hx;refine cF _ (aC.of (kp.get S.ha S.o)<|AF (S.keep kp) λc k2=>⟨?_,⟨_,rfl⟩,?_,kp.trans k2⟩)
  .rw[aW,lB];lia
  .rw[tH,hr,iM];rfl
 .obtain⟨⟨v0,rfl⟩,rfl,kp⟩:=y;rw[aW,tI];exact WC.of<|rF (bO bC)<|q _ kp.new
end
section
variable {k:Nat}{a:Nat}{fl:Int->Hx}
theorem JH{kvs:List (aN×AV)}(e:h.ob n=aA (.aQ kvs))(q:V1 (.ref h.nx) (h.new<|.lst aB<|kvs.map λp=>sG p.1)):We (Bi.g .list [.ref n]) h V1:=by show We (zI [.ref n]) h V1;unfold We zI oD kH;simp only[hX,dW,Hf,e];exact q
def kY(fl:Int->Hx)(x:Int)(l:Hx):Int->Hx:=λy=>if y=x then l else fl y
theorem BI:(dE AV.ref kf).map (λp=>sG p.1)=kf.map λp=>AV.int p.1:=by unfold dE;rw[jO];rfl
structure Uj(h h':AH)(d x:Nat)(kf kf':Dc Nat)(b:Int):Prop where
 kx:Kx (d::(aZ kf b).toList) h h'
 old:∀y,y≠b->aZ kf' y=aZ kf y
 new:∃f,aZ kf' b=aA f/\(aZ kf b=aA f\/aZ kf b=aD/\h.nx<=f)
theorem rp{β:Type}{l:Dc β}{v:β}:aZ (l++[(x,v)]) y=(aZ l y).or (if x=y then aA v else aD):=by unfold aZ;rw[Dt,Option.map_or];by_cases z:x=y<;>simp[z]
theorem x5{t:Int}(S:lF h a d kf fl)(hk:kf.length<60)(hf:∀y u,(fl y).getLast?=aA u->u<t)(hl:(fl x).length<99999)(q:∀v kf' h',lF h' a d kf' (kY fl x<|fl x++[t])->Uj h h' d 0 kf kf' x->kf'.length<=kf.length+1->R v h'):WC (run pg (k+2) 91 [.ref a,.int t,.int x]) h R:=by
 have big:=kX;have O:(kf.map λp=>AV.int p.1).length=kf.length:=aW ..;refine aT rfl rfl<|WB.of<|lR<|mS<|aC.of S.o<|WC.of<|JH S.od ?_;rw[BI];refine nK bC ?_;generalize C:h.new (.lst aB<|kf.map λp=>AV.int p.1)=h0;have F:=C▸Kp.refl.new;have I:h.nx<h0.nx:=by rw[<- C];exact cN _
 have on:=C▸bC;refine uA (λj Z h'=>(∃D v4,Z=[aA (.ref a),aA (.int t),aA (.int x),D,v4])/\Kp h0 h') (by rw[eA];lia) ⟨⟨_,_,rfl⟩,Kp.refl⟩ (λ_ _ _ y=>y.2.get I on) (λj y Z h' J z=>?_)<|λZ h' z=>?_
 .obtain⟨⟨D,v4,rfl⟩,kp⟩:=z;obtain⟨p,hr,rfl⟩:=mO J;have l:=S.keep (F.trans kp);refine jY _<|fW _<|aC.of l.o<|AF l λP k2=>?_;have n:=kp.trans k2;cases e:(fl p.1).getLast? with
  |none=>exact⟨⟨_,_,rfl⟩,n⟩|some u=>exact aF.df (by have:=hf _ _ e;lia) ⟨⟨_,_,rfl⟩,n⟩
 .obtain⟨⟨D,v4,rfl⟩,kp⟩:=z;have n:=F.trans kp;have l:=S.keep n;have k1:∀{o:bJ},Kp h' (h'.new o):=Kp.refl.new;have b:=l.keep (k1 (o:=.lst aB []));have nx:=n.nx;refine aC.of l.o (aF.t rfl<|aC.of rfl<|aF.t (qF l.od)<|WC.of<|aPv b.od rfl (by rw[nA];lia) (λv e=>?_) λe=>?_)
  .rw[jM]at e;obtain⟨f,m,rfl⟩:=Option.map_eq_some_iff.mp e;obtain⟨f1,f2⟩:=b.ls x f m;refine aF.t (oA f2)<|WC.of<|rE f2 (by rw[aW];have:sizeLine=16777216:=nR;omega) ?_;refine q _ kf _ ⟨(aV (b.la m).symm).trans b.o,(aV (b.ld m).symm).trans b.od,b.ha,b.hd,S.nd,S.lk,λy g c=>?_,λy i=>?_,S.inj,λy=>?_⟩ ⟨((Kx.of<|n.trans k1).put (by rw[m];simp)),λ_ _=>rfl,f,m,.inl m⟩ (jQ _)
   .refine⟨(b.ls y g c).1,?_⟩;unfold kY;by_cases z:y=x
    .subst z;rw[m]at c;cases c;rw[bB,if_pos rfl,iM];rfl
    .rw[if_neg z,aV (show g≠f from λw=>z (S.inj y x f (w▸c) m))];exact(b.ls y g c).2
   .unfold kY;rw[if_neg λz=>by rw[z,m]at i;cases i];exact S.no y i
   .unfold kY;split
    .rw[eU];exact xT hl
    .exact S.lf y
  .rw[jM,Option.map_eq_none_iff]at e;have f0:=S.no x e;rw[xC,Bd e];have G:=lD l.hd;have H:((h'.new<|.lst aB []).put d (.aQ<|dE AV.ref<|kf++[(x,h'.nx)])).ob h'.nx=aA (.lst aB []):=(aV G).trans bC;refine aF.t (oA H)<|WC.of<|rE H (bD (by decide)<|tK big) ?_;have lo:∀{y g},aZ kf y=aA g->g<h'.nx:=λc=>(l.ls _ _ c).1;refine q _ (kf++[(x,h'.nx)]) _ ⟨(aV<|bV l.ha).trans ((aV<|sM b.o b.od<|nofun).trans b.o),(aV G.symm).trans bB,b.ha,b.hd,?_,by rw[eU];exact bD (xT hk) (by decide),λy g c=>?_,λy i=>?_,λy z g r s=>?_,λy=>?_⟩ ⟨((Kx.of<|n.trans k1).put (by simp)).putN nx,λy E=>?_,h'.nx,?_,.inr ⟨e,nx⟩⟩ (by rw[eU];exact aU _)
   .rw[iM,LZ];refine⟨S.nd,by simp,λy E z K=>?_⟩;obtain⟨p,L,rfl⟩:=List.mem_map.mp E;rw[List.mem_singleton.mp K];intro w;have M:=w;have:=pA S.nd L;rw[M,e]at this;cases this
   .rw[rp]at c;unfold kY;by_cases z:y=x
    .subst z;rw[e,if_pos rfl]at c;cases c;refine⟨cN _,?_⟩;rw[bB,if_pos rfl,f0];rfl
    .rw[if_neg λw=>z w.symm,cj]at c;refine⟨kC (lo c),?_⟩;rw[if_neg z,aV (bV<|lo c),aV (b.ld c)];exact(b.ls y g c).2
   .rw[rp]at i;unfold kY;by_cases z:y=x
    .subst z;rw[if_pos rfl]at i;cases N:aZ kf y<;>rw[N]at i<;>cases i
    .rw[if_neg λw=>z w.symm,cj]at i;rw[if_neg z];exact S.no y i
   .rw[rp]at r s;by_cases A:y=x<;>by_cases B:z=x
    .rw[A,B]
    .subst A;rw[e,if_pos rfl]at r;cases r;rw[if_neg λw=>B w.symm,cj]at s;exact absurd (lo s)<|lC _
    .subst B;rw[e,if_pos rfl]at s;cases s;rw[if_neg λw=>A w.symm,cj]at r;exact absurd (lo r)<|lC _
    .rw[if_neg λw=>A w.symm,cj]at r;rw[if_neg λw=>B w.symm,cj]at s;exact S.inj y z g r s
   .unfold kY;split
    .rw[eU];exact xT hl
    .exact S.lf y
   .rw[rp,if_neg λw=>E w.symm,cj]
   .rw[rp,e,if_pos rfl];rfl
end
section
variable {k:Nat}{a:Nat}{fl:Int->Hx}
def lN(t:Int)(l:Hx):Hx:=(l.reverse.dropWhile λu=>decide (t<=u)).reverse
theorem Lp{t:Int}:lN t (l++[u])=if t<=u then lN t l else l++[u]:=by
 unfold lN;rw[List.reverse_append];show(List.dropWhile _<|u::l.reverse).reverse=_;by_cases z:t<=u
 .simp[z]
 .simp[z]
theorem EH(t:Int)(l:Hx):(lN t l).length<=l.length:=by unfold lN;rw[Qx];have:=(List.dropWhile_sublist (λu=>decide (t<=u)) (l:=l.reverse)).length_le;rw[Qx]at this;exact this
theorem aLf(h:l≠[]):∃m u,l=m++[u]:=⟨l.dropLast,l.getLast h,(aTa h).symm⟩
theorem aCb{F:AM.Run}{f:Nat}{t:Int}{v3:AV}{B:aG->AH->Prop}(of:h.ob f=aA (.lst aB<|l.map .int))(hf:f<h.nx)(hl:l.length<100000)
  (q:∀z' h',Kx [f] h h'->h'.ob f=aA (.lst aB<|(lN t l).map .int)->N [aA (.ref a),aA (.int t),aA (.int z'),aA v3,aA (.ref f)] h') :
  Wt (vF (dR F<|.and (.cmp .ne (.var 4)<|.lst .nil)<|.cmp .ge (.op .ix (.var 4)<|.neg<|.val<|.int 1)<|.var 1) (jS F<|.cons (.expr<|.tm<|.var 4)<|.cons (.aug aH 2<|.val<|.int 1) .nil) FU [aA (.ref a),aA (.int t),aA (.int z),aA v3,aA (.ref f)]) h N R B C:=by
 refine vG (λi Z h'=>i<=l.length/\∃(z':Int) (m:Hx),m.length+i=l.length/\Z=[aA (.ref a),aA (.int t),aA (.int z'),aA v3,aA (.ref f)]/\Kx [f] h h'/\h'.ob f=aA (.lst aB<|m.map .int)/\lN t l=lN t m) l.length (λi Z h' y=>y.1) (λi Z h' y=>?_) FU 0 _ h (by rw[eA];lia) ⟨gX _,z,l,rfl,rfl,Kx.refl,of,rfl⟩;obtain⟨_,z',m,em,rfl,kx,j,e⟩:=y;have b:=(dJ (o:=.lst aB [])<|bV<|bD hf kx.nx).trans j;refine jN _<|WC.of<|JI rfl (Hq b bC) ?_;by_cases c:m=[]
 .subst c;exact q z' _ kx.new<|e▸b
 .have k:¬(m.map AV.int=[]):=λw=>c (List.map_eq_nil_iff.mp w);rw[decide_eq_false k];obtain⟨d,u,rfl⟩:=aLf c;rw[eU]at em;have n:((d++[u]).map AV.int)=d.map AV.int++[.int u]:=iM ..;refine aC.of rfl<|WC.of<|eJ (bO b) (BN (by rw[Qt])) ?_;show if decide (t<=u)=aB then _ else _
  by_cases g:t<=u
  .rw[if_pos (decide_eq_true g)];rw[n]at b;rw[Lp,if_pos g]at e;refine fW _<|WC.of<|aRr<|cF _<|aC.of rfl<|aC.of rfl<|aQo b ?_;have p:d.length+1+i=l.length:=em;exact⟨by lia,_,d,by lia,rfl,kx.new.put (.head _),bB,e⟩
  .rw[if_neg (by simpa using g)];rw[Lp,if_neg g]at e;exact q z' _ kx.new<|e▸b
theorem S7{t:Int}(S:lF h a d kf fl)(q:∀v h',lF h' a d kf (λx=>lN t (fl x))->Kx (kf.map (·.2)) h h'->R v h'):WC (run pg (k+1) 94 [.ref a,.int t]) h R:=by
 have lx:(kf.map λp=>AV.int p.1).length=kf.length:=aW ..;have lk:=S.lk;refine aT rfl rfl<|WB.of<|lR<|mS<|aC.of S.o<|WC.of<|JH S.od ?_;rw[BI];refine nK bC ?_;have hv:∀p∈kf,aZ kf p.1=aA p.2:=λp hp=>pA S.nd hp;have hs:∀{x f},aZ kf x=aA f->f∈kf.map (·.2):=λe=>List.mem_map.mpr ⟨_,Ag e,rfl⟩;refine uA (xs:=kf.map λp=>AV.int p.1) (λj Z h'=>(∃z v3 v4,Z=[aA (.ref a),aA (.int t),aA (.int z),v3,v4])/\lF h' a d kf (λx=>if x∈(kf.take j).map (·.1) then lN t (fl x) else fl x)/\Kx (kf.map (·.2)) h h'/\h'.ob h.nx=aA (.lst aB<|kf.map λp=>AV.int p.1)/\h.nx<h'.nx) (by rw[eA];lia) ⟨⟨_,_,_,rfl⟩,?_,Kx.of Kp.refl.new,bC,cN _⟩ (λ_ _ _ y=>y.2.2.2.1) (λj y Z h' hx w=>?_)<|λZ h' w=>?_
 .have:(λx=>if x∈(kf.take 0).map (·.1) then lN t (fl x) else fl x)=fl:=by funext x;simp
  exact S.keep Kp.refl.new
 .obtain⟨⟨z,v3,v4,rfl⟩,S',kx,on,lt⟩:=w;obtain⟨⟨x,f⟩,hr,rfl⟩:=mO hx;have ef:=hv _ (cM hr);obtain⟨f1,f2⟩:=S'.ls x f ef;refine jY _<|fW _<|aC.of S'.o<|WC.of<|Cw (k:=.inl x) S'.od rfl (by rw[jM,ef];rfl)<|WB.of<|xM<|aCb f2 f1 (S'.lf x) λz' h2 k2 o2=>?_;have ne:∀{m:Nat},m≠f->m∉[f]:=λhm w=>hm (List.mem_singleton.mp w);have xin:x∉(kf.take j).map (·.1):=by
   intro w;obtain⟨p,hp,e⟩:=List.mem_map.mp w;obtain⟨m,hm,e2⟩:=Qs hp;rw[lB]at hm;rw[LU]at e2;have hj:=(List.getElem?_eq_some_iff.mp hr).1;have e3:(kf.map (·.1))[m]'(by rw[aW];lia)=(kf.map (·.1))[j]'(by rw[aW];omega):=by rw[LS,LS,e2,(List.getElem?_eq_some_iff.mp hr).2];exact e
   have:=(Qq S.nd).mp e3;lia
  have tk:kf.take (j+1)=kf.take j++[(x,f)]:=by rw[tH,hr];rfl
  refine⟨⟨_,_,_,rfl⟩,⟨k2.get S'.ha (ne (S'.la ef).symm) S'.o,k2.get S'.hd (ne (S'.ld ef).symm) S'.od,bD S'.ha k2.nx,bD S'.hd k2.nx,S.nd,S.lk,λy g eg=>⟨bD (S'.ls y g eg).1 k2.nx,?_⟩,λy ey=>?_,S.inj,λy=>?_⟩,kx.trans (k2.sub λm hm=>by rw[List.mem_singleton.mp hm];exact hs ef),k2.get lt (ne<|lD<|(S.ls x f ef).1) on,bD lt k2.nx⟩
  .rw[tk,iM];by_cases c:y=x
   .subst c;rw[ef]at eg;cases eg;rw[o2,if_neg xin,if_pos (by simp)]
   .have c':y∈(kf.take j).map (·.1)++[(x,f)].map (·.1)↔y∈(kf.take j).map (·.1):=by simp[c]
    have:=k2.get (S'.ls y g eg).1 (ne λw=>c (S.inj y x f (w▸eg) ef)) (S'.ls y g eg).2;rw[this];simp only[c']
  .rw[S.no y ey];split<;>rfl
  .have:=EH t (fl y);have:=S.lf y;split<;>omega
 .obtain⟨⟨z,v3,v4,rfl⟩,S',kx,on,lt⟩:=w;refine q _ h' ?_ kx;have:(λx=>if x∈(kf.take (kf.map λp=>AV.int p.1).length).map (·.1) then lN t (fl x) else fl x)=λx=>lN t (fl x):=by
   funext x
   rw[lx,tI];split
   .rfl
   .rename_i c;rw[S.no x (Option.eq_none_iff_forall_ne_some.mpr λf e=>c (List.mem_map.mpr ⟨_,Ag e,rfl⟩))];rfl
  rw[this]at S';exact S'
end
section
structure Sl where
 a:Nat
 tk:Int
 pc:Int
 row:aI
 bU:Yi
 ws:Yi
 ch:Int
 dr:Bool
 src:Hs
 jF:Hs
 put:Int
 st:Hs
 fi:Hs
 of:Hs
def Sl.wi(s:Sl):Hx:=s.ws.map λw=>w.getD 0
def Sl.ft(room:Int)(s:Sl):Yo:=s.row.ft s.wi room
def Sl.dd(room:Int)(s:Sl):AV:=match s.fi with
 |none=>.aE
 |some _=>s.row.dB s.pc s.wi room (oI s.jF)
def Sl.lt(room:Int)(s:Sl):iA:=⟨s.tk,s.pc,s.row,s.bU,s.ch,s.dr,s.src,s.jF,s.dd room,s.put,s.st,s.fi,s.of⟩
structure Cf where
 b:Nat
 rs:List aI
 sz:Int
 wd:Int
 tb:Yj
 gu:Nat
 nv:Nat
 room:Int
 lo:List (Nat×bJ)
structure Gh where
 sl:Nat
 kf:Dc Nat
 kd:Nat->Nat
structure Mo where
 slots:List Sl
 ah:Int
 nw:Int
 eL:Int
 hG:Int
 fl:Int->Hx
 wk:Dc (Int×Int)
 kp:Dc (Hs×Hs)
 bg:Dc (Int×Hs)
 sd:Sd
 cA:Ht
 cQ:Dc Int
 gN:Dc Int
 brk:Bool
def Mo.wf(m:Mo)(c:Cf)(sl:Nat):List (cV×AV):=[("program",.ref (c.b+2)),("ahead",.int m.ah),("size",.int c.sz),("wide",.int c.wd),("slots",.ref sl),("names",.ref (c.b+4)),("benches",.ref (c.b+6)),("shelf",.ref (c.b+8)),("tickets",.int m.eL),("thrown",.int m.hG),("now",.int m.nw)]
def Mo.lf(m:Mo)(c:Cf):List (cV×AV):=[("state",m.sd.av),("guesser",.ref c.gu),("nerve",.ref c.nv),("slips",.ref (c.b+12)),("storers",.ref (c.b+13)),("gone",.ref (c.b+14)),("broken",.bl m.brk)]
def Mo.gH(m:Mo)(c:Cf)(g:Gh):List (Option bJ):=[
 aA (.ins 20 [("window",.ref (c.b+1)),("ledger",.ref (c.b+11))]),aA (.ins 18<|m.wf c g.sl),aA (.lst aB<|c.rs.map aI.av),aD,
 aA (.ins 15 [("filled",.ref (c.b+5))]),aA (.aQ<|dE AV.ref g.kf),aA (.ins 14<|fb c.tb<|c.b+7),aA (.aQ<|dE dX m.wk),
 aA (.ins 16 [("kept",.ref (c.b+9)),("begun",.ref (c.b+10))]),aA (.aQ<|dE lM m.kp),aA (.aQ<|dE lW m.bg),
 aA (.ins 19<|m.lf c),aA (.lst aB m.cA),aA (.aQ<|dE AV.int m.cQ),aA (.aQ<|dE AV.int m.gN)]
def Mo.dyn(m:Mo)(c:Cf)(g:Gh)(k:Nat):Option (Nat×bJ):=
 if k=15 then aA (g.sl,.lst aB (m.slots.map λs=>.ref s.a))
 else if k<30 then(aZ g.kf<|(k:Int)-16).map λf=>(f,.lst aB ((m.fl<|(k:Int)-16).map .int))
 else(m.slots.find? λs=>decide (s.tk=((k:Int)-30) / 2)).map λs=>if k%2=0 then(s.a,.ins 17 ((s.lt c.room).fs (s.a+2))) else(s.a+2,.lst aB (s.ws.map oI))
structure jC(b:Nat)(kd:Nat->Nat)(l:List (Option bJ))(r:Nat->Option (Nat×bJ))(h:AH):Prop where
 st:∀i o,l[i]?=aA (aA o)->kd (b+i)=i/\b+i<h.nx/\h.ob (b+i)=aA o
 dy:∀k n o,15<=k->r k=aA (n,o)->kd n=k/\b<=n/\n<h.nx/\h.ob n=aA o
variable {b:Nat}{kd:Nat->Nat}{l:List (Option bJ)}{r r':Nat->Option (Nat×bJ)}
theorem jC.keep(x:jC b kd l r h)(g:Kp h h'):jC b kd l r h':=
 ⟨λi o e=>⟨(x.st i o e).1,bD (x.st i o e).2.1 g.nx,g.get (x.st i o e).2.1 (x.st i o e).2.2⟩,λk n o h1 e=>have z:=x.dy k n o h1 e;⟨z.1,z.2.1,bD z.2.2.1 g.nx,g.get z.2.2.1 z.2.2.2⟩⟩
theorem jC.low{S:Ia}(x:jC b kd l r h)(g:Kx S h h')(hs:∀n∈S,n<b):jC b kd l r h':=
 have ns:=λn hn z=>lC _ (bD (hs n z) hn)
 ⟨λi o e=>have z:=x.st i o e;⟨z.1,bD z.2.1 g.nx,g.get z.2.1 (ns _ (oP ..)) z.2.2⟩,λk n o h1 e=>have z:=x.dy k n o h1 e;⟨z.1,z.2.1,bD z.2.2.1 g.nx,g.get z.2.2.1 (ns _ z.2.1) z.2.2.2⟩⟩
theorem BG(x:jC b kd l r h){k:Nat}(e:l[i]?=aA (aA o))(hn:kd n=k)(hk:k≠i):b+i≠n:=λz=>hk (by rw[<- hn,<- z];exact(x.st i o e).1)
theorem jC.wZ(x:jC b kd l r h)(hi:i<15)(e:l[i]?=aA (aA o))(g:Kx [b+i] h h')(e':h'.ob (b+i)=aA o'):jC b kd (l.set i<|aA o') r h':=by
 refine⟨λj d a=>?_,λk n on h1 f=>?_⟩
 .by_cases c:j=i
  .subst c;rw[rL (List.getElem?_eq_some_iff.mp e).1]at a;cases a;have z:=x.st j o e;exact⟨z.1,bD z.2.1 g.nx,e'⟩
  .rw[rK λw=>c w.symm]at a;have z:=x.st j d a;exact⟨z.1,bD z.2.1 g.nx,g.get z.2.1 (by simp;omega) z.2.2⟩
 .have z:=x.dy k n on h1 f;exact⟨z.1,z.2.1,bD z.2.2.1 g.nx,g.get z.2.2.1 (λw=>BG x e z.1 (by lia) (List.mem_singleton.mp w).symm) z.2.2.2⟩
theorem jC.sQ(x:jC b kd l r h)(hi:i<15)(e:l[i]?=aA (aA o)):jC b kd (l.set i<|aA o') r (h.put (b+i) o'):=x.wZ hi e (Kx.refl.put<|.head _) bB
theorem jC.BM{k:Nat}(x:jC b kd l r h)(hk:15<=k)(hl:l.length<=15)(e:r k=aA (n,o))(g:Kx [n] h h')(e':h'.ob n=aA o')(er:r' k=aA (n,o'))(hs:∀j p,15<=j->j≠k->r' j=aA p->r j=aA p):jC b kd l r' h':=by
 have y:=x.dy k n o hk e;refine⟨λj d a=>?_,λj f d h1 a=>?_⟩
 .have z:=x.st j d a;have i:=(List.getElem?_eq_some_iff.mp a).1;exact⟨z.1,bD z.2.1 g.nx,g.get z.2.1 (λw=>BG x a y.1 (by lia) (List.mem_singleton.mp w)) z.2.2⟩
 .by_cases c:j=k
  .subst c;rw[er]at a;cases a;exact⟨y.1,y.2.1,bD y.2.2.1 g.nx,e'⟩
  .have z:=x.dy j f d h1 (hs j _ h1 c a);exact⟨z.1,z.2.1,bD z.2.2.1 g.nx,g.get z.2.2.1 (λw=>c (by rw[<- z.1,<- y.1,List.mem_singleton.mp w])) z.2.2.2⟩
theorem jC.newD{k:Nat}(x:jC b kd l r h)(hk:15<=k)(g:Kp h h')(hn:h.nx<=n)(hn':n<h'.nx)(hb:b<=h.nx)(e':h'.ob n=aA o)(er:r' k=aA (n,o))(hs:∀j p,15<=j->j≠k->r' j=aA p->r j=aA p):jC b (λi=>if i=n then k else kd i) l r' h':=by
 refine⟨λj d a=>?_,λj e d h1 a=>?_⟩
 .have z:=x.st j d a;exact⟨by rw[if_neg (by lia)];exact z.1,bD z.2.1 g.nx,g.get z.2.1 z.2.2⟩
 .by_cases c:j=k
  .subst c;rw[er]at a;cases a;exact⟨if_pos rfl,(cD ‹_› ‹_›),hn',e'⟩
  .have z:=x.dy j e d h1 (hs j _ h1 c a);exact⟨by rw[if_neg (by lia)];exact z.1,z.2.1,bD z.2.2.1 g.nx,g.get z.2.2.1 z.2.2.2⟩
end
variable {c:Cf}{g':Gh}{m m':Mo}{s s':Sl}
section
structure Wf(g:Gh)(m:Mo):Prop where
 tk:(m.slots.map (·.tk)).Pairwise (·<·)
 t0:∀s∈m.slots,0<=s.tk
 sn:m.slots.length<64
 sw:∀s∈m.slots,s.ws.length=s.row.nw/\s.bU.length=s.row.nw
 wn:(m.wk.map (·.1)).Nodup
 wl:m.wk.length<64
 kn:(m.kp.map (·.1)).Pairwise (·<·)
 kl:m.kp.length<64
 bn:(m.bg.map (·.1)).Nodup
 bl:m.bg.length<64
 fn:(g.kf.map (·.1)).Nodup
 fk:∀x f,aZ g.kf x=aA f->0<=x/\x<8
 fo:∀x,aZ g.kf x=aD->m.fl x=[]
 ff:∀x,(m.fl x).length<99999
structure nU(c:Cf)(L:Nat)(Sg Sn:Ia)(h:AH):Prop where
 g:Gs h L 1 c.gu Sg
 n:Gs h L 1 c.nv Sn
 dj:∀j∈Sg,j∉Sn
 lg:∀j∈Sg,j<c.b
 ln:∀j∈Sn,j<c.b
 lo:∀p∈c.lo,p.1∉Sg/\p.1∉Sn/\p.1<c.b/\h.ob p.1=aA p.2
structure aK(c:Cf)(g:Gh)(m:Mo)(h:AH):Prop where
 X:jC c.b g.kd (m.gH c g) (m.dyn c g) h
 G:∃Sg Sn,nU c (m.cA.length+10) Sg Sn h
 W:Wf g m
variable {g:Gh}
theorem aK.at(r:aK c g m h)(i:Nat)(e:(m.gH c g)[i]?=aA (aA o):=by rfl):h.ob (c.b+i)=aA o:=(r.X.st i o e).2.2
theorem aK.lt(r:aK c g m h)(i:Nat)(e:(m.gH c g)[i]?=aA (aA o):=by rfl):c.b+i<h.nx:=(r.X.st i o e).2.1
theorem aK.bx(r:aK c g m h):c.b<=h.nx:=tK (cg (oP ..)<|r.lt 0)
theorem aK.jW(r:aK c g m h):h.ob g.sl=aA (.lst aB<|m.slots.map λs=>.ref s.a)/\g.sl<h.nx/\g.kd g.sl=15:=have z:=r.X.dy 15 g.sl _ (aU _) rfl;⟨z.2.2.2,z.2.2.1,z.1⟩
theorem Ou{l:List Sl}(hs:s∈l)(hp:(l.map (·.tk)).Pairwise (·<·)):l.find? (λz=>decide (z.tk=s.tk))=aA s:=by
 induction l with
 |nil=>cases hs|cons z l a=>
  rw[kM,Rg]at hp;rw[nM];rcases List.mem_cons.mp hs with rfl|hs
  .simp
  .have:decide (z.tk=s.tk)=aH:=decide_eq_false λw=>by have:=hp.1 s.tk (List.mem_map.mpr ⟨s,hs,rfl⟩);lia
   rw[this];exact a hs hp.2
def kF(t:Int):Nat:=30+2*t.toNat
theorem rW{t:Int}(h:0<=t):(((kF t:Nat):Int)-30) / 2=t/\(((kF t+1:Nat):Int)-30) / 2=t/\kF t%2=0/\(kF t+1)%2=1/\30<=kF t:=by obtain⟨n,rfl⟩:=vJ h;show((30+2*n:Nat)-30:Int) / 2=n/\((30+2*n+1:Nat)-30:Int) / 2=n/\(30+2*n)%2=0/\(30+2*n+1)%2=1/\30<=30+2*n;lia
theorem ya{t:Int}{k:Nat}(h:0<=t)(e:((k:Int)-30) / 2=t):k=kF t\/k=kF t+1:=by obtain⟨n,rfl⟩:=vJ h;show k=30+2*n\/k=30+2*n+1;lia
theorem fv(w:Wf g m)(hs:s∈m.slots):m.dyn c g (kF s.tk)=aA (s.a,.ins 17 ((s.lt c.room).fs (s.a+2))):=by have z:=rW (w.t0 s hs);unfold Mo.dyn;rw[if_neg (by lia),if_neg (by lia),z.1,Ou hs w.tk,rO,if_pos z.2.2.1]
theorem fw(w:Wf g m)(hs:s∈m.slots):m.dyn c g (kF s.tk+1)=aA (s.a+2,.lst aB (s.ws.map oI)):=by have z:=rW (w.t0 s hs);unfold Mo.dyn;rw[if_neg (by lia),if_neg (by lia),z.2.1,Ou hs w.tk,rO,if_neg (by lia)]
theorem aK.cK(r:aK c g m h)(hs:s∈m.slots):h.ob s.a=aA (.ins 17<|(s.lt c.room).fs (s.a+2)):=(r.X.dy _ _ _ (by have:=rW (r.W.t0 s hs);lia)<|fv r.W hs).2.2.2
theorem aK.jo(r:aK c g m h)(hs:s∈m.slots):h.ob (s.a+2)=aA (.lst aB<|s.ws.map oI):=(r.X.dy _ _ _ (by have:=rW (r.W.t0 s hs);lia)<|fw r.W hs).2.2.2
theorem aK.Bp(r:aK c g m h)(hs:s∈m.slots):s.a+2<h.nx:=(r.X.dy _ _ _ (by have:=rW (r.W.t0 s hs);omega)<|fw r.W hs).2.2.1
theorem aK.og(r:aK c g m h):pN h (c.b+6) (c.b+7) c.tb m.wk:=⟨r.at 6,r.at 7,r.lt 6,r.lt 7,by have:=r.W.wl;lia,r.W.wn⟩
theorem aK.shr(r:aK c g m h):lG h (c.b+8) (c.b+9) (c.b+10) m.kp m.bg:=⟨r.at 8,r.at 9,r.at 10,r.lt 8,r.lt 9,r.lt 10,(bV<|cN _),r.W.kl,r.W.bl,r.W.kn,r.W.bn⟩
theorem BJ(w:Wf g m):g.kf.length<=8:=by
 have:=aSy w.fn λx a=>by obtain⟨p,b,rfl⟩:=List.mem_map.mp a;have:=w.fk _ _ (pA w.fn b);obtain⟨n,e⟩:=vJ this.1;rw[e]at this ⊢;exact(by decide +kernel:∀n:Nat,n<8->(n:Int)∈([0,1,2,3,4,5,6,7]:Hx)) n<|Int.ofNat_lt.mp this.2
 rw[aW]at this;exact this
theorem wR{f:Nat}(w:Wf g m)(e:aZ g.kf x=aA f):m.dyn c g (16+x.toNat)=aA (f,.lst aB ((m.fl x).map .int)):=by have:=w.fk x f e;unfold Mo.dyn;rw[if_neg (by lia),if_pos (by lia),show((16+x.toNat:Nat):Int)-16=x by lia,e];rfl
theorem aK.Kw(r:aK c g m h):lF h (c.b+4) (c.b+5) g.kf m.fl:=⟨r.at 4,r.at 5,r.lt 4,r.lt 5,r.W.fn,by have:=BJ r.W;lia,λx f e=>have z:=r.X.dy _ _ _ (by omega) (wR r.W e);⟨z.2.2.1,z.2.2.2⟩,r.W.fo,λx y f a b=>by have d:=(r.X.dy _ _ _ (by omega)<|wR r.W b).1;rw[<- Qi (r.W.fk x f a).1,Nat.add_left_cancel (((r.X.dy _ _ _ (by lia)<|wR r.W a).1).symm.trans d),Qi (r.W.fk y f b).1],λx=>by have:=r.W.ff x;lia⟩
theorem nU.low{L':Nat}(z:nU c L Sg Sn h)(hl:L<=L')(e:∀n,n<c.b->h'.ob n=h.ob n):nU c L' Sg Sn h':=⟨z.g.kp hl λj a=>e j (z.lg j a),z.n.kp hl λj a=>e j (z.ln j a),z.dj,z.lg,z.ln,λp b=>have y:=z.lo p b;⟨y.1,y.2.1,y.2.2.1,(e _ y.2.2.1).trans y.2.2.2⟩⟩
theorem Kx.lowG{S:Ia}(x:Kx S h h')(hb:c.b<=h.nx)(hs:∀n∈S,c.b<=n):∀n,n<c.b->h'.ob n=h.ob n:=λn hn=>x.ob n (bD hn hb) λz=>lC _ (bD hn<|hs n z)
theorem aK.keep(r:aK c g m h)(k:Kp h h'):aK c g m h':=⟨r.X.keep k,r.G.imp λa=>xO λb z=>z.low (aU _) λn hn=>k.ob n (bD hn r.bx),r.W⟩
theorem aK.wZ(r:aK c g m h)(i:Nat){o o':bJ}(kx:Kx [c.b+i] h h')(e':h'.ob (c.b+i)=aA o')(w:Wf g m')(hs:m'.gH c g=(m.gH c g).set i (aA o'))(hd:m'.dyn c g=m.dyn c g)(hl:m.cA.length<=m'.cA.length)(hi:i<15:=by decide)(e:(m.gH c g)[i]?=aA (aA o):=by rfl):aK c g m' h':=
 ⟨by rw[hs,hd];exact r.X.wZ hi e kx e',r.G.imp λa=>xO λb z=>z.low (by lia) (kx.lowG r.bx λn hn=>by rw[List.mem_singleton.mp hn];exact oP ..),w⟩
theorem aK.sQ(r:aK c g m h)(i:Nat)(w:Wf g m')(hs:m'.gH c g=(m.gH c g).set i (aA o'))(hd:m'.dyn c g=m.dyn c g)(hl:m.cA.length<=m'.cA.length)(hi:i<15:=by decide)(e:(m.gH c g)[i]?=aA (aA o):=by rfl):aK c g m' (h.put (c.b+i) o'):=r.wZ i (Kx.refl.put<|.head _) bB w hs hd hl hi e
end
section
variable {k:Nat}{g:Gh}
def Mo.slot(m:Mo)(t:Int):Option Sl:=m.slots.find? λs=>decide (s.tk=t)
def aO:Option Sl->AV
 |some s=>.ref s.a
 |none=>.aE
theorem Xv{α:Type}{l:List α}{x:α}(e:l[i]?=aA x):l.drop i=x::l.drop (i+1):=by rw[Dq ((List.getElem?_eq_some_iff.mp e).1),(List.getElem?_eq_some_iff.mp e).2]
theorem HC{t:Hs}(r:aK c g m h)(q:R (aO<|t.bind m.slot) h):WC (run pg (k+1) 112 [.ref (c.b+1),oI t]) h R:=by
 have sn:=r.W.sn;refine aT rfl rfl<|WB.of<|lR<|mS<|aC.of (r.at 1)<|nK r.jW.1 ?_;refine uA (λj a b=>b=h/\(∃v2,a=[aA (.ref<|c.b+1),aA (oI t),v2])/\t.bind m.slot=t.bind λt=>(m.slots.drop j).find? λs=>decide (s.tk=t)) (by rw[aW,eA];lia) ⟨rfl,⟨_,rfl⟩,rfl⟩ (λ_ _ _ y=>y.1▸r.jW.1) (λj x a b d y=>?_)<|λa b y=>?_
 .obtain⟨rfl,⟨v2,rfl⟩,e⟩:=y;obtain⟨s,hr,rfl⟩:=mO d;rw[Xv hr]at e;cases t with
  |none=>exact jY _<|fW _<|aC.of (r.cK<|cM hr)<|WC.of<|Cu rfl ⟨rfl,⟨_,rfl⟩,rfl⟩|some t=>
   rw[hX,hX,nM]at e;refine jY _<|fW _<|aC.of (r.cK<|cM hr)<|aF.dc (λz=>?_) λz=>?_
   .rw[show(decide<|s.tk=t)=aB from decide_eq_true z]at e;rw[hX,e]at q;exact q
   .rw[show(decide<|s.tk=t)=aH from decide_eq_false z]at e;exact⟨rfl,⟨_,rfl⟩,e⟩
 .obtain⟨rfl,⟨v2,rfl⟩,e⟩:=y;rw[aW,Dr]at e;rw[e]at q;cases t<;>exact q
theorem HD{t:Int}(r:aK c g m h)(q:R (aO<|m.slot t) h):WC (run pg (k+1) 112 [.ref (c.b+1),.int t]) h R:=HC (t:=aA t) r q
def Mo.cut(m:Mo)(t:Int):Mo:={ m with slots:=m.slots.filter λs=>decide (s.tk<t),hG:=m.hG+((m.slots.length:Int)-((m.slots.filter λs=>decide (s.tk<t)).length:Int)),fl:=λx=>lN t (m.fl x),wk:=m.wk.filter λp=>!decide (t<=p.1),kp:=m.kp.filter λp=>!decide (t<=p.1),bg:=m.bg.filter λp=>!decide (t<=p.1) }
theorem y4{l l':List Sl}(hl:l'.Sublist l)(hp:(l.map (·.tk)).Pairwise (·<·))(e:l'.find? (λs=>decide (s.tk=u))=aA s):l.find? (λs=>decide (s.tk=u))=aA s:=by have h1:=LH e;simp only[decide_eq_true_eq]at h1;subst h1;exact Ou (hl.subset<|Dw e) hp
theorem EN{x y:bJ}:(h.put n x).put n y=h.put n y:=by
 unfold AH.put;congr 1
 funext i
 dsimp only;split<;>rfl
theorem Wf.Bv{sl':List Sl}{th a1:Int}(w:Wf g m)(hs:sl'.Sublist m.slots)(eg:g'.kf=g.kf):Wf g' { m with slots:=sl',hG:=th,ah:=a1 }:=
 ⟨kh (hs.map _) w.tk,λs hm=>w.t0 s (hs.subset hm),cg hs.length_le w.sn,λs hm=>w.sw s (hs.subset hm),w.wn,w.wl,w.kn,w.kl,w.bn,w.bl,eg▸w.fn,eg▸w.fk,eg▸w.fo,w.ff⟩
theorem aK.Bv{sl':List Sl}{n:Nat}{th:Int}(r:aK c g m h)(k1:Kp h h')(hn:h.nx<=n)(hn':n<h'.nx)(on:h'.ob n=aA (.lst aB<|sl'.map λs=>.ref s.a))(hs:sl'.Sublist m.slots) :
  aK c { g with sl:=n,kd:=λi=>if i=n then 15 else g.kd i } { m with slots:=sl',hG:=th } (h'.put (c.b+1)<|.ins 18<|{ m with slots:=sl',hG:=th }.wf c n):=by
 have a:=r.keep k1;have w:=r.W.Bv (th:=th) (a1:=m.ah) (g':={ g with sl:=n,kd:=λi=>if i=n then 15 else g.kd i }) hs rfl;have b:jC c.b (λi=>if i=n then 15 else g.kd i) (m.gH c g) ({ m with slots:=sl',hG:=th }.dyn c { g with sl:=n,kd:=λi=>if i=n then 15 else g.kd i }) h':=by
  refine r.X.newD (aU _) k1 hn hn' r.bx on rfl λj p h1 d e=>?_;unfold Mo.dyn at e ⊢;rw[if_neg d]at e ⊢;split
  .rename_i z;rw[if_pos z]at e;exact e
  .rename_i z;rw[if_neg z]at e;obtain⟨s,f,rfl⟩:=Option.map_eq_some_iff.mp e;rw[y4 hs r.W.tk f];rfl
 exact⟨b.sQ (i:=1) (by decide) rfl,a.G.imp λk=>xO λl z=>z.low (aU _) ((Kx.refl.put (.head _):Kx [c.b+1] h' _).lowG a.bx λn hn=>by rw[List.mem_singleton.mp hn];exact oP ..),w⟩
end
section
variable {k:Nat}{g:Gh}
theorem aK.nf(r:aK c g m h){k:Nat}(hk:g.kd n=k)(hn:k<16\/24<=k):n∉g.kf.map (·.2):=λz=>by obtain⟨p,a,rfl⟩:=List.mem_map.mp z;have e:=pA r.W.fn a;have:=r.W.fk _ _ e;have:=(r.X.dy _ _ _ (by lia)<|wR r.W e).1;lia
theorem aK.Q7{fl':Int->Hx}(r:aK c g m h)(N:lF h' (c.b+4) (c.b+5) g.kf fl')(kx:Kx (g.kf.map (·.2)) h h')(hf:∀x,(fl' x).length<=(m.fl x).length):aK c g { m with fl:=fl' } h':=by
 refine⟨⟨λi o e=>?_,λk n o h1 e=>?_⟩,r.G.imp λs=>xO λt z=>z.low (aU _) (kx.lowG r.bx λn hn=>?_),⟨r.W.tk,r.W.t0,r.W.sn,r.W.sw,r.W.wn,r.W.wl,r.W.kn,r.W.kl,r.W.bn,r.W.bl,r.W.fn,r.W.fk,N.no,λx=>cg (hf x) (r.W.ff x)⟩⟩
 .have z:=r.X.st i o e;have b:=(List.getElem?_eq_some_iff.mp e).1;have b:i<15:=b;exact⟨z.1,bD z.2.1 kx.nx,kx.get z.2.1 (r.nf z.1 (by omega)) z.2.2⟩
 .by_cases d:16<=k/\k<30
  .unfold Mo.dyn at e;rw[if_neg (by omega),if_pos d.2]at e;obtain⟨f,a,j⟩:=Option.map_eq_some_iff.mp e;cases j;have z:=r.X.dy _ _ _ (by omega) (wR r.W a);exact⟨by omega,z.2.1,(N.ls _ _ a).1,(N.ls _ _ a).2⟩
  .have l:m.dyn c g k=aA (n,o):=by
    unfold Mo.dyn at e ⊢;split
    .rename_i z;rw[if_pos z]at e;exact e
    .rename_i z;rw[if_neg z,if_neg (by omega)]at e;rw[if_neg (by omega)];exact e
   have z:=r.X.dy k n o h1 l;exact⟨z.1,z.2.1,bD z.2.2.1 kx.nx,kx.get z.2.2.1 (r.nf z.1 (by omega)) z.2.2.2⟩
 .obtain⟨p,q,rfl⟩:=List.mem_map.mp hn;exact(r.X.dy _ _ _ (by omega)<|wR r.W<|pA r.W.fn q).2.1
theorem aK.sh2(r:aK c g m h)(kx:Kx [c.b+9,c.b+10] h h')(e1:h'.ob (c.b+9)=aA (.aQ<|dE lM kp'))(e2:h'.ob (c.b+10)=aA (.aQ<|dE lW bg'))(kn:(kp'.map (·.1)).Pairwise (·<·))(kl:kp'.length<64)(bn:(bg'.map (·.1)).Nodup)(bl:bg'.length<64):aK c g { m with kp:=kp',bg:=bg' } h':=by
 refine⟨⟨λi o e=>?_,λk n o h1 e=>?_⟩,r.G.imp λj=>xO λl z=>z.low (aU _) (kx.lowG r.bx λn hn=>?_),⟨r.W.tk,r.W.t0,r.W.sn,r.W.sw,r.W.wn,r.W.wl,kn,kl,bn,bl,r.W.fn,r.W.fk,r.W.fo,r.W.ff⟩⟩
 .by_cases b:i=9
  .subst b;cases e;have z:=r.X.st 9 _ rfl;exact⟨z.1,bD z.2.1 kx.nx,e1⟩
  .by_cases a:i=10
   .subst a;cases e;have z:=r.X.st 10 _ rfl;exact⟨z.1,bD z.2.1 kx.nx,e2⟩
   .have d:(m.gH c g)[i]?=aA (aA o):=by rw[show Mo.gH { m with kp:=kp',bg:=bg' } c g=((m.gH c g).set 9 (aA<|.aQ<|dE lM kp')).set 10 (aA<|.aQ<|dE lW bg') from rfl,rK λw=>a w.symm,rK λw=>b w.symm]at e;exact e
    have z:=r.X.st i o d;exact⟨z.1,bD z.2.1 kx.nx,kx.get z.2.1 (by simp;lia) z.2.2⟩
 .have z:=r.X.dy k n o h1 e;have f:=(r.X.st 9 _ rfl).1;refine⟨z.1,z.2.1,bD z.2.2.1 kx.nx,kx.get z.2.2.1 (λw=>?_) z.2.2.2⟩;rcases List.mem_cons.mp w with w|w
  .rw[w,f]at z;lia
  .rw[List.mem_singleton.mp w,((r.X.st 10 _ rfl).1)]at z;lia
 .rcases List.mem_cons.mp hn with w|w
  .rw[w];exact oP ..
  .rw[List.mem_singleton.mp w];exact oP ..
theorem yX{β:Type}{l:List β}{f:β->Bool}(h:l.length<n):(l.filter f).length<n:=cg (rM ..) h
theorem Ot{t:Int}(r:aK c g m h)(q:∀v g' h',aK c g' (m.cut t) h'->h.nx<=h'.nx->(∀n,n<h.nx->28<=g.kd n->h'.ob n=h.ob n/\g'.kd n=g.kd n)->R v h'):WC (run pg (k+2) 116 [.ref (c.b+1),.int t]) h R:=by
 have sn:=r.W.sn;have big:=kX;refine aT rfl rfl<|WC.of<|JT<|mS<|aC.of (r.at 1)<|nK r.jW.1 ?_;refine Wx (n:=g.sl) (bb:=aB) (xs:=m.slots.map λs=>.ref s.a) (λj B Z h'=>h'=h/\(∃v0,Z=[v0,aA (.int t)])/\B=(((m.slots.take j).filter λs:Sl=>decide (s.tk<t)).map λs=>.ref s.a)) (by rw[aW,eA];lia) ⟨rfl,⟨_,rfl⟩,rfl⟩ (λ_ _ _ _ y=>y.1▸r.jW.1) (λj x B Z h' G y=>?_)<|λB Z h' y=>?_
 .obtain⟨rfl,⟨v0,rfl⟩,rfl⟩:=y;obtain⟨s,hr,rfl⟩:=mO G;have C:m.slots.take (j+1)=m.slots.take j++[s]:=by rw[tH,hr];rfl
  refine jN _<|aC.of (r.cK<|cM hr) ?_;show if decide (s.tk<t)=aB then _ else _
  split
  .rename_i z;refine⟨?_,rfl,⟨_,rfl⟩,?_⟩
   .have h1:((m.slots.take j).filter λs:Sl=>decide (s.tk<t)).length<=(m.slots.take j).length:=rM ..;have N:(m.slots.take j).length<=m.slots.length:=by rw[lB];omega
    rw[aW];omega
   .rw[C,vL,iM,oO,if_pos z];rfl
  .rename_i z;refine⟨rfl,⟨_,rfl⟩,?_⟩;rw[C,vL,iM,oO,if_neg z];simp
 .obtain⟨rfl,⟨v0,rfl⟩,rfl⟩:=y;rw[aW,tI];have k1:∀{o:bJ},Kp h' (h'.new o):=Kp.refl.new;have u:=r.keep (k1 (o:=.lst aB (((m.slots.filter λs:Sl=>decide (s.tk<t)).map λs=>.ref s.a))));have key:∀{X Y:bJ},Y = .ins 18 ({ m with slots:=m.slots.filter λs:Sl=>decide (s.tk<t),hG:=m.hG+(((m.slots.map λs:Sl=>AV.ref s.a).length:Int)-(((m.slots.filter λs:Sl=>decide (s.tk<t)).map λs:Sl=>AV.ref s.a).length:Int)) }.wf c h'.nx)->aK c _ _ (((h'.new<|.lst aB<|((m.slots.filter λs:Sl=>decide (s.tk<t)).map λs=>.ref s.a)).put (c.b+1) X).put (c.b+1) Y):=λ{X Y} e=>by rw[EN,e];exact r.Bv k1 (aU _) (cN _) bC List.filter_sublist
  refine aC.of (u.at 1)<|aC.of (u.at 1)<|WC.of<|fR (bO u.jW.1)<|WC.of<|fR (bO bC)<|aC.of (u.at 1)<|aC.of bB ?_;have A:=key (X:=.ins 18 (gC "thrown" (.int<|m.hG+(((m.slots.map λs:Sl=>AV.ref s.a).length:Int)-(((m.slots.filter λs:Sl=>decide (s.tk<t)).map λs:Sl=>AV.ref s.a).length:Int)))<|m.wf c g.sl)) rfl;refine aC.of (A.at 1)<|aC.of (A.at 4)<|S7 (k:=k) A.Kw λO P H b=>?_;have a:=A.Q7 H b λx=>EH _ _;refine aC.of (a.at 1)<|aC.of (a.at 6)<|VN (k:=k) a.og λv4 Q d I=>?_;have f:=a.wZ (m':={ m with slots:=m.slots.filter λs:Sl=>decide (s.tk<t),hG:=m.hG+(((m.slots.map λs:Sl=>AV.ref s.a).length:Int)-(((m.slots.filter λs:Sl=>decide (s.tk<t)).map λs:Sl=>AV.ref s.a).length:Int)),fl:=λx=>lN t (m.fl x),wk:=m.wk.filter λp=>!decide (t<=p.1) }) 7 d I ⟨a.W.tk,a.W.t0,a.W.sn,a.W.sw,uL a.W.wn,yX a.W.wl,a.W.kn,a.W.kl,a.W.bn,a.W.bl,a.W.fn,a.W.fk,a.W.fo,a.W.ff⟩ rfl rfl (aU _);refine aC.of (f.at 1)<|aC.of (f.at 8)<|aLx (k:=k) f.shr λS T l J K=>?_;have D:=f.sh2 l J K (kh (List.filter_sublist.map _) f.W.kn) (yX f.W.kl) (uL f.W.bn) (yX f.W.bl);rw[aW,aW]at D;refine q _ _ _ D (cD (jQ _)<|cD b.nx<|cD d.nx l.nx) λn hn L=>?_;have nb:∀i o,i<15->(m.gH c g)[i]?=aA (aA o)->n≠c.b+i:=λi o U e w=>by rw[w,(r.X.st i o e).1]at L;omega
  have E:=kC hn;have F:=bD E b.nx;have M:=bD F d.nx;refine⟨?_,if_neg (bV hn)⟩;rw[l.ob n M (by simp only[kN,gI,or_false];exact λw=>w.elim (nb 9 _ (by decide) rfl) (nb 10 _ (by decide) rfl)),d.ob n F (by simp only[kN,gI,or_false];exact nb 7 _ (by decide) rfl),b.ob n E (r.nf rfl (by omega)),aV (nb 1 _ (by decide) rfl),aV (nb 1 _ (by decide) rfl),dJ (bV hn)]
structure iQ(c:Cf)(g:Gh)(h:AH)(g':Gh)(h':AH):Prop where
 nx:h.nx<=h'.nx
 ob:∀n,n<h.nx->28<=g.kd n->c.b<=n->h'.ob n=h.ob n/\g'.kd n=g.kd n
theorem iQ.refl:iQ c g h g h:=⟨aU _,λ_ _ _ _=>⟨rfl,rfl⟩⟩
theorem iQ.trans{g2:Gh}{h2:AH}(x:iQ c g h g' h')(y:iQ c g' h' g2 h2):iQ c g h g2 h2:=⟨cD x.nx y.nx,λn hn d hb=>by have a:=x.ob n hn d hb;have b:=y.ob n (bD hn x.nx) (a.2▸d) hb;exact⟨b.1.trans a.1,b.2.trans a.2⟩⟩
theorem iQ.low{S:Ia}(kx:Kx S h h')(hs:∀n∈S,n<c.b):iQ c g h g h':=⟨kx.nx,λn hn _ hb=>⟨kx.ob n hn λz=>by have:=hs n z;lia,rfl⟩⟩
theorem iQ.put{i:Nat}{o o':bJ}(r:aK c g m h)(hi:i<15)(e:(m.gH c g)[i]?=aA (aA o)):iQ c g h g (h.put (c.b+i) o'):=⟨aU _,λn _ a _=>⟨aV λw=>by rw[w,(r.X.st i o e).1]at a;lia,rfl⟩⟩
end
section
variable {k:Nat}{g:Gh}
theorem Yy{l:List Sl}(hs:l[i]?=aA s)(ht:s'.tk=s.tk)(hp:(l.map (·.tk)).Pairwise (·<·)):(l.set i s').find? (λz=>decide (z.tk=u))=if u=s.tk then aA s' else l.find? λz=>decide (z.tk=u):=by
 induction l generalizing i with
 |nil=>cases hs|cons z l b=>
  rw[kM,Rg]at hp;cases i with
  |zero=>
   cases hs;rw[List.set_cons_zero,nM,nM,ht];by_cases e:u=s.tk
   .rw[if_pos e,decide_eq_true e.symm]
   .rw[if_neg e,decide_eq_false λw=>e w.symm]
  |succ i=>
   have a:=hs;rw[List.set_cons_succ,nM,nM,b a hp.2];by_cases e:z.tk=u
   .have:=hp.1 s.tk (List.mem_map.mpr ⟨s,cM a,rfl⟩);rw[decide_eq_true e];show aA z=if u=s.tk then aA s' else aA z
    rw[if_neg (by lia)]
   .rw[decide_eq_false e]
theorem Aj{α β:Type}{f:α->β}{l:List α}{s s':α}(hs:l[i]?=aA s)(e:f s'=f s):(l.set i s').map f=l.map f:=by
 rw[ki,e];refine LD λj=>?_;rw[LP];split
 .rename_i z;subst z;rw[fM,hs,aW,if_pos (List.getElem?_eq_some_iff.mp hs).1];rfl
 .rfl
theorem Kk{l:List Sl}{z:Sl}(hz:z∈l.set i s'):z∈l\/z=s':=by
 rcases Rb hz with h|h
 .exact .inl h
 .exact .inr h
theorem Wf.dF(w:Wf g m)(hs:m.slots[i]?=aA s)(ht:s'.tk=s.tk)(hw:s'.ws.length=s.ws.length)(hn:s'.bU=s.bU)(hr:s'.row=s.row):Wf g { m with slots:=m.slots.set i s' }:=
 have hm:=cM hs
 ⟨by rw[Aj hs ht];exact w.tk,λz a=>(Kk a).elim (w.t0 z) λe=>by rw[e,ht];exact w.t0 s hm,by rw[cf];exact w.sn,λz a=>(Kk a).elim (w.sw z) λe=>by rw[e,hw,hn,hr];exact w.sw s hm,w.wn,w.wl,w.kn,w.kl,w.bn,w.bl,w.fn,w.fk,w.fo,w.ff⟩
theorem Xw(hs:m.slots[i]?=aA s)(w:Wf g m)(ha:s'.a=s.a)(ht:s'.tk=s.tk){p:Nat×bJ}(h1:15<=j)(e:({ m with slots:=m.slots.set i s' }:Mo).dyn c g j=aA p):m.dyn c g j=aA p\/((j:Int)-30) / 2=s.tk/\30<=j/\p=if j%2=0 then(s.a,.ins 17 ((s'.lt c.room).fs (s.a+2))) else(s.a+2,.lst aB (s'.ws.map oI)):=by
 unfold Mo.dyn at e ⊢;split
 .rename_i z;rw[if_pos z]at e;rw[<- e,Aj hs (by rw[ha])];exact .inl rfl
 .rename_i z;rw[if_neg z]at e;split
  .rename_i a;rw[if_pos a]at e;exact .inl e
  .rename_i a;rw[if_neg a,Yy hs ht w.tk]at e;by_cases b:(j-30) / 2=s.tk
   .rw[if_pos b,rO,ha]at e;exact .inr ⟨b,by lia,(eF e).symm⟩
   .rw[if_neg b]at e;exact .inl e
theorem aK.Ki(r:aK c g m h)(hs:s∈m.slots):c.b<=s.a:=(r.X.dy _ _ _ (by have:=rW (r.W.t0 s hs);lia)<|fv r.W hs).2.1
theorem aK.Kh(r:aK c g m h)(hb:c.b<=n):∃Sg Sn,nU c (m.cA.length+10) Sg Sn (h.put n o):=r.G.imp λSg=>xO λSn z=>z.low (aU _) ((Kx.refl.put (.head _):Kx [n] h _).lowG r.bx λn hn=>by rw[List.mem_singleton.mp hn];exact hb)
theorem aK.aKu(r:aK c g m h)(hs:m.slots[i]?=aA s)(ha:s'.a=s.a)(ht:s'.tk=s.tk)(hw:s'.ws=s.ws)(hn:s'.bU=s.bU)(hr:s'.row=s.row):aK c g { m with slots:=m.slots.set i s' } (h.put s.a<|.ins 17<|(s'.lt c.room).fs (s.a+2)):=by
 have hm:=cM hs;have w:=r.W.dF hs ht (by rw[hw]) hn hr;have z:=rW (r.W.t0 s hm);have a:s'∈m.slots.set i s':=cM (rL (List.getElem?_eq_some_iff.mp hs).1);have b:=fv (c:=c) w a;rw[ht,ha]at b;refine⟨r.X.BM (by lia) (aU _) (fv r.W hm) (Kx.refl.put<|.head _) bB b λj p h1 d e=>?_,r.Kh (r.Ki hm),w⟩;rcases Xw hs r.W ha ht h1 e with e|⟨k,l,f⟩
 .exact e
 .have:j=kF s.tk+1:=(ya (r.W.t0 s hm) ‹_›).resolve_left d;subst this;rw[fw r.W hm,f,if_neg (by lia),hw]
theorem aK.aQz{ws':Yi}(r:aK c g m h)(hs:m.slots[i]?=aA s)(hf:s.fi=aD)(hl:ws'.length=s.ws.length):aK c g { m with slots:=m.slots.set i { s with ws:=ws' } } (h.put (s.a+2)<|.lst aB<|ws'.map oI):=by
 have hm:=cM hs;have w:=r.W.dF (s':={ s with ws:=ws' }) hs rfl hl rfl rfl;have z:=rW (r.W.t0 s hm);have a:{ s with ws:=ws' }∈m.slots.set i { s with ws:=ws' }:=cM (rL (List.getElem?_eq_some_iff.mp hs).1);have b:=fw (c:=c) w a;refine⟨r.X.BM (by lia) (aU _) (fw r.W hm) (Kx.refl.put<|.head _) bB b λj p h1 d e=>?_,r.Kh (by have:=r.Ki hm;lia),w⟩;rcases Xw (s':={ s with ws:=ws' }) hs r.W rfl rfl h1 e with e|⟨k,l,f⟩
 .exact e
 .have:j=kF s.tk:=(ya (r.W.t0 s hm) ‹_›).resolve_right d;subst this;rw[fv r.W hm,f,if_pos (by omega)];unfold Sl.lt Sl.dd;rw[hf]
end
section
variable {k:Nat}{g:Gh}
def aI.kn:aI->cV
 |.way w _ _ _=>w.nm | .set _ _=>"set" |.move _ _=>"move" |.load _ _ _=>"load" |.store _ _ _=>"store" |.dQ _ _=>"jump" |.go _=>"go" |.fault _=>"fault"
def aI.tl:aI->Ht
 |.way _ x y z=>[.int x,.int y,.int z] | .set x v=>[.int x,.int v] | .move x y=>[.int x,.int y] | .load x y s=>[.int x,.int y,.int s] | .store x y s=>[.int x,.int y,.int s] | .dQ x t=>[.int x,.int t] | .go t=>[.int t] | .fault v=>[.int v]
theorem Vg:r.av = .tup (.str (aI.kn r)::aI.tl r):=by cases r<;>rfl
theorem iB{x:AV}:cH (x::xs) 0=aA x:=by unfold cH iI;rw[if_pos (by decide),if_pos (by rw[lA];lia)];rfl
def iA.fk(s:iA)(w:Nat):List (cV×AV):=[("ticket",.int s.tk),("at",.int s.pc),("row",.tup (.str (aI.kn s.row)::aI.tl s.row)),("names",.tup (s.bU.map oI)),("words",.ref w),("chosen",.int s.ch),("dares",.bl s.dr),("source",oI s.src),("held",oI s.jF),("deed",s.dd),("put",.int s.put),("started",oI s.st),("finished",oI s.fi),("off",oI s.of)]
theorem Zh{s:iA}{w:Nat}:s.fs w=s.fk w:=by unfold iA.fs iA.fk;rw[Vg]
theorem aK.lP(r:aK c g m h)(hs:s∈m.slots):h.ob s.a=aA (.ins 17<|(s.lt c.room).fk (s.a+2)):=by rw[<- Zh];exact r.cK hs
theorem zW:aI.kn r=("store":cV)↔∃x y d,r = .store x y d:=by
 constructor
 .intro e;cases r with
  |store x y d=>exact⟨x,y,d,rfl⟩|way w=>exact absurd e<|Ap w|_=>simp only[aI.kn]at e;exact absurd e (by decide +kernel)
 .rintro ⟨x,y,d,rfl⟩;rfl
theorem gw:aI.kn r=("load":cV)↔∃x y d,r = .load x y d:=by
 constructor
 .intro e;cases r with
  |load x y d=>exact⟨x,y,d,rfl⟩|way w=>exact absurd e<|su w|_=>simp only[aI.kn]at e;exact absurd e (by decide +kernel)
 .rintro ⟨x,y,d,rfl⟩;rfl
theorem qz:aI.kn r=("jump":cV)↔∃x t,r = .dQ x t:=by
 constructor
 .intro e;cases r with
  |dQ x t=>exact⟨x,t,rfl⟩|way w=>exact absurd e<|sm w|_=>simp only[aI.kn]at e;exact absurd e (by decide +kernel)
 .rintro ⟨x,t,rfl⟩;rfl
def Mo.dF(m:Mo)(i:Nat)(s:Sl):Mo:={ m with slots:=m.slots.set i s }
def Z9:Option Sl->Int
 |some s=>s.pc
 |none=>0
def Mo.place(m:Mo)(t p:Int)(w:Hs):Mo:=match rT m.bg t p with
 |none=>{ m with kp:=eC m.kp t (aA p,w) }
 |some b=>({ m with kp:=eC m.kp t (aA p,w),ah:=Z9 (m.slot b) }:Mo).cut b
def Mo.give(m:Mo)(i j:Nat)(w:Int):Mo:=match m.slots[i]? with
 |none=>m
 |some s=>match s.row,aZ m.kp s.tk with
  |.store _ _ d,aA e=>if j=0 then { m.dF i { s with ws:=s.ws.set j (aA w) }with kp:=eC m.kp s.tk (e.1,aA w) } else(m.dF i { s with ws:=s.ws.set j (aA w) }).place s.tk (w+d) e.2
  |_,_=>m.dF i { s with ws:=s.ws.set j (aA w) }
structure mv(m:Mo)(s:Sl)(j:Nat):Prop where
 fi:s.fi=aD
 jl:j<s.ws.length
 kp:∀x y d,s.row = .store x y d->∃e,aZ m.kp s.tk=aA e/\(j=0->e.2=aD)/\(j=1->e.1=aD)
 bt:∀t p b,rT m.bg t p=aA b->∃s,m.slot b=aA s
theorem aLk{w:Nat}{s:iA}{d:Int}(o:h.ob n=aA (.ins 17<|s.fs w))(er:s.row = .store x y d)(ow:h.ob w=aA (.lst aB [oI w0,.int w1]))(q:R (.int<|w1+d) h):WC (run pg (k+2) 108 [.ref n]) h R:=by obtain⟨tk,pc,r,bU,ch,dr,src,jF,dd,pt,st,fi,of⟩:=s;cases er;exact aT rfl rfl<|aC.of o<|aC.of o<|WC.of<|rF (bO ow)<|aT rfl rfl q
theorem aK.BL(r:aK c g m h)(kn:(kp'.map (·.1)).Pairwise (·<·))(kl:kp'.length<64):aK c g { m with kp:=kp' } (h.put (c.b+9)<|.aQ<|dE lM kp'):=
 r.sQ 9 ⟨r.W.tk,r.W.t0,r.W.sn,r.W.sw,r.W.wn,r.W.wl,kn,kl,r.W.bn,r.W.bl,r.W.fn,r.W.fk,r.W.fo,r.W.ff⟩ rfl rfl (aU _)
theorem aK.BK{t:Int}{v:Hs×Hs}(r:aK c g m h)(hk:aZ m.kp t=aA e):aK c g { m with kp:=eC m.kp t v } (h.put (c.b+9)<|.aQ<|dE lM<|eC m.kp t v):=
 r.BL (by rw[Bc hk];exact r.W.kn) (by rw[<- aW,Bc hk,aW];exact r.W.kl)
theorem aK.Fq(r:aK c g m h):aK c g { m with ah:=a } (h.put (c.b+1)<|.ins 18<|{ m with ah:=a }.wf c g.sl):=
 r.sQ 1 ⟨r.W.tk,r.W.t0,r.W.sn,r.W.sw,r.W.wn,r.W.wl,r.W.kn,r.W.kl,r.W.bn,r.W.bl,r.W.fn,r.W.fk,r.W.fo,r.W.ff⟩ rfl rfl (aU _)
theorem aBs{d:Int}(r:aK c g m h)(hs:s∈m.slots)(er:s.row = .store x y d)(ew:s.ws=[w0,aA w1])(hk:aZ m.kp s.tk=aA (aD,e2))(bt:∀b,rT m.bg s.tk (w1+d)=aA b->∃s,m.slot b=aA s)(q:∀v g' h',aK c g' (m.place s.tk (w1+d) e2) h'->h.nx<=h'.nx->R v h'):WC (run pg (k+3) 115 [.ref (c.b+1),.ref s.a]) h R:=by
 have n:h.ob (s.a+2)=aA (.lst aB [oI w0,.int w1]):=by rw[r.jo hs,ew];rfl
 refine aT rfl rfl<|aC.of (r.at 1)<|aC.of (r.at 8)<|aC.of (r.cK hs)<|aC.of (r.cK hs)<|aLk (r.cK hs) er n ?_;refine aBt (t:=s.tk) r.shr hk λh1 k1=>?_;have f:=(r.BK hk).keep k1;unfold Mo.place at q;have nx:=k1.nx;cases i:rT m.bg s.tk (w1+d) with
 |none=>rw[i]at q;exact q _ _ _ f nx
 |some b=>obtain⟨j,e⟩:=bt b i;rw[i]at q;dsimp only at q;rw[e]at q;refine aC.of (f.at 1)<|HD f ?_;rw[show Mo.slot { m with kp:=eC m.kp s.tk (aA (w1+d),e2) } b=m.slot b from rfl,e];have hb:=Dw e;refine aC.of (f.cK hb)<|aC.of (f.at 1) ?_;have l:=f.Fq (a:=j.pc);exact aC.of (l.at 1)<|Ot l λv g' h' o p _=>q _ _ _ o (cD nx p)
end
section
variable {k:Nat}{g:Gh}
theorem B6{j:Int}{w:AV}(r:aK c g m h)(hs:s∈m.slots)(cs:¬aI.kn s.row=("store":cV))(q:R .aE h):dY (run pg<|k+3) (bL xr) [aA (.ref<|c.b+1),aA (.ref s.a),aA (.int j),aA w] h (λ_ h1=>R .aE h1) R (λ_ _=>False) λ_ _=>False:=
 aC.of (r.lP hs) (aC.of iB<|aF.df cs<|aC.of (r.lP hs)<|aC.of iB<|aF.df cs q)
theorem B4{p:Hs}(r:aK c g m h)(hs:s∈m.slots)(cs:aI.kn s.row=("store":cV))(ek:aZ m.kp s.tk=aA (p,aD))(q:∀h',aK c g { m with kp:=eC m.kp s.tk (p,aA w) } h'->h.nx<=h'.nx->R .aE h'):dY (run pg<|k+3) (bL xr) [aA (.ref<|c.b+1),aA (.ref s.a),aA (.int 0),aA (.int w)] h (λ_ h1=>R .aE h1) R (λ_ _=>False) λ_ _=>False:=by refine aC.of (r.lP hs)<|aC.of iB<|aF.dt cs<|aC.of (r.at 1)<|aC.of (r.at 8)<|aC.of (r.lP hs)<|aRa r.shr ek λv=>?_;have a:=r.BK (v:=(p,aA w)) ek;exact aC.of (a.lP hs)<|aC.of iB<|aF.dt cs<|q _ a<|aU _
theorem B5{d:Int}(r:aK c g m h)(hs:s∈m.slots)(er:s.row = .store x y d)(ew:s.ws=[w0,aA w])(ek:aZ m.kp s.tk=aA (aD,e2))(bt:∀b,rT m.bg s.tk (w+d)=aA b->∃s,m.slot b=aA s)(q:∀g' h',aK c g' (m.place s.tk (w+d) e2) h'->h.nx<=h'.nx->R .aE h'):dY (run pg<|k+3) (bL xr) [aA (.ref<|c.b+1),aA (.ref s.a),aA (.int 1),aA (.int w)] h (λ_ h1=>R .aE h1) R (λ_ _=>False) λ_ _=>False:=by have cs:=zW.mpr ⟨x,y,d,er⟩;exact aC.of (r.lP hs)<|aC.of iB<|aF.dt cs<|aC.of (r.lP hs)<|aC.of iB<|aF.dt cs<|aC.of (r.at 1)<|aBs r hs er ew ek bt λv g' h' a e=>q _ _ a e
theorem C3(r:aK c g m h)(hs:m.slots[i]?=aA s)(ea:s.a=n)(G:mv m s j)(q:∀v g' h',aK c g' (m.give i j w) h'->h.nx<=h'.nx->R v h'):WC (run pg (k+4) 114 [.ref (c.b+1),.ref n,.int (j:Int),.int w]) h R:=by
 subst ea;have hm:=cM hs;have jl:=G.jl;refine aT rfl rfl<|aC.of (r.cK hm)<|vg (r.jo hm) (by rw[aW];exact gq jl) ?_;rw[show((s.ws.map oI).set j (.int w))=(s.ws.set j<|aA w).map oI by rw[ki];rfl];have f:=r.aQz (ws':=s.ws.set j (aA w)) hs G.fi (cf ..);have nx:h.nx<=(h.put (s.a+2)<|.lst aB<|(s.ws.set j<|aA w).map oI).nx:=aU _;revert f nx
 generalize h.put (s.a+2) (.lst aB<|(s.ws.set j<|aA w).map oI)=h1;intro f nx;obtain⟨s1,o⟩:∃s1:Sl,s1={ s with ws:=s.ws.set j (aA w) }:=⟨_,rfl⟩;have ha:s1.a=s.a:=by rw[o]
 have ht:s1.tk=s.tk:=by rw[o]
 have hr:s1.row=s.row:=by rw[o]
 unfold Mo.give at q;rw[hs]at q;dsimp only at q;rw[<- o]at f q;have l:s1∈(m.dF i s1).slots:=cM (rL<|(List.getElem?_eq_some_iff.mp hs).1);by_cases cs:aI.kn s.row=("store":cV)
 .obtain⟨x,y,d,p⟩:=zW.mp cs;obtain⟨⟨N,O⟩,t,F,H⟩:=G.kp x y d p;rw[p,t]at q;dsimp only at q;rw[<- ht]at t q;by_cases C:j=0
  .subst C;cases F rfl;have:=B4 (k:=k) f l (hr▸cs) t λh' u A=>q _ _ _ u (cD nx A);rw[ha]at this;exact this
  .rw[if_neg C]at q;have nw:=(r.W.sw s hm).1;rw[p]at nw;have nw:s.ws.length=2:=nw;have I:j=1:=by lia
   subst I;cases H rfl;obtain⟨D,E,J⟩:∃D E,s.ws=[D,E]:=by
    match s.ws,nw with
    |[a,b],_=>exact⟨a,b,rfl⟩
   have:=B5 (k:=k) f l (hr.trans p) (by rw[o,J];rfl) t (λb K=>by
    obtain⟨L,e⟩:=G.bt _ _ _ K;refine⟨if b=s.tk then s1 else L,?_⟩;show(m.slots.set i _).find? _=_;rw[Yy hs ht r.W.tk];split
    .rfl
    .exact e) λg' h' u A=>q _ _ _ u (cD nx A)
   rw[ha]at this;exact this
 .have B:=λx y d e=>cs (zW.mpr ⟨x,y,d,e⟩);have M:aK c g (m.dF i s1) h1->R .aE h1:=λz=>q _ _ _ (by
   split
   .exact absurd ‹s.row=_› (B _ _ _)
   .exact z) nx
  have:=B6 (k:=k) (j:=j) (w:=.int w) f l (hr▸cs) (M f);rw[ha]at this;exact this
end
section
variable {k:Nat}{g:Gh}
theorem x9{l:List Sl}:(l++[s]).find? (λz=>decide (z.tk=u))=(l.find? λz=>decide (z.tk=u)).or (if s.tk=u then aA s else aD):=by
 rw[Dt,nM];by_cases e:s.tk=u
 .rw[decide_eq_true e,if_pos e]
 .rw[decide_eq_false e,if_neg e];rfl
theorem aK.OQ{o1:bJ}(r:aK c g m h)(k1:Kp h h')(en:n=s.a)(ha:h.nx<=n)(hl:n+2<h'.nx)(os:h'.ob n=aA (.ins 17<|(s.lt c.room).fs (n+2)))(ow:h'.ob (n+2)=aA (.lst aB<|s.ws.map oI))
  (ht:s.tk=m.eL)(h0:0<=m.eL)(hp:∀z∈m.slots,z.tk<m.eL)(hn:m.slots.length<63)(hw:s.ws.length=s.row.nw/\s.bU.length=s.row.nw) :
  ∃g',g'.sl=g.sl/\g'.kf=g.kf/\aK c g' { m with slots:=m.slots++[s],eL:=m.eL+1 } ((h'.put (c.b+1)<|.ins 18<|{ m with eL:=m.eL+1 }.wf c g.sl).put g.sl (.lst aB<|(m.slots.map λs=>AV.ref s.a)++[.ref n])):=by
 subst en;have z:=rW (ht▸h0:0<=s.tk);have x:=r.keep k1;obtain⟨B,t,f⟩:=r.jW;have C:=r.X.st 1 _ rfl;refine⟨⟨g.sl,g.kf,λi=>if i=s.a then kF s.tk else if i=s.a+2 then kF s.tk+1 else g.kd i⟩,rfl,rfl,⟨λi o e=>?_,λk n o h1 e=>?_⟩,?_,?_⟩
 .have p:i=1\/i≠1/\(m.gH c g)[i]?=aA (aA o):=by
   by_cases q:i=1
   .exact .inl q
   .refine .inr ⟨q,?_⟩;rw[show Mo.gH { m with slots:=m.slots++[s],eL:=m.eL+1 } c ⟨g.sl,g.kf,λi=>if i=s.a then kF s.tk else if i=s.a+2 then kF s.tk+1 else g.kd i⟩=(m.gH c g).set 1 (aA<|.ins 18<|{ m with eL:=m.eL+1 }.wf c g.sl) from rfl,rK λw=>q w.symm]at e;exact e
  have main:∀u,(m.gH c g)[i]?=aA (aA u)->(if c.b+i=s.a then kF s.tk else if c.b+i=s.a+2 then kF s.tk+1 else g.kd (c.b+i))=i/\c.b+i<h'.nx/\c.b+i≠g.sl:=λu A=>by have y:=r.X.st i u A;have G:i<15:=(List.getElem?_eq_some_iff.mp A).1;refine⟨?_,bD y.2.1 k1.nx,λw=>by rw[<- w,y.1]at f;lia⟩;rw[if_neg (by lia),if_neg (by lia)];exact y.1
  rcases p with rfl|⟨q,p⟩
  .cases e;have y:=main _ rfl;exact⟨y.1,y.2.1,(aV y.2.2).trans bB⟩
  .have y:=main _ p;exact⟨y.1,y.2.1,(aV y.2.2).trans ((aV (by lia)).trans (x.X.st i o p).2.2)⟩
 .have old:∀{k n o},15<=k->k≠15->m.dyn c g k=aA (n,o)->(if n=s.a then kF s.tk else if n=s.a+2 then kF s.tk+1 else g.kd n)=k/\c.b<=n/\n<h'.nx/\((h'.put (c.b+1)<|.ins 18<|{ m with eL:=m.eL+1 }.wf c g.sl).put g.sl (.lst aB<|(m.slots.map λs=>AV.ref s.a)++[.ref s.a])).ob n=aA o:=λ{k n o} h1 D e=>by
   have y:=r.X.dy k n o h1 e;refine⟨?_,y.2.1,bD y.2.2.1 k1.nx,?_⟩
   .rw[if_neg (by lia),if_neg (by lia)];exact y.1
   .rw[aV λw=>D (by rw[<- y.1,w,f]),aV λw=>by rw[w,C.1]at y;lia];exact k1.get y.2.2.1 y.2.2.2
  by_cases d:k=15
  .subst d;cases e;refine⟨?_,(r.X.dy 15 _ _ (aU _) rfl).2.1,bD t k1.nx,?_⟩
   .show(if g.sl=s.a then _ else if g.sl=s.a+2 then _ else _)=_;rw[if_neg (by lia),if_neg (by omega)];exact f
   .rw[bB,iM];rfl
  .by_cases j:k<30
   .exact old h1 d (by unfold Mo.dyn at e ⊢;rw[if_neg d,if_pos j]at e ⊢;exact e)
   .unfold Mo.dyn at e;rw[if_neg d,if_neg j,x9]at e;cases v:m.slots.find? (λz=>decide (z.tk=((k:Int)-30) / 2)) with
    |some H=>rw[v]at e;exact old h1 d (by unfold Mo.dyn;rw[if_neg d,if_neg j,v];exact e)
    |none=>
     rw[v,Option.none_or]at e;by_cases ct:s.tk=((k:Int)-30) / 2
     .rw[if_pos ct,rO]at e;have lo:=cD r.bx ha;have E:s.a≠g.sl:=by omega
      have F:s.a+2≠g.sl:=by omega
      by_cases l:k%2=0
      .rw[if_pos l]at e;cases e;refine⟨?_,lo,by show s.a<h'.nx;omega,?_⟩
       .show(if s.a=s.a then _ else _)=_;rw[if_pos rfl];exact((ya (ht▸h0) ct.symm).resolve_right λw=>by rw[w,z.2.2.2.1]at l;cases l).symm
       .rw[aV E,aV (by omega)];exact os
      .rw[if_neg l]at e;cases e;refine⟨?_,by omega,hl,?_⟩
       .show(if s.a+2=s.a then _ else if s.a+2=s.a+2 then _ else _)=_;rw[if_neg (by omega),if_pos rfl];exact((ya (ht▸h0) ct.symm).resolve_left λw=>l (w▸z.2.2.1)).symm
       .rw[aV F,aV (by omega)];exact ow
     .rw[if_neg ct]at e;cases e
 .have lb:=(r.X.dy 15 _ _ (aU _) rfl).2.1;refine x.G.imp λI=>xO λJ z=>z.low (aU _) λn hn=>?_;rw[aV (by lia),aV (by lia)]
 .have w:=r.W;refine⟨?_,λz hz=>?_,by rw[eU];exact xT hn,λz hz=>?_,w.wn,w.wl,w.kn,w.kl,w.bn,w.bl,w.fn,w.fk,w.fo,w.ff⟩
  .rw[iM,MB];refine⟨w.tk,MC ..,λa ha b hb=>?_⟩;obtain⟨z,hz,rfl⟩:=List.mem_map.mp ha;rw[List.mem_singleton.mp hb];show z.tk<s.tk;rw[ht];exact hp z hz
  .rcases List.mem_append.mp hz with hz|hz
   .exact w.t0 z hz
   .rw[List.mem_singleton.mp hz,ht];exact h0
  .rcases List.mem_append.mp hz with hz|hz
   .exact w.sw z hz
   .rw[List.mem_singleton.mp hz];exact hw
end
section
variable {k:Nat}{g:Gh}
theorem aK.Q6{kf':Dc Nat}(r:aK c g m h)(N:lF h' (c.b+4) (c.b+5) kf' (kY m.fl x l))(F:Uj h h' (c.b+5) 0 g.kf kf' x)(hx:0<=x/\x<8)(hl:l.length<99999):∃g',g'.sl=g.sl/\aK c g' { m with fl:=kY m.fl x l } h':=by
 obtain⟨f,D,u⟩:=F.new;have kx:=F.kx;have v:∀{k:Nat},k-16=x->16+x.toNat=k:=λe=>Int.ofNat.inj ((congrArg (λz=>16+z)<|Qi hx.1).trans (Int.sub_eq_iff_eq_add'.mp e).symm);have bn:∀n∈(c.b+5)::(aZ g.kf x).toList,n=c.b+5\/aZ g.kf x=aA n:=λn hn=>by
  rcases List.mem_cons.mp hn with e|e
  .exact .inl e
  .exact .inr<|Option.mem_toList.mp e
 have fx:∀n,aZ g.kf x=aA n->g.kd n=16+x.toNat/\c.b<=n:=λn e=>have y:=r.X.dy _ _ _ (by omega) (wR r.W e);⟨y.1,y.2.1⟩;have j:∀{n k},g.kd n=k->k≠5->k≠16+x.toNat->n∉(c.b+5)::(aZ g.kf x).toList:=λ{n k} e h1 E w=>by
  rcases bn n w with w|w
  .rw[w,((r.X.st 5 _ rfl).1)]at e;exact h1 e.symm
  .rw[(fx n w).1]at e;exact E e.symm
 have a:∀{n},n<h.nx->(aZ g.kf x=aD->h.nx<=f)->(if aZ g.kf x=aD/\n=f then 16+x.toNat else g.kd n)=g.kd n:=λ{n} hn d=>if_neg λw=>by have:=d w.1;omega
 have d:aZ g.kf x=aD->h.nx<=f:=λe=>u.elim (λw=>by rw[e]at w;cases w) λw=>w.2;refine⟨⟨g.sl,kf',λi=>if aZ g.kf x=aD/\i=f then 16+x.toNat else g.kd i⟩,rfl,⟨λi o e=>?_,λk n o h1 e=>?_⟩,?_,?_⟩
 .by_cases s:i=5
  .subst s;cases e;have y:=r.X.st 5 _ rfl;exact⟨(a y.2.1 d).trans y.1,N.hd,N.od⟩
  .have p:(m.gH c g)[i]?=aA (aA o):=by rw[show Mo.gH { m with fl:=kY m.fl x l } c ⟨g.sl,kf',λi=>if aZ g.kf x=aD/\i=f then 16+x.toNat else g.kd i⟩=(m.gH c g).set 5 (aA<|.aQ<|dE AV.ref kf') from rfl,rK λw=>s w.symm]at e;exact e
   have y:=r.X.st i o p;have I:i<15:=(List.getElem?_eq_some_iff.mp p).1;exact⟨(a y.2.1 d).trans y.1,bD y.2.1 kx.nx,kx.get y.2.1 (j y.1 s (by omega)) y.2.2⟩
 .by_cases G:16<=k/\k<30
  .unfold Mo.dyn at e;rw[if_neg (by omega),if_pos G.2]at e;obtain⟨t,b,H⟩:=Option.map_eq_some_iff.mp e;cases H;have y:=N.ls _ _ b;by_cases q:k-16=x
   .have ff:f=n:=by rw[q,D]at b;exact eF b
    subst ff;rcases u with w|w
    .exact⟨(if_neg λz=>by rw[w]at z;cases z.1).trans ((fx f w).1.trans (v q)),(fx f w).2,y.1,y.2⟩
    .exact⟨(if_pos ⟨w.1,rfl⟩).trans (v q),cD r.bx w.2,y.1,y.2⟩
   .have A:=b;rw[F.old _ q]at A;have z:=r.X.dy _ _ _ (by omega) (wR r.W A);exact⟨(a z.2.2.1 d).trans (by omega),z.2.1,y.1,y.2⟩
  .have p:m.dyn c g k=aA (n,o):=by
    unfold Mo.dyn at e ⊢;split
    .rename_i z;rw[if_pos z]at e;exact e
    .rename_i z;rw[if_neg z,if_neg (by omega)]at e;rw[if_neg (by omega)];exact e
   have z:=r.X.dy k n o h1 p;exact⟨(a z.2.2.1 d).trans z.1,z.2.1,bD z.2.2.1 kx.nx,kx.get z.2.2.1 (j z.1 (by omega) (by omega)) z.2.2.2⟩
 .refine r.G.imp λJ=>xO λK z=>z.low (aU _) (kx.lowG r.bx λn hn=>?_);rcases bn n hn with w|w
  .rw[w];exact oP ..
  .exact(fx n w).2
 .have w:=r.W;refine⟨w.tk,w.t0,w.sn,w.sw,w.wn,w.wl,w.kn,w.kl,w.bn,w.bl,N.nd,λy t e=>?_,N.no,λy=>?_⟩
  .by_cases B:y=x
   .rw[B];exact hx
   .have C:aZ kf' y=aA t:=e;rw[F.old y B]at C;exact w.fk y t C
  .show(kY m.fl x l y).length<99999;unfold kY;split
   .exact hl
   .exact w.ff y
end
section
variable {k:Nat}{g:Gh}
def aI.fx:aI->Hs
 |.way _ x _ _=>aA x | .set x _=>aA x | .move x _=>aA x | .load x _ _=>aA x
 |_=>aD
theorem pj:r.fl=oI (aI.fx r):=by cases r<;>rfl
theorem Zi(hr:lX r)(e:aI.fx r=aA x):0<=x/\x<8:=by
 cases r<;>cases e
 .exact hr.1
 .exact hr.1
 .exact hr.1
 .exact hr.1
def Mo.Cb(m:Mo)(row:aI)(a:Nat):Sl:=⟨a,m.eL,m.ah,row,row.eG.map λx=>(m.fl x).getLast?,fA row.nw aD,m.ah+1,aH,aD,aD,m.nw,aD,aD,aD⟩
def nB(fl:Int->Hx)(row:aI)(t:Int):Int->Hx:=match aI.fx row with
 |some x=>kY fl x (fl x++[t])
 |none=>fl
def rf(kp:Dc (Hs×Hs))(row:aI)(t:Int):Dc (Hs×Hs):=match row with
 |.store _ _ _=>kp++[(t,aD,aD)]
 |_=>kp
def Mo.enter(m:Mo)(row:aI)(a:Nat):Mo:={ m with slots:=m.slots++[m.Cb row a],eL:=m.eL+1,fl:=nB m.fl row m.eL,kp:=rf m.kp row m.eL }
structure Fe(c:Cf)(m:Mo)(row:aI):Prop where
 hr:c.rs[m.ah.toNat]?=aA row
 ah:0<=m.ah
 ok:lX row
 t0:0<=m.eL
 sl:∀s∈m.slots,s.tk<m.eL
 fl:∀y u,(m.fl y).getLast?=aA u->u<m.eL
 kp:∀p∈m.kp,p.1<m.eL
 bg:aZ m.bg m.eL=aD
 sn:m.slots.length<63
 kl:m.kp.length<63
 ff:∀x,(m.fl x).length<99998
theorem ve{r:aI}:r.eG.length=r.nw:=by cases r<;>rfl
theorem sx{r:aI}:r.nw<=2:=by cases r<;>exact Rr rfl
theorem Xy(r:aK c g m h)(hs:s∈m.slots)(er:s.row=row)(hk:∀p∈m.kp,p.1<s.tk)(hb:aZ m.bg s.tk=aD)(kl:m.kp.length<63)(q:∀g' h',aK c g' { m with kp:=rf m.kp row s.tk } h'->h.nx<=h'.nx->R (.ref s.a) h') :
  dY (run pg<|k+3) (bL<|bL<|bL<|bL<|bL xq) [aA (.ref<|c.b+1),aA row.av,aA (.ref s.a)] h (λ_ h1=>R .aE h1) R (λ_ _=>False) λ_ _=>False:=by
 have f:aK c g m h->(∀x y d,row ≠ .store x y d)->R (.ref s.a) h:=λi hn=>q g h (by rw[show rf m.kp row s.tk=m.kp by unfold rf;split;exact absurd rfl<|hn _ _ _;rfl];exact i) (aU _);by_cases cs:aI.kn row=("store":cV)
 .obtain⟨x,y,d,rfl⟩:=zW.mp cs;refine aC.of (r.at 1)<|aC.of (r.at 8)<|aC.of (r.cK hs)<|aLz r.shr hb hk λv j kx e=>?_;refine q g j (r.wZ (m':={ m with kp:=m.kp++[(s.tk,aD,aD)] }) 9 kx e ⟨r.W.tk,r.W.t0,r.W.sn,r.W.sw,r.W.wn,r.W.wl,?_,by rw[eU];exact xT kl,r.W.bn,r.W.bl,r.W.fn,r.W.fk,r.W.fo,r.W.ff⟩ rfl rfl<|aU _) kx.nx;rw[iM,MB];refine⟨r.W.kn,MC ..,λa ha b hb=>?_⟩;obtain⟨z,l,rfl⟩:=List.mem_map.mp ha;rw[List.mem_singleton.mp hb];exact hk z l
 .have n:=f r λx y d e=>cs (zW.mpr ⟨x,y,d,e⟩);rw[Vg];exact aC.of iB<|aF.df cs n
theorem YQ(r:aK c g m h)(et:s.tk=tk)(hs:s∈m.slots)(er:s.row=row)(ok:lX row)(hk:∀p∈m.kp,p.1<tk)(hb:aZ m.bg tk=aD)(kl:m.kp.length<63)(hf:∀y u,(m.fl y).getLast?=aA u->u<tk)(ff:∀x,(m.fl x).length<99998)(q:∀g' h',aK c g' { m with fl:=nB m.fl row tk,kp:=rf m.kp row tk } h'->h.nx<=h'.nx->R (.ref s.a) h') :
  dY (run pg<|k+3) (bL<|bL<|bL<|bL xq) [aA (.ref<|c.b+1),aA row.av,aA (.ref s.a)] h (λ_ h1=>R .aE h1) R (λ_ _=>False) λ_ _=>False:=by
 subst et;refine Ic ?_;rw[pj];cases a:aI.fx row with
 |none=>refine Xy r hs er hk hb kl λg' h' b d=>q g' h' ?_ d;rw[show nB m.fl row s.tk=m.fl by unfold nB;rw[a]];exact b
 |some x=>refine aC.of (r.at 1)<|aC.of (r.at 4)<|aC.of (r.cK hs)<|Ic (k:=k+2) ?_;rw[pj,a];refine x5 (k:=k+1) r.Kw (by have:=BJ r.W;lia) hf (by have:=ff x;lia) λv e j N F f=>?_;obtain⟨g',l,i⟩:=r.Q6 N F (Zi ok a) (by rw[eU];exact xT<|ff x);refine Xy i hs er hk hb kl λg' h' b d=>q g' h' ?_ (cD F.kx.nx d);rw[show nB m.fl row s.tk=kY m.fl x (m.fl x++[s.tk]) by unfold nB;rw[a]];exact b
theorem YR(r:aK c g m h)(E:Fe c m row)(q:∀a g' h',aK c g' (m.enter row a) h'->h.nx<=h'.nx->R (.ref a) h'):WC (run pg (k+4) 113 [.ref (c.b+1)]) h R:=by
 have t:cH (c.rs.map aI.av) m.ah=aA row.av:=by have hl:=(List.getElem?_eq_some_iff.mp E.hr).1;have:=E.ah;unfold cH iI;rw[if_pos this,if_pos (by rw[aW];lia)];simp only[hX,fM,E.hr,rO]
 refine aT rfl rfl<|aC.of (r.at 1)<|aC.of (r.at 1)<|WC.of<|eJ (bO<|r.at 2) t ?_;refine aC.of (r.at 1)<|aC.of (r.at 1)<|aC.of (r.at 1)<|aC.of (r.at 4)<|IZ ?_;refine C4 r.Kw (by have:=@ve row;have:=@sx row;lia) λh1 k1=>?_;refine aC.of ((r.keep k1).at 1) ?_;have u:(row.eG.map λx=>oI (m.fl x).getLast?)=(row.eG.map λx=>(m.fl x).getLast?).map oI:=by rw[jO];rfl
 rw[u];have nl:(row.eG.map λx=>(m.fl x).getLast?).length=row.nw:=by rw[aW];exact ve
 refine aKv bC (cN _) (nl▸sx) λf n v o f2=>⟨rfl,?_⟩;have k2:Kp h f:=⟨by have:=k1.nx;rw[n];show h.nx<=h1.nx+1+2;lia,λi y=>by have:=k1.nx;rw[f2 i (by omega) (by show i<h1.nx+1;lia),dJ (by omega),k1.ob i y]⟩
 have j:=r.keep k2;refine aC.of (j.at 1)<|aC.of (j.at 1) ?_;obtain⟨s,b⟩:∃s,s=m.Cb row h1.nx:=⟨_,rfl⟩;rw[nl]at o;obtain⟨A,_,_,l⟩:=r.OQ (s:=s) (o1:=.lst aB []) k2 (by rw[b];rfl) k1.nx (by rw[n];show h1.nx+2<h1.nx+1+2;lia) (by rw[v,b];rfl) (by rw[show h1.nx+2=(h1.new<|.ins 17 []).nx+1 from rfl,o,b];unfold Mo.Cb;rw[LW];rfl) (by rw[b];rfl) E.t0 E.sl E.sn (by rw[b];exact⟨Qw ..,nl⟩);have e:(f.put (c.b+1)<|.ins 18<|{ m with eL:=m.eL+1 }.wf c g.sl).ob g.sl=aA (.lst aB<|m.slots.map λs=>.ref s.a):=(aV λw=>by have a:=r.jW.2.2;rw[w,(r.X.st 1 _ rfl).1]at a;cases a).trans j.jW.1
 refine aC.of bB<|aF.t rfl<|aC.of rfl<|aF.t (oA e)<|WC.of<|rE e (by rw[aW];have:=E.sn;have:=kX;lia) ?_;have d:=k2.nx;change dY (run pg<|k+3) (bL<|bL<|bL<|bL xq) [aA (.ref<|c.b+1),aA row.av,aA (.ref h1.nx)] ((f.put (c.b+1)<|.ins 18<|{ m with eL:=m.eL+1 }.wf c g.sl).put g.sl (.lst aB<|(m.slots.map λs=>AV.ref s.a)++[.ref h1.nx])) (λ_ h1=>R .aE h1) R (λ_ _=>False) λ_ _=>False;revert l d
 intro l d;have:=YQ (k:=k) l (by rw[b];rfl) (jP _<|List.mem_singleton.mpr rfl) (by rw[b];rfl) E.ok E.kp E.bg E.kl E.fl E.ff λg' h' p z=>by rw[b];refine q h1.nx g' h' ?_<|cD d z;rw[b]at p;exact p
 rw[b]at this;exact this
end
section
variable {k:Nat}{g:Gh}
def aI.Wc(ws:Hx)(held:Hs):aI->Hs
 |.way w _ _ _=>aA (w.wk (cell ws 0)<|cell ws 1) | .set _ v=>aA v | .move _ _=>aA (cell ws 0) | .store _ _ _=>aA (cell ws 0) | .load _ _ _=>held
 |_=>aD
theorem Wd{held:Hs}:r.br ws (oI held)=oI (aI.Wc ws held r):=by cases r<;>rfl
theorem EC:r.pl ws=oI (r.Lm ws):=by cases r<;>rfl
def nF(f:Yo)(o:Hs):Hs:=match f with
 |none=>o
 |some _=>aD
def Sl.d1(room:Int)(s:Sl):Hs:=nF (s.ft room) (aI.fx s.row)
def Sl.d2(room:Int)(s:Sl):Hs:=nF (s.ft room) (s.row.Lm s.wi)
def Sl.d3(room:Int)(s:Sl):Hs:=nF (s.ft room) (aI.Wc s.wi s.jF s.row)
def Sl.d4(room:Int)(s:Sl):Hs:=nF (s.ft room) (aA<|s.row.gs s.pc s.wi)
def Sl.dt(room:Int)(s:Sl):Ht:=[.int s.pc,oI (s.d1 room),oI (s.d2 room),oI (s.d3 room),oI (s.d4 room),(s.ft room).getD .aE]
theorem Xn:s.row.dB s.pc s.wi room (oI s.jF) = .tup (s.dt room):=by
 unfold aI.dB Sl.dt Sl.d1 Sl.d2 Sl.d3 Sl.d4 Sl.ft;cases s.row.ft s.wi room with
 |none=>rw[pj,EC,Wd];rfl
 |some f=>rfl
theorem Hd(e:s.fi.isSome=aB):s.dd room = .tup (s.dt room):=by
 unfold Sl.dd;cases h:s.fi with
 |none=>rw[h]at e;cases e|some φ=>exact Xn
def iA.ff(s:iA)(w:Nat)(d:Ht):List (cV×AV):=[("ticket",.int s.tk),("at",.int s.pc),("row",.tup (.str (aI.kn s.row)::aI.tl s.row)),("names",.tup (s.bU.map oI)),("words",.ref w),("chosen",.int s.ch),("dares",.bl s.dr),("source",oI s.src),("held",oI s.jF),("deed",.tup d),("put",.int s.put),("started",oI s.st),("finished",oI s.fi),("off",oI s.of)]
theorem aK.By(r:aK c g m h)(hs:s∈m.slots)(e:s.fi.isSome=aB):h.ob s.a=aA (.ins 17<|(s.lt c.room).ff (s.a+2) (s.dt c.room)):=by rw[r.lP hs];unfold iA.fk iA.ff;rw[show(s.lt c.room).dd=s.dd c.room from rfl,Hd e]
def qL(room:Int)(o:Option Sl)(v:Int):Hs:=match o with
 |none=>aA v
 |some s=>if s.fi.isSome=aB then s.d3 room else aD
theorem K2{o:Option Sl}{v:Int}(r:aK c g m h)(ho:∀s,o=aA s->s∈m.slots)(q:R (oI<|qL c.room o v) h):WC (run pg (k+1) 18 [aO o,.int v]) h R:=by
 cases o with
 |none=>exact aT rfl rfl q|some s=>
  have hs:=ho s rfl;unfold qL at q;cases e:s.fi with
  |none=>
   dsimp only at q;rw[e]at q;have a:h.ob s.a=aA (.ins 17<|{ s.lt c.room with fi:=aD }.fk (s.a+2)):=by rw[r.lP hs];unfold Sl.lt;rw[e]
   exact aT rfl rfl<|aC.of a q
  |some d=>
   have b:s.fi.isSome=aB:=by rw[e];rfl
   dsimp only at q;rw[if_pos b]at q;have a:h.ob s.a=aA (.ins 17<|{ s.lt c.room with fi:=aA d }.ff (s.a+2) (s.dt c.room)):=by rw[r.By hs b];unfold Sl.lt;rw[e]
   exact aT rfl rfl<|aC.of a<|aC.of a q
end
section
variable {k:Nat}{g:Gh}
theorem GN{i:Int}(h0:0<=i)(h1:i<ws.length)(hl:ws.length<=80)(q:R (.tup<|(ws.set i.toNat w).map .int) h):WC (run pg (k+1) 21 [.tup (ws.map .int),.int i,.int w]) h R:=by
 have big:=kX;obtain⟨n,rfl⟩:∃n:Nat,i=n:=⟨i.toNat,by lia⟩;have hn:n<ws.length:=by lia
 rw[tE,aTi,if_pos hn]at q;refine aT rfl rfl<|bp<|WC.of<|JL ?_ ?_
 .rw[HT.ax,aW];lia
 rw[XH];refine WC.of<|JD (by rw[lB,aW];show min n ws.length+1<=_;lia) ?_;refine bp<|WC.of<|JL (lo:=aA ((n+1:Nat):Int)) ?_ ?_
 .rw[HT.Bo,HT.ax,aW];lia
 rw[Xf];refine WC.of<|JD (by rw[eU,lB,vp,aW];rw[vt (tK hn)];show n+1+(ws.length-(n+1))<=_;rw[Nat.add_sub_cancel' (hn)];exact cD hl<|cD (by decide)<|tK big) ?_;rw[<- Ra,<- Qz,vn];rw[iM]at q;exact q
def Sd.xt(sd:Sd)(d1 d2 d3 d4:Hs):Sd:=match d1,d2 with
 |some x,_=>⟨d4.getD 0,sd.bx.set x.toNat (d3.getD 0),sd.mem⟩
 |none,aA p=>⟨d4.getD 0,sd.bx,sd.mem.set p.toNat (d3.getD 0)⟩
 |none,aD=>⟨d4.getD 0,sd.bx,sd.mem⟩
theorem VA{sd:Sd}(q:R sd.av h):WC (run pg (k+2) 22 [sd.av,.tup [.int pc,.aE,.aE,.aE,.aE,.tup xs]]) h R:=aT rfl rfl q
theorem VB{sd:Sd}{d1 d2 d3:Hs}(bl:sd.bx.length=8)(ml:sd.mem.length<=80)(h1:∀x,d1=aA x->(0<=x/\x<8)/\∃w,d3=aA w)(h2:∀p,d1=aD->d2=aA p->(0<=p/\p<sd.mem.length)/\∃w,d3=aA w)(q:R (sd.xt d1 d2 d3<|aA a).av h):WC (run pg (k+2) 22 [sd.av,.tup [.int pc,oI d1,oI d2,oI d3,.int a,.aE]]) h R:=by
 cases d1 with
 |some x=>obtain⟨hx,w,rfl⟩:=h1 x rfl;exact aT rfl rfl<|GN (k:=k) hx.1 (by omega) (by omega) q
 |none=>
  cases d2 with
  |some p=>obtain⟨hx,w,rfl⟩:=h2 p rfl rfl;exact aT rfl rfl<|GN (k:=k) hx.1 hx.2 ml q
  |none=>exact aT rfl rfl q
def Mo.iD(m:Mo)(room:Int)(i:Nat):Nat->Hx->Mo
 |_,[]=>m
 |j,x::l=>match m.slots[i]? with
  |none=>m
  |some s=>match qL room (((s.bU[j]?).join).bind m.slot) (cell m.sd.bx x) with
   |some w=>Mo.iD (m.give i j w) room i (j+1) l
   |none=>Mo.iD m room i (j+1) l
end
section
variable {k:Nat}{g:Gh}
theorem Ve{l:Yi}(hj:j<l.length):cH (l.map oI) (j:Int)=aA (oI (l[j]?).join):=by rw[L2.Vd];rw[fM,dZ hj];rfl
theorem y0{l:List Sl}(e:l.find? (λz=>decide (z.tk=u))=aA s):s∈l:=Dw e
theorem VF{o:Hs}(e:o.bind m.slot=aA s):s∈m.slots:=by obtain⟨t,_,e⟩:=Option.bind_eq_some_iff.mp e;exact y0 e
theorem B8{s0:Sl}(r:aK c g m h)(hs:m.slots[i]?=aA s0)(bl:m.sd.bx.length=8)(P:Nat->Mo->Prop)(p0:P 0 m)
  (ps:∀j x m',s0.row.eG[j]?=aA x->P j m'->(0<=x/\x<8)/\∃s,m'.slots[i]?=aA s/\s.a=s0.a/\s.row=s0.row/\s.bU=s0.bU /\
   match qL c.room (((s0.bU[j]?).join).bind m'.slot) (cell m.sd.bx x) with
   |some w=>mv m' s j/\P (j+1) (m'.give i j w)
   |none=>P (j+1) m')
  (pe:∀m',P s0.row.eG.length m'->∃s,m'.slots[i]?=aA s/\s.a=s0.a)
  (q:∀m' g' h',P s0.row.eG.length m'->aK c g' m' h'->h.nx<=h'.nx->R .aE h'):WC (run pg (k+5) 17 [.ref (c.b+1),.ref s0.a,.tup (m.sd.bx.map .int)]) h R:=by
 have hm:=cM hs;have nl:=(r.W.sw s0 hm).2;have wl:=@ve s0.row;have G:=@sx s0.row;refine aT rfl rfl<|WB.of<|lR<|aQs<|cF _<|aC.of (r.cK hm)<|IZ (k:=k+3) ⟨_,rfl,?_⟩;refine A0 (xs:=s0.row.eG.map .int) (λj l h'=>(∃n v4 o,l=[aA (.ref<|c.b+1),aA (.ref s0.a),aA (.tup<|m.sd.bx.map .int),n,v4,o])/\∃m' g',P j m'/\aK c g' m' h'/\h.nx<=h'.nx) (by rw[aW,eA];omega) ⟨⟨_,_,_,rfl⟩,m,g,p0,r,aU _⟩ (λj x l h' C y=>?_)<|λl h' y=>?_
 .obtain⟨⟨n,v4,o,rfl⟩,m',g',d,a,f⟩:=y;obtain⟨x,hr,rfl⟩:=mO C;have H:=(List.getElem?_eq_some_iff.mp hr).1;obtain⟨p,s,u,z,I,A,b⟩:=ps j x m' hr d;have t:=cM u;have os:=a.cK t;rw[z]at os;have D:cH (s.bU.map oI) (j:Int)=aA (oI (s.bU[j]?).join):=Ve (by rw[A];omega);refine jY _<|fW _<|aC.of (a.at 1)<|aC.of os<|aC.of D<|HC (k:=k+3) a ?_;refine aC.of (yK p.1 (by rw[aW];omega))<|K2 (k:=k+3) a (λs e=>VF e) ?_;rw[A];cases B:qL c.room (((s0.bU[j]?).join).bind m'.slot) (cell m.sd.bx x) with
  |none=>rw[B]at b;exact⟨⟨_,_,_,rfl⟩,m',g',b,a,f⟩
  |some w=>rw[B]at b;refine aC.of (a.at 1)<|C3 (k:=k) a u z b.1 λv g2 J E F=>?_;exact⟨⟨_,_,_,rfl⟩,_,g2,b.2,E,cD f F⟩
 .obtain⟨⟨n,v4,o,rfl⟩,m',g',d,a,f⟩:=y;rw[aW]at d;exact q m' g' h' d a f
end
section
variable {k:Nat}{g:Gh}
theorem w9{l:List Sl}(hp:(l.map (·.tk)).Pairwise (·<·))(e:l[i]?=aA s)(hb:s.tk<b):(l.filter λz=>decide (z.tk<b))[i]?=aA s:=by
 induction l generalizing i with
 |nil=>cases e|cons z l c=>
  rw[kM,Rg]at hp;cases i with
  |zero=>cases e;rw[oO,if_pos (by simpa)];rfl
  |succ i=>have a:=e;have:=hp.1 s.tk (List.mem_map.mpr ⟨s,cM a,rfl⟩);rw[oO,if_pos (by simp;lia)];exact c hp.2 a
theorem VG{t:Int}(e:rT bg t p=aA b):t<b/\∃q∈bg,q.1=b:=by
 unfold rT Kn at e;split at e
 .cases e
 .rename_i z;have:=CO (ns:=(bg.filter<|mX t p).map (·.1)) λw=>z (by rw[w];rfl);rw[eF e]at this;obtain⟨q,a,rfl⟩:=List.mem_map.mp this;obtain⟨h1,c⟩:=List.mem_filter.mp a;exact⟨of_decide_eq_true (Bool.and_eq_true_iff.mp c).1,q,h1,rfl⟩
theorem aBr{w:Hs}(hp:(m.slots.map (·.tk)).Pairwise (·<·))(e:m.slots[i]?=aA s):(m.place s.tk p w).slots[i]?=aA s:=by
 unfold Mo.place;cases a:rT m.bg s.tk p with
 |none=>exact e|some b=>exact w9 hp e (VG a).1
theorem B9(hp:(m.slots.map (·.tk)).Pairwise (·<·))(e:m.slots[i]?=aA s):(m.give i j w).slots[i]?=aA { s with ws:=s.ws.set j (aA w) }/\(m.give i j w).sd=m.sd:=by
 have a:(m.dF i { s with ws:=s.ws.set j (aA w) }).slots[i]?=aA { s with ws:=s.ws.set j (aA w) }:=rL ((List.getElem?_eq_some_iff.mp e).1);have b:((m.dF i { s with ws:=s.ws.set j (aA w) }).slots.map (·.tk)).Pairwise (·<·):=by show((m.slots.set i _).map _).Pairwise _;rw[Aj e (show({ s with ws:=s.ws.set j (aA w) }:Sl).tk=s.tk from rfl)];exact hp
 unfold Mo.give;rw[e];dsimp only;split
 .split
  .exact⟨a,rfl⟩
  .refine⟨aBr b a,?_⟩;unfold Mo.place;split<;>rfl
 .exact⟨a,rfl⟩
theorem C1(hp:(m.slots.map (·.tk)).Pairwise (·<·)):((m.give i j w).slots.map (·.tk)).Pairwise (·<·):=by
 unfold Mo.give;split
 .exact hp
 .rename_i s e;have a:∀{b:Sl},b.tk=s.tk->((m.slots.set i b).map (·.tk)).Pairwise (·<·):=λ{b} z=>by rw[Aj e z];exact hp
  split
  .split
   .exact a rfl
   .unfold Mo.place;split
    .exact a rfl
    .exact kh (List.filter_sublist.map _)<|a rfl
  .exact a rfl
def Mo.uH(m:Mo)(room:Int)(i:Nat):Nat->Hx->Prop
 |_,[]=>True
 |j,x::l=>(0<=x/\x<8)/\∃s,m.slots[i]?=aA s/\(qL room (((s.bU[j]?).join).bind m.slot) (cell m.sd.bx x)=aD->Mo.uH m room i (j+1) l)/\∀w,qL room (((s.bU[j]?).join).bind m.slot) (cell m.sd.bx x)=aA w->mv m s j/\Mo.uH (m.give i j w) room i (j+1) l
theorem AG(e:m.slots[i]?=aA s):m.iD room i j (x::l)=match qL room (((s.bU[j]?).join).bind m.slot) (cell m.sd.bx x)with|some w=>Mo.iD (m.give i j w) room i (j+1) l|none=>Mo.iD m room i (j+1) l:=by rw[Mo.iD,e]
theorem C5{s0:Sl}(r:aK c g m h)(hs:m.slots[i]?=aA s0)(bl:m.sd.bx.length=8)(ok:m.uH c.room i 0 s0.row.eG)
  (q:∀g' h' s,aK c g' (m.iD c.room i 0 s0.row.eG) h'->(m.iD c.room i 0 s0.row.eG).slots[i]?=aA s->s.a=s0.a->s.row=s0.row->s.pc=s0.pc->(m.iD c.room i 0 s0.row.eG).sd=m.sd->h.nx<=h'.nx->R .aE h'):WC (run pg (k+5) 17 [.ref (c.b+1),.ref s0.a,.tup (m.sd.bx.map .int)]) h R:=by
 refine B8 r hs bl (λj a=>a.uH c.room i j (s0.row.eG.drop j)/\m.iD c.room i 0 s0.row.eG=a.iD c.room i j (s0.row.eG.drop j)/\a.sd=m.sd/\(a.slots.map (·.tk)).Pairwise (·<·)/\∃s,a.slots[i]?=aA s/\s.a=s0.a/\s.row=s0.row/\s.bU=s0.bU/\s.pc=s0.pc) ⟨ok,rfl,rfl,r.W.tk,s0,hs,rfl,rfl,rfl,rfl⟩ (λj x a ex y=>?_) (λa y=>?_) λa g' h' y D E=>?_
 .obtain⟨f,b,sd,u,s,d,e,l,n,p⟩:=y;rw[Xv ex]at f b;obtain⟨F,H,o,B,C⟩:=f;rw[d]at o;cases o;rw[AG d,n,sd]at b;rw[n,sd]at B C;refine⟨F,s,d,e,l,n,?_⟩;cases t:qL c.room (((s0.bU[j]?).join).bind a.slot) (cell m.sd.bx x) with
  |none=>rw[t]at b;exact⟨B t,b,sd,u,s,d,e,l,n,p⟩
  |some w=>rw[t]at b;obtain⟨gv,G⟩:=C w t;obtain⟨v,z⟩:=B9 u d;exact⟨gv,G,b,z.trans sd,C1 u,_,v,e,l,n,p⟩
 .obtain⟨_,_,_,_,s,d,e,_⟩:=y;exact⟨s,d,e⟩
 .obtain⟨_,b,sd,_,s,d,e,l,_,p⟩:=y;rw[Dr]at b;have A:=b;rw[A]at q;exact q g' h' s D d e l p sd E
end
section
variable {k:Nat}{g:Gh}
theorem AK(w:Ul L n a h R):∃c fs i,h.ob n=aA (.ins c fs)/\ym.lookup c=aA i/\(fs.lookup ("guess":cV)).isNone=aB/\WC (run pg L i [.ref n,.int a]) h R:=by obtain⟨n',c,fs,e,o,w⟩:=hJ.ex w;cases e;obtain⟨i,l,w⟩:=aC.ex w;obtain⟨hn,w⟩:=aF.an w;exact⟨c,fs,i,o,l,hn,w⟩
theorem aK.C8(r:aK c g m h)(q:∀b h',Kp h h'->R (.bl b) h'):∃cl fs i,h.ob c.gu=aA (.ins cl fs)/\ym.lookup cl=aA i/\(fs.lookup ("guess":cV)).isNone=aB/\WC (run pg (k+3) i [.ref c.gu,.int a]) h R:=by obtain⟨e,f,z⟩:=r.G;exact AK<|zp z.g (λj d=>bD (z.lg j d) r.bx) (by lia) q
theorem aK.S8(r:aK c g m h)(q:∀b h',Kp h h'->R (.bl b) h'):∃cl fs i,h.ob c.nv=aA (.ins cl fs)/\ym.lookup cl=aA i/\(fs.lookup ("guess":cV)).isNone=aB/\WC (run pg (k+3) i [.ref c.nv,.int a]) h R:=by obtain⟨e,f,z⟩:=r.G;exact AK<|zp z.n (λj d=>bD (z.ln j d) r.bx) (by omega) q
def aI.mZ(pc:Int)(b:Bool):aI->Int
 |.dQ _ t=>if b=aB then t else pc+1
 |r=>r.gs pc []
theorem aJx(r:aK c g m h)(hs:s∈m.slots)(q:∀b h',Kp h h'->R (.int<|aI.mZ s.pc b s.row) h'):WC (run pg (k+4) 19 [.ref s.a,.ref c.gu]) h R:=by
 by_cases a:aI.kn s.row=("jump":cV)
 .obtain⟨x,t,d⟩:=qz.mp a;have n:=λb h' k=>by have:=q b h' k;rw[d]at this;exact this
  have o:∀{h'},Kp h h'->h'.ob s.a=aA (.ins 17<|{ s.lt c.room with row:=.dQ x t }.fs (s.a+2)):=λk=>by rw[(r.keep k).cK hs];unfold Sl.lt;rw[d]
  obtain⟨cl,fs,i,p,l,hn,w⟩:=r.C8 (R:=λv h'=>∃b,v = .bl b/\Kp h h') λb h' k=>⟨b,rfl,k⟩;refine aT rfl rfl<|aC.of (o Kp.refl)<|aC.of p<|aC.of l<|aF.t hn<|aC.of (o Kp.refl)<|WC.of<|w.we.mono λv h' z=>?_;obtain⟨b,rfl,k1⟩:=z;have f:=n b h' k1;cases b with
  |true=>exact aC.of (o k1) f|false=>exact aC.of (o k1) f
 .have j:=λx t e=>a (qz.mpr ⟨x,t,e⟩);refine aJy (r.cK hs) j ?_;have:=q aB h Kp.refl;rw[show aI.mZ s.pc aB s.row=s.row.gs s.pc [] by unfold aI.mZ;split;exact absurd ‹s.row=_› (j _ _);rfl]at this;exact this
def Ab:aI->Bool
 |.load _ _ _=>aB
 |_=>aH
def Mo.wU(m:Mo)(c:Cf)(row:aI)(a:Nat)(dr gs:Bool):Mo:=
 let m1:=(m.enter row a).iD c.room m.slots.length 0 row.eG
 match m1.slots[m.slots.length]? with
 |none=>m1
 |some s=>{ m1.dF m.slots.length { s with dr:=if Ab s.row=aB then dr else s.dr,ch:=aI.mZ s.pc gs s.row }with ah:=aI.mZ s.pc gs s.row }
theorem aK.Bt(r:aK c g m h)(hs:m.slots[i]?=aA s)(ha:s'.a=s.a)(ht:s'.tk=s.tk)(hw:s'.ws=s.ws)(hn:s'.bU=s.bU)(hr:s'.row=s.row):aK c g (m.dF i s') (h.put s.a<|.ins 17<|(s'.lt c.room).fs (s.a+2)):=r.aKu hs ha ht hw hn hr
theorem xH(hs:m.slots[i]?=aA s):(m.dF i s').slots[i]?=aA s':=rL (List.getElem?_eq_some_iff.mp hs).1
theorem Nu:(m.dF i s).dF i s'=m.dF i s':=by unfold Mo.dF;simp only[Rm]
theorem Yx(r:aK c g m h)(hs:m.slots[i]?=aA s)(q:∀gs g' h',aK c g' { m.dF i { s with ch:=aI.mZ s.pc gs s.row }with ah:=aI.mZ s.pc gs s.row } h'->h.nx<=h'.nx->R .aE h') :
  dY (run pg<|k+5) (bL<|bL<|bL Vj) [aA (.ref<|c.b+1),aA (.ref<|c.b+11),aA (.ref s.a)] h (λ_ h1=>R .aE h1) R (λ_ _=>False) λ_ _=>False:=by
 have hm:=cM hs;refine aC.of (r.at 11)<|aJx r hm λb h1 k1=>?_;have a:=r.keep k1;refine aC.of rfl<|aC.of rfl<|aC.of (a.cK hm) ?_;have d:=a.Bt (s':={ s with ch:=aI.mZ s.pc b s.row }) hs rfl rfl rfl rfl rfl;refine aC.of bB<|aC.of (d.at 1) ?_;exact q b g _ (d.Fq) k1.nx
theorem w5(r:aK c g m h)(E:Fe c m row)(bl:m.sd.bx.length=8)(ok:∀a,(m.enter row a).uH c.room m.slots.length 0 row.eG)(q:∀a dr gs g' h',aK c g' (m.wU c row a dr gs) h'->h.nx<=h'.nx->R .aE h'):WC (run pg (k+6) 16 [.ref (c.b+1),.ref (c.b+11)]) h R:=by
 refine aT rfl rfl<|aC.of (r.at 1)<|YR r E λa g1 h1 r1 n1=>?_;have e0:(m.enter row a).slots[m.slots.length]?=aA (m.Cb row a):=aTd;refine aC.of (r1.at 11)<|C5 r1 e0 bl (ok a) λg2 h2 s r2 es ea er ep esd n2=>?_;have q2:∀dr gs g' h',aK c g' { ((m.enter row a).iD c.room m.slots.length 0 row.eG).dF m.slots.length { s with dr:=if Ab s.row=aB then dr else s.dr,ch:=aI.mZ s.pc gs s.row }with ah:=aI.mZ s.pc gs s.row } h'->h2.nx<=h'.nx->R .aE h':=λdr gs g' h' z n3=>q a dr gs g' h' (by
  unfold Mo.wU;dsimp only;rw[show((m.enter row a).iD c.room m.slots.length 0 row.eG).slots[m.slots.length]?=aA s from es];exact z) (cD n1<|cD n2 n3)
 have ea':a=s.a:=ea.symm;subst ea';revert es r2 q2
 show aK c g2 ((m.enter row s.a).iD c.room m.slots.length 0 row.eG) h2->((m.enter row s.a).iD c.room m.slots.length 0 row.eG).slots[m.slots.length]?=aA s->_->_;intro r2 es q2;have hm:=cM es;by_cases cl:aI.kn s.row=("load":cV)
 .obtain⟨x,y,d,el⟩:=gw.mp cl;obtain⟨cc,fs,i,o1,l,hn,w⟩:=r2.S8 (R:=λv h'=>∃b,v = .bl b/\Kp h2 h') λb h' k=>⟨b,rfl,k⟩;refine aC.of (r2.lP hm)<|aC.of iB<|aF.dt cl<|aC.of (r2.at 11)<|aC.of o1<|aC.of l<|aF.t hn<|aC.of (r2.cK hm)<|WC.of<|w.we.mono λv h3 z=>?_;obtain⟨b,rfl,k3⟩:=z;have r3:=r2.keep k3;refine aC.of rfl<|aC.of rfl<|aC.of (r3.cK hm) ?_;refine Yx (k:=k) (s:={ s with dr:=b }) (r3.Bt (s':={ s with dr:=b }) es rfl rfl rfl rfl rfl) (xH es) λgs g' h' r5 n5=>q2 b gs g' h' ?_ (cD k3.nx n5);rw[show Ab s.row=aB by rw[el];rfl];rw[Nu]at r5;exact r5
 .refine aC.of (r2.lP hm)<|aC.of iB<|aF.df cl ?_;refine Yx r2 es λgs g' h' r5 n5=>q2 aB gs g' h' ?_ n5;rw[if_neg (λz=>cl (gw.mpr (by cases hr:s.row<;>rw[hr]at z<;>first|exact⟨_,_,_,rfl⟩|cases z)))];exact r5
end
section
variable {k:Nat}{g:Gh}
def Mo.zY(m:Mo)(room:Int)(s:Sl):Option (Option<|Int×Hs×Int):=match s.row with
 |.load _ _ d=>if 0<=cell s.wi 0+d/\cell s.wi 0+d<room then match ab (cell s.wi 0+d) s.dr (m.kp.filter λq=>decide (q.1<s.tk)).reverse with
   |none=>aD
   |some aD=>aA (aA (cell s.wi 0+d,aZ m.cQ (cell s.wi 0+d),cell m.sd.mem (cell s.wi 0+d)))
   |some (aA (u,w))=>aA (aA (cell s.wi 0+d,aA u,w))
  else aA aD
 |_=>aA aD
def Sl.oB(s:Sl):Option (Int×Hs×Int)->Sl
 |none=>s
 |some (_,u,w)=>{ s with src:=u,jF:=aA w }
def ej(bg:Dc (Int×Hs))(t:Int):Option (Int×Hs×Int)->Dc (Int×Hs)
 |none=>bg
 |some (p,u,_)=>bg++[(t,p,u)]
structure xj(c:Cf)(m:Mo)(s:Sl):Prop where
 fi:s.fi=aD
 ws:s.ws=s.wi.map aA
 bg:aZ m.bg s.tk=aD
 kp:∀x y d,s.row = .load x y d->aZ m.kp s.tk=aD
 bl:m.bg.length<63
 ml:c.room=m.sd.mem.length
theorem Pp:(ws.map aA).map oI=ws.map AV.int:=by rw[jO];rfl
theorem aK.Vr(r:aK c g m h)(bn:(bg'.map (·.1)).Nodup)(bl:bg'.length<64):aK c g { m with bg:=bg' } (h.put (c.b+10)<|.aQ<|dE lW bg'):=
 r.sQ 10 ⟨r.W.tk,r.W.t0,r.W.sn,r.W.sw,r.W.wn,r.W.wl,r.W.kn,r.W.kl,bn,bl,r.W.fn,r.W.fk,r.W.fo,r.W.ff⟩ rfl rfl (aU _)
theorem CS{β:Type}{l:Dc β}{v:β}(nd:(l.map (·.1)).Nodup)(h:aZ l x=aD):((l++[(x,v)]).map (·.1)).Nodup:=by rw[iM,LZ];refine⟨nd,by simp,λa ha b hb=>?_⟩;obtain⟨p,c,rfl⟩:=List.mem_map.mp ha;rw[List.mem_singleton.mp hb];intro w;have d:p.1=x:=w;have:=pA nd c;rw[d,h]at this;cases this
theorem aNr(r:aK c g m h)(hs:m.slots[i]?=aA s)(hb:aZ m.bg s.tk=aD)(hk:aZ m.kp s.tk=aD)(bl:m.bg.length<63)(q:aK c g { m with bg:=m.bg++[(s.tk,p,s.src)] } (h.put (c.b+10)<|.aQ<|dE lW<|m.bg++[(s.tk,p,s.src)])->R (.bl aB) (h.put (c.b+10)<|.aQ<|dE lW<|m.bg++[(s.tk,p,s.src)])) :
  dY (run pg<|k+3) (bL<|bL<|bL<|bL<|bL nz) [aA (.ref<|c.b+1),aA (.ref<|c.b+11),aA (.ref s.a),aA (.int p),aA fnd] h (λ_ h1=>R .aE h1) R (λ_ _=>False) λ_ _=>False:=by
 have hm:=cM hs;refine aC.of (r.at 1)<|aC.of (r.at 8)<|aC.of (r.cK hm)<|aC.of (r.cK hm)<|M8 r.shr hb hk λv=>?_;exact q<|r.Vr (CS r.W.bn hb) (by rw[eU];exact xT bl)
theorem aKi{α:Type}{l:List α}{x:α}(e:l[i]?=aA x):l.set i x=l:=by
 refine LD λj=>?_;rw[LP];split
 .rename_i z;subst z;rw[e,if_pos (List.getElem?_eq_some_iff.mp e).1]
 .rfl
theorem Vq{u:Hs}(r:aK c g m h)(hs:m.slots[i]?=aA s)(hb:aZ m.bg s.tk=aD)(hk:aZ m.kp s.tk=aD)(bl:m.bg.length<63){h2:AH}(r2:aK c g (m.dF i { s with src:=u,jF:=aA w }) h2)(nx:h.nx<=h2.nx)(q:∀h',aK c g { m.dF i { s with src:=u,jF:=aA w }with bg:=m.bg++[(s.tk,p,u)] } h'->h.nx<=h'.nx->R (.bl aB) h') :
  dY (run pg<|k+3) (bL<|bL<|bL<|bL<|bL nz) [aA (.ref<|c.b+1),aA (.ref<|c.b+11),aA (.ref s.a),aA (.int p),aA fnd] h2 (λ_ h1=>R .aE h1) R (λ_ _=>False) λ_ _=>False:=
 aNr (s:={ s with src:=u,jF:=aA w }) r2 (xH hs) hb hk bl λa=>q _ a nx
theorem Zg{F:AM.Run}{B:aG->AH->Prop}{f:cV}(r:aK c g m h)(hs:m.slots[i]?=aA s)(ha:s'.a=s.a)(ht:s'.tk=s.tk)(hw:s'.ws=s.ws)(hn:s'.bU=s.bU)(hr:s'.row=s.row)(e:gC f v ((s.lt c.room).fs (s.a+2))=(s'.lt c.room).fs (s.a+2))(q:∀h',aK c g (m.dF i s') h'->h'.nx=h.nx->(∀n,n≠s.a->h'.ob n=h.ob n)->dY F ss Z h' N R B C):dY F ss Z (h.put s.a<|.ins 17<|gC f v<|(s.lt c.room).fs (s.a+2)) N R B C:=by rw[e];exact q _ (r.Bt hs ha ht hw hn hr) rfl λn hn=>aV hn
theorem pq{F:AM.Run}{B:aG->AH->Prop}{f:cV}(r:aK c g m h)(hs:m.slots[i]?=aA s)(ha:s'.a=s.a)(ht:s'.tk=s.tk)(hw:s'.ws=s.ws)(hn:s'.bU=s.bU)(hr:s'.row=s.row)(e:gC f v ((s.lt c.room).fs (s.a+2))=(s'.lt c.room).fs (s.a+2))(q:∀h',aK c g (m.dF i s') h'->h'.nx=h.nx->dY F ss Z h' N R B C):dY F ss Z (h.put s.a<|.ins 17<|gC f v<|(s.lt c.room).fs (s.a+2)) N R B C:=Zg r hs ha ht hw hn hr e λh' a b _=>q h' a b
theorem aNs(r:aK c g m h)(hs:m.slots[i]?=aA s)(hb:aZ m.bg s.tk=aD)(hk:aZ m.kp s.tk=aD)(bl:m.bg.length<63)(hf:s.fi=aD)(h0:0<=p)(h1:p<m.sd.mem.length)(q:∀h',aK c g { m.dF i { s with src:=aZ m.cQ p,jF:=aA (cell m.sd.mem p) }with bg:=m.bg++[(s.tk,p,aZ m.cQ p)] } h'->h.nx<=h'.nx->R (.bl aB) h') :
  dY (run pg<|k+3) (bL<|bL<|bL nz) [aA (.ref<|c.b+1),aA (.ref<|c.b+11),aA (.ref s.a),aA (.int p),aA (.tup [.aE,.aE])] h (λ_ h1=>R .aE h1) R (λ_ _=>False) λ_ _=>False:=by
 have hm:=cM hs;have d:cH (m.sd.mem.map AV.int) p=aA (.int<|cell m.sd.mem p):=yK h0 (by rw[aW];exact h1);refine aC.of (r.at 11)<|aF.t (B:=False) rfl<|aC.of rfl<|aF.t (qF<|r.at 13)<|WC.of<|ux (r.at 13) rfl ?_;rw[jM,show((aZ m.cQ p).map AV.int).getD .aE=oI (aZ m.cQ p) by cases aZ m.cQ p<;>rfl];refine aC.of rfl<|aC.of rfl<|aC.of (r.cK hm) ?_;refine pq (s':={ s with src:=aZ m.cQ p }) r hs rfl rfl rfl rfl rfl rfl λh1 a e=>?_;refine aC.of (a.at 11)<|aC.of d<|aC.of rfl<|aC.of rfl<|aC.of (a.cK<|cM<|xH (m:=m) (s':={ s with src:=aZ m.cQ p }) hs) ?_;refine pq (s:={ s with src:=aZ m.cQ p }) (s':={ s with src:=aZ m.cQ p,jF:=aA (cell m.sd.mem p) }) a (xH hs) rfl rfl rfl rfl rfl (by rw[hf];rfl) λj b f=>?_;rw[Nu]at b;exact Vq r hs hb hk bl b (by rw[f,e];exact aU _) q
theorem aNt(r:aK c g m h)(hs:m.slots[i]?=aA s)(hb:aZ m.bg s.tk=aD)(hk:aZ m.kp s.tk=aD)(bl:m.bg.length<63)(hf:s.fi=aD)(q:∀h',aK c g { m.dF i { s with src:=aA u,jF:=aA w }with bg:=m.bg++[(s.tk,p,aA u)] } h'->h.nx<=h'.nx->R (.bl aB) h') :
  dY (run pg<|k+3) (bL<|bL<|bL nz) [aA (.ref<|c.b+1),aA (.ref<|c.b+11),aA (.ref s.a),aA (.int p),aA (.tup [.int u,.int w])] h (λ_ h1=>R .aE h1) R (λ_ _=>False) λ_ _=>False:=by
 refine aC.of (r.cK<|cM hs) ?_;refine pq (s':={ s with src:=aA u }) r hs rfl rfl rfl rfl rfl rfl λh1 a d=>?_;have e:=a.cK (cM<|xH (m:=m) (s':={ s with src:=aA u }) hs);refine aC.of e ?_;refine pq (s:={ s with src:=aA u }) (s':={ s with src:=aA u,jF:=aA w }) a (xH hs) rfl rfl rfl rfl rfl (by rw[hf];rfl) λj b f=>?_;rw[Nu]at b;exact Vq r hs hb hk bl b (by rw[f,d];exact aU _) q
theorem aOa(r:aK c g m h)(hs:m.slots[i]?=aA s)(O:xj c m s)(q0:m.zY c.room s=aD->∀h',Kp h h'->R (.bl aH) h')(q1:∀l h',m.zY c.room s=aA l->aK c g { m.dF i (s.oB l)with bg:=ej m.bg s.tk l } h'->h.nx<=h'.nx->R (.bl aB) h'):WC (run pg (k+4) 33 [.ref (c.b+1),.ref (c.b+11),.ref s.a]) h R:=by
 have hm:=cM hs;have p:=r.jo hm;rw[O.ws,Pp]at p;have same:m.dF i s=m:=by unfold Mo.dF;rw[aKi hs]
 have a:m.zY c.room s=aA aD->R (.bl aB) h:=λe=>q1 aD h e (by show aK c g { m.dF i s with bg:=m.bg } h;rw[same];exact r) (aU _);have wl:s.wi.length=s.row.nw:=by rw[<- (r.W.sw s hm).1];exact aW ..
 by_cases cl:aI.kn s.row=("load":cV)
 .obtain⟨x,y,d,f⟩:=gw.mp cl;have u:=O.kp x y d f;have ep:s.row.pl s.wi = .int (cell s.wi 0+d):=by rw[f];rfl
  have sp:∀{h'}{R:AV->AH->Prop},Kp h h'->R (.int<|cell s.wi 0+d) h'->WC (run pg (k+3) 108 [.ref s.a]) h' R:=λ{h' R} kk qq=>aLl ((r.keep kk).cK hm) (kk.get (r.Bp hm) p) wl (by rw[show(s.lt c.room).row=s.row from rfl,ep];exact qq);unfold Mo.zY at q0 q1 a;rw[f]at q0 q1 a;dsimp only at q0 q1 a;refine aT rfl rfl<|aC.of (r.lP hm)<|aC.of iB<|aF.nt cl<|aC.of (r.cK hm)<|sp Kp.refl<|aC.of (r.at 11)<|F0 ?_;rw[show((m.sd.mem.length:Nat):Int)=c.room from O.ml.symm];by_cases b:0<=cell s.wi 0+d/\cell s.wi 0+d<c.room
  .rw[if_pos b]at q0 q1 a;refine aF.nt b<|aC.of (r.cK hm)<|sp Kp.refl<|aC.of (r.at 1)<|aC.of (r.at 8)<|aC.of (r.cK hm)<|aC.of (r.cK hm)<|N2 (t:=s.tk) (dr:=s.dr) r.shr λh1 k1=>?_;have r1:=r.keep k1;cases el:ab (cell s.wi 0+d) s.dr (m.kp.filter λq=>decide (q.1<s.tk)).reverse with
   |none=>rw[el]at q0;exact q0 rfl h1 k1
   |some o=>
    rw[el]at q1;cases o with
    |none=>exact aNs r1 hs O.bg u O.bl O.fi b.1 (by have:=O.ml;omega) λh' j n=>q1 _ h' rfl j (cD k1.nx n)|some uw=>exact aNt r1 hs O.bg u O.bl O.fi λh' j n=>q1 _ h' rfl j (cD k1.nx n)
  .rw[if_neg b]at a;exact aF.nf b<|a rfl
 .refine aT rfl rfl<|aC.of (r.lP hm)<|aC.of iB<|aF.nf cl<|a ?_;unfold Mo.zY;split
  .exact absurd (gw.mpr ⟨_,_,_,‹s.row=_›⟩) cl
  .rfl
end
section
variable {k:Nat}{g:Gh}
def Mo.start(m:Mo)(c:Cf)(t:Int×Int)(i:Nat)(s:Sl):Mo:=if 0<t.1-gi m.wk s.row.fH then match m.zY c.room s with
  |none=>m
  |some l=>{ m.dF i { s.oB l with st:=aA m.nw }with bg:=ej m.bg s.tk l,wk:=m.wk++[(s.tk,s.row.fH,m.nw+t.2)] }
 else m
theorem BS{s:Sl}{l:Option (Int×Hs×Int)}:(s.oB l).a=s.a/\(s.oB l).tk=s.tk/\(s.oB l).ws=s.ws/\(s.oB l).bU=s.bU/\(s.oB l).row=s.row/\(s.oB l).fi=s.fi:=by
 cases l with
 |none=>exact⟨rfl,rfl,rfl,rfl,rfl,rfl⟩|some p=>exact⟨rfl,rfl,rfl,rfl,rfl,rfl⟩
theorem aLt{t:Int×Int}{r0:AV}(r:aK c g m h)(hs:m.slots[i]?=aA s)(hg:cH (c.tb.map dX) s.row.fH=aA (dX t))(hn:aZ m.wk s.tk=aD)(hf:gi m.wk s.row.fH<t.1)(wl:m.wk.length<63)(q:∀h',aK c g { m.dF i { s with st:=aA m.nw }with wk:=m.wk++[(s.tk,s.row.fH,m.nw+t.2)] } h'->h.nx<=h'.nx->R .aE h') :
  dY (run pg<|k+4) (.cons (.expr<|.qN "start" [(14,86)] (.lK [18] "benches"<|.var 0)<|.cons (.lK [17] "ticket"<|.var 2)<|.cons (.var 3)<|.cons (.lK [18] "now"<|.var 0) .nil)<|.cons (.gc [17] "started" (.var 2)<|.lK [18] "now"<|.var 0) .nil) [aA (.ref<|c.b+1),aA r0,aA (.ref s.a),aA (.int s.row.fH)] h (λZ h1=>dY (run pg<|k+4) .nil Z h1 (λ_ h1=>R .aE h1) R (λ_ _=>False) λ_ _=>False) R (λ_ _=>False) λ_ _=>False:=by
 have hm:=cM hs;refine aC.of (r.at 1)<|aC.of (r.at 6)<|aC.of (r.cK hm)<|aC.of (r.at 1)<|aLw r.og hg hn hf λv h1 kx e=>?_;have a:=r.wZ (m':={ m with wk:=m.wk++[(s.tk,s.row.fH,m.nw+t.2)] }) 7 kx e ⟨r.W.tk,r.W.t0,r.W.sn,r.W.sw,CS r.W.wn hn,by rw[eU];exact xT wl,r.W.kn,r.W.kl,r.W.bn,r.W.bl,r.W.fn,r.W.fk,r.W.fo,r.W.ff⟩ rfl rfl (aU _);refine aC.of (a.at 1)<|aC.of (a.cK hm) ?_;exact pq (s':={ s with st:=aA m.nw }) a hs rfl rfl rfl rfl rfl rfl λb d f=>q b d (by rw[f];exact kx.nx)
theorem O9{t:Int×Int}(r:aK c g m h)(hs:m.slots[i]?=aA s)(O:xj c m s)(hg:cH (c.tb.map dX) s.row.fH=aA (dX t))(hn:aZ m.wk s.tk=aD)(wl:m.wk.length<63)(q:∀h',aK c g (m.start c t i s) h'->h.nx<=h'.nx->R .aE h'):WC (run pg (k+5) 32 [.ref (c.b+1),.ref (c.b+11),.ref s.a]) h R:=by
 unfold Mo.start at q;refine aT rfl rfl<|aC.of (r.cK<|cM hs)<|C7<|aC.of (r.at 1)<|aC.of (r.at 6)<|Ze r.og hg λh1 k1=>?_;have d:=r.keep k1;by_cases a:0<t.1-gi m.wk s.row.fH
 .rw[if_pos a]at q;refine aF.dt a (aOa d hs O (λe n k2=>?_) λl n e o p=>?_)
  .rw[e]at q;exact q _ (d.keep k2)<|cD k1.nx k2.nx
  .rw[e]at q;obtain⟨u,f,w,x,b,y⟩:=@BS s l;have:=aLt (k:=k) (r0:=.ref (c.b+11)) o (xH hs) (b▸hg) (f▸hn) (by rw[b];show gi m.wk _<_;lia) wl λh' j v=>q h' (by
    simp only[Mo.dF,Rm,f,b]at j ⊢;exact j) (cD k1.nx<|cD p v)
   rw[u,b]at this;exact this
 .rw[if_neg a]at q;exact aF.df a<|q _ d k1.nx
end
section
variable {k:Nat}{g:Gh}
def Mo.jmp(m:Mo)(room:Int)(s:Sl):Mo:=match s.row with
 |.dQ _ _=>if s.d4 room=aA s.ch then m else({ m with ah:=(s.d4 room).getD 0 }:Mo).cut (s.tk+1)
 |_=>m
theorem y8(r:aK c g m h)(hs:s∈m.slots)(hf:s.fi.isSome=aB)(q:∀g' h',aK c g' (m.jmp c.room s) h'->iQ c g h g' h'->R .aE h') :
  dY (run pg<|k+3) (bL<|bL<|bL Fv) [aA (.ref<|c.b+1),aA (.ref s.a),aA v2] h (λ_ h1=>R .aE h1) R (λ_ _=>False) λ_ _=>False:=by
 have o:=r.By hs hf;by_cases d:aI.kn s.row=("jump":cV)
 .obtain⟨x,t,j⟩:=qz.mp d;have l:s.d4 c.room=aA (s.row.gs s.pc s.wi):=by unfold Sl.d4 Sl.ft;rw[j];rfl
  have dt:s.dt c.room=[.int s.pc,oI (s.d1 c.room),oI (s.d2 c.room),oI (s.d3 c.room),.int (s.row.gs s.pc s.wi),(s.ft c.room).getD .aE]:=by unfold Sl.dt;rw[l];rfl
  unfold Mo.jmp at q;rw[j]at q;rw[l]at q;rw[dt]at o;refine aC.of o<|aC.of iB<|aF.dt d<|aC.of o<|aC.of o ?_;refine aF.nd (c:=s.row.gs s.pc s.wi=s.ch) (λf=>?_) λf=>?_
  .rw[if_neg λz=>f (eF z)]at q;refine aC.of o<|aC.of (r.at 1) ?_;have i:=r.Fq (a:=s.row.gs s.pc s.wi);exact aC.of (i.at 1)<|aC.of (i.cK hs)<|Ot i λv g' h' p u fr=>q g' h' p (.trans (.put r (by decide) rfl) ⟨u,λn a b _=>fr n a b⟩)
  .rw[if_pos (congrArg aA f)]at q;exact q g h r .refl
 .have e:m.jmp c.room s=m:=by
   unfold Mo.jmp;split
   .exact absurd (qz.mpr ⟨_,_,‹s.row=_›⟩) d
   .rfl
  rw[e]at q;exact aC.of o<|aC.of iB<|aF.df d<|q g h r .refl
theorem B7{t:Int}{w:AV}(r:aK c g m h)(hn:∀s∈m.slots,∀o∈s.bU,o≠aA t)(q:R .aE h):WC (run pg (k+1) 30 [.ref (c.b+1),.int t,w]) h R:=by
 have sn:=r.W.sn;have len:∀{V:AV->AH->Prop},V (.int m.slots.length) h->WC (Bi.g .len [.ref g.sl]) h V:=λz=>WC.of (fR (bO r.jW.1) (by rw[aW];exact z));refine aT rfl rfl<|WB.of<|xM ?_;refine vG (λi Z h'=>i<=m.slots.length/\h'=h/\∃v4 v5,Z=[aA (.ref<|c.b+1),aA (.int t),aA w,aA (.int i),v4,v5]) m.slots.length (λi Z h' y=>y.1) (λi Z h' y=>?_) FU 0 _ h (by rw[eA];lia) ⟨gX _,rfl,_,_,rfl⟩;obtain⟨_,rfl,v4,v5,rfl⟩:=y;refine jN _<|aC.of (r.at 1)<|len ?_;show if decide (i<(m.slots.length:Int))=aB then _ else _
 by_cases ci:i<m.slots.length
 .rw[if_pos (by simpa)];have es:=dZ ci;have hm:=cM es;have e1:cH (m.slots.map λs=>AV.ref s.a) i=aA (.ref (m.slots[i]).a):=Vd (by rw[fM,es];rfl);have nl:((m.slots[i]).lt c.room).bU.length<=2:=by show(m.slots[i]).bU.length<=2;rw[(r.W.sw _ hm).2];exact sx
  refine fW _<|aC.of (r.at 1)<|WC.of<|eJ (bO r.jW.1) e1<|WB.of<|lR<|vd ?_;refine aC.of (r.cK hm) ⟨ue (by lia) (by rw[aW];lia),?_⟩;refine Ii (λj Z h''=>h''=h'/\∃v5,Z=[aA (.ref<|c.b+1),aA (.int t),aA w,aA (.int i),aA (.ref (m.slots[i]).a),v5]) (by rw[eA,aW];omega) ⟨rfl,_,rfl⟩ (λj Z h'' hj y=>?_)<|λZ h'' y=>?_
  .obtain⟨rfl,v5,rfl⟩:=y;rw[aW]at hj;have hj:j<(m.slots[i]).bU.length:=hj;have e2:cH ((m.slots[i]).bU.map oI) (0+j)=aA (oI (((m.slots[i]).bU)[j]?).join):=by rw[Int.zero_add];exact Ve hj
   have ne:(((m.slots[i]).bU)[j]?).join≠aA t:=by rw[dZ hj];exact hn _ hm _<|Qr hj
   refine jY _<|fW _<|aC.of (r.cK hm)<|aC.of e2 ?_;cases eo:(((m.slots[i]).bU)[j]?).join with
   |none=>exact WC.of<|Cu rfl ⟨rfl,_,rfl⟩|some u=>exact aF.df (λz=>ne (by rw[eo,z])) ⟨rfl,_,rfl⟩
  .obtain⟨rfl,v5,rfl⟩:=y;exact⟨ci,rfl,_,_,rfl⟩
 .rw[if_neg (by simpa using ci)];exact q
end
section
variable {k:Nat}{g:Gh}
theorem y7(r:aK c g m h)(hs:s∈m.slots)(hf:s.fi.isSome=aB)(hn:∀z∈m.slots,∀o∈z.bU,o≠aA s.tk)(q:∀g' h',aK c g' (m.jmp c.room s) h'->iQ c g h g' h'->R .aE h') :
  dY (run pg<|k+3) (bL<|bL Fv) [aA (.ref<|c.b+1),aA (.ref s.a),aA v2] h (λ_ h1=>R .aE h1) R (λ_ _=>False) λ_ _=>False:=by
 have o:=r.By hs hf;refine aC.of o ?_;have fin:=y8 (k:=k) (v2:=v2) r hs hf q;have e:s.dt c.room=[.int s.pc,oI (s.d1 c.room),oI (s.d2 c.room),oI (s.d3 c.room),oI (s.d4 c.room),(s.ft c.room).getD .aE]:=rfl;cases a:s.d1 c.room with
 |none=>rw[a]at e;rw[e];exact fin
 |some x=>rw[a]at e;rw[e]at o ⊢;exact aC.of o<|aC.of o<|B7 r hn fin
theorem y6{v:Int}(ev:v=c.room)(r:aK c g m h)(hs:m.slots[i]?=aA s)(ews:s.ws=s.wi.map aA)(hw:kZ s.wi)(hf:s.fi=aD)(hn:∀z∈m.slots,∀o∈z.bU,o≠aA s.tk)(q:∀g' h',aK c g' ((m.dF i { s with fi:=aA m.nw }).jmp c.room { s with fi:=aA m.nw }) h'->h.nx<=h'.nx->(∀n,n<h.nx->28<=g.kd n->c.b<=n->n≠s.a->h'.ob n=h.ob n)->R .aE h'):WC (run pg (k+6) 29 [.ref (c.b+1),.ref s.a,.int v]) h R:=by
 subst ev;have hm:=cM hs;have b:=r.jo hm;rw[ews,Pp]at b;have wl:s.wi.length=s.row.nw:=by rw[<- (r.W.sw s hm).1];exact aW ..
 refine aT rfl rfl<|aC.of (r.cK hm)<|aC.of (r.cK hm)<|aC.of (r.cK hm)<|WC.of<|rF (bO b)<|aC.of (r.cK hm)<|N4 wl hw ?_;rw[show(s.lt c.room).row.dB (s.lt c.room).pc s.wi c.room (oI (s.lt c.room).jF) = .tup (s.dt c.room) from Xn];refine aC.of rfl<|aC.of rfl<|aC.of (r.cK hm) ?_;have nb:=(sM (r.at 1) (r.cK hm) (λz=>by cases z));refine aC.of ((aV nb).trans (r.at 1))<|aC.of bB ?_;have f:gC "finished" (.int m.nw) (gC "deed" (.tup<|s.dt c.room)<|(s.lt c.room).fs (s.a+2))=(({ s with fi:=aA m.nw }:Sl).lt c.room).fs (s.a+2):=by unfold Sl.lt;rw[show({ s with fi:=aA m.nw }:Sl).dd c.room = .tup (s.dt c.room) from Hd rfl];rfl
 have d:=r.Bt (s':={ s with fi:=aA m.nw }) hs rfl rfl rfl rfl rfl;rw[<- f,<- EN]at d;exact y7 (k:=k+2) (s:={ s with fi:=aA m.nw }) d (cM<|xH (m:=m) (s':={ s with fi:=aA m.nw }) hs) rfl (λz a o e=>by
  rcases Kk a with a|rfl
  .exact hn z a o e
  .exact hn s hm o e) λg' h' j f2=>q g' h' j f2.nx λn hn l hb na=>((f2.ob n hn l hb).1.trans (aV na)).trans (aV na)
end
section
variable {k:Nat}{g:Gh}
structure nV(c:Cf)(g:Gh)(s:Sl)(h:AH):Prop where
 o:h.ob s.a=aA (.ins 17<|(s.lt c.room).ff (s.a+2) (s.dt c.room))
 w:h.ob (s.a+2)=aA (.lst aB<|s.wi.map .int)
 l:s.a+2<h.nx
 lo:c.b<=s.a
 k1:28<=g.kd s.a
 k2:28<=g.kd (s.a+2)
theorem nV.fr(L:nV c g s h)(f:iQ c g h g' h'):nV c g' s h':=
 have l:=L.l;have a:=f.ob s.a (by lia) L.k1 L.lo;have b:=f.ob (s.a+2) l L.k2 (by have:=L.lo;lia)
 ⟨a.1.trans L.o,b.1.trans L.w,bD l f.nx,L.lo,a.2▸L.k1,b.2▸L.k2⟩
theorem BV{b:Bool}(w:Fi L n a b h R):∃c fs i,h.ob n=aA (.ins c fs)/\Hi.lookup c=aA i/\(fs.lookup ("learn":cV)).isNone=aB/\WC (run pg L i [.ref n,.int a,.bl b]) h R:=by obtain⟨n',c,fs,e,o,w⟩:=hJ.ex w;cases e;obtain⟨i,l,w⟩:=aC.ex w;obtain⟨hn,w⟩:=aF.an w;exact⟨c,fs,i,o,l,hn,w⟩
theorem aPo(r:aK c g m h)(L:nV c g s h)(hg:∀u,s.src=aA u->(aZ m.gN u).isSome)(q:∀b,R (.bl b) h):WC (run pg (k+1) 27 [.ref (c.b+11),.ref s.a]) h R:=by
 cases a:s.src with
 |none=>
  have o:h.ob s.a=aA (.ins 17<|{ s.lt c.room with src:=aD }.ff (s.a+2) (s.dt c.room)):=by rw[L.o];unfold Sl.lt;rw[a]
  exact aT rfl rfl<|aC.of o<|q _
 |some u=>
  have o:h.ob s.a=aA (.ins 17<|{ s.lt c.room with src:=aA u }.ff (s.a+2) (s.dt c.room)):=by rw[L.o];unfold Sl.lt;rw[a]
  obtain⟨v,d⟩:=Option.isSome_iff_exists.mp (hg u a);exact aT rfl rfl<|aC.of o<|aC.of (r.at 11)<|aC.of o<|WC.of<|Cw (r.at 14) rfl (by rw[jM,d];rfl)<|aC.of o<|q _
theorem aOf(r:aK c g m h)(L:nV c g s h)(G:nU c n Sg Sn h)(hn:n+1<=m.cA.length+10)(hn2:n<1000)(hw:s.wi.length=s.row.nw)(hg:∀u,s.src=aA u->(aZ m.gN u).isSome)(q:∀h',aK c g m h'->iQ c g h g h'->R .aE h'):WC (run pg (k+6) 26 [.ref (c.b+11),.ref s.a]) h R:=by
 have bx:=r.bx;by_cases A:aI.kn s.row=("jump":cV)
 .obtain⟨x,t,C⟩:=qz.mp A;have cl:¬aI.kn s.row=("load":cV):=by rw[C];show¬("jump":cV)="load";decide +kernel
  obtain⟨F,H⟩:=rk (by rw[hw,C];rfl:s.wi.length=1);have D:=L.w;rw[H]at D;obtain⟨I,fs,i,o,l,hm,w⟩:=BV (rj (Jc 1) (L:=k+5) (a:=s.pc) (b:=!decide (F=0)) (R:=λv h'=>Kx Sg h h'/\Gs h' (n+1) 1 c.gu Sg) G.g hn2 (λj d=>bD (G.lg j d) bx) (by lia) λh' kx e=>⟨kx,e⟩);refine aT rfl rfl<|aC.of L.o<|aC.of iB<|aF.dt A<|aC.of (r.at 11)<|aC.of o<|aC.of l<|aF.t hm<|aC.of L.o<|aC.of L.o<|WC.of<|eJ (bO D) rfl<|WC.of<|w.we.mono λv h1 z=>?_;obtain⟨kx,e⟩:=z;have f1:iQ c g h g h1:=.low kx G.lg;have J:=L.fr f1;have K:aK c g m h1:=⟨r.X.low kx G.lg,⟨Sg,Sn,⟨e.kp hn λ_ _=>rfl,G.n.kp (by omega) λj d=>kx.ob j (bD (G.ln j d) bx) λz=>G.dj j z d,G.dj,G.lg,G.ln,λp B=>have y:=G.lo p B;⟨y.1,y.2.1,y.2.2.1,(kx.ob _ (bD y.2.2.1 bx) y.1).trans y.2.2.2⟩⟩⟩,r.W⟩;exact aC.of J.o<|aC.of iB<|aF.df cl<|q h1 K f1
 .refine aT rfl rfl<|aC.of L.o<|aC.of iB<|aF.df A ?_;by_cases cl:aI.kn s.row=("load":cV)
  .have lw:=λb=>BV (rj (Jc 1) (L:=k+5) (a:=s.pc) (b:=b) (R:=λv h'=>Kx Sn h h'/\Gs h' (n+1) 1 c.nv Sn) G.n hn2 (λj d=>bD (G.ln j d) bx) (by lia) λh' kx e=>⟨kx,e⟩);obtain⟨I,fs,i,o,l,hm,_⟩:=lw aB;refine aC.of L.o<|aC.of iB<|aF.dt cl<|aC.of (r.at 11)<|aC.of o<|aC.of l<|aF.t hm<|aC.of L.o<|aPo (k:=k+4) r L hg λb=>?_;obtain⟨M,N,P,f,E,O,w⟩:=lw (!b);rw[o]at f;cases f;rw[l]at E;cases E;refine WC.of<|w.we.mono λv h1 z=>?_;obtain⟨kx,e⟩:=z;exact q h1 ⟨r.X.low kx G.ln,⟨Sg,Sn,⟨G.g.kp (by omega) λj d=>kx.ob j (bD (G.lg j d) bx) λz=>G.dj j d z,e.kp hn λ_ _=>rfl,G.dj,G.lg,G.ln,λp B=>have y:=G.lo p B;⟨y.1,y.2.1,y.2.2.1,(kx.ob _ (bD y.2.2.1 bx) y.2.1).trans y.2.2.2⟩⟩⟩,r.W⟩<|.low kx G.ln
  .exact aC.of L.o<|aC.of iB<|aF.df cl<|q h ⟨r.X,⟨Sg,Sn,G.low (by omega) λ_ _=>rfl⟩,r.W⟩ .refl
end
section
variable {k:Nat}{g:Gh}
def Mo.note(m:Mo)(room:Int)(s:Sl):Mo:=match s.row with
 |.store _ _ _=>{ m with cQ:=eC m.cQ ((s.d2 room).getD 0) s.tk,gN:=eC m.gN s.tk (s.of.getD 0),kp:=mF m.kp s.tk }
 |.load _ _ _=>{ m with bg:=mF m.bg s.tk }
 |_=>m
structure Fj(c:Cf)(m:Mo)(s:Sl):Prop where
 st:∀x y d,s.row = .store x y d->(∃p,s.d2 c.room=aA p)/\(∃e,aZ m.kp s.tk=aA e)/\m.cQ.length<1000/\m.gN.length<1000
 ld:∀x y d,s.row = .load x y d->aZ m.kp s.tk=aD/\∃e,aZ m.bg s.tk=aA e
theorem aK.stU{sto':Dc Int}(r:aK c g m h):aK c g { m with cQ:=sto' } (h.put (c.b+13)<|.aQ<|dE AV.int sto'):=
 r.sQ 13 ⟨r.W.tk,r.W.t0,r.W.sn,r.W.sw,r.W.wn,r.W.wl,r.W.kn,r.W.kl,r.W.bn,r.W.bl,r.W.fn,r.W.fk,r.W.fo,r.W.ff⟩ rfl rfl (aU _)
theorem aK.C6{gon':Dc Int}(r:aK c g m h):aK c g { m with gN:=gon' } (h.put (c.b+14)<|.aQ<|dE AV.int gon'):=
 r.sQ 14 ⟨r.W.tk,r.W.t0,r.W.sn,r.W.sw,r.W.wn,r.W.wl,r.W.kn,r.W.kl,r.W.bn,r.W.bl,r.W.fn,r.W.fk,r.W.fo,r.W.ff⟩ rfl rfl (aU _)
theorem aDi{β:Type}{l:Dc β}{f:Int×β->Bool}(nd:(l.map (·.1)).Pairwise (·<·)):((l.filter f).map (·.1)).Pairwise (·<·):=kh (List.filter_sublist.map _) nd
theorem S6(r:aK c g m h)(L:nV c g s h)(N:Fj c m s)(ho:∃o,s.of=aA o)(q:∀h',aK c g (m.note c.room s) h'->iQ c g h g h'->(∀n,n<c.b->h'.ob n=h.ob n)->R .aE h'):WC (run pg (k+2) 25 [.ref (c.b+1),.ref (c.b+11),.ref s.a]) h R:=by
 have big:=kX;have lo:∀{h:AH}{i:Nat}{o:bJ}{n:Nat},n<c.b->(h.put (c.b+i) o).ob n=h.ob n:=λhn=>aV (by omega);by_cases cs:aI.kn s.row=("store":cV)
 .obtain⟨x,y,d,er⟩:=zW.mp cs;obtain⟨⟨p,ep⟩,⟨e,ek⟩,l1,l2⟩:=N.st x y d er;obtain⟨off,eo⟩:=ho;have o:∀{h},nV c g s h->h.ob s.a=aA (.ins 17<|{ s.lt c.room with of:=aA off }.ff (s.a+2) [.int s.pc,oI (s.d1 c.room),.int p,oI (s.d3 c.room),oI (s.d4 c.room),(s.ft c.room).getD .aE]):=λL=>by rw[L.o];unfold Sl.lt Sl.dt;rw[eo,ep];rfl
  unfold Mo.note at q;rw[er]at q;dsimp only at q;rw[ep,eo]at q;refine aT rfl rfl<|aC.of (o L)<|aC.of iB<|aF.dt cs<|aC.of (o L)<|aC.of (r.at 11)<|aC.of (o L)<|tB (k:=.inl p) (r.at 13) rfl (by rw[nA];omega) ?_;rw[xC];have r1:=r.stU (sto':=eC m.cQ p s.tk);have f1:iQ c g h g _:=.put (o':=.aQ (dE AV.int<|eC m.cQ p s.tk)) r (i:=13) (by decide) rfl;have L1:=L.fr f1;refine aC.of (o L1)<|aC.of (r1.at 11)<|aC.of (o L1)<|tB (k:=.inl s.tk) (v:=.int off) (kvs:=dE AV.int m.gN) (r1.at 14) rfl (by rw[nA];show m.gN.length<_;omega) ?_;rw[xC];have r2:=r1.C6 (gon':=eC m.gN s.tk off);have f2:=f1.trans (.put (o':=.aQ (dE AV.int<|eC m.gN s.tk off)) r1 (i:=14) (by decide) rfl);have L2:=L.fr f2;refine aC.of (o L2)<|aC.of iB<|aF.dt cs<|aC.of (r2.at 1)<|aC.of (r2.at 8)<|aC.of (o L2)<|M1 (k:=k) (t:=s.tk) r2.shr ek λv=>?_;exact q _ (r2.BL (aDi r2.W.kn)<|yX r2.W.kl) (f2.trans<|.put r2 (i:=9) (by decide) rfl) λn hn=>by rw[lo hn,lo hn,lo hn]
 .refine aT rfl rfl<|aC.of L.o<|aC.of iB<|aF.df cs<|aC.of L.o<|aC.of iB<|aF.df cs<|aC.of L.o<|aC.of iB ?_;by_cases cl:aI.kn s.row=("load":cV)
  .obtain⟨x,y,d,er⟩:=gw.mp cl;obtain⟨ek,e,eb⟩:=N.ld x y d er;unfold Mo.note at q;rw[er]at q;refine aF.dt cl<|aC.of (r.at 1)<|aC.of (r.at 8)<|aC.of L.o<|M0 (k:=k) (t:=s.tk) r.shr ek eb λv=>?_;exact q _ (r.Vr (uL r.W.bn)<|yX r.W.bl) (.put r (i:=10) (by decide) rfl) λn hn=>lo hn
  .have e:m.note c.room s=m:=by
    unfold Mo.note;split
    .exact absurd (zW.mpr ⟨_,_,_,‹s.row=_›⟩) cs
    .exact absurd (gw.mpr ⟨_,_,_,‹s.row=_›⟩) cl
    .rfl
   rw[e]at q;exact aF.df cl<|q h r .refl λ_ _=>rfl
end
section
variable {k:Nat}{g:Gh}
structure xl(c:Cf)(m:Mo)(s:Sl):Prop where
 fi:s.fi.isSome=aB
 ws:s.ws=s.wi.map aA
 nw:s.wi.length=s.row.nw
 b1:∀x,s.d1 c.room=aA x->(0<=x/\x<8)/\∃w,s.d3 c.room=aA w
 b2:∀p,s.d1 c.room=aD->s.d2 c.room=aA p->(0<=p/\p<m.sd.mem.length)/\∃w,s.d3 c.room=aA w
 bl:m.sd.bx.length=8
 ml:m.sd.mem.length<=80
 nt:s.ft c.room=aD->Fj c m s
 gn:s.ft c.room=aD->∀u,s.src=aA u->∃v,aZ (m.note c.room s).gN u=aA v
 sl:m.cA.length<900
def Mo.ur(m:Mo)(room:Int)(s:Sl)(rest:List Sl):Mo:={ m with slots:=rest,cA:=m.cA++[(s.lt room).eZ],sd:=match s.ft room with|some _=>m.sd|none=>m.sd.xt (s.d1 room) (s.d2 room) (s.d3 room) (s.d4 room) }
def Mo.take(m:Mo)(room:Int)(s:Sl)(rest:List Sl):Mo:=match s.ft room with
 |some _=>({ m.ur room s rest with brk:=aB }:Mo).cut s.tk
 |none=>(m.ur room s rest).note room s
theorem nV.os(L:nV c g s h)(hf:s.fi.isSome=aB):h.ob s.a=aA (.ins 17<|(s.lt c.room).fs (s.a+2)):=by rw[L.o,Zh];unfold iA.fk iA.ff;rw[show(s.lt c.room).dd=s.dd c.room from rfl,Hd hf]
theorem aK.snU{x:AV}(r:aK c g m h):aK c g { m with cA:=m.cA++[x] } (h.put (c.b+12)<|.lst aB<|m.cA++[x]):=
 r.sQ 12 ⟨r.W.tk,r.W.t0,r.W.sn,r.W.sw,r.W.wn,r.W.wl,r.W.kn,r.W.kl,r.W.bn,r.W.bl,r.W.fn,r.W.fk,r.W.fo,r.W.ff⟩ rfl rfl (by simp)
theorem aK.BR{sd':Sd}{b':Bool}(r:aK c g m h):aK c g { m with sd:=sd',brk:=b' } (h.put (c.b+11)<|.ins 19<|{ m with sd:=sd',brk:=b' }.lf c):=
 r.sQ 11 ⟨r.W.tk,r.W.t0,r.W.sn,r.W.sw,r.W.wn,r.W.wl,r.W.kn,r.W.kl,r.W.bn,r.W.bl,r.W.fn,r.W.fk,r.W.fo,r.W.ff⟩ rfl rfl (aU _)
theorem aNq(r:aK c g m h)(L:nV c g s h)(G:nU c n Sg Sn h)(hn:n+1<=m.cA.length+10)(hn2:n<1000)(nw:s.wi.length=s.row.nw)(nt:s.ft c.room=aD->Fj c m s)(ho:∃o,s.of=aA o)(gn:s.ft c.room=aD->∀u,s.src=aA u->∃v,aZ (m.note c.room s).gN u=aA v)
  (q:∀g' h',aK c g' (match s.ft c.room with|some _=>({ m with brk:=aB }:Mo).cut s.tk|none=>m.note c.room s) h'->iQ c g h g' h'->R .aE h') :
  dY (run pg<|k+6) (bL<|bL<|bL<|bL ny) [aA (.ref<|c.b+1),aA (.ref<|c.b+11),aA (.ref s.a)] h (λ_ h1=>R .aE h1) R (λ_ _=>False) λ_ _=>False:=by
 cases d:s.ft c.room with
 |some f=>
  rw[d]at q;obtain⟨xs,rfl⟩:∃xs,f = .tup xs:=yv d;have o:h.ob s.a=aA (.ins 17<|(s.lt c.room).ff (s.a+2) [.int s.pc,oI (s.d1 c.room),oI (s.d2 c.room),oI (s.d3 c.room),oI (s.d4 c.room),.tup xs]):=by rw[L.o];unfold Sl.dt;rw[d];rfl
  refine aC.of o<|aC.of (r.at 11) ?_;have e:=r.BR (sd':=m.sd) (b':=aB);have f1:iQ c g h g (h.put (c.b+11)<|.ins 19<|{ m with sd:=m.sd,brk:=aB }.lf c):=.put r (by decide) rfl;refine aC.of (e.at 1)<|aC.of (L.fr f1).o (Ot e λv g' h' i j fr=>?_);exact q g' h' i<|f1.trans ⟨j,λn a b _=>fr n a b⟩
 |none=>
  rw[d]at q;have o:h.ob s.a=aA (.ins 17<|(s.lt c.room).ff (s.a+2) [.int s.pc,oI (s.d1 c.room),oI (s.d2 c.room),oI (s.d3 c.room),oI (s.d4 c.room),.aE]):=by rw[L.o];unfold Sl.dt;rw[d];rfl
  refine aC.of o<|S6 r L (nt d) ho λh1 e f1 lo=>?_;have ns:(m.note c.room s).cA=m.cA:=by unfold Mo.note;split<;>rfl
  exact aOf e (L.fr f1) (G.low (aU _) lo) (ns▸hn) hn2 nw (λu l=>by obtain⟨v,p⟩:=gn d u l;rw[p];rfl) λt i f2=>q g t i (f1.trans f2)
theorem aNu(r:aK c g m h)(L:nV c g s h)(G:nU c (m.cA.length+10) Sg Sn h)(T:xl c m s)(ho:∃o,s.of=aA o)(q:∀g' h',aK c g' (m.take c.room s m.slots) h'->iQ c g h g' h'->R .aE h') :
  dY (run pg<|k+6) (bL<|bL ny) [aA (.ref<|c.b+1),aA (.ref<|c.b+11),aA (.ref s.a)] h (λ_ h1=>R .aE h1) R (λ_ _=>False) λ_ _=>False:=by
 have sl:=T.sl;have big:=kX;refine aC.of (r.at 11) ?_;refine aF.t rfl<|aC.of rfl<|aF.t (oA<|r.at 12)<|aC.of (L.os T.fi)<|Nw (L.os T.fi)<|WC.of<|rE (r.at 12) (by lia) ?_;have r1:=r.snU (x:=(s.lt c.room).eZ);have f1:iQ c g h g (h.put (c.b+12)<|.lst aB<|m.cA++[(s.lt c.room).eZ]):=.put r (by decide) rfl;have G1:nU c (m.cA.length+10) Sg Sn (h.put (c.b+12)<|.lst aB<|m.cA++[(s.lt c.room).eZ]):=G.low (aU _) λn hn=>aV (by lia);revert r1 f1 G1
 generalize h.put (c.b+12) (.lst aB<|m.cA++[(s.lt c.room).eZ])=h1;intro r1 f1 G1;have L1:=L.fr f1;have fin:∀sd',(m.take c.room s m.slots)=(match s.ft c.room with|some _=>({ m with cA:=m.cA++[(s.lt c.room).eZ],sd:=sd',brk:=aB }:Mo).cut s.tk|none=>({ m with cA:=m.cA++[(s.lt c.room).eZ],sd:=sd' }:Mo).note c.room s) ->
   dY (run pg<|k+6) (bL<|bL<|bL<|bL ny) [aA (.ref<|c.b+1),aA (.ref<|c.b+11),aA (.ref s.a)] (h1.put (c.b+11)<|.ins 19<|{ m with cA:=m.cA++[(s.lt c.room).eZ],sd:=sd' }.lf c) (λ_ h1=>R .aE h1) R (λ_ _=>False) λ_ _=>False:=λsd' em=>by
  have f2:=f1.trans (.put (o':=.ins 19 ({ m with cA:=m.cA++[(s.lt c.room).eZ],sd:=sd' }.lf c)) r1 (i:=11) (by decide) rfl);have G2:nU c (m.cA.length+10) Sg Sn (h1.put (c.b+11)<|.ins 19<|{ m with cA:=m.cA++[(s.lt c.room).eZ],sd:=sd' }.lf c):=G1.low (aU _) λn hn=>aV (by lia);refine aNq (k:=k) (r1.BR (sd':=sd') (b':=m.brk)) (L.fr f2) G2 (by show _<=(m.cA++[_]).length+10;rw[eU];show _<=m.cA.length+1+10;lia) (by omega) T.nw (λe=>⟨(T.nt e).st,(T.nt e).ld⟩) ho (λe u eu=>?_) λg' h' r3 f3=>q g' h' (em▸r3) (f2.trans f3);obtain⟨v,hv⟩:=T.gn e u eu;refine⟨v,?_⟩;rw[<- hv];unfold Mo.note;split<;>rfl
 unfold Mo.take Mo.ur at fin;refine aC.of (r1.at 11)<|aC.of L1.o ?_;cases ef:s.ft c.room with
 |some f=>
  rw[ef]at fin;obtain⟨xs,rfl⟩:∃xs,f = .tup xs:=yv ef;have ed:s.dt c.room=[.int s.pc,.aE,.aE,.aE,.aE,.tup xs]:=by unfold Sl.dt Sl.d1 Sl.d2 Sl.d3 Sl.d4;rw[ef];rfl
  rw[ed];refine VA ?_;exact aC.of rfl<|aC.of rfl<|aC.of (r1.at 11)<|fin m.sd rfl
 |none=>
  rw[ef]at fin;have e4:s.d4 c.room=aA (s.row.gs s.pc s.wi):=by unfold Sl.d4;rw[ef];rfl
  have ed:s.dt c.room=[.int s.pc,oI (s.d1 c.room),oI (s.d2 c.room),oI (s.d3 c.room),.int (s.row.gs s.pc s.wi),.aE]:=by unfold Sl.dt;rw[ef,e4];rfl
  rw[ed];refine VB T.bl T.ml T.b1 T.b2 ?_;exact aC.of rfl<|aC.of rfl<|aC.of (r1.at 11)<|fin (m.sd.xt (s.d1 c.room) (s.d2 c.room) (s.d3 c.room)<|aA<|s.row.gs s.pc s.wi) (by rw[e4])
theorem aNz{rest:List Sl}(r:aK c g m h)(hs:m.slots=s::rest)(T:xl c m { s with of:=aA m.nw })(q:∀g' h',aK c g' (m.take c.room { s with of:=aA m.nw } rest) h'->nV c g' { s with of:=aA m.nw } h'->h.nx<=h'.nx->(∀n,n<h.nx->28<=g.kd n->c.b<=n->n≠s.a->h'.ob n=h.ob n/\g'.kd n=g.kd n)->R .aE h'):WC (run pg (k+7) 24 [.ref (c.b+1),.ref (c.b+11),.ref s.a]) h R:=by
 have h0:m.slots[0]?=aA s:=by rw[hs];rfl
 refine aT rfl rfl<|aC.of (r.at 1)<|aC.of (r.cK<|cM h0) ?_;obtain⟨s1,d⟩:∃s1:Sl,s1={ s with of:=aA m.nw }:=⟨_,rfl⟩;rw[<- d]at T q;have y:s1.a=s.a:=by rw[d]
 refine Zg r h0 y (by rw[d]) (by rw[d]) (by rw[d]) (by rw[d]) (by rw[d];rfl) λh1 a H j=>?_;have f:(m.dF 0 s1).slots=s1::rest:=by unfold Mo.dF;rw[hs];rfl
 have b:=f▸kB;have I:=rW (a.W.t0 s1 b);have A:nV c g s1 h1:=⟨a.By b T.fi,by have:=a.jo b;rw[T.ws,Pp]at this;exact this,a.Bp b,a.Ki b,by rw[(a.X.dy _ _ _ (by lia)<|fv a.W b).1];omega,by rw[(a.X.dy _ _ _ (by omega)<|fw a.W b).1];omega⟩;obtain⟨B,C,D⟩:=a.G;have k2:∀{o:bJ},Kp h1 (h1.new o):=Kp.refl.new;refine bp<|aC.of (a.at 1)<|WC.of<|uz (lo:=aA ((1:Nat):Int)) (hi:=aD) a.jW.1 ?_;rw[Xf,show((m.dF 0 s1).slots.map λs:Sl=>AV.ref s.a).drop 1=rest.map λs=>.ref s.a by rw[f];rfl];have l:=a.Bv (th:=m.hG) (k2) (aU _) (cN _) bC (by rw[f];exact List.sublist_cons_self ..);refine aC.of rfl<|aC.of rfl<|aC.of (k2.get (a.lt 1)<|a.at 1) ?_;have f2:iQ c g h1 { g with sl:=h1.nx,kd:=λi=>if i=h1.nx then 15 else g.kd i } ((h1.new<|.lst aB<|rest.map λs=>AV.ref s.a).put (c.b+1) (.ins 18<|{ m.dF 0 s1 with slots:=rest,hG:=m.hG }.wf c h1.nx)):=⟨jQ _,λn hn p _=>⟨by rw[aV λw=>by rw[w,(a.X.st 1 _ rfl).1]at p;omega,dJ (bV hn)],if_neg (bV hn)⟩⟩;have t:nU c (m.cA.length+10) B C ((h1.new<|.lst aB<|rest.map λs=>AV.ref s.a).put (c.b+1) (.ins 18<|{ m.dF 0 s1 with slots:=rest,hG:=m.hG }.wf c h1.nx)):=D.low (aU _) λn hn=>by have:=a.bx;rw[aV (by omega),dJ (by omega)]
 revert l f2 t
 change _->_->_->dY (run pg<|k+6) (bL<|bL ny) [aA (.ref<|c.b+1),aA (.ref<|c.b+11),aA (.ref s.a)] ((h1.new<|.lst aB<|rest.map λs=>AV.ref s.a).put (c.b+1) (.ins 18<|{ m.dF 0 s1 with slots:=rest,hG:=m.hG }.wf c h1.nx)) (λ_ h1=>R .aE h1) R (λ_ _=>False) λ_ _=>False;intro l f2 t;rw[<- y];exact aNu l (A.fr f2) t ⟨T.fi,T.ws,T.nw,T.b1,T.b2,T.bl,T.ml,λe=>⟨(T.nt e).st,(T.nt e).ld⟩,λe u E=>by
  obtain⟨v,F⟩:=T.gn e u E;refine⟨v,?_⟩;rw[<- F];unfold Mo.note;split<;>rfl,T.sl⟩ ⟨m.nw,by rw[d]⟩ λg' h' G x=>q g' h' G (A.fr<|f2.trans x) (by have:=(f2.trans x).nx;omega) λn hn p hb na=>by
  have z:=(f2.trans x).ob n (by omega) p hb;exact⟨z.1.trans (j n na),z.2⟩
end
section
variable {k:Nat}{g:Gh}
theorem ay{V:AV->AH->Prop}(r:aK c g m h)(z:V (.int m.slots.length) h):WC (Bi.g .len [.ref g.sl]) h V:=WC.of (fR (bO r.jW.1) (by rw[aW];exact z))
theorem aK.fresh(r:aK c g m h)(k1:Kp h h')(hn:h.nx<=n):aK c { g with kd:=λi=>if i=n then 28 else g.kd i } m h':=by
 have a:=r.keep k1;refine⟨⟨λi o e=>?_,λk j o h1 e=>?_⟩,a.G,⟨r.W.tk,r.W.t0,r.W.sn,r.W.sw,r.W.wn,r.W.wl,r.W.kn,r.W.kl,r.W.bn,r.W.bl,r.W.fn,r.W.fk,r.W.fo,r.W.ff⟩⟩
 .have z:=r.X.st i o e;have b:=a.X.st i o e;exact⟨(if_neg (by lia)).trans z.1,b.2⟩
 .have z:=r.X.dy k j o h1 e;exact⟨(if_neg (by lia)).trans z.1,(a.X.dy k j o h1 e).2⟩
theorem aK.aDf(r:aK c g m h)(hb:c.b<=n)(hk:g.kd n=28):aK c g m (h.put n o'):=by
 refine⟨⟨λi o e=>?_,λk j o h1 e=>?_⟩,r.Kh hb,r.W⟩
 .have z:=r.X.st i o e;have b:i<15:=(List.getElem?_eq_some_iff.mp e).1;exact⟨z.1,z.2.1,(aV λw=>by rw[w]at z;lia).trans z.2.2⟩
 .have z:=r.X.dy k j o h1 e;refine⟨z.1,z.2.1,z.2.2.1,(aV λw=>?_).trans z.2.2.2⟩;rw[w,hk]at z;rw[<- z.1]at e;obtain⟨f,a,_⟩:=Option.map_eq_some_iff.mp e;have:=r.W.fk _ _ a;lia
theorem Oj(r:aK c g m h)(wd:1<=c.wd)(hf:∀s,m.slots[0]?=aA s->s.fi=aD)(q:∀n h',Kp h h'->h.nx<=n->n<h'.nx->h'.ob n=aA (.lst aB [])->R (.ref n) h'):WC (run pg (k+1) 23 [.ref (c.b+1),.ref (c.b+11)]) h R:=by
 have k1:Kp h (h.new<|.lst aB []):=Kp.refl.new;have a:=r.keep k1;refine aT rfl rfl<|WB.of<|xM ?_;refine vG (λi Z h'=>i=0/\h'=h.new (.lst aB [])/\Z=[aA (.ref<|c.b+1),aA (.ref<|c.b+11),aA (.ref h.nx),aD]) 0 (λi Z h' y=>by lia) (λi Z h' y=>?_) FU 0 _ _ (by rw[eA];lia) ⟨rfl,rfl,rfl⟩;obtain⟨rfl,rfl,rfl⟩:=y;have fin:=q _ _ k1 (aU _) (cN _) bC;refine jN _<|WC.of<|fR (bO bC)<|aC.of (a.at 1)<|aF.dt (by show(0:Int)<c.wd;lia)<|aC.of (a.at 1)<|ay a ?_;cases b:m.slots with
 |nil=>exact fin|cons s rest=>
  have h0:m.slots[0]?=aA s:=by rw[b];rfl
  refine aF.dt (by simp only[lA];lia)<|aC.of (a.at 1)<|WC.of<|eJ (bO a.jW.1) (v:=.ref s.a) (by rw[b];exact iB) ?_;have o:(h.new<|.lst aB []).ob s.a=aA (.ins 17<|{ s.lt c.room with fi:=aD }.fk (s.a+2)):=by rw[a.lP (cM h0)];unfold Sl.lt;rw[hf s h0]
  exact aC.of o fin
theorem XF{t:Int}(e:m.slots=[]):(m.cut t).slots=[]:=by unfold Mo.cut;rw[e];rfl
theorem aNx:(m.take room s []).slots=[]:=by
 unfold Mo.take;split
 .exact XF rfl
 .unfold Mo.note;split<;>rfl
theorem aNy(r:aK c g m h)(wd:1<=c.wd)(hs:m.slots=[s])(T:xl c m { s with of:=aA m.nw })(q:∀n g' h',aK c g' (m.take c.room { s with of:=aA m.nw } []) h'->h.nx<=n->n<h'.nx->h'.ob n=aA (.lst aB [(({ s with of:=aA m.nw }:Sl).lt c.room).eZ])->R (.ref n) h'):WC (run pg (k+8) 23 [.ref (c.b+1),.ref (c.b+11)]) h R:=by
 have k1:Kp h (h.new<|.lst aB []):=Kp.refl.new;have a:=r.fresh (n:=h.nx) k1 (aU _);have h0:m.slots[0]?=aA s:=by rw[hs];rfl
 have hm:=cM h0;have sa:=r.Bp hm;refine aT rfl rfl<|WB.of<|xM ?_;refine vG (λi Z h'=>i<=1/\((i=0/\h'=h.new (.lst aB [])/\Z=[aA (.ref<|c.b+1),aA (.ref<|c.b+11),aA (.ref h.nx),aD])\/(i=1/\(∃f,Z=[aA (.ref<|c.b+1),aA (.ref<|c.b+11),aA (.ref h.nx),f])/\∃g',aK c g' (m.take c.room { s with of:=aA m.nw } []) h'/\h.nx<h'.nx/\h'.ob h.nx=aA (.lst aB [(({ s with of:=aA m.nw }:Sl).lt c.room).eZ])))) 1 (λi Z h' y=>y.1) (λi Z h' y=>?_) FU 0 _ _ (by rw[eA];omega) ⟨gX _,.inl ⟨rfl,rfl,rfl⟩⟩;rcases y.2 with⟨rfl,rfl,rfl⟩|⟨rfl,⟨f,rfl⟩,g',d,lt,ol⟩
 .obtain⟨l,p⟩:=Option.isSome_iff_exists.mp (show s.fi.isSome=aB from T.fi);have b:(h.new<|.lst aB []).ob g.sl=aA (.lst aB [.ref s.a]):=by rw[a.jW.1,hs];rfl
  have o:(h.new<|.lst aB []).ob s.a=aA (.ins 17<|{ s.lt c.room with fi:=aA l }.fk (s.a+2)):=by rw[a.lP hm];unfold Sl.lt;rw[p]
  refine jN _<|WC.of<|fR (bO bC)<|aC.of (a.at 1)<|aF.dt (by show((0:Nat):Int)<c.wd;omega)<|aC.of (a.at 1)<|ay a ?_;rw[hs];refine aC.of (a.at 1)<|WC.of<|eJ (bO b) (v:=.ref s.a) rfl<|aC.of o ?_;refine(fW (F:=run pg (k+7)) _ ?_:Wt (jS (run pg<|k+7) _ _) _ _ _ _ _);refine(aC.of (a.at 1)<|WC.of<|eJ (bO b) (v:=.ref s.a) rfl<|aNz (k:=k) a hs T λg2 t u j w fr=>?_);have lk:28<=(if h.nx=h.nx then 28 else g.kd h.nx):=by rw[if_pos rfl];exact aU _
  have on:=(fr h.nx (cN _) lk r.bx (by omega)).1.trans bC;have e:h.nx<t.nx:=w;refine aF.t (B:=False) (oA on)<|aC.of (j.os T.fi)<|Nw (k:=k+6) (s:=({ s with of:=aA m.nw }:Sl).lt c.room) (j.os T.fi)<|WC.of<|rE on (bD (by decide)<|tK kX) ?_;exact⟨aU _,.inr ⟨rfl,⟨_,rfl⟩,_,u.aDf r.bx ((fr h.nx (cN _) lk r.bx (by omega)).2.trans (if_pos rfl)),e,bB⟩⟩
 .have fin:=q _ _ _ d (aU _) lt ol;refine jN _<|WC.of<|fR (bO ol)<|aC.of (d.at 1)<|aF.dc (λ_=>aC.of (d.at 1) (ay d ?_)) λ_=>fin;rw[aNx];exact fin
end
section
variable {k:Nat}{g:Gh}
theorem aK.JO{wk':Dc (Int×Int)}(r:aK c g m h)(kx:Kx [c.b+7] h h')(e:h'.ob (c.b+7)=aA (.aQ<|dE dX wk'))(wn:(wk'.map (·.1)).Nodup)(wl:wk'.length<64):aK c g { m with wk:=wk' } h':=
 r.wZ 7 kx e ⟨r.W.tk,r.W.t0,r.W.sn,r.W.sw,wn,wl,r.W.kn,r.W.kl,r.W.bn,r.W.bl,r.W.fn,r.W.fk,r.W.fo,r.W.ff⟩ rfl rfl (aU _)
theorem aLg{r:Bool}:jX r []=[]:=List.mergeSort_nil
theorem aLh{r:Bool}:jX r [x]=[x]:=aTg ..
theorem yt(r:aK c g m h)(hd:rZ m.wk m.nw=[])(q:∀h',aK c g { m with wk:=m.wk.filter λp=>!decide (p.2.2<=m.nw) } h'->h.nx<=h'.nx->R .aE h'):WC (run pg (k+2) 28 [.ref (c.b+1),.ref (c.b+11)]) h R:=by
 refine aT rfl rfl<|WB.of<|lR<|mS ?_;refine aC.of (r.at 1)<|aC.of (r.at 6)<|aC.of (r.at 1)<|Xt r.og r.W.wl λn h1 kx e hn a on=>?_;have on:h1.ob n=aA (.lst aB []):=by rw[on,hd,aLg];rfl
 refine nK on ?_;exact uA (n:=n) (bb:=aB) (xs:=[]) (λj Z h'=>h'=h1) (by rw[eA];exact km _) rfl (λ_ _ _ y=>y▸on) (λj x Z h' b y=>nomatch b) (λZ h' y=>by subst y;exact q h' (r.JO kx e (uL r.W.wn)<|yX r.W.wl) kx.nx)
theorem x6{gd:Int×Int}(r:aK c g m h)(hs:m.slots=[s])(hw:m.wk=[(s.tk,gd)])(hd:gd.2<=m.nw)(ews:s.ws=s.wi.map aA)(hwd:kZ s.wi)(hf:s.fi=aD)(hn:∀o∈s.bU,o≠aA s.tk)(ml:c.room=m.sd.mem.length)(q:∀g' h',aK c g' ((({ m with wk:=[] }:Mo).dF 0 { s with fi:=aA m.nw }).jmp c.room { s with fi:=aA m.nw }) h'->h.nx<=h'.nx->R .aE h'):WC (run pg (k+7) 28 [.ref (c.b+1),.ref (c.b+11)]) h R:=by
 have h0:m.slots[0]?=aA s:=by rw[hs];rfl
 refine aT rfl rfl<|WB.of<|lR<|mS ?_;refine aC.of (r.at 1)<|aC.of (r.at 6)<|aC.of (r.at 1)<|Xt r.og r.W.wl λn h1 kx e a d on=>?_;have b:=(r.fresh Kp.refl a).JO kx e (uL r.W.wn) (yX r.W.wl);have t:(m.wk.filter λp=>!decide (p.2.2<=m.nw))=[]:=by rw[hw];simp[hd]
 have on:h1.ob n=aA (.lst aB [.int s.tk]):=by rw[on,show rZ m.wk m.nw=[s.tk] by unfold rZ;rw[hw];simp[hd],aLh];rfl
 rw[t]at b;have sa:=r.Bp (cM h0);refine nK on ?_;refine uA (λj Z h'=>h'.ob n=aA (.lst aB [.int s.tk])/\((j=0/\h'=h1/\Z=[aA (.ref<|c.b+1),aA (.ref<|c.b+11),aD,aD])\/(j=1/\R .aE h'))) (by rw[eA];show 1<1000000;decide) ⟨on,.inl ⟨rfl,rfl,rfl⟩⟩ (λ_ _ _ y=>y.1) (λj x Z h' f y=>?_)<|λZ h' y=>?_
 .obtain⟨_,⟨rfl,rfl,rfl⟩|⟨rfl,_⟩⟩:=y
  .cases f;refine jY _<|fW _<|aC.of (b.at 1)<|HD b ?_;rw[show Mo.slot ({ m with wk:=[] }:Mo) s.tk=aA s by unfold Mo.slot;rw[hs];simp];refine aC.of (b.at 11) (y6 (v:=((m.sd.mem.map AV.int).length:Int)) (by rw[aW,ml]) b h0 ews hwd hf (λz i o l=>?_) λg' u w A fr=>?_)
   .rw[show({ m with wk:=[] }:Mo).slots=[s] from hs]at i;rw[List.mem_singleton.mp i]at l;exact hn o l
   .exact⟨(fr n d (by show 28<=(if n=n then 28 else g.kd n);rw[if_pos rfl];exact aU _) (cD r.bx a) (by lia)).trans on,.inr ⟨rfl,q g' u w (cD kx.nx A)⟩⟩
  .cases f
 .obtain⟨_,⟨z,_⟩|⟨_,z⟩⟩:=y
  .cases z
  .exact z
theorem Ce(r:aK c g m h)(hs:∀s∈m.slots,s.put<m.nw->∃τ,s.st=aA τ)(q:R .aE h):WC (run pg (k+1) 31 [.ref (c.b+1),.ref (c.b+11)]) h R:=by
 have sn:=r.W.sn;refine aT rfl rfl<|WB.of<|lR<|mS<|aC.of (r.at 1)<|nK r.jW.1 ?_;refine uA (λj Z a=>a=h/\∃v2,Z=[aA (.ref<|c.b+1),aA (.ref<|c.b+11),v2]) (by rw[aW,eA];lia) ⟨rfl,_,rfl⟩ (λ_ _ _ y=>y.1▸r.jW.1) (λj x Z a b y=>?_)<|λZ a y=>y.1▸q;obtain⟨rfl,v2,rfl⟩:=y;obtain⟨s,hr,rfl⟩:=mO b;have hm:=cM hr;refine jY _<|fW _<|aC.of (r.cK hm)<|aC.of (r.at 1)<|aF.dc (λcp=>?_) λ_=>?_;rotate_left
 .exact⟨rfl,_,rfl⟩
 obtain⟨τ,e⟩:=hs s hm cp;have o:a.ob s.a=aA (.ins 17<|{ s.lt c.room with st:=aA τ }.fk (s.a+2)):=by rw[r.lP hm];unfold Sl.lt;rw[e]
 exact aC.of o ⟨rfl,_,rfl⟩
theorem aLq{t:Int×Int}(r:aK c g m h)(hs:m.slots=[s])(hp:s.put<m.nw)(ht:s.st=aD)(O:xj c m s)(hg:cH (c.tb.map dX) s.row.fH=aA (dX t))(hn:aZ m.wk s.tk=aD)(wl:m.wk.length<63)(q:∀h',aK c g (m.start c t 0 s) h'->h.nx<=h'.nx->R .aE h'):WC (run pg (k+6) 31 [.ref (c.b+1),.ref (c.b+11)]) h R:=by
 have h0:m.slots[0]?=aA s:=by rw[hs];rfl
 have hm:=cM h0;have sl:h.ob g.sl=aA (.lst aB [.ref s.a]):=by rw[r.jW.1,hs];rfl
 refine aT rfl rfl<|WB.of<|lR<|mS<|aC.of (r.at 1)<|nK sl ?_;refine uA (λj Z h'=>h'.ob g.sl=aA (.lst aB [.ref s.a])/\((j=0/\h'=h/\Z=[aA (.ref<|c.b+1),aA (.ref<|c.b+11),aD])\/(j=1/\R .aE h'))) (by rw[eA];show 1<1000000;decide) ⟨sl,.inl ⟨rfl,rfl,rfl⟩⟩ (λ_ _ _ y=>y.1) (λj x Z h' b y=>?_)<|λZ h' y=>?_
 .obtain⟨_,⟨rfl,rfl,rfl⟩|⟨rfl,_⟩⟩:=y
  .cases b;have o:h'.ob s.a=aA (.ins 17<|{ s.lt c.room with st:=aD }.fk (s.a+2)):=by rw[r.lP hm];unfold Sl.lt;rw[ht]
   refine jY _<|fW _<|aC.of o<|aC.of (r.at 1)<|aF.dt hp<|aC.of o<|aC.of o<|aJk (r.cK hm) (r.jo hm) ?_;rw[O.ws,show(s.wi.map aA).all Rv=aB by rw[KW];simp];refine O9 r h0 O hg hn wl λe d f=>⟨?_,.inr ⟨rfl,q e d f⟩⟩;have:=d.jW.1;rw[this];unfold Mo.start;split
   .split
    .rw[hs];rfl
    .show aA (bJ.lst aB<|(m.slots.set 0 _).map _)=_;rw[hs];show aA (bJ.lst aB [.ref _])=_;rw[show({ s.oB _ with st:=aA m.nw }:Sl).a=s.a from BS.1]
   .rw[hs];rfl
  .cases b
 .obtain⟨_,⟨z,_⟩|⟨_,z⟩⟩:=y
  .cases z
  .exact z
end
section
variable {k:Nat}{g:Gh}
theorem aK.Hn(r:aK c g m h)(q:R (.bl<|decide<|(c.rs.length:Int)<=m.ah) h):WC (run pg (k+1) 111 [.ref (c.b+1)]) h R:=OX (r.at 1) rfl rfl (r.at 2) (by rw[aW];exact q)
theorem u4(r:aK c g m h)(hc:c.sz<=m.slots.length\/(c.rs.length:Int)<=m.ah)(q:R .aE h):WC (run pg (k+2) 15 [.ref (c.b+1),.ref (c.b+11)]) h R:=by refine aT rfl rfl<|WB.of<|xM ?_;refine vG (λi Z a=>i=0/\a=h/\Z=[aA (.ref<|c.b+1),aA (.ref<|c.b+11),aA (.int 0)]) 0 (λi Z a y=>by lia) (λi Z a y=>?_) FU 0 _ _ (by rw[eA];lia) ⟨rfl,rfl,rfl⟩;obtain⟨rfl,rfl,rfl⟩:=y;refine jN _<|aC.of (r.at 1)<|aF.dc (λ_=>?_) λ_=>q;refine aC.of (r.at 1)<|ay r<|aC.of (r.at 1)<|aF.dc (λb=>?_) λ_=>q;refine aC.of (r.at 1)<|r.Hn ?_;rw[decide_eq_true (by lia)];exact q
theorem u5(r:aK c g m h)(sz:c.sz=1)(wd:1<=c.wd)(hs:m.slots=[])(ha:m.ah<c.rs.length)(E:Fe c m row)(bl:m.sd.bx.length=8)(ok:∀a,(m.enter row a).uH c.room 0 0 row.eG)(hl:∀a dr gs,∃s,(m.wU c row a dr gs).slots=[s])(q:∀a dr gs g' h',aK c g' (m.wU c row a dr gs) h'->h.nx<=h'.nx->R .aE h'):WC (run pg (k+7) 15 [.ref (c.b+1),.ref (c.b+11)]) h R:=by
 have l0:m.slots.length=0:=by rw[hs];rfl
 refine aT rfl rfl<|WB.of<|xM ?_;refine vG (λi Z h'=>i<=1/\((i=0/\h'=h/\Z=[aA (.ref<|c.b+1),aA (.ref<|c.b+11),aA (.int 0)])\/(i=1/\(∃z,Z=[aA (.ref<|c.b+1),aA (.ref<|c.b+11),aA (.int z)])/\∃a dr gs g',aK c g' (m.wU c row a dr gs) h'/\h.nx<=h'.nx))) 1 (λi Z h' y=>y.1) (λi Z h' y=>?_) FU 0 _ _ (by rw[eA];omega) ⟨gX _,.inl ⟨rfl,rfl,rfl⟩⟩;rcases y.2 with⟨rfl,rfl,rfl⟩|⟨rfl,⟨z,rfl⟩,a,dr,gs,g',r',n'⟩
 .refine jN _<|aC.of (r.at 1)<|aF.dt (c:=0<c.wd) ‹_› (aC.of (r.at 1)<|ay r<|aC.of (r.at 1)<|aF.dt (c:=(m.slots.length:Int)<c.sz) (by omega)<|aC.of (r.at 1)<|r.Hn ?_);rw[decide_eq_false (by omega)];refine(fW _ ?_:Wt (jS (run pg<|k+6) _ _) _ _ _ _ _);exact w5 (k:=k) r E bl (by rw[l0];exact ok) λa dr gs g' h' r' n'=>⟨aU _,.inr ⟨rfl,⟨_,rfl⟩,a,dr,gs,g',r',n'⟩⟩
 .obtain⟨s,es⟩:=hl a dr gs;have fin:=q a dr gs g' h' r' n';refine jN _<|aC.of (r'.at 1)<|aF.dc (λ_=>?_) λ_=>fin;refine aC.of (r'.at 1)<|ay r'<|aC.of (r'.at 1)<|aF.df ?_ fin;rw[es,sz];exact Int.lt_irrefl 1
def Mo.dI(m:Mo)(c:Cf):AV:=if m.brk=aB then .str "fault" else if m.slots=[]/\(c.rs.length:Int)<=m.ah then .str "end" else .aE
theorem zr(r:aK c g m h)(q:R (m.dI c) h):WC (run pg (k+2) 125 [.ref c.b]) h R:=by
 have o0:=r.at 0;unfold Mo.dI at q;refine aT rfl rfl<|aC.of o0<|aC.of (r.at 11)<|aF.by (b:=m.brk) (λa=>?_) λa=>?_
 .rw[if_pos a]at q;exact q
 .rw[if_neg (a▸fX)]at q;refine aC.of o0 (aC.of (r.at 1)<|ay r<|aF.dc (λf=>?_) λf=>?_)
  .have e:m.slots=[]:=List.length_eq_zero_iff.mp (by lia);refine aC.of o0 (aC.of (r.at 1)<|r.Hn<|aF.dc (λd=>?_) λd=>?_)
   .rw[if_pos ⟨e,d⟩]at q;exact q
   .rw[if_neg λz=>d z.2]at q;exact q
  .rw[if_neg λz=>f (by rw[z.1];rfl)]at q;exact q
theorem aJl(r:aK c g m h)(hh:m.dI c = .aE)(q:R .aE h):WC (run pg (k+3) 126 [.ref c.b]) h R:=by have o0:=r.at 0;refine aT rfl rfl<|aC.of o0<|zr r ?_;rw[hh];exact q
theorem aK.S9(r:aK c g m h):aK c g { m with nw:=m.nw+1 } (h.put (c.b+1)<|.ins 18<|{ m with nw:=m.nw+1 }.wf c g.sl):=
 r.sQ 1 ⟨r.W.tk,r.W.t0,r.W.sn,r.W.sw,r.W.wn,r.W.wl,r.W.kn,r.W.kl,r.W.bn,r.W.bl,r.W.fn,r.W.fk,r.W.fo,r.W.ff⟩ rfl rfl (aU _)
theorem aOs(r:aK c g m h)(hh:m.dI c = .aE)
  (q:∀h1,aK c g { m with nw:=m.nw+1 } h1->h1.nx=h.nx->WC (run pg (k+9) 23 [.ref (c.b+1),.ref (c.b+11)]) h1 λv h2=>∃g2 m2,aK c g2 m2 h2/\(m2.dI c ≠ .aE->R v h2)/\(m2.dI c = .aE->WC (run pg (k+9) 28 [.ref (c.b+1),.ref (c.b+11)]) h2 λ_ h3=>(∃g3 m3,aK c g3 m3 h3)/\WC (run pg (k+9) 31 [.ref (c.b+1),.ref (c.b+11)]) h3 λ_ h4=>(∃g4 m4,aK c g4 m4 h4)/\WC (run pg (k+9) 15 [.ref (c.b+1),.ref (c.b+11)]) h4 λ_ h5=>R v h5)):WC (run pg (k+10) 120 [.ref c.b]) h R:=by
 have o0:∀{h m g},aK c g m h->h.ob c.b=aA (.ins 20 [("window",.ref (c.b+1)),("ledger",.ref (c.b+11))]):=λr=>r.at 0;refine aT rfl rfl<|aC.of (o0 r)<|aJl (k:=k+6) r hh<|aC.of (o0 r)<|aC.of (r.at 1)<|aC.of (r.at 1) ?_;have r1:=r.S9;refine aC.of (o0 r1)<|WC.of<|(q _ r1 rfl).we.mono λv h2 z=>?_;obtain⟨g2,m2,r2,q1,q2⟩:=z;refine aC.of (o0 r2)<|zr (k:=k+7) r2 ?_;by_cases cn:m2.dI c = .aE
 .rw[cn];refine aC.of (o0 r2)<|WC.of<|(q2 cn).we.mono λv3 h3 z=>?_;obtain⟨⟨g3,m3,r3⟩,w3⟩:=z;refine aC.of (o0 r3)<|WC.of<|w3.we.mono λv4 h4 z=>?_;obtain⟨⟨g4,m4,r4⟩,w4⟩:=z;exact aC.of (o0 r4)<|WC.of<|w4.we.mono λv5 h5 z=>z
 .have q3:=q1 cn;have:fO (m2.dI c)=aH:=by
   unfold Mo.dI at cn ⊢;split
   .rfl
   .split
    .rfl
    .rename_i a b;rw[if_neg a,if_neg b]at cn;exact absurd rfl cn
  exact aF.f (b:=fO (m2.dI c)) this q3
end
section
variable {k:Nat}
theorem Q1(q:∀h',h'.nx=h.nx+2->Kp h h'->h'.ob h.nx=aA (.ins 15 [("filled",.ref (h.nx+1))])->h'.ob (h.nx+1)=aA (.aQ [])->R .aE h'):WC (run pg (k+1) 90 [.ref h.nx]) (h.new<|.ins 15 []) R:=by have k1:∀{a b:bJ},Kp h ((h.new a).new b):=Kp.refl.new.new;exact aT rfl rfl<|aC.of ((dJ<|bV<|cN _).trans bC)<|q _ rfl (k1.put<|aU _) bB<|(aV<|lD<|cN _).trans bC
theorem VC(q:∀h',h'.nx=h.nx+2->Kp h h'->h'.ob h.nx=aA (.ins 14<|fb tb<|h.nx+1)->h'.ob (h.nx+1)=aA (.aQ [])->R .aE h'):WC (run pg (k+1) 84 [.ref h.nx,.tup (tb.map dX)]) (h.new<|.ins 14 []) R:=by exact aT rfl rfl<|aC.of bC<|aC.of ((dJ<|bV<|cN _).trans bB)<|q _ rfl (((Kp.refl.new.put<|aU _).new).put (aU _)) bB<|(aV<|lD<|cN _).trans bC
theorem aKj(q:∀h',h'.nx=h.nx+3->Kp h h'->h'.ob h.nx=aA (.ins 16 [("kept",.ref (h.nx+1)),("begun",.ref (h.nx+2))])->h'.ob (h.nx+1)=aA (.aQ [])->h'.ob (h.nx+2)=aA (.aQ [])->R .aE h'):WC (run pg (k+1) 95 [.ref h.nx]) (h.new<|.ins 16 []) R:=by
 have a:h.nx≠h.nx+1:=by lia
 have b:h.nx≠h.nx+2:=by lia
 have c:h.nx+1≠h.nx+2:=by lia
 exact aT rfl rfl<|aC.of ((dJ a).trans bC)<|aC.of ((dJ b).trans bB)<|q _ rfl (((((Kp.refl.new).new).put (aU _)).new).put (aU _)) bB ((aV a.symm).trans ((dJ c).trans ((aV a.symm).trans bC)))<|(aV b.symm).trans bC
theorem M3{sd:Sd}(q:∀h',h'.nx=h.nx+4->Kp h h'->h'.ob h.nx=aA (.ins 19 [("state",sd.av),("guesser",.ref gu),("nerve",.ref nv),("slips",.ref (h.nx+1)),("storers",.ref (h.nx+2)),("gone",.ref (h.nx+3)),("broken",.bl aH)])->h'.ob (h.nx+1)=aA (.lst aB [])->h'.ob (h.nx+2)=aA (.aQ [])->h'.ob (h.nx+3)=aA (.aQ [])->R .aE h'):WC (run pg (k+1) 117 [.ref h.nx,sd.av,.ref gu,.ref nv]) (h.new<|.ins 19 []) R:=by
 have n1:h.nx≠h.nx+1:=by omega
 have n2:h.nx≠h.nx+2:=by omega
 have n3:h.nx≠h.nx+3:=by omega
 have n4:h.nx+1≠h.nx+2:=by omega
 have n5:h.nx+1≠h.nx+3:=by omega
 have n6:h.nx+2≠h.nx+3:=by omega
 have le:=aU h.nx;refine aT rfl rfl<|aC.of bC<|aC.of bB<|aC.of bB<|aC.of ((dJ n1).trans bB)<|aC.of ((dJ n2).trans bB)<|aC.of ((dJ n3).trans bB)<|aC.of bB ?_;refine q _ rfl ((((((((((Kp.refl.new).put le).put le).put le).new).put le).new).put le).new).put le |>.put le) bB ?_ ?_ ?_
 .exact(aV n1.symm).trans ((aV n1.symm).trans ((dJ n5).trans ((aV n1.symm).trans ((dJ n4).trans ((aV n1.symm).trans bC)))))
 .exact(aV n2.symm).trans ((aV n2.symm).trans ((dJ n6).trans ((aV n2.symm).trans bC)))
 .exact(aV n3.symm).trans ((aV n3.symm).trans bC)
def sk(sd:Sd):Mo:=⟨[],sd.pc,0,0,0,λ_=>[],[],[],[],sd,[],[],[],aH⟩
def wf5(n:Nat)(pc sz wd:Int):List (cV×AV):=[("program",.ref (n+1)),("ahead",.int pc),("size",.int sz),("wide",.int wd),("slots",.ref (n+2))]
theorem aQw{sz wd:Int}(nx:h.nx=n+3)(ow:h.ob n=aA (.ins 18<|wf5 n pc sz wd))
  (q:∀h',h'.nx=n+10->(∀i,i<n+3->i≠n->h'.ob i=h.ob i)->h'.ob n=aA (.ins 18 [("program",.ref (n+1)),("ahead",.int pc),("size",.int sz),("wide",.int wd),("slots",.ref (n+2)),("names",.ref (n+3)),("benches",.ref (n+5)),("shelf",.ref (n+7)),("tickets",.int 0),("thrown",.int 0),("now",.int 0)]) ->
   h'.ob (n+3)=aA (.ins 15 [("filled",.ref (n+4))])->h'.ob (n+4)=aA (.aQ [])->h'.ob (n+5)=aA (.ins 14<|fb tb<|n+6)->h'.ob (n+6)=aA (.aQ [])->h'.ob (n+7)=aA (.ins 16 [("kept",.ref (n+8)),("begun",.ref (n+9))])->h'.ob (n+8)=aA (.aQ [])->h'.ob (n+9)=aA (.aQ [])->R .aE h') :
  dY (run pg<|k+1) (bL<|bL<|bL<|bL<|bL Vh) [aA (.ref n),aA (.ref np),aA (.int pc),aA (.int sz),aA (.int wd),aA (.tup<|tb.map dX)] h (λ_ h1=>R .aE h1) R (λ_ _=>False) λ_ _=>False:=by
 have po:∀{h:AH}{o:bJ}{i j:Nat},i≠j->(h.put j o).ob i=h.ob i:=λe=>aV e;refine Q1 (k:=k) λh1 x1 k1 a1 a2=>⟨rfl,?_⟩;rw[nx]at x1 a1 a2 ⊢;refine aC.of rfl<|aC.of rfl<|aC.of (k1.get (by omega) ow) ?_;refine VC (k:=k) (h:=h1.put n _) λh2 x2 k2 b1 b2=>⟨rfl,?_⟩;have y1:∀{o:bJ},(h1.put n o).nx=n+5:=x1;rw[y1]at x2 b1 b2 ⊢;refine aC.of rfl<|aC.of rfl<|aC.of (k2.get (by show n<h1.nx;omega) bB) ?_;refine aKj (k:=k) (h:=h2.put n _) λh3 x3 k3 c1 c2 c3=>⟨rfl,?_⟩;have y2:∀{o:bJ},(h2.put n o).nx=n+7:=x2;rw[y2]at x3 c1 c2 c3 ⊢;refine aC.of rfl<|aC.of rfl<|aC.of (k3.get (by show n<h2.nx;omega) bB)<|aC.of bB<|aC.of bB<|aC.of bB ?_;have l1:h1.nx=n+5:=x1;have l2:h2.nx=n+7:=x2;have e3:∀{i},i≠n->i<n+7->h3.ob i=h2.ob i:=λ{i} ni li=>(k3.ob i (by show i<h2.nx;omega)).trans (aV ni);have e2:∀{i},i≠n->i<n+5->h2.ob i=h1.ob i:=λ{i} ni li=>(k2.ob i (by show i<h1.nx;omega)).trans (aV ni);have e4:∀{i:Nat}{o1 o2 o3 o4:bJ},i≠n->((((h3.put n o1).put n o2).put n o3).put n o4).ob i=h3.ob i:=λni=>by rw[aV ni,aV ni,aV ni,aV ni]
 refine q _ x3 (λi li ni=>?_) bB ?_ ?_ ?_ ?_ ?_ ?_ ?_
 .rw[e4 ni,e3 ni (by omega),e2 ni (by omega)];exact k1.ob i (by omega)
 .rw[e4 (by omega),e3 (by omega) (by omega),e2 (by omega) (by omega)];exact a1
 .rw[e4 (by omega),e3 (by omega) (by omega),e2 (by omega) (by omega)];exact a2
 .rw[e4 (by omega),e3 (by omega) (by omega)];exact b1
 .rw[e4 (by omega),e3 (by omega) (by omega)];exact b2
 .rw[e4 (by omega)];exact c1
 .rw[e4 (by omega)];exact c2
 .rw[e4 (by omega)];exact c3
theorem aQx{sz wd:Int}{sd:Sd}(op:h.ob np=aA (.lst aB<|rs.map aI.av))(lp:np<h.nx)
  (q:∀h',h'.nx=h.nx+10->Kp h h'->h'.ob h.nx=aA (.ins 18 [("program",.ref (h.nx+1)),("ahead",.int sd.pc),("size",.int sz),("wide",.int wd),("slots",.ref (h.nx+2)),("names",.ref (h.nx+3)),("benches",.ref (h.nx+5)),("shelf",.ref (h.nx+7)),("tickets",.int 0),("thrown",.int 0),("now",.int 0)]) ->
   h'.ob (h.nx+1)=aA (.lst aB<|rs.map aI.av)->h'.ob (h.nx+2)=aA (.lst aB [])->h'.ob (h.nx+3)=aA (.ins 15 [("filled",.ref (h.nx+4))])->h'.ob (h.nx+4)=aA (.aQ [])->h'.ob (h.nx+5)=aA (.ins 14<|fb tb<|h.nx+6)->h'.ob (h.nx+6)=aA (.aQ [])->h'.ob (h.nx+7)=aA (.ins 16 [("kept",.ref (h.nx+8)),("begun",.ref (h.nx+9))])->h'.ob (h.nx+8)=aA (.aQ [])->h'.ob (h.nx+9)=aA (.aQ [])->R .aE h') :
  WC (run pg (k+2) 110 [.ref h.nx,.ref np,.int sd.pc,.int sz,.int wd,.tup (tb.map dX)]) (h.new<|.ins 18 []) R:=by
 have le:=aU h.nx;have n1:h.nx≠h.nx+1:=by lia
 have n2:h.nx≠h.nx+2:=by omega
 have n12:h.nx+1≠h.nx+2:=by omega
 refine aT rfl rfl<|WC.of<|uy (bO<|(dJ<|bV lp).trans op)<|aC.of rfl<|aC.of rfl<|aC.of ((dJ n1).trans bC)<|aC.of bB<|aC.of bB<|aC.of bB<|aC.of ((dJ n2).trans bB) ?_;have kA:∀{o1 o2 o3 o4 o5 o6 o7 o8:bJ},Kp h ((((((((h.new o1).new o2).put h.nx o3).put h.nx o4).put h.nx o5).put h.nx o6).new o7).put h.nx o8):=λ{o1 o2 o3 o4 o5 o6 o7 o8}=>(((((((Kp.refl.new).new).put le).put le).put le).put le).new).put le;refine aQw (k:=k) (n:=h.nx) (tb:=tb) rfl bB λh' nx fr w a b c d e f g'=>q h' nx ⟨by omega,λi hi=>(fr i (by omega) (by omega)).trans (kA.ob i hi)⟩ w ?_ ?_ a b c d e f g'
 .exact(fr _ (by omega) (by omega)).trans ((aV n1.symm).trans ((dJ n12).trans ((aV n1.symm).trans ((aV n1.symm).trans ((aV n1.symm).trans ((aV n1.symm).trans bC))))))
 .exact(fr _ (by omega) (by omega)).trans ((aV n2.symm).trans bC)
theorem DR(q:R (.ref n) h):WC (run pg (k+1) 34 [.ref n]) h R:=aT rfl rfl q
def wx(P:Nat->bJ->Prop):Nat->List (Option bJ)->Prop
 |_,[]=>True
 |i,aD::l=>wx P (i+1) l
 |i,aA o::l=>P i o/\wx P (i+1) l
theorem Ux{P:Nat->bJ->Prop}:∀{l:List (Option bJ)}{n:Nat},wx P n l->∀i o,l[i]?=aA (aA o)->P (n+i) o
 |[],_,_,i,o,e=>by cases e
 |x::l,n,a,0,o,e=>by cases e;exact a.1
 |x::l,n,a,i+1,o,e=>by
  have b:wx P (n+1) l:=by
   cases x with
   |none=>exact a|some y=>exact a.2
  have:=Ux b i o e;rw[Nat.add_assoc,MF 1 i]at this;exact this
theorem wf0{sd:Sd}{kd:Nat->Nat}:Wf ⟨n,[],kd⟩ (sk sd):=by refine⟨kg,λ_ h=>(gI h).elim,(by decide:0<64),λ_ h=>(gI h).elim,kg,(by decide:0<64),kg,(by decide:0<64),kg,(by decide:0<64),kg,λx f h=>?_,λ_ _=>rfl,λ_=>(by decide:0<99999)⟩;cases h
theorem O0{lo:List (Nat×bJ)}{b:Nat}{sz wd:Int}{sd:Sd}(hb:h.nx=b)(op:h.ob np=aA (.lst aB<|rs.map aI.av))(lp:np<h.nx)(G:nU ⟨b,rs,sz,wd,tb,gu,nv,sd.mem.length,lo⟩ 10 Sg Sn h)
  (q:∀g h',aK ⟨b,rs,sz,wd,tb,gu,nv,sd.mem.length,lo⟩ g (sk sd) h'->Kp h h'->R .aE h'):WC (run pg (k+3) 119 [.ref b,.ref np,sd.av,.int sz,.int wd,.tup (tb.map dX),.ref gu,.ref nv]) (h.new<|.ins 20 []) R:=by
 subst hb;have u:Kp h (h.new<|.ins 20 []):=Kp.refl.new;refine aT rfl rfl<|aQx (u.get lp op) (kC lp) λh1 r k1 B C D E F H I J K s=>⟨rfl,aC.of rfl (aC.of rfl<|aC.of (k1.get (cN _) bC) ?_)⟩;refine DR<|DR ?_;have r:h1.nx=h.nx+11:=r;refine M3 λd L k2 v w x y=>⟨rfl,?_⟩;have M:∀{o:bJ},(h1.put h.nx o).nx=h.nx+11:=r;rw[M]at L v w x y ⊢;refine aC.of rfl<|aC.of rfl<|aC.of (k2.get (by show h.nx<h1.nx;omega) bB) ?_;have t:∀{i}{o:bJ},i≠h.nx->i<h.nx+11->(d.put h.nx o).ob i=h1.ob i:=λ{i o} m li=>(aV m).trans ((k2.ob i (by show i<h1.nx;omega)).trans (aV m));have N:∀{i}{o:bJ},i≠h.nx->(d.put h.nx o).ob i=d.ob i:=λm=>aV m;have A:∀{o:bJ},Kp h (d.put h.nx o):=λ{o}=>⟨by show h.nx<=d.nx;omega,λi O=>(t (by omega) (by omega)).trans ((k1.ob i (by omega)).trans (u.ob i O))⟩;have Q:aK ⟨h.nx,rs,sz,wd,tb,gu,nv,sd.mem.length,lo⟩ ⟨h.nx+3,[],λn=>if n=h.nx+3 then 15 else n-h.nx⟩ (sk sd) (d.put h.nx<|.ins 20 [("window",.ref (h.nx+1)),("ledger",.ref (h.nx+11))]):=?_
 .exact q _ _ Q A
 refine⟨⟨λi o e=>?_,λj n o S e=>?_⟩,⟨Sg,Sn,G.low (aU _) λn hn=>A.ob n hn⟩,wf0⟩
 .have fin:∀{i o},i<15->i≠3->(d.put h.nx<|.ins 20 [("window",.ref (h.nx+1)),("ledger",.ref (h.nx+11))]).ob (h.nx+i)=aA o->(if h.nx+i=h.nx+3 then 15 else h.nx+i-h.nx)=i/\h.nx+i<d.nx/\(d.put h.nx<|.ins 20 [("window",.ref (h.nx+1)),("ledger",.ref (h.nx+11))]).ob (h.nx+i)=aA o:=λ{i o} a b z=>⟨by rw[if_neg (by omega)];omega,by omega,z⟩;have f:∀{i o},i<11->i≠3->i≠0->h1.ob (h.nx+i)=aA o->_:=λ{i o} a b c z=>fin (by omega) b ((t (by omega) (by omega)).trans z);have p:∀{i o},i<15->i≠3->i≠0->d.ob (h.nx+i)=aA o->_:=λ{i o} a b c z=>fin a b ((N (by omega)).trans z);have key:=Ux (P:=λi o=>(if h.nx+i=h.nx+3 then 15 else h.nx+i-h.nx)=i/\h.nx+i<d.nx/\(d.put h.nx<|.ins 20 [("window",.ref (h.nx+1)),("ledger",.ref (h.nx+11))]).ob (h.nx+i)=aA o) (l:=(sk sd).gH ⟨h.nx,rs,sz,wd,tb,gu,nv,sd.mem.length,lo⟩ ⟨h.nx+3,[],λn=>if n=h.nx+3 then 15 else n-h.nx⟩) ⟨fin (by decide) (by decide) bB,f (by decide) (by decide) (by decide) B,f (by decide) (by decide) (by decide) C,f (by decide) (by decide) (by decide) E,f (by decide) (by decide) (by decide) F,f (by decide) (by decide) (by decide) H,f (by decide) (by decide) (by decide) I,f (by decide) (by decide) (by decide) J,f (by decide) (by decide) (by decide) K,f (by decide) (by decide) (by decide) s,p (by decide) (by decide) (by decide) v,p (by decide) (by decide) (by decide) w,p (by decide) (by decide) (by decide) x,p (by decide) (by decide) (by decide) y,trivial⟩ i o e;rw[Nat.zero_add]at key;exact key
 .unfold Mo.dyn at e;split at e
  .rename_i z;subst z;cases e;exact⟨if_pos rfl,oP ..,by show h.nx+3<d.nx;omega,(t (i:=h.nx+3) (by omega) (by omega)).trans D⟩
  .split at e
   .cases e
   .cases e
end
section
variable {sd:Sd}
def K3(sd:Sd)(k:Int):aI->Dc (Hs×Hs)
 |.store x y d=>[(k,aA (cell sd.bx y+d),aA (cell sd.bx x))]
 |_=>[]
theorem y3(h:s.tk≠u):[s].find? (λz=>decide (z.tk=u))=aD:=by simp[h]
theorem EM{β:Type}{t:Int}{e v:β}:eC [(t,e)] t v=[(t,v)]:=by unfold eC;simp
theorem gy{β:Type}{t:Int}{e:β}:aZ [(t,e)] t=aA e:=by unfold aZ;simp
theorem Xo{β:Type}{t:Int}{e:β}:mF [(t,e)] t=[]:=by unfold mF;simp
theorem gg(hs:m.slots=[s])(hn:∀x y d,s.row ≠ .store x y d):m.give 0 j w={ m with slots:=[{ s with ws:=s.ws.set j (aA w) }] }:=by
 unfold Mo.give Mo.dF;rw[hs];dsimp only[Qo];split
 .rename_i h _;exact absurd h<|hn _ _ _
 .rfl
theorem AE{d:Int}(hs:m.slots=[s])(hr:s.row = .store x y d)(hk:m.kp=[(s.tk,e)]):m.give 0 0 w={ m with slots:=[{ s with ws:=s.ws.set 0 (aA w) }],kp:=[(s.tk,e.1,aA w)] }:=by unfold Mo.give Mo.dF;rw[hs];dsimp only[Qo];rw[hr,hk,gy];show(if 0=0 then _ else _)=_;rw[EM];rfl
theorem C0{d:Int}(hs:m.slots=[s])(hr:s.row = .store x y d)(hk:m.kp=[(s.tk,e)])(hb:m.bg=[]):m.give 0 1 w={ m with slots:=[{ s with ws:=s.ws.set 1 (aA w) }],kp:=[(s.tk,aA (w+d),e.2)] }:=by unfold Mo.give Mo.dF Mo.place;rw[hs];dsimp only[Qo];rw[hr,hk,gy,hb];show(if 1=0 then _ else _)=_;show({ m with slots:=_,kp:=eC [(s.tk,e)] s.tk _,bg:=_ }:Mo)=_;rw[EM];rfl
theorem Jw{o:Hs}{v:Int}(hs:m.slots=[s])(ho:∀u,o=aA u->s.tk≠u):qL room (o.bind m.slot) v=aA v:=by
 cases o with
 |none=>rfl|some u=>show qL room (m.slot u) v=_;unfold Mo.slot;rw[hs,y3 (ho u rfl)];rfl
theorem zN(hs:m.slots=[s])(ho:∀u,(s.bU[j]?).join=aA u->s.tk≠u):m.iD room 0 j (x::l)=(m.give 0 j<|cell m.sd.bx x).iD room 0 (j+1) l:=by rw[AG (by rw[hs];rfl),Jw hs ho]
theorem zO(hs:m.slots=[s])(ho:∀u,(s.bU[j]?).join=aA u->s.tk≠u)(hx:0<=x/\x<8)(gv:mv m s j)(nx:(m.give 0 j<|cell m.sd.bx x).uH room 0 (j+1) l):m.uH room 0 j (x::l):=
 ⟨hx,s,by rw[hs];rfl,λe=>(by rw[Jw hs ho]at e;cases e),λw e=>(by rw[Jw hs ho]at e;cases e;exact⟨gv,nx⟩)⟩
structure Bs where
 k:Nat
 T:Int
 sd:Sd
 fl:Int->Hx
 cQ:Dc Int
 gN:Dc Int
 cA:Ht
def Bs.E(b:Bs)(nw:Int):Mo:=⟨[],b.sd.pc,nw,b.k,0,b.fl,[],[],[],b.sd,b.cA,b.cQ,b.gN,aH⟩
def Bs.bU(b:Bs)(r:aI):Yi:=r.eG.map λx=>(b.fl x).getLast?
def Bs.s0(b:Bs)(r:aI)(a:Nat)(dr gs:Bool):Sl:=⟨a,b.k,b.sd.pc,r,b.bU r,(gW b.sd.bx r).map aA,aI.mZ b.sd.pc gs r,if Ab r=aB then dr else aH,aD,aD,b.T,aD,aD,aD⟩
def Bs.W(b:Bs)(r:aI)(nw ah:Int)(s:Sl)(wk:Dc (Int×Int))(bg:Dc (Int×Hs)):Mo:=⟨[s],ah,nw,b.k+1,0,nB b.fl r b.k,wk,K3 b.sd b.k r,bg,b.sd,b.cA,b.cQ,b.gN,aH⟩
def Bs.P(b:Bs)(r:aI)(a:Nat)(dr gs:Bool):Mo:=b.W r b.T (aI.mZ b.sd.pc gs r) (b.s0 r a dr gs) [] []
theorem Q8{b:Bs}(hf:∀y u,(b.fl y).getLast?=aA u->u<b.k):∀u,((b.bU r)[j]?).join=aA u->(b.k:Int)≠u:=by
 intro u e;unfold Bs.bU at e;rw[fM]at e;cases z:r.eG[j]? with
 |none=>rw[z]at e;cases e|some x=>rw[z]at e;have:=hf x u e;lia
theorem qk(fi:s.fi=aD)(jl:j<s.ws.length)(hn:∀x y d,s.row ≠ .store x y d)(hb:m.bg=[]):mv m s j:=⟨fi,jl,λx y d e=>absurd e (hn x y d),λt p b e=>by rw[hb]at e;cases e⟩
theorem u6{b:Bs}{a:Nat}{gs:Bool}(hr:lX r)(hf:∀y u,(b.fl y).getLast?=aA u->u<b.k):(b.E b.T).wU c r a dr gs=b.P r a dr gs/\((b.E b.T).enter r a).uH c.room 0 0 r.eG:=by
 have hj:=λ(r:aI) j=>Q8 hf (r:=r) (j:=j);have fin:∀(s:Sl),((b.E b.T).enter r a).iD c.room 0 0 r.eG=b.W r b.T b.sd.pc s [] []->s={ b.s0 r a dr gs with ch:=b.sd.pc+1,dr:=aH }->(b.E b.T).wU c r a dr gs=b.P r a dr gs:=λs e es=>by unfold Mo.wU;dsimp only;rw[show(b.E b.T).slots.length=0 from rfl,e,es];rfl
 cases r with
 |way w x y z=>
  refine⟨fin _ ?_ rfl,?_⟩
  .show Mo.iD _ _ _ _ [y,z]=_;rw[zN rfl (hj _ 0),gg rfl (λ_ _ _ e=>by cases e),zN rfl (hj _ 1),gg rfl λ_ _ _ e=>by cases e];rfl
  .refine zO rfl (hj _ 0) hr.2.1 (qk rfl (km 1) (λ_ _ _ e=>by cases e) rfl) ?_;rw[gg rfl λ_ _ _ e=>by cases e];exact zO rfl (hj _ 1) hr.2.2 (qk rfl (cN 1) (λ_ _ _ e=>by cases e) rfl) trivial
 |set x v=>exact⟨fin _ rfl rfl,trivial⟩|go t=>exact⟨fin _ rfl rfl,trivial⟩|fault v=>exact⟨fin _ rfl rfl,trivial⟩|move x y=>refine⟨fin _ ?_ rfl,zO rfl (hj _ 0) hr.2 (qk rfl (km 0) (λ_ _ _ e=>by cases e) rfl) trivial⟩;show Mo.iD _ _ _ _ [y]=_;rw[zN rfl (hj _ 0),gg rfl λ_ _ _ e=>by cases e];rfl
 |dQ x t=>refine⟨fin _ ?_ rfl,zO rfl (hj _ 0) hr.1 (qk rfl (km 0) (λ_ _ _ e=>by cases e) rfl) trivial⟩;show Mo.iD _ _ _ _ [x]=_;rw[zN rfl (hj _ 0),gg rfl λ_ _ _ e=>by cases e];rfl
 |load x y d=>refine⟨fin _ ?_ rfl,zO rfl (hj _ 0) hr.2 (qk rfl (km 0) (λ_ _ _ e=>by cases e) rfl) trivial⟩;show Mo.iD _ _ _ _ [y]=_;rw[zN rfl (hj _ 0),gg rfl λ_ _ _ e=>by cases e];rfl
 |store x y d=>
  refine⟨fin _ ?_ rfl,?_⟩
  .show Mo.iD _ _ _ _ [x,y]=_;rw[zN rfl (hj _ 0),AE rfl rfl rfl,zN rfl (hj _ 1),C0 rfl rfl rfl rfl];rfl
  .refine zO rfl (hj _ 0) hr.1 ⟨rfl,(km 1),λ_ _ _ _=>⟨_,gy,λ_=>rfl,nofun⟩,λ_ _ _ e=>by cases e⟩ ?_;rw[AE rfl rfl rfl];exact zO rfl (hj _ 1) hr.2 ⟨rfl,cN 1,λ_ _ _ _=>⟨_,gy,nofun,λ_=>rfl⟩,λ_ _ _ e=>by cases e⟩ trivial
end
section
variable {b:Bs}{a:Nat}{gs:Bool}{t:Int×Int}
def mM(sd:Sd)(cQ:Dc Int):aI->Option (Int×Hs×Int)
 |.load _ y d=>if 0<=cell sd.bx y+d/\cell sd.bx y+d<(sd.mem.length:Int) then aA (cell sd.bx y+d,aZ cQ (cell sd.bx y+d),cell sd.mem (cell sd.bx y+d)) else aD
 |_=>aD
theorem Ka{sd:Sd}{cQ:Dc Int}{d:Int}:mM sd cQ (.load x y d)=if 0<=cell sd.bx y+d/\cell sd.bx y+d<(sd.mem.length:Int) then aA (cell sd.bx y+d,aZ cQ (cell sd.bx y+d),cell sd.mem (cell sd.bx y+d)) else aD:=rfl
def Bs.sl(b:Bs)(r:aI)(a:Nat)(dr gs:Bool)(st fi of:Hs):Sl:={ (b.s0 r a dr gs).oB (mM b.sd b.cQ r)with st:=st,fi:=fi,of:=of }
def Bs.S(b:Bs)(r:aI)(a:Nat)(dr gs:Bool)(len nw:Int):Mo:=b.W r nw (aI.mZ b.sd.pc gs r) (b.sl r a dr gs (aA<|b.T+1) aD aD) [(b.k,r.fH,b.T+1+len)] (ej [] b.k<|mM b.sd b.cQ r)
def Bs.F(b:Bs)(r:aI)(a:Nat)(dr gs:Bool)(len nw:Int):Mo:=b.W r nw (r.gs b.sd.pc<|gW b.sd.bx r) (b.sl r a dr gs (aA<|b.T+1) (aA<|b.T+1+len) aD) [] (ej [] b.k<|mM b.sd b.cQ r)
theorem BU{l:Option (Int×Hs×Int)}:(s.oB l).ws=s.ws/\(s.oB l).wi=s.wi:=by cases l<;>exact⟨rfl,rfl⟩
theorem hB{st of:Hs}:(b.sl r a dr gs st fi of).row=r/\(b.sl r a dr gs st fi of).tk=b.k/\(b.sl r a dr gs st fi of).pc=b.sd.pc/\(b.sl r a dr gs st fi of).bU=b.bU r/\(b.sl r a dr gs st fi of).put=b.T:=by unfold Bs.sl;cases mM b.sd b.cQ r<;>exact⟨rfl,rfl,rfl,rfl,rfl⟩
theorem JM:(b.s0 r a dr gs).wi=gW b.sd.bx r:=by unfold Sl.wi Bs.s0;rw[jO];exact List.map_id _
theorem jq{st of:Hs}:(b.sl r a dr gs st fi of).wi=gW b.sd.bx r:=(show(b.sl r a dr gs st fi of).wi=((b.s0 r a dr gs).oB _).wi from rfl).trans (BU.2.trans JM)
theorem JY{st of:Hs}:(b.sl r a dr gs st fi of).ws=(b.sl r a dr gs st fi of).wi.map aA:=by rw[jq];exact BU.1
theorem L8(hr:c.room=b.sd.mem.length){nw:Int}:Mo.zY { b.P r a dr gs with nw:=nw } c.room (b.s0 r a dr gs)=aA (mM b.sd b.cQ r):=by
 cases r with
 |load x y d=>show(if 0<=cell b.sd.bx y+d/\cell b.sd.bx y+d<c.room then aA (aA (cell b.sd.bx y+d,aZ b.cQ (cell b.sd.bx y+d),cell b.sd.mem (cell b.sd.bx y+d))) else aA aD)=aA (mM b.sd b.cQ<|.load x y d);rw[hr,Ka];split<;>rfl
 |_=>rfl
theorem aLp(hr:c.room=b.sd.mem.length){nw:Int}:xj c { b.P r a dr gs with nw:=nw } (b.s0 r a dr gs):=⟨rfl,by rw[JM];rfl,rfl,λx y d e=>by cases e;rfl,(by decide:0<63),hr⟩
theorem aLu(hr:c.room=b.sd.mem.length)(ht:1<=t.1):Mo.start { b.P r a dr gs with nw:=b.T+1 } c t 0 (b.s0 r a dr gs)=b.S r a dr gs t.2 (b.T+1):=by unfold Mo.start;rw[if_pos (by show 0<t.1-0;lia),L8 hr];unfold Bs.S Bs.sl;cases mM b.sd b.cQ r<;>rfl
theorem aCa{t:Int}(h:∀u,l.getLast?=aA u->u<t):lN t l=l:=by
 rcases List.eq_nil_or_concat l with rfl|⟨l,u,rfl⟩
 .rfl
 .rw[List.concat_eq_append]at h ⊢;have:=h u (by simp);rw[Lp,if_neg (by lia)]
theorem J3{t:Int}(e:s.row = .dQ x t)(h:s.d4 room=aA s.ch):m.jmp room s=m:=by unfold Mo.jmp;rw[e];exact if_pos h
theorem J4{t:Int}(e:s.row = .dQ x t)(h:s.d4 room≠aA s.ch):m.jmp room s=({ m with ah:=(s.d4 room).getD 0 }:Mo).cut (s.tk+1):=by unfold Mo.jmp;rw[e];exact if_neg h
theorem J2(e:∀x t,s.row ≠ .dQ x t):m.jmp room s=m:=by
 unfold Mo.jmp;split
 .exact absurd ‹_› (e _ _)
 .rfl
theorem XG{t:Int}(hs:m.slots=[s])(ht:s.tk<t)(hf:∀x u,(m.fl x).getLast?=aA u->u<t)(hw:m.wk=[])(hk:m.kp=[])(hb:m.bg=[]):m.cut t=m:=by obtain⟨sl,ah,nw,eL,hG,fl,wk,kp,bg,sd,sp,cQ,gN,brk⟩:=m;cases hs;cases hw;cases hk;cases hb;unfold Mo.cut;rw[vo (by simpa),show(λx=>lN t (fl x))=fl from funext λx=>aCa (hf x)];show(⟨[s],ah,nw,eL,hG+(1-1),fl,[],[],[],sd,sp,cQ,gN,brk⟩:Mo)=_;rw[Int.sub_self,Int.add_zero]
theorem x8{len:Int}(hf:∀y u,(b.fl y).getLast?=aA u->u<b.k):((({ b.S r a dr gs len (b.T+1+len)with wk:=[] }:Mo).dF 0 (b.sl r a dr gs (aA<|b.T+1) (aA<|b.T+1+len) aD)).jmp c.room (b.sl r a dr gs (aA<|b.T+1) (aA<|b.T+1+len) aD))=b.F r a dr gs len (b.T+1+len):=by
 cases r with
 |dQ x t=>
  by_cases z:(aI.dQ x t).gs b.sd.pc (gW b.sd.bx<|.dQ x t)=aI.mZ b.sd.pc gs (.dQ x t)
  .rw[J3 (s:=b.sl (.dQ x t) a dr gs (aA<|b.T+1) (aA<|b.T+1+len) aD) (x:=x) (t:=t) rfl (congrArg aA z)];unfold Bs.F;rw[z];rfl
  .rw[J4 (s:=b.sl (.dQ x t) a dr gs (aA<|b.T+1) (aA<|b.T+1+len) aD) (x:=x) (t:=t) rfl λw=>z (eF w),XG rfl (KP _) (λy u e=>Qh (hf y u e) (KP _)) rfl rfl rfl];rfl
 |load x y d=>exact J2 λ_ _ e=>by rw[hB.1]at e;cases e
 |_=>rfl
end
section
variable {b:Bs}{a:Nat}{gs:Bool}{st of:Hs}
theorem Bw(hr:room=b.sd.mem.length):(b.sl r a dr gs st fi of).ft room=dU b.sd r:=by unfold Sl.ft dU;rw[hB.1,jq,hr]
theorem Bx:(b.sl r a dr gs st fi of).src=(mM b.sd b.cQ r).bind (·.2.1)/\(b.sl r a dr gs st fi of).jF=(mM b.sd b.cQ r).map (·.2.2):=by unfold Bs.sl;cases mM b.sd b.cQ r<;>exact⟨rfl,rfl⟩
theorem L9{d:Int}(h:dU b.sd (.load x y d)=aD):0<=cell b.sd.bx y+d/\cell b.sd.bx y+d<(b.sd.mem.length:Int):=by
 by_cases z:0<=cell b.sd.bx y+d/\cell b.sd.bx y+d<(b.sd.mem.length:Int)
 .exact z
 .have:dU b.sd (.load x y d)=if 0<=cell b.sd.bx y+d/\cell b.sd.bx y+d<(b.sd.mem.length:Int) then aD else aA (.tup [.str "place",.int (cell b.sd.bx y+d)]):=rfl
  rw[this,if_neg z]at h;cases h
theorem aLo{d:Int}(h:dU b.sd (.store x y d)=aD):0<=cell b.sd.bx y+d/\cell b.sd.bx y+d<(b.sd.mem.length:Int):=by
 by_cases z:0<=cell b.sd.bx y+d/\cell b.sd.bx y+d<(b.sd.mem.length:Int)
 .exact z
 .have:dU b.sd (.store x y d)=if 0<=cell b.sd.bx y+d/\cell b.sd.bx y+d<(b.sd.mem.length:Int) then aD else aA (.tup [.str "place",.int (cell b.sd.bx y+d)]):=rfl
  rw[this,if_neg z]at h;cases h
theorem rh{d:Int}(h:dU b.sd (.load x y d)=aD):mM b.sd b.cQ (.load x y d)=aA (cell b.sd.bx y+d,aZ b.cQ (cell b.sd.bx y+d),cell b.sd.mem (cell b.sd.bx y+d)):=by rw[Ka,if_pos (L9 h)]
theorem xI(hr:room=b.sd.mem.length)(hf:dU b.sd r=aD):(b.sl r a dr gs st fi of).d1 room=aI.fx r/\(b.sl r a dr gs st fi of).d2 room=r.Lm (gW b.sd.bx r)/\(b.sl r a dr gs st fi of).d4 room=aA (r.gs b.sd.pc<|gW b.sd.bx r)/\(b.sl r a dr gs st fi of).d3 room=match r with
  |.dQ _ _=>aD | .go _=>aD | .fault _=>aD
  |r=>aA (yL b.sd r):=by
 unfold Sl.d1 Sl.d2 Sl.d3 Sl.d4;rw[Bw hr,hf,hB.1,jq,hB.2.2.1,Bx.2];refine⟨rfl,rfl,rfl,?_⟩;cases r with
 |load x y d=>rw[rh hf];rfl|_=>rfl
theorem UZ(hr:room=b.sd.mem.length)(hf:dU b.sd r=aD):b.sd.xt ((b.sl r a dr gs st fi of).d1 room) ((b.sl r a dr gs st fi of).d2 room) ((b.sl r a dr gs st fi of).d3 room) ((b.sl r a dr gs st fi of).d4 room)=pK b.sd r:=by rw[(xI hr hf).1,(xI hr hf).2.1,(xI hr hf).2.2.1,(xI hr hf).2.2.2];cases r<;>rfl
def Cg(b:Bs):aI->Dc Int
 |.store _ y d=>eC b.cQ (cell b.sd.bx y+d) b.k
 |_=>b.cQ
def AJ(b:Bs)(of:Int):aI->Dc Int
 |.store _ _ _=>eC b.gN b.k of
 |_=>b.gN
def Bs.nx(b:Bs)(r:aI)(T:Int)(x:AV):Bs:=⟨b.k+1,T,pK b.sd r,nB b.fl r b.k,Cg b r,AJ b T r,b.cA++[x]⟩
theorem S5{d:Int}(e:s.row = .store x y d):m.note room s={ m with cQ:=eC m.cQ ((s.d2 room).getD 0) s.tk,gN:=eC m.gN s.tk (s.of.getD 0),kp:=mF m.kp s.tk }:=by unfold Mo.note;rw[e]
theorem DF{d:Int}(e:s.row = .load x y d):m.note room s={ m with bg:=mF m.bg s.tk }:=by unfold Mo.note;rw[e]
theorem S4(h1:∀x y d,s.row ≠ .store x y d)(h2:∀x y d,s.row ≠ .load x y d):m.note room s=m:=by
 unfold Mo.note;split
 .exact absurd ‹_› (h1 _ _ _)
 .exact absurd ‹_› (h2 _ _ _)
 .rfl
theorem aNw{len:Int}(hr:c.room=b.sd.mem.length)(hf:dU b.sd r=aD):Mo.take { b.F r a dr gs len T with nw:=T } c.room (b.sl r a dr gs st fi<|aA T) []=(b.nx r T ((b.sl r a dr gs st fi<|aA T).lt c.room).eZ).E T:=by
 have f:=UZ (a:=a) (dr:=dr) (gs:=gs) (st:=st) (fi:=fi) (of:=aA T) hr hf;unfold Mo.take;unfold Mo.ur;rw[Bw hr,hf];dsimp only;rw[show(b.F r a dr gs len T).sd=b.sd from rfl,f];cases r with
 |store x y d=>have g:=(hB (b:=b) (r:=.store x y d) (a:=a) (dr:=dr) (gs:=gs) (st:=st) (fi:=fi) (of:=aA T)).1;rw[S5 g,(xI hr hf).2.1];show(⟨[],_,_,_,_,_,_,mF [((b.k:Int),_)] b.k,_,_,_,_,_,_⟩:Mo)=_;rw[Xo];rfl
 |load x y d=>rw[DF ((hB (b:=b) (r:=.load x y d) (a:=a) (dr:=dr) (gs:=gs) (st:=st) (fi:=fi) (of:=aA T)).1),hB.2.1];show(⟨[],_,_,_,_,_,_,_,mF (ej [] b.k<|mM b.sd b.cQ<|.load x y d) b.k,_,_,_,_,_⟩:Mo)=_;rw[rh hf];show(⟨[],_,_,_,_,_,_,_,mF [((b.k:Int),_)] b.k,_,_,_,_,_⟩:Mo)=_;rw[Xo];rfl
 |_=>exact S4 (λ_ _ _ e=>by cases e) (λ_ _ _ e=>by cases e)
end
section
variable {b:Bs}{a:Nat}{gs:Bool}{st of:Hs}
theorem aKl{f:Int}(hr:room=b.sd.mem.length):(b.sl r a dr gs st (aA f) of).dd room=b.sd.dB r:=by
 unfold Sl.dd Sd.dB fZ;rw[hB.1,jq,hB.2.2.1,Bx.2,hr];unfold aI.dB;cases hf:aI.ft (gW b.sd.bx r) (b.sd.mem.length:Int) r with
 |some v=>rfl|none=>
  cases r with
  |load x y d=>rw[rh hf];rfl|_=>rfl
theorem XT(hr:room=b.sd.mem.length):(b.sl r a dr gs st fi of).dd room=if fO (oI fi)=aB then .aE else b.sd.dB r:=by
 rcases fi with _|f
 .rfl
 .rw[aKl hr];rfl
structure yE(b:Bs)(k0 k1:List (aN×AV)):Prop where
 h0:∀x,(bK k0<|.inl x).getD .aE=oI (b.fl x).getLast?
 h1:∀p,(bK k1<|.inl p).getD .aE=oI (aZ b.cQ p)
theorem DC(H:yE b k0 k1):(b.bU r).map oI=pC k0 r:=by unfold Bs.bU pC;rw[jO];exact Qy λx _=>(H.h0 x).symm
theorem aLm{t2:Int}(H:yE b k0 k1):oI ((mM b.sd b.cQ r).bind (·.2.1))=uj b.sd k1 (.int t2) r:=by
 cases r with
 |load x y d=>
  show _=if(dU b.sd<|.load x y d).isNone=aB/\fO (.int t2)=aH then(bK k1<|.inl<|cell b.sd.bx y+d).getD .aE else .aE
  have e:dU b.sd (.load x y d)=if 0<=cell b.sd.bx y+d/\cell b.sd.bx y+d<(b.sd.mem.length:Int) then aD else aA (.tup [.str "place",.int (cell b.sd.bx y+d)]):=rfl
  rw[Ka,e,H.h1];split
  .rfl
  .rfl
 |_=>rfl
theorem Bz{t2:Int}(H:yE b k0 k1)(hr:room=b.sd.mem.length):((b.sl r a dr gs (aA t2) fi of).lt room).eZ=pI b.k r b.sd k0 k1 (.int b.T) (.int t2) (oI fi) (oI of):=by unfold iA.eZ pI;show AV.tup [.int (b.sl r a dr gs (aA t2) fi of).tk,.int (b.sl r a dr gs (aA t2) fi of).pc,.tup ((b.sl r a dr gs (aA t2) fi of).bU.map oI),oI (b.sl r a dr gs (aA t2) fi of).src,(b.sl r a dr gs (aA t2) fi of).dd room,.tup [.int (b.sl r a dr gs (aA t2) fi of).put,.int t2,oI fi,oI of]]=_;rw[hB.2.1,hB.2.2.1,hB.2.2.2.1,hB.2.2.2.2,Bx.1,DC H,aLm H,XT hr]
theorem aKs(H:yE b k0 k1):((b.s0 r a dr gs).lt room).eZ=pI b.k r b.sd k0 k1 (.int b.T) .aE .aE .aE:=by unfold iA.eZ pI;show AV.tup [.int b.k,.int b.sd.pc,.tup ((b.bU r).map oI),.aE,.aE,_]=_;rw[DC H,show uj b.sd k1 .aE r = .aE by cases r<;>first|rfl|exact if_neg λz=>by cases z.2];rfl
theorem CC{β:Type}{l:Dc β}{v:β}:aZ (eC l x v) y=if x=y then aA v else aZ l y:=by
 unfold aZ eC;by_cases e:x=y
 .subst e;rw[if_pos rfl];split
  .rename_i z;induction l with
   |nil=>cases z|cons p l a=>
    rw[kM,nM];by_cases w:p.1=x
    .simp[w]
    .rw[rJ,decide_eq_false w]at z;rw[if_neg w,decide_eq_false w];exact a z
  .rename_i z;rw[Dt,List.find?_eq_none.mpr (λp b w=>z (List.any_eq_true.mpr ⟨p,b,w⟩))];simp
 .rw[if_neg e];split
  .rename_i z;clear z;induction l with
   |nil=>rfl|cons p l a=>
    rw[kM,nM,nM];by_cases w:p.1=x
    .rw[if_pos w,show decide (p.1=y)=aH from decide_eq_false λz=>e (w.symm.trans z)];exact a
    .rw[if_neg w];split
     .rfl
     .exact a
  .rw[Dt];simp[e]
def zo(x:AV):Prop:=∃a b c d e t1 t2 t3 n,x = .tup [a,b,c,d,e,.tup [t1,t2,t3,.int n]]
theorem sP{o:Hs}:Pl aB n (oI o):=by cases n<;>cases o<;>first|exact .inl rfl|exact .inr<|.inl ⟨_,rfl⟩|exact .inl<|.inl rfl|exact .inl<|.inr<|.inl ⟨_,rfl⟩
theorem ag(hl:xs.length<=1000)(h:∀x∈xs,Pl aB n x):Pl aB (n+1) (.tup xs):=.inr ⟨xs,rfl,hl,h⟩
theorem sO{i:Int}:Pl aB n (.int i):=sP (o:=aA i)
theorem ij:Pl aB n .aE:=sP (o:=aD)
theorem gA{x:AV}(h:Pl aB n x)(hs:∀y∈xs,Pl aB n y):∀y∈x::xs,Pl aB n y:=λy a=>by
 rcases List.mem_cons.mp a with rfl|z
 .exact h
 .exact hs y z
theorem ig:∀y∈([]:Ht),Pl aB n y:=λy a=>(gI a).elim
theorem aBq{f:AV}(e:aI.ft ws room r=aA f):Pl aB 1 f:=by
 have rD:∀s i,Pl aB 1 (.tup [.str s,.int i]):=λs i=>ag (by simp) (gA (.inr<|.inr ⟨s,rfl,rfl⟩)<|gA sO ig);cases r with
 |fault v=>cases e;exact rD _ _|way w x y z=>
  have e:cond w.sr (if cell ws 1=0 then aA (.tup [.str "nought",.int (cell ws 0)]) else aD) aD=aA f:=e;cases hw:w.sr with
  |false=>rw[hw]at e;cases e|true=>
   rw[hw]at e;by_cases z:cell ws 1=0
   .rw[if_pos z]at e;cases e;exact rD _ _
   .rw[if_neg z]at e;cases e
 |load x y d=>
  have e:(if 0<=cell ws 0+d/\cell ws 0+d<room then aD else aA (.tup [.str "place",.int (cell ws 0+d)]))=aA f:=e;by_cases z:0<=cell ws 0+d/\cell ws 0+d<room
  .rw[if_pos z]at e;cases e
  .rw[if_neg z]at e;cases e;exact rD _ _
 |store x y d=>
  have e:(if 0<=cell ws 1+d/\cell ws 1+d<room then aD else aA (.tup [.str "place",.int (cell ws 1+d)]))=aA f:=e;by_cases z:0<=cell ws 1+d/\cell ws 1+d<room
  .rw[if_pos z]at e;cases e
  .rw[if_neg z]at e;cases e;exact rD _ _
 |_=>cases e
theorem aBp{o:Hs}:Pl aB 2 (r.dB p ws room<|oI o):=by
 unfold aI.dB;cases e:aI.ft ws room r with
 |some f=>exact ag (by simp)<|gA sO<|gA ij<|gA ij<|gA ij<|gA ij<|gA (aBq e) ig|none=>rw[pj,EC,Wd];exact ag (by simp)<|gA sO<|gA sP<|gA sP<|gA sP<|gA sO<|gA ij ig
theorem Nx(hn:s.bU.length<=1000):Pl aB 3 (s.lt room).eZ:=by
 refine ag (by simp)<|gA sO<|gA sO<|gA (ag (by rw[aW];exact hn) λx a=>?_)<|gA sP<|gA ?_<|gA (ag (by simp)<|gA sO<|gA sP<|gA sP<|gA sP ig) ig
 .obtain⟨o,_,rfl⟩:=List.mem_map.mp a;exact sP
 .show Pl aB 2 (s.dd room);unfold Sl.dd;cases s.fi with
  |none=>exact ij|some f=>exact aBp
theorem sv:(b.bU r).length<=1000:=by unfold Bs.bU;rw[aW,ve];have:=@sx r;lia
structure Rn(c:Cf)(last:Int)(b:Bs)(k0 k1:List (aN×AV))(all:Ht):Prop where
 ok:b.sd.ok
 rm:c.room=b.sd.mem.length
 ml:b.sd.mem.length<=80
 hs:yE b k0 k1
 gn:∀p u,aZ b.cQ p=aA u->∃v,aZ b.gN u=aA v
 fl:∀y u,(b.fl y).getLast?=aA u->u<b.k
 fn:∀y,(b.fl y).length<=b.k
 sn:b.cQ.length<=b.k
 gl:b.gN.length<=b.k
 pn:b.cA.length=b.k
 kb:b.k<=40
 pl:∀x∈b.cA,Pl aB 3 x/\zo x
 T0:1+3*(b.k:Int)<=b.T
 ev:all=b.cA++mH c.tb last b.k b.T k0 k1 (iJ c.rs (45-b.k) b.sd)
structure Cx(c:Cf)(last:Int):Prop where
 Nq:∀r∈c.rs,lX r
 tb:ei c.tb
 sz:c.sz=1
 wd:1<=c.wd
 ls:last<=120
end
section
variable {b:Bs}{a:Nat}{gs:Bool}{all:Ht}
theorem um(ht:ei tb)(r:aI):1<=bX tb r/\∃t:Int×Int,cH (tb.map dX) r.fH=aA (dX t)/\t.2=bX tb r/\1<=t.1:=by
 have a:0<=r.fH/\r.fH<5:=by cases r<;>first|(rename_i w x y z;cases w<;>simp[aI.fH,dG.fH];done)|simp[aI.fH]
 obtain⟨n,hn⟩:=vJ a.1;have hl:n<tb.length:=by rw[ht.1];lia
 have h1:=ht.2 _ (Qr hl);have e:bX tb r=(tb[n]).2:=by unfold bX;rw[hn,tE,Du,dZ hl];rfl
 refine⟨e▸h1.2.1,tb[n],?_,e.symm,h1.1⟩;unfold cH;rw[hn,gq (by rw[aW];exact hl),hX,fM,dZ hl];rfl
theorem vC{t:Int}(h:t<=last):nJ t last = .int t:=if_neg (by lia)
theorem jj{t:Int}(h:last<t):nJ t last = .aE:=if_pos h
theorem YM{k:Nat}{t:Int}{s:Sd}(h:t<=last):mH tb last k t k0 k1 ((r,s)::ps)=pI k r s k0 k1 (.int t) (nJ (t+1) last) (nJ (t+1+bX tb r) last) (nJ (t+1+bX tb r+1) last)::mH tb last (k+1) (t+1+bX tb r+1) (tY k r s k0) (tZ k r s k1) ps:=if_neg (by omega)
theorem yn{k:Nat}{t:Int}(h:last<t):mH tb last k t k0 k1 ps=[]:=by
 cases ps with
 |nil=>rfl|cons p ps=>exact if_pos h
theorem Rn.Jq(X:Cx c last)(N:Rn c last b k0 k1 all)(h:b.T<=last):b.k<=39:=by have:=N.T0;have:=X.ls;lia
theorem Rn.ou(X:Cx c last)(N:Rn c last b k0 k1 all)(h:b.T<=last)(er:c.rs[b.sd.pc.toNat]?=aA r):all=b.cA++pI b.k r b.sd k0 k1 (.int b.T) (nJ (b.T+1) last) (nJ (b.T+1+bX c.tb r) last) (nJ (b.T+1+bX c.tb r+1) last)::mH c.tb last (b.k+1) (b.T+1+bX c.tb r+1) (tY b.k r b.sd k0) (tZ b.k r b.sd k1) (match dU b.sd r with|some _=>[] | none=>iJ c.rs (45-(b.k+1)) (pK b.sd r)):=by rw[N.ev,show 45-b.k=45-(b.k+1)+1 from(aTj<|Nat.sub_pos_of_lt<|cg (N.Jq X h) (by decide)).symm,Bb er,YM h];all_goals (cases dU b.sd r<;>rfl)
theorem CM:(pK b.sd r).mem.length=b.sd.mem.length:=by cases r<;>first|rfl|exact cf
theorem Ox{fl:Int->Hx}:kY fl x l y=if y=x then l else fl y:=rfl
theorem T6(H:yE b k0 k1)(hf:dU b.sd r=aD)(y:Int):(bK (tY b.k r b.sd k0)<|.inl y).getD .aE=oI (nB b.fl r b.k y).getLast?:=by
 unfold tY nB;rw[Xm hf];show(bK (ph r.fl b.k k0)<|.inl y).getD .aE=_;rw[pj];cases aI.fx r with
 |none=>exact H.h0 y|some x=>
  show(bK (gZ k0 (.inl x)<|.int b.k)<|.inl y).getD .aE=oI (kY b.fl x (b.fl x++[(b.k:Int)]) y).getLast?;rw[Oy,Ox];by_cases e:y=x
  .rw[if_pos (by rw[e]),if_pos e,Qt];rfl
  .rw[if_neg (λz=>e (El z).symm),if_neg e];exact H.h0 y
theorem T7(H:yE b k0 k1)(hf:dU b.sd r=aD)(p:Int):(bK (tZ b.k r b.sd k1)<|.inl p).getD .aE=oI (aZ (Cg b r) p):=by
 unfold tZ Cg;rw[Xm hf];cases r with
 |store x y d=>
  show(bK (gZ k1 (.inl<|cell b.sd.bx y+d)<|.int b.k)<|.inl p).getD .aE=oI (aZ (eC b.cQ (cell b.sd.bx y+d) b.k) p);rw[Oy,CC];by_cases e:cell b.sd.bx y+d=p
  .rw[if_pos (by rw[e]),if_pos e];rfl
  .rw[if_neg (λz=>e (El z)),if_neg e];exact H.h1 p
 |_=>exact H.h1 p
theorem T4(hf:∀y u,(b.fl y).getLast?=aA u->u<b.k)(y u:Int)(e:(nB b.fl r b.k y).getLast?=aA u):u<(b.k+1:Nat):=by
 unfold nB at e;cases z:aI.fx r with
 |none=>rw[z]at e;have:=hf y u e;omega
 |some x=>
  rw[z]at e;have e:(kY b.fl x (b.fl x++[(b.k:Int)]) y).getLast?=aA u:=e;rw[Ox]at e;by_cases w:y=x
  .rw[if_pos w,Qt]at e;cases e;lia
  .rw[if_neg w]at e;have:=hf y u e;omega
theorem T5(hf:∀y,(b.fl y).length<=n)(y:Int):(nB b.fl r b.k y).length<=n+1:=by
 unfold nB;cases z:aI.fx r with
 |none=>exact vr<|hf y|some x=>
  show(kY b.fl x (b.fl x++[(b.k:Int)]) y).length<=_;rw[Ox];split
  .rw[eU];exact vv<|hf x
  .exact vr<|hf y
theorem Rn.next(X:Cx c last)(N:Rn c last b k0 k1 all)(er:c.rs[b.sd.pc.toNat]?=aA r)(hf:dU b.sd r=aD)(hl:b.T+1+bX c.tb r+1<=last) :
  Rn c last (b.nx r (b.T+1+bX c.tb r+1) ((b.sl r a dr gs (aA<|b.T+1) (aA<|b.T+1+bX c.tb r)<|aA<|b.T+1+bX c.tb r+1).lt c.room).eZ) (tY b.k r b.sd k0) (tZ b.k r b.sd k1) all:=by
 have t1:=(um X.tb r).1;have T0:=N.T0;refine⟨Ob N.ok (X.Nq r<|cM er) hf,by rw[N.rm];exact congrArg _ CM.symm,by rw[show(b.nx r _ _).sd=pK b.sd r from rfl,CM];exact N.ml,⟨T6 N.hs hf,T7 N.hs hf⟩,?_,T4 N.fl,T5 N.fn,?_,?_,?_,?_,?_,?_,?_⟩
 .intro p u e;cases r with
  |store x y d=>
   have e:aZ (eC b.cQ (cell b.sd.bx y+d) b.k) p=aA u:=e;show∃v,aZ (eC b.gN b.k _) u=aA v;rw[CC]at e ⊢;by_cases w:(b.k:Int)=u
   .exact⟨_,if_pos w⟩
   .rw[if_neg w];split at e
    .cases e;exact absurd rfl w
    .exact N.gn p u e
  |_=>exact N.gn p u e
 .show(Cg b r).length<=_;cases r with
  |store x y d=>exact cD EL<|vv N.sn|_=>exact vr N.sn
 .show(AJ b _ r).length<=_;cases r with
  |store x y d=>exact cD EL<|vv N.gl|_=>exact vr N.gl
 .show(b.cA++[_]).length=b.k+1;rw[eU,N.pn];rfl
 .show b.k+1<=40;have:=X.ls;omega
 .intro x f;rcases List.mem_append.mp f with z|z
  .exact N.pl x z
  .rw[List.mem_singleton.mp z];exact⟨Nx (hB.2.2.2.1▸sv),_,_,_,_,_,_,_,_,_,rfl⟩
 .show 1+3*((b.k+1:Nat):Int)<=b.T+1+bX c.tb r+1;omega
 .rw[N.ou X (by omega) er,hf,vC (by omega),vC (by omega),vC hl,Bz N.hs N.rm];show _=(b.cA++[_])++_;rw[vn];rfl
theorem aOj{len nw:Int}{of:Hs}(X:Cx c last)(N:Rn c last b k0 k1 all)(hr:lX r)(hk:b.k<=39):xl c { b.F r a dr gs len nw with nw:=nw } (b.sl r a dr gs (aA<|b.T+1) (aA<|b.T+1+len) of):=by
 have F:∀{st fi of},(b.sl r a dr gs st fi of).ft c.room=dU b.sd r:=Bw N.rm;have ff:∀{x:Int},(b.sl r a dr gs (aA<|b.T+1) (aA<|b.T+1+len) of).d1 c.room=aA x->dU b.sd r=aD:=λ{x} e=>by
  unfold Sl.d1 at e;rw[F]at e;cases z:dU b.sd r with
  |none=>rfl|some f=>rw[z]at e;cases e
 have j:∀{x:Int},(b.sl r a dr gs (aA<|b.T+1) (aA<|b.T+1+len) of).d2 c.room=aA x->dU b.sd r=aD:=λ{x} e=>by
  unfold Sl.d2 at e;rw[F]at e;cases z:dU b.sd r with
  |none=>rfl|some f=>rw[z]at e;cases e
 have pn:=N.pn;refine⟨rfl,JY,by rw[jq,hB.1];unfold gW;rw[aW,ve],λx e=>?_,λp k g=>?_,N.ok.bl,N.ml,λe=>?_,λe u h=>?_,by show b.cA.length<900;omega⟩
 .have i:=ff e;have D:=xI (a:=a) (dr:=dr) (gs:=gs) (st:=aA (b.T+1)) (fi:=aA (b.T+1+len)) (of:=of) N.rm i;rw[D.1]at e;refine⟨Zi hr e,?_⟩;rw[D.2.2.2];cases r<;>first|exact⟨_,rfl⟩|cases e
 .have i:=j g;have D:=xI (a:=a) (dr:=dr) (gs:=gs) (st:=aA (b.T+1)) (fi:=aA (b.T+1+len)) (of:=of) N.rm i;rw[D.1]at k;rw[D.2.1]at g;rw[D.2.2.2];cases r with
  |store x y d=>cases g;exact⟨aLo i,_,rfl⟩|load x y d=>cases k|_=>cases g
 .rw[F]at e;have sn:=N.sn;have gl:=N.gl;refine⟨λx y d w=>?_,λx y d w=>?_⟩
  .rw[hB.1]at w;subst w;rw[(xI (a:=a) (dr:=dr) (gs:=gs) (st:=aA (b.T+1)) (fi:=aA (b.T+1+len)) (of:=of) N.rm e).2.1];exact⟨⟨_,rfl⟩,⟨_,gy⟩,by show b.cQ.length<1000;omega,by show b.gN.length<1000;omega⟩
  .rw[hB.1]at w;subst w;rw[hB.2.1];refine⟨rfl,?_⟩;show∃e,aZ (ej [] b.k<|mM b.sd b.cQ<|.load x y d) b.k=aA e;rw[rh e];exact⟨_,gy⟩
 .rw[F]at e;rw[Bx.1]at h;cases r with
  |load x y d=>rw[rh e]at h;rw[DF hB.1];exact N.gn _ u h
  |_=>cases h
end
section
variable {k:Nat}{g:Gh}{all:Ht}{n:Int}
inductive Jv(c:Cf)(last n:Int)(all:Ht)(m:Mo):Prop
 |E (b:Bs) (k0 k1:List (aN×AV)) (N:Rn c last b k0 k1 all) (e:m=b.E n) (h:n+1=b.T\/(c.rs.length:Int)<=b.sd.pc)
 |P (b:Bs) (k0 k1:List (aN×AV)) (r:aI) (a:Nat) (dr gs:Bool) (N:Rn c last b k0 k1 all) (er:c.rs[b.sd.pc.toNat]?=aA r) (e:m=b.P r a dr gs) (h:n=b.T)
 |S (b:Bs) (k0 k1:List (aN×AV)) (r:aI) (a:Nat) (dr gs:Bool) (N:Rn c last b k0 k1 all) (er:c.rs[b.sd.pc.toNat]?=aA r) (e:m=b.S r a dr gs (bX c.tb r) n) (h:b.T+1<=n/\n<b.T+1+bX c.tb r)
 |F (b:Bs) (k0 k1:List (aN×AV)) (r:aI) (a:Nat) (dr gs:Bool) (N:Rn c last b k0 k1 all) (er:c.rs[b.sd.pc.toNat]?=aA r) (e:m=b.F r a dr gs (bX c.tb r) n) (h:n=b.T+1+bX c.tb r)
 |B (hb:m.brk=aB) (hs:m.slots=[]) (ht:m.eL=all.length) (h0:m.hG=0) (hl:m.cA=all) (pl:∀x∈all,Pl aB 3 x/\zo x) (sn:all.length<=900)
theorem Yw{b:Bs}(X:Cx c last)(N:Rn c last b k0 k1 all)(hl:b.T<=last)(hp:b.sd.pc<c.rs.length)(r:aK c g (b.E b.T) h)(q:∀v g' m' h',aK c g' m' h'->Jv c last b.T all m'->R v h'):WC (run pg (k+7) 15 [.ref (c.b+1),.ref (c.b+11)]) h R:=by
 have h0:=N.ok.pc;have j:=N.Jq X hl;have i:b.sd.pc.toNat<c.rs.length:=by lia
 have d:=dZ i;generalize c.rs[b.sd.pc.toNat]=row at d;have hr:=X.Nq row (cM d);have e:=λa dr gs=>u6 (c:=c) (a:=a) (dr:=dr) (gs:=gs) hr N.fl;refine u5 (k:=k) r X.sz X.wd rfl hp (row:=row) ⟨d,h0,hr,by show(0:Int)<=b.k;lia,λs hs=>(gI hs).elim,N.fl,λp hp=>(gI hp).elim,rfl,(by decide:0<63),(by decide:0<63),λx=>by have:(b.fl x).length<=b.k:=N.fn x;show(b.fl x).length<99998;lia⟩ N.ok.bl (λa=>(e a aH aH).2) (λa dr gs=>⟨_,by rw[(e a dr gs).1];rfl⟩) λa dr gs g' h' f l=>?_;rw[(e a dr gs).1]at f;exact q _ g' _ h' f<|.P b k0 k1 row a dr gs N d rfl rfl
theorem qp(hs:m.slots=[s])(hb:m.brk=aH):m.dI c = .aE:=by unfold Mo.dI;rw[hb,if_neg (by decide),if_neg (λz=>by rw[hs]at z;cases z.1)]
theorem Je(hs:m.slots=[])(hb:m.brk=aH)(ha:m.ah<c.rs.length):m.dI c = .aE:=by unfold Mo.dI;rw[hb,if_neg (by decide),if_neg (λz=>by have:=z.2;lia)]
theorem AN(hb:m.brk=aB):m.dI c ≠ .aE:=by unfold Mo.dI;rw[if_pos hb];exact λz=>by cases z
theorem AO(hs:m.slots=[])(hb:m.brk=aH)(ha:m.dI c = .aE):m.ah<c.rs.length:=by
 unfold Mo.dI at ha;rw[hb,if_neg (by decide)]at ha;by_cases z:m.ah<c.rs.length
 .exact z
 .rw[if_pos ⟨hs,by lia⟩]at ha;cases ha
theorem Nm{m4:Mo}(X:Cx c last)(r:aK c g m4 h)(hs:m4.slots=[s])(q:R v h):(∃g4 m4,aK c g4 m4 h)/\WC (run pg (k+9) 15 [.ref (c.b+1),.ref (c.b+11)]) h λ_ h5=>R v h5:=
 ⟨⟨g,m4,r⟩,u4 r (.inl (by rw[X.sz,hs];exact vk _)) q⟩
theorem aNv{b:Bs}{a:Nat}{gs:Bool}{st:Hs}{len:Int}{f:AV}(hr:c.room=b.sd.mem.length)(hf:dU b.sd r=aA f):Mo.take { b.F r a dr gs len T with nw:=T } c.room (b.sl r a dr gs st fi<|aA T) []=({ Mo.ur { b.F r a dr gs len T with nw:=T } c.room (b.sl r a dr gs st fi<|aA T) []with brk:=aB }:Mo).cut (b.sl r a dr gs st fi<|aA T).tk:=by unfold Mo.take;rw[Bw hr,hf]
theorem IG(X:Cx c last)(J:Jv c last n all m)(nl:n<last)(r:aK c g m h)(hh:m.dI c = .aE)(q:∀v g' m' h',aK c g' m' h'->Jv c last (n+1) all m'->R v h'):WC (run pg (k+10) 120 [.ref c.b]) h R:=by
 refine aOs r hh λh1 j _=>?_;cases J with
 |E b u k1 N e l=>
  subst e;have L:b.sd.pc<c.rs.length:=AO (m:=b.E n) rfl rfl hh;have l:n+1=b.T:=by rcases l with z|z<;>omega
  rw[l]at q;have j:aK c g (b.E b.T) h1:=l▸j;refine Oj (k:=k+8) j X.wd (λs hs=>by cases hs) λnn D k2 _ _ _=>?_;have i:=j.keep k2;refine⟨g,_,i,λz=>absurd (Je (m:=b.E b.T) rfl rfl L) z,λ_=>?_⟩;refine yt (k:=k+7) i rfl λA d _=>⟨⟨g,_,d⟩,?_⟩;refine Ce (k:=k+8) d (λs hs=>(gI hs).elim) ⟨⟨g,_,d⟩,?_⟩;exact Yw (k:=k+2) X N (by omega) L d λv=>q _
 |P b u k1 row a dr gs N y e l=>subst l;subst e;obtain⟨t1,t,ht,I,U⟩:=um X.tb row;refine Oj (k:=k+8) j X.wd (λs hs=>by cases hs;rfl) λnn D k2 _ _ _=>?_;have i:=j.keep k2;refine⟨g,_,i,λz=>absurd (qp (s:=b.s0 row a dr gs) rfl rfl) z,λ_=>?_⟩;refine yt (k:=k+7) i rfl λA d _=>⟨⟨g,_,d⟩,?_⟩;have d:aK c g { b.P row a dr gs with nw:=b.T+1 } A:=d;refine aLq (k:=k+3) d rfl (by show b.T<b.T+1;omega) rfl (aLp N.rm) ht rfl (by decide:0<63) λZ K _=>?_;rw[aLu N.rm U,I]at K;exact Nm X K rfl<|q _ _ _ _ K<|.S b u k1 row a dr gs N y rfl (by omega)
 |S b u k1 row a dr gs N y e l=>
  subst e;have j:aK c g (b.S row a dr gs (bX c.tb row)<|n+1) h1:=j;refine Oj (k:=k+8) j X.wd (λs hs=>by cases hs;rfl) λnn D k2 _ _ _=>?_;have i:=j.keep k2;refine⟨g,_,i,λz=>absurd (qp (s:=b.sl row a dr gs (aA<|b.T+1) aD aD) rfl rfl) z,λ_=>?_⟩;by_cases hd:n+1<b.T+1+bX c.tb row
  .have M:decide (b.T+1+bX c.tb row<=n+1)=aH:=decide_eq_false (by omega);refine yt (k:=k+7) i (by unfold rZ;show List.map _ (LF _ [_])=_;rw[Ql (by show¬decide (b.T+1+bX c.tb row<=n+1)=aB;rw[M];decide)];rfl) λA d _=>⟨⟨g,_,d⟩,?_⟩;have V:({ b.S row a dr gs (bX c.tb row) (n+1)with wk:=(b.S row a dr gs (bX c.tb row)<|n+1).wk.filter λp=>!decide (p.2.2<=(b.S row a dr gs (bX c.tb row)<|n+1).nw) }:Mo)=b.S row a dr gs (bX c.tb row) (n+1):=by show(⟨_,_,_,_,_,_,LF (λp:Int×Int×Int=>!decide (p.2.2<=n+1)) [((b.k:Int),row.fH,b.T+1+bX c.tb row)],_,_,_,_,_,_,_⟩:Mo)=_;rw[vo (by show(!decide (b.T+1+bX c.tb row<=n+1))=aB;rw[M];rfl)];rfl
   rw[V]at d;refine Ce (k:=k+8) d (λs hs _=>by rw[List.mem_singleton.mp hs];exact⟨_,rfl⟩) ?_;exact Nm X d rfl<|q _ _ _ _ d<|.S b u k1 row a dr gs N y rfl (by omega)
  .have hn:n+1=b.T+1+bX c.tb row:=by omega
   rw[hn]at i;refine x6 i rfl (by rw[hB.2.1];rfl) (vk _) JY ?_ rfl ?_ N.rm λg3 A d _=>⟨⟨g3,_,d⟩,?_⟩
   .rw[jq];intro w hw;obtain⟨x,_,rfl⟩:=List.mem_map.mp hw;exact wH N.ok.bw
   .intro o O e;rw[hB.2.2.2.1]at O;rw[hB.2.1]at e;obtain⟨x,_,rfl⟩:=List.mem_map.mp O;have:=N.fl x _ e;omega
   have d:aK c g3 (b.F row a dr gs (bX c.tb row)<|b.T+1+bX c.tb row) A:=by rw[<- x8 N.fl];exact d
   refine Ce d (λs hs _=>by rw[List.mem_singleton.mp hs];exact⟨_,rfl⟩) ?_;exact Nm X d rfl<|q _ _ _ _ d<|.F b u k1 row a dr gs N y (by rw[hn]) hn
 |F b u k1 row a dr gs N y e l=>
  subst l;subst e;have t1:=(um X.tb row).1;have hr:=X.Nq row (cM y);have W:=N.Jq X (by omega);have pn:=N.pn;have j:aK c g { b.F row a dr gs (bX c.tb row) (b.T+1+bX c.tb row+1)with nw:=b.T+1+bX c.tb row+1 } h1:=j;refine aNy j X.wd rfl (aOj X N hr W) λnn g2 D i _ _ _=>?_;cases hf:dU b.sd row with
  |some f=>
   have ev:=N.ou X (by omega) y;rw[hf,vC (by omega),vC (by omega),vC (by omega)]at ev;have ev:all=b.cA++[pI b.k row b.sd u k1 (.int b.T) (.int<|b.T+1) (.int<|b.T+1+bX c.tb row) (.int<|b.T+1+bX c.tb row+1)]:=ev;have Y:=Bz (a:=a) (dr:=dr) (gs:=gs) (r:=row) (t2:=b.T+1) (fi:=aA (b.T+1+bX c.tb row)) (of:=aA (b.T+1+bX c.tb row+1)) N.hs N.rm;rw[show pI b.k row b.sd u k1 (.int b.T) (.int<|b.T+1) (.int<|b.T+1+bX c.tb row) (.int<|b.T+1+bX c.tb row+1)=_ from Y.symm]at ev;have I:=aNv (a:=a) (dr:=dr) (gs:=gs) (st:=aA (b.T+1)) (fi:=aA (b.T+1+bX c.tb row)) (len:=bX c.tb row) (T:=b.T+1+bX c.tb row+1) N.rm hf;have i:aK c g2 (Mo.take { b.F row a dr gs (bX c.tb row) (b.T+1+bX c.tb row+1)with nw:=b.T+1+bX c.tb row+1 } c.room (b.sl row a dr gs (aA<|b.T+1) (aA<|b.T+1+bX c.tb row)<|aA<|b.T+1+bX c.tb row+1) []) D:=i;rw[I]at i;refine⟨g2,_,i,λ_=>q _ _ _ _ i (.B rfl rfl ?_ rfl ev.symm (λx Q=>?_) ?_),λz=>?_⟩
   .rw[ev,eU,pn];rfl
   .rw[ev]at Q;rcases List.mem_append.mp Q with z|z
    .exact N.pl x z
    .rw[List.mem_singleton.mp z];exact⟨Nx (hB.2.2.2.1▸sv),_,_,_,_,_,_,_,_,_,rfl⟩
   .rw[ev,eU,pn];show b.k+1<=900;omega
   .exact absurd z<|AN rfl
  |none=>
   have G:=N.next (a:=a) (dr:=dr) (gs:=gs) X y hf (by omega);have i:aK c g2 (Mo.take { b.F row a dr gs (bX c.tb row) (b.T+1+bX c.tb row+1)with nw:=b.T+1+bX c.tb row+1 } c.room (b.sl row a dr gs (aA<|b.T+1) (aA<|b.T+1+bX c.tb row)<|aA<|b.T+1+bX c.tb row+1) []) D:=i;rw[aNw N.rm hf]at i;revert G i
   have H:∀x,b.T+1+bX c.tb row+1=(b.nx row (b.T+1+bX c.tb row+1) x).T:=λx=>rfl;generalize ((b.sl row a dr gs (aA<|b.T+1) (aA<|b.T+1+bX c.tb row)<|aA<|b.T+1+bX c.tb row+1).lt c.room).eZ=x;have H:=H x;generalize b.nx row (b.T+1+bX c.tb row+1) x=C at H ⊢;intro G i;rw[H]at q i;refine⟨g2,_,i,λz=>q _ _ _ _ i (.E C _ _ G rfl<|.inr ?_),λz=>?_⟩
   .have:=λw=>z (Je (m:=C.E C.T) rfl rfl w);have:¬C.sd.pc<c.rs.length:=this;omega
   .refine yt i rfl λA d _=>⟨⟨g2,_,d⟩,?_⟩;refine Ce d (λs hs=>(gI hs).elim) ⟨⟨g2,_,d⟩,?_⟩;exact Yw X G (by omega) (AO (m:=C.E C.T) rfl rfl z) d λv=>q _
 |B hb=>exact absurd hh<|AN hb
end
section
variable {k:Nat}{g:Gh}{all:Ht}{n:Int}
def Ji(x:AV):Prop:=∃a b c d e t1 t2 t3,x = .tup [a,b,c,d,e,.tup [t1,t2,t3,.aE]]
theorem E8(ho:s.of=aD):Ji (s.lt room).eZ:=by obtain⟨a,tk,pc,row,bU,ws,ch,dr,src,jF,put,st,fi,of⟩:=s;cases ho;exact⟨_,_,_,_,_,_,_,_,rfl⟩
structure Fin(c:Cf)(m:Mo)(all:Ht):Prop where
 ev:all=m.cA++m.slots.map λs=>(s.lt c.room).eZ
 gn:∀x∈m.cA,Pl aB 3 x/\zo x
 ins:∀x∈m.slots.map (λs=>(s.lt c.room).eZ),Pl aB 3 x/\Ji x
 tk:m.eL=all.length
 th:m.hG=0
 ln:all.length<=900
theorem Jv.fin(X:Cx c last)(J:Jv c last n all m)(he:n=last\/m.dI c ≠ .aE):Fin c m all:=by
 have one:∀{b:Bs}{k0 k1:List (aN×AV)}{s:Sl},Rn c last b k0 k1 all->m.slots=[s]->m.cA=b.cA->m.eL=b.k+1->m.hG=0->s.bU.length<=1000->s.of=aD->all=b.cA++[(s.lt c.room).eZ]->Fin c m all:=λ{b k0 k1 s} N e1 e2 e3 e4 hn ho ev=>by
  have kb:=N.kb;have pn:=N.pn;refine⟨by rw[e1,e2];exact ev,e2▸N.pl,λx hx=>?_,?_,e4,?_⟩
  .rw[e1]at hx;rw[List.mem_singleton.mp hx];exact⟨Nx hn,E8 ho⟩
  .rw[e3,ev,eU,pn];rfl
  .rw[ev,eU,pn];show b.k+1<=900;omega
 cases J with
 |E b k0 k1 N e hT=>
  subst e;have kb:=N.kb;have pn:=N.pn;have ev:all=b.cA:=by
   have fin:(c.rs.length:Int)<=b.sd.pc->all=b.cA:=λz=>by rw[N.ev,Lr (.inr (by omega)) N.ok.pc];exact kL _
   rcases he with z|z
   .rcases hT with w|w
    .rw[N.ev,yn (by omega),kL]
    .exact fin w
   .refine fin ?_;have:=λw=>z (Je rfl rfl w);have:¬b.sd.pc<c.rs.length:=this;omega
  refine⟨ev.trans (kL _).symm,N.pl,λx hx=>(gI hx).elim,?_,rfl,?_⟩
  .rw[ev,pn];rfl
  .rw[ev];omega
 |P b k0 k1 r a dr gs N er e hT=>subst e;have hl:n=last:=he.resolve_right λz=>z (qp rfl rfl);have t1:=(um X.tb r).1;refine one N rfl rfl rfl rfl sv rfl ?_;rw[N.ou X (by omega) er,jj (by omega),jj (by omega),jj (by omega),yn (by omega),aKs N.hs]
 |S b k0 k1 r a dr gs N er e hT=>subst e;have hl:n=last:=he.resolve_right λz=>z (qp rfl rfl);refine one N rfl rfl rfl rfl (hB.2.2.2.1▸sv) rfl ?_;rw[N.ou X (by omega) er,vC (by omega),jj (by omega),jj (by omega),yn (by omega),Bz N.hs N.rm];rfl
 |F b k0 k1 r a dr gs N er e hT=>subst e;have hl:n=last:=he.resolve_right λz=>z (qp rfl rfl);have t1:=(um X.tb r).1;refine one N rfl rfl rfl rfl (hB.2.2.2.1▸sv) rfl ?_;rw[N.ou X (by omega) er,vC (by omega),vC (by omega),jj (by omega),yn (by omega),Bz N.hs N.rm];rfl
 |B hb hs ht h0 hl pl sn=>exact⟨by rw[hs,hl];exact(kL _).symm,hl▸pl,λx hx=>by rw[hs]at hx;exact(gI hx).elim,ht,h0,sn⟩
def Rj(c:Cf)(last n:Int)(all:Ht)(h:AH):Prop:=∃g m,aK c g m h/\Jv c last n all m
def Rf(c:Cf)(all:Ht)(h:AH):Prop:=∃g m,aK c g m h/\Fin c m all
theorem aK.o0(r:aK c g m h):h.ob c.b=aA (.ins 20 [("window",.ref (c.b+1)),("ledger",.ref (c.b+11))]):=r.at 0
theorem AX(z:m.dI c ≠ .aE):fO (m.dI c)=aH:=by
 unfold Mo.dI at z ⊢;split
 .rfl
 .split
  .rfl
  .rename_i a b;rw[if_neg a,if_neg b]at z;exact absurd rfl z
theorem aOv(X:Cx c last)(h0:0<=last)(J:Rj c last 0 all h)(q:∀v h',Rf c all h'->R v h'):WC (run pg (k+11) 121 [.ref c.b,.int last]) h R:=by
 refine aT rfl rfl<|WB.of ?_;with_reducible refine xM ?_
 refine vG (λi Z h'=>Z=[aA (.ref c.b),aA (.int last),aA (.int i)]/\Rj c last i all h'/\i<=last) 120 (λi Z h' y=>by have:=X.ls;lia) ?_ FU 0 _ _ (by rw[eA];decide) ⟨rfl,J,h0⟩;rintro i Z h' ⟨rfl,⟨g,m,r,j⟩,e⟩
 refine jN _<|aF.dc (λh1=>?_) λh1=>?_
 .refine aC.of r.o0<|zr r ?_;by_cases z:m.dI c = .aE
  .rw[z];exact fW _<|aC.of r.o0<|IG X j h1 r z λv g2 a f b d=>⟨rfl,⟨g2,a,b,d⟩,‹_›⟩
  .show if fO (m.dI c)=aB then _ else _
   rw[AX z];exact q _ _ ⟨g,m,r,j.fin X (.inr z)⟩
 .exact q _ _ ⟨g,m,r,j.fin X (.inl (by lia))⟩
end
section
variable {k:Nat}{g:Gh}{all:Ht}{n:Int}
theorem aOb(r:aK c g m h)(q:∀h',Kp h h'->h'.ob h.nx=aA (.lst aB m.cA)->h.nx<h'.nx->R (.ref h.nx) h'):WC (run pg (k+1) 122 [.ref c.b]) h R:=
 aT rfl rfl (aC.of r.o0<|aC.of (r.at 11)<|WC.of<|uy (bO<|r.at 12)<|q _ Kp.refl.new bC<|cN _)
theorem WU(r:aK c g m h)(q:R (.tup [.int m.eL,.int m.cA.length,.int m.hG]) h):WC (run pg (k+1) 127 [.ref c.b]) h R:=
 aT rfl rfl (aC.of r.o0<|aC.of (r.at 1)<|aC.of r.o0<|aC.of (r.at 11)<|WC.of<|fR (bO<|r.at 12)<|aC.of r.o0<|aC.of (r.at 1) q)
theorem F1(r:aK c g m h)(q:∀h',Kp h h'->h'.ob h.nx=aA (.lst aB<|m.slots.map λs=>(s.lt c.room).eZ)->h.nx<h'.nx->R (.ref h.nx) h'):WC (run pg (k+2) 123 [.ref c.b]) h R:=by
 have sn:=r.W.sn;have big:=kX;refine aT rfl rfl<|WC.of<|bo<|mS<|aC.of r.o0<|aC.of (r.at 1)<|nK r.jW.1 ?_;refine Gz (λj a b h'=>h'=h/\(∃v0,b=[v0])/\a=((m.slots.take j).map λs=>(s.lt c.room).eZ)) (by rw[aW,eA];lia) ⟨rfl,⟨_,rfl⟩,rfl⟩ (λ_ _ _ _ y=>y.1▸r.jW.1) (λj x a b h' d y=>?_)<|λa b h' y=>?_
 .obtain⟨rfl,⟨v0,rfl⟩,rfl⟩:=y;obtain⟨s,hr,rfl⟩:=mO d;have e:m.slots.take (j+1)=m.slots.take j++[s]:=by rw[tH,hr];rfl
  refine bc<|cF _<|aC.of (r.cK<|cM hr)<|Nw (r.cK<|cM hr) ⟨?_,rfl,⟨_,rfl⟩,?_⟩
  .have f:(m.slots.take j).length<=m.slots.length:=by rw[lB];lia
   rw[aW];lia
  .rw[e,iM];rfl
 .obtain⟨rfl,⟨v0,rfl⟩,rfl⟩:=y;rw[aW,tI];exact q _ Kp.refl.new bC<|cN _
def gB:AV->Bool
 |.tup [_,_,_,_,_,.tup [_,_,_,t]]=>!fO t
 |_=>aH
theorem x4(h1:∀x∈xs,zo x)(h2:∀y∈ys,Ji y):(xs++ys).filter gB=xs:=by
 have f:xs.filter gB=xs:=List.filter_eq_self.mpr λx g=>by obtain⟨a,b,c,d,e,t1,h,t3,n,rfl⟩:=h1 x g;rfl
 have i:ys.filter gB=[]:=List.filter_eq_nil_iff.mpr λy j=>by obtain⟨a,b,c,d,e,t1,h,t3,rfl⟩:=h2 y j;exact fX
 rw[vL,f,i,kL]
theorem XD:iC (xs++ys) (aA (xs.length:Int)) aD=ys:=by unfold iC;rw[HT.ax,HT.Bo,eU,vt (oP ..),List.drop_left];exact vq (by lia)
noncomputable abbrev BP:aR:=bL (bL<|bL<|bL<|bL<|bL<|bL<|bL<|bL<|bL Vk)
theorem L0{nd:Nat}{v0 v1 v3 v6 v7 v10 v11 v12:Yo}(Rw:nc h nr c.rs)(lr:nr<h.nx)(od:h.ob nd=aA (.lst aB<|gY ps))(ld:nd<h.nx)(ht:ei c.tb)(hl:ps.length<=45)(hp:∀p∈ps,c.rs[p.2.pc.toNat]?=aA p.1/\p.2.ok)(F:Rf c (mH c.tb last 0 1 [] [] ps) h)
  (q:∀h',R (.bl aB) h'):dY (run pg<|k+10) BP [v0,v1,aA (.ref nr),v3,aA (.ref nd),aA (.tup<|c.tb.map dX),v6,v7,aA (.ref c.b),aA (.int last),v10,v11,v12] h (λ_ h1=>R .aE h1) R (λ_ _=>False) λ_ _=>False:=by
 obtain⟨g,m,r,F⟩:=F;have ln:=F.ln;have big:=kX;refine K9 (k:=k+7) Rw lr od ld ht hl hp λh1 n1 k1 _ l1 o1=>?_;have r1:=r.keep k1;revert o1 F ln
 generalize mH c.tb last 0 1 [] [] ps=all;intro F ln o1;refine WC.of<|JT<|mS<|nK o1 ?_;refine Wx (n:=n1) (bb:=aB) (xs:=all) (λj ys Z h'=>h'=h1/\(∃v0,Z=[v0])/\ys=(all.take j).filter gB) (by rw[eA];omega) ⟨rfl,⟨_,rfl⟩,rfl⟩ (λ_ _ _ _ y=>y.1▸o1) (λj x ys Z h' hx y=>?_)<|λys Z h' y=>?_
 .obtain⟨rfl,⟨v0,rfl⟩,rfl⟩:=y;have et:all.take (j+1)=all.take j++[x]:=by rw[tH,hx];rfl
  have hm:=cM hx;rw[F.ev]at hm;rcases List.mem_append.mp hm with z|z
  .obtain⟨_,a,b,c,d,e,t1,t2,t3,n,rfl⟩:=F.gn x z;have G:∀{Z:aG}{v:Yo}{x:AV},Z=[v]->gB x=aB->all.take (j+1)=all.take j++[x]->((all.take j).filter gB).length<sizeLine/\h'=h'/\(∃v0,Z=[v0])/\(all.take j).filter gB++[x]=(all.take<|j+1).filter gB:=λ{Z v x} e1 e2 et=>⟨?_,rfl,⟨v,e1⟩,?_⟩
   .refine bc<|jN _ ?_;exact G rfl rfl et
   .have h1:((all.take j).filter gB).length<=(all.take j).length:=rM ..;have h2:(all.take j).length<=all.length:=by rw[lB];omega
    omega
   .rw[et,vL,vo e2];rfl
  .obtain⟨_,a,b,c,d,e,t1,t2,t3,rfl⟩:=F.ins x z;have G:∀{Z:aG}{v:Yo}{x:AV},Z=[v]->gB x=aH->all.take (j+1)=all.take j++[x]->h'=h'/\(∃v0,Z=[v0])/\(all.take j).filter gB=(all.take<|j+1).filter gB:=λ{Z v x} e1 e2 et=>⟨rfl,⟨v,e1⟩,by rw[et,vL,Ql (by rw[e2];exact fX)];exact(kL _).symm⟩;refine bc<|jN _ ?_;exact G rfl rfl et
 .obtain⟨rfl,⟨v0,rfl⟩,rfl⟩:=y;rw[tI,show all.filter gB=m.cA by rw[F.ev];exact x4 (λx hx=>(F.gn x hx).2) λx hx=>(F.ins x hx).2];have k2:Kp h' (h'.new<|.lst aB m.cA):=Kp.refl.new;have o2:(h'.new<|.lst aB m.cA).ob h'.nx=aA (.lst aB m.cA):=bC;have l2:h'.nx<(h'.new<|.lst aB m.cA).nx:=cN _;have o1':=k2.get l1 o1;have l1':n1<(h'.new<|.lst aB m.cA).nx:=kC l1;have r2:=r1.keep k2;generalize h'.new (.lst aB m.cA)=h2 at k2 o2 l2 o1' l1' r2 ⊢;generalize h'.nx=n2 at o2 l2 ⊢;have sl:m.cA.length<=900:=by have:=congrArg Qu F.ev;rw[eU]at this;omega
  refine aC.of r2.o0<|aOb (k:=k+9) r2 λh3 k3 o3 l3=>?_;have r3:=r2.keep k3;refine Uv (n:=3) (k:=k+5) o3 (k3.get l2 o2) (λx hx=>(F.gn x hx).1) (by omega) ?_;refine aC.of r3.o0<|F1 (k:=k+8) r3 λh4 k4 o4 l4=>?_;have r4:=r3.keep k4;have o2':=(k3.trans k4).get l2 o2;have o1'':=(k3.trans k4).get l1' o1';refine bp<|WC.of<|fR (bO o2')<|WC.of<|uz o1'' ?_;rw[F.ev,XD];have k5:Kp h4 (h4.new<|.lst aB<|m.slots.map λs=>(s.lt c.room).eZ):=Kp.refl.new;refine Uv (n:=3) (k:=k+5) (k5.get l4 o4) bC (λx hx=>(F.ins x hx).1) (by rw[aW];have:=r.W.sn;omega) ?_;have r5:=r4.keep k5;refine aC.of r5.o0<|WU (k:=k+9) r5<|WC.of<|fR (bO<|k5.get (bD l1' (k3.trans k4).nx) o1'')<|WC.of<|fR (bO<|k5.get (bD l2 (k3.trans k4).nx) o2') ?_;rw[F.tk,F.th];exact Uw 1 (k:=k+8) (ag (Rr rfl)<|gA sO<|gA sO<|gA sO ig)<|q _
end
section
variable {k:Nat}{g:Gh}{all:Ht}{n:Int}
theorem aCe:∃ms:Hx,iC (ns.map AV.int) (aA 8) (aA 63)=ms.map AV.int/\ms.length<=55:=by
 refine⟨(ns.drop<|HT.cC ns.length 0<|aA 8).take (HT.cC ns.length ns.length (aA 63)-HT.cC ns.length 0 (aA 8)),?_,?_⟩
 .unfold iC;rw[aW,Ra,Qz]
 .rw[show(aA 8:Hs)=aA ((8:Nat):Int) from rfl,show(aA 63:Hs)=aA ((63:Nat):Int) from rfl,HT.ax,HT.ax,lB];refine cD (MH _ _) ?_;rcases Rt 8 ns.length with h|h
  .rw[vt h];exact MJ (MH 63 _) 8
  .rw[Ru h];exact cD (MJ (MI 63 _) _) (by rw[MK];exact gX _)
theorem O8{sd:Sd}(X:Cx c last)(h0:0<=last)(so:sd.ok)(rm:c.room=sd.mem.length)(ml:sd.mem.length<=80)(s0:sd.pc=0):Jv c last 0 (mH c.tb last 0 1 [] []<|iJ c.rs 45 sd) (sk sd):=
 .E ⟨0,1,sd,λ_=>[],[],[],[]⟩ [] [] ⟨so,rm,ml,⟨λ_=>rfl,λ_=>rfl⟩,λ_ _ e=>(by cases e),λ_ _ e=>(by cases e),λ_=>aU _,aU _,aU _,rfl,gX _,λx a=>(gI a).elim,vk _,rfl⟩ rfl (.inl rfl)
end
theorem Rf.lo{c:Cf}{all:Ht}{h:AH}(F:Rf c all h)(p:Nat×bJ)(hp:p∈c.lo):p.1<h.nx/\h.ob p.1=aA p.2:=by obtain⟨g,m,r,_⟩:=F;obtain⟨a,b,G⟩:=r.G;have z:=G.lo p hp;exact⟨bD z.2.2.1 r.bx,z.2.2.2⟩
theorem keeps:Keeps pg 24 57:=by
 have big:sizeLine=16777216:=nR;refine Keeps.of λns hns=>WC.we (aT rfl rfl ?_);have e0:(h0 ns).ob 0=aA (.lst aH<|ns.map AV.int):=rfl;have z0:0<(h0 ns).nx:=ML;generalize h0 ns=h at e0 z0 ⊢;refine tU (k:=22) (by decide) e0 λc0=>?_;obtain⟨ms,em,lm⟩:=aCe (ns:=ns);refine bp<|WC.of<|uz e0 ?_;rw[em];have k1:Kp h (h.new<|.lst aB<|ms.map AV.int):=Kp.refl.new;refine aCf (k:=19) bC (cN _) (by omega) λh2 nr rs k2 lr Rw rl=>?_;have k2:=k1.trans k2;have e2:=k2.get z0 e0;refine tU (k:=22) (by decide) e2 λc1=>tU (k:=22) (by decide) e2 λc2=>aLs (k:=21) λh3 bx mem k3 bw bl mw m0 ml=>?_;refine aBx (k:=20) (s:=⟨0,bx,mem⟩) ⟨k3.get lr Rw.1,Rw.2⟩ (bD lr k3.nx) ⟨vk _,bl,bw,mw⟩ (by omega) λh4 nd nx k4 ld od=>?_;have e4:=((k2.trans k3).trans k4).get z0 e0;refine tU (k:=22) (by decide) e4 λc4=>aNp (k:=21) λh5 tb k5 tok=>?_;have e5:=k5.get (bD z0 ((k2.trans k3).trans k4).nx) e4;have z5:=bD z0 (((k2.trans k3).trans k4).trans k5).nx;have orr:=((k3.trans k4).trans k5).get lr Rw.1;have lr5:=bD lr ((k3.trans k4).trans k5).nx;have od5:=k5.get ld od;have ld5:=bD ld k5.nx;refine tU (k:=22) (by decide) e5 λc5=>BQ (k:=19) e5 hns λh6 gu Sg k6 Gg Lg=>?_;have e6:=k6.get z5 e5;have z6:=bD z5 k6.nx;refine tU (k:=22) (by decide) e6 λc6=>BQ (k:=19) e6 hns λh7 nv Sn k7 Gn Ln=>?_;have e7:=k7.get z6 e6;have z7:=bD z6 k7.nx;have k57:=k6.trans k7;refine tU (k:=22) (by decide) e7 λc3=>?_;have G:nU ⟨h7.nx,rs,1,1+c3%8,tb,gu,nv,(mem.length:Int),[(nr,.lst aB (rs.map aI.av)),(nd,.lst aB (gY<|iJ rs 45 ⟨0,bx,mem⟩))]⟩ 10 Sg Sn h7:=by
  refine⟨Gg.kp (gX _) λj hj=>k7.ob j (Lg j hj).2,Gn.kp (gX _) λ_ _=>rfl,λj hj hj'=>lC _ (bD (Lg j hj).2 (Ln j hj').1),λj hj=>bD (Lg j hj).2 k7.nx,λj hj=>(Ln j hj).2,λp hp=>?_⟩;have low:∀{x:Nat}{o:bJ},x<h5.nx->h5.ob x=aA o->x∉Sg/\x∉Sn/\x<h7.nx/\h7.ob x=aA o:=λ{x o} hx ho=>⟨λz=>lC _ (bD hx (Lg x z).1),λz=>lC _ (bD (bD hx k6.nx) (Ln x z).1),bD hx k57.nx,k57.get hx ho⟩;rcases List.mem_cons.mp hp with rfl|hp
  .exact low lr5 orr
  .rw[List.mem_singleton.mp hp];exact low ld5 od5
 refine O0 (k:=20) (sd:=⟨0,bx,mem⟩) rfl (k57.get lr5 orr) (bD lr5 k57.nx) G λg8 h8 r8 k8=>⟨rfl,?_⟩;have e8:=k8.get z7 e7;refine tU (k:=22) (by decide) e8 λc7=>tU (k:=22) (by decide) e8 λc7'=>?_;have so:(⟨0,bx,mem⟩:Sd).ok:=⟨vk _,bl,bw,mw⟩;have X:Cx ⟨h7.nx,rs,1,1+c3%8,tb,gu,nv,(mem.length:Int),[(nr,.lst aB (rs.map aI.av)),(nd,.lst aB (gY<|iJ rs 45 ⟨0,bx,mem⟩))]⟩ (c7%121):=⟨Rw.2,tok,rfl,by show 1<=1+c3%8;omega,by omega⟩;have J:=O8 (sd:=⟨0,bx,mem⟩) X (by omega) so rfl ml rfl;generalize hc:(⟨h7.nx,rs,1,1+c3%8,tb,gu,nv,(mem.length:Int),[(nr,.lst aB (rs.map aI.av)),(nd,.lst aB (gY<|iJ rs 45 ⟨0,bx,mem⟩))]⟩:Cf)=c at X J r8;have ecb:h7.nx=c.b:=by rw[<- hc]
 have ers:c.rs=rs:=by rw[<- hc]
 have etb:c.tb=tb:=by rw[<- hc]
 have elo:c.lo=[(nr,.lst aB (rs.map aI.av)),(nd,.lst aB (gY<|iJ rs 45 ⟨0,bx,mem⟩))]:=by rw[<- hc]
 clear hc;rw[ecb];subst ers;subst etb;have fin:∀{h9:AH}{v10:Yo}{R:AV->AH->Prop},Rf c (mH c.tb (c7%121) 0 1 [] []<|iJ c.rs 45 ⟨0,bx,mem⟩) h9->(∀h',R (.bl aB) h')->dY (run pg 23) BP [aA (.ref 0),aA (.bl<|!decide (c0%3=1)),aA (.ref nr),aA (Sd.av ⟨0,bx,mem⟩),aA (.ref nd),aA (.tup<|c.tb.map dX),aA (.ref gu),aA (.ref nv),aA (.ref c.b),aA (.int<|c7%121),v10,aD,aD] h9 (λ_ h1=>R .aE h1) R (λ_ _=>False) λ_ _=>False:=λ{h9 v10 R} F q=>by have lo:=F.lo;rw[elo]at lo;have l1:=lo (nr,_) (kB ..);have l2:=lo (nd,_) (lT _<|List.mem_singleton.mpr rfl);exact L0 (k:=13) (c:=c) ⟨l1.2,Rw.2⟩ l1.1 l2.2 l2.1 tok EJ (EK Rw.2 so) F q
 refine aF.dc (λhc=>?_) λhc=>?_
 .refine aC.of r8.o0<|aOv (k:=12) X (by omega) ⟨g8,_,r8,J⟩ λv h9 F=>?_;exact fin F λ_=>rfl
 .refine WB.of<|lR<|vd ⟨ue (by omega) (by omega),?_⟩;refine Ii (λi Z h'=>(∃v10,Z=[aA (.ref 0),aA (.bl<|!decide (c0%3=1)),aA (.ref nr),aA (Sd.av ⟨0,bx,mem⟩),aA (.ref nd),aA (.tup<|c.tb.map dX),aA (.ref gu),aA (.ref nv),aA (.ref c.b),aA (.int<|c7%121),v10,aD,aD])/\∃g m n,aK c g m h'/\Jv c (c7%121) n (mH c.tb (c7%121) 0 1 [] []<|iJ c.rs 45 ⟨0,bx,mem⟩) m/\(n=i\/m.dI c ≠ .aE)) (by rw[eA];omega) ⟨⟨_,rfl⟩,g8,_,0,r8,J,.inl rfl⟩ ?_ ?_
  .rintro i Z h' hi ⟨⟨v10,rfl⟩,g,m,n,r,j,hn⟩
   refine jY _<|fW _<|aC.of r.o0<|zr (k:=21) r ?_;by_cases z:m.dI c = .aE
   .rw[z];have hn:=hn.resolve_right λw=>w z;subst hn;refine aC.of r.o0<|IG (k:=13) X j (by omega) r z λv g2 m2 h2 r2 j2=>?_;exact⟨⟨_,rfl⟩,g2,m2,_,r2,j2,.inl rfl⟩
   .refine aF.f (b:=fO (m.dI c)) (AX z) ?_;exact⟨⟨_,rfl⟩,g,m,n,r,j,.inr z⟩
  .rintro Z h' ⟨⟨v10,rfl⟩,g,m,n,r,j,hn⟩
   exact fin ⟨g,m,r,j.fin X (hn.imp_left λe=>by omega)⟩ λ_=>rfl
def fG:Hy:=[21,90,97,104,111,118,125,133,140,147,154,161,168,175,182,189,196,203,210,217,803,810,817,852,859,866,873,880,887,894,901,908,915,922,1018,1025,1032,1039,1046,1053,1060,1067,1074,1079,1084,1091,1098,1105,1112,1119,1126,1131,1145,1152,1159,1164,1171,1176,231,238,245,266,273,280,287,294,315,335,342,349,369,376,383,403,410,417,436,443,462,469,476,496,503,510,529,534,541,546,553,558,579,586,593,598,605,626,631,638,645,652,657,664,671,676,681,686,707,714,721,728,749,756,763,770,777,784,789,831,838,943,950,957,964,969,976,983,990,997,1004]
def cs:Yq:=[(5,248),(6,297),(7,318),(8,352),(9,386),(10,420),(11,446),(12,479),(13,513),(14,561),(15,608),(16,689),(17,731),(18,792),(19,841),(20,1007)]
theorem Af{α:Type}{x:Str}{v:α}(h:([]:List (Str×α)).lookup x=aA v):False:=by cases h
theorem aa{α:Type}{x k:Str}{v u:α}{r:List (Str×α)}(h:((k,u)::r).lookup x=aA v):(x=k/\v=u)\/r.lookup x=aA v:=by
 rw[iX]at h;split at h
 .rename_i q;exact .inl ⟨eq_of_beq q,(eF h).symm⟩
 .exact .inr h
theorem aVu{α:Type}{x:Nat}{v:α}(h:([]:List (Nat×α)).lookup x=aA v):False:=by cases h
theorem aVt{α:Type}{x k:Nat}{v u:α}{r:List (Nat×α)}(h:((k,u)::r).lookup x=aA v):(x=k/\v=u)\/r.lookup x=aA v:=by
 rw[iX]at h;split at h
 .rename_i q;exact .inl ⟨eq_of_beq q,(eF h).symm⟩
 .exact .inr h
theorem Ke{α β:Type} [BEq α] {p:β->Bool}{k:α}{v:β}:∀{l:List (α×β)},l.lookup k=aA v->p v=aB->(l.filter λe=>p e.2).lookup k=aA v
 |[],h,_=>by cases h
 | (a,b)::l,h,hp=>by
  rw[iX]at h;by_cases e:(k==a)=aB
  .rw[e]at h;cases h;rw[vo (p:=λe:α×β=>p e.2) (a:=(a,v)) hp,iX,e]
  .rw[Bool.not_eq_true]at e;rw[e]at h;by_cases hb:p b=aB
   .rw[vo (p:=λe:α×β=>p e.2) (a:=(a,b)) hb,iX,e];exact Ke h hp
   .rw[Ql (p:=λe:α×β=>p e.2) (a:=(a,b)) hb];exact Ke h hp
theorem M6{α:Type}{x:Str×Nat}{v:α}(h:([]:List ((Str×Nat)×α)).lookup x=aA v):False:=by cases h
theorem Kf{α:Type}{x y:Str}{m:Nat}{v u:α}{r:List ((Str×Nat)×α)}(h:(((y,m),u)::r).lookup (x,n)=aA v):(x=y/\n=m/\v=u)\/r.lookup (x,n)=aA v:=by
 rw[iX]at h;split at h
 .rename_i q;have q:=eq_of_beq q;cases q;exact .inl ⟨rfl,rfl,(eF h).symm⟩
 .exact .inr h
theorem all_mk{l:Sj}{w:bR}{K:bI}{h:bH}{mg:Str->Hz}{fa:Addr} (X:K.In h) (G:h.Ns iZ mg) (hfa:mg "law"=aA (.ref fa)) {fds:List eT} (D:jA K He fG fds) (lb:∀v,bindArgs (fds.getD 57 default) ⟨[v],[]⟩=pure [(("_law_script":Str),v)]) (oN:sy K pr fG=aB) (oF:DH K pr cs=aB) (oM:DJ K pr fG cs=aB) (oK:DI K pr fG cs=aB)
  {IA:Tok}{IB:Tok}{aNn:Tok}{aNm:Tok}{Iq:Addr}{aMc aMd aMe aMf aMg aMh aMi aMj aMk aMl t10_WAYS t11_WAYS:Tok}{XS:Yu}{R6:Nat}{aLn:Yr}{zM:Addr}{Lh:Obj}{aNo:Tok}
  (Px:vN K iZ "Guesser"=aA (aA<|.ref 297))(Fx:Binds K (fds.getD 67 default) ["self","first"] [cq aH])(Fw:Binds K (fds.getD 70 default) ["self","many","begin"] [vP 1 IA])(Fy:Binds K (fds.getD 73 default) ["self","many","long"] [vP 4 IB])(Gd:Ek K (.ref 297) "__getattribute__"=aA (aA<|.builtin "type.__getattribute__"))(Gb:Sv K 297 (.type "type")=aB)(Fz:So K (.ref 297) (.type "type") "__init__"=aA (.val<|.ref 266))(Ps:vN K iZ "BITS"=aA (aA<|.int 64 aNn))(Pq:vN K iZ "BEYOND"=aA (aA<|.int 18446744073709551616 aNm))(Pw:vN K iZ "WAYS"=aA (aA<|.ref Iq))(Jy:K.lookup Iq=aA ⟨.type "tuple",XS,.seq #[nQ "sum" aMc,nQ "less" aMd,nQ "times" aMe,nQ "share" aMf,nQ "rest" aMg,nQ "both" aMh,nQ "some" aMi,nQ "odd" aMj,nQ "up" aMk,nQ "down" aMl,nQ "below" t10_WAYS,nQ "same" t11_WAYS] R6,aLn⟩)(Pu:vN K iZ "GROUPS"=aA (aA<|.ref zM))(Jx:K.lookup zM=aA Lh)(Hl:Ec Sa (λ_=>aA Lh) zM (([("times",1),("share",2),("rest",2),("load",3),("store",3),("jump",4),("go",4),("fault",4)]:Yh).map λp=>(p.1,rP p.2))=aB)(Lv:Eb (λ_=>aA Lh) zM=(([("times",1),("share",2),("rest",2),("load",3),("store",3),("jump",4),("go",4),("fault",4)]:Yh).map λp=>(p.1,rP p.2)).map λp=>(Ta l.prog w).hash p.1)(Pt:vN K iZ "GREATEST_COUNT"=aA (aA<|.int 3 aNo)) :
  ∃fd:eT,(∀(s:aJ) (v:Value),ju s fd ⟨[v],[]⟩ [("_law_script",v)])/\∀base:bH,K.In base->base.Ns iZ mg->iP l.prog w K mg base (kQ l.prog w) (2*24+2) fa fd ["_law_script"] (Nz K):=by
 have e:=hfa.symm.trans (DK X G D oN 57 _ rfl);cases e;have O:Fo l.prog w pr ⟨K,λkvs a=>(kvs=([("times",1),("share",2),("rest",2),("load",3),("store",3),("jump",4),("go",4),("fault",4)]:Yh)/\a=zM)\/False,λi=>cs.lookup i⟩ mg (λi=>fG.getD i 0) (λi=>fds.getD i default):=by
  refine⟨λi d hd=>?_,λi d hd=>?_,λx v hx=>?_,λx hx=>?_,λkvs a ht=>?_,λf cs hx=>?_,λm dp hx c i hi=>?_,λx n c i dv hx=>?_,λy cs hx=>?_,λx m i hx=>?_⟩
  .exact jA.get D i d hd
  .exact DK X G D oN i d hd
  .rcases aa hx with⟨rfl,rfl⟩|hx
   .exact⟨_,.int 64,vM X G Ps,⟨_,rfl⟩,λ_ _=>.int _⟩
   rcases aa hx with⟨rfl,rfl⟩|hx
   .exact⟨_,.int 18446744073709551616,vM X G Pq,⟨_,rfl⟩,λ_ _=>.int _⟩
   rcases aa hx with⟨rfl,rfl⟩|hx
   .exact⟨_,.ref Iq,vM X G Pw,rfl,λ_ _=>.tup (ys:=[.str "sum",.str "less",.str "times",.str "share",.str "rest",.str "both",.str "some",.str "odd",.str "up",.str "down",.str "below",.str "same"]) (.inr ⟨_,_,_,Jy,rfl,rfl,(by decide:12<=sizeLine),(.cons ⟨_,rfl⟩<|.cons ⟨_,rfl⟩<|.cons ⟨_,rfl⟩<|.cons ⟨_,rfl⟩<|.cons ⟨_,rfl⟩<|.cons ⟨_,rfl⟩<|.cons ⟨_,rfl⟩<|.cons ⟨_,rfl⟩<|.cons ⟨_,rfl⟩<|.cons ⟨_,rfl⟩<|.cons ⟨_,rfl⟩<|.cons ⟨_,rfl⟩ .nil)⟩) (.cons (.str _)<|.cons (.str _)<|.cons (.str _)<|.cons (.str _)<|.cons (.str _)<|.cons (.str _)<|.cons (.str _)<|.cons (.str _)<|.cons (.str _)<|.cons (.str _)<|.cons (.str _)<|.cons (.str _) .nil)⟩
   rcases aa hx with⟨rfl,rfl⟩|hx
   .exact⟨_,.ref zM,vM X G Pu,rfl,λ_ _=>.lL (.inl ⟨rfl,rfl⟩)⟩
   rcases aa hx with⟨rfl,rfl⟩|hx
   .exact⟨_,.int 3,vM X G Pt,⟨_,rfl⟩,λ_ _=>.int _⟩
   exact(Af hx).elim
  .exact U2 X G oN x hx
  .rcases ht with⟨rfl,rfl⟩|ht
   .exact AM.K5 Jx Hl (by decide +kernel) Lv
   .exact ht.elim
  .exact T9 oF f cs hx
  .exact U1 D oM m dp hx c i hi
  .refine U0 X G D oK (λx n c i dv hx hv=>?_) x n c i dv hx;have hx:=Ke (p:=λv=>!v.2.2.isEmpty) hx (by cases dv with|nil=>exact absurd rfl hv|cons _ _=>rfl);replace hx:tG (x,n) [(("Paths",1),(10,73,[.int 4])),(("Last",0),(8,67,[.bl aH])),(("Counts",1),(9,70,[.int 1]))]=aA (c,i,dv):=hx
   rcases Kf hx with⟨rfl,rfl,e⟩|hx
   .cases e;exact⟨_,[vP 4 IB],[.int 4],rfl,Fy,(.cons ⟨_,rfl⟩ .nil),λ_ _=>(.cons (.int _) .nil)⟩
   rcases Kf hx with⟨rfl,rfl,e⟩|hx
   .cases e;exact⟨_,[cq aH],[.bl aH],rfl,Fx,(.cons rfl .nil),λ_ _=>(.cons (.bl _) .nil)⟩
   rcases Kf hx with⟨rfl,rfl,e⟩|hx
   .cases e;exact⟨_,[vP 1 IA],[.int 1],rfl,Fw,(.cons ⟨_,rfl⟩ .nil),λ_ _=>(.cons (.int _) .nil)⟩
   exact(M6 hx).elim
  .exact(Af hx).elim
  .obtain⟨r,h1,h2⟩:=Option.bind_eq_some_iff.mp hx;clear hx;rcases aa h1 with⟨rfl,rfl⟩|h1
   .rcases aa h2 with⟨rfl,rfl⟩|h2
    .exact⟨_,297,rfl,vM X G Px,(jA.get (f0:=default) D 61 _ rfl).fn.kp,Gd,Gb,Fz,rfl⟩
    exact(Af h2).elim
   exact(Af h1).elim
 have hk:Keeps pr.ir 24 57:=by rw[F8];exact keeps
 exact⟨_,λs v=>.of_eq (lb v),λbase _ _=>L4 (T:=⟨K,λkvs a=>(kvs=([("times",1),("share",2),("rest",2),("load",3),("store",3),("jump",4),("go",4),("fault",4)]:Yh)/\a=zM)\/False,λi=>cs.lookup i⟩) O (i:=57) rfl hk⟩
end AMx
open PySem PySem.W PyProof.Rows
theorem PySem.Challenge.cw_aheadmill_k36_window_of_one_holds : PySem.Challenge.rw_aheadmill_k36_window_of_one.Holds := by
 refine PySem.W.Fast.te0 ?_;k_fill
 refine AM.walk (k:=2*24+2) (x:="_law_script") (l:=MV) rfl rfl ⟨rfl,by decide,by decide⟩ (λw h Y=>W.kIn_of Y) ?F
 case F=>
  intro w mg fa h KX G hmg;refine' AMx.all_mk KX G hmg ?D ?lb ?oN ?oF ?oM ?oK ?Px ?Fx ?Fw ?Fy ?Gd ?Gb ?Fz ?Ps ?Pq ?Pw ?Jy ?Pu ?Jx ?Hl ?Lv ?Pt
  case D=>
   unfold AMx.He AMx.fG;repeat' first
    |exact AM.jA.nil
    | (apply AM.jA.one (dV:=.none);(case l=>k_is);(case c=>k_is);(case k=>k_is);(case b=>first|exact L2.Binds.all λus hl=>by obtain⟨v0,rfl⟩:=AM.Pc hl;rfl|exact L2.Binds.all λus hl=>by obtain⟨v0,v1,rfl⟩:=AM.uv hl;rfl|exact L2.Binds.all λus hl=>by obtain⟨v0,v1,v2,rfl⟩:=AM.Pd hl;rfl|exact L2.Binds.all λus hl=>by obtain⟨v0,v1,v2,v3,rfl⟩:=AM.Pe hl;rfl|exact L2.Binds.all λus hl=>by obtain⟨v0,v1,v2,v3,v4,rfl⟩:=AM.IP hl;rfl|exact L2.Binds.all λus hl=>by obtain⟨v0,v1,v2,v3,v4,v5,rfl⟩:=AM.IQ hl;rfl);(case s=>exact⟨by kernel_rfl,by kernel_rfl,by kernel_rfl,by decide +kernel,by kernel_rfl,by decide +kernel,by decide +kernel⟩))
    | (apply AM.jA.one;(case l=>k_is);(case c=>k_is);(case k=>k_is);(case b=>apply AM.xu rfl;(case l=>k_is);(case hs=>rfl);(case h=>first|exact λus hl=>by rw[kL]at hl ⊢;obtain⟨v0,v1,rfl⟩:=AM.uv hl;exact⟨_,rfl,rfl⟩|exact λus hl=>by rw[kL]at hl ⊢;obtain⟨v0,v1,v2,rfl⟩:=AM.Pd hl;exact⟨_,rfl,rfl⟩|exact λus hl=>by rw[kL]at hl ⊢;obtain⟨v0,v1,v2,v3,rfl⟩:=AM.Pe hl;exact⟨_,rfl,rfl⟩|exact λus hl=>by rw[kL]at hl ⊢;obtain⟨v0,v1,v2,v3,v4,v5,v6,v7,rfl⟩:=AM.IS hl;exact⟨_,rfl,rfl⟩));(case s=>exact⟨by kernel_rfl,by kernel_rfl,by kernel_rfl,by decide +kernel,by kernel_rfl,by decide +kernel,by decide +kernel⟩))
  (case lb=>exact λv=>rfl)
  (case Fx=>apply AM.xu rfl;(case l=>k_is);(case hs=>rfl);(case h=>exact λus hl=>by have hl:us.length=1:=(by simpa using hl);obtain⟨v0,rfl⟩:=AM.Pc hl;exact⟨_,rfl,rfl⟩))
  (case Fw=>apply AM.xu rfl;(case l=>k_is);(case hs=>rfl);(case h=>exact λus hl=>by have hl:us.length=2:=(by simpa using hl);obtain⟨v0,v1,rfl⟩:=AM.uv hl;exact⟨_,rfl,rfl⟩))
  (case Fy=>apply AM.xu rfl;(case l=>k_is);(case hs=>rfl);(case h=>exact λus hl=>by have hl:us.length=2:=(by simpa using hl);obtain⟨v0,v1,rfl⟩:=AM.uv hl;exact⟨_,rfl,rfl⟩))
  (case Px|Gd|Gb|Fz|Ps|Pq|Pw|Jy|Pu|Jx=>k_is)
  (case Hl|Lv=>rfl)
  (case Pt=>k_is)
  (all_goals kernel_rfl)
