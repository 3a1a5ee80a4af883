import PyProof.Rows.All
import OpenK.KLine
import Wide.FinOn
import KE.KTops
import KE.KItem
import KE.KIsAll
import KE.KDictSum
import KE.KBits
import KE.KPairTest
import PySem.Challenge.RW_aheadmill_k39_started_at_once
set_option Elab.async false
set_option linter.all false
set_option maxRecDepth 100000
set_option exponentiation.threshold 2000
set_option maxHeartbeats 0
set_option compiler.extract_closed false
set_option bootstrap.genMatcherCode false
set_option genSizeOf false
local macro_rules | `(tactic| omega)=>`(tactic| lia)
section
set_option hygiene false
local macro_rules | `(command| $d:definition) => `(command| noncomputable $d:definition)
open PySem PySem.W PyProof.Rows
namespace PySem.W.Fast
abbrev _root_.Ft:=Option Int
abbrev _root_.Fv:=List Value
abbrev _root_.Fw:=List (Addr×Obj)
abbrev _root_.S1:=List Addr
abbrev _root_.WK:=List Int
abbrev _root_.WL:=List Str
abbrev _root_.WM:=Option Value
abbrev _root_.WN:=List Stmt
abbrev _root_.WO:=List Obj
abbrev _root_.WQ:=List (Nat×Nat)
abbrev _root_.WS:=Option Nat
abbrev _root_.WT:=List Nat
abbrev _root_.WU:=List (Option Nat)
abbrev _root_.WV:=Array Value
abbrev _root_.WW:=List (Str×Int)
abbrev _root_.WY:=List (Option Int)
abbrev _root_.Wh:=List (Str×Value)
abbrev _root_.Wi:=List (Str×Addr)
abbrev _root_.Wj:=Option (Option Value)
abbrev _root_.Wk:=List (Int×Int)
abbrev _root_.Wl:=List Env
abbrev _root_.Wm:=List (Nat×Addr)
abbrev _root_.Wn:=Array (Option Value)
abbrev _root_.Wo:=List (Nat×Bool)
abbrev _root_.Wq:=List Bool
abbrev _root_.Wr:=Option Addr
local macro_rules|`(!$x:ident)=>`($x=$x)|`(-$x:ident)=>`(λP=>Subtype.val (p:=λt=>t=qB 12 ($x P)) ⟨_,by dsimp only[zt,rj,gz,zS,wV,uJ,sO,rD,oY,oB,nB,mN,lV,lJ,kL,jX,jP,jD,iO,iD,hV,gW,gM,gH,fX,fT,fO,fA,eJ,qH,qh,bO,dI,dY,eM,eN,eS,List.set,List.cons_append,List.nil_append,qB,qe,qg]⟩)|`(!($n:num,$a,*))=>do let r←(a.getElems.zipIdx n.getNat).mapM λ(x,i)=>`(.str $x $(Lean.quote i));`(#[$r,*])
def Ju:WN->Nat->Stmt|a::_,0=>a|_::l,n+1=>Ju l n | [],_=>.Pass (.mk 0 0 0 0)
def zv:Stmt->WN | .FunctionDef _ _ b _ _ _ _ _ _ _=>b | .ClassDef _ _ _ b _ _ _ _ _ _ _=>b|_=>[]
def wW:Stmt->Arguments | .FunctionDef _ p _ _ _ _ _ _ _ _=>p|_=>default
def zx:Stmt->Scope | .FunctionDef _ _ _ _ _ _ s _ _ _=>s | .ClassDef _ _ _ _ _ _ s _ _ _ _=>s|_=>default
def qb(s:String)(x:Data):Obj:=⟨.type s,.none,x,#[]⟩
def qd(P:Params)(n:Str)(i:Nat)(v:Value):DictEntry:=⟨PySem.PyData.keyHash P n,.str n i,v⟩
def qr(P:Params)(n:Str)(i v:Nat):DictEntry:=qd P n i (.ref v)
def qS(n:Nat):Stmt:=Ju PySem.Challenge.pw_aheadmill_k39_started_at_once.main.body n
def qe:WO->WO|x::_::l=>x::qe l|l=>l
def qg:WO->WO|_::y::l=>y::qg l|_=>[]
def qB:Nat->WO->BT|0,_=>.nil|_+1,[]=>.nil|n+1,x::l=>.node x (qB n<|qe l) (qB n<|qg l)
def bU:String:=SL.s2766695959194262286x5
def Li:String:=SL.s5856160107412720595x4
def qz2:String:=SL.s658472552662922059x5
def gA:String:=SL.s14018661285674007319x4
def qz4:String:=SL.s7097527257260152453x26
def DO:String:=SL.s7174869446012820540x8
def nE:String:=SL.s6070975301684473832x10
def DP:String:=SL.s11030030927630378310x26
def qz8:String:=SL.s10062305145149207511x16
def lK:String:=SL.s17162191345867700912x4
def zX:String:=SL.s5946037652744460706x9
def zY:String:=SL.s4278001404047624695x13
def hW:String:=SL.s2742458400755230247x6
def zZ:String:=SL.s4209523147560561109x18
def DN:String:=SL.s14755015743595814543x17
def aGp:String:=SL.s10220274742760427390x26
def aGq:String:=SL.s4290257624100764138x5
def aGr:String:=SL.s4860613602091757760x24
def uQ:String:=SL.s11443829558043349243x14
def aGs:String:=SL.s6511155373996960695x17
def aGt:String:=SL.s12411053484034534018x21
def qn0:Str:="<module>"
def zT:Str:="/claim/cut.py"
def CY:Str:="__main__"
def fZ:Str:="__name__"
def nC:Str:="aheadmill.errors"
def mO:Str:="__doc__"
def qn6:Str:="__package__"
def qn7:Str:="__loader__"
def qn8:Str:="__spec__"
def qn9:Str:="__annotations__"
def aCv:Str:="__builtins__"
def aCx:Str:="__file__"
def aCz:Str:="__cached__"
def gN:Str:="MillError"
def gO:Str:="__module__"
def oZ:Str:="__qualname__"
def gP:Str:="__firstlineno__"
def gQ:Str:="__static_attributes__"
def rE:Str:="__weakref__"
def Ku:Str:="Nought"
def Kv:Str:="NoPlace"
def Ky:Str:="NoTicket"
def Kz:Str:="Busy"
def zU:Str:="aheadmill.words"
def Lb:Str:="Halted"
def aEi:Str:="BITS"
def aEk:Str:="BEYOND"
def aEm:Str:="WAYS"
def aEn:Str:="sum"
def aEo:Str:="less"
def DA:Str:="times"
def DB:Str:="share"
def DC:Str:="rest"
def aEp:Str:="both"
def aEq:Str:="some"
def aEr:Str:="odd"
def aEs:Str:="up"
def aEt:Str:="down"
def aEu:Str:="below"
def aEv:Str:="same"
def DD:Str:="one"
def aEw:Str:="other"
def uN:Str:="aheadmill.rows"
def aEx:Str:="GROUPS"
def aEy:Str:="load"
def aEz:Str:="store"
def aFa:Str:="jump"
def aFb:Str:="go"
def aFc:Str:="fault"
def aFd:Str:="row"
def aFe:Str:="words"
def aFf:Str:="at"
def cN:Str:="aheadmill.guessers"
def aFg:Str:="GREATEST_COUNT"
def aFh:Str:="held"
def aFi:Str:="window"
def aFj:Str:="ledger"
def aFk:Str:="put"
def rk:Str:="aheadmill.fetching"
def aFl:Str:="guesser"
def Ld:Str:="Tally"
def rn:Str:="__init__"
def aFm:Str:="likely"
def aFn:Str:="move"
def aCw:Str:="levels"
def sP:Str:="__dict__"
def fB:Str:="Guesser"
def ib:Str:="guess"
def ic:Str:="heed"
def aCy:Str:="learned"
def Kf:Str:="Always"
def Kg:Str:="Last"
def aDa:Str:="first"
def aDb:Str:="lately"
def Kh:Str:="Counts"
def Ki:Str:="tally"
def Kj:Str:="Paths"
def aDc:Str:="length"
def aDd:Str:="trail"
def Km:Str:="Listed"
def aDe:Str:="truths"
def Kn:Str:="Turned"
def sQ:Str:="aheadmill.benches"
def Ko:Str:="Chosen"
def uM:Str:="aheadmill.names"
def Kq:Str:="Benches"
def aDf:Str:="table"
def aDg:Str:="ticket"
def aDh:Str:="working"
def lW:Str:="aheadmill.shelf"
def Kr:Str:="Names"
def aDi:Str:="tickets"
def aDj:Str:="thrown"
def aDk:Str:="filled"
def Ks:Str:="Shelf"
def aDl:Str:="begun"
def aDm:Str:="kept"
def jY:Str:="aheadmill.slots"
def Kt:Str:="Slot"
def CZ:Str:="names"
def aDn:Str:="chosen"
def aDo:Str:="dares"
def aDp:Str:="deed"
def aDq:Str:="finished"
def aDr:Str:="off"
def aDs:Str:="source"
def aDt:Str:="started"
def Kw:Str:="Window"
def aDu:Str:="program"
def aDv:Str:="size"
def aDw:Str:="wide"
def aDx:Str:="ahead"
def aDy:Str:="benches"
def aDz:Str:="now"
def aEa:Str:="shelf"
def aEb:Str:="slots"
def pA:Str:="aheadmill.taking"
def zw:Str:="aheadmill.plain"
def La:Str:="Ledger"
def aEc:Str:="nerve"
def aEd:Str:="broken"
def aEe:Str:="gone"
def aEf:Str:="slips"
def aEg:Str:="state"
def aEh:Str:="storers"
def lX:Str:="aheadmill.mill"
def aEj:Str:="TABLE"
def ie:Str:="aheadmill.working"
def Lc:Str:="Mill"
def iE:Str:="law_aheadmill_k39_started_at_once"
variable (P:Params)
def tw18134464744952530324:Program:={ PySem.Challenge.rw_aheadmill_k39_started_at_once.row.toRowW.1 with main:={ PySem.Challenge.rw_aheadmill_k39_started_at_once.row.toRowW.1.main with body:=[(qS 0),(qS 2),(qS 3),(qS 4),(qS 5),(qS 6),(qS 7),(qS 9),(qS 10),(qS 11),(qS 12),(qS 13),(qS 14),(qS 15),(qS 16),(qS 17),(qS 19),(qS 20),(qS 21),(qS 22),(qS 23),(qS 24),(qS 25),(qS 26),(qS 27),(qS 29),(qS 30),(qS 31),(qS 32),(qS 33),(qS 35),(qS 36),(qS 37),(qS 38),(qS 39),(qS 40),(qS 41),(qS 42),(qS 43),(qS 44),(qS 46),(qS 48),(qS 50),(qS 52),(qS 53),(qS 55),(qS 56),(qS 57),(qS 58),(qS 60),(qS 61),(qS 62),(qS 63),(qS 64),(qS 65),(qS 67),(qS 68),(qS 69),(qS 70),(qS 71),(qS 72),(qS 74),(qS 75),(qS 76),(qS 78),(qS 79),(qS 80),(qS 81),(qS 82),(qS 83),(qS 84),(qS 85),(qS 86),(qS 87),(qS 88),(qS 89),(qS 90),(qS 91),(qS 92),(qS 93),(qS 94),(qS 95),(qS 96),(qS 97),(qS 98)] } }
theorem te18134464744952530324:!tw18134464744952530324:=rfl
def tw11881303599141558809:Params->Frag:=λ_=>[]
theorem te11881303599141558809:!tw11881303599141558809:=rfl
def sR:Stmt->Str | .FunctionDef n _ _ _ _ _ _ _ _ _=>n | .ClassDef n _ _ _ _ _ _ _ _ _ _=>n|_=>default
def ig:Stmt->Pos | .FunctionDef _ _ _ _ _ _ _ _ _ p=>p|_=>.mk 0 0 0 0
def zV(s:Stmt):WL:=((zx s).names.filter λx=>x.2 == .local||x.2 == .cell).map λx=>x.1
def DJ:WL->Nat->Fv | [],_=>[] | x::l,n=>.str x n::DJ l (n+1)
def Lg(s:Stmt)(i:Nat):Obj:=qb bU (.seq (DJ (zV s) i).toArray 0)
def iP(c j:Nat):Stmt:=Ju (zv<|qS c) j
def Le(c j:Nat):Str:=sR (qS c) ++ .ofString "."++sR (iP c j)
def qR(P:Params)(s i v:Nat):DictEntry:=qr P (sR<|qS s) i v
def qQ(P:Params)(c j i v:Nat):DictEntry:=qr P (sR<|iP c j) i v
def qW(a b c:List DictEntry):Array DictEntry:=(a++b++c).toArray
def qV(P:Params)(c:Nat):Nat->WQ->List DictEntry|_,[]=>[] | j,(i,a)::l=>qQ P c j i a::qV P c (j+1) l
def qY(c:Nat):Nat->WQ->WQ|_,[]=>[] | j,(_,a)::l=>((ig<|iP c j).line,a-1)::qY c (j+1) l
def Jv:WQ:=[(579,278),(587,285),(596,292),(605,299),(612,306)]
def Jw:WQ:=[(924,541),(930,546),(941,553),(947,558),(954,565),(960,570)]
def Jx:WQ:=[(991,591),(1002,598),(1011,605),(1017,610),(1028,617)]
def Jy:WQ:=[(1058,638),(1064,643),(1074,650),(1086,657),(1096,664),(1102,669),(1112,676),(1120,683),(1126,688),(1132,693),(1138,698)]
def Jz:WQ:=[(1174,719),(1181,726),(1188,733),(1196,740)]
def Ka:WQ:=[(1242,761),(1249,768),(1258,775),(1267,782),(1277,789),(1286,796),(1292,801)]
def Kb:WQ:=[(1547,962),(1556,969),(1564,976),(1571,983),(1577,988),(1584,995),(1591,1002),(1598,1009),(1605,1016),(1615,1023)]
def qE(P:Params):List DictEntry:=[(qd P mO 166 .none),(qd P qn6 167 .none),(qd P qn7 168<|.builtin qz4),(qd P qn8 169 .none),(qr P qn9 170 6),(qr P aCv 171 4),(qd P aCx 173<|.str zT 172),(qd P aCz 174 .none),(qR P 0 193 21),(qR P 2 213 31),(qR P 3 229 44),(qR P 4 245 56),(qR P 5 261 68),(qR P 6 277 80),(qR P 7 293 92),(qd P aEi 297<|.int 64 296),(qd P aEk 299<|.int 18446744073709551616 298),(qr P aEm 312 95),(qR P 12 319 102),(qR P 13 327 109),(qR P 14 334 116),(qR P 15 342 123),(qR P 16 350 130),(qR P 17 359 137),(qr P aEx 386 138),(qR P 20 394 145),(qR P 21 402 152),(qR P 22 409 159),(qR P 23 417 166),(qR P 24 426 173),(qR P 25 437 180),(qR P 26 447 187),(qR P 27 459 194),(qR P 29 470 201),(qR P 30 479 208),(qR P 31 491 215),(qR P 32 499 222),(qR P 33 507 229),(qd P aFg 511<|.int 3 510),(qR P 36 560 260),(qR P 37 621 309),(qR P 38 645 330),(qR P 39 688 364),(qR P 40 732 398),(qR P 41 779 432),(qR P 42 812 458),(qR P 43 854 491),(qR P 44 902 525),(qR P 46 970 573),(qR P 48 1037 620),(qR P 50 1148 701),(qR P 52 1218 743),(qR P 53 1311 804),(qR P 55 1321 815),(qR P 56 1330 822),(qR P 57 1342 829),(qR P 58 1351 836),(qR P 60 1399 860),(qR P 61 1409 871),(qR P 62 1418 878),(qR P 63 1427 885),(qR P 64 1435 892),(qR P 65 1443 899),(qR P 67 1455 906),(qR P 68 1464 913),(qR P 69 1476 920),(qR P 70 1485 927),(qR P 71 1495 934),(qR P 72 1506 941),(qr P aEj 1519 947),(qR P 75 1625 1026),(qR P 76 1632 1037),(qR P 78 1642 1044),(qR P 79 1650 1051),(qR P 80 1659 1058),(qR P 81 1673 1065),(qR P 82 1686 1072),(qR P 83 1703 1079),(qR P 84 1717 1086),(qR P 85 1726 1093),(qR P 86 1732 1098),(qR P 87 1738 1103),(qR P 88 1749 1110),(qR P 89 1755 1115),(qR P 90 1765 1122),(qR P 91 1773 1129),(qR P 92 1782 1136),(qR P 93 1789 1143),(qR P 94 1799 1150),(qR P 95 1805 1155),(qR P 96 1822 1162),(qR P 97 1832 1169),(qR P 98 1850 1176)]
def qM(P:Params)(e:DictEntry)(n m:Nat):Obj:=qb gA (.dict (e::(qE P).take n).toArray m)
def qJ:WQ->Fv | []=>[] | (a,b)::l=>.int a 0 :: .int 0 0 :: .ref b::qJ l
def qK:Fv:=qJ [(1,20),(5,27),(7,40),(9,52),(11,64),(13,76),(15,88),(21,101),(23,108),(27,115),(29,122),(31,129),(33,136),(59,144),(70,151),(75,158),(77,165),(83,172),(89,179),(99,186),(110,193),(116,200),(121,207),(128,214),(133,221),(137,228),(143,235),(155,270),(172,319),(176,338),(188,372),(199,406),(214,440),(224,466),(235,499),(255,533),(289,583),(317,630),(388,711),(415,753),(471,814),(473,821),(475,828),(487,835),(492,842),(506,870),(513,877),(524,884),(530,891),(535,898),(538,905),(543,912),(551,919),(559,926),(563,933),(568,940),(585,953),(636,1036),(639,1043),(643,1050),(645,1057),(653,1064),(666,1071),(675,1078),(690,1085),(708,1092),(717,1097),(724,1102),(733,1109),(742,1114),(761,1121),(770,1128),(775,1135),(790,1142),(798,1149),(805,1154),(813,1161),(832,1168),(838,1175)]
def qI(n:Nat):Obj:=.mk .none .none (.fields (qK.take n).toArray) #[]
def Lh(a0:Str)(a1:Str)(a2:Stmt)(a3:Stmt):Obj:=(.mk .none .none (.func<|.mk a0 a1 (wW a2) (.stmts<|zv a2) (zx a3) 0 [] .none .none .none .none .none .none .none 0) #[])
def DK(a0:Str)(a1:Str)(a2:Stmt)(a3:Stmt)(a4:Str)(a5:Nat)(a6:Nat):Obj:=qb DO (.func<|.mk a0 a1 (wW a2) (.stmts<|zv a2) (zx a3) 3 [] .none .none .none (.str a4 a5) .none (.ref a6) .none 0)
def DL(a0:Str)(a1:Nat)(a2:Str)(a3:Int)(a4:Int)(a5:Nat)(a6:Int)(a7:Nat):Obj:=qb Li (.fields #[(.str a0 a1),(.str a2<|a1+1),(.str zT<|a1+2),(.int a3 0),(.int a4 0),(.int 0 0),(.int 0 0),(.int 3 0),(.ref a5),(.bool .true),(.int 181 0),(.ref<|a5+1),.none,(.ref<|a5+2),(.ref<|a5+3),(.ref<|a5+4),(.int a6 0),(.int a3 0),(.str zT a7)])
def zy(a0:Str)(a1:Nat)(a2:Str):Obj:=qb bU (.seq #[(.str a0 a1),(.str a2<|a1+1)] 0)
def DM(a0:Str)(a1:Nat)(a2:Str)(a3:Str):Obj:=qb bU (.seq #[(.str a0 a1),(.str a2<|a1+1),(.str a3<|a1+2)] 0)
def iF(a0:Str)(a1:Nat)(a2:Int)(a3:Nat)(a4:Int):Obj:=qb Li (.fields #[(.str a0 a1),(.str a0<|a1+1),(.str zT<|a1+2),(.int a2 0),(.int 0 0),(.int 0 0),(.int 0 0),(.int 0 0),(.ref a3),(.bool .false),(.int 181 0),(.ref<|a3+1),.none,.none,.none,.none,(.int a4 0),(.int a2 0),(.str zT<|a1+4)])
def iG(a0:Nat)(a1:Nat)(a2:Str)(a3:Nat):Obj:=(.mk (.type qz2) .none .plain #[(.some<|.ref a0),(.some<|.ref 3),(.some<|.ref a1),.none,(.some<|.str a2 a3),.none,(.some<|.ref 0)])
def iR:Obj:=qb DP (.fields #[(.builtin qz8),(.type lK)])
def iS(a0:Nat):Obj:=qb aGq (.fields #[(.ref a0),(.ref a0),(.ref a0)])
def iT(a0:Nat):Obj:=qb DP (.fields #[(.builtin aGr),(.ref a0)])
def aGm(a0:Str)(a1:Nat)(a2:Str)(a3:Int)(a4:Int)(a5:Nat)(a6:Int):Obj:=qb Li (.fields #[(.str a0 a1),(.str a2<|a1+1),(.str zT<|a1+2),(.int a3 0),(.int a4 0),(.int 0 0),(.int 0 0),(.int 3 0),(.ref a5),(.bool .true),(.int 181 0),(.ref<|a5+1),.none,.none,.none,(.ref<|a5+2),(.int a6 0),(.int a3 0),(.str zT<|a1+4)])
def sS(a0:Nat)(a1:Nat):Obj:=qb DN (.fields #[(.str rE a0),(.ref a1),(.builtin aGp),.none])
def uO(a0:Str)(a1:Nat)(a2:Nat)(a3:Nat):Obj:=(.mk (.type lK) .none (.cls<|.mk a0 [(.type hW)] [(.ref a1),(.type hW)] a2 a0 .true [] [] .false .none .false) #[.none,.none,(.some<|.str a0 a3),(.some<|.str a0<|a3+8),(.some<|.builtin uQ),(.some<|.bool .true)])
def uP(a0:Nat)(a1:Nat):Obj:=qb DN (.fields #[(.str sP a0),(.ref a1),(.builtin aGs),(.builtin aGt)])
def zW(a0:Str)(a1:Nat)(a2:Nat)(a3:Nat)(a4:Nat):Obj:=(.mk (.type lK) .none (.cls<|.mk a0 [(.ref 309)] [(.ref a1),(.ref 309),(.type hW)] a2 a0 .true [] [] .false .none .false) #[(.some<|.ref a3),.none,(.some<|.str a0 a4),(.some<|.str a0<|a4+8),(.some<|.builtin uQ),(.some<|.bool .true)])
def ij(P:Params)(a0:Nat)(a1:Str)(a2:Int)(a3:Nat):Obj:=qb gA (.dict #[(qd P gO a0<|.str nC 194),(qd P oZ (a0+2)<|.str a1<|a0+1),(qd P gP (a0+4)<|.int a2<|a0+3),(qd P gQ (a0+5)<|.ref a3)] 4)
def ik(P:Params)(a0:Nat)(a1:Str)(a2:Int)(a3:Nat)(a4:Nat)(a5:Str)(a6:Str)(a7:Nat)(a8:Nat):Obj:=qb gA (.dict #[(qd P gO a0<|.str cN 508),(qd P oZ (a0+2)<|.str a1<|a0+1),(qd P gP (a0+4)<|.int a2<|a0+3),(qd P rn a3<|.ref a4),(qd P a5 (a3+8)<|.ref<|a4+7),(qd P a6 a7<|.ref<|a4+14),(qd P gQ a8<|.ref<|a4+15)] 7)
def ip(a0:Int)(a1:Nat)(a2:Int)(a3:Int):Obj:=(.mk .none .none (.fields #[(.int a0 0),(.int 4 0),(.ref a1),(.int a2 0),(.int 4 0),(.ref<|a1+7),(.int a3 0),(.int 4 0),(.ref<|a1+14)]) #[])
def ro(P:Params)(a0:Nat)(a1:Int)(a2:Nat):Obj:=qb gA (.dict #[(qd P gO a0<|.str nC 194),(qd P gP (a0+4)<|.int a1<|a0+3),(qd P gQ (a0+5)<|.ref a2),(qd P mO (a0+6) .none)] 2)
def rp(a0:Str)(a1:Nat)(a2:Nat)(a3:Nat)(a4:Nat):Obj:=(.mk (.type lK) .none (.cls<|.mk a0 [(.ref 31)] [(.ref a1),(.ref 31),(.type nE),(.type zX),(.type zY),(.type hW)] a2 a0 .true [] [] .false .none .false) #[(.some<|.ref a3),.none,(.some<|.str a0 a4),(.some<|.str a0<|a4+8),(.some<|.builtin zZ),(.some<|.bool .true)])
def aGn(a0:Str)(a1:Stmt)(a2:Nat)(a3:Str)(a4:Nat):Obj:=qb DO (.func<|.mk rn a0 (wW a1) (.stmts<|zv a1) (zx a1) 3 [] (.ref a2) .none .none (.str a3 a4) .none (.ref<|a2+6) .none 0)
def rq(P:Params)(a0:Nat)(a1:Int)(a2:Nat)(a3:Nat)(a4:Nat)(a5:Nat):Obj:=qb gA (.dict #[(qd P gO a0<|.str cN 508),(qd P gP (a0+4)<|.int a1<|a0+3),(qd P rn a2<|.ref a3),(qd P ib (a2+8)<|.ref<|a3+7),(qd P ic a4<|.ref<|a3+14),(qd P gQ a5<|.ref<|a3+15),(qd P mO (a5+1) .none)] 2)
def se(a0:Int)(a1:Nat)(a2:Int):Obj:=qb bU (.seq #[(.int a0 a1),(.int a2<|a1+1)] 0)
def aGo(a0:Str)(a1:Nat)(a2:Str)(a3:Str)(a4:Str)(a5:Str)(a6:Str)(a7:Str)(a8:Str)(a9:Str)(a10:Str)(a11:Str):Obj:=qb bU (.seq #[(.str a0 a1),(.str a2<|a1+1),(.str a3<|a1+2),(.str a4<|a1+3),(.str a5<|a1+4),(.str a6<|a1+5),(.str a7<|a1+6),(.str a8<|a1+7),(.str a9<|a1+8),(.str a10<|a1+9),(.str a11<|a1+10)] 0)
def qU:WQ->Fv | []=>[] | (a,b)::l=>.int a 0 :: .int 4 0 :: .ref b::qU l
def qT(l:WQ):Obj:=.mk .none .none (.fields (qU l).toArray) #[]
def eM(a0:Obj)(a1:Str)(a2:Str)(a3:Stmt)(a4:Stmt)(a5:Nat)(a6:Int)(a7:Int)(a8:Nat)(a9:Int)(a10:Nat)(a11:Str)(a12:Nat):WO:=[qb bU (.seq #[] 0),(.mk .none .none (.fields #[]) #[]),a0,qb bU (.seq #[] 0),Lh a1 a2 a3 a4,DL a1 a5 a2 a6 a7 a8 a9 a10,DK a1 a2 a3 a4 a11 a12 (a8+5)]
def eN(a0:Str)(a1:Str)(a2:Stmt)(a3:Stmt)(a4:Nat)(a5:Int)(a6:Int)(a7:Nat)(a8:Int)(a9:Str)(a10:Nat):WO:=[qb bU (.seq #[] 0),(.mk .none .none (.fields #[]) #[]),Lh a0 a1 a2 a3,aGm a0 a4 a1 a5 a6 a7 a8,DK a0 a1 a2 a3 a9 a10 (a7+3)]
def eS(a0:Obj)(a1:Str)(a2:Stmt)(a3:Nat)(a4:Int)(a5:Int)(a6:Nat)(a7:Int)(a8:Nat)(a9:Str)(a10:Nat):WO:=[qb bU (.seq #[] 0),(.mk .none .none (.fields #[]) #[]),a0,qb bU (.seq #[] 0),Lh rn a1 a2 a2,DL rn a3 a1 a4 a5 a6 a7 a8,aGn a1 a2 (a6-1) a9 a10]
def qH(s i a:Nat)(m:Str)(k:Nat):WO:=eM (Lg (qS s)<|i+3) (sR<|qS s) (sR<|qS s) (qS s) (qS s) i (ig<|qS s).line (wW<|qS s).args.length a (i+3+(zV<|qS s).length:Nat) (i+4+(zV<|qS s).length) m k
def qh(s i a:Nat)(m:Str)(k:Nat):WO:=eN (sR<|qS s) (sR<|qS s) (qS s) (qS s) i (ig<|qS s).line (wW<|qS s).args.length a (i+3:Nat) m k
def bO(c j i a:Nat)(m:Str)(k:Nat):WO:=eM (Lg (iP c j)<|i+3) (sR<|iP c j) (Le c j) (iP c j) (iP c j) i (ig<|iP c j).line (wW<|iP c j).args.length a (i+3+(zV<|iP c j).length:Nat) (i+4+(zV<|iP c j).length) m k
def dI(c j i a:Nat)(m:Str)(k:Nat):WO:=eN (sR<|iP c j) (Le c j) (iP c j) (iP c j) i (ig<|iP c j).line (wW<|iP c j).args.length a (i+3:Nat) m k
def dY(c j i a:Nat)(m:Str)(k:Nat):WO:=eS (Lg (iP c j)<|i+3) (Le c j) (iP c j) i (ig<|iP c j).line (wW<|iP c j).args.length a (i+3+(zV<|iP c j).length:Nat) (i+4+(zV<|iP c j).length) m k
def eJ(P:Params):WO:=[boot_o_0 P,boot_o_1 P,boot_o_2 P,boot_o_3 P,boot_o_4 P,boot_o_5 P,boot_o_6 P,boot_o_7 P,boot_o_8 P,boot_o_9 P,boot_o_10 P,qb bU (.seq #[] 0),qI 0,iF qn0 182 1 11 185,iG 13 3 CY 164]
def fA(P:Params):WO:=((eJ P).set 3 (qM P (qd P fZ 165<|.str nC 194) 10 11)).set 12 (qI 6)++(qH 0 187 15 CY 164++([qb bU (.seq #[(.type nE)] 0),iR,ij P 203 gN 5 29,qb bU (.seq #[] 0),(.mk .none .none (.fields #[]) #[]),iF gN 198 5 25 201,iG 27 24 nC 194,qb bU (.seq #[] 0),qb gA (.dict #[(qd P gO 203<|.str nC 194),(qd P gP 207<|.int 5 206),(qr P gQ 208 29),(qr P rE 210 32),(qd P mO 211 .none)] 3),(.mk (.type lK) .none (.cls<|.mk gN [(.type nE)] [(.ref 31),(.type nE),(.type zX),(.type zY),(.type hW)] 30 gN .true [] [] .false .none .false) #[(.some<|.ref 22),.none,(.some<|.str gN 196),(.some<|.str gN 204),(.some<|.builtin zZ),(.some<|.bool .true)]),sS 209 31,iS 31,iT 31]))
def fO(P:Params):WO:=(((fA P).set 3 (qM P (qd P fZ 165<|.str nC 194) 11 12)).set 12 (qI 9)).set 31 ((.mk (.type lK) .none (.cls<|.mk gN [(.type nE)] [(.ref 31),(.type nE),(.type zX),(.type zY),(.type hW)] 30 gN .true [] [(.ref 44)] .false .none .false) #[(.some<|.ref 22),.none,(.some<|.str gN 196),(.some<|.str gN 204),(.some<|.builtin zZ),(.some<|.bool .true)]))++([qb bU (.seq #[(.ref 31)] 0),iR,ij P 221 Ku 7 42,qb bU (.seq #[] 0),(.mk .none .none (.fields #[]) #[]),iF Ku 216 7 38 219,iG 40 37 nC 194,qb bU (.seq #[] 0),ro P 221 7 42,rp Ku 44 43 35 214,iS 44,iT 44])
def fT(P:Params):WO:=(((fO P).set 3 (qM P (qd P fZ 165<|.str nC 194) 12 13)).set 12 (qI 12)).set 31 ((.mk (.type lK) .none (.cls<|.mk gN [(.type nE)] [(.ref 31),(.type nE),(.type zX),(.type zY),(.type hW)] 30 gN .true [] [(.ref 44),(.ref 56)] .false .none .false) #[(.some<|.ref 22),.none,(.some<|.str gN 196),(.some<|.str gN 204),(.some<|.builtin zZ),(.some<|.bool .true)]))++([qb bU (.seq #[(.ref 31)] 0),iR,ij P 237 Kv 9 54,qb bU (.seq #[] 0),(.mk .none .none (.fields #[]) #[]),iF Kv 232 9 50 235,iG 52 49 nC 194,qb bU (.seq #[] 0),ro P 237 9 54,rp Kv 56 55 47 230,iS 56,iT 56])
def fX(P:Params):WO:=(((fT P).set 3 (qM P (qd P fZ 165<|.str nC 194) 13 14)).set 12 (qI 15)).set 31 ((.mk (.type lK) .none (.cls<|.mk gN [(.type nE)] [(.ref 31),(.type nE),(.type zX),(.type zY),(.type hW)] 30 gN .true [] [(.ref 44),(.ref 56),(.ref 68)] .false .none .false) #[(.some<|.ref 22),.none,(.some<|.str gN 196),(.some<|.str gN 204),(.some<|.builtin zZ),(.some<|.bool .true)]))++([qb bU (.seq #[(.ref 31)] 0),iR,ij P 253 Ky 11 66,qb bU (.seq #[] 0),(.mk .none .none (.fields #[]) #[]),iF Ky 248 11 62 251,iG 64 61 nC 194,qb bU (.seq #[] 0),ro P 253 11 66,rp Ky 68 67 59 246,iS 68,iT 68])
def gH(P:Params):WO:=(((fX P).set 3 (qM P (qd P fZ 165<|.str nC 194) 14 15)).set 12 (qI 18)).set 31 ((.mk (.type lK) .none (.cls<|.mk gN [(.type nE)] [(.ref 31),(.type nE),(.type zX),(.type zY),(.type hW)] 30 gN .true [] [(.ref 44),(.ref 56),(.ref 68),(.ref 80)] .false .none .false) #[(.some<|.ref 22),.none,(.some<|.str gN 196),(.some<|.str gN 204),(.some<|.builtin zZ),(.some<|.bool .true)]))++([qb bU (.seq #[(.ref 31)] 0),iR,ij P 269 Kz 13 78,qb bU (.seq #[] 0),(.mk .none .none (.fields #[]) #[]),iF Kz 264 13 74 267,iG 76 73 nC 194,qb bU (.seq #[] 0),ro P 269 13 78,rp Kz 80 79 71 262,iS 80,iT 80])
def gM(P:Params):WO:=(((gH P).set 3 (qM P (qd P fZ 165<|.str zU 294) 22 23)).set 12 (qI 33)).set 31 ((.mk (.type lK) .none (.cls<|.mk gN [(.type nE)] [(.ref 31),(.type nE),(.type zX),(.type zY),(.type hW)] 30 gN .true [] [(.ref 44),(.ref 56),(.ref 68),(.ref 80),(.ref 92)] .false .none .false) #[(.some<|.ref 22),.none,(.some<|.str gN 196),(.some<|.str gN 204),(.some<|.builtin zZ),(.some<|.bool .true)]))++([qb bU (.seq #[(.ref 31)] 0),iR,ij P 285 Lb 15 90,qb bU (.seq #[] 0),(.mk .none .none (.fields #[]) #[]),iF Lb 280 15 86 283,iG 88 85 nC 194,qb bU (.seq #[] 0),ro P 285 15 90,rp Lb 92 91 83 278,iS 92,iT 92,qb bU (.seq (!(300,aEn,aEo,DA,DB,DC,aEp,aEq,aEr,aEs,aEt,aEu,aEv)) 0)]++(qH 12 313 96 zU 294++(qH 13 320 103 zU 294++(qH 14 328 110 zU 294++(qH 15 335 117 zU 294)))))
def gW(P:Params):WO:=((gM P).set 3 (qM P (qd P fZ 165<|.str uN 360) 31 32)).set 12 (qI 57)++(qH 16 343 124 zU 294++(qH 17 351 131 zU 294++([qb gA (.dict #[(qd P DA 362<|.int 1 363),(qd P DB 364<|.int 2 365),(qd P DC 366<|.int 2 367),(qd P aEy 368<|.int 3 369),(qd P aEz 370<|.int 3 371),(qd P aFa 372<|.int 4 373),(qd P aFb 374<|.int 4 375),(qd P aFc 376<|.int 4 377)] 8)]++(qH 20 387 139 uN 360++(qH 21 395 146 uN 360++(qH 22 403 153 uN 360++(qH 23 410 160 uN 360++(qH 24 418 167 uN 360++(qH 25 427 174 uN 360)))))))))
def hV(P:Params):WO:=((gW P).set 3 (qM P (qd P fZ 165<|.str cN 508) 39 40)).set 12 (qI 78)++(qH 26 438 181 uN 360++(qH 27 448 188 uN 360++(qH 29 462 195 rk 460++(qH 30 471 202 rk 460++(qH 31 480 209 rk 460++(qH 32 492 216 rk 460++(qH 33 500 223 rk 460)))))))
def iD(P:Params):WO:=((hV P).set 3 (qM P (qd P fZ 165<|.str cN 508) 40 41)).set 12 (qI 81)++([qb bU (.seq #[] 0),iR,ik P 519 Ld 143 532 243 aFm aFn 551 553,qb bU (.seq #[] 0),ip 145 242 148 151,iF Ld 514 143 233 517,iG 235 232 cN 508]++(bO 36 0 524 237 cN 508++(bO 36 1 533 244 cN 508++(bO 36 2 541 251 cN 508++([qb bU (.seq (!(552,aCw)) 0),qb gA (.dict #[(qd P gO 519<|.str cN 508),(qd P gP 523<|.int 143 522),(qQ P 36 0 532 243),(qQ P 36 1 540 250),(qQ P 36 2 551 257),(qr P gQ 553 258),(qr P sP 555 261),(qr P rE 557 262),(qd P mO 558 .none)] 4),uO Ld 260 259 512,uP 554 260,sS 556 260,iS 260,iT 260])))))
def iO(P:Params):WO:=((iD P).set 3 (qM P (qd P fZ 165<|.str cN 508) 41 42)).set 12 (qI 84)++([qb bU (.seq #[] 0),iR,qb gA (.dict (qW [(qd P gO 568<|.str cN 508),(qd P oZ 570<|.str fB 569),(qd P gP 572<|.int 155 571)] (qV P 37 0 Jv) [(qr P gQ 614 307)]) 9),qb bU (.seq #[] 0),(qT<|qY 37 0 Jv),iF fB 563 155 268 566,iG 270 267 cN 508]++(bO 37 0 573 272 cN 508++(bO 37 1 580 279 cN 508++(bO 37 2 588 286 cN 508++(bO 37 3 597 293 cN 508++(bO 37 4 606 300 cN 508++([qb bU (.seq (!(613,aCy)) 0),qb gA (.dict (qW [(qd P gO 568<|.str cN 508),(qd P gP 572<|.int 155 571)] (qV P 37 0 Jv) [(qr P gQ 614 307),(qr P sP 616 310),(qr P rE 618 311),(qd P mO 619 .none)]) 4),uO fB 309 308 561,uP 615 309,sS 617 309,iS 309,iT 309])))))))
def jD(P:Params):WO:=(((iO P).set 3 (qM P (qd P fZ 165<|.str cN 508) 42 43)).set 12 (qI 87)).set 309 ((.mk (.type lK) .none (.cls<|.mk fB [(.type hW)] [(.ref 309),(.type hW)] 308 fB .true [] [(.ref 330)] .false .none .false) #[.none,.none,(.some<|.str fB 561),(.some<|.str fB 569),(.some<|.builtin uQ),(.some<|.bool .true)]))++([qb bU (.seq #[(.ref 309)] 0),iR,qb gA (.dict #[(qd P gO 629<|.str cN 508),(qd P oZ 631<|.str Kf 630),(qd P gP 633<|.int 172 632),(qQ P 38 0 641 327),(qr P gQ 642 328)] 5),qb bU (.seq #[] 0),(qT [(174,326)]),iF Kf 624 172 317 627,iG 319 316 cN 508]++(bO 38 0 634 321 cN 508++([qb bU (.seq #[] 0),qb gA (.dict #[(qd P gO 629<|.str cN 508),(qd P gP 633<|.int 172 632),(qQ P 38 0 641 327),(qr P gQ 642 328),(qd P mO 643 .none)] 2),zW Kf 330 329 314 622,iS 330,iT 330])))
def jP(P:Params):WO:=(((jD P).set 3 (qM P (qd P fZ 165<|.str cN 508) 43 44)).set 12 (qI 90)).set 309 ((.mk (.type lK) .none (.cls<|.mk fB [(.type hW)] [(.ref 309),(.type hW)] 308 fB .true [] [(.ref 330),(.ref 364)] .false .none .false) #[.none,.none,(.some<|.str fB 561),(.some<|.str fB 569),(.some<|.builtin uQ),(.some<|.bool .true)]))++([qb bU (.seq #[(.ref 309)] 0),iR,ik P 653 Kg 176 665 347 ib ic 682 685,qb bU (.seq #[] 0),ip 178 346 183 186,iF Kg 648 176 336 651,iG 338 335 cN 508,qb bU (.seq #[(.bool .false)] 0)]++(dY 39 0 658 341 cN 508++(bO 39 1 666 348 cN 508++(bO 39 2 674 355 cN 508++([zy aDa 683 aDb,rq P 653 176 665 347 682 685,zW Kg 364 363 333 646,iS 364,iT 364])))))
def jX(P:Params):WO:=(((jP P).set 3 (qM P (qd P fZ 165<|.str cN 508) 44 45)).set 12 (qI 93)).set 309 ((.mk (.type lK) .none (.cls<|.mk fB [(.type hW)] [(.ref 309),(.type hW)] 308 fB .true [] [(.ref 330),(.ref 364),(.ref 398)] .false .none .false) #[.none,.none,(.some<|.str fB 561),(.some<|.str fB 569),(.some<|.builtin uQ),(.some<|.bool .true)]))++([qb bU (.seq #[(.ref 309)] 0),iR,ik P 696 Kh 188 710 381 ib ic 727 729,qb bU (.seq #[] 0),ip 190 380 194 197,iF Kh 691 188 370 694,iG 372 369 cN 508,qb bU (.seq #[(.int 1 701)] 0)]++(dY 40 0 702 375 cN 508++(bO 40 1 711 382 cN 508++(bO 40 2 719 389 cN 508++([qb bU (.seq (!(728,Ki)) 0),rq P 696 188 710 381 727 729,zW Kh 398 397 367 689,iS 398,iT 398])))))
def kL(P:Params):WO:=(((jX P).set 3 (qM P (qd P fZ 165<|.str cN 508) 45 46)).set 12 (qI 96)).set 309 ((.mk (.type lK) .none (.cls<|.mk fB [(.type hW)] [(.ref 309),(.type hW)] 308 fB .true [] [(.ref 330),(.ref 364),(.ref 398),(.ref 432)] .false .none .false) #[.none,.none,(.some<|.str fB 561),(.some<|.str fB 569),(.some<|.builtin uQ),(.some<|.bool .true)]))++([qb bU (.seq #[(.ref 309)] 0),iR,ik P 740 Kj 199 754 415 ib ic 772 776,qb bU (.seq #[] 0),ip 201 414 207 210,iF Kj 735 199 404 738,iG 406 403 cN 508,qb bU (.seq #[(.int 4 745)] 0)]++(dY 41 0 746 409 cN 508++(bO 41 1 755 416 cN 508++(bO 41 2 763 423 cN 508++([DM aDc 773 Ki aDd,rq P 740 199 754 415 772 776,zW Kj 432 431 401 733,iS 432,iT 432])))))
def lJ(P:Params):WO:=(((kL P).set 3 (qM P (qd P fZ 165<|.str cN 508) 46 47)).set 12 (qI 99)).set 309 ((.mk (.type lK) .none (.cls<|.mk fB [(.type hW)] [(.ref 309),(.type hW)] 308 fB .true [] [(.ref 330),(.ref 364),(.ref 398),(.ref 432),(.ref 458)] .false .none .false) #[.none,.none,(.some<|.str fB 561),(.some<|.str fB 569),(.some<|.builtin uQ),(.some<|.bool .true)]))++([qb bU (.seq #[(.ref 309)] 0),iR,qb gA (.dict #[(qd P gO 787<|.str cN 508),(qd P oZ 789<|.str Km 788),(qd P gP 791<|.int 214 790),(qQ P 42 0 799 448),(qQ P 42 1 807 455),(qr P gQ 809 456)] 6),qb bU (.seq #[] 0),(qT [(216,447),(220,454)]),iF Km 782 214 438 785,iG 440 437 cN 508]++(bO 42 0 792 442 cN 508++(bO 42 1 800 449 cN 508++([qb bU (.seq (!(808,aDe)) 0),qb gA (.dict #[(qd P gO 787<|.str cN 508),(qd P gP 791<|.int 214 790),(qQ P 42 0 799 448),(qQ P 42 1 807 455),(qr P gQ 809 456),(qd P mO 810 .none)] 2),zW Km 458 457 435 780,iS 458,iT 458]))))
def lV(P:Params):WO:=(((lJ P).set 3 (qM P (qd P fZ 165<|.str cN 508) 47 48)).set 12 (qI 102)).set 309 ((.mk (.type lK) .none (.cls<|.mk fB [(.type hW)] [(.ref 309),(.type hW)] 308 fB .true [] [(.ref 330),(.ref 364),(.ref 398),(.ref 432),(.ref 458),(.ref 491)] .false .none .false) #[.none,.none,(.some<|.str fB 561),(.some<|.str fB 569),(.some<|.builtin uQ),(.some<|.bool .true)]))++([qb bU (.seq #[(.ref 309)] 0),iR,ik P 820 Kn 224 832 474 ib ic 849 851,qb bU (.seq #[] 0),ip 226 473 230 233,iF Kn 815 224 464 818,iG 466 463 cN 508]++(bO 43 0 825 468 cN 508++(bO 43 1 833 475 cN 508++(bO 43 2 841 482 cN 508++([qb bU (.seq (!(850,DD)) 0),rq P 820 224 832 474 849 851,zW Kn 491 490 461 813,iS 491,iT 491])))))
def mN(P:Params):WO:=(((lV P).set 3 (qM P (qd P fZ 165<|.str sQ 903) 48 49)).set 12 (qI 105)).set 309 ((.mk (.type lK) .none (.cls<|.mk fB [(.type hW)] [(.ref 309),(.type hW)] 308 fB .true [] [(.ref 330),(.ref 364),(.ref 398),(.ref 432),(.ref 458),(.ref 491),(.ref 525)] .false .none .false) #[.none,.none,(.some<|.str fB 561),(.some<|.str fB 569),(.some<|.builtin uQ),(.some<|.bool .true)]))++([qb bU (.seq #[(.ref 309)] 0),iR,ik P 862 Ko 235 877 508 ib ic 895 899,qb bU (.seq #[] 0),ip 237 507 243 248,iF Ko 857 235 497 860,iG 499 496 cN 508,qb bU (.seq #[(.int 16 867)] 0)]++(dY 44 0 868 502 cN 508++(bO 44 1 878 509 cN 508++(bO 44 2 886 516 cN 508++([DM DD 896 aEw Ki,rq P 862 235 877 508 895 899,zW Ko 525 524 494 855,iS 525,iT 525])))))
def nB(P:Params):WO:=((mN P).set 3 (qM P (qd P fZ 165<|.str uM 971) 49 50)).set 12 (qI 108)++([qb bU (.seq #[] 0),iR,qb gA (.dict (qW [(qd P gO 912<|.str sQ 903),(qd P oZ 914<|.str Kq 913),(qd P gP 916<|.int 255 915)] (qV P 46 0 Jw) [(qr P gQ 963 571)]) 10),qb bU (.seq #[] 0),(qT<|qY 46 0 Jw),iF Kq 907 255 531 910,iG 533 530 sQ 903]++(bO 46 0 917 535 sQ 903++(dI 46 1 925 542 sQ 903++(bO 46 2 931 547 sQ 903++(dI 46 3 942 554 sQ 903++(bO 46 4 948 559 sQ 903++(dI 46 5 955 566 sQ 903++([zy aDf 961 aDh,qb gA (.dict (qW [(qd P gO 912<|.str sQ 903),(qd P gP 916<|.int 255 915)] (qV P 46 0 Jw) [(qr P gQ 963 571),(qr P sP 965 574),(qr P rE 967 575),(qd P mO 968 .none)]) 4),uO Kq 573 572 905,uP 964 573,sS 966 573,iS 573,iT 573]))))))))
def oB(P:Params):WO:=((nB P).set 3 (qM P (qd P fZ 165<|.str lW 1038) 50 51)).set 12 (qI 111)++([qb bU (.seq #[] 0),iR,qb gA (.dict (qW [(qd P gO 980<|.str uM 971),(qd P oZ 982<|.str Kr 981),(qd P gP 984<|.int 289 983)] (qV P 48 0 Jx) [(qr P gQ 1030 618)]) 9),qb bU (.seq #[] 0),(qT<|qY 48 0 Jx),iF Kr 975 289 581 978,iG 583 580 uM 971]++(bO 48 0 985 585 uM 971++(bO 48 1 992 592 uM 971++(bO 48 2 1003 599 uM 971++(dI 48 3 1012 606 uM 971++(bO 48 4 1018 611 uM 971++([qb bU (.seq (!(1029,aDk)) 0),qb gA (.dict (qW [(qd P gO 980<|.str uM 971),(qd P gP 984<|.int 289 983)] (qV P 48 0 Jx) [(qr P gQ 1030 618),(qr P sP 1032 621),(qr P rE 1034 622),(qd P mO 1035 .none)]) 4),uO Kr 620 619 973,uP 1031 620,sS 1033 620,iS 620,iT 620])))))))
def oY(P:Params):WO:=((oB P).set 3 (qM P (qd P fZ 165<|.str lW 1038) 51 52)).set 12 (qI 114)++([qb bU (.seq #[] 0),iR,qb gA (.dict (qW [(qd P gO 1047<|.str lW 1038),(qd P oZ 1049<|.str Ks 1048),(qd P gP 1051<|.int 317 1050)] (qV P 50 0 Jy) [(qr P gQ 1141 699)]) 15),qb bU (.seq #[] 0),(qT<|qY 50 0 Jy),iF Ks 1042 317 628 1045,iG 630 627 lW 1038]++(bO 50 0 1052 632 lW 1038++(dI 50 1 1059 639 lW 1038++(bO 50 2 1065 644 lW 1038++(bO 50 3 1075 651 lW 1038++(bO 50 4 1087 658 lW 1038++(dI 50 5 1097 665 lW 1038++(bO 50 6 1103 670 lW 1038++(bO 50 7 1113 677 lW 1038++(dI 50 8 1121 684 lW 1038++(dI 50 9 1127 689 lW 1038++(dI 50 10 1133 694 lW 1038++([zy aDl 1139 aDm,qb gA (.dict (qW [(qd P gO 1047<|.str lW 1038),(qd P gP 1051<|.int 317 1050)] (qV P 50 0 Jy) [(qr P gQ 1141 699),(qr P sP 1143 702),(qr P rE 1145 703),(qd P mO 1146 .none)]) 4),uO Ks 701 700 1040,uP 1142 701,sS 1144 701,iS 701,iT 701])))))))))))))
def rD(P:Params):WO:=((oY P).set 3 (qM P (qd P fZ 165<|.str jY 1149) 52 53)).set 12 (qI 117)++([qb bU (.seq #[] 0),iR,qb gA (.dict (qW [(qd P gO 1158<|.str jY 1149),(qd P oZ 1160<|.str Kt 1159),(qd P gP 1162<|.int 388 1161)] (qV P 52 0 Jz) [(qr P gQ 1211 741)]) 8),qb bU (.seq #[] 0),(qT<|qY 52 0 Jz),iF Kt 1153 388 709 1156,iG 711 708 jY 1149]++(bO 52 0 1163 713 jY 1149++(bO 52 1 1175 720 jY 1149++(bO 52 2 1182 727 jY 1149++(bO 52 3 1189 734 jY 1149++([qb bU (.seq (!(1197,aFf,aDn,aDo,aDp,aDq,aFh,CZ,aDr,aFk,aFd,aDs,aDt,aDg,aFe)) 0),qb gA (.dict (qW [(qd P gO 1158<|.str jY 1149),(qd P gP 1162<|.int 388 1161)] (qV P 52 0 Jz) [(qr P gQ 1211 741),(qr P sP 1213 744),(qr P rE 1215 745),(qd P mO 1216 .none)]) 4),uO Kt 743 742 1151,uP 1212 743,sS 1214 743,iS 743,iT 743]))))))
def sO(P:Params):WO:=((rD P).set 3 (qM P (qd P fZ 165<|.str jY 1149) 53 54)).set 12 (qI 120)++([qb bU (.seq #[] 0),iR,qb gA (.dict (qW [(qd P gO 1226<|.str jY 1149),(qd P oZ 1228<|.str Kw 1227),(qd P gP 1230<|.int 415 1229)] (qV P 53 0 Ka) [(qr P gQ 1304 802)]) 11),qb bU (.seq #[] 0),(qT<|qY 53 0 Ka),iF Kw 1221 415 751 1224,iG 753 750 jY 1149]++(bO 53 0 1231 755 jY 1149++(bO 53 1 1243 762 jY 1149++(bO 53 2 1250 769 jY 1149++(bO 53 3 1259 776 jY 1149++(bO 53 4 1268 783 jY 1149++(bO 53 5 1278 790 jY 1149++(dI 53 6 1287 797 jY 1149++([aGo aDx 1293 aDy CZ aDz aDu aEa aDv aEb aDj aDi aDw,qb gA (.dict (qW [(qd P gO 1226<|.str jY 1149),(qd P gP 1230<|.int 415 1229)] (qV P 53 0 Ka) [(qr P gQ 1304 802),(qr P sP 1306 805),(qr P rE 1308 806),(qd P mO 1309 .none)]) 4),uO Kw 804 803 1219,uP 1305 804,sS 1307 804,iS 804,iT 804])))))))))
def uJ(P:Params):WO:=((sO P).set 3 (qM P (qd P fZ 165<|.str pA 1352) 57 58)).set 12 (qI 132)++(qH 55 1314 809 zw 1312++(qH 56 1322 816 zw 1312++(qH 57 1331 823 zw 1312++(qH 58 1343 830 zw 1312))))
def wV(P:Params):WO:=((uJ P).set 3 (qM P (qd P fZ 165<|.str pA 1352) 62 63)).set 12 (qI 147)++([qb bU (.seq #[] 0),iR,qb gA (.dict #[(qd P gO 1361<|.str pA 1352),(qd P oZ 1363<|.str La 1362),(qd P gP 1365<|.int 492 1364),(qQ P 60 0 1375 850),(qQ P 60 1 1384 857),(qr P gQ 1392 858)] 6),qb bU (.seq #[] 0),(qT [(494,849),(503,856)]),iF La 1356 492 840 1359,iG 842 839 pA 1352]++(bO 60 0 1366 844 pA 1352++(bO 60 1 1376 851 pA 1352++([qb bU (.seq (!(1385,aEd,aEe,aFl,aEc,aEf,aEg,aEh)) 0),qb gA (.dict #[(qd P gO 1361<|.str pA 1352),(qd P gP 1365<|.int 492 1364),(qQ P 60 0 1375 850),(qQ P 60 1 1384 857),(qr P gQ 1392 858),(qr P sP 1394 861),(qr P rE 1396 862),(qd P mO 1397 .none)] 4),uO La 860 859 1354,uP 1393 860,sS 1395 860,iS 860,iT 860]++(qH 61 1400 865 pA 1352++(qH 62 1410 872 pA 1352++(qH 63 1419 879 pA 1352++(qH 64 1428 886 pA 1352))))))))
def zS(P:Params):WO:=((wV P).set 3 (qM P (qd P fZ 165<|.str lX 1507) 70 71)).set 12 (qI 168)++(qH 65 1436 893 pA 1352++(qH 67 1446 900 ie 1444++(qH 68 1456 907 ie 1444++(qH 69 1465 914 ie 1444++(qH 70 1477 921 ie 1444++(qH 71 1486 928 ie 1444++(qH 72 1496 935 ie 1444++([se 2 1509 1,se 1 1511 3,se 1 1513 6,se 1 1515 2,se 1 1517 1,qb bU (.seq #[(.ref 942),(.ref 943),(.ref 944),(.ref 945),(.ref 946)] 0)]))))))))
def gz(P:Params):WO:=((zS P).set 3 (qM P (qd P fZ 165<|.str lX 1507) 71 72)).set 12 (qI 171)++([qb bU (.seq #[] 0),iR,qb gA (.dict (qW [(qd P gO 1527<|.str lX 1507),(qd P oZ 1529<|.str Lc 1528),(qd P gP 1531<|.int 585 1530)] (qV P 75 0 Kb) [(qr P gQ 1618 1024)]) 14),qb bU (.seq #[] 0),(qT<|qY 75 0 Kb),iF Lc 1522 585 951 1525,iG 953 950 lX 1507,qb bU (.seq #[(.int 8 1532),(.int 2 1533),.none,.none,.none] 0)]++(dY 75 0 1534 956 lX 1507++(bO 75 1 1548 963 lX 1507++(bO 75 2 1557 970 lX 1507++(bO 75 3 1565 977 lX 1507++(dI 75 4 1572 984 lX 1507++(bO 75 5 1578 989 lX 1507++(bO 75 6 1585 996 lX 1507++(bO 75 7 1592 1003 lX 1507++(bO 75 8 1599 1010 lX 1507++(bO 75 9 1606 1017 lX 1507++([zy aFj 1616 aFi,qb gA (.dict (qW [(qd P gO 1527<|.str lX 1507),(qd P gP 1531<|.int 585 1530)] (qV P 75 0 Kb) [(qr P gQ 1618 1024),(qr P sP 1620 1027),(qr P rE 1622 1028),(qd P mO 1623 .none)]) 4),uO Lc 1026 1025 1520,uP 1619 1026,sS 1621 1026,iS 1026,iT 1026]))))))))))))
def rj(P:Params):WO:=((gz P).set 3 (qM P (qd P fZ 165<|.str iE 1633) 83 84)).set 12 (qI 207)++(qH 76 1626 1031 lX 1507++(qH 78 1635 1038 iE 1633++(qH 79 1643 1045 iE 1633++(qH 80 1651 1052 iE 1633++(qH 81 1660 1059 iE 1633++(qH 82 1674 1066 iE 1633++(qH 83 1687 1073 iE 1633++(qH 84 1704 1080 iE 1633++(qH 85 1718 1087 iE 1633++(qh 86 1727 1094 iE 1633++(qh 87 1733 1099 iE 1633++(qH 88 1739 1104 iE 1633))))))))))))
def zt(P:Params):WO:=((rj P).set 3 (qM P (qd P fZ 165<|.str iE 1633) 93 94)).set 12 (qI 237)++(qh 89 1750 1111 iE 1633++(qH 90 1756 1116 iE 1633++(qH 91 1766 1123 iE 1633++(qH 92 1774 1130 iE 1633++(qH 93 1783 1137 iE 1633++(qH 94 1790 1144 iE 1633++(qh 95 1800 1151 iE 1633++(qH 96 1806 1156 iE 1633++(qH 97 1823 1163 iE 1633++(qH 98 1833 1170 iE 1633))))))))))
def tw1123721790843070001:Params->Heap:=λP=>Subtype.val (p:=λt=>t=(.mk (eJ P).toArray (.mk [] [] [] 0 [] [] .false #[] [] 0 .false .false .false 0 [2000,10,10] .false 0 .true [] [] 0 .false))) ⟨_,by dsimp only[eJ,qH,qh,bO,dI,dY,eM,eN,eS,List.set,List.cons_append,List.nil_append]⟩
theorem te1123721790843070001:!tw1123721790843070001:=rfl
def tw657089752120002864:WN:=[(qS 0),(qS 1),(qS 2)]
theorem te657089752120002864:!tw657089752120002864:=rfl
def tw929130376466005384:WN:=[(qS 3)]
theorem te929130376466005384:!tw929130376466005384:=rfl
def tw11810535253968453653:WN:=[(qS 4)]
theorem te11810535253968453653:!tw11810535253968453653:=rfl
def tw14140634292233146428:WN:=[(qS 5)]
theorem te14140634292233146428:!tw14140634292233146428:=rfl
def tw7925768530908975378:WN:=[(qS 6)]
theorem te7925768530908975378:!tw7925768530908975378:=rfl
def tw13762283091147397577:WN:=[(qS 7),(qS 8),(qS 9),(qS 10),(qS 11),(qS 12),(qS 13),(qS 14),(qS 15)]
theorem te13762283091147397577:!tw13762283091147397577:=rfl
def tw11623181419287751862:WN:=[(qS 16),(qS 17),(qS 18),(qS 19),(qS 20),(qS 21),(qS 22),(qS 23),(qS 24),(qS 25)]
theorem te11623181419287751862:!tw11623181419287751862:=rfl
def tw17964666031407411075:WN:=[(qS 26),(qS 27),(qS 28),(qS 29),(qS 30),(qS 31),(qS 32),(qS 33),(qS 34),(qS 35)]
theorem te17964666031407411075:!tw17964666031407411075:=rfl
def tw2325742208511401927:WN:=[(qS 36)]
theorem te2325742208511401927:!tw2325742208511401927:=rfl
def tw3433530700359904440:WN:=[(qS 37)]
theorem te3433530700359904440:!tw3433530700359904440:=rfl
def tw4184992682202363624:WN:=[(qS 38)]
theorem te4184992682202363624:!tw4184992682202363624:=rfl
def tw13721131866368090014:WN:=[(qS 39)]
theorem te13721131866368090014:!tw13721131866368090014:=rfl
def tw10428989324264322126:WN:=[(qS 40)]
theorem te10428989324264322126:!tw10428989324264322126:=rfl
def tw10313097412837007176:WN:=[(qS 41)]
theorem te10313097412837007176:!tw10313097412837007176:=rfl
def tw10113057254548518066:WN:=[(qS 42)]
theorem te10113057254548518066:!tw10113057254548518066:=rfl
def tw5799725777362454093:WN:=[(qS 43)]
theorem te5799725777362454093:!tw5799725777362454093:=rfl
def tw11098166145956703272:WN:=[(qS 44),(qS 45)]
theorem te11098166145956703272:!tw11098166145956703272:=rfl
def tw15524005063833697032:WN:=[(qS 46),(qS 47)]
theorem te15524005063833697032:!tw15524005063833697032:=rfl
def tw4558138019573520965:WN:=[(qS 48),(qS 49)]
theorem te4558138019573520965:!tw4558138019573520965:=rfl
def tw1740148790984425138:WN:=[(qS 50)]
theorem te1740148790984425138:!tw1740148790984425138:=rfl
def tw3113246720011855518:WN:=[(qS 51),(qS 52)]
theorem te3113246720011855518:!tw3113246720011855518:=rfl
def tw6267394051069220689:WN:=[(qS 53)]
theorem te6267394051069220689:!tw6267394051069220689:=rfl
def tw7309668613286356284:WN:=[(qS 54),(qS 55),(qS 56),(qS 57),(qS 58),(qS 59)]
theorem te7309668613286356284:!tw7309668613286356284:=rfl
def tw15996376414460464763:WN:=[(qS 60),(qS 61),(qS 62),(qS 63),(qS 64)]
theorem te15996376414460464763:!tw15996376414460464763:=rfl
def tw1982973081196692083:WN:=[(qS 65),(qS 66),(qS 67),(qS 68),(qS 69),(qS 70),(qS 71),(qS 72),(qS 73),(qS 74)]
theorem te1982973081196692083:!tw1982973081196692083:=rfl
def tw7832315712038560846:WN:=[(qS 75)]
theorem te7832315712038560846:!tw7832315712038560846:=rfl
def tw8260312275438990889:WN:=[(qS 76),(qS 77),(qS 78),(qS 79),(qS 80),(qS 81),(qS 82),(qS 83),(qS 84),(qS 85),(qS 86),(qS 87),(qS 88)]
theorem te8260312275438990889:!tw8260312275438990889:=rfl
def tw11943467866292926139:WN:=[(qS 89),(qS 90),(qS 91),(qS 92),(qS 93),(qS 94),(qS 95),(qS 96),(qS 97),(qS 98)]
theorem te11943467866292926139:!tw11943467866292926139:=rfl
def tw9575367811885630970:Params->Heap:=λP=>Subtype.val (p:=λt=>t=(.mk (zt P).toArray (.mk [] [] [] 0 [] [] .false #[] [] 0 .false .false .false 0 [2000,10,10] .false 0 .true [] [] 0 .false))) ⟨_,by dsimp only[zt,rj,gz,zS,wV,uJ,sO,rD,oY,oB,nB,mN,lV,lJ,kL,jX,jP,jD,iO,iD,hV,gW,gM,gH,fX,fT,fO,fA,eJ,qH,qh,bO,dI,dY,eM,eN,eS,List.set,List.cons_append,List.nil_append]⟩
theorem te9575367811885630970:!tw9575367811885630970:=rfl
def tw12071387839601079164:PySem.Program:=Challenge.pw_aheadmill_k39_started_at_once
theorem te12071387839601079164:!tw12071387839601079164:=rfl
def tw9897145914084891619:Params->BT:=-eJ
def tw3625438346350112805:Params->BT:=-fA
def tw7833186716781247984:Params->BT:=-fO
def tw11636367393847043251:Params->BT:=-fT
def tw5453645423777692872:Params->BT:=-fX
def tw2523434151498518665:Params->BT:=-gH
def tw8267160958813171743:Params->BT:=-gM
def tw12884092330759081624:Params->BT:=-gW
def tw6073630230058002552:Params->BT:=-hV
def tw9209066621414513:Params->BT:=-iD
def tw14735895002192223445:Params->BT:=-iO
def tw12891843010003645656:Params->BT:=-jD
def tw15368754417111880219:Params->BT:=-jP
def tw13180262169607854327:Params->BT:=-jX
def tw17590965263857191904:Params->BT:=-kL
def tw7520563699075837672:Params->BT:=-lJ
def tw7301106571415008642:Params->BT:=-lV
def tw14066035843000100533:Params->BT:=-mN
def tw8337611998617186949:Params->BT:=-nB
def tw15967169022487550408:Params->BT:=-oB
def tw10445791536099306304:Params->BT:=-oY
def tw7816932269049616461:Params->BT:=-rD
def tw16744820628311873518:Params->BT:=-sO
def tw15251560284305898888:Params->BT:=-uJ
def tw11309629246937363173:Params->BT:=-wV
def tw10633438578515096936:Params->BT:=-zS
def tw16715004321684276803:Params->BT:=-gz
def tw17077258992159450689:Params->BT:=-rj
def tw4589836215587084059:Params->BT:=-zt
theorem te9897145914084891619:!tw9897145914084891619:=rfl
theorem te3625438346350112805:!tw3625438346350112805:=rfl
theorem te7833186716781247984:!tw7833186716781247984:=rfl
theorem te11636367393847043251:!tw11636367393847043251:=rfl
theorem te5453645423777692872:!tw5453645423777692872:=rfl
theorem te2523434151498518665:!tw2523434151498518665:=rfl
theorem te8267160958813171743:!tw8267160958813171743:=rfl
theorem te12884092330759081624:!tw12884092330759081624:=rfl
theorem te6073630230058002552:!tw6073630230058002552:=rfl
theorem te9209066621414513:!tw9209066621414513:=rfl
theorem te14735895002192223445:!tw14735895002192223445:=rfl
theorem te12891843010003645656:!tw12891843010003645656:=rfl
theorem te15368754417111880219:!tw15368754417111880219:=rfl
theorem te13180262169607854327:!tw13180262169607854327:=rfl
theorem te17590965263857191904:!tw17590965263857191904:=rfl
theorem te7520563699075837672:!tw7520563699075837672:=rfl
theorem te7301106571415008642:!tw7301106571415008642:=rfl
theorem te14066035843000100533:!tw14066035843000100533:=rfl
theorem te8337611998617186949:!tw8337611998617186949:=rfl
theorem te15967169022487550408:!tw15967169022487550408:=rfl
theorem te10445791536099306304:!tw10445791536099306304:=rfl
theorem te7816932269049616461:!tw7816932269049616461:=rfl
theorem te16744820628311873518:!tw16744820628311873518:=rfl
theorem te15251560284305898888:!tw15251560284305898888:=rfl
theorem te11309629246937363173:!tw11309629246937363173:=rfl
theorem te10633438578515096936:!tw10633438578515096936:=rfl
theorem te16715004321684276803:!tw16715004321684276803:=rfl
theorem te17077258992159450689:!tw17077258992159450689:=rfl
theorem te4589836215587084059:!tw4589836215587084059:=rfl
end PySem.W.Fast
end
open_top PySem.W.Fast.te0 for PySem.Challenge.rw_aheadmill_k39_started_at_once
local macro_rules | `(command| $d:definition) => `(command| noncomputable $d:definition)
open Array renaming length_toList->aq,toList->HY,getElem?_toList->HX
open Bool renaming true->aB,false->aG,eq_iff_iff->jo,false_ne_true->gS,and_eq_true->bT,false_eq_true->jq,or_eq_true->jr,not_eq_true'->Oc
open False renaming elim->kU
open Function renaming comp_def->ju
open Iff renaming rfl->Oh
open Int renaming fmod_eq_emod_of_nonneg->IJ,fdiv_eq_ediv_of_nonneg->Ol,toNat_natCast->oG,le_trans->rJ,lt_trans->vD,lt_or_eq_of_le->Oo,emod_nonneg->mC,emod_lt_of_pos->mQ,one_mul->IL,pow_pos->IM,lt_of_lt_of_le->Om,le_refl->jH,ediv_nonneg->Oj,eq_ofNat_of_zero_le->ax,toNat_of_nonneg->Oq,ne_of_lt->ay,lt_irrefl->xF,lt_succ->IK,ne_of_gt->Bq,add_zero->Oi,add_assoc->II
open List renaming set->eW,cons_append->fG,nil_append->fH,range->Pk,filterMap_cons->mD,mem_cons_self->fS,mem_cons_of_mem->iI,mem_append_left->xJ,getElem_inj->Bz,getElem?_set_self->kE,getElem?_set_ne->jQ,mem_append_right->iH,size_toArray->hJ,any_eq_false->IT,length_cons->eK,lookup->rL,map_cons->hA,length_map->aR,append_nil->pE,of_mem_zip->Pe,replicate->eO,length->JP,length_take->kW,getElem?_append_right->Bx,getElem?_replicate->By,getElem?_append_left->sY,getElem?_map->fR,getElem?_take_of_lt->aQt,mem_of_getElem?->bM,length_append->dC,length_replicate->ui,length_drop->uh,length_set->nL,all_cons->jI,any_cons->rK,eraseIdx_cons_succ->aQr,foldl->Ov,replicate_succ->Pl,flatten_cons->JF,append_assoc->IW,foldl_cons->Bw,eraseIdxIfInBounds_toArray->aQq,length_nil->Ca,filter_cons->gC,length_filter_le->pF,lookup_cons->iU,any_eq_true->IU,getElem?_eq_getElem->eB,getElem_mem->JN,getElem_of_mem->Ox,Pairwise->IP,pairwise_mergeSort->aQx,mergeSort_perm->JS,getElem?_toArray->JK,eq_nil_of_length_eq_zero->ug,mem_cons->uj,not_mem_nil->ba,getElem?_eq_none->JI,drop_eq_getElem_cons->Ot,take_succ_cons->JV,drop_zero->JB,take_of_length_le->Pm,getElem?_zip_eq_some->JL,zip_cons_cons->bc,length_zip->Oz,not_any_eq_all_not->JU,dropLast_eq_take->IZ,all_eq_true->IS,isEmpty_eq_false_iff->aQv,filterMap_cons_some->JD,exists_cons_of_length_eq_add_one->xH,map_map->hB,getElem?_take->Ow,map_drop->Pb,map_take->Pc,take_length->pH,getD_eq_getElem?_getD->vF,flatten_replicate_singleton->JG,map_set->jx,map_replicate->JR,map_append->gJ,mem_or_eq_of_mem_set->Cd,any_map->IV,map_congr_left->Cb,find?_some->Bv,mem_of_find?_eq_some->xK,find?_cons->nK,take_add_one->pG,filter_append->sX,filter_congr->Ou,getElem_take->JO,set_set->uk,length_reverse->Oy,drop_length->Bt,getLast?_eq_getElem?->aQu,find?_append->Bu,nodup_append->JT,dropWhile_sublist->JA,dropLast_concat_getLast->aQo,getElem_map->JM,pairwise_cons->Ph,set_cons_zero->Cg,set_cons_succ->Ce,ext_getElem?->JC,getElem?_set->JJ,pairwise_append->Pf,pairwise_singleton->Pj,set_eq_take_append_cons_drop->aQy,getElem?_concat_length->JH,map->Pa,getElem?_of_mem->xI,map_id->JQ,mem_filter->Cc,mem_of_getLast?->Pd,length_filterMap_le->aQw,eq_of_mem_replicate->aQp,take_append_of_le_length->aQz,filter_cons_of_pos->JE,filter_cons_of_neg->aQs
open List.Nodup renaming length_le_of_subset->Bs
open List.Pairwise renaming nil->jw,imp->IQ,sublist->vE
open List.Perm renaming eq_of_pairwise->aQn
open Nat renaming lt_of_lt_of_le->bF,lt_irrefl->oH,ne_of_lt->cC,le_trans->dR,le_of_lt->mR,ne_of_gt->tB,le_refl->aV,le_of_eq->JY,lt_succ_self->cM,zero_le->jR,le_succ->iJ,min_le_right->KC,add_comm->JW,le_of_not_lt->Po,lt_succ_of_lt->kG,not_lt_zero->kb,zero_lt_one->KJ,le_succ_of_le->JZ,le_total->Pp,min_eq_left->Ch,min_eq_right->Pq,sub_self->Ps,ble->Pn,le_of_ble_eq_true->JX,lt_of_le_of_lt->jz,le_add_right->rM,pow_le_pow_right->KD,lt_succ_of_le->KA,succ_lt_succ->xM,zero_add->KI,succ_le_succ->KH,min_le_left->KB,sub_le_sub_right->KG
open Ne renaming symm->mE
open OfNat renaming ofNat->KM
open Option renaming some->aA,none->aD,getD_none->KN,isSome_map->Pt,bind_some->jJ,map_some->xO,isSome->xN,map_map->KP,map_eq_none_iff->KO,or_none->bh
open Option.some renaming inj->dJ
open Prod renaming ext->Pu
open PyProof renaming noPylong_of_log2->KS
open PyProof.Rows renaming AllBare->vC,assignInOrder_nil->LR,assignInOrder_cons->Qr,callWith_type1->Cm,envOfC->vK,callWith_builtin1->aRa,slicePart_none->LX,slot_tuple_getitem->KQ,subscriptTail_builtinR->LY,IntsAre->az,intBits_le->Dd
open PyProof.Rows.IsTup renaming new->Br
open PyProof.Rows.KTD renaming tabLook->Ck,flatLooks->Px,hashesOf->Cj
open PyProof.V.Flat renaming int->KR
open PySem renaming Arguments->Oa,Scope->gK,Params->bV,Program->cD,Heap->bS,World->bW,Paired->bj,sysModules->tF,tupleKind->cv,Within->Qn,mainGlobals->iW,builtinsNs->Qs,bootBuiltins->mT,Around->cR,Shared->aK,wpAny->aU,storeName->Rg,Expr->aI,model->aY,backTo->lN,starEach->eC,wpAny_mono->vd,wpAny_Name->Rj,wpAny_loadName_local->MF,wpAny_loadName_cell->ME,wpAny_execs_nil->Rn,swapsWith->vM,assign->bu,assignInOrder->LQ,assignEach->rQ,Operator->rN,inplaceOp->Qx,wpAny_assign_Name->MB,holding->km,standAt->Dg,wpAny_bind->bB,wpAny_holding->pJ,wpAny_standAt->ky,swapsWithSole->LZ,swappedStores->ko,wpAny_pure->cU,wpAny_newObj_type->xX,wpAny_rule->Rr,wpAny_bindName->MC,PassesOwn->uo,wpAny_passesOwn->dg,pyNext->xW,letOwnedTupleGo->Qy,wpAny_pyNext_list_item->MJ,wpAny_pyNext_list_end->Ro,foldedSetIterable->Cz,binaryOp->eY,unaryOp->Dh,compareOp->dG,CmpOp->pD,behindInMarks->ux,wpAny_truthy_bool->dh,lastMarks->De,sizeLine_eq->pI,getMethod->Qw,codeAny->tE,attributeBase->kj,plainObj_wpAny_Assign_Attribute->aSz,FuncData->eV,BindsTo->jn,wpAny_call->vc,codeAny_mono->uy,wpAny_Call_Name_kw->cz,Keyword->sW,backToKw->xT,keywordEach->xV,NameKind->sZ,bindL->cf,bindC->bz,cellsFrom->Qt,mem_of_lookup->uu,concat_meets->Qv,noFill_tuple_add->Ra,seq_tuple_add->Rf,IsPart->xG,wpAny_field->da,getItem->ck,wpAny_callSpecial?_slot->Rk,wpAny_call_entry->Rm,seqIndex_of->Rc,subscripted->Rh,sliceBounds->cu,call_list_seq->LS,typeIs_int->Ri,wpAny_Call_method_late->MA,call_meets->Cw,callerA->xU,call->Qo,valueAt->cw,atKey->xS,tupleKind_room_in1->kr,call_meetsIn->cg,closureFor->Qu,wpAny_comprehension_free->MD,wpAny_specialOf->ML,wpAny_pyIter_list->ve,Fin->Qc,seqItems?->cq,codeAny_call_builtin->LU,wpAny_newList->MG,codeAny_builtin->Cy,wpAny_seqItems->ku,wpAny_tryCatch->vf,argBest->vJ,wpAny_updateSeq->Rt,wpAny_letGo->Di,plainId_quiet->Rb,intItems->uz,numAt->vL,wpAny_setField->MK,firstArgMember->LV,wpAny_pyIter_tuple->Dj,wpAny_pyIter_enum->MH,methodCallForm->Qz,methodCallPos->LW,strKind->Qp,Str->cW
open PySem.Around renaming under_plainId->Ob
open PySem.AutoListH renaming list___mul___list_int_3->aQm
open PySem.AutoSeq1 renaming wpAny_loadPart'->Bm
open PySem.Builtin renaming bitAnd->rH,bitOr->js,bitXor->jt
open PySem.Builtin.List renaming listTooLong->HZ
open PySem.Builtin.Slice renaming sliceAdjust->Od,slicePlaces->Bn
open PySem.Builtin.SmallTypes renaming nextOf->Oe
open PySem.Calls renaming Name_function_global->IA,callWith_builtin->Of,evalArgs_plain->IB
open PySem.Challenge renaming pw_aheadmill_k39_started_at_once->aRb,rw_aheadmill_k39_started_at_once->KU
open PySem.Code renaming quiet_builtin->IC
open PySem.EqMixed renaming eq_bool_str->aRc,eq_int_str->aRd,eq_str_bool->aRe,eq_str_int->aRf,ne_bool_str->aRg,ne_int_str->aRh,ne_str_bool->aRi,ne_str_int->aRj
open PySem.EqNone renaming eq_none_none->aRo,eq_none_bool->aRm,eq_none_int->aRn,eq_none_str->aRp,eq_bool_none->aRk,eq_int_none->aRl,eq_str_none->aRq,ne_none_none->aRv,ne_none_bool->aRt,ne_none_int->aRu,ne_none_str->aRw,ne_bool_none->aRr,ne_int_none->aRs,ne_str_none->aRx
open PySem.F renaming slot_tuple_add->Qb,entry_tuple_add->Pz,args_tuple_add_2->Py,slot_int_rmul->IF,args_dict_pop_2->aRy,args_dict_pop_3->KZ,slot_dict_pop->Qa,entry_dict_pop->LA,slot_dict_get->kh,entry_dict_get->Co,args_dict_get_2->KW,args_dict_get_3->KY,slot_dict_setdefault->LG,entry_dict_setdefault->aSa,args_dict_setdefault_3->aRz,plain_min->LF,entry_min->LB,entry_min_loop->Cq,plain_min_loop->kg,slot_tuple_iterator_next->Bo,entry_tuple_iterator_next->IE,args_tuple_iterator_next_1->ID,plainAttrs_list->LD,slot_list_append->aSb,type_list_append->aSd,plainAttrs_dict->LC,type_dict_get->LH,type_dict_setdefault->aSc
open PySem.Heap renaming lt_size->dF,SameBut->jv,get?_push_of_some->dO,get?_push_size->jG,size_push->aw,get?_update_self->Bp,get?_update_other->au,ExtBut->Og
open PySem.Heap.SameBut renaming update->IG
open PySem.NameKind renaming free->iV,cell->jy
open PySem.Obj renaming mapSeq->um,data_mapFields->KL
open PySem.Paired renaming length->Ci
open PySem.PyData renaming str->Pw,int->rO
open PySem.SeqAt.EqAt renaming int_str->LL,str_int->LM
open PySem.Spec renaming lookup->LI
open PySem.Str renaming ofString->vI
open PySem.Value renaming isStrOf->LO,int->xR,str->nO,none->uv,bool->bp,ref->kX,type->Qq
open PySem.W renaming Frag->bH,instObj->xQ,lookIn->Cu,plainGet->ur,hasDictIn->Ct,findIn->nM,handedIn->Cs,plainGet_of->Qj,isFn->uq,plainOver->Qk,takerIn->Qm,makesIn->Qi,emptyDict->xP,keepIn->tD,callWith_K->Cr,callWith_K0->Qe,cellsFrom_some->LK,fnOf->ki,codeIn->Qf,OpenLaw->Qd,WalkO->LJ,kitOne->Qh,kia_one->bo,specialIn->Cv,readsIn->Ql,findCls->Qg,nsIn->vH,mg_of->vG
open PySem.W.SL renaming s2766695959194262286x5->aSn,s5856160107412720595x4->aSs,s658472552662922059x5->aSw,s14018661285674007319x4->aSj,s7097527257260152453x26->aSx,s7174869446012820540x8->aSy,s6070975301684473832x10->aSu,s11030030927630378310x26->aSg,s10062305145149207511x16->aSe,s17162191345867700912x4->aSl,s5946037652744460706x9->aSt,s4278001404047624695x13->aSp,s2742458400755230247x6->aSm,s4209523147560561109x18->aSo,s14755015743595814543x17->aSk,s10220274742760427390x26->aSf,s4290257624100764138x5->aSq,s4860613602091757760x24->aSr,s11443829558043349243x14->aSh,s6511155373996960695x17->aSv,s12411053484034534018x21->aSi
open PySem.Walks renaming dictKeys->LP
open Subtype renaming val->eX
open Sum renaming inl->rP,inr->oJ
open Sum.inl renaming inj->LN
open True renaming intro->mS
set_option hygiene false
namespace L2
open PySem PySem.Spec PyProof.Rows
variable {A:cR}{C a b dx it:Addr}{E Q:Value->aK->Prop}{N ps:WL}{P prog:cD}{apos p pos pos':Pos}{base h h':bS}{body:WN}{c e tg:aI}{d':Drawn}{es:List aI}{fd:eV}{fp:S1}{g':Array GenState}{i j t':Nat}{kw:Wh}{m qual x:Str}{mA mg:Str->WM}{op':pD}{outer:Wl}{pins:Fw}{s s':aK}{scope:gK}{u:Value}{us:Fv}{w:bW}
abbrev aN:=Sum Int Str
def zI:aN->Value->Bool
 |.inl k,v=>Value.isInt k v
 |.inr x,v=>LO x v
def A8(w:bW):aN->Int
 |.inl k=>hashInt k
 |.inr x=>hashStr w x
theorem sG:∀{k:aN}{v:Value},zI k v=aB->(∃i t,k=rP i/\v=xR i t)\/(∃x t,k=oJ x/\v=nO x t)
 |.inl i,v,h=>by obtain⟨t,e⟩:=Value.isInt_shape h;exact .inl ⟨i,t,rfl,e⟩
 |.inr x,v,h=>by obtain⟨t,e⟩:=Value.isStrOf_shape h;exact .inr ⟨x,t,rfl,e⟩
theorem A9(i:Int)(t:Tok):zI (.inl i) (.int i t)=aB:=by simp[zI,Value.isInt]
theorem B0(x:Str)(t:Tok):zI (.inr x) (.str x t)=aB:=by simp[zI,LO]
theorem B2(a b:Int):decide ((rP a:aN)=rP b)=(a==b):=by
 by_cases e:a=b
 .subst e;simp
 .have h:¬(rP a:aN)=rP b:=λq=>e (LN q);rw[decide_eq_false h];exact(beq_eq_false_iff_ne.mpr e).symm
theorem B5(a b:Str):decide ((oJ a:aN)=oJ b)=decide (a=b):=by
 by_cases e:a=b
 .simp
 .have h:¬(oJ a:aN)=oJ b:=λq=>e (Sum.inr.inj q);rw[decide_eq_false h,decide_eq_false e]
theorem B3(a:Int)(b:Str):decide ((rP a:aN)=oJ b)=aG:=decide_eq_false (nofun)
theorem B4(a:Str)(b:Int):decide ((oJ a:aN)=rP b)=aG:=decide_eq_false (nofun)
def gG(prog:cD)(w:bW):PySem.KeyKind prog w aN where
 is:=zI
 hash:=A8 w
 inj:=λv a b ha hb=>by
  rcases sG ha with⟨i,t,rfl,rfl⟩|⟨x,t,rfl,rfl⟩
  .rcases sG hb with⟨j,u,rfl,e⟩|⟨y,u,rfl,e⟩
   .injection e with e1 _;rw[e1]
   .exact nomatch e
  .rcases sG hb with⟨j,u,rfl,e⟩|⟨y,u,rfl,e⟩
   .exact nomatch e
   .injection e with e1 _;rw[e1]
 byValue:=λk v h=>by rcases sG h with⟨i,t,rfl,rfl⟩|⟨x,t,rfl,rfl⟩<;>rfl
 pyHash:=λhv h=>by
  rcases sG hv with⟨i,t,rfl,rfl⟩|⟨x,t,rfl,rfl⟩
  .exact wpAny_pyHash_int h
  .exact wpAny_pyHash_str h
 eqBool:=λhu hv h=>by
  rcases sG hu with⟨i,t,rfl,rfl⟩|⟨x,t,rfl,rfl⟩
  .rcases sG hv with⟨j,u,rfl,rfl⟩|⟨y,u,rfl,rfl⟩
   .rw[B2]at h;exact wpAny_eqBool_int h
   .rw[B3]at h;exact LL i t y u _ _ _ _ h
  .rcases sG hv with⟨j,u,rfl,rfl⟩|⟨y,u,rfl,rfl⟩
   .rw[B4]at h;exact LM x t j u _ _ _ _ h
   .rw[B5]at h;exact wpAny_eqBool_str h
 «strs»:=λk x t v h=>by
  rcases sG h with⟨i,u,rfl,e⟩|⟨y,u,rfl,e⟩
  .exact nomatch e
  .injection e with e1 _;subst e1;cases v<;>rfl
theorem F9(prog:cD)(w:bW)(i:Int)(t:Tok):(gG prog w).is (.inl i) (.int i t)=aB:=A9 i t
theorem G0(prog:cD)(w:bW)(x:Str)(t:Tok):(gG prog w).is (.inr x) (.str x t)=aB:=B0 x t
inductive V where
 |aH|bl (b:Bool)|int (i:Int)|str (x:Str)|mW (b:Array UInt8)|xq (b:UInt64)|ref (a:Addr)|ty (n:String)
 deriving DecidableEq
abbrev _root_.Fx:=List V
abbrev _root_.WZ:=List (Str×V)
variable {v y:V}{vs xs:Fx}
def RelV:V->Value->Prop
 |.aH,u=>u=uv
 |.bl b,u=>u=bp b
 |.int i,u=>∃t,u=xR i t
 |.str x,u=>∃t,u=nO x t
 |.mW b,u=>∃t,u=Value.bytes b t
 |.xq b,u=>∃t,u=Value.float b t
 |.ref a,u=>u=kX a
 |.ty n,u=>u=Qq n
abbrev Vals:Fx->Fv->Prop:=bj RelV
theorem Vals.length{xs:Fx}{us:Fv}(r:Vals xs us):xs.length=us.length:=Ci r
theorem Vals.get:∀{xs:Fx}{us:Fv}{i:Nat}{x:V},Vals xs us->xs[i]?=aA x->∃u,us[i]?=aA u/\RelV x u
 |_,_,_,_,.nil,e=>by simp at e
 |_,_,0,_,.cons r _,e=>by simp at e;subst e;exact⟨_,rfl,r⟩
 |_,_,i+1,x,.cons _ t,e=>by obtain⟨u,a,b⟩:=Vals.get t (by simpa);exact⟨u,by simpa using a,b⟩
theorem Vals.set{x:V}{u:Value}(r:RelV x u):∀{xs:Fx}{us:Fv} (i:Nat),Vals xs us->Vals (xs.set i x) (us.set i u)
 |_,_,_,.nil=>.nil
 |_,_,0,.cons _ t=>.cons r t
 |_,_,i+1,.cons q t=>.cons q (Vals.set r i t)
theorem Vals.append:∀{xs ys:Fx}{us ws:Fv},Vals xs us->Vals ys ws->Vals (xs++ys) (us++ws)
 |_,_,_,_,.nil,s=>s
 |_,_,_,_,.cons r t,s=>.cons r (Vals.append t s)
theorem Vals.take:∀{xs:Fx}{us:Fv} (n:Nat),Vals xs us->Vals (xs.take n) (us.take n)
 |_,_,0,_=>.nil
 |_,_,_+1,.nil=>.nil
 |_,_,n+1,.cons r t=>.cons r (Vals.take n t)
theorem Vals.drop:∀{xs:Fx}{us:Fv} (n:Nat),Vals xs us->Vals (xs.drop n) (us.drop n)
 |_,_,0,r=>r
 |_,_,_+1,.nil=>.nil
 |_,_,n+1,.cons _ t=>Vals.drop n t
def iB:Option V->WM->Prop
 |some v,aA u=>RelV v u
 |none,aD=>True
 |_,_=>False
def KV{κ:Type}:List (κ×V)->List (κ×Value)->Prop:=bj λ(p:κ×V) (q:κ×Value)=>p.1=q.1/\RelV p.2 q.2
def kV:aN->V
 |.inl i=>.int i
 |.inr x=>.str x
inductive HO where
 |lst (xs:Fx)
 |tup (xs:Fx)
 |dK (kvs:List (aN×V))|dT (kvs:List (List aN×V))
 |set (S:Int->Bool) (n:Nat)
 |ins (C dx:Addr) (fs:WZ)
 |own (x:Addr)
 |xd (fs:WZ)
 |met (f x:Addr)
 |Lq (lo hi:Int)
 |cZ (o:Obj) (u:HO)
 |ae (ps:WV)
 |ext (φ:bS->Prop)
variable {o:HO}
abbrev Hp:=Addr->Option HO
variable {H H':Hp}
def bE(H:Hp)(a:Addr)(o:HO):Hp:=λb=>if b=a then aA o else H b
theorem gI:bE H a o a=aA o:=by unfold bE;rw[if_pos rfl]
theorem bX(h:b≠a):bE H a o b=H b:=by unfold bE;rw[if_neg h]
theorem rB{u:HO}(h:H a=aA o)(h':H b=aA u)(d:o≠u):a≠b:=by intro e;subst e;rw[h]at h';exact d<|dJ h'
theorem jN(h:H a=aA o)(h':H b=aD):a≠b:=by intro e;subst e;rw[h]at h';cases h'
section
variable (P:cD)(w:bW)
def hU(H:Hp)(h:bS)(a:Addr):HO->Prop
 |.lst xs=>xs.length<=sizeLine/\∃(its:Fv) (n:Nat),Vals xs its/\h.get? a=aA { cls:=.type "list",data:=.seq its.toArray n }
 |.tup xs=>xs.length<=sizeLine/\∃its:Fv,Vals xs its/\IsTup h a its.toArray
 |.dK kvs=>kvs.length<=sizeLine/\(a==tF)=aG/\∃vs,KV kvs vs/\h.DictOf (gG P w) a vs
 |.dT kvs=>kvs.length<=sizeLine/\(a==tF)=aG/\∃xs:List (List aN×Addr×Value),
  bj (λ(p:List aN×V) (q:List aN×Addr×Value)=>p.1=q.1/\H q.2.1=aA (.tup<|p.1.map kV)/\RelV p.2 q.2.2) kvs xs /\
  ∃o es ep,h.get? a=aA o/\o.ExactDict/\o.data = .dict es ep/\es.toList=xs.map (entryOfKey<|cv<|gG P w)/\(xs.map (·.1)).Nodup
 |.set S n=>h.SetOf (intKind P w) a S n
 |.ins C dx fs=>H dx=aA (.own a)/\fs.length<=1000/\dx≠a/\h.get? a=aA (xQ C dx) /\
  ∃mA,h.Ns1 dx mA/\(∀f,iB (fs.lookup f) (mA f))/\Qn mA (fs.map (·.1))
 |.own _=>∃o,h.get? a=aA o
 |.xd fs=>∃mA,h.Ns1 a mA/\∀f,iB (fs.lookup f) (mA f)
 |.Lq lo hi=>∃t u v,h.get? a=aA { cls:=.type "range",data:=.fields #[.int lo t,.int hi u,.int 1 v] }
 |.cZ o u=>h.get? a=aA o/\hU H h a u
 |.ae ps=>h.get? a=aA { cls:=.none,data:=.fields ps }
 |.met f x=>h.get? a=aA (W.methodObj (.ref f)<|.ref x)
 |.ext φ=>φ h/\(∃o,h.get? a=aA o)/\∀h1 h2:bS,φ h1->(∀o,h1.get? a=aA o->h2.get? a=aA o)->φ h2
def eZ(H:Hp)(h:bS):Prop:=∀a o,H a=aA o->hU P w H h a o
end
theorem hU.lt(x:hU P w H h a o):a<h.objs.size:=by
 cases o with
 |lst xs=>obtain⟨_,_,_,_,e⟩:=x;exact dF e|tup xs=>obtain⟨_,_,_,p⟩:=x;exact p.lt|dK b=>obtain⟨_,_,_,_,o,_,_,e,_⟩:=x;exact dF e|dT b=>obtain⟨_,_,_,_,o,_,_,e,_⟩:=x;exact dF e|set S n=>obtain⟨o,_,_,_,e,_⟩:=x;exact dF e|ins C c fs=>obtain⟨_,_,_,e,_⟩:=x;exact dF e|own y=>obtain⟨_,e⟩:=x;exact dF e|xd fs=>obtain⟨_,⟨_,_,_,e,_⟩,_⟩:=x;exact dF e|Lq lo d=>obtain⟨_,_,_,e⟩:=x;exact dF e|cZ ob u=>obtain⟨e,_⟩:=x;exact dF e|ae ps=>exact dF<|x|met f y=>exact dF<|x|ext g=>obtain⟨_,⟨_,e⟩,_⟩:=x;exact dF e
theorem Paired.Ie{α β:Type}{F G:α->β->Prop}:∀{l₁:List α}{l₂:List β},bj F l₁ l₂->(∀a b,F a b->G a b)->bj G l₁ l₂
 |_,_,.nil,_=>.nil
 |_,_,.cons r t,f=>.cons (f _ _ r) (Paired.Ie t f)
theorem hU.uS(x:hU P w H h a o)(k:∀b u,(b=a\/H b=aA (.own a))->h.get? b=aA u->h'.get? b=aA u)
  (ho:∀b,H b=aA (.own a)->H' b=aA (.own a)) (ht:∀b xs,H b=aA (.tup xs)->H' b=aA (.tup xs)):hU P w H' h' a o:=by
 induction o with
 |lst xs=>obtain⟨z,j,n,r,e⟩:=x;exact⟨z,j,n,r,k _ _ (.inl rfl) e⟩|tup xs=>obtain⟨z,j,r,ob,e,c⟩:=x;exact⟨z,j,r,ob,k _ _ (.inl rfl) e,c⟩|dK l=>obtain⟨z,y,s,r,ob,g,i,e,c⟩:=x;exact⟨z,y,s,r,ob,g,i,k _ _ (.inl rfl) e,c⟩|dT l=>obtain⟨z,y,xs,r,ob,g,i,e,c⟩:=x;exact⟨z,y,xs,Paired.Ie r λp q z=>⟨z.1,ht _ _ z.2.1,z.2.2⟩,ob,g,i,k _ _ (.inl rfl) e,c⟩
 |set S n=>obtain⟨ob,g,i,t,e,c⟩:=x;exact⟨ob,g,i,t,k _ _ (.inl rfl) e,c⟩|ins C D fs=>obtain⟨d,z,ne,e,m,⟨od,g,i,A,c⟩,r⟩:=x;exact⟨ho _ d,z,ne,k _ _ (.inl rfl) e,m,⟨od,g,i,k _ _ (.inr d) A,c⟩,r⟩
 |own y=>obtain⟨ob,e⟩:=x;exact⟨ob,k _ _ (.inl rfl) e⟩|xd fs=>obtain⟨m,⟨od,g,i,e,c⟩,r⟩:=x;exact⟨m,⟨od,g,i,k _ _ (.inl rfl) e,c⟩,r⟩|Lq lo E=>obtain⟨t,u,v,e⟩:=x;exact⟨t,u,v,k _ _ (.inl rfl) e⟩|cZ ob u B=>obtain⟨e,q⟩:=x;exact⟨k _ _ (.inl rfl) e,B q⟩|ae ps=>have e:=x;exact k a _ (.inl rfl) e
 |met f y=>have e:=x;exact k a _ (.inl rfl) e
 |ext F=>obtain⟨p,⟨o,e⟩,st⟩:=x;exact⟨st _ _ p λo q=>k _ _ (.inl rfl) q,⟨o,k _ _ (.inl rfl) e⟩,st⟩
theorem eZ.lt(x:eZ P w H h)(e:H a=aA o):a<h.objs.size:=(x a o e).lt
theorem eZ.fresh(x:eZ P w H h)(e:h.objs.size<=a):H a=aD:=by
 cases q:H a with
 |none=>rfl|some u=>exact absurd (bF (x.lt q) e)<|oH _
theorem eZ.kept(x:eZ P w H h)(k:∀b u,h.get? b=aA u->h'.get? b=aA u):eZ P w H h':=λa o e=>
 (x a o e).uS (λb u _ q=>k b u q) (λ_ q=>q) λ_ _ q=>q
theorem eZ.laid(x:eZ P w H h)(k:∀b u,h.get? b=aA u->h'.get? b=aA u)(hp:h.objs.size<=a)(new:hU P w (bE H a o) h' a o):eZ P w (bE H a o) h':=λb u e=>by
 have hn:=x.fresh hp;by_cases hb:b=a
 .subst hb;rw[gI]at e;cases e;exact new
 .rw[bX hb]at e;exact(x b u e).uS (λc v _ q=>k c v q) (λc q=>by rw[bX (jN q hn)];exact q) λc xs q=>by rw[bX (jN q hn)];exact q
def Rd(H:Hp)(a:Addr)(u:HO):Prop:=H a=aA u\/∃o,H a=aA (.cZ o u)
theorem Rd.ok{u:HO}(r:Rd H a u)(x:eZ P w H h):hU P w H h a u:=by
 rcases r with r|⟨o,r⟩
 .exact x a u r
 .obtain⟨_,q⟩:=x a _ r;exact q
def dk:Option HO->Prop
 |some (.lst _)=>True
 |some (.dK _)=>True
 |some (.dT _)=>True
 |some (.set _ _)=>True
 |some (.ins _ _ _)=>True
 |some (.ext _)=>True
 |_=>False
section
variable {x e:Addr}{o':HO}
theorem eZ.write(ok:eZ P w H h)(mu:dk (H x))(he:e=x\/H e=aA (.own x))(k:∀b u,b≠e->h.get? b=aA u->h'.get? b=aA u)(heo:∃u,h'.get? e=aA u)
  (new:hU P w (bE H x o') h' x o'):eZ P w (bE H x o') h':=λb u q=>by
 have d:∀c y,H c=aA (.own y)->c≠x:=λc y r z=>by subst z;rw[r]at mu;exact mu
 have f:∀c xs,H c=aA (.tup xs)->c≠x:=λc xs r z=>by subst z;rw[r]at mu;exact mu
 by_cases hb:b=x
 .subst hb;rw[gI]at q;cases q;exact new
 .rw[bX hb]at q;by_cases a:b=e
  .have g:H b=aA (.own x):=by
    rcases he with z|z
    .exact absurd (a.trans z) hb
    .rw[a];exact z
   rw[q]at g;cases g;obtain⟨v,i⟩:=heo;exact⟨v,a▸i⟩
  .refine(ok b u q).uS (λc v hc r=>k c v ?_ r) (λc r=>by rw[bX (d c b r)];exact r) λc xs r=>by rw[bX (f c xs r)];exact r
   rcases hc with rfl|hc
   .exact a
   .rintro rfl
    rcases he with z|z
    .exact d c b hc z
    .rw[hc]at z;cases z;exact hb rfl
end
structure Un(fs ex:S1)(H H':Hp)(h h':bS):Prop where
 keep:∀b o,h.get? b=aA o->H b=aD->b∉fs->b∉ex->h'.get? b=aA o
 slot:∀b o,h.get? b=aA o->H b=aD->b∈fs->b∉ex->∃sl,h'.get? b=aA { o with slots:=sl }
 free:∀b o,h.get? b=aA o->H b=aD->b∉ex->H' b=aD
 there:∀b o,h.get? b=aA o->b∉ex->∃o',h'.get? b=aA o'
 uW:∀b xs,H b=aA (.tup xs)->H' b=aA (.tup xs)
 pZ:∀b o u,H b=aA (.cZ o u)->H' b=aA (.cZ o u)
 uU:∀b ps,H b=aA (.ae ps)->∃more,H' b=aA (.ae<|ps++more)
section
variable {fs fs' ex ex':S1}{H1 H2:Hp}{h1 h2:bS}{x e:Addr}
theorem Un.any(u:Un fs ex H H1 h h1){ob:Obj}(q:h.get? b=aA ob)(n:H b=aD)(hx:b∉ex):∃sl,h1.get? b=aA { ob with slots:=sl }:=by
 by_cases hb:b∈fs
 .exact u.slot b ob q n hb hx
 .exact⟨ob.slots,u.keep b ob q n hb hx⟩
theorem Un.kept(k:∀b u,h.get? b=aA u->h'.get? b=aA u):Un fs ex H H h h':=
 ⟨λb ob q _ _ _=>k b ob q,λb ob q _ _ _=>⟨ob.slots,k b ob q⟩,λ_ _ _ n _=>n,λb ob q _=>⟨ob,k b ob q⟩,λ_ _ q=>q,λ_ _ _ q=>q,λ_ ps q=>⟨#[],by rw[q];simp⟩⟩
theorem Un.refl:Un fs ex H H h h:=Un.kept λ_ _ q=>q
theorem Un.laid(k:∀b u,h.get? b=aA u->h'.get? b=aA u)(hp:h.objs.size<=a)(hn:H a=aD):Un fs ex H (bE H a o) h h' where
 keep:=λb u q _ _ _=>k b u q
 slot:=λb u q _ _ _=>⟨u.slots,k b u q⟩
 free:=λb u q n _=>by rw[bX (cC<|bF (dF q) hp)];exact n
 there:=λb u q _=>⟨u,k b u q⟩
 uW:=λb xs q=>by rw[bX (jN q hn)];exact q
 pZ:=λb u xs q=>by rw[bX (jN q hn)];exact q
 uU:=λb ps q=>⟨#[],by rw[bX (jN q hn),q];simp⟩
theorem Un.write(mu:dk (H x))(he:e=x\/H e=aA (.own x))(k:∀b u,b≠e->h.get? b=aA u->h'.get? b=aA u)(heo:∃u,h'.get? e=aA u):Un fs ex H (bE H x o) h h':=by
 have c:∀b,H b=aD->b≠x:=λb n z=>by subst z;rw[n]at mu;exact mu
 have hb:∀b,H b=aD->b≠e:=λb n z=>by
  subst z;rcases he with r|r
  .exact c b n r
  .rw[n]at r;cases r
 have hm:∀b u,H b=aA u->¬dk (aA u)->b≠x:=λb u q nm z=>by subst z;rw[q]at mu;exact nm mu
 refine⟨λb u q n _ _=>k b u (hb b n) q,λb u q n _ _=>⟨u.slots,k b u (hb b n) q⟩,λb u q n _=>by rw[bX (c b n)];exact n,λb u q _=>?_,
  λb xs q=>by rw[bX (hm b _ q λz=>z)];exact q,λb u xs q=>by rw[bX (hm b _ q λz=>z)];exact q,λb ps q=>⟨#[],by rw[bX (hm b _ q λz=>z),q];simp⟩⟩
 by_cases a:b=e
 .subst a;exact heo
 .exact⟨u,k b u a q⟩
end
def Au(h:bS)(H:Hp):S1:=(Pk h.objs.size).filter λa=>(H a).isSome
def wI(h:bS)(H:Hp):bS:=W.hideAll h (Au h H)
theorem t4(h:bS)(H:Hp):(wI h H).objs.size=h.objs.size:=W.hideAll_size _ _
theorem s9{o:Obj}(e:h.get? b=aA o)(n:H b=aD):(wI h H).get? b=aA o:=
 W.hideAll_get _ e λhm=>by have q:=(List.mem_filter.mp hm).2;rw[n]at q;simp at q
theorem M0{o:Obj}(e:(wI h H).get? b=aA o):h.get? b=aA o/\H b=aD:=by
 have a:=W.of_hideAll (Au h H) e;refine⟨a,?_⟩;cases q:H b with
 |none=>rfl|some x=>have hm:b∈Au h H:=List.mem_filter.mpr ⟨List.mem_range.mpr (dF a),by simp[q]⟩;have z:(wI h H).get? b=aD:=W.hideAll_none (Au h H) hm;rw[z]at e;cases e
structure Mod(K:bH)(mg:Str->WM)(base:bS):Prop where
 gc:K.In base
 glob:base.Ns iW mg
 blt:∃mb,base.Ns Qs mb/\∀x:Str,x≠"__name__"->mb x=mT x
 nolimit:base.NoLimit
structure Cx where
 prog:cD
 w:bW
 K:bH
 mg:Str->WM
 base:bS
 A:cR
 N:WL
 s₀:aK
 H₀:Hp
 env:Env
 outer:Wl
 stack:Wl
 ex:S1
 fn:Str->Bool
 calm:Bool
 pn:Fw
 xe:Value->aK->Prop
variable {X:Cx}
def pY(l:Wl):S1:=l.filterMap (·.frame)
noncomputable abbrev Cx.fs(X:Cx):S1:=pY X.outer
def mj(sc:gK)(x:Str):Prop:=sc.names.lookup x=aA .local\/sc.names.lookup x=aA .cell\/sc.names.lookup x=aA .free
def vO(sc:gK)(x:Str):Prop:=sc.names.lookup x=aA .local\/sc.names.lookup x=aA .cell
def MN(env:Env)(h:bS)(m:Str->WM)(x:Str)(u:Value):Prop:=
 (env.kindOf x=aA .local/\m x=aA u)\/((env.kindOf x=aA .cell\/env.kindOf x=aA .free)/\∃c,env.cells.lookup x=aA c/\h.IsCell c (aA u))
structure Cx.Ok(X:Cx):Prop where
 mod:Mod X.K X.mg X.base
 kind:X.env.scope.kind = .function
 glob:X.env.globals=iW
 blt:X.env.builtins=Qs
 above:X.s₀.heap.objs.size<=X.env.locals
 inj:∀x y c,X.env.cells.lookup x=aA c->X.env.cells.lookup y=aA c->x=y
 has:∀x,(X.env.kindOf x=aA .cell\/X.env.kindOf x=aA .free)->∃c,X.env.cells.lookup x=aA c
 wg:∀x c,X.fn x=aB->X.env.cells.lookup x=aA c->X.s₀.heap.objs.size<=c
 hd:X.calm=aB->X.A.handled=aD
 frames:X.A.frames=aA X.stack
 Mg:X.stack=X.outer\/(X.stack=X.env::X.outer/\X.env.frame=aA X.env.locals)
 xm:∀b∈X.ex,b≠X.env.locals/\∀x c,X.env.cells.lookup x=aA c->c≠b
 bs:∀b o,X.base.get? b=aA o->X.s₀.heap.get? b=aA o/\X.H₀ b=aD
 vW:X.base.objs.size<=X.s₀.heap.objs.size
 ze:∀b o,X.base.get? b=aA o->b∉X.ex
 ny:∀b∈X.ex,b∉X.fs
 qA:X.s₀.heap.FunFrames X.base X.outer
 fq:∀b∈X.fs,X.H₀ b=aD
structure Inv(X:Cx)(pins:Fw)(Z:List (Option V))(H:Hp)(s:aK):Prop where
 ok:X.Ok
 os:s.os=X.s₀.os
 bare:vC s.gens
 base:Un X.fs X.ex X.H₀ H X.s₀.heap s.heap
 loc:∃m,s.heap.Ns X.env.locals m/\∀(i:Nat) (x:Str) (v:V),X.N[i]?=aA x->Z[i]?=aA (aA v)->mj X.env.scope x->∃u,RelV v u/\MN X.env s.heap m x u
 cell:∀x c,X.env.cells.lookup x=aA c->∃v,s.heap.IsCell c v
 free:H X.env.locals=aD
 pX:∀x c,X.env.cells.lookup x=aA c->H c=aD
 pin:∀p∈X.pn++pins,s.heap.get? p.1=aA p.2/\H p.1=aD/\p.1≠X.env.locals/\p.1∉X.fs/\∀v,p.2.data ≠ .cell v
 aZ:eZ X.prog X.w H s.heap
 len:Z.length=X.N.length
section
variable {Z:List (Option V)}
theorem Cx.Ok.L0(ok:X.Ok){o:Obj}(e:X.base.get? b=aA o):b∉X.fs:=λhb=>by have:=(ok.qA.mem hb).1;rw[e]at this;cases this
theorem Inv.bs(I:Inv X pins Z H s):∀b o,X.base.get? b=aA o->s.heap.get? b=aA o/\H b=aD:=λb o e=>
 ⟨I.base.keep b o (I.ok.bs b o e).1 (I.ok.bs b o e).2 (I.ok.L0 e) (I.ok.ze b o e),I.base.free b o (I.ok.bs b o e).1 (I.ok.bs b o e).2 (I.ok.ze b o e)⟩
theorem Inv.bk(I:Inv X pins Z H s):∀b o,X.base.get? b=aA o->s.heap.get? b=aA o:=λb o e=>(I.bs b o e).1
theorem Inv.mod(I:Inv X pins Z H s):Mod X.K X.mg X.base:=I.ok.mod
theorem Inv.fM(I:Inv X pins Z H s):X.K.In s.heap:=I.ok.mod.gc.keeps I.bk
theorem Inv.lt(I:Inv X pins Z H s):X.env.locals<s.heap.objs.size:=let ⟨_,hn,_⟩:=I.loc;hn.lt
theorem Inv.sz(I:Inv X pins Z H s):X.s₀.heap.objs.size<=s.heap.objs.size:=dR I.ok.above (mR I.lt)
theorem Inv.L4(I:Inv X pins Z H s)(h:s.heap.objs.size<=a):a∉X.fs:=λhb=>by obtain⟨_,o,b,_⟩:=I.ok.qA.mem hb;exact absurd (bF (dF b)<|dR I.sz h)<|oH _
theorem Inv.yL(I:Inv X pins Z H s):∀x c,X.env.cells.lookup x=aA c->c≠X.env.locals:=λx c e z=>by obtain⟨v,o,d,hd⟩:=I.cell x c e;obtain⟨m,⟨f,g,h,a,b,_⟩,_⟩:=I.loc;rw[z,a]at d;cases d;rw[b]at hd;cases hd
theorem Inv.qA(I:Inv X pins Z H s):s.heap.FunFrames X.base X.outer:=by
 have all:∀l,(∀b∈pY l,b∈X.fs)->X.s₀.heap.FunFrames X.base l->s.heap.FunFrames X.base l:=by
  intro l;induction l with
  |nil=>intro _ _;trivial|cons env r f=>intro d hl;obtain⟨g,⟨L,o,a,hn,h,hd⟩,hr⟩:=hl;have c:=d L (by unfold pY;rw[mD,a];exact fS);obtain⟨sl,e⟩:=I.base.slot L o h (I.ok.fq L c) c λz=>I.ok.ny L z c;exact⟨g,⟨L,_,a,hn,e,hd⟩,f (λb hb=>d b (by unfold pY;rw[mD,a];exact iI _ hb)) hr⟩
 exact all X.outer (λ_ hb=>hb) I.ok.qA
theorem Inv.stack(I:Inv X pins Z H s):s.heap.FunFrames X.base X.stack:=by
 rcases I.ok.Mg with e|⟨e,a⟩
 .rw[e];exact I.qA
 .rw[e];obtain⟨m,hn,_⟩:=I.loc;exact .cons (by rw[I.ok.kind];decide) a hn (Heap.get?_none_of_le<|dR I.ok.vW I.ok.above) I.qA
theorem Inv.Mh(I:Inv X pins Z H s):∀b∈pY X.stack,b∈X.env.locals::X.fs:=λb hb=>by
 rcases I.ok.Mg with e|⟨e,a⟩
 .rw[e]at hb;exact iI _ hb
 .rw[e]at hb;unfold pY at hb;rw[mD,a]at hb;exact hb
theorem Inv.FQ(I:Inv X pins Z H s):∀b∈pY X.stack,H b=aD:=λb hb=>by
 rcases List.mem_cons.mp (I.Mh b hb)with e|hb
 .rw[e];exact I.free
 .obtain⟨_,o,a,_⟩:=I.ok.qA.mem hb;exact I.base.free b o a (I.ok.fq b hb) λz=>I.ok.ny b z hb
theorem Inv.step{ch:S1}(I:Inv X pins Z H s)
  (hch:∀b∈ch,(b∈X.ex\/X.s₀.heap.objs.size<=b)/\b≠X.env.locals/\(∀x c,X.env.cells.lookup x=aA c->c≠b)/\∀p∈X.pn++pins,p.1≠b)
  (keep:∀b o,b≠X.env.locals->b∉X.fs->b∉ch->s.heap.get? b=aA o->H b=aD->h'.get? b=aA o)
  (slot:∀b o,b≠X.env.locals->b∈X.fs->b∉ch->s.heap.get? b=aA o->H b=aD->∃sl,h'.get? b=aA { o with slots:=sl })(free:∀b o,b∉ch->s.heap.get? b=aA o->H b=aD->H' b=aD)
  (there:∀b o,b∉ch->s.heap.get? b=aA o->∃o',h'.get? b=aA o')
  (uW:∀b xs,H b=aA (.tup xs)->H' b=aA (.tup xs))(pZ:∀b o u,H b=aA (.cZ o u)->H' b=aA (.cZ o u))(uU:∀b ps,H b=aA (.ae ps)->∃more,H' b=aA (.ae<|ps++more))
  (ns:∀m,s.heap.Ns X.env.locals m->h'.Ns X.env.locals m)(aZ:eZ X.prog X.w H' h')(hg:vC g') :
  Inv X pins Z H' { s with heap:=h',gens:=g',drawn:=d',toks:=t' }:=by
 have t:∀b o,X.s₀.heap.get? b=aA o->b≠X.env.locals:=λb o e=>cC (bF (dF e) I.ok.above);have g:∀b o,X.s₀.heap.get? b=aA o->b∉X.ex->b∉ch:=λb o e a hb=>by
  rcases(hch b hb).1 with z|z
  .exact a z
  .exact absurd (bF (dF e) z)<|oH _
 have cellK:∀x c,X.env.cells.lookup x=aA c->∀v,s.heap.IsCell c v->h'.IsCell c v:=λx c e v ⟨o,j,hd⟩=>by
  have f:=λz=>(hch c z).2.2.1 x c e rfl;by_cases A:c∈X.fs
  .obtain⟨sl,q⟩:=slot c o (I.yL x c e) A f j (I.pX x c e);exact⟨_,q,hd⟩
  .exact⟨o,keep c o (I.yL x c e) A f j (I.pX x c e),hd⟩
 refine⟨I.ok,I.os,hg,⟨λb o e n hb a=>?_,λb o e n hb a=>?_,λb o e n a=>?_,λb o e a=>?_,λb xs e=>uW b xs (I.base.uW b xs e),λb o xs e=>pZ b o xs (I.base.pZ b o xs e),λb ps e=>?_⟩,?_,λx c e=>?_,?_,λx c e=>?_,λp B=>?_,aZ,I.len⟩
 .exact keep b o (t b o e) hb (g b o e a) (I.base.keep b o e n hb a)<|I.base.free b o e n a
 .obtain⟨sl,h⟩:=I.base.slot b o e n hb a;obtain⟨y,w⟩:=slot b _ (t b o e) hb (g b o e a) h (I.base.free b o e n a);exact⟨y,w⟩
 .obtain⟨o',h⟩:=I.base.there b o e a;exact free b o' (g b o e a) h<|I.base.free b o e n a
 .obtain⟨o',h⟩:=I.base.there b o e a;exact there b o' (g b o e a) h
 .obtain⟨C,h⟩:=I.base.uU b ps e;obtain⟨D,w⟩:=uU b _ h;exact⟨C++D,by rw[w,Array.append_assoc]⟩
 .obtain⟨m,hn,hl⟩:=I.loc;refine⟨m,ns m hn,λi x v h w E=>?_⟩;obtain⟨u,r,l⟩:=hl i x v h w E;refine⟨u,r,?_⟩;rcases l with l|⟨k,c,e,z⟩
  .exact .inl l
  .exact .inr ⟨k,c,e,cellK x c e _ z⟩
 .obtain⟨v,z⟩:=I.cell x c e;exact⟨v,cellK x c e v z⟩
 .obtain⟨m,⟨o,_,_,j,_⟩,_⟩:=I.loc;exact free _ o (λz=>(hch _ z).2.1 rfl) j I.free
 .obtain⟨v,o,j,hd⟩:=I.cell x c e;exact free c o (λz=>(hch c z).2.2.1 x c e rfl) j<|I.pX x c e
 .obtain⟨e,n,ne,nf,d⟩:=I.pin p B;have f:=λz=>(hch p.1 z).2.2.2 p B rfl;exact⟨keep p.1 p.2 ne nf f e n,free p.1 p.2 f e n,ne,nf,d⟩
theorem Inv.un(I:Inv X pins Z H s)(u:Un X.fs [] H H' s.heap h')(aZ:eZ X.prog X.w H' h'):Inv X pins Z H' { s with heap:=h',toks:=t' }:=by
 obtain⟨m,⟨o,i,j,f,r⟩,_⟩:=id I.loc;obtain⟨sl,g⟩:=u.any f I.free (by simp);exact I.step (ch:=[]) (nofun) (λb o _ hb _ e n=>u.keep b o e n hb (by simp)) (λb o _ hb _ e n=>u.slot b o e n hb (by simp)) (λb o _ e n=>u.free b o e n (by simp)) (λb o _ e=>u.there b o e (by simp)) u.uW u.pZ u.uU (λk hm=>by obtain⟨l,c,d,a,h⟩:=hm;rw[f]at a;cases a;exact⟨_,c,d,g,h⟩) aZ I.bare
theorem Inv.call{ch:S1}(I:Inv X pins Z H s)(u:Un (pY X.stack) ch H H' s.heap h')(aZ:eZ X.prog X.w H' h')(hg:vC g')
  (hch:∀b∈ch,(b∈X.ex\/X.s₀.heap.objs.size<=b)/\b≠X.env.locals/\(∀x c,X.env.cells.lookup x=aA c->c≠b)/\∀p∈X.pn++pins,p.1≠b) :
  Inv X pins Z H' { s with heap:=h',gens:=g',drawn:=d',toks:=t' }:=by
 obtain⟨m,⟨o,k,l,i,r⟩,_⟩:=id I.loc;obtain⟨sl,f⟩:=u.any i I.free λz=>(hch _ z).2.1 rfl;exact I.step hch (λb o f hb a e n=>u.keep b o e n (λz=>(List.mem_cons.mp<|I.Mh b z).elim f hb) a) (λb o _ _ a e n=>u.any e n a) (λb o a e n=>u.free b o e n a) (λb o a e=>u.there b o e a) u.uW u.pZ u.uU (λq hm=>by obtain⟨t,g,h,d,j⟩:=hm;rw[i]at d;cases d;exact⟨_,g,h,f,j⟩) aZ hg
theorem Inv.turned(I:Inv X pins Z H s)(k:∀b o,b≠it->s.heap.get? b=aA o->h'.get? b=aA o)(hn:H it=aD)(hL:it≠X.env.locals)
  (h1:it∈X.ex\/X.s₀.heap.objs.size<=it)(h2:∀x c,X.env.cells.lookup x=aA c->c≠it)(h3:∀p∈X.pn++pins,p.1≠it):Inv X pins Z H { s with heap:=h',toks:=t' }:=by
 have d:∀b u,H b=aA u->b≠it:=λb u e z=>by rw[z,hn]at e;cases e
 refine I.step (ch:=[it]) (λb hb=>?_) (λb o _ _ a e _=>k b o (λz=>a (by simp[z])) e) (λb o _ _ a e _=>⟨o.slots,k b o (λz=>a (by simp[z])) e⟩) (λ_ _ _ _ n=>n)
  (λb o a e=>⟨o,k b o (λz=>a (by simp[z])) e⟩) (λ_ _ e=>e) (λ_ _ _ e=>e) (λb ps e=>⟨#[],by rw[e];simp⟩) (λm hm=>?_) (λb u e=>?_) I.bare
 .have e:b=it:=by simpa using hb
  subst e;exact⟨h1,hL,h2,h3⟩
 .obtain⟨o,f,g,h,r⟩:=hm;exact⟨o,f,g,k _ o (mE hL) h,r⟩
 .refine(I.aZ b u e).uS (λc v a q=>k c v ?_ q) (λ_ q=>q) λ_ _ q=>q;rcases a with z|z
  .rw[z];exact d b u e
  .exact d c _ z
theorem Inv.tok(I:Inv X pins Z H s)(t:Nat):Inv X pins Z H { s with toks:=t }:=I.un Un.refl I.aZ
theorem Inv.kept{t':Nat}(I:Inv X pins Z H s)(k:∀b u,s.heap.get? b=aA u->h'.get? b=aA u):Inv X pins Z H { s with heap:=h',toks:=t' }:=I.un (Un.kept k) (I.aZ.kept k)
theorem Inv.laid{a:Addr}{o:HO}{t':Nat}(I:Inv X pins Z H s)(k:∀b u,s.heap.get? b=aA u->h'.get? b=aA u)(hp:s.heap.objs.size<=a)(new:hU X.prog X.w (bE H a o) h' a o) :
 Inv X pins Z (bE H a o) { s with heap:=h',toks:=t' }:=I.un (Un.laid k hp<|I.aZ.fresh hp) (I.aZ.laid k hp new)
theorem Inv.write{x e:Addr}{o:HO}{t':Nat}(I:Inv X pins Z H s)(mu:dk (H x))(he:e=x\/H e=aA (.own x))(k:∀b u,b≠e->s.heap.get? b=aA u->h'.get? b=aA u)(heo:∃u,h'.get? e=aA u)
 (new:hU X.prog X.w (bE H x o) h' x o):Inv X pins Z (bE H x o) { s with heap:=h',toks:=t' }:=I.un (Un.write mu he k heo) (I.aZ.write mu he k heo new)
theorem Inv.gy{pins':Fw}(I:Inv X pins Z H s)(h:∀p∈pins',s.heap.get? p.1=aA p.2/\H p.1=aD/\p.1≠X.env.locals/\p.1∉X.fs/\∀v,p.2.data ≠ .cell v):Inv X pins' Z H s:=
 ⟨I.ok,I.os,I.bare,I.base,I.loc,I.cell,I.free,I.pX,λp a=>(List.mem_append.mp a).elim (λz=>I.pin p (xJ _ z)) (h p),I.aZ,I.len⟩
theorem BF(hN:N.Nodup)(a:N[i]?=aA x)(b:N[j]?=aA x):i=j:=by obtain⟨e,c⟩:=List.getElem?_eq_some_iff.mp a;obtain⟨f,d⟩:=List.getElem?_eq_some_iff.mp b;exact(Bz hN).mp (c.trans d.symm)
theorem aJm{M:Model}{Q:Unit->aK->Prop}(I:Inv X pins Z H s)(hN:X.N.Nodup)(hi:X.N[i]?=aA x)(hx:vO X.env.scope x)(r:RelV v u)
  (h:∀s',Inv X pins (Z.set i<|aA v) H s'->(∃a,jv a s.heap s'.heap/\(a=X.env.locals\/X.env.cells.lookup x=aA a))->Q () s')(hf:X.fn x=aB\/X.env.scope.names.lookup x=aA .local:=by first|exact .inl rfl|exact .inr rfl|assumption):aU M A (Rg X.env x u) Q E s:=by
 obtain⟨m,hn,hl⟩:=id I.loc;have F:(X.env.scope.kind == .class||(X.env.scope.kind == .module&&X.env.locals != X.env.globals))=aG:=by rw[I.ok.kind];rfl
 have w:i<Z.length:=by rw[I.len];exact(List.getElem?_eq_some_iff.mp hi).1
 have yL:=I.yL;have tracked:∀{a:Addr}{D:bS},(∃o,s.heap.get? a=aA o/\H a=aD)->jv a s.heap D->eZ X.prog X.w H D:=λ{a D} ha f b ob e=>by
  obtain⟨_,_,l⟩:=ha;refine(I.aZ b ob e).uS (λc N hc q=>(f.2 c ?_).trans q) (λ_ q=>q) λ_ _ q=>q;rintro rfl
  rcases hc with rfl|hc
  .rw[l]at e;cases e
  .rw[l]at hc;cases hc
 rcases hx with hk|hk
 .refine wpAny_storeName_local hk hn (λD P f=>?_) F;obtain⟨oL,_,_,R,_⟩:=id hn;refine h _ ⟨I.ok,I.os,I.bare,⟨λb o e n hb hx=>?_,λb o e n hb hx=>?_,I.base.free,λb o e hx=>?_,I.base.uW,I.base.pZ,I.base.uU⟩,⟨_,P,λj y S g t T=>?_⟩,λy c e=>?_,I.free,I.pX,λp U=>?_,tracked ⟨oL,R,I.free⟩ f,by simpa using I.len⟩ ⟨_,f,.inl rfl⟩
  .exact(f.2 b<|cC<|bF (dF e) I.ok.above).trans (I.base.keep b o e n hb hx)
  .obtain⟨sl,g⟩:=I.base.slot b o e n hb hx;exact⟨sl,(f.2 b<|cC<|bF (dF e) I.ok.above).trans g⟩
  .obtain⟨W,g⟩:=I.base.there b o e hx;exact⟨W,(f.2 b<|cC<|bF (dF e) I.ok.above).trans g⟩
  .by_cases B:j=i
   .subst B;rw[hi]at g;cases g;rw[kE w]at t;cases t;exact⟨u,r,.inl ⟨hk,by simp⟩⟩
   .rw[jQ (mE B)]at t;obtain⟨Y,Wu,q⟩:=hl j y S g t T;refine⟨Y,Wu,?_⟩;rcases q with⟨k,e⟩|⟨k,c,e,z⟩
    .refine .inl ⟨k,?_⟩;have:y≠x:=λe=>B (BF hN g<|e▸hi);simp[this,e]
    .exact .inr ⟨k,c,e,z.sameBut f (yL y c e)⟩
  .obtain⟨N,z⟩:=I.cell y c e;exact⟨N,z.sameBut f (yL y c e)⟩
  .obtain⟨e,n,ne,nf,d⟩:=I.pin p U;exact⟨(f.2 p.1 ne).trans e,n,ne,nf,d⟩
 .have C:X.fn x=aB:=by
   rcases hf with z|z
   .exact z
   .rw[z]at hk;cases hk
  obtain⟨c,hc⟩:=I.ok.has x (.inl hk);obtain⟨N,z⟩:=I.cell x c hc;refine wpAny_storeName_cell I.ok.kind hk hc z<|λD G f=>?_;obtain⟨oc,J,K⟩:=id z;refine h { s with heap:=D } ⟨I.ok,I.os,I.bare,⟨λb o e n hb hx=>?_,λb o e n hb hx=>?_,I.base.free,λb o e hx=>?_,I.base.uW,I.base.pZ,I.base.uU⟩,⟨m,hn.sameBut f (mE<|yL x c hc),λj y S g t T=>?_⟩,λy O e=>?_,I.free,I.pX,λp U=>?_,tracked ⟨oc,J,I.pX x c hc⟩ f,by simpa using I.len⟩ ⟨c,f,.inr hc⟩
  .exact(f.2 b<|cC<|bF (dF e)<|I.ok.wg x c C hc).trans (I.base.keep b o e n hb hx)
  .obtain⟨sl,g⟩:=I.base.slot b o e n hb hx;exact⟨sl,(f.2 b<|cC<|bF (dF e)<|I.ok.wg x c C hc).trans g⟩
  .obtain⟨W,g⟩:=I.base.there b o e hx;exact⟨W,(f.2 b<|cC<|bF (dF e)<|I.ok.wg x c C hc).trans g⟩
  .by_cases B:j=i
   .subst B;rw[hi]at g;cases g;rw[kE w]at t;cases t;exact⟨u,r,.inr ⟨.inl hk,c,hc,G⟩⟩
   .rw[jQ (mE B)]at t;obtain⟨Y,Wu,q⟩:=hl j y S g t T;refine⟨Y,Wu,?_⟩;rcases q with q|⟨k,O,e,z'⟩
    .exact .inl q
    .refine .inr ⟨k,O,e,z'.sameBut f ?_⟩;rintro rfl
     exact B<|BF hN g<|I.ok.inj _ _ _ e hc▸hi
  .by_cases L:O=c
   .subst L;exact⟨_,G⟩
   .obtain⟨w2,z2⟩:=I.cell y O e;exact⟨w2,z2.sameBut f L⟩
  .obtain⟨e,n,ne,nf,d⟩:=I.pin p U;refine⟨(f.2 p.1 ?_).trans e,n,ne,nf,d⟩;intro q;rw[q,J]at e;have q':=dJ e;exact d N<|q'▸K
theorem sx{M:Model}{Q:Unit->aK->Prop}(I:Inv X pins Z H s)(hN:X.N.Nodup)(hi:X.N[i]?=aA x)(hx:vO X.env.scope x)(r:RelV v u)
  (h:∀s',Inv X pins (Z.set i<|aA v) H s'->Q () s')(hf:X.fn x=aB\/X.env.scope.names.lookup x=aA .local:=by first|exact .inl rfl|exact .inr rfl|assumption):aU M A (Rg X.env x u) Q E s:=
 aJm I hN hi hx r (λs' a _=>h s' a) hf
theorem Inv.TC{ch:S1}(I:Inv X pins Z H s)(ho:s'.os=s.os)(u:Un (pY X.stack) ch H H' s.heap s'.heap)(aZ:eZ X.prog X.w H' s'.heap)(hg:vC s'.gens)
  (hch:∀b∈ch,(b∈X.ex\/X.s₀.heap.objs.size<=b)/\b≠X.env.locals/\(∀x c,X.env.cells.lookup x=aA c->c≠b)/\∀p∈X.pn++pins,p.1≠b):Inv X pins Z H' s':=by
 obtain⟨d,f,g,h,a⟩:=s';have e:=ho;subst e;exact I.call u aZ hg hch
end
abbrev XK:=Value->Wr->Hp->Prop
abbrev St:=List (Option V)
variable {Z:St}
abbrev VK:=V->Hp->Prop
abbrev TE:=St->Hp->VK->Prop
variable {tb te:TE}
abbrev TT:=St->Hp->(Bool->Hp->Prop)->Prop
variable {tc:TT}
abbrev TA:=St->Hp->(Fx->Hp->Prop)->Prop
structure Ends where
 nx:St->Hp->Prop
 rt:VK
 bk:St->Hp->Prop:=λ_ _=>False
 ct:St->Hp->Prop:=λ_ _=>False
abbrev TS:=Ends->St->Hp->Prop
def EP(X:Cx)(pins:Fw)(Z:St)(Q:VK)(u:Value)(s':aK):Prop:=∃v H',Inv X pins Z H' s'/\RelV v u/\Q v H'
def TP(X:Cx)(pins:Fw)(Z:St)(Q:Bool->Hp->Prop)(b:Bool)(s':aK):Prop:=∃H',Inv X pins Z H' s'/\Q b H'
def AP(X:Cx)(pins:Fw)(Z:St)(Q:Fx->Hp->Prop)(us:Fv)(s':aK):Prop:=∃vs H',Inv X pins Z H' s'/\Vals vs us/\Q vs H'
def SP(X:Cx)(pins:Fw)(D:Ends)(f:Flow)(s':aK):Prop:=
 match f with
 |.next=>∃Z' H',Inv X pins Z' H' s'/\D.nx Z' H'
 |.brk=>∃Z' H',Inv X pins Z' H' s'/\D.bk Z' H'
 |.cont=>∃Z' H',Inv X pins Z' H' s'/\D.ct Z' H'
 |.ret u=>∃v Z' H',Inv X pins Z' H' s'/\RelV v u/\D.rt v H'
def PE(X:Cx)(e:aI)(t:TE):Prop:=
 ∀(pins:Fw) (s:aK) (Z:St) (H:Hp) (Q:VK),Inv X pins Z H s->t Z H Q->aU (aY X.prog X.w) X.A (eval e X.env) (EP X pins Z Q) X.xe s
def PT(X:Cx)(e:aI)(t:TT):Prop:=
 ∀(pins:Fw) (s:aK) (Z:St) (H:Hp) (Q:Bool->Hp->Prop),Inv X pins Z H s->t Z H Q->aU (aY X.prog X.w) X.A (isTrue e X.env<|eval e X.env) (TP X pins Z Q) X.xe s
def PW(X:Cx)(e:aI)(t:TT):Prop:=
 ∀(whole:Sem Value) (pins:Fw) (s:aK) (Z:St) (H:Hp) (Q:Bool->Hp->Prop),Inv X pins Z H s->t Z H Q->aU (aY X.prog X.w) X.A (isTrue e X.env whole) (TP X pins Z Q) X.xe s
theorem PW.pt{t:TT}(h:PW X e t):PT X e t:=h _
def PA(X:Cx)(es:List aI)(t:TA):Prop:=
 ∀(pos:Pos) (pins:Fw) (s:aK) (Z:St) (H:Hp) (Q:Fx->Hp->Prop),Inv X pins Z H s->t Z H Q->aU (aY X.prog X.w) X.A (spliced<|lN pos<|eC es X.env) (AP X pins Z Q) X.xe s
def PS(X:Cx)(st:Stmt)(t:TS):Prop:=
 ∀(pins:Fw) (s:aK) (Z:St) (H:Hp) (D:Ends),Inv X pins Z H s->t D Z H->aU (aY X.prog X.w) X.A (exec st X.env) (SP X pins D) X.xe s
def rS(X:Cx)(st:WN)(t:TS):Prop:=
 ∀(pins:Fw) (s:aK) (Z:St) (H:Hp) (D:Ends),Inv X pins Z H s->t D Z H->aU (aY X.prog X.w) X.A (execs st X.env) (SP X pins D) X.xe s
theorem bA{α:Type}{t:Sem α}{Q Q':α->aK->Prop}{M:Model}(h:aU M A t Q E s)(hQ:∀a s,Q a s->Q' a s):aU M A t Q' E s:=vd h hQ λ_ _ x=>x
section
def aKz(i:Nat):TE:=λZ H Q=>∃v,Z[i]?=aA (aA v)/\Q v H
def tC(v:V):TE:=λ_ H Q=>Q v H
theorem X0(hN:X.N[i]?=aA x)(hv:mj X.env.scope x)(hd:(x==("__debug__":Str))=aG:=by decide)(hcd:(x==("__classdict__":Str))=aG:=by decide):PE X (.Name x pos) (aKz i):=by
 intro pins s d H Q I h;obtain⟨v,e,h⟩:=h;obtain⟨m,hn,hl⟩:=I.loc;obtain⟨u,r,l⟩:=hl i x v hN e hv;have fin:EP X pins d Q u s:=⟨v,H,I,r,h⟩;rcases l with⟨hk,hm⟩|⟨hk,c,b,a⟩
 .exact Rj (MF I.ok.kind hk hn hm fin) hd
 .rcases hk with hk|hk
  .exact Rj (ME I.ok.kind hk b a fin) hd
  .exact Rj (wpAny_loadName_free I.ok.kind hk b a fin hcd) hd
theorem CA{i j pos}:PE X (.Constant (.int i) j pos) (tC<|.int i):=λ_ _ _ H _ I h=>wpAny_Constant_int ⟨.int i,H,I.tok _,⟨_,rfl⟩,h⟩
theorem Jl{b j pos}:PE X (.Constant (.bool b) j pos) (tC<|.bl b):=λ_ _ _ H _ I h=>Constant_bool ⟨.bl b,H,I,rfl,h⟩
theorem Jm{j pos}:PE X (.Constant .none j pos) (tC .aH):=λ_ _ _ H _ I h=>Constant_none ⟨.aH,H,I,rfl,h⟩
theorem Jn{x j pos}:PE X (.Constant (.str x) j pos) (tC<|.str x):=λ_ _ _ H _ I h=>Calls.Constant_str ⟨.str x,H,I.tok _,⟨_,rfl⟩,h⟩
def Gl(X:Cx)(x:Str):Prop:=X.env.kindOf x=aA .globalImplicit
theorem qk(I:Inv X pins Z H s)(hg:Gl X x)(hm:X.mg x=aA u)(h:Q u s)
  (hd:(x==("__debug__":Str))=aG:=by decide):aU (aY X.prog X.w) X.A (eval (.Name x pos) X.env) Q E s:=
 IA I.ok.kind hg (Calls.loadGlobal_global (by rw[I.ok.glob];exact I.mod.glob.keeps I.bk) hm h) hd
theorem zL(I:Inv X pins Z H s)(hg:Gl X x)(hm:X.mg x=aD)(hv:mT x=aA u)(h:Q u s)
  (hn:x≠"__name__":=by decide)(hd:(x==("__debug__":Str))=aG:=by decide):aU (aY X.prog X.w) X.A (eval (.Name x pos) X.env) Q E s:=by
 obtain⟨c,a,b⟩:=I.mod.blt;exact IA I.ok.kind hg (Calls.loadGlobal_builtin (by rw[I.ok.glob];exact I.mod.glob.keeps I.bk) hm (by rw[I.ok.blt];exact a.keeps I.bk) ((b x hn).trans hv) h) hd
theorem BZ(hg:Gl X x)(hm:X.mg x=aA u)(r:RelV v u)(hd:(x==("__debug__":Str))=aG:=by decide):PE X (.Name x pos) (tC v):=
 λ_ _ _ H _ I h=>qk I hg hm ⟨v,H,I,r,h⟩ hd
theorem U1(hg:Gl X x)(hm:X.mg x=aD)(hv:mT x=aA u)(r:RelV v u)(hn:x≠"__name__":=by decide)(hd:(x==("__debug__":Str))=aG:=by decide):PE X (.Name x pos) (tC v):=
 λ_ _ _ H _ I h=>zL I hg hm hv ⟨v,H,I,r,h⟩ hn hd
variable {a b:aI}{ta:TE}
variable {tA tB':TT}{rest:List aI}
def aKa(t u:TT):TT:=λZ H Q=>t Z H λc H1=>if c=aB then u Z H1 Q else Q aG H1
def tOr(t u:TT):TT:=λZ H Q=>t Z H λc H1=>if c=aB then Q aB H1 else u Z H1 Q
def aKq(t:TT):TT:=λZ H Q=>t Z H λc H1=>Q (!c) H1
theorem aBd(ha:PT X a tA):PW X (.BoolOp .And [a] pos) tA:=by
 intro d pins s b H Q I h;refine isTrue_and<|bA (ha pins s b H Q I h) λc s1 e=>?_;cases c with
 |true=>exact isTrue_and_nil e|false=>exact e
theorem aBg(ha:PT X a tA):PW X (.BoolOp .Or [a] pos) tA:=by
 intro d pins s b H Q I h;refine isTrue_or<|bA (ha pins s b H Q I h) λc s1 e=>?_;cases c with
 |false=>exact isTrue_or_nil e|true=>exact e
theorem aBc(ha:PT X a tA)(hb:PW X (.BoolOp .And (b::rest) pos) tB'):PW X (.BoolOp .And (a::b::rest) pos) (aKa tA tB'):=by
 intro g pins s d H Q I h;refine isTrue_and<|bA (ha pins s d H _ I h) λc s1 ⟨H1,e,f⟩=>?_;cases c with
 |true=>exact hb g pins s1 d H1 Q e f|false=>exact⟨H1,e,f⟩
theorem aBf(ha:PT X a tA)(hb:PW X (.BoolOp .Or (b::rest) pos) tB'):PW X (.BoolOp .Or (a::b::rest) pos) (tOr tA tB'):=by
 intro g pins s d H Q I h;refine isTrue_or<|bA (ha pins s d H _ I h) λc s1 ⟨H1,e,f⟩=>?_;cases c with
 |true=>exact⟨H1,e,f⟩|false=>exact hb g pins s1 d H1 Q e f
theorem aAy(ha:PT X a tA):PT X (.UnaryOp .Not a pos) (aKq tA):=by intro pins s b H Q I h;exact isTrue_not<|ha pins s b H (λc H1=>Q (!c) H1) I h
theorem W3{op}{t:TE}(h:PE X a t):PE X (.BoolOp op [a] pos) t:=λpins s b H Q I hw=>BoolOp_one (h pins s b H Q I hw)
def tIf(t:TT)(ta tb:TE):TE:=λZ H Q=>t Z H λc H1=>if c=aB then ta Z H1 Q else tb Z H1 Q
theorem V4(hc:PT X c tA)(ha:PE X a ta)(hb:PE X b tb):PE X (.IfExp c a b pos) (tIf tA ta tb):=by
 intro pins s e H Q I h;refine wpAny_IfExp<|bA (hc pins s e H _ I h) λd s1 ⟨H1,f,g⟩=>?_;cases d with
 |true=>exact ha pins s1 e H1 Q f g|false=>exact hb pins s1 e H1 Q f g
end
def dM(K:bH)(H:Hp)(a:Addr)(xs:Fx):Prop:=
 Rd H a (.lst xs) \/
  ∃(o:Obj) (its:WV) (n:Nat),K.lookup a=aA o/\o.cls = .type "list"/\o.dict=aD/\o.data = .seq its n/\its.size<=sizeLine/\Vals xs its.toList
def eG(K:bH)(H:Hp)(a:Addr)(xs:Fx):Prop:=
 Rd H a (.tup xs) \/
  ∃(o:Obj) (its:WV) (n:Nat),K.lookup a=aA o/\o.cls = .type "tuple"/\o.data = .seq its n/\its.size<=sizeLine/\Vals xs its.toList
def MQ:Value->Option V
 |.none=>aA .aH
 |.bool b=>aA (.bl b)
 |.int i _=>aA (.int i)
 |.str x _=>aA (.str x)
 |.bytes b _=>aA (.mW b)
 |.float b _=>aA (.xq b)
 |.ref a=>aA (.ref a)
 |.type n=>aA (.ty n)
 |_=>aD
theorem RelV.abs{x:V}(r:RelV x u):MQ u=aA x:=by
 cases x with
 |aH=>cases r;rfl|bl _=>cases r;rfl|int _=>obtain⟨t,rfl⟩:=r;rfl|str _=>obtain⟨t,rfl⟩:=r;rfl|mW _=>obtain⟨t,rfl⟩:=r;rfl|xq _=>obtain⟨t,rfl⟩:=r;rfl|ref _=>cases r;rfl|ty _=>cases r;rfl
theorem RelV.inj{x:V}(r:RelV x u)(q:RelV y u):x=y:=dJ (r.abs.symm.trans q.abs)
theorem Vals.inj:∀{xs ys:Fx}{us:Fv},Vals xs us->Vals ys us->xs=ys
 |_,_,_,.nil,.nil=>rfl|_,_,_,.cons r t,.cons a b=>by rw[r.inj a,Vals.inj t b]
section
variable {ys:Fx}
theorem dM.of{K:bH}(h:H a=aA (.lst xs)):dM K H a xs:=.inl (.inl h)
theorem eG.of{K:bH}(h:H a=aA (.tup xs)):eG K H a xs:=.inl (.inl h)
theorem Inv.list(I:Inv X pins Z H s)(h:dM X.K H a xs):∃its:Fv,Vals xs its/\PlainL s.heap a its.toArray/\xs.length<=sizeLine:=by
 rcases h with h|⟨o,its,n,b,c,hd,d,f,r⟩
 .obtain⟨z,its,n,r,e⟩:=h.ok I.aZ;exact⟨its,r,⟨_,n,e,rfl,rfl,rfl⟩,z⟩
 .refine⟨its.toList,r,⟨o,n,I.fM a o b,c,hd,by simpa using d⟩,?_⟩;have e:=r.length;simp only[aq]at e;lia
theorem Inv.tuple(I:Inv X pins Z H s)(h:eG X.K H a xs):∃its:Fv,Vals xs its/\IsTup s.heap a its.toArray/\xs.length<=sizeLine:=by
 rcases h with h|⟨o,its,n,b,c,d,f,r⟩
 .obtain⟨z,its,r,p⟩:=h.ok I.aZ;exact⟨its,r,p,z⟩
 .refine⟨its.toList,r,⟨o,I.fM a o b,c,n,by simpa using d⟩,?_⟩;have e:=r.length;simp only[aq]at e;omega
theorem Inv.AF(I:Inv X pins Z H s)(h:dM X.K H a xs)(h':dM X.K H a ys):xs=ys:=by
 obtain⟨c,r,⟨o,n,e,_,_,d⟩,_⟩:=I.list h;obtain⟨b,i,⟨j,k,f,_,_,g⟩,_⟩:=I.list h';rw[e]at f;cases f;rw[d]at g;injection g with d1 _;have:c=b:=by simpa using congrArg HY d1
 subst this;exact r.inj i
theorem Inv.GO(I:Inv X pins Z H s)(h:eG X.K H a xs)(h':eG X.K H a ys):xs=ys:=by
 obtain⟨c,r,⟨o,e,_,n,d⟩,_⟩:=I.tuple h;obtain⟨b,i,⟨j,f,_,k,g⟩,_⟩:=I.tuple h';rw[e]at f;cases f;rw[d]at g;injection g with d1 _;have:c=b:=by simpa using congrArg HY d1
 subst this;exact r.inj i
end
section
variable {st:Stmt}{rest:WN}{t u:TS}
def GA:TS:=λD Z H=>D.nx Z H
def aKx(t u:TS):TS:=λD Z H=>t { D with nx:=u D } Z H
theorem aAv:rS X [] GA:=λ_ _ a H _ I h=>Rn ⟨a,H,I,h⟩
theorem aAu(h1:PS X st t)(h2:rS X rest u):rS X (st::rest) (aKx t u):=by
 intro pins s b H D I h;refine wpAny_execs_cons<|bA (h1 pins s b H { D with nx:=u D } I h) λf s1 q=>?_;cases f with
 |next=>obtain⟨a,c,d,q⟩:=q;exact h2 pins s1 a c D d q
 |ret v=>exact q|brk=>exact q|cont=>exact q
def aKe:TS:=λD Z H=>D.bk Z H
def aKf:TS:=λD Z H=>D.ct Z H
theorem aAo:PS X (.Pass pos) GA:=λ_ _ a H _ I h=>wpAny_Pass ⟨a,H,I,h⟩
theorem aAf:PS X (.Break pos) aKe:=λ_ _ a H _ I h=>wpAny_Break ⟨a,H,I,h⟩
theorem aAg:PS X (.Continue pos) aKf:=λ_ _ a H _ I h=>wpAny_Continue ⟨a,H,I,h⟩
theorem Inv.quiet(I:Inv X pins Z H s):interactive X.env=aG:=by simp[interactive,I.ok.kind]
def aKi(te:TE):TS:=λD Z H=>te Z H λ_ H1=>D.nx Z H1
theorem aAh(he:PE X e te)(hs:vM e aD pos.line X.env=pure aG:=by rfl):PS X (.Expr e pos) (aKi te):=by intro pins s a H D I h;exact wpAny_Expr_any (bA (he pins s a H _ I h) λv s1 ⟨x,H1,b,d,c⟩=>⟨a,H1,b,c⟩) I.quiet hs
def aKv(te:TE):TS:=λD Z H=>te Z H D.rt
theorem aAp(he:PE X e te):PS X (.Return (aA e) pos) (aKv te):=by intro pins s a H D I h;exact wpAny_Return_some<|bA (he pins s a H _ I h) λv s1 ⟨x,H1,b,c,d⟩=>⟨x,a,H1,b,c,d⟩
def aKw:TS:=λD _ H=>D.rt .aH H
theorem aAq:PS X (.Return aD pos) aKw:=λ_ _ a H _ I h=>wpAny_Return_none ⟨.aH,a,H,I,rfl,h⟩
def aKm(c:TT)(t u:TS):TS:=λD Z H=>c Z H λb H1=>if b=aB then t D Z H1 else u D Z H1
theorem aAl{a b:WN}(hc:PT X c tc)(ha:rS X a t)(hb:rS X b u):PS X (.If c a b pos) (aKm tc t u):=by
 intro pins s e H D I h;refine wpAny_If<|bA (hc pins s e H _ I h) λd s1 ⟨H1,f,g⟩=>?_;cases d with
 |true=>exact ha pins s1 e H1 D f g|false=>exact hb pins s1 e H1 D f g
def aKo:TS:=λ_ _ _=>False
theorem aAm:PS X st aKo:=λ_ _ _ _ _ _ h=>h.elim
end
abbrev TG:=V->St->Hp->(St->Hp->Prop)->Prop
abbrev yG:=Fx->St->Hp->(St->Hp->Prop)->Prop
def PG(X:Cx)(target:aI)(t:TG):Prop:=
 ∀(pins:Fw) (s:aK) (Z:St) (H:Hp) (v:V) (u:Value) (Q:St->Hp->Prop),Inv X pins Z H s->RelV v u->t v Z H Q ->
  aU (aY X.prog X.w) X.A (bu target X.env u) (λ_ s'=>∃Z' H',Inv X pins Z' H' s'/\Q Z' H') X.xe s
def lz(X:Cx)(ts:List aI)(t:yG):Prop:=
 ∀(pins:Fw) (s:aK) (Z:St) (H:Hp) (vs:Fx) (us:Fv) (Q:St->Hp->Prop),Inv X pins Z H s->Vals vs us->t vs Z H Q ->
  aU (aY X.prog X.w) X.A (LQ ((rQ ts X.env).map (·.2)) us) (λ_ s'=>∃Z' H',Inv X pins Z' H' s'/\Q Z' H') X.xe s
abbrev Dz:=V->V->V->Hp->(Hp->Prop)->Prop
def Dw(X:Cx)(t:Dz):Prop:=
 ∀(pins:Fw) (s:aK) (Z:St) (H:Hp) (o i v:V) (ov iv u:Value) (Q:Hp->Prop),Inv X pins Z H s->RelV o ov->RelV i iv->RelV v u->t o i v H Q ->
  aU (aY X.prog X.w) X.A (setItem ov iv u) (λ_ s'=>∃H',Inv X pins Z H' s'/\Q H') X.xe s
abbrev vq:=V->V->Hp->VK->Prop
def vo(X:Cx)(op:rN)(t:vq):Prop:=
 ∀(pins:Fw) (s:aK) (Z:St) (H:Hp) (x y:V) (v u:Value) (Q:VK),Inv X pins Z H s->RelV x v->RelV y u->t x y H Q ->
  aU (aY X.prog X.w) X.A (Qx op v u) (EP X pins Z Q) X.xe s
def Ye(i:Nat):TG:=λv Z H Q=>Q (Z.set i<|aA v) H
theorem X1(hN:X.N.Nodup)(hi:X.N[i]?=aA x)(hx:vO X.env.scope x)(hf:X.fn x=aB\/X.env.scope.names.lookup x=aA .local:=by first|exact .inl rfl|exact .inr rfl|assumption):PG X (.Name x pos) (Ye i):=by intro pins s b H v u Q I r h;exact MB<|sx I hN hi hx r (λc a=>⟨_,H,a,h⟩) hf
def j5:yG:=λvs Z H Q=>vs=[]/\Q Z H
def j4(t:TG)(u:yG):yG:=λvs Z H Q=>∃v r,vs=v::r/\t v Z H λZ' H'=>u r Z' H' Q
theorem X5:lz X [] j5:=by intro pins s a H b us Q I r h;obtain⟨e,h⟩:=h;subst e;exact LR ⟨a,H,I,h⟩
theorem X4{t:TG}{u:yG}(h1:PG X e t)(h2:lz X es u)
  (hs:(rQ (e::es) X.env).map (·.2)=bu e X.env::(rQ es X.env).map (·.2):=by rfl):lz X (e::es) (j4 t u):=by
 intro pins s b H i us Q I r h;obtain⟨v,j,c,h⟩:=h;subst c;cases r with
 |cons r d=>rw[hs];exact Qr<|bA (h1 pins s b H _ _ _ I r h) λ_ s1 ⟨a,H1,f,g⟩=>h2 pins s1 a H1 _ _ Q f d g
def yb(to ti:TE)(t:Dz):TG:=λv Z H Q=>to Z H λo H1=>ti Z H1 λi H2=>t o i v H2 λH3=>Q Z H3
theorem X3{o i:aI}{to ti:TE}{t:Dz}(ho:PE X o to)(hi:PE X i ti)(hs:Dw X t)
  (ha:∀v,bu (.Subscript o i pos) X.env v=(do
   let ov <- km [v] (eval o X.env)
   let iv <- km [v,ov] (eval i X.env)
   Dg pos
   km [v,ov,iv] (setItem ov iv v)
   release [v,ov,iv] []):=by intro _;rfl):PG X (.Subscript o i pos) (yb to ti t):=by
 intro pins s a H v u Q I r h;refine bB<|pJ<|bA (ho pins s a H _ I h) λov s1 b=>?_;obtain⟨x,H1,c,d,e⟩:=b;refine bB<|pJ<|bA (hi pins s1 a H1 _ c e) λiv s2 b=>?_;obtain⟨y,f,g,j,k⟩:=b;exact bB<|ky<|bB<|pJ<|bA (hs pins s2 a f x y v ov iv u _ g d j r k) λ_ p ⟨l,m,n⟩=>wpAny_release ⟨a,l,m,n⟩
def FV(te:TE)(g:TG):TS:=λD Z H=>te Z H λx H1=>g x Z H1 D.nx
theorem aAd{g:TG}(he:PE X e te)(hg:PG X tg g)(hs:LZ [tg] e pos.line X.env=pure aG:=by rfl)(hw:ko [tg] e X.env=pure aD:=by rfl)
  (h1:(rQ [tg] X.env).map (·.2)=[bu tg X.env]:=by rfl):PS X (.Assign [tg] e pos) (FV te g):=by
 intro pins s a H D I h;refine wpAny_Assign_stores (bA (he pins s a H _ I h) λv s1 ⟨x,H1,b,c,d⟩=>?_) hs hw;rw[h1];exact bA (hg pins s1 a H1 x v _ b c d) λ_ s2 q=>q
def aKt(i j:Nat)(ta:TA):TS:=λD Z H=>ta Z H λvs H1=>∃v w,vs=[v,w]/\D.nx ((Z.set i<|aA v).set j (aA w)) H1
theorem aAn{y:Str}{a b:aI}{ta:TA}{px py pt:Pos}{kt k2 pt2}(hc:X.calm=aB)(hN:X.N.Nodup)(hi:X.N[i]?=aA x)(hj:X.N[j]?=aA y)(hij:i≠j)
  (hx:X.env.scope.names.lookup x=aA .local)(hy:X.env.scope.names.lookup y=aA .local)(ha:PA X [a,b] ta)
  (hw:ko [.Tuple [.Name x px,.Name y py] kt pt] (.Tuple [a,b] k2 pt2) X.env=pure (aA [x,y]))
  (hs:LZ [.Tuple [.Name x px,.Name y py] kt pt] (.Tuple [a,b] k2 pt2) pos.line X.env=pure aG:=by rfl) :
  PS X (.Assign [.Tuple [.Name x px,.Name y py] kt pt] (.Tuple [a,b] k2 pt2) pos) (aKt i j ta):=by
 intro pins s l H D I h;refine bB<|ky ?_;refine bB<|cU ?_;refine bB<|Tuple_<|bA (ha _ pins s l H _ I h) λus s1 n=>?_;obtain⟨G,H1,r,t,f⟩:=n;obtain⟨v,w,u,f⟩:=f;subst u;obtain⟨c,d,rfl,z,g⟩:∃c d,us=[c,d]/\RelV v c/\RelV w d:=by
  cases t with
  |cons p q=>
   cases q with
   |cons A B=>cases B;exact⟨_,_,rfl,p,A⟩
 refine xX ?_ (by show 2<=sizeLine;decide);have C:Inv X pins l H1 { s1 with heap:=s1.heap.push { cls:=.type "tuple",data:=.seq [c,d].toArray } }:=r.kept λb o e=>dO _ e;rw[hw];refine bB<|cU ?_;refine bB<|Rr<|bB<|unpackItems_tuple (items:=#[c,d]) (I.ok.hd hc) (Br s1.heap _) λJ k=>?_;have E:=C.kept (t':=s1.toks) λb o e=>k b o (cC<|dF e) e;refine bB<|Qr<|MC<|sx E hN hj (.inl hy) g (λs2 F=>?_)<|.inr hy;refine Qr<|MC<|sx F hN hi (.inl hx) z (λK m=>LR (cU ?_))<|.inr hx;rw[List.set_comm _ _ (mE hij)]at m;exact⟨_,H1,m,f⟩
def aKc(i:Nat)(te:TE)(ti:vq):TS:=λD Z H=>∃x,Z[i]?=aA (aA x)/\te Z H λy H1=>ti x y H1 λz H2=>D.nx (Z.set i<|aA z) H2
theorem aAe{op:rN}{ti:vq}(hN:X.N.Nodup)(hi:X.N[i]?=aA x)(hx:vO X.env.scope x)(he:PE X e te)(ho:vo X op ti)(hf:X.fn x=aB\/X.env.scope.names.lookup x=aA .local:=by first|exact .inl rfl|exact .inr rfl|assumption) :
  PS X (.AugAssign (.Name x pos') op e pos) (aKc i te ti):=by
 intro pins s j H D I h;obtain⟨v,n,h⟩:=h;obtain⟨m,hn,hl⟩:=I.loc;have f:mj X.env.scope x:=by rcases hx with k|k;exact .inl k;exact .inr<|.inl k
 obtain⟨u,r,l⟩:=hl i x v hi n f;refine wpAny_AugAssign_Name ?_;have go:aU (aY X.prog X.w) X.A (eval e X.env) (λw b=>aU (aY X.prog X.w) X.A (Qx op u w) (λr d=>aU (aY X.prog X.w) X.A (Rg X.env x r) (λ_=>SP X pins D .next) X.xe d) X.xe b) X.xe s:=by refine bA (he pins s j H _ I h) λw s1 g=>?_;obtain⟨y,H1,o,p,q⟩:=g;refine bA (ho pins s1 j H1 v y u w _ o r p q) λz s2 g=>?_;obtain⟨G,t,A,B,C⟩:=g;exact sx A hN hi hx B (λJ E=>⟨_,t,E,C⟩) hf
 rcases l with⟨hk,hm⟩|⟨hk,c,F,a⟩
 .exact MF I.ok.kind hk hn hm go
 .rcases hk with hk|hk
  .exact ME I.ok.kind hk F a go
  .rcases hx with k|k
   .have:X.env.scope.names.lookup x=aA .free:=hk;rw[k]at this;cases this
   .have:X.env.scope.names.lookup x=aA .free:=hk;rw[k]at this;cases this
def Hm(f:Int->Int->Int):vq:=λx y H Q=>∃i j,x = .int i/\y = .int j/\Q (.int<|f i j) H
theorem y3:vo X .Add (Hm λi j=>i+j):=by intro pins s Z H x y v u Q I r1 r2 h;obtain⟨i,j,e1,e2,q⟩:=h;subst e1;subst e2;obtain⟨t,rfl⟩:=r1;obtain⟨t',rfl⟩:=r2;exact iadd_int ⟨.int _,H,I.tok _,⟨_,rfl⟩,q⟩
theorem y4:vo X .Sub (Hm λi j=>i-j):=by intro pins s Z H x y v u Q I r1 r2 h;obtain⟨i,j,e1,e2,q⟩:=h;subst e1;subst e2;obtain⟨t,rfl⟩:=r1;obtain⟨t',rfl⟩:=r2;exact isub_int ⟨.int _,H,I.tok _,⟨_,rfl⟩,q⟩
def aLa(c:TT)(tb:TS):TS:=λD Z H=>∃W:Nat->St->Hp->Prop,(∃m,W m Z H)/\∀m Z H,W m Z H ->
 c Z H λb H1=>if b=aB then∃N:St->Hp->Prop,(∀Z' H',N Z' H'->∃m',m'<m/\W m' Z' H')/\tb { D with nx:=N,ct:=N,bk:=D.nx } Z H1 else D.nx Z H1
theorem aAt{tb:TS}(hp:uo (aY X.prog X.w) X.A X.env X.xe)(hc:PT X c tc)(hb:rS X body tb):PS X (.While c body [] pos) (aLa tc tb):=by
 intro pins s t H D I h;obtain⟨W,⟨m0,w0⟩,turn⟩:=h;refine wpAny_While<|codeAny_whileLoop (λn u=>∃e o,Inv X pins e o u/\W n e o) ?_ m0 ⟨t,H,I,w0⟩;rintro n s1 ⟨d,H1,w,w1⟩
 refine dg hp<|bA (hc pins s1 d H1 _ w<|turn n d H1 w1) λb s2 ⟨p,q,i⟩=>?_;cases b with
 |true=>
  obtain⟨N,r,i⟩:=i;refine dg hp<|bA (hb pins s2 d p _ q i) λf x j=>?_;cases f with
  |next=>obtain⟨a,g,k,l⟩:=j;obtain⟨m,hm,w3⟩:=r a g l;exact⟨m,hm,a,g,k,w3⟩
  |cont=>obtain⟨a,g,k,l⟩:=j;obtain⟨m,hm,w3⟩:=r a g l;exact⟨m,hm,a,g,k,w3⟩
  |brk=>exact j|ret v=>exact j
 |false=>exact Rn ⟨d,p,q,i⟩
structure It where
 go:Nat->Hp->Prop
 uf:Nat->Hp->V->Hp->Prop
 stop:Nat->Hp->Prop
def kJ(X:Cx)(pins:Fw)(H:Hp)(b:Addr):Prop:=
 H b=aD/\b≠X.env.locals/\b∉X.fs/\(b∈X.ex\/X.s₀.heap.objs.size<=b)/\(∀x c,X.env.cells.lookup x=aA c->c≠b)/\∀p∈X.pn++pins,p.1≠b
theorem Inv.wG(I:Inv X pins Z H s)(hb:s.heap.objs.size<=b)(hn:H' b=aD):kJ X pins H' b:=by
 refine⟨hn,tB (bF I.lt hb),I.L4 hb,.inr (dR I.sz hb),λx c e z=>?_,λp a z=>?_⟩
 .obtain⟨v,q⟩:=I.cell x c e;exact absurd (bF q.lt<|z▸hb)<|oH _
 .exact absurd (bF (dF (I.pin p a).1)<|z▸hb)<|oH _
structure Turn(P:cD)(w:bW)(K:bH)(tg:aI)(J:It)(fp:S1)(it:Addr)(tn:Nat->bS->Prop):Prop where
 mem:it∈fp
 obj:∀i h,tn i h->∀b∈fp,∃o,h.get? b=aA o/\∀v,o.data ≠ .cell v
 keep:∀i h h',tn i h->(∀b∈fp,∀o,h.get? b=aA o->h'.get? b=aA o)->tn i h'
 item:∀(X:Cx),X.prog=P->X.w=w->X.K=K->X.calm=aB->∀(i:Nat) (pins:Fw) (s:aK) (Z:St) (H:Hp) (E:Value->aK->Prop),Inv X pins Z H s->(∀b∈fp,kJ X pins H b)->tn i s.heap->J.go i H ->
  aU (aY P w) X.A (xW<|.ref it) (λr s1=>∃u,r=aA u /\
   aU (aY P w) X.A (Qy tg (.ref it) u) (λ_ s2=>∃x H',Inv X pins Z H' s2/\RelV x u/\J.uf i H x H'/\tn (i+1) s2.heap/\∀b∈fp,H' b=aD) E s1) E s
 done:∀(X:Cx),X.prog=P->X.w=w->X.K=K->X.calm=aB->∀(i:Nat) (pins:Fw) (s:aK) (Z:St) (H:Hp) (E:Value->aK->Prop),Inv X pins Z H s->(∀b∈fp,kJ X pins H b)->tn i s.heap->J.stop i H ->
  aU (aY P w) X.A (xW<|.ref it) (λr s1=>r=aD/\Inv X pins Z H s1) E s
 self:∀(A:cR) (i:Nat) (s:aK) (Q:Value->aK->Prop) (E:Value->aK->Prop),tn i s.heap->Q (.ref it) s->aU (aY P w) A (pyIter<|.ref it) Q E s
abbrev TI:=St->Hp->(It->Hp->Prop)->Prop
def Sh(X:Cx)(pins:Fw)(Z:St)(tg:aI)(R:It->Hp->Prop)(itv:Value)(s2:aK):Prop:=
 ∃(it:Addr) (fp:S1) (tn:Nat->bS->Prop) (J:It) (H':Hp),itv = .ref it/\Inv X pins Z H' s2/\Turn X.prog X.w X.K tg J fp it tn/\tn 0 s2.heap/\(∀b∈fp,kJ X pins H' b)/\R J H'
def PI(X:Cx)(tg cO:aI)(wi:TI):Prop:=
 ∀(pins:Fw) (s:aK) (Z:St) (H:Hp) (R:It->Hp->Prop),Inv X pins Z H s->wi Z H R ->
  aU (aY X.prog X.w) X.A (eval cO X.env) (λv s1=>aU (aY X.prog X.w) X.A (pyIter v) (Sh X pins Z tg R) X.xe s1) X.xe s
theorem yd{M:Model}{o:Obj}{n:String}{vs:WV}{Q:Unit->aK->Prop}(ho:s.heap.get? it=aA o)(hc:o.cls = .type n)(hd:o.data = .fields vs)
    (hn:["enumerate","zip","dict_itemiterator","dict_reverseitemiterator","odict_iterator","itertools.zip_longest","itertools.pairwise"].contains n=aG)(hQ:Q () s):aU M A (Qy tg (.ref it) u) Q E s:=by
  cases tg<;>first
    |exact cU hQ
    | (cases u<;>first
        |exact cU hQ
        | (refine bB (wpAny_load ho ?_)
           rw[hc,hd];show aU M A (if(["enumerate","zip","dict_itemiterator","dict_reverseitemiterator","odict_iterator","itertools.zip_longest","itertools.pairwise"].contains n&&vs[0]?==aA (rawInt _))=aB then _ else _) Q E s;rw[if_neg (by intro h;rw[hn]at h;cases h)];exact cU hQ))
def Ds(K:bH)(a:Addr):It:=
 ⟨λi H=>∃xs x,dM K H a xs/\xs[i]?=aA x,λi H x H'=>H'=H/\∀xs,dM K H a xs->xs[i]?=aA x,λi H=>∃xs,dM K H a xs/\xs.length<=i⟩
def Dt(K:bH)(a:Addr):It:=
 ⟨λi H=>∃xs x,eG K H a xs/\xs[i]?=aA x,λi H x H'=>H'=H/\∀xs,eG K H a xs->xs[i]?=aA x,λi H=>∃xs,eG K H a xs/\xs.length<=i⟩
def lu(lo:Int)(n:Nat):It:=⟨λi _=>i<n,λi H x H'=>H'=H/\x = .int (lo+i),λi _=>n<=i⟩
theorem aLx{K:bH}(a it:Addr):Turn P w K tg (Ds K a) [it] it (λi h=>h.IsListIter it a i) where
 mem:=by simp
 obj:=λi h st b hb=>by
  have e:b=it:=by simpa using hb
  subst e;obtain⟨o,e,c,d⟩:=st;exact⟨o,e,λv z=>by rw[d]at z;cases z⟩
 keep:=λi h l st k=>st.at λo e=>k it (by simp) o e
 item:=by intro X m hw n C i pins s D H E I g st q;subst m hw n;obtain⟨xs,x,j,r⟩:=q;obtain⟨t,y,p,F⟩:=I.list j;obtain⟨u,O,G⟩:=y.get r;obtain⟨f0,f1,f2,A,f4,B⟩:=g it (by simp);refine MJ st p.isList (by simpa) λl f J=>?_;have L:Inv X pins D H { s with heap:=l }:=I.turned (λb o hb e=>(J.2 b hb).trans e) f0 f1 A f4 B;obtain⟨o,e,c,d⟩:=id f;exact⟨u,rfl,yd e c d (rfl) ⟨x,H,L,G,⟨rfl,λQ M=>by rw[I.AF M j];exact r⟩,f,λb hb=>(g b hb).1⟩⟩
 done:=by intro X m hw n C i pins s D H E I g st q;subst m hw n;obtain⟨xs,j,r⟩:=q;obtain⟨t,y,p,F⟩:=I.list j;obtain⟨f0,f1,f2,A,f4,B⟩:=g it (by simp);have hl:=y.length;exact Ro (I.ok.hd C) st p.isList (by simp;lia) λl N=>⟨rfl,I.turned (λb o hb e=>N b o hb e) f0 f1 A f4 B⟩
 self:=λ_ _ _ _ _ st h=>wpAny_pyIter_listiter st h
theorem aMa{K:bH}(a it:Addr):Turn P w K tg (Dt K a) [it] it (λi h=>h.IsTupleIter it a i) where
 mem:=by simp
 obj:=λi h st b hb=>by
  have e:b=it:=by simpa using hb
  subst e;obtain⟨o,e,c,d⟩:=st;exact⟨o,e,λv z=>by rw[d]at z;cases z⟩
 keep:=λi h l st k=>st.at λo e=>k it (by simp) o e
 item:=by intro X m hw n C i pins s D H E I g st q;subst m hw n;obtain⟨xs,x,j,r⟩:=q;obtain⟨t,y,p,F⟩:=I.tuple j;obtain⟨u,O,G⟩:=y.get r;obtain⟨f0,f1,f2,A,f4,B⟩:=g it (by simp);refine wpAny_pyNext_tuple_item st (p) (by simpa) λl f J=>?_;have L:Inv X pins D H { s with heap:=l }:=I.turned (λb o hb e=>(J.2 b hb).trans e) f0 f1 A f4 B;obtain⟨o,e,c,d⟩:=id f;exact⟨u,rfl,yd e c d (rfl) ⟨x,H,L,G,⟨rfl,λQ M=>by rw[I.GO M j];exact r⟩,f,λb hb=>(g b hb).1⟩⟩
 done:=by intro X m hw n C i pins s D H E I g st q;subst m hw n;obtain⟨xs,j,r⟩:=q;obtain⟨t,y,p,F⟩:=I.tuple j;obtain⟨f0,f1,f2,A,f4,B⟩:=g it (by simp);have hl:=y.length;exact wpAny_pyNext_tuple_end (I.ok.hd C) st (p) (by simp;omega) λl N=>⟨rfl,I.turned (λb o hb e=>N b o hb e) f0 f1 A f4 B⟩
 self:=λ_ _ _ _ _ st h=>wpAny_pyIter_tupleiter st h
theorem aLy{K:bH}(it:Addr)(lo:Int)(n:Nat):Turn P w K tg (lu lo n) [it] it (λi h=>IsRangeIter h it (lo+(i:Nat)*1) ((n:Int)-(i:Nat)) 1) where
 mem:=by simp
 obj:=λi h st b hb=>by
  have e:b=it:=by simpa using hb
  subst e;exact⟨_,st,λv z=>by have r:=z;cases r⟩
 keep:=λi h d st k=>k it (by simp) _ st
 item:=by intro X m hw p f i pins s q H E I c st g;subst m hw p;obtain⟨f0,f1,f2,j,f4,l⟩:=c it (by simp);refine(Walks.range (prog:=X.prog) (w:=X.w) (I.ok.hd f) it lo 1 n).item i s _ _ g st λv d tk u a kk=>?_;obtain⟨t,rfl⟩:=u;have x:Inv X pins q H { s with heap:=d,toks:=tk }:=I.turned (λb o hb e=>kk b o (by simpa) e) f0 f1 j f4 l;refine⟨_,rfl,yd a rfl rfl (rfl) ⟨.int (lo+i),H,x,⟨t,?_⟩,⟨rfl,rfl⟩,a,λb hb=>(c b hb).1⟩⟩;rw[Int.mul_one]
 done:=by intro X m hw p f i pins s q H E I c st g;obtain⟨f0,f1,f2,j,f4,l⟩:=c it (by simp);exact wpAny_pyNext_range_end (I.ok.hd f) st (by have:n<=i:=g;lia) λd y=>⟨rfl,I.turned (λb o hb e=>y b o hb e) f0 f1 j f4 l⟩
 self:=λ_ _ _ _ _ st h=>wpAny_pyIter_rangeiter st h
theorem ED{R:It->Hp->Prop}{lo hi:Int}{t u v:Tok}{tk:Nat}(I:Inv X pins Z H s)(h1:-(2 ^ 62)<=lo)(h2:lo<2 ^ 62)(h3:-(2 ^ 62)<=hi)(h4:hi<2 ^ 62)
  (q:R (lu lo (hi-lo).toNat) H):aU (aY X.prog X.w) X.A (pyIter<|.ref s.heap.objs.size) (Sh X pins Z tg R) E { s with heap:=s.heap.push { cls:=.type "range",data:=.fields #[.int lo t,.int hi u,.int 1 v] },toks:=tk }:=by
 refine wpAny_pyIter_range (IsRange.new ..) (small_one h1 h2 h3 h4) ?_;have a:Inv X pins Z H { s with heap:=s.heap.push { cls:=.type "range",data:=.fields #[.int lo t,.int hi u,.int 1 v] },toks:=tk }:=I.kept λb o e=>dO _ e;refine⟨(s.heap.push { cls:=.type "range",data:=.fields #[.int lo t,.int hi u,.int 1 v] }).objs.size,[(s.heap.push { cls:=.type "range",data:=.fields #[.int lo t,.int hi u,.int 1 v] }).objs.size],_,_,H,rfl,
  a.kept λb o e=>dO _ e,aLy _ lo (hi-lo).toNat,?_,λb hb=>?_,q⟩
 .have c:lo+((0:Nat):Int)*1=lo:=by simp
  have d:(((hi-lo).toNat:Nat):Int)-((0:Nat):Int)=Builtin.Range.rangeSize lo hi 1:=by rw[rangeSize_one];split<;>lia
  rw[c,d];exact jG _ rfl
 .have e:b=(s.heap.push { cls:=.type "range",data:=.fields #[.int lo t,.int hi u,.int 1 v] }).objs.size:=by simpa using hb
  subst e;exact a.wG (aV _)<|a.aZ.fresh<|aV _
def u6(ta:TA):TI:=λZ H R=>ta Z H λvs H1=>∃j:Int,vs=[.int j]/\-(2 ^ 62)<=j/\j<2 ^ 62/\R (lu 0 j.toNat) H1
def u7(ta:TA):TI:=λZ H R=>ta Z H λvs H1=>∃i j:Int,vs=[.int i,.int j]/\(-(2 ^ 62)<=i/\i<2 ^ 62/\-(2 ^ 62)<=j/\j<2 ^ 62)/\R (lu i (j-i).toNat) H1
theorem X8{a:aI}{ta:TA}(hg:Gl X "range")(hm:X.mg "range"=aD)(ha:PA X [a] ta)(hs:eC [a] X.env=[(aG,eval a X.env)]:=by rfl):PI X tg (.Call (.Name "range" p) [a] [] pos) (u6 ta):=by
 intro pins s c H R I h;refine Call_<|zL I hg hm boot_range<|Cm (bA (ha pos pins s c H _ I h) λus s1 ⟨k,H1,d,f,b⟩=>?_) hs rfl;obtain⟨j,e,b,g,q⟩:=b;subst e;cases f with
 |cons r i=>cases i;obtain⟨t,rfl⟩:=r;exact call_range_1<|ED d (by decide) (by lia) b g (by simpa)
theorem X9{a b:aI}{ta:TA}(hg:Gl X "range")(hm:X.mg "range"=aD)(ha:PA X [a,b] ta)(hs:eC [a,b] X.env=[(aG,eval a X.env),(aG,eval b X.env)]:=by rfl)(hs2:eC [b] X.env=[(aG,eval b X.env)]:=by rfl) :
  PI X tg (.Call (.Name "range" p) [a,b] [] pos) (u7 ta):=by
 intro pins s f H R I h;refine Call_<|zL I hg hm boot_range<|Cm (bA (ha pos pins s f H _ I h) λus s1 ⟨u,H1,g,k,c⟩=>?_) (by rw[hs,hs2]) (by rw[hs2];rfl);obtain⟨i,j,e,⟨c,l,m,n⟩,q⟩:=c;subst e;cases k with
 |cons r d=>
  cases d with
  |cons o d=>cases d;obtain⟨t,rfl⟩:=r;obtain⟨v,rfl⟩:=o;exact call_range_2<|ED g c l m n q
def aKk(wi:TI)(g:TG)(tb:TS):TS:=λD σ H=>wi σ H λJ H1=>∃W:Nat->Nat->St->Hp->Prop,(∃m,W 0 m σ H1)/\∀i m σ H,W i m σ H ->
 (J.stop i H/\D.nx σ H)\/(J.go i H/\∃N:St->Hp->Prop,(∀σ' H',N σ' H'->∃m',m'<m/\W (i+1) m' σ' H')/\∀x H',J.uf i H x H'->g x σ H' λσ2 H2=>tb { D with nx:=N,ct:=N,bk:=D.nx } σ2 H2)
def zo(fp:S1)(h:bS):Fw:=fp.filterMap λb=>(h.get? b).map λo=>(b,o)
theorem yy{o:Obj}(hb:b∈fp)(e:h.get? b=aA o):(b,o)∈zo fp h:=List.mem_filterMap.mpr ⟨b,hb,by rw[e];rfl⟩
theorem BG{p:Addr×Obj}(hp:p∈zo fp h):p.1∈fp/\h.get? p.1=aA p.2:=by
 obtain⟨b,hb,e⟩:=List.mem_filterMap.mp hp;cases q:h.get? b with
 |none=>rw[q]at e;cases e|some o=>rw[q]at e;have a:=dJ e;subst a;exact⟨hb,q⟩
theorem Inv.pinned(I:Inv X pins Z H s)(hf:∀b∈fp,kJ X pins H b)(ho:∀b∈fp,∃o,s.heap.get? b=aA o/\∀v,o.data ≠ .cell v):Inv X (pins++zo fp s.heap) Z H s:=
 I.gy λp c=>(List.mem_append.mp c).elim (λz=>I.pin p (iH _ z)) λz=>by obtain⟨hb,e⟩:=BG z;obtain⟨f0,f1,f2,_⟩:=hf p.1 hb;obtain⟨o,a,d⟩:=ho p.1 hb;rw[e]at a;cases a;exact⟨e,f0,f1,f2,d⟩
theorem Inv.Aw{pl:Fw}(I:Inv X (pins++pl) Z H s):Inv X pins Z H s:=I.gy λp a=>I.pin p (iH _<|xJ _ a)
theorem aAk{cO:aI}{wi:TI}{g:TG}{tb:TS}(hp:uo (aY X.prog X.w) X.A X.env X.xe)(hc:X.calm=aB)(hi:PI X tg cO wi)(hg:PG X tg g)(hb:rS X body tb)
  (hs:∀x,Cz cO X.env x=pure x:=by intro _;rfl):PS X (.For tg cO body [] pos) (aKk wi g tb):=by
 intro pins s L H D I h;refine wpAny_For (bA (hi pins s L H _ I h) λv s1 U=>bA U λV s2 Y=>?_) hs;obtain⟨it,w,tn,J,Z,e,I2,T,C,f2,W,⟨m0,w0⟩,turn⟩:=Y;subst e;have fU:∀{p:Hp},(∀b∈w,p b=aD)->∀b∈w,kJ X pins p b:=λhn b hb=>⟨hn b hb,(f2 b hb).2⟩;refine codeAny_forLoop_any (λn O=>∃i c p,Inv X pins c p O/\tn i O.heap/\(∀b∈w,p b=aD)/\W i n c p) ?_ m0 ⟨0,L,Z,I2,C,λb hb=>(f2 b hb).1,w0⟩;rintro n P ⟨i,j,B,Q,y,z,w3⟩
 rcases turn i n j B w3 with⟨stop,qn⟩|⟨go,N,hN,step⟩
 .refine dg hp<|bA (T.done X rfl rfl rfl hc i pins P j B X.xe Q (fU z) y stop) λr s4 ⟨hr,I4⟩=>?_;subst hr;exact Rn ⟨j,B,I4,qn⟩
 .refine dg hp<|bA (T.item X rfl rfl rfl hc i pins P j B X.xe Q (fU z) y go) λr s4 ⟨u,hr,h4⟩=>?_;subst hr;refine dg hp<|bA h4 λ_ R zq=>?_;obtain⟨x,S,I5,r5,y5,t,F⟩:=zq;refine dg hp<|bA (hg _ R j S x u _ (I5.pinned (fU F)<|T.obj _ _ t) r5<|step x S y5) λ_ s6 ⟨G,H6,I6,q6⟩=>?_;refine dg hp<|bA (hb _ s6 G H6 _ I6 q6) λf K q=>?_;have again:∀{a:St}{k:Hp},Inv X (pins++zo w R.heap) a k K->N a k->∃m,m<n/\∃i c p,Inv X pins c p K/\tn i K.heap/\(∀b∈w,p b=aD)/\W i m c p:=λ{a k} l A=>by obtain⟨m',hm,w7⟩:=hN a k A;refine⟨m',hm,i+1,a,k,l.Aw,T.keep _ _ _ t λb hb o e=>(l.pin (b,o)<|iH _<|iH _<|yy hb e).1,λb hb=>?_,w7⟩;obtain⟨o,e,d⟩:=T.obj _ _ t b hb;exact(l.pin (b,o)<|iH _<|iH _<|yy hb e).2.1
  cases f with
  |next=>obtain⟨a,k,l,A⟩:=q;exact again l A|cont=>obtain⟨a,k,l,A⟩:=q;exact again l A|brk=>obtain⟨a,k,l,q⟩:=q;exact⟨a,k,l.Aw,q⟩|ret v=>obtain⟨x7,a,k,l,r7,q⟩:=q;exact⟨x7,a,k,l.Aw,r7,q⟩
abbrev R2:=V->V->Hp->VK->Prop
variable {r r':R2}
def cV(X:Cx)(f:Value->Value->Sem Value)(r:R2):Prop:=
 ∀(pins:Fw) (s:aK) (Z:St) (H:Hp) (x y:V) (v u:Value) (Q:VK),Inv X pins Z H s->RelV x v->RelV y u->r x y H Q ->
  aU (aY X.prog X.w) X.A (f v u) (EP X pins Z Q) X.xe s
def vt(X:Cx)(f:Value->Sem Value)(r:V->Hp->VK->Prop):Prop:=
 ∀(pins:Fw) (s:aK) (Z:St) (H:Hp) (x:V) (v:Value) (Q:VK),Inv X pins Z H s->RelV x v->r x H Q ->
  aU (aY X.prog X.w) X.A (f v) (EP X pins Z Q) X.xe s
def jL(X:Cx)(f:Value)(r:Fx->Hp->VK->Prop):Prop:=
 ∀(pins:Fw) (s:aK) (Z:St) (H:Hp) (xs:Fx) (us:Fv) (Q:VK),Inv X pins Z H s->Vals xs us->r xs H Q ->
  aU (aY X.prog X.w) X.A (call f us) (EP X pins Z Q) X.xe s
def MP(X:Cx)(r:V->Hp->(Bool->Hp->Prop)->Prop):Prop:=
 ∀(pins:Fw) (s:aK) (Z:St) (H:Hp) (x:V) (v:Value) (Q:Bool->Hp->Prop),Inv X pins Z H s->RelV x v->r x H Q ->
  aU (aY X.prog X.w) X.A (truthy v) (TP X pins Z Q) X.xe s
def An(r:R2)(ta tb:TE):TE:=λZ H Q=>ta Z H λx H1=>tb Z H1 λy H2=>r x y H2 Q
def tUn(r:V->Hp->VK->Prop)(ta:TE):TE:=λZ H Q=>ta Z H λx H1=>r x H1 Q
def rI(C:Int->Int->Prop)(g:Int->Int->V):R2:=λx y H Q=>∃i j,x = .int i/\y = .int j/\C i j/\Q (g i j) H
def oC(g:Int->Int->V):R2:=λx y H Q=>∃i j,x = .int i/\y = .int j/\Q (g i j) H
def rU(g:Int->V):V->Hp->VK->Prop:=λx H Q=>∃i,x = .int i/\Q (g i) H
section
variable {a b:aI}{ta tc:TE}
theorem Eh(ha:PE X a ta)(hb:PE X b tb){R:V->V->Hp->Prop}(I:Inv X pins Z H s)
  (h:ta Z H λx H1=>tb Z H1 λy H2=>R x y H2){f:Value->Value->Sem Value}
  (hf:∀v u s2 x y H2,Inv X pins Z H2 s2->RelV x v->RelV y u->R x y H2->aU (aY X.prog X.w) X.A (f v u) Q X.xe s2) :
  aU (aY X.prog X.w) X.A (eval a X.env) (λv s₁=>aU (aY X.prog X.w) X.A (eval b X.env) (λu s₂=>aU (aY X.prog X.w) X.A (f v u) Q X.xe s₂) X.xe s₁) X.xe s:=by
 refine bA (ha pins s Z H _ I h) λv s1 ⟨x,H1,c,d,e⟩=>?_;exact bA (hb pins s1 Z H1 _ c e) λu s2 ⟨y,H2,g,i,j⟩=>hf v u s2 x y H2 g d i j
theorem W4{op:rN}(ho:cV X (eY op) r)(ha:PE X a ta)(hb:PE X b tb):PE X (.BinOp a op b pos) (An r ta tb):=by intro pins s c H Q I h;exact wpAny_BinOp<|Eh ha hb I h λv u s2 x y d e f g q=>ho pins s2 c d x y v u Q e f g q
theorem W9{op:UnaryOp}{r:V->Hp->VK->Prop}(ho:vt X (Dh op) r)(ha:PE X a ta):PE X (.UnaryOp op a pos) (tUn r ta):=by intro pins s b H Q I h;exact UnaryOp_<|bA (ha pins s b H _ I h) λv s1 ⟨x,H1,c,d,e⟩=>ho pins s1 b H1 x v Q c d e
theorem gq{f:Value->Value->Sem Value}{C:Int->Int->Prop}{g:Int->Int->Int}
  (rule:∀(i j:Int) (t u:Tok) (s:aK) (Q:Value->aK->Prop) (E:Value->aK->Prop),C i j->Q (.int (g i j) s.toks) { s with toks:=s.toks+1 }->aU (aY X.prog X.w) X.A (f (.int i t)<|.int j u) Q E s) :
  cV X f (rI C λi j=>.int (g i j)):=by
 intro pins s e H x y v u Q I a b h;obtain⟨i,j,rfl,rfl,c,q⟩:=h;obtain⟨t,rfl⟩:=a;obtain⟨d,rfl⟩:=b;exact rule i j t d s _ _ c ⟨.int (g i j),H,I.tok _,⟨_,rfl⟩,q⟩
theorem qz{f:Value->Value->Sem Value}{g:Int->Int->Int}
  (rule:∀(i j:Int) (t u:Tok) (s:aK) (Q:Value->aK->Prop) (E:Value->aK->Prop),Q (.int (g i j) s.toks) { s with toks:=s.toks+1 }->aU (aY X.prog X.w) X.A (f (.int i t)<|.int j u) Q E s) :
  cV X f (oC λi j=>.int (g i j)):=by
 intro pins s d H x y v u Q I a b h;obtain⟨i,j,rfl,rfl,q⟩:=h;obtain⟨t,rfl⟩:=a;obtain⟨c,rfl⟩:=b;exact rule i j t c s _ _ ⟨.int (g i j),H,I.tok _,⟨_,rfl⟩,q⟩
theorem zg{f:Value->Value->Sem Value}{g:Int->Int->Bool}
  (rule:∀(i j:Int) (t u:Tok) (s:aK) (Q:Value->aK->Prop) (E:Value->aK->Prop),Q (.bool<|g i j) s->aU (aY X.prog X.w) X.A (f (.int i t)<|.int j u) Q E s) :
  cV X f (oC λi j=>.bl (g i j)):=by
 intro pins s d H x y v u Q I a b h;obtain⟨i,j,rfl,rfl,q⟩:=h;obtain⟨t,rfl⟩:=a;obtain⟨c,rfl⟩:=b;exact rule i j t c s _ _ ⟨.bl (g i j),H,I,rfl,q⟩
def Dl(i j:Int):Prop:=0<=j/\j<=1000000/\i.natAbs<2 ^ 64
theorem aMf(k:Nat):(0:Int)<=2 ^ k:=by exact Int.natCast_nonneg _
theorem M6:cV X (eY .Add) (oC λi j=>.int (i+j)):=qz λ_ _ _ _ _ _ _ q=>add_int q
theorem P7:cV X (eY .Sub) (oC λi j=>.int (i-j)):=qz λ_ _ _ _ _ _ _ q=>sub_int q
theorem O3:cV X (eY .Mod) (rI (λ_ j=>0<j) λi j=>.int (i%j)):=gq λi j _ _ _ _ _ hc q=>by exact mod_int' (by omega) (by rw[IJ i (by omega)];exact q)
theorem P2:cV X (eY .Pow) (rI Dl λi j=>.int (i ^ j.toNat)):=gq λ_ _ _ _ _ _ _ a q=>pow_int_small a.1 a.2.1 a.2.2 q
theorem P5:cV X (eY .LShift) (rI Dl λi j=>.int (i*2 ^ j.toNat)):=gq λ_ _ _ _ _ _ _ hc q=>lshift_int_small hc.1 hc.2.1 hc.2.2 q
theorem P6:cV X (eY .RShift) (rI (λ_ j=>0<=j) λi j=>.int (i / 2 ^ j.toNat)):=gq λi j _ _ _ _ _ hc q=>rshift_int hc (by rw[Ol i (aMf _)];exact q)
theorem M8:cV X (eY .BitAnd) (oC λi j=>.int (rH i j)):=qz λ_ _ _ _ _ _ _ q=>and_int q
theorem P0:cV X (eY .BitOr) (oC λi j=>.int (js i j)):=qz λ_ _ _ _ _ _ _ q=>or_int q
theorem P8:cV X (eY .BitXor) (oC λi j=>.int (jt i j)):=qz λ_ _ _ _ _ _ _ q=>xor_int q
theorem unI{f:Value->Sem Value}{g:Int->Int}
  (rule:∀(i:Int) (t:Tok) (s:aK) (Q:Value->aK->Prop) (E:Value->aK->Prop),Q (.int (g i) s.toks) { s with toks:=s.toks+1 }->aU (aY X.prog X.w) X.A (f<|.int i t) Q E s) :
  vt X f (rU λi=>.int (g i)):=by
 intro pins s b H x v Q I a h;obtain⟨i,rfl,q⟩:=h;obtain⟨t,rfl⟩:=a;exact rule i t s _ _ ⟨.int (g i),H,I.tok _,⟨_,rfl⟩,q⟩
theorem aMg:vt X (Dh .USub) (rU λi=>.int (-i)):=unI λ_ _ _ _ _ q=>neg_int q
end
def Lw:V->V->Bool
 |.aH,.aH=>aB | .aH,.int _=>aB | .int _,.aH=>aB | .aH,.bl _=>aB | .bl _,.aH=>aB | .aH,.str _=>aB | .str _,.aH=>aB
 |.int _,.int _=>aB | .bl _,.bl _=>aB | .str _,.str _=>aB | .mW _,.mW _=>aB
 |.int _,.str _=>aB | .str _,.int _=>aB | .bl _,.str _=>aB | .str _,.bl _=>aB
 |_,_=>aG
def DV:R2:=λx y H Q=>Lw x y=aB/\Q (.bl<|decide<|x=y) H
def EB:R2:=λx y H Q=>Lw x y=aB/\Q (.bl<|!decide (x=y)) H
theorem Vn{i j:Int}:decide (V.int i=V.int j)=(i==j):=by rw[jo];simp
theorem Vl{i j:Bool}:decide (V.bl i=V.bl j)=(i==j):=by rw[jo];simp
theorem Vo{i j:Str}:decide (V.str i=V.str j)=(i==j):=by rw[jo];simp
theorem Vm{i j:Array UInt8}:decide (V.mW i=V.mW j)=(i.toList==j.toList):=by rw[jo];cases i;cases j;simp
section
variable {a b:aI}{ta tc:TE}
theorem eQ{Q:VK}{k k':Bool}(I:Inv X pins Z H s)(q:Q (.bl k) H)(e:k=k'):EP X pins Z Q (.bool k') s:=by subst e;exact⟨.bl k,H,I,rfl,q⟩
theorem N2:cV X (dG .Eq) DV:=by
 intro pins s e H x y v u Q I d a h;obtain⟨c,q⟩:=h;cases x with
 |aH=>
  cases d;cases y with
  |aH=>cases a;exact aRo<|eQ I q (by simp)|bl j=>cases a;exact aRm<|eQ I q (by simp)|int j=>obtain⟨b,rfl⟩:=a;exact aRn<|eQ I q (by simp)|str j=>obtain⟨b,rfl⟩:=a;exact aRp<|eQ I q (by simp)|_=>exact absurd (show aG=aB from c) gS
 |bl i=>
  cases d;cases y with
  |aH=>cases a;exact aRk<|eQ I q (by simp)|bl j=>cases a;exact eq_bool<|eQ I q Vl|str j=>obtain⟨b,rfl⟩:=a;exact aRc<|eQ I q (by simp)|_=>exact absurd (show aG=aB from c) gS
 |int i=>
  obtain⟨t,rfl⟩:=d;cases y with
  |aH=>cases a;exact aRl<|eQ I q (by simp)|int j=>obtain⟨b,rfl⟩:=a;exact eq_int<|eQ I q Vn|str j=>obtain⟨b,rfl⟩:=a;exact aRd<|eQ I q (by simp)|_=>exact absurd (show aG=aB from c) gS
 |str i=>
  obtain⟨t,rfl⟩:=d;cases y with
  |aH=>cases a;exact aRq<|eQ I q (by simp)|bl j=>cases a;exact aRe<|eQ I q (by simp)|int j=>obtain⟨b,rfl⟩:=a;exact aRf<|eQ I q (by simp)|str j=>obtain⟨b,rfl⟩:=a;exact eq_str<|eQ I q Vo|_=>exact absurd (show aG=aB from c) gS
 |mW i=>
  obtain⟨t,rfl⟩:=d;cases y with
  |mW j=>obtain⟨b,rfl⟩:=a;exact W.eq_bytes<|eQ I q Vm|_=>exact absurd (show aG=aB from c) gS
 |_=>cases y<;>exact absurd (show aG=aB from c) gS
theorem O5:cV X (dG .NotEq) EB:=by
 intro pins s e H x y v u Q I d a h;obtain⟨c,q⟩:=h;cases x with
 |aH=>
  cases d;cases y with
  |aH=>cases a;exact aRv<|eQ I q (by simp)|bl j=>cases a;exact aRt<|eQ I q (by simp)|int j=>obtain⟨b,rfl⟩:=a;exact aRu<|eQ I q (by simp)|str j=>obtain⟨b,rfl⟩:=a;exact aRw<|eQ I q (by simp)|_=>exact absurd (show aG=aB from c) gS
 |bl i=>
  cases d;cases y with
  |aH=>cases a;exact aRr<|eQ I q (by simp)|bl j=>cases a;exact ne_bool<|eQ I q<|congrArg not Vl|str j=>obtain⟨b,rfl⟩:=a;exact aRg<|eQ I q (by simp)|_=>exact absurd (show aG=aB from c) gS
 |int i=>
  obtain⟨t,rfl⟩:=d;cases y with
  |aH=>cases a;exact aRs<|eQ I q (by simp)|int j=>obtain⟨b,rfl⟩:=a;exact ne_int<|eQ I q<|congrArg not Vn|str j=>obtain⟨b,rfl⟩:=a;exact aRh<|eQ I q (by simp)|_=>exact absurd (show aG=aB from c) gS
 |str i=>
  obtain⟨t,rfl⟩:=d;cases y with
  |aH=>cases a;exact aRx<|eQ I q (by simp)|bl j=>cases a;exact aRi<|eQ I q (by simp)|int j=>obtain⟨b,rfl⟩:=a;exact aRj<|eQ I q (by simp)|str j=>obtain⟨b,rfl⟩:=a;exact ne_str<|eQ I q<|congrArg not Vo|_=>exact absurd (show aG=aB from c) gS
 |mW i=>
  obtain⟨t,rfl⟩:=d;cases y with
  |mW j=>obtain⟨b,rfl⟩:=a;exact W.ne_bytes<|eQ I q<|congrArg not Vm|_=>exact absurd (show aG=aB from c) gS
 |_=>cases y<;>exact absurd (show aG=aB from c) gS
theorem O2:cV X (dG .Lt) (oC λi j=>.bl (decide<|i<j)):=zg λ_ _ _ _ _ _ _ q=>lt_int q
theorem O1:cV X (dG .LtE) (oC λi j=>.bl (decide<|i<=j)):=zg λ_ _ _ _ _ _ _ q=>le_int q
theorem N7:cV X (dG .Gt) (oC λi j=>.bl (decide<|j<i)):=zg λ_ _ _ _ _ _ _ q=>gt_int q
theorem N6:cV X (dG .GtE) (oC λi j=>.bl (decide<|j<=i)):=zg λ_ _ _ _ _ _ _ q=>ge_int q
theorem O0:cV X (dG .Is) (λx y H Q=>y = .aH/\Q (.bl<|decide<|x = .aH) H):=by
 intro pins s c H x y v u Q I a b h;obtain⟨rfl,q⟩:=h;cases b;refine is_none_gen<|eQ I q ?_;cases x<;>first
  | (cases a;rfl)
  | (obtain⟨t,rfl⟩:=a;rfl)
theorem O9:cV X (dG .IsNot) (λx y H Q=>y = .aH/\Q (.bl<|!decide (x = .aH)) H):=by
 intro pins s c H x y v u Q I a b h;obtain⟨rfl,q⟩:=h;cases b;refine isnot_none_gen<|eQ I q ?_;cases x<;>first
  | (cases a;rfl)
  | (obtain⟨t,rfl⟩:=a;rfl)
theorem cV.or{f:Value->Value->Sem Value}(h:cV X f r)(h':cV X f r'):cV X f (λx y H Q=>r x y H Q\/r' x y H Q):=by
 intro pins s a H x y v u Q I b c q;rcases q with q|q
 .exact h pins s a H x y v u Q I b c q
 .exact h' pins s a H x y v u Q I b c q
theorem U7{op:pD}(ho:cV X (dG op) r)(ha:PE X a ta)(hb:PE X b tb)(hm:ux op b=aG):PE X (.Compare a [op] [b] pos) (An r ta tb):=by intro pins s c H Q I h;exact wpAny_Compare1 (Eh ha hb I h λv u s2 x y d e f g q=>ho pins s2 c d x y v u Q e f g q) hm
def GF(t:TE):TT:=λZ H Q=>t Z H λx H'=>∃k,x = .bl k/\Q k H'
theorem aAx{op:pD}(ho:cV X (dG op) r)(ha:PE X a ta)(hb:PE X b tb)(hm:ux op b=aG):PT X (.Compare a [op] [b] pos) (GF<|An r ta tb):=by
 intro pins s d H Q I h;refine wpAny_isTrue_Compare1 (bA (ha pins s d H _ I h) λv s1 ⟨x,H1,f,g,i⟩=>bA (hb pins s1 d H1 _ f i) λu s2 ⟨y,j,l,m,n⟩=>bA (ho pins s2 d j x y v u _ l g m n) λc w ⟨z,o,p,q,k,e,t⟩=>?_) hm
 subst e;cases q;exact dh ⟨o,p,t⟩
def Ml(r r':R2)(ta tb tc:TE):TE:=λZ H Q=>ta Z H λx H1=>tb Z H1 λy H2=>r x y H2 λz H3=>∃k,z = .bl k /\
 (if k=aB then tc Z H3 λw' H4=>r' y w' H4 Q else Q (.bl aG) H3)
theorem U6{op:pD}(ho:cV X (dG op) r)(ho':cV X (dG op') r')(ha:PE X a ta)(hb:PE X b tb)(hc:PE X c tc)
  (hm:De [op,op'] [b,c]=aG:=by with_unfolding_all rfl):PE X (.Compare a [op,op'] [b,c] pos) (Ml r r' ta tb tc):=by
 intro pins s f H Q I h;refine Compare_chain (bA (ha pins s f H _ I h) λv s1 ⟨x,H1,m,n,o⟩=>chain_link (bA (hb pins s1 f H1 _ m o) λu s2 ⟨y,p,q,g,t⟩=>bA (ho pins s2 f p x y v u _ q n g t) λd w ⟨z,i,j,A,k,e,l⟩=>?_)) hm
 subst e;cases A;refine dh ?_;cases k with
 |false=>exact ite_ff ⟨.bl aG,i,j,rfl,l⟩|true=>exact ite_tt<|chain_last<|bA (hc pins w f i _ j l) λB C ⟨D,E,F,G,J⟩=>ho' pins C f E y D u B Q F g G J
theorem aAw{op:pD}(ho:cV X (dG op) r)(ho':cV X (dG op') r')(ha:PE X a ta)(hb:PE X b tb)(hc:PE X c tc)
  (hm:De [op,op'] [b,c]=aG:=by with_unfolding_all rfl):PT X (.Compare a [op,op'] [b,c] pos) (GF<|Ml r r' ta tb tc):=by
 intro pins s f H Q I h;refine isTrue_chain (bA (ha pins s f H _ I h) λv s1 ⟨x,H1,m,n,o⟩=>test_link (bA (hb pins s1 f H1 _ m o) λu s2 ⟨y,p,q,g,t⟩=>bA (ho pins s2 f p x y v u _ q n g t) λd w ⟨z,i,j,A,k,e,l⟩=>?_)) hm
 subst e;cases A;refine dh ?_;cases k with
 |false=>obtain⟨S,B,C⟩:=l;cases B;exact ite_ff ⟨i,j,C⟩
 |true=>refine ite_tt<|test_last<|bA (hc pins w f i _ j l) λD E ⟨F,G,J,K,L⟩=>bA (ho' pins E f G y F u D _ J g K L) λT U ⟨V,M,N,O,k2,P,R⟩=>?_;subst P;cases O;exact dh ⟨M,N,R⟩
def yH(K:bH)(x:V)(H:Hp)(k:Bool):Prop:=
 match x with
 |.aH=>k=aG
 |.bl b=>k=b
 |.int i=>k=(i != 0)
 |.str y=>y.length<=sizeLine/\k=((y.length:Int) != 0)
 |.mW y=>y.size<=sizeLine/\k=((y.size:Int) != 0)
 |.ref p=>(∃xs,dM K H p xs/\k = !xs.isEmpty)\/(∃xs,eG K H p xs/\k = !xs.isEmpty)\/∃kvs,H p=aA (.dK kvs)/\k = !kvs.isEmpty
 |_=>False
theorem y9{κ:Type}{kvs:List (κ×V)}{vs:List (κ×Value)}(r:KV kvs vs):(!vs.isEmpty) = !kvs.isEmpty:=by cases r<;>rfl
theorem Zb{its:Fv}(r:Vals xs its):(!its.toArray.isEmpty) = !xs.isEmpty:=by cases r<;>simp
theorem zM:(sizeLine:Nat)<2 ^ 63:=by decide
theorem Av:MP X (λx H Q=>∃k,yH X.K x H k/\Q k H):=by
 intro pins s Z H x v Q I rx h;obtain⟨k,e,q⟩:=h;have hl:=zM;have hs:=pI;cases x with
 |aH=>cases rx;have e':=e;subst e';exact truthy_none ⟨H,I,q⟩
 |bl b=>cases rx;have e':=e;subst e';exact dh ⟨H,I,q⟩
 |int i=>obtain⟨t,rfl⟩:=rx;have e':=e;subst e';exact PySem.P.truthy_int ⟨H,I,q⟩
 |str y=>obtain⟨t,rfl⟩:=rx;obtain⟨hy,e'⟩:y.length<=sizeLine/\k=((y.length:Int) != 0):=e;subst e';exact PySem.P.truthy_str (by omega) ⟨H,I.tok _,q⟩
 |mW y=>obtain⟨t,rfl⟩:=rx;obtain⟨hy,e'⟩:y.size<=sizeLine/\k=((y.size:Int) != 0):=e;subst e';exact W.truthy_bytes (by omega) ⟨H,I.tok _,q⟩
 |ref p=>
  cases rx;have e':=e;rcases e' with⟨xs,hx,e'⟩|⟨xs,hx,e'⟩|⟨kvs,hx,e'⟩
  .subst e';obtain⟨its,r,pl,hz⟩:=I.list hx;have hlen:=r.length;exact wpAny_truthy_list pl.isList (by simp only[hJ];omega) ⟨H,I.tok _,by rw[Zb r];exact q⟩
  .subst e';obtain⟨its,r,pl,hz⟩:=I.tuple hx;have hlen:=r.length;exact truthy_tuple pl (by simp only[hJ];omega) ⟨H,I.tok _,by rw[Zb r];exact q⟩
  .subst e';obtain⟨hz,hS,vs,r,m⟩:kvs.length<=sizeLine/\(p==tF)=aG/\∃vs,KV kvs vs/\s.heap.DictOf (gG X.prog X.w) p vs:=I.aZ p _ hx;have hlen:=Ci r;exact wpAny_truthy_dict hS m (by omega) ⟨H,I.tok _,by rw[y9 r];exact q⟩
 |_=>exact(show False from e).elim
theorem aAz(ha:PE X a ta)(he:∀whole,isTrue a X.env whole=(do let v <- whole;Dg a.pos;km [v] (truthy v))) :
  PT X a (λZ H Q=>ta Z H λx H'=>∃k,yH X.K x H' k/\Q k H'):=by
 intro pins s Z H Q I h;exact isTrue_plain (bA (ha pins s Z H _ I h) λv s1 ⟨x,H1,b,c,d⟩=>Av pins s1 Z H1 x v Q b c d)<|he _
theorem M7:cV X (eY .Add) (λx y H Q=>∃i j,x = .str i/\y = .str j/\i.length+j.length<=sizeLine/\Q (.str<|i++j) H):=by intro pins s e H x y v u Q I a b h;obtain⟨i,j,rfl,rfl,c,q⟩:=h;obtain⟨t,rfl⟩:=a;obtain⟨d,rfl⟩:=b;exact add_str (λd tk=>⟨.str (i++j),H,I.tok _,⟨_,rfl⟩,q⟩) c
theorem jd{x:V}(r:Vals [x] us):∃u,us=[u]/\RelV x u:=by
 cases r with
 |cons a b=>cases b;exact⟨_,rfl,a⟩
theorem xA{x:V}(r:Vals [x,y] us):∃u w',us=[u,w']/\RelV x u/\RelV y w':=by
 cases r with
 |cons a b=>
  cases b with
  |cons c d=>cases d;exact⟨_,_,rfl,a,c⟩
theorem TX(hc:X.calm=aB):jL X (.builtin "max") (λxs H Q=>∃i j,xs=[.int i,.int j]/\Q (.int<|if j > i then j else i) H):=by
 intro pins s b H xs us Q I r h;obtain⟨i,j,rfl,q⟩:=h;obtain⟨u,c,rfl,⟨t,rfl⟩,⟨d,rfl⟩⟩:=xA r;refine max_two_ints (I.ok.hd hc) λe tk k=>⟨_,H,I.kept k,?_,q⟩;by_cases a:j > i
 .rw[if_pos a,if_pos a];exact⟨_,rfl⟩
 .rw[if_neg a,if_neg a];exact⟨_,rfl⟩
theorem TY(hc:X.calm=aB):jL X (.builtin "min") (λxs H Q=>∃i j,xs=[.int i,.int j]/\Q (.int<|if j<i then j else i) H):=by
 intro pins s b H xs us Q I r h;obtain⟨i,j,rfl,q⟩:=h;obtain⟨u,c,rfl,⟨t,rfl⟩,⟨d,rfl⟩⟩:=xA r;refine min_two_ints (I.ok.hd hc) λe tk k=>⟨_,H,I.kept k,?_,q⟩;by_cases a:j<i
 .rw[if_pos a,if_pos a];exact⟨_,rfl⟩
 .rw[if_neg a,if_neg a];exact⟨_,rfl⟩
theorem TM:jL X (.type "int") (λxs H Q=>(∃i,xs=[.int i]/\Q (.int i) H)\/∃k,xs=[.bl k]/\Q (.int<|if k then 1 else 0) H):=by
 intro pins s b H xs us Q I r h;rcases h with⟨i,rfl,q⟩|⟨k,rfl,q⟩
 .obtain⟨u,rfl,t,rfl⟩:=jd r;exact call_int_int ⟨.int i,H,I,⟨_,rfl⟩,q⟩
 .obtain⟨u,rfl,a⟩:=jd r;cases a;exact call_int_bool ⟨.int (if k then 1 else 0),H,I.tok _,⟨_,rfl⟩,q⟩
end
structure yC(h:bS)(x dx C:Addr)(mA:Str->WM):Prop where
 obj:h.get? x=aA (xQ C dx)
 ns:h.Ns1 dx mA
 ne:dx≠x
theorem D7(n:h.Ns1 dx mA):∃od,h.get? dx=aA od/\∀name,Cu name od=aA (mA name):=by
 obtain⟨o,c,j,d,hd,f,_,hm⟩:=n;refine⟨o,d,λname=>?_⟩;have e:=hm name;unfold nsFind findBy at e;rw[<- Array.find?_toList]at e;unfold Cu;rw[hd];dsimp only;split
 .rename_i y q;rw[q]at e;exact congrArg aA e
 .rename_i q;rw[q]at e;have a:c.toList.any (·.refKey)=aG:=by rw[IT];intro y g;obtain⟨z,t,b⟩:=f y (Array.mem_toList_iff.mp g);simp[DictEntry.refKey,b]
  have i:=a▸gS;rw[if_neg i];exact congrArg aA e
theorem yC.look{x:Addr}(I:yC h x dx C mA):∃od,W.InstAt h x (xQ C dx) C (aA od)/\∀name,Cu name od=aA (mA name):=
 let ⟨od,a,hl⟩:=D7 I.ns
 ⟨od,⟨I.obj,rfl,rfl,a⟩,hl⟩
section
variable {K:bH}{x f:Addr}{name:Str}{v:Value}
theorem j8{expr:Bool}(X:K.In s.heap)(I:yC s.heap x dx C mA)(hg:ur K C name=aB)(hh:Ct K C=aB)
  (ha:nM K (.ref C) name=aA aD)(hv:mA name=aA v)(hv':Cs v=aB)(h:Q v { s with toks:=s.toks+1 }) :
  aU (aY prog w) A (getAttr (.ref x) name expr) Q E s:=by
 obtain⟨od,J,hl⟩:=I.look;exact W.get_value X J (Qj hg).1 (W.findObj_own hh ha rfl (by rw[hl,hv])) hv' h
theorem j9{pl:Sem Bool}{Q:Value×Fv->aK->Prop}(X:K.In s.heap)(I:yC s.heap x dx C mA)(hg:ur K C name=aB)
  (hf:nM K (.ref C) name=aA (aA<|.ref f)) (ht:uq K (.ref f)=aB) (hv:mA name=aD) (h:Q (.ref f,[.ref x]) s) :
  aU (aY prog w) A (Qw (.ref x) name pl) Q E s:=by
 obtain⟨od,J,hl⟩:=I.look;exact W.method_fn X J (Qj hg).1 (Qj hg).2 hf (beq_iff_eq.mp ht) (by show(Cu name od).map (·.isSome)=aA aG;rw[hl,hv];rfl) h
theorem aHz{ns:WL}{Q:Unit->aK->Prop}(X:K.In s.heap)(I:yC s.heap x dx C mA)
  (hs:nM K (.ref C) "__setattr__"=aA (aA<|.builtin "object.__setattr__")) (hp:Qk K C=aB) (ht:Qm K C name=aA aD) (hh:Ct K C=aB)
  (hw:Qn mA ns) (hsz:ns.length<=sizeLine)
  (h:∀h',yC h' x dx C (λy=>if y=name then aA v else mA y)->jv dx s.heap h'->Q () { s with heap:=h',toks:=s.toks+2 }) :
  aU (aY prog w) A (setAttr (.ref x) name v) Q E s:=by
 obtain⟨od,J,hl⟩:=I.look;refine W.set_plain X J hs<|W.osa_open X J hp ht λb=>?_;obtain⟨m,i,d⟩:=W.any_some hh;have j:=I.obj;refine bB<|cU<|bB<|bB<|wpAny_loadPart j<|bB<|W.Looks.here (W.looks_clsIn X i) ?_;rw[d];refine cU<|bB<|cU<|bB ?_;refine wpAny_nsSet1 I.ns λh' a c=>?_;obtain⟨n,k,l,e,f,g⟩:=a.count (PySem.Within.cons name v hw);exact bB<|wpAny_lookBehind e (by rw[f];exact pastItsLine_dict<|dR g (by rw[eK];lia))<|cU<|h _ ⟨(c.2 _<|mE I.ne).trans I.obj,a,I.ne⟩ c
theorem E7{R:Result->aK->Prop}{vs:Fv}(X:K.In s.heap)(hm:Qi K C=aB)
  (hi:nM K (.ref C) "__init__"=aA (aA<|.ref f))(hf:W.typeIn K (.ref f)=aA (.type "function"))
  (h:tE (aY prog w) (A.under<|.builtin "type.__call__" ⟨.ref C::vs,kw⟩) (.call (.ref f) ⟨.ref (s.heap.objs.size+1)::vs,kw⟩) (W.InitBack (s.heap.objs.size+1) R)
   { s with heap:=(s.heap.push xP).push (xQ C s.heap.objs.size) }) :
  tE (aY prog w) A (.call (.ref C) ⟨vs,kw⟩) R s:=by
 exact W.make_core (W.makes_of X hm) (W.looks_findIn X hi) (λself=>W.bind_fn X self hf) (.inl rfl) h
end
def jO(f:Str)(v:V):WZ->WZ
 |[]=>[(f,v)]
 | (g,x)::r=>if g=f then(g,v)::r else(g,x)::jO f v r
theorem AK(f g:Str)(v:V):∀fs:WZ,(jO f v fs).lookup g=if g=f then aA v else fs.lookup g
 |[]=>by
  show rL g [(f,v)]=_;by_cases h:g=f
  .have hb:=beq_iff_eq.mpr h;simp only[rL,hb,if_pos h]
  .have hb:=beq_eq_false_iff_ne.mpr h;simp only[rL,hb,if_neg h]
 | (k,x)::r=>by
  rw[show jO f v ((k,x)::r)=(if k=f then(k,v)::r else(k,x)::jO f v r) from rfl];by_cases a:k=f
  .rw[if_pos a];by_cases h:g=k
   .have hb:=beq_iff_eq.mpr h;simp only[rL,hb,if_pos (h.trans a)]
   .have hb:=beq_eq_false_iff_ne.mpr h;simp only[rL,hb,if_neg (λe:g=f=>h (e.trans a.symm))]
  .rw[if_neg a];by_cases h:g=k
   .have hb:=beq_iff_eq.mpr h;simp only[rL,hb,if_neg (λe:g=f=>a (h.symm.trans e))]
   .have hb:=beq_eq_false_iff_ne.mpr h;simp only[rL,hb];exact(AK f g v r)
theorem Hr(f:Str)(v:V):∀fs:WZ,f∈(jO f v fs).map (·.1)/\∀g,g∈fs.map (·.1)->g∈(jO f v fs).map (·.1)
 |[]=>⟨by simp[jO],λg h=>by simp at h⟩
 | (k,x)::r=>by
  obtain⟨b,c⟩:=Hr f v r;rw[show jO f v ((k,x)::r)=(if k=f then(k,v)::r else(k,x)::jO f v r) from rfl];by_cases a:k=f
  .rw[if_pos a];subst a;exact⟨(.head _),λg h=>by simpa using h⟩
  .rw[if_neg a];refine⟨?_,λg h=>?_⟩
   .rw[hA];exact iI _ b
   .rw[hA]at h ⊢;rcases List.mem_cons.mp h with e|e
    .exact List.mem_cons.mpr<|.inl e
    .exact iI _<|c g e
theorem AD(f:Str)(v:V):∀fs:WZ,(jO f v fs).length<=fs.length+1
 |[]=>by simp[jO]
 | (k,x)::r=>by
  have b:=AD f v r;rw[show jO f v ((k,x)::r)=(if k=f then(k,v)::r else(k,x)::jO f v r) from rfl];by_cases a:k=f
  .rw[if_pos a,eK,eK];lia
  .rw[if_neg a,eK,eK];lia
theorem iB.some_of{o:WM}(r:iB (aA v) o):∃u,o=aA u/\RelV v u:=by
 cases o with
 |none=>exact(r).elim|some u=>exact⟨u,rfl,r⟩
theorem iB.none_of{o:WM}(r:iB aD o):o=aD:=by
 cases o with
 |none=>rfl|some u=>exact(r).elim
theorem q8(r:RelV v u):Cs u=aB:=by
 cases v with
 |aH=>cases(r);rfl|bl b=>cases(r);rfl|int i=>obtain⟨t,e⟩:=(r);cases e;rfl|str x=>obtain⟨t,e⟩:=(r);cases e;rfl|mW b=>obtain⟨t,e⟩:=(r);cases e;rfl|xq b=>obtain⟨t,e⟩:=(r);cases e;rfl|ref a=>cases(r);rfl|ty n=>cases(r);rfl
section
variable {fs fs':WZ}
theorem Hj(aZ:eZ P w H h)(e:H a=aA (.ins C dx fs)):∃mA,yC h a dx C mA/\(∀f,iB (fs.lookup f) (mA f))/\Qn mA (fs.map (·.1))/\fs.length<=1000/\H dx=aA (.own a):=by obtain⟨d,z,ne,ob,mA,n,r,q⟩:=(show hU P w H h a (.ins C dx fs) from aZ a _ e);exact⟨mA,⟨ob,n,ne⟩,r,q,z,d⟩
end
structure mU(K:bH)(C:Addr):Prop where
 pg:ur K C Str.empty=aB
 hd:Ct K C=aB
 po:Qk K C=aB
 sa:nM K (.ref C) "__setattr__"=aA (aA<|.builtin "object.__setattr__")
theorem mU.get{K:bH}(c:mU K C)(f:Str):ur K C f=aB:=c.pg
def vP(K:bH)(C:Addr)(f:Str):Prop:=nM K (.ref C) f=aA aD
theorem vP.aLn{K:bH}{f:Str}(n:vP K C f):Qm K C f=aA aD:=by unfold Qm;rw[show nM K (.ref C) f=aA aD from n];rfl
structure vm(K:bH)(C:Addr)(m:Str)(f:Addr):Prop where
 at_:nM K (.ref C) m=aA (aA<|.ref f)
 fn:uq K (.ref f)=aB
 kp:tD K (.ref f)=aB
section
variable {fs:WZ}{f:Str}
theorem Yk{b:Bool}(I:Inv X pins Z H s)(e:H a=aA (.ins C dx fs))(c:mU X.K C)(n:vP X.K C f)(l:fs.lookup f=aA v)
  (h:∀u s',Inv X pins Z H s'->RelV v u->Q u s'):aU (aY X.prog X.w) A (getAttr (.ref a) f b) Q E s:=by
 obtain⟨i,O,r,_,_,_⟩:=Hj I.aZ e;obtain⟨u,g,d⟩:=iB.some_of (by rw[<- l];exact r f);exact j8 I.fM O (c.get f) c.hd n g (q8 d)<|h u _ (I.tok _) d
theorem Yl{g:Addr}{pl:Sem Bool}{Q:Value×Fv->aK->Prop}(I:Inv X pins Z H s)(e:H a=aA (.ins C dx fs))(c:mU X.K C)(k:vm X.K C m g)(l:fs.lookup m=aD)
  (h:Q (.ref g,[.ref a]) s):aU (aY X.prog X.w) A (Qw (.ref a) m pl) Q E s:=by
 obtain⟨b,O,r,_,_,_⟩:=Hj I.aZ e;have hn:=iB.none_of (by rw[<- l];exact r m);exact j9 I.fM O (c.get m) k.at_ k.fn hn h
theorem EY{Q:Unit->aK->Prop}(I:Inv X pins Z H s)(e:H a=aA (.ins C dx fs))(c:mU X.K C)(n:vP X.K C f)(hl:fs.length<1000)(ry:RelV y u)
  (h:∀s',Inv X pins Z (bE H a<|.ins C dx<|jO f y fs) s'->Q () s'):aU (aY X.prog X.w) A (setAttr (.ref a) f u) Q E s:=by
 obtain⟨i,O,r,wi,_,j⟩:=Hj I.aZ e;have k:(fs.map (·.1)).length<=sizeLine:=by rw[aR,pI];lia
 refine aHz I.fM O c.sa c.po n.aLn c.hd wi k λl d m=>h _ ?_;have hd:∃o,l.get? dx=aA o:=let ⟨o,_,_,p,_⟩:=d.ns;⟨o,p⟩;refine I.write (e▸mS) (.inr j) (λb q hb z=>(m.2 b hb).trans z) hd ?_;refine⟨by rw[bX O.ne];exact j,?_,O.ne,d.obj,_,d.ns,λg=>?_,λg t=>?_⟩
 .have:=AD f y fs;lia
 .show iB ((jO f y fs).lookup g) (if g=f then aA u else i g);rw[AK];by_cases q:g=f
  .rw[if_pos q,if_pos q];exact ry
  .rw[if_neg q,if_neg q];exact r g
 .by_cases q:g=f
  .rw[q];exact(Hr f y fs).1
  .refine(Hr f y fs).2 g (wi g λz=>t ?_);show(if g=f then aA u else i g)=aD;rw[if_neg q];exact z
theorem Inv.made(I:Inv X pins Z H s):Inv X pins Z (bE (bE H s.heap.objs.size<|.own<|s.heap.objs.size+1) (s.heap.objs.size+1)<|.ins C s.heap.objs.size [])
  { s with heap:=(s.heap.push xP).push (xQ C s.heap.objs.size) }:=by
 have e1:(s.heap.push xP).get? s.heap.objs.size=aA xP:=jG s.heap rfl;have e2:((s.heap.push xP).push (xQ C s.heap.objs.size)).get? (s.heap.objs.size+1)=aA (xQ C s.heap.objs.size):=by have:=jG (s.heap.push xP) (o:=xQ C s.heap.objs.size) rfl;rwa [aw]at this
 have e3:(s.heap.push xP).Ns s.heap.objs.size (λ_=>aD):=⟨xP,#[],_,e1,rfl,(λe he=>absurd he (by simp)),λ_=>rfl⟩;have I1:=I.laid (o:=.own (s.heap.objs.size+1)) (t':=s.toks) (λb u q=>dO _ q) (aV _) ⟨_,e1⟩;refine I1.laid (λb u q=>dO _ q) (JY<|aw _ _) ?_;have ne:s.heap.objs.size≠s.heap.objs.size+1:=cC (cM _);refine⟨by rw[bX ne,gI],jR _,ne,e2,λ_=>aD,(Heap.Ns1.of_empty e3).at λo q=>dO _ q,λ_=>mS,λy hy=>absurd rfl hy⟩
theorem NA{env:Env}{f:Str}(hb:kj e f env (eval e env)=eval e env)
  (h:aU (aY prog w) A (eval e env) (λo s₁=>aU (aY prog w) A (getAttr o f aB) Q E s₁) E s):aU (aY prog w) A (eval (.Attribute e f pos) env) Q E s:=
 Attribute_any_ h (by rw[arm_eval_Attribute,hb])
end
def aKj(K:bH)(ta:TE)(f:Str):TE:=λZ H Q=>ta Z H λx H1=>∃a C dx fs v,x = .ref a/\H1 a=aA (.ins C dx fs)/\mU K C/\vP K C f/\fs.lookup f=aA v/\Q v H1
def aHt(K:bH)(ta tv:TE)(f:Str):TS:=λD Z H=>tv Z H λy H1=>ta Z H1 λx H2=>∃a C dx fs,x = .ref a/\H2 a=aA (.ins C dx fs)/\mU K C/\vP K C f/\fs.length<1000 /\
 D.nx Z (bE H2 a<|.ins C dx<|jO f y fs)
def Sb(X:Cx)(op:rN)(rd:V->V->Hp->VK->Prop):Prop:=
 ∀(pins:Fw) (s:aK) (Z:St) (H:Hp) (x y:V) (u v:Value) (Q:VK),Inv X pins Z H s->RelV x u->RelV y v->rd x y H Q->aU (aY X.prog X.w) X.A (Qx op u v) (EP X pins Z Q) X.xe s
def aHu(K:bH)(ta tv:TE)(rd:V->V->Hp->VK->Prop)(f:Str):TS:=λD Z H=>ta Z H λx H1=>∃a C dx fs v,x = .ref a/\H1 a=aA (.ins C dx fs)/\mU K C/\vP K C f/\fs.lookup f=aA v /\
 tv Z H1 λy H2=>rd v y H2 λz H3=>∃dx' fs',H3 a=aA (.ins C dx' fs')/\fs'.length<1000/\D.nx Z (bE H3 a<|.ins C dx'<|jO f z fs')
section
variable {o value:aI}{f:Str}{tpos:Pos}{ta tv:TE}
theorem V2(he:PE X e ta)(hb:kj e f X.env (eval e X.env)=eval e X.env):PE X (.Attribute e f pos) (aKj X.K ta f):=by intro pins s b H Q I h;refine NA hb<|bA (he pins s b H _ I h) λu s1 d=>?_;obtain⟨x,H1,g,i,a,C,o,fs,v,ex,j,c,n,l,q⟩:=d;subst ex;obtain rfl:u=kX a:=i;exact Yk g j c n l λp s2 k m=>⟨v,H1,k,m,q⟩
theorem aAi(ha:PE X o ta)(hv:PE X value tv)(hs:vM value (aA<|.Attribute o f pos') pos.line X.env=pure aG):PS X (.Assign [.Attribute o f pos'] value pos) (aHt X.K ta tv f):=by intro pins s b H D I h;refine aSz (bA (hv pins s b H _ I h) λu s1 ⟨y,H1,d,e,q⟩=>bA (ha pins s1 b H1 _ d q) λg s2 ⟨x,r,i,j,a,C,t,fs,ex,k,c,n,l,m⟩=>?_) hs;subst ex;obtain rfl:g=kX a:=j;exact EY i k c n l e λv p=>⟨b,_,p,m⟩
theorem aAj{op:rN}{rd:V->V->Hp->VK->Prop}(ha:PE X o ta)(hv:PE X value tv)(hop:Sb X op rd):PS X (.AugAssign (.Attribute o f tpos) op value pos) (aHu X.K ta tv rd f):=by intro pins s b H D I h;refine wpAny_AugAssign_AttributeAny<|bA (ha pins s b H _ I h) λg s1 d=>?_;obtain⟨x,H1,i,j,a,C,N,fs,v,ex,k,c,n,l,q⟩:=d;subst ex;obtain rfl:g=kX a:=j;refine Yk i k c n l λu s2 m p=>bA (hv pins s2 b H1 _ m q) λw3 r ⟨y,t,w,A,B⟩=>bA (hop pins r b t v y u w3 _ w p A B) λO P d=>?_;obtain⟨z,Q,E,F,G,J,e,K,L⟩:=d;exact EY E e c n K F λR M=>⟨b,_,M,L⟩
def aGu:V->V->Hp->VK->Prop:=λx y H Q=>∃i j,x = .int i/\y = .int j/\Q (.int<|i+j) H
theorem x5:Sb X .Add aGu:=by
 rintro pins s Z H x y u v Q I rx ry ⟨i,j,rfl,rfl,q⟩
 obtain⟨t,rfl⟩:=(show∃t,u=xR i t from rx);obtain⟨t',rfl⟩:=(show∃t',v=xR j t' from ry);exact PyProof.Rows.iadd_int ⟨.int (i+j),H,I.tok _,⟨_,rfl⟩,q⟩
end
structure fI(k:Nat)(A:cR):Prop where
 hd:A.handled=aD
 dp:A.depth+3*k+5<recursionLimit
 un:A.units+16*k+200<cLine
theorem fI.mono{k:Nat}(r:fI k A)(h:j<=k):fI j A:=⟨r.hd,by have:=r.dp;lia,by have:=r.un;lia⟩
theorem fI.deeper{k:Nat}{A:cR}(r:fI (k+1) A)(env:Env):fI k (A.deeper env):=
 ⟨r.hd,by have:=r.dp;show A.depth+1+3*k+5<_;lia,by have:=r.un;show A.units+3+16*k+200<_;lia⟩
theorem E6:(A.under<|.builtin "type.__call__" ⟨.ref C::us,kw⟩).depth=A.depth+1:=by first|rfl|simp[Code.weight]
theorem E8:(A.under<|.builtin "type.__call__" ⟨.ref C::us,kw⟩).units=A.units+1:=by first|rfl|simp[Code.cUnits]
theorem fI.make{k:Nat}(r:fI (k+1) A)(C:Addr)(us:Fv)(kw:Wh):fI k (A.under<|.builtin "type.__call__" ⟨.ref C::us,kw⟩):=
 ⟨r.hd,by have:=r.dp;rw[E6];lia,by have:=r.un;rw[E8];lia⟩
theorem fI.depth{k:Nat}{A:cR}(r:fI k A):A.depth<recursionLimit:=by have:=r.dp;lia
theorem fI.units{k:Nat}{A:cR}(r:fI k A):A.units+64<cLine:=by have:=r.un;lia
def iz:TA:=λ_ H Q=>Q [] H
def Mn(ta:TE)(tr:TA):TA:=λZ H Q=>ta Z H λx H1=>tr Z H1 λxs H2=>Q (x::xs) H2
section
variable {t:TA}
theorem zR:PA X [] iz:=λ_ _ _ _ H Q I h=>Calls.spliced_nil ⟨[],H,I,.nil,h⟩
theorem wR(ha:PE X e te)(hr:PA X es t)(hs:eC (e::es) X.env=(aG,eval e X.env)::eC es X.env:=by rfl):PA X (e::es) (Mn te t):=by intro pos pins s a H Q I h;rw[hs];show aU _ _ (spliced<|(aG,eval e X.env)::lN pos (eC es X.env)) _ _ s;refine Calls.spliced_cons<|bA (ha pins s a H _ I h) λu s1 b=>?_;obtain⟨x,H1,c,d,f⟩:=b;exact bA (hr pos pins s1 a H1 _ c f) λus s2 ⟨xs,g,i,j,k⟩=>⟨x::xs,g,i,.cons d j,k⟩
def aKy(t:TA):TE:=λZ H Q=>t Z H λxs H1=>xs.length<=sizeLine/\∀p,H1 p=aD->Q (.ref p) (bE H1 p<|.tup xs)
def aKn(t:TA):TE:=λZ H Q=>t Z H λxs H1=>xs.length<=sizeLine/\∀p,H1 p=aD->Q (.ref p) (bE H1 p<|.lst xs)
theorem W8{x1}(h:PA X es t):PE X (.Tuple es x1 pos) (aKy t):=by intro pins s c H Q I d;refine wpAny_Tuple_spliced<|bA (h pos pins s c H _ I d) λus s1 ⟨xs,H1,a,r,z,q⟩=>⟨r.length▸z,?_⟩;have f:=a.aZ.fresh (aV _);refine⟨.ref s1.heap.objs.size,bE H1 s1.heap.objs.size (.tup xs),a.laid (λb u e=>dO _ e) (aV _) ?_,rfl,q _ f⟩;exact⟨z,us,r,⟨_,jG _ rfl,rfl,_,rfl⟩⟩
theorem V6(h:PA X es t):PE X (.List es pos) (aKn t):=by intro pins s c H Q I d;refine wpAny_List_spliced<|bA (h pos pins s c H _ I d) λus s1 ⟨xs,H1,a,r,z,q⟩=>⟨r.length▸z,?_⟩;have f:=a.aZ.fresh (aV _);refine⟨.ref s1.heap.objs.size,bE H1 s1.heap.objs.size (.lst xs),a.laid (λb u e=>dO _ e) (aV _) ?_,rfl,q _ f⟩;exact⟨z,us,0,r,jG _ rfl⟩
end
abbrev Sp:=Fx->Hp->VK->XK->Prop
variable {sp:Sp}
abbrev nP:=Wl->Hp->aK->XK->Value->aK->Prop
variable {CX:nP}
structure xY(P:cD)(w:bW)(K:bH)(mg:Str->WM)(base:bS)(A:cR)(outer:Wl)(s:aK)(H:Hp):Prop where
 frames:A.frames=aA outer
 mod:Mod K mg base
 bs:∀b o,base.get? b=aA o->s.heap.get? b=aA o/\H b=aD
 vW:base.objs.size<=s.heap.objs.size
 qA:s.heap.FunFrames base outer
 fq:∀b∈pY outer,H b=aD
 aZ:eZ P w H s.heap
 bare:vC s.gens
def CE(outer:Wl)(P:cD)(w:bW)(H:Hp)(s:aK)(Q:VK)(u:Value)(s':aK):Prop:=
 ∃v H',s'.os=s.os/\vC s'.gens/\Un (pY outer) [] H H' s.heap s'.heap/\eZ P w H' s'.heap/\RelV v u/\Q v H'
def CR(CX:nP)(outer:Wl)(P:cD)(w:bW)(H:Hp)(s:aK)(Q:VK)(E:XK)(r:Result)(s':aK):Prop:=
 match r with
 |.ok (.ret u)=>CE outer P w H s Q u s'
 |.ok _=>False
 |.error e=>CX outer H s E e s'
structure iK(P:cD)(w:bW)(K:bH)(mg:Str->WM)(base:bS)(CX:nP)(k:Nat)(f:Addr)(fd:eV)(ps:WL)(sp:Sp):Prop where
 len:∀vs H Q E,sp vs H Q E->vs.length=ps.length
 run:∀(A:cR) (outer:Wl) (s:aK) (H:Hp) (args:Args) (us:Fv) (vs:Fx) (Q:VK) (E:XK),fI k A->xY P w K mg base A outer s H->jn s fd args (ps.zip us)->Vals vs us->sp vs H Q E ->
  tE (aY P w) A (.call (.ref f) args) (CR CX outer P w H s Q E) s
theorem iK.imp{K:bH}{k:Nat}{f:Addr}{sp':Sp}(F:iK P w K mg base CX k f fd ps sp)
  (h:∀vs H Q E,sp' vs H Q E->sp vs H Q E):iK P w K mg base CX k f fd ps sp':=
 ⟨λvs H Q E q=>F.len vs H Q E (h _ _ _ _ q),λA outer s H args us vs Q E hr he hb a b=>F.run A outer s H args us vs Q E hr he hb a (h _ _ _ _ b)⟩
theorem xY.make{K:bH}(e:xY P w K mg base A outer s H)(C:Addr)(us:Fv)(kw:Wh) :
 xY P w K mg base (A.under<|.builtin "type.__call__" ⟨.ref C::us,kw⟩) outer s H:=⟨by first|exact e.frames|(simpa[Code.envs]),e.mod,e.bs,e.vW,e.qA,e.fq,e.aZ,e.bare⟩
theorem Inv.Fq(I:Inv X pins Z H s):xY X.prog X.w X.K X.mg X.base X.A X.stack s H:=
 ⟨I.ok.frames,I.ok.mod,I.bs,dR I.ok.vW I.sz,I.stack,I.FQ,I.aZ,I.bare⟩
theorem Inv.after{Q:VK}(I:Inv X pins Z H s)(h:CE X.stack X.prog X.w H s Q u s'):EP X pins Z Q u s':=by obtain⟨v,c,os,bare,un,aZ,r,q⟩:=h;obtain⟨e,g,d,t,a⟩:=s';obtain rfl:a=s.os:=os;exact⟨v,c,I.call un aZ bare (λb z=>absurd z (by simp)),r,q⟩
def FX(sp:Sp)(dvs:Fx)(E:XK)(t:TA):TE:=λZ H Q=>t Z H λvs H1=>sp (vs++dvs) H1 Q E
def FY(C:Addr)(sp:Sp)(dvs:Fx)(E:XK)(t:TA):TE:=λZ H Q=>t Z H λvs H1=>∀x dx,H1 x=aD->H1 dx=aD->dx≠x ->
 sp (.ref x::(vs++dvs)) (bE (bE H1 dx<|.own x) x<|.ins C dx []) (λv H2=>v = .aH/\Q (.ref x) H2) E
def Binds(K:bH)(fd:eV)(ps:WL)(ds:Fv):Prop:=
 ∀(s:aK) (us:Fv),K.In s.heap->(us++ds).length=ps.length->jn s fd ⟨us,[]⟩ (ps.zip<|us++ds)
theorem Binds.all{K:bH}(h:∀us:Fv,us.length=ps.length->bindArgs fd ⟨us,[]⟩=pure (ps.zip us)):Binds K fd ps []:=λs us _ hl=>by rw[pE]at hl ⊢;exact .of_eq<|h us hl
def rT(CX:nP)(X:Cx)(E:XK):Prop:=∀(pins:Fw) (Z:St) (H:Hp) (s:aK) (e:Value) (s':aK),Inv X pins Z H s->CX X.stack H s E e s'->X.xe e s'
section
variable {k:Nat}{f:Addr}{dvs:Fx}{ds:Fv}{E:XK}{o:aI}{ta:TE}{t:TA}
theorem Lu{Q:VK}(F:iK X.prog X.w X.K X.mg X.base CX k f fd ps sp)(hr:fI k X.A)(hb:Binds X.K fd ps ds)(hd:Vals dvs ds)(hx:rT CX X E)
  (I:Inv X pins Z H s)(r:Vals vs us)(h:sp (vs++dvs) H Q E):aU (aY X.prog X.w) X.A (call (.ref f) us) (EP X pins Z Q) X.xe s:=by
 have b:=r.append hd;have hl:(us++ds).length=ps.length:=by rw[<- b.length];exact F.len _ _ _ _ h
 refine vc<|uy (F.run X.A X.stack s H ⟨us,[]⟩ (us++ds) (vs++dvs) Q E hr I.Fq (hb s us I.fM hl) b h) λr c a=>?_;cases r with
 |error e=>exact hx pins Z H s e c I a|ok fl=>
  cases fl with
  |ret u=>exact I.after a|next=>exact kU a|brk=>exact kU a|cont=>exact kU a
theorem U3(F:iK X.prog X.w X.K X.mg X.base CX k f fd ps sp)(hr:fI k X.A)(hg:Gl X x)(hm:X.mg x=aA (.ref f))(hk:tD X.K (.ref f)=aB)(hb:Binds X.K fd ps ds)(hd:Vals dvs ds)(hx:rT CX X E)
  (ha:PA X (e::es) t) (hdb:(x==("__debug__":Str))=aG:=by decide) (he:eC (e::es) X.env=(aG,eval e X.env)::eC es X.env:=by rfl) (hpl:(lN pos<|eC es X.env).any (·.1)=aG:=by rfl) :
  PE X (.Call (.Name x p) (e::es) [] pos) (FX sp dvs E t):=by
 intro pins s b H Q I h;refine cz<|qk I hg hm ?_ hdb;refine Cr I.ok.mod.gc hk (bA (ha pos pins s b H _ I h) λus s1 ⟨c,H1,a,r,q⟩=>⟨a.fM,?_⟩) he hpl;exact Lu F hr hb hd hx a r q
theorem U4(F:iK X.prog X.w X.K X.mg X.base CX k f fd ps sp)(hr:fI k X.A)(hg:Gl X x)(hm:X.mg x=aA (.ref f))(hk:tD X.K (.ref f)=aB)(hb:Binds X.K fd ps ds)(hd:Vals dvs ds)(hx:rT CX X E)
  (hdb:(x==("__debug__":Str))=aG:=by decide):PE X (.Call (.Name x p) [] [] pos) (FX sp dvs E iz):=by
 intro pins s Z H Q I h;refine cz<|qk I hg hm ?_ hdb;exact Qe I.fM hk<|Lu F hr hb hd hx I .nil h
structure Mk(K:bH)(C f:Addr):Prop where
 makes:Qi K C=aB
 init:nM K (.ref C) "__init__"=aA (aA<|.ref f)
 fn:uq K (.ref f)=aB
 kp:tD K (.ref C)=aB
theorem ER{Q:VK}(M:Mk X.K C f)(F:iK X.prog X.w X.K X.mg X.base CX k f fd ps sp)(hr:fI (k+1) X.A)(hb:Binds X.K fd ps ds)(hd:Vals dvs ds)
  (hx:rT CX X E)(I:Inv X pins Z H s)(r:Vals vs us)
  (h:∀x dx,H x=aD->H dx=aD->dx≠x->sp (.ref x::(vs++dvs)) (bE (bE H dx<|.own x) x<|.ins C dx []) (λv H2=>v = .aH/\Q (.ref x) H2) E) :
  aU (aY X.prog X.w) X.A (call (.ref C) us) (EP X pins Z Q) X.xe s:=by
 have c:=h (s.heap.objs.size+1) s.heap.objs.size (I.aZ.fresh<|iJ _) (I.aZ.fresh<|aV _) (cC<|cM _);have b:=Inv.made (C:=C) I;have d:Vals (V.ref (s.heap.objs.size+1)::(vs++dvs)) (kX (s.heap.objs.size+1)::(us++ds)):=.cons rfl (r.append hd);have hl:(kX (s.heap.objs.size+1)::us++ds).length=ps.length:=by have e:=d.length;rw[F.len _ _ _ _ c]at e;exact e.symm
 refine vc (E7 I.fM M.makes M.init (beq_iff_eq.mp M.fn) (uy (F.run _ X.stack _ _ ⟨kX (s.heap.objs.size+1)::us,[]⟩ (kX (s.heap.objs.size+1)::(us++ds)) _ _ E (hr.make C us [])
  (b.Fq.make C us []) (hb _ (kX (s.heap.objs.size+1)::us) b.fM hl) d c) λr g a=>?_))
 cases r with
 |error e=>exact hx pins Z _ _ e g b a|ok fl=>
  cases fl with
  |ret u=>obtain⟨v,i,j,l,ev,m⟩:=b.after a;subst ev;exact⟨l,⟨V.ref (s.heap.objs.size+1),i,j,rfl,m⟩⟩
  |next=>exact kU a|brk=>exact kU a|cont=>exact kU a
theorem V7(M:Mk X.K C f)(F:iK X.prog X.w X.K X.mg X.base CX k f fd ps sp)(hr:fI (k+1) X.A)(hg:Gl X x)(hm:X.mg x=aA (.ref C))(hb:Binds X.K fd ps ds)(hd:Vals dvs ds)(hx:rT CX X E)
  (ha:PA X (e::es) t) (hdb:(x==("__debug__":Str))=aG:=by decide) (he:eC (e::es) X.env=(aG,eval e X.env)::eC es X.env:=by rfl) (hpl:(lN pos<|eC es X.env).any (·.1)=aG:=by rfl) :
  PE X (.Call (.Name x p) (e::es) [] pos) (FY C sp dvs E t):=by
 intro pins s b H Q I h;refine cz<|qk I hg hm ?_ hdb;refine Cr I.ok.mod.gc M.kp (bA (ha pos pins s b H _ I h) λus s1 ⟨c,H1,a,r,q⟩=>⟨a.fM,?_⟩) he hpl;exact ER M F hr hb hd hx a r q
theorem V8(M:Mk X.K C f)(F:iK X.prog X.w X.K X.mg X.base CX k f fd ps sp)(hr:fI (k+1) X.A)(hg:Gl X x)(hm:X.mg x=aA (.ref C))(hb:Binds X.K fd ps ds)(hd:Vals dvs ds)(hx:rT CX X E)
  (hdb:(x==("__debug__":Str))=aG:=by decide):PE X (.Call (.Name x p) [] [] pos) (FY C sp dvs E iz):=by
 intro pins s Z H Q I h;refine cz<|qk I hg hm ?_ hdb;exact Qe I.fM M.kp<|ER M F hr hb hd hx I .nil h
end
def PK(X:Cx)(kws:List sW)(t:TA):Prop:=
 ∀(pos:Pos) (pins:Fw) (s:aK) (Z:St) (H:Hp) (Q:Fx->Hp->Prop),Inv X pins Z H s->t Z H Q->aU (aY X.prog X.w) X.A (evalAll<|(xT pos<|xV kws X.env).map (·.2)) (AP X pins Z Q) X.xe s
section
variable {k:Nat}{f:Addr}{ks:WL}{E:XK}{B9:Pos}{o:aI}{kws:List sW}{ta:TE}{t tk:TA}{nm:Option Str}
theorem Y4:PK X [] iz:=λ_ _ _ _ H Q I h=>wpAny_evalAll_nil ⟨[],H,I,.nil,h⟩
theorem Y3(ha:PE X e te)(hr:PK X kws t):PK X (⟨nm,e,B9⟩::kws) (Mn te t):=by intro pos pins s a H Q I h;show aU _ _ (evalAll<|(do let v <- eval e X.env;Dg pos;pure v)::(xT pos<|xV kws X.env).map (·.2)) _ _ s;exact wpAny_evalAll_cons<|bB<|bA (ha pins s a H _ I h) λu s1 ⟨x,H1,b,c,d⟩=>bB (ky<|cU<|bA (hr pos pins s1 a H1 _ b d) λus s2 ⟨xs,f,g,i,j⟩=>⟨x::xs,f,g,.cons c i,j⟩)
variable {g:Fv->Fv->Fv}{gV:Fx->Fx->Fx}
end
structure lj(N P:WL)(sc:gK):Prop where
 kind:sc.kind = .function
 co:sc.isCoroutine=aG
 gen:sc.isGenerator=aG
 nd:N.Nodup
 pre:N.take P.length=P
 par:∀x∈P,sc.names.lookup x=aA .local\/sc.names.lookup x=aA .cell
 L3:∀y∈sc.names,y.2 ≠ .free
theorem Ud{kindOf:Str->Option sZ}{x:Str}:∀{binds:Wh}{m:Str->WM},(∀v,(x,v)∉binds)->cf kindOf binds m x=m x
 |[],_,_=>rfl
 | (n,v)::r,m,h=>by
  unfold cf;rw[Ud λw hw=>h w (iI _ hw)];split
  .have:x≠n:=by rintro rfl;exact h v fS
   simp[this]
  .rfl
theorem Ub{kindOf:Str->Option sZ}{x:Str}:∀{binds:Wh}{m:Str->WM},(∀v,(x,v)∉binds)->bz kindOf binds m x=m x
 |[],_,_=>rfl
 | (n,v)::r,m,h=>by
  unfold bz;rw[Ub λw hw=>h w (iI _ hw)];split
  .rfl
  .have:x≠n:=by rintro rfl;exact h v fS
   simp[this]
theorem Uc{kindOf:Str->Option sZ}{x:Str}{v:Value}:∀{P:WL}{vs:Fv}{i:Nat}{m:Str->WM},P.Nodup->P[i]?=aA x->vs[i]?=aA v->kindOf x=aA .local ->
  cf kindOf (P.zip vs) m x=aA v
 |[],_,_,_,_,h,_,_=>by simp at h
 |_::_,[],_,_,_,_,h,_=>by simp at h
 |p::P,w::vs,0,m,nd,a,b,c=>by simp at a b;subst a;subst b;show cf kindOf ((p,w)::P.zip vs) m p=_;unfold cf;rw[Ud λv d=>(List.nodup_cons.mp nd).1 (Pe d).1,if_pos c];simp
 |p::P,w::vs,i+1,m,nd,a,b,c=>by unfold cf;exact Uc (List.nodup_cons.mp nd).2 (by simpa) (by simpa) c
theorem Ua{kindOf:Str->Option sZ}{x:Str}{v:Value}:∀{P:WL}{vs:Fv}{i:Nat}{m:Str->WM},P.Nodup->P[i]?=aA x->vs[i]?=aA v->kindOf x≠aA .local ->
  bz kindOf (P.zip vs) m x=aA v
 |[],_,_,_,_,h,_,_=>by simp at h
 |_::_,[],_,_,_,_,h,_=>by simp at h
 |p::P,w::vs,0,m,nd,a,b,c=>by simp at a b;subst a;subst b;show bz kindOf ((p,w)::P.zip vs) m p=_;unfold bz;rw[Ub λv d=>(List.nodup_cons.mp nd).1 (Pe d).1,if_neg c];simp
 |p::P,w::vs,i+1,m,nd,a,b,c=>by unfold bz;exact Ua (List.nodup_cons.mp nd).2 (by simpa) (by simpa) c
def start(N:WL)(vs:Fx):St:=vs.map aA++eO (N.length-vs.length) aD
def wC(CX:nP)(P:cD)(w:bW)(K:bH)(mg:Str->WM)(base:bS)(N:WL)(qual:Str)(scope:gK)(f:Addr)(cd:Value)(A:cR)(outer:Wl)(s:aK)(H:Hp)(E:XK):Cx where
 prog:=P
 w:=w
 K:=K
 mg:=mg
 base:=base
 A:=A.deeper (vK qual scope s.heap.objs.size f cd)
 N:=N
 s₀:=s
 H₀:=H
 env:=vK qual scope s.heap.objs.size f cd
 outer:=outer
 stack:=vK qual scope s.heap.objs.size f cd::outer
 ex:=[]
 calm:=aB
 fn:=λ_=>aB
 pn:=[]
 xe:=λe s'=>aU (aY P w) (A.deeper<|vK qual scope s.heap.objs.size f cd) (leaving (vK qual scope s.heap.objs.size f cd) e) (λ_ s''=>CX outer H s E e s'') (λe' s''=>CX outer H s E e' s'') s'
theorem Um{sc:gK}{n:Nat}(h:sc.names.lookup x=aA .cell):∃c,(Qt n sc.names []).lookup x=aA c:=by exact Option.isSome_iff_exists.mp<|LK sc.names n []<|.inl h
theorem y0{K:bH}{f:Addr}{cd:Value}{s1:aK}{E:XK}
  (S:lj N ps scope)(hd:A.handled=aD)(e0:xY P w K mg base A outer s H)(hl:vs.length=ps.length)(r:Vals vs us)
  (x:InCallC s s.heap.objs.size (cf (vK qual scope s.heap.objs.size f cd).kindOf (ps.zip us) λ_=>aD) (Qt (s.heap.objs.size+1) scope.names []) (bz (vK qual scope s.heap.objs.size f cd).kindOf (ps.zip us) λ_=>aD) s1) :
  Inv (wC CX P w K mg base N qual scope f cd A outer s H E) [] (start N vs) H s1:=by
 have B:ps.length<=N.length:=by have:=congrArg JP S.pre;rw[kW]at this;lia
 obtain⟨m,tk,rfl,o⟩:=x.done;have g:∀b:Addr,b∉(wC CX P w K mg base N qual scope f cd A outer s H E).ex:=λb z=>absurd (show b∈([]:S1) from z) (by simp);refine⟨⟨e0.mod,S.kind,rfl,rfl,aV _,λy z c m d=>?_,λy hy=>?_,λy c _ h=>?_,λ_=>hd,Around.frames_deeper e0.frames,.inr ⟨rfl,rfl⟩,λb z=>absurd z (g b),e0.bs,e0.vW,λb _ _=>g b,λb z=>absurd z (g b),e0.qA,e0.fq⟩,
  rfl,e0.bare,Un.kept o,⟨_,x.toInCall.ns,λi y v m d D=>?_⟩,λy c h=>⟨_,x.cell y c h⟩,e0.aZ.fresh (aV _),λy c h=>?_,λp j=>absurd (show p∈([]:Fw) from j) (by simp),e0.aZ.kept o,?_⟩
 .exact name_of_addr x.apart (uu m)<|uu d
 .have hy:=hy;rcases hy with hy|hy
  .exact Um hy
  .exact absurd rfl<|S.L3 _<|uu hy
 .exact mR<|x.above y c<|uu h
 .have n:i<vs.length:=by
   unfold start at d;by_cases n:i<vs.length
   .exact n
   .rw[Bx (by simpa using n)]at d;rw[By]at d;split at d<;>cases d
  have ha:vs[i]?=aA v:=by
   unfold start at d;rw[sY (by simpa),fR]at d;cases e:vs[i]? with
   |none=>rw[e]at d;cases d|some a=>rw[e]at d;cases d;rfl
  obtain⟨u,t,C⟩:=r.get ha;have j:ps[i]?=aA y:=by rw[<- S.pre,aQt (by lia)];exact m
  have l:ps.Nodup:=by rw[<- S.pre];exact S.nd.sublist<|List.take_sublist _ _
  refine⟨u,C,?_⟩;rcases S.par y (bM j)with k|k
  .exact .inl ⟨k,Uc l j t k⟩
  .obtain⟨c,e⟩:=Um k;refine .inr ⟨.inl k,c,e,?_⟩;have q:=x.cell y c e;rw[Ua l j t (by show scope.names.lookup y≠_;rw[k];decide)]at q;exact q
 .exact e0.aZ.fresh<|mR<|x.above y c<|uu h
 .unfold start;show _=N.length;rw[dC,aR,ui];lia
theorem f9{K:bH}{k:Nat}{f:Addr}{name:Str}{params:Oa}{dV kV doc pm cdv ct oc:Value}{an od:Wr}
  {osl:Wn}(lk:K.lookup f=aA ⟨oc,od,.func (ki name qual params body scope dV kV doc pm an cdv ct),osl⟩)(hcd:Qf K cdv qual=aB)(S:lj N ps scope)
  (len:∀vs H Q E,sp vs H Q E->vs.length=ps.length)
  (Hb:∀(A:cR) (outer:Wl) (s:aK) (H:Hp) (vs:Fx) (Q:VK) (E:XK),fI k (A.deeper<|vK qual scope s.heap.objs.size f cdv)->sp vs H Q E ->
   ∃t,rS (wC CX P w K mg base N qual scope f cdv A outer s H E) body t/\t { nx:=λ_ H'=>Q .aH H',rt:=Q } (start N vs) H) :
  iK P w K mg base CX (k+1) f (ki name qual params body scope dV kV doc pm an cdv ct) ps sp:=by
 refine⟨len,λA outer s H args us vs Q E hr g hb r h=>?_⟩;have l:=g.mod.gc.keeps λb o e=>(g.bs b o e).1;have lim:=g.mod.nolimit.keeps λb o e=>(g.bs b o e).1;have c:∀y∈ps.zip us,scope.names.lookup y.1=aA .local\/(scope.names.lookup y.1=aA .cell/\((Qt (s.heap.objs.size+1) scope.names []).lookup y.1).isSome=aB):=λ⟨n,v⟩ m=>by
  rcases S.par n (Pe m).1 with q|q
  .exact .inl q
  .exact .inr ⟨q,LK _ _ _ (.inl q)⟩
 refine codeAny_call_function hr.depth (l _ _ lk) rfl S.co S.gen rfl (W.codeRec_of l hcd)<|hb _ _ _ _ ?_;refine wpAny_newFunctionEnv_cells S.kind c λenv he s1 x=>?_;subst he;refine⟨lim.keeps x.toInCall.keep,codeAny_func ?_⟩;obtain⟨t,ht,p⟩:=Hb A outer s H vs Q E (hr.deeper _) h;have I:Inv (wC CX P w K mg base N qual scope f cdv A outer s H E) [] (start N vs) H s1:=y0 S hr.hd g (len _ _ _ _ h) r x;refine vd (ht [] s1 (start N vs) H _ I p) (λfl i d=>?_) λe i d=>d;have fin:∀{a:St} {H':Hp}{v:V}{u:Value},Inv (wC CX P w K mg base N qual scope f cdv A outer s H E) [] a H' i->RelV v u->Q v H'->CE outer P w H s Q u i:=
  λ{a H' v u} J j q=>⟨v,H',J.os,J.bare,J.base,J.aZ,j,q⟩
 cases fl with
 |ret u=>obtain⟨v,a,H',J,j,q⟩:=d;exact fin J j q
 |next=>obtain⟨a,H',J,q⟩:=d;exact fin (v:=V.aH) J rfl q
 |brk=>obtain⟨_,_,_,q⟩:=d;exact kU q
 |cont=>obtain⟨_,_,_,q⟩:=d;exact kU q
section
variable {t:TA}{id T:String}{r:Fx->Hp->VK->Prop}
def FW(r:Fx->Hp->VK->Prop)(t:TA):TE:=λZ H Q=>t Z H λvs H1=>r vs H1 Q
theorem zm(hc:jL X (.builtin id) r) (hg:Gl X x) (hm:X.mg x=aD) (hv:mT x=aA (.builtin id)) (ha:PA X (e::es) t) (hn:x≠"__name__":=by decide) (hdb:(x==("__debug__":Str))=aG:=by decide)
  (he:eC (e::es) X.env=(aG,eval e X.env)::eC es X.env:=by rfl) (hpl:(lN pos<|eC es X.env).any (·.1)=aG:=by rfl):PE X (.Call (.Name x p) (e::es) [] pos) (FW r t):=by
 intro pins s a H Q I h;exact cz<|zL I hg hm hv (aRa (bA (ha pos pins s a H _ I h) λus s1 ⟨b,H1,c,d,f⟩=>hc pins s1 a H1 b us Q c d f) he hpl) hn hdb
theorem U5(hc:jL X (.type T) r) (hg:Gl X x) (hm:X.mg x=aD) (hv:mT x=aA (.type T)) (ha:PA X (e::es) t) (hn:x≠"__name__":=by decide) (hdb:(x==("__debug__":Str))=aG:=by decide)
  (he:eC (e::es) X.env=(aG,eval e X.env)::eC es X.env:=by rfl) (hpl:(lN pos<|eC es X.env).any (·.1)=aG:=by rfl):PE X (.Call (.Name x p) (e::es) [] pos) (FW r t):=by
 intro pins s a H Q I h;exact cz<|zL I hg hm hv (Cm (bA (ha pos pins s a H _ I h) λus s1 ⟨b,H1,c,d,f⟩=>hc pins s1 a H1 b us Q c d f) he hpl) hn hdb
end
end L2
namespace HT
open PySem PyProof.Rows
variable {Q:Value->aK->Prop}{hi:Ft}{sl:Addr}{vl vu:Value}
section
open PySem.SeqAt
open PySem.AutoSeq1 (wpAny_loadPart')
open PySem.MeetsSeq PySem.MeetsSeq2 PySem.MeetsSeq3
end
section
variable {prog:cD}{w:bW}{A:cR}{E:Value->aK->Prop}{s:aK}
theorem UE{t b:Addr}{vs ws:Fv}(ht:IsTup s.heap t vs.toArray)(hb:IsTup s.heap b ws.toArray)(hv:vs≠[])
  (h1:ws=[]->Q (.ref t) s)(h2:ws≠[]->Q (.ref s.heap.objs.size) { s with heap:=s.heap.push { cls:=.type "tuple",data:=.seq (vs++ws).toArray } })
  (hsz:vs.length+ws.length<=sizeLine):aU (aY prog w) A (eY .Add (.ref t)<|.ref b) Q E s:=by
 obtain⟨⟨cls,dd,data,sl⟩,h,i,n,hd⟩:=id ht;obtain⟨⟨j,c,data2,d⟩,a,f,k,g⟩:=id hb;simp only at i hd f g;subst i hd f g;have e:vs.toArray++ws.toArray=(vs++ws).toArray:=by simp
 by_cases hw:ws=[]
 .exact Qv ⟨_,h,rfl⟩ ⟨_,a,rfl⟩ Ra Rf Qb Pz (Py _ _)
   (tuple_addW1 t b vs.toArray ws.toArray n k dd c sl d (by simpa) (by simp[hw])) ⟨h,a,h1 hw⟩
 .refine Qv ⟨_,h,rfl⟩ ⟨_,a,rfl⟩ Ra Rf Qb Pz (Py _ _)
   (tuple_addW2 t b vs.toArray ws.toArray n k dd c sl d (by simpa) (by simpa)<|hsz) ⟨h,a,?_⟩
  rw[e];exact h2 hw
def bZ(n d:Nat):Ft->Nat
 |none=>d
 |some v=>if v<0 then(v+(n:Int)).toNat else min v.toNat n
theorem Lv(n d:Nat):bZ n d aD=d:=rfl
theorem iu(n d k:Nat):bZ n d (aA (k:Int))=min k n:=by show(if k<0 then(k+(n:Int)).toNat else min (k:Int).toNat n)=min k n;rw[if_neg (by lia),oG]
theorem aTn(n d:Nat)(hd:d<=n)(o:Ft):bZ n d o<=n:=by
 cases o with
 |none=>exact hd|some v=>
  show(if v<0 then(v+n).toNat else min v.toNat n)<=n;by_cases a:v<0
  .rw[if_pos a];lia
  .rw[if_neg a];exact KC _ _
theorem Ut(v:Int)(n d:Nat):(if v<0 then max (v+(n:Int)) 0 else min v (n:Int))=((bZ n d (aA v):Nat):Int):=by
 show(if v<0 then max (v+n) 0 else min v n)=(((if v<0 then(v+n).toNat else min v.toNat n):Nat):Int);by_cases a:v<0
 .simp only[if_pos a];lia
 .simp only[if_neg a];lia
theorem MS(lo hi:Ft)(n:Nat):Od lo hi 1 (n:Int)=(((bZ n 0 lo:Nat):Int),((bZ n n hi:Nat):Int)):=by
 have h1:¬(1<0):=by lia
 unfold Od;refine Pu ?_ ?_
 .cases lo with
  |none=>rfl|some v=>exact Ut v n 0
 .cases hi with
  |none=>rfl|some v=>exact Ut v n n
theorem Y9(i j:Nat):Bn (i:Int) (j:Int) 1=j-i:=by
 unfold Bn;have a:(1:Int) > 0:=by lia
 simp only[a,if_true,Int.ediv_one];split<;>lia
theorem FD{v:Value}{o:Ft}{Q:Ft->aK->Prop}(p:xG v o)(h:Q o s):aU (aY prog w) A (Builtin.Slice.slicePartIndex v) Q E s:=by
 cases p with
 |none=>exact LX h|int i t=>exact slicePart_int h
theorem aIh{lo:Ft}{n:Nat}{Q:Int×Int×Nat->aK->Prop}(hs:s.heap.IsSliceOf sl vl vu .none)(pl:xG vl lo)(pu:xG vu hi)
  (h:Q (((bZ n 0 lo:Nat):Int),1,bZ n n hi-bZ n 0 lo) s):aU (aY prog w) A (Builtin.Slice.sliceApplied (.ref sl)<|pure (n:Int)) Q E s:=by
 obtain⟨os,a,c,b⟩:=id hs;refine bB<|bB<|da a b (x:=vl) rfl<|bB<|da a b (x:=vu) rfl<|bB<|da a b rfl<|cU ?_;refine bB<|LX ?_;refine bB<|FD pl<|bB<|FD pu<|bB<|cU ?_;show aU _ _ (match Od lo hi 1 n with|(lo,hi)=>pure (lo,(1:Int),Bn lo hi 1)) _ _ s;rw[MS lo hi n];show aU _ _ (pure (((bZ n 0 lo:Nat):Int),1,Bn ((bZ n 0 lo:Nat):Int) ((bZ n n hi:Nat):Int) 1)) _ _ s;rw[Y9];exact cU h
theorem Y2(xs:WV)(i k:Nat):((Pk k).filterMap λ(m:Nat)=>xs[((i:Int)+(m:Int)*1).toNat]?).toArray=((xs.toList.drop i).take k).toArray:=by
 have e:(λ(m:Nat)=>xs[(i+(m:Int)*1).toNat]?)=λm=>xs[i+m]?:=by
  funext m
  have:(i+(m:Int)*1).toNat=i+m:=by lia
  rw[this]
 rw[e];have:=pick_run xs i k;rw[List.filterMap_map]at this;have a:((λx=>xs[x]?) ∘ λx=>i+x)=λm=>xs[i+m]?:=rfl;rw[a]at this;rw[this]
theorem j7{t:Addr}{items:WV}{lo:Ft}(ht:IsTup s.heap t items)(hs:s.heap.IsSliceOf sl vl vu .none)(pl:xG vl lo)(pu:xG vu hi)
  (hw:¬(bZ items.size 0 lo=0/\bZ items.size items.size hi=items.size))
  (h:Q (.ref s.heap.objs.size) { s with heap:=s.heap.push { cls:=.type "tuple",data:=.seq ((items.toList.drop<|bZ items.size 0 lo).take (bZ items.size items.size hi-bZ items.size 0 lo)).toArray } })
  (hsz:items.size<=sizeLine):aU (aY prog w) A (ck (.ref t)<|.ref sl) Q E s:=by
 have a:sizeOk (.seq ((items.toList.drop<|bZ items.size 0 lo).take (bZ items.size items.size hi-bZ items.size 0 lo)).toArray):=by show((items.toList.drop<|bZ items.size 0 lo).take (bZ items.size items.size hi-bZ items.size 0 lo)).toArray.size<=sizeLine;rw[hJ,kW,uh,aq];omega
 obtain⟨os,b,c,f⟩:=id hs;have d:s.TypeIs (.ref sl) "slice":=⟨os,b,c⟩;unfold ck;try with_reducible refine pJ ?_
 first|refine bB<|cU ?_|skip
 refine bB<|wpAny_sequenceKey ht.typeIs (rfl) ?_;refine bB (Rk ht.typeIs KQ
  (Rm KQ ht.typeIs entry_tuple_getitem ?_<|args_tuple_getitem _ _))
 show aU _ _ (Builtin.Tuple.tupleItemsOf (.ref t)>>=_) _ _ s;refine bB<|tupleItemsOf_ ht ?_;refine bB<|wpAny_typeOf d ?_;refine bB<|aIh hs pl pu ?_;have e:¬((((bZ items.size 0 lo:Nat):Int)==0&&(1:Int)==1&&(bZ items.size items.size hi-bZ items.size 0 lo)==items.size)=aB):=by intro q;rw[bT,bT]at q;have g:=eq_of_beq q.1.1;have i:=eq_of_beq q.2;exact hw ⟨by lia,by lia⟩
 show aU _ _ (if(((bZ items.size 0 lo:Nat):Int)==0&&1==1&&(bZ items.size items.size hi-bZ items.size 0 lo)==items.size)=aB then _ else _) _ _ s;rw[if_neg e,Y2];first
  |exact bB<|xX (cU ⟨_,rfl,cU h⟩) a|exact bB<|xX (bB<|cU<|cU ⟨_,rfl,cU h⟩) a|exact bB<|bB<|xX (cU<|cU ⟨_,rfl,cU h⟩) a|exact bB<|bB<|xX (cU ⟨_,rfl,cU h⟩) a
end
end HT
namespace L2
open PySem PySem.Spec PyProof.Rows
variable {H:Hp}{T:String}{X:Cx}{e:aI}{i:Int}{its its':Fv}{j n t':Nat}{p:Addr}{pins:Fw}{pos:Pos}{r:V->Ft->Ft->Hp->VK->Prop}{s:aK}{u v:Value}{x y:V}{xs ys:Fx}{Z:St}
abbrev TO:=St->Hp->(Ft->Hp->Prop)->Prop
def PO(X:Cx)(e:Option aI)(t:TO):Prop:=
 ∀(pins:Fw) (s:aK) (Z:St) (H:Hp) (Q:Ft->Hp->Prop),Inv X pins Z H s->t Z H Q ->
  aU (aY X.prog X.w) X.A (evalPart e X.env) (λu s'=>∃o H',Inv X pins Z H' s'/\xG u o/\Q o H') X.xe s
def aKp:TO:=λ_ H Q=>Q aD H
def aKu(t:TE):TO:=λZ H Q=>t Z H λx H1=>∃i,x = .int i/\Q (aA i) H1
section
variable {te:TE}{lo hi:Option aI}{tl th:TO}{p2:Pos}
theorem Z2:PO X aD aKp:=by intro pins s Z H Q I h;exact cU ⟨aD,H,I,.none,h⟩
theorem Z3(h:PE X e te):PO X (aA e) (aKu te):=by intro pins s a H Q I hw;refine bA (h pins s a H _ I hw) λu s1 b=>?_;obtain⟨x,H1,c,d,f⟩:=b;obtain⟨i,rfl,q⟩:=f;obtain⟨t,rfl⟩:=d;exact⟨aA i,H1,c,.int i t,q⟩
def yE(X:Cx)(r:V->Ft->Ft->Hp->VK->Prop):Prop:=
 ∀(pins:Fw) (s:aK) (Z:St) (H:Hp) (x:V) (v vl vu:Value) (lo hi:Ft) (sl:Addr) (Q:VK),Inv X pins Z H s->RelV x v->s.heap.IsSliceOf sl vl vu .none->xG vl lo->xG vu hi->r x lo hi H Q ->
  ∃T id,typeLookup (.type T) "__getitem__"=pure (aA<|.builtin id)/\s.TypeIs v T/\aU (aY X.prog X.w) X.A (ck v<|.ref sl) (EP X pins Z Q) X.xe s
theorem yE.or{r':V->Ft->Ft->Hp->VK->Prop}(h:yE X r)(h':yE X r'):yE X (λx lo hi H Q=>r x lo hi H Q\/r' x lo hi H Q):=by
 intro pins s a H x v vl b lo hi sl Q I c d pl pu q;rcases q with q|q
 .exact h pins s a H x v vl b lo hi sl Q I c d pl pu q
 .exact h' pins s a H x v vl b lo hi sl Q I c d pl pu q
def tSl(r:V->Ft->Ft->Hp->VK->Prop)(te:TE)(tl th:TO):TE:=λZ H Q=>te Z H λx H1=>tl Z H1 λl H2=>th Z H2 λu H3=>r x l u H3 Q
theorem W6(hr:yE X r)(he:PE X e te)(hl:PO X lo tl)(hu:PO X hi th):PE X (.Subscript e (.Slice lo hi aD p2) pos) (tSl r te tl th):=by intro pins s a H Q I h;refine Subscript_<|bA (he pins s a H _ I h) λv s1 d=>?_;obtain⟨x,H1,i,j,k⟩:=d;refine wpAny_Slice<|bA (hl pins s1 a H1 _ i k) λvl s2 ⟨l,m,n,pl,o⟩=>bA (hu pins s2 a m _ n o) λf c d=>?_;obtain⟨u,g,p,pu,t⟩:=d;refine cU ?_;have w:Inv X pins a g { c with heap:=c.heap.push { cls:=.type "slice",data:=.fields #[vl,f,.none] } }:=p.kept λb ob q=>dO _ q;obtain⟨T,id,y,ht,z⟩:=hr pins { c with heap:=c.heap.push { cls:=.type "slice",data:=.fields #[vl,f,.none] } } a g x v vl f l u c.heap.objs.size Q w j (Heap.IsSliceOf.new ..) pl pu t;exact tail_any ht y z (by with_unfolding_all rfl)
def fe(xs:Fx)(lo hi:Ft):Fx:=(xs.drop<|HT.bZ xs.length 0 lo).take (HT.bZ xs.length xs.length hi-HT.bZ xs.length 0 lo)
theorem Vh(xs:Fx)(lo hi:Ft):(fe xs lo hi).length<=xs.length:=by unfold fe;rw[kW,uh];lia
def aHe(K:bH):V->Ft->Ft->Hp->VK->Prop:=λx lo hi H Q=>∃a xs,x = .ref a/\eG K H a xs /\
 ¬(HT.bZ xs.length 0 lo=0/\HT.bZ xs.length xs.length hi=xs.length)/\∀p,H p=aD->Q (.ref p) (bE H p<|.tup<|fe xs lo hi)
theorem aIg:yE X (aHe X.K):=by intro pins s Z H x v vl vu lo hi sl Q I rx hs pl pu h;obtain⟨a,xs,rfl,hx,hw,q⟩:=h;cases rx;obtain⟨its,r,ht,hz⟩:=I.tuple hx;have hlen:its.toArray.size=xs.length:=r.length.symm;refine⟨"tuple",_,PyProof.Rows.slot_tuple_getitem.lookup,ht.typeIs,?_⟩;refine HT.j7 ht hs pl pu (hlen▸hw) ?_<|hlen▸hz;rw[hlen];refine⟨.ref s.heap.objs.size,_,I.laid (λb ob q=>dO _ q) (aV _) ?_,rfl,q _ (I.aZ.fresh<|aV _)⟩;exact⟨dR (Vh xs lo hi) hz,_,(r.drop<|HT.bZ xs.length 0 lo).take (HT.bZ xs.length xs.length hi-HT.bZ xs.length 0 lo),Br _ _⟩
def aGv(K:bH):R2:=λx y H Q=>∃a b xs ys,x = .ref a/\y = .ref b/\eG K H a xs/\eG K H b ys/\xs≠[]/\xs.length+ys.length<=sizeLine /\
 (ys=[]->Q (.ref a) H)/\(ys≠[]->∀p,H p=aD->Q (.ref p) (bE H p<|.tup<|xs++ys))
theorem Vals.Iu{us:Fv}(r:Vals xs us):us=[]↔xs=[]:=by
 cases r with
 |nil=>simp|cons _ _=>simp
theorem N0:cV X (eY .Add) (aGv X.K):=by intro pins s Z H x y v u Q I g i h;obtain⟨a,b,xs,ys,rfl,rfl,ha,hb,j,e,k,q2⟩:=h;cases g;cases i;obtain⟨its,d,p1,_⟩:=I.tuple ha;obtain⟨f,c,p2,_⟩:=I.tuple hb;refine HT.UE p1 p2 (λz=>j (d.Iu.mp z)) (λz=>⟨.ref a,H,I,rfl,k (c.Iu.mp z)⟩) (λz=>?_) (by rw[<- d.length,<- c.length];exact e);refine⟨.ref s.heap.objs.size,_,I.laid (λb ob q=>dO _ q) (aV _) ?_,rfl,q2 (λw=>z (c.Iu.mpr w)) _ (I.aZ.fresh<|aV _)⟩;exact⟨dC▸e,_,d.append c,Br _ _⟩
end
def jM(n:Nat)(i:Int):WS:=if 0<=i then(if i<n then aA i.toNat else aD) else if -(n:Int)<=i then aA (i+n).toNat else aD
def cJ{α:Type}(xs:List α)(i:Int):Option α:=(jM xs.length i).bind λj=>xs[j]?
theorem Zg(h:jM n i=aA j):seqIndex? i n=aA j/\j<n/\-(n:Int)<=i/\i<n:=by
 unfold jM at h;by_cases h0:0<=i
 .rw[if_pos h0]at h;by_cases a:i<n
  .rw[if_pos a]at h;have e:=dJ h;exact⟨by rw[Rc h0 a,e],by lia,by lia,a⟩
  .rw[if_neg a]at h;cases h
 .rw[if_neg h0]at h;by_cases a:-n<=i
  .rw[if_pos a]at h;have e:=dJ h;exact⟨by rw[seqIndex_neg (by lia) a,e],by lia,a,by lia⟩
  .rw[if_neg a]at h;cases h
theorem Eb{α:Type}{xs:List α}{v:α}(h:cJ xs i=aA v):∃j,seqIndex? i xs.length=aA j/\xs[j]?=aA v/\j<xs.length/\-(xs.length:Int)<=i/\i<xs.length:=by
 unfold cJ at h;cases e:jM xs.length i with
 |none=>rw[e]at h;cases h|some j=>rw[e]at h;obtain⟨a,b,c,d⟩:=Zg e;exact⟨j,a,h,b,c,d⟩
theorem mq{α:Type}{xs:List α}{v:α}(h:xs[j]?=aA v):cJ xs (j:Int)=aA v:=by
 have hj:=(List.getElem?_eq_some_iff.mp h).1;have e:jM xs.length j=aA j:=by unfold jM;rw[if_pos (by lia),if_pos (by lia)];simp
 unfold cJ;rw[e];exact h
def Dx(b:aI):Prop:=∀o i,Rh b aG o i=operate [o,i] (ck o i)
def pM(X:Cx)(r:R2):Prop:=
 ∀(value slice:aI) (pins:Fw) (s:aK) (Z:St) (H:Hp) (x y:V) (v u:Value) (Q:VK),Inv X pins Z H s->RelV x v->RelV y u->r x y H Q ->
  Rh slice aG v u=operate [v,u] (ck v u)->aU (aY X.prog X.w) X.A (subscriptTail value slice v u) (EP X pins Z Q) X.xe s
def Sf(X:Cx)(id:String)(r:V->Fx->Hp->VK->Prop):Prop:=
 ∀(pins:Fw) (s:aK) (Z:St) (H:Hp) (x:V) (xs:Fx) (v:Value) (us:Fv) (Q:VK),Inv X pins Z H s->RelV x v->Vals xs us->r x xs H Q ->
  aU (aY X.prog X.w) X.A (call (.builtin id)<|v::us) (EP X pins Z Q) X.xe s
section
variable {a b:aI}{ta tb:TE}
theorem pM.or{r r':R2}(h:pM X r)(h':pM X r'):pM X (λx y H Q=>r x y H Q\/r' x y H Q):=by
 intro value slice pins s a H x y v u Q I b c q d;rcases q with q|q
 .exact h value slice pins s a H x y v u Q I b c q d
 .exact h' value slice pins s a H x y v u Q I b c q d
theorem V5{r:R2}(hr:pM X r)(ha:PE X a ta)(hb:PE X b tb)(hs:Dx b):PE X (.Subscript a b pos) (An r ta tb):=by intro pins s c H Q I h;exact Subscript_<|Eh ha hb I h λv u s2 x y d e f g q=>hr a b pins s2 c d x y v u Q e f g q (hs _ _)
def DY(K:bH):R2:=λx y H Q=>∃p xs i v,x = .ref p/\y = .int i/\dM K H p xs/\cJ xs i=aA v/\Q v H
def EA(K:bH):R2:=λx y H Q=>∃p xs i v,x = .ref p/\y = .int i/\eG K H p xs/\cJ xs i=aA v/\Q v H
def DZ:R2:=λx y H Q=>∃z i c,x = .str z/\y = .int i/\z.length<=sizeLine/\cJ z.cps.toList i=aA c/\Q (.str ⟨#[c]⟩) H
theorem A0:pM X (DY X.K):=by
 intro value slice pins s f H x y v u Q I g k h e;obtain⟨p,xs,i,z,rfl,rfl,l,he,q⟩:=h;cases g;obtain⟨t,rfl⟩:=k;obtain⟨b,r,pl,A⟩:=I.list l;obtain⟨j,a,m,B,n,o⟩:=Eb he;obtain⟨w,C,c⟩:=r.get m;have hl:=r.length;have hn:=zM;have fin:EP X pins f Q w s:=⟨z,H,I,c,q⟩;by_cases h0:0<=i
 .have d:i.toNat=j:=by rw[Rc h0 o]at a;exact dJ a
  exact item_listR pl.isList h0 (by lia) (by rw[d];simpa) fin e
 .have d:(i+(b.toArray.size:Int)).toNat=j:=by rw[seqIndex_neg (by omega) n]at a;rw[hJ,<- hl];exact dJ a
  exact LY pl.isList.typeIs slot_list_getitem.lookup
   (wpAny_getItem_list_neg pl.isList (by omega) (by rw[hJ]<;>lia) (by lia) (by rw[d];simpa) ⟨rfl,fin⟩) e
theorem A3:pM X (EA X.K):=by
 intro value slice pins s b H x y v u Q I c d h e;obtain⟨p,xs,i,z,rfl,rfl,f,he,q⟩:=h;cases c;obtain⟨t,rfl⟩:=d;obtain⟨g,r,pl,m⟩:=I.tuple f;obtain⟨j,k,l,n,o,A⟩:=Eb he;obtain⟨w,B,a⟩:=r.get l;have hl:=r.length;have hn:=zM;have fin:EP X pins b Q w s:=⟨z,H,I,a,q⟩;exact LY pl.typeIs slot_tuple_getitem.lookup
  (getItem_tuple pl (by lia) (by lia) (by rw[hJ,<- hl];exact k) (by simpa) ⟨rfl,fin⟩) e
theorem A2:pM X DZ:=by
 intro value slice pins s n H x y v u Q I b d h e;obtain⟨z,i,c,rfl,rfl,o,he,q⟩:=h;obtain⟨t,rfl⟩:=b;obtain⟨p,rfl⟩:=d;obtain⟨j,a,f,r,g,k⟩:=Eb he;have hl:z.cps.toList.length=z.length:=by simp[Str.length]
 rw[hl]at a g k;have hn:=zM;exact tail_any (typeIs_str s z t) slot_str_getitem.lookup (getItem_str (c:=c) (by
  have l:decide (i < -(2 ^ 63:Int))=aG:=decide_eq_false (by lia);have m:decide (i ≥ 2 ^ 63)=aG:=decide_eq_false (by lia);rw[l,m,Bool.or_false]) (by rw[a];simpa using f) ⟨.str ⟨#[c]⟩,H,I.tok _,⟨_,rfl⟩,q⟩) e
def Lj(K:bH):R2:=λx y H Q=>DY K x y H Q\/EA K x y H Q\/DZ x y H Q
theorem A1:pM X (Lj X.K):=A0.or (A3.or A2)
theorem E9(its:Fv)(n j:Nat)(u:Value):um (·.setIfInBounds j u) { cls:=.type "list",data:=.seq its.toArray n }={ cls:=.type "list",data:=.seq (its.set j u).toArray n }:=by simp[um]
theorem Inv.lst(I:Inv X pins Z H s)(h:H p=aA (.lst xs)) :
  ∃(its:Fv) (n:Nat),Vals xs its/\s.heap.get? p=aA { cls:=.type "list",data:=.seq its.toArray n }/\xs.length<=sizeLine:=by
 obtain⟨z,its,n,r,e⟩:=I.aZ p _ h;exact⟨its,n,r,e,z⟩
theorem Inv.E4{n':Nat}{f:Obj->Obj}(I:Inv X pins Z H s)(h:H p=aA (.lst xs))
  (ho:s.heap.get? p=aA { cls:=.type "list",data:=.seq its.toArray n })(hf:f { cls:=.type "list",data:=.seq its.toArray n }={ cls:=.type "list",data:=.seq its'.toArray n' })(r:Vals ys its')(hz:ys.length<=sizeLine)(t:Nat) :
  Inv X pins Z (bE H p<|.lst ys) { s with heap:=s.heap.update p f,toks:=t }:=by
 have e:(s.heap.update p f).get? p=aA { cls:=.type "list",data:=.seq its'.toArray n' }:=by rw[Bp f ho (by rw[hf]<;>rfl),hf]
 refine I.write (by rw[h];trivial) (.inl rfl) (λb u hb q=>(au _ _<|mE hb).trans q) ⟨_,e⟩ ?_;exact⟨hz,its',n',r,e⟩
def EC:V->V->V->Hp->(Hp->Prop)->Prop:=λo i v H Q=>∃p xs k j,o = .ref p/\i = .int k/\H p=aA (.lst xs)/\jM xs.length k=aA j/\Q (bE H p<|.lst<|xs.set j v)
theorem aHy:Dw X EC:=by
 intro pins s m H o i v B C u Q I w x y h;obtain⟨p,xs,k,j,rfl,rfl,e,z,q⟩:=h;cases w;obtain⟨t,rfl⟩:=x;obtain⟨a,n,r,c,A⟩:=I.lst e;obtain⟨b,D,f,g⟩:=Zg z;have hl:=r.length;have hn:=zM;have l:Inv X pins m (bE H p<|.lst<|xs.set j v) { s with heap:=s.heap.update p (um (·.setIfInBounds j u)) }:=
  I.E4 e c (E9 a n j u) (r.set y j) (by rw[nL];exact A) s.toks
 by_cases h0:0<=k
 .have d:k.toNat=j:=by rw[Rc h0 g]at b;exact dJ b
  exact W.ki_setAt c h0 (by lia) (by rw[hJ,<- hl];exact g) (by rw[d];exact⟨_,l,q⟩)
 .have d:(k+(a.toArray.size:Int)).toNat=j:=by rw[seqIndex_neg (by omega) f]at b;rw[hJ,<- hl];exact dJ b
  exact W.ki_setBack c (by omega) (by rw[hJ,<- hl];exact f) (by lia) (by rw[d];exact⟨_,l,q⟩)
theorem aIj(lo hi:Ft)(n:Nat):(cu lo hi aD n).1=((HT.bZ n 0 lo:Nat):Int)/\(cu lo hi aD n).2.1=((HT.bZ n n hi:Nat):Int)/\(cu lo hi aD n).2.2=1:=by
 refine⟨?_,?_,rfl⟩
 .cases lo with
  |none=>simp[cu,HT.bZ]|some i=>
   simp only[cu,HT.bZ,KN,show(1:Int) > 0 by decide,if_true];by_cases h:i<0
   .simp only[h,if_true]<;>omega
   .simp only[h,if_false]<;>omega
 .cases hi with
  |none=>simp[cu,HT.bZ]|some i=>
   simp only[cu,HT.bZ,KN,show(1:Int) > 0 by decide,if_true];by_cases h:i<0
   .simp only[h,if_true]<;>omega
   .simp only[h,if_false]<;>omega
theorem aIi(its:Fv)(lo hi:Ft):slicePick its.toArray lo hi aD=((its.drop<|HT.bZ its.length 0 lo).take (HT.bZ its.length its.length hi-HT.bZ its.length 0 lo)).toArray:=by obtain⟨a,b,c⟩:=aIj lo hi its.toArray.size;unfold slicePick;rw[a,b,c];simp only[sliceRange_one,pick_run]<;>rfl
def aHd(K:bH):V->Ft->Ft->Hp->VK->Prop:=λx lo hi H Q=>∃a xs,x = .ref a/\dM K H a xs/\∀p,H p=aD->Q (.ref p) (bE H p<|.lst<|fe xs lo hi)
theorem aIf:yE X (aHd X.K):=by intro pins s Z H x v vl vu lo hi sl Q I rx hs pl pu h;obtain⟨a,xs,rfl,hx,q⟩:=h;cases rx;obtain⟨its,r,ht,hz⟩:=I.list hx;have hlen:=r.length;refine⟨"list",_,slot_list_getitem.lookup,ht.isList.typeIs,?_⟩;refine wpAny_getItem_list_slice ht.isList hs pl pu .none (by simp) ?_ (by rw[hJ]<;>lia);rw[aIi,<- hlen];refine⟨.ref s.heap.objs.size,_,I.laid (λb ob q=>dO _ q) (aV _) ?_,rfl,q _ (I.aZ.fresh<|aV _)⟩;exact⟨dR (Vh xs lo hi) hz,_,0,(r.drop<|HT.bZ xs.length 0 lo).take (HT.bZ xs.length xs.length hi-HT.bZ xs.length 0 lo),jG _ rfl⟩
def sC:V->Bool
 |.aH=>aB
 |.bl _=>aB
 |.int _=>aB
 |.str _=>aB
 |_=>aG
def tQ:V->V->Bool
 |.aH,.aH=>aB
 |.bl a,.bl b=>a==b
 |.bl a,.int b=>(if a then 1 else 0)==b
 |.int a,.bl b=>a==(if b then 1 else 0)
 |.int a,.int b=>a==b
 |.str a,.str b=>a==b
 |_,_=>aG
theorem WH{A:cR}(ry:RelV y u)(rx:RelV x v)(fy:sC y=aB)(fx:sC x=aB):SeqAt.EqAt A s u v (tQ y x):=by
 cases y with
 |aH=>
  cases ry;cases x with
  |aH=>cases rx;exact SeqAt.EqAt.same _|bl b=>cases rx;exact SeqAt.EqAt.none_bool b|int b=>obtain⟨t,rfl⟩:=rx;exact SeqAt.EqAt.none_int b t|str b=>obtain⟨t,rfl⟩:=rx;exact SeqAt.EqAt.none_str b t|_=>exact absurd (fx) gS
 |bl a=>
  cases ry;cases x with
  |aH=>cases rx;exact SeqAt.EqAt.bool_none a|bl b=>cases rx;exact SeqAt.EqAt.bool_bool a b|int b=>obtain⟨t,rfl⟩:=rx;exact SeqAt.EqAt.bool_int a b t|str b=>obtain⟨t,rfl⟩:=rx;exact SeqAt.EqAt.bool_str a b t|_=>exact absurd (fx) gS
 |int a=>
  obtain⟨c,rfl⟩:=ry;cases x with
  |aH=>cases rx;exact SeqAt.EqAt.int_none a c|bl b=>cases rx;exact SeqAt.EqAt.int_bool a c b|int b=>obtain⟨t,rfl⟩:=rx;exact SeqAt.EqAt.int_int a c b t|str b=>obtain⟨t,rfl⟩:=rx;exact LL a c b t|_=>exact absurd (fx) gS
 |str a=>
  obtain⟨c,rfl⟩:=ry;cases x with
  |aH=>cases rx;exact SeqAt.EqAt.str_none a c|bl b=>cases rx;exact SeqAt.EqAt.str_bool a c b|int b=>obtain⟨t,rfl⟩:=rx;exact LM a c b t|str b=>obtain⟨t,rfl⟩:=rx;exact SeqAt.EqAt.str_str a c b t|_=>exact absurd (fx) gS
 |_=>exact absurd (fy) gS
def mH(x:V)(u:Value):Bool:=match u with
 |.none=>tQ .aH x
 |.bool b=>tQ (.bl b) x
 |.int i _=>tQ (.int i) x
 |.str z _=>tQ (.str z) x
 |_=>aG
theorem Wd(r:RelV y u)(f:sC y=aB):mH x u=tQ y x:=by
 cases y with
 |aH=>cases r;rfl|bl b=>cases r;rfl|int i=>obtain⟨t,rfl⟩:=r;rfl|str z=>obtain⟨t,rfl⟩:=r;rfl|_=>exact absurd (f) gS
theorem mm{x:V}:∀{xs:Fx}{us:Fv},Vals xs us->xs.all sC=aB->us.any (mH x)=xs.any λy=>tQ y x
 |_,_,.nil,_=>rfl|y::xs,u::us,.cons r t,f=>by rw[jI,bT]at f;rw[rK,rK,Wd r f.1,mm t f.2]
theorem qw{A:cR}{s:aK}{x:V}{v:Value}(rx:RelV x v)(fx:sC x=aB):∀{xs:Fx}{us:Fv},Vals xs us->xs.all sC=aB->∀u∈us,SeqAt.EqAt A s u v (mH x u)
 |_,_,.nil,_=>λu hu=>by cases hu
 |y::xs,u::us,.cons r t,f=>λa hu=>by
  rw[jI,bT]at f;rcases List.mem_cons.mp hu with rfl|hu
  .rw[Wd r f.1];exact WH r rx f.1 fx
  .exact qw rx fx t f.2 a hu
def yi(x:V)(xs:Fx):Bool:=xs.any λy=>tQ y x
def DW(K:bH)(neg:Bool):R2:=λx y H Q=>∃p xs,y = .ref p/\(dM K H p xs\/eG K H p xs)/\sC x=aB/\xs.all sC=aB/\Q (.bl<|if neg then !yi x xs else yi x xs) H
theorem N9:cV X (dG .In) (DW X.K aG):=by
 intro pins s e H x y v u Q I b c h;obtain⟨p,xs,rfl,hq,fx,fs,q⟩:=h;cases c;rcases hq with hq|hq
 .obtain⟨a,r,pl,d⟩:=I.list hq;refine SeqAt.in_listAt (mH x) pl.isList (λw hw=>qw b fx r fs w (by simpa using hw)) ⟨.bl _,H,I,rfl,?_⟩;rw[show a.toArray.any (mH x)=a.any (mH x) by simp,mm r fs];exact q
 .obtain⟨a,r,pl,d⟩:=I.tuple hq;refine SeqAt.in_tupleAt (mH x) pl (λw hw=>qw b fx r fs w (by simpa using hw)) ⟨.bl _,H,I,rfl,?_⟩;rw[show a.toArray.any (mH x)=a.any (mH x) by simp,mm r fs];exact q
theorem O8:cV X (dG .NotIn) (DW X.K aB):=by
 intro pins s e H x y v u Q I b c h;obtain⟨p,xs,rfl,hq,fx,fs,q⟩:=h;cases c;rcases hq with hq|hq
 .obtain⟨a,r,pl,d⟩:=I.list hq;refine SeqAt.notIn_listAt (mH x) pl.isList (λw hw=>qw b fx r fs w (by simpa using hw)) ⟨.bl _,H,I,rfl,?_⟩;rw[show a.toArray.any (mH x)=a.any (mH x) by simp,mm r fs];exact q
 .obtain⟨a,r,pl,d⟩:=I.tuple hq;refine SeqAt.notIn_tupleAt (mH x) pl (λw hw=>qw b fx r fs w (by simpa using hw)) ⟨.bl _,H,I,rfl,?_⟩;rw[show a.toArray.any (mH x)=a.any (mH x) by simp,mm r fs];exact q
theorem TQ:jL X (.builtin "len") (λxs H Q=>∃p ys,xs=[.ref p]/\(dM X.K H p ys\/eG X.K H p ys)/\Q (.int ys.length) H):=by
 intro pins s e H xs us Q I r h;obtain⟨p,ys,rfl,hq,q⟩:=h;obtain⟨u,rfl,c⟩:=jd r;cases c;have hn:=zM;rcases hq with hq|hq
 .obtain⟨a,b,pl,d⟩:=I.list hq;have hlen:=b.length;exact Calls.call_len_list pl.isList (by simp only[hJ]<;>omega) ⟨.int ys.length,H,I.tok _,⟨s.toks+1,by rw[hJ,hlen]⟩,q⟩
 .obtain⟨a,b,pl,d⟩:=I.tuple hq;have hlen:=b.length;exact len_tuple pl (by simp only[hJ]<;>omega) ⟨.int ys.length,H,I.tok _,⟨s.toks+1,by rw[hJ,hlen]⟩,q⟩
theorem TR:jL X (.builtin "len") (λxs H Q=>∃z,xs=[.str z]/\z.length<=sizeLine/\Q (.int z.length) H):=by intro pins s a H xs us Q I r h;obtain⟨z,rfl,b,q⟩:=h;obtain⟨u,rfl,t,rfl⟩:=jd r;have hn:=zM;exact len_str (by lia) ⟨.int z.length,H,I.tok _,⟨_,rfl⟩,q⟩
theorem jL.or{f:Value}{r r':Fx->Hp->VK->Prop}(h:jL X f r)(h':jL X f r'):jL X f (λxs H Q=>r xs H Q\/r' xs H Q):=by
 intro pins s a H xs us Q I rs q;rcases q with q|q
 .exact h pins s a H xs us Q I rs q
 .exact h' pins s a H xs us Q I rs q
theorem TV:jL X (.type "list") (λxs H Q=>∃p ys,xs=[.ref p]/\(dM X.K H p ys\/eG X.K H p ys)/\∀l,H l=aD->Q (.ref l) (bE H l<|.lst ys)):=by
 intro pins s m H xs us Q I r h;obtain⟨p,ys,rfl,hq,q⟩:=h;obtain⟨u,rfl,t⟩:=jd r;cases t;have fin:∀a,Vals ys a->ys.length<=sizeLine->∀c d,(∀b k,s.heap.get? b=aA k->c.get? b=aA k) ->
   c.get? s.heap.objs.size=aA { cls:=.type "list",dict:=aD,data:=.seq a.toArray d,slots:=#[] }->EP X pins m Q (.ref s.heap.objs.size) { s with heap:=c }:=λa f g c d kp e=>
  ⟨.ref s.heap.objs.size,_,I.laid kp (aV _) (show hU X.prog X.w _ c _ (.lst ys) from⟨g,a,d,f,e⟩),rfl,q _ (I.aZ.fresh<|aV _)⟩
 rcases hq with hq|hq
 .obtain⟨a,f,pl,g⟩:=I.list hq;have hlen:=f.length;obtain⟨o,i,j,n,hd⟩:=pl.isList;exact LS p (.inl rfl) i j hd (λc d kp e=>fin a f g c d kp e) (by simp only[hJ]<;>omega)
 .obtain⟨a,f,pl,g⟩:=I.tuple hq;have hlen:=f.length;obtain⟨o,i,j,n,hd⟩:=pl;exact LS p (.inr rfl) i j hd (λc d kp e=>fin a f g c d kp e) (by simp only[hJ]<;>omega)
theorem UD:jL X (.type "tuple") (λxs H Q=>∃p ys,xs=[.ref p]/\((dM X.K H p ys/\∀l,H l=aD->Q (.ref l) (bE H l<|.tup ys))\/(eG X.K H p ys/\Q (.ref p) H))):=by
 intro pins s g H xs us Q I r h;obtain⟨p,ys,rfl,h⟩:=h;obtain⟨u,rfl,k⟩:=jd r;cases k;rcases h with⟨d,q⟩|⟨d,q⟩
 .obtain⟨a,f,pl,i⟩:=I.list d;have hlen:=f.length;refine call_tuple_list pl.isList (λc kp=>?_) (by simp only[hJ]<;>omega);have j:Inv X pins g H { s with heap:=c }:=I.kept kp;have m:Inv X pins g (bE H c.objs.size<|.tup ys) { s with heap:=c.push { cls:=.type "tuple",data:=.seq a.toArray } }:=
   j.laid (λb o e=>dO _ e) (aV _) (show hU X.prog X.w _ _ _ (.tup ys) from⟨i,a,f,Br _ _⟩)
  exact⟨.ref c.objs.size,_,m,rfl,q _ (j.aZ.fresh<|aV _)⟩
 .obtain⟨a,f,pl,i⟩:=I.tuple d;exact call_tuple_same pl ⟨.ref p,H,I,rfl,q⟩
def Mu(K:bH)(T:String)(x:V)(H:Hp):Prop:=match x with
 |.str _=>T="str"
 |.int _=>T="int"
 |.ref p=>(T="list"/\∃xs,dM K H p xs)\/(T="tuple"/\∃o,K.lookup p=aA o/\o.cls = .type "tuple"/\o.dict=aD) \/
  (T="dict"/\((∃kvs,H p=aA (.dK kvs))\/∃kvs,H p=aA (.dT kvs)))\/(T="set"/\∃S n,H p=aA (.set S n))
 |_=>False
theorem GQ(I:Inv X pins Z H s)(r:RelV x v)(ty:Mu X.K T x H) :
  s.TypeIs v T/\∀a,v = .ref a->∃ob,s.heap.get? a=aA ob/\ob.dict=aD:=by
 cases x with
 |str z=>obtain⟨t,rfl⟩:=r;cases(ty);exact⟨typeIs_str s z t,nofun⟩
 |int i=>obtain⟨t,rfl⟩:=r;cases(ty);exact⟨Ri s i t,nofun⟩
 |ref p=>
  cases r;rcases ty with⟨rfl,xs,g⟩|⟨rfl,o,b,h,hd⟩|⟨rfl,b⟩|⟨rfl,S,n,b⟩
  .obtain⟨j,_,pl,_⟩:=I.list g;refine⟨pl.isList.typeIs,λa e=>?_⟩;cases e;obtain⟨o,n,e,c,hd,_⟩:=pl;exact⟨o,e,hd⟩
  .refine⟨⟨o,I.fM p o b,h⟩,λa e=>?_⟩;cases e;exact⟨o,I.fM _ o b,hd⟩
  .have z:∃o,s.heap.get? p=aA o/\o.ExactDict:=by
    rcases b with⟨d,b⟩|⟨d,b⟩
    .obtain⟨_,_,_,_,o,_,_,e,ex,_⟩:=I.aZ p _ b;exact⟨o,e,ex⟩
    .obtain⟨_,_,_,_,o,_,_,e,ex,_⟩:=I.aZ p _ b;exact⟨o,e,ex⟩
   obtain⟨o,e,ex⟩:=z;refine⟨⟨o,e,ex.1⟩,λa f=>?_⟩;cases f;exact⟨o,e,ex.2.1⟩
  .obtain⟨o,_,_,_,e,ex,_⟩:=I.aZ p _ b;refine⟨⟨o,e,ex.1⟩,λa f=>?_⟩;cases f;exact⟨o,e,ex.2.1⟩
 |_=>exact kU ty
def aKd(K:bH)(T:String)(r:V->Fx->Hp->VK->Prop)(to:TE):TE:=λZ H Q=>to Z H λx H1=>Mu K T x H1/\r x [] H1 Q
def tBM(K:bH)(T:String)(r:V->Fx->Hp->VK->Prop)(to:TE)(t:TA):TE:=λZ H Q=>to Z H λx H1=>Mu K T x H1/\t Z H1 λxs H2=>r x xs H2 Q
variable {o:aI}{es:List aI}{to:TE}{t:TA}{name:Str}{apos rX:Pos}{id:String}{r:V->Fx->Hp->VK->Prop}
theorem U2(pa:PlainAttrs T) (slot:Slot T name id) (hty:typeOf (.builtin id)=pure (.type "method_descriptor")) (hm:Sf X id r) (ho:PE X o to)
  (Ha:kj o name X.env (eval o X.env)=eval o X.env:=by rfl) (He:(apos.endLine==rX.line)=aB:=by rfl):PE X (.Call (.Attribute o name apos) [] [] rX) (aKd X.K T r to):=by
 intro pins s a H Q I h;refine wpAny_Call_method0_late Ha He<|bA (ho pins s a H _ I h) λv s1 d=>?_;obtain⟨x,H1,b,c,ty,e⟩:=d;obtain⟨f,g⟩:=GQ b c ty;exact⟨T,id,pa,slot,hty,f,g,Of rfl (PySem.evalArgs_none<|hm pins s1 a H1 x [] v [] Q b c .nil e)⟩
theorem BX(pa:PlainAttrs T) (slot:Slot T name id) (hty:typeOf (.builtin id)=pure (.type "method_descriptor")) (hm:Sf X id r) (ho:PE X o to) (ha:PA X (e::es) t)
  (Ha:kj o name X.env (eval o X.env)=eval o X.env:=by rfl)
  (r9:((lN rX<|eC (e::es) X.env).all (λx=>!x.1)&&(xT rX<|xV [] X.env).all (λx=>x.1.isSome)
  &&decide ((e::es).length+([]:List sW).length+(if([]:List sW).isEmpty then 0 else 1)<30))=aB:=by rfl)
  (He:(apos.endLine==rX.line)=aB:=by rfl) (hs:eC (e::es) X.env=(aG,eval e X.env)::eC es X.env:=by rfl) (t8:(lN rX<|eC es X.env).any (·.1)=aG:=by rfl) :
  PE X (.Call (.Attribute o name apos) (e::es) [] rX) (tBM X.K T r to t):=by
 intro pins s a H Q I h;refine MA Ha r9 He rfl<|bA (ho pins s a H _ I h) λv s1 f=>?_;obtain⟨x,H1,b,c,ty,g⟩:=f;obtain⟨i,j⟩:=GQ b c ty;refine⟨T,id,pa,slot,hty,i,j,?_⟩;have d:=ha rX pins s1 a H1 _ b g;rw[hs]at d ⊢;exact Of (by show(aG||(lN rX<|eC es X.env).any (·.1))=aG;rw[t8]<;>rfl)<|IB<|bA d λus s2 ⟨k,l,m,n,p⟩=>hm pins s2 a l x k v us Q m c n p
end
def dj(X:Cx)(id:String)(r:V->Fx->Hp->VK->Prop):Prop:=
 ∀(pins:Fw) (s:aK) (Z:St) (H:Hp) (x:V) (xs:Fx) (v:Value) (us:Fv) (Q:VK),Inv X pins Z H s->RelV x v->Vals xs us->r x xs H Q ->
  aU (aY X.prog X.w) X.A (call (.builtin id)<|v::us) (EP X pins Z Q) X.xe s
theorem Vals.one:∀{x:V}{us:Fv},Vals [x] us->∃u,us=[u]/\RelV x u
 |_,_,.cons r .nil=>⟨_,rfl,r⟩
theorem Vals.zero:∀{us:Fv},Vals [] us->us=[]
 |_,.nil=>rfl
theorem Vals.dropLast{xs:Fx}{us:Fv}(h:Vals xs us):Vals xs.dropLast us.dropLast:=by
 induction h with
 |nil=>exact .nil|cons r t a=>
  cases t with
  |nil=>exact .nil|cons q b=>exact .cons r a
theorem Vals.rep{xs:Fx}{us:Fv}(h:Vals xs us):∀k:Nat,Vals (eO k xs).flatten (eO k us).flatten
 |0=>.nil
 |k+1=>by exact Vals.append h<|Vals.rep h k
theorem WJ{α:Type}(l:List α):l.eraseIdx (l.length-1)=l.dropLast:=by
 induction l with
 |nil=>rfl|cons a r c=>
  cases r with
  |nil=>rfl|cons b r=>
   have e:(a::b::r).length-1=((b::r).length-1)+1:=by have d:(a::b::r).length=r.length+2:=rfl;have f:(b::r).length=r.length+1:=rfl;lia
   rw[e,aQr,c];all_goals rfl
theorem Xm(its:Fv):∀(k:Nat) (acc:Fv),
  Ov (λx1 x2=>x1++x2) acc.toArray (eO k its.toArray)=(acc++(eO k its).flatten).toArray
 |0,acc=>by simp
 |k+1,acc=>by
  have e:acc.toArray++its.toArray=(acc++its).toArray:=by simp
  have a:(acc++its)++(eO k its).flatten=acc++(eO (k+1) its).flatten:=by rw[Pl,JF,IW]
  rw[<- a,<- Xm its k (acc++its),<- e,Pl,Bw]
section
variable {l b:Addr}{zs:Fx}
theorem Inv.AQ{f:WV->WV}(I:Inv X pins Z H s)(hH:H l=aA (.lst xs))
  (e:s.heap.get? l=aA { cls:=.type "list",data:=.seq its.toArray n })(hf:f its.toArray=its'.toArray)(hv:Vals ys its')(hz:ys.length<=sizeLine) :
  Inv X pins Z (bE H l<|.lst ys) { s with heap:=s.heap.update l (um f),toks:=t' }:=by
 have q:=PySem.IsL.update e f;rw[hf]at q;refine I.write (hH▸trivial) (.inl rfl) (λb u hb a=>(au s.heap (um f)<|mE hb).trans a) ⟨_,q⟩ ?_;exact⟨hz,its',_,hv,q⟩
theorem Inv.AI(I:Inv X pins Z H s)(hv:Vals ys its)(hz:ys.length<=sizeLine) :
  Inv X pins Z (bE H s.heap.objs.size<|.lst ys) { s with heap:=s.heap.push { cls:=.type "list",data:=.seq its.toArray },toks:=t' }:=
 I.laid (λ_ _ q=>dO _ q) (aV _) ⟨hz,its,0,hv,jG _ rfl⟩
theorem Inv.fresh(I:Inv X pins Z H s):H s.heap.objs.size=aD:=I.aZ.fresh (aV _)
theorem Inv.uE(I:Inv X pins Z H s)(hH:H l=aA (.lst xs)):xs.length<=sizeLine/\∃(its:Fv) (n:Nat),Vals xs its/\xs.length=its.length/\s.heap.get? l=aA { cls:=.type "list",data:=.seq its.toArray n }:=by obtain⟨z,its,n,r,e⟩:=I.aZ l _ hH;exact⟨z,its,n,r,r.length,e⟩
theorem L5(h:n<=sizeLine):HZ n=aG:=by exact decide_eq_false (by lia)
end
def DQ:V->Fx->Hp->VK->Prop:=λx vs H Q=>∃l xs y,x = .ref l/\vs=[y]/\H l=aA (.lst xs)/\xs.length<sizeLine/\Q .aH (bE H l<|.lst<|xs++[y])
theorem G5:dj X "list.append" DQ:=by intro pins s g H x i v us Q I c d h;obtain⟨l,xs,y,rfl,rfl,b,j,q⟩:=h;cases c;obtain⟨u,rfl,f⟩:=d.one;obtain⟨z,a,n,r,hl,e⟩:=I.uE b;refine Cw F.slot_list_append ⟨_,e,rfl⟩ F.entry_list_append (F.args_list_append_2 _ _) (PySem.list_append l a.toArray n u (by rw[hJ];lia)) ⟨e,?_⟩;refine⟨.aH,_,I.AQ b e (by simp) (r.append<|.cons f .nil) ?_,rfl,q⟩;rw[dC,List.length_singleton];lia
def aHa:V->Fx->Hp->VK->Prop:=λx vs H Q=>∃l xs y,x = .ref l/\vs=[]/\H l=aA (.lst xs)/\xs[xs.length-1]?=aA y/\Q y (bE H l<|.lst xs.dropLast)
theorem G9:dj X "list.pop" aHa:=by
 intro pins s m H x o v us Q I f g h;obtain⟨l,xs,y,rfl,rfl,d,i,q⟩:=h;cases f;have b:=g.zero;subst b;obtain⟨z,a,n,r,hl,e⟩:=I.uE d;obtain⟨u,j,k⟩:=r.get i;have c:a.toArray[a.toArray.size-1]?=aA u:=by show a.toArray[a.length-1]?=aA u;rw[<- HX,<- hl];exact j
 refine Cw F.slot_list_pop ⟨_,e,rfl⟩ F.entry_list_pop (F.args_list_pop_1 _) (MeetsSeq.list_pop_last l a.toArray n u c (by rw[hJ];lia)) ⟨e,?_⟩;refine⟨y,_,I.AQ d e ?_ r.dropLast ?_,k,q⟩
 .show a.toArray.eraseIdxIfInBounds (a.toArray.size-1)=a.dropLast.toArray;rw[hJ,aQq,WJ]
 .rw[List.length_dropLast];lia
def DR:R2:=λx y H Q=>∃l b xs zs,x = .ref l/\y = .ref b/\H l=aA (.lst xs)/\H b=aA (.lst zs)/\xs.length+zs.length<=sizeLine/\∀p,H p=aD->Q (.ref p) (bE H p<|.lst<|xs++zs)
theorem M9:cV X (eY .Add) DR:=by
 intro pins s p H x y v u Q I d f h;obtain⟨l,b,xs,zs,rfl,rfl,g,i,t,q⟩:=h;cases d;cases f;obtain⟨z,c,n,r,hl,e⟩:=I.uE g;obtain⟨w,a,A,j,k,m⟩:=I.uE i;refine PySem.P.add_list e m ?_ (by rw[hJ,hJ];omega);have o:c.toArray++a.toArray=(c++a).toArray:=by simp
 rw[o];exact⟨.ref _,_,I.AI (r.append j) (by rw[dC];omega),rfl,q _ I.fresh⟩
def aHb:R2:=λx y H Q=>∃l k xs,x = .ref l/\y = .int k/\H l=aA (.lst xs)/\-(2 ^ 63)<=k/\k<2 ^ 63/\xs.length*k.toNat<=sizeLine /\
 ∀p,H p=aD->Q (.ref p) (bE H p<|.lst (eO k.toNat xs).flatten)
theorem D1{α:Type}(xs:List α)(k:Nat):(eO k xs).flatten.length=k*xs.length:=by
 induction k with
 |zero=>simp|succ k a=>rw[Pl,JF,dC,a,Nat.succ_mul,JW]
theorem P4:cV X (eY .Mult) aHb:=by
 intro pins s E H x y v u Q I p w h;obtain⟨l,k,xs,rfl,rfl,A,B,C,o,q⟩:=h;cases p;obtain⟨t,rfl⟩:=w;obtain⟨z,b,n,r,hl,e⟩:=I.uE A;have hlen:b.toArray.size*k.toNat<=sizeLine:=by rw[hJ,<- hl];exact o
 have d:¬b.toArray.size*k.toNat > (2 ^ 63-1) / 8:=by
  have:sizeLine<=(2 ^ 63-1) / 8:=by decide
  lia
 have f:¬(!Builtin.List.listFitsIndex k)=aB:=by rw[fitsIndex_both B C];exact gS
 have c:¬HZ (b.toArray.size*k.toNat)=aB:=by rw[L5 hlen];exact gS
 have g:Ov (λi j=>i++j) #[] (eO (if b.toArray.isEmpty=aB then 0 else k.toNat) b.toArray)=(eO k.toNat b).flatten.toArray:=by
  have f0:∀m:Nat,Ov (λi j=>i++j) #[] (eO m b.toArray)=(eO m b).flatten.toArray:=λm=>by have:=Xm b m [];exact this
  rw[f0];cases b with
  |nil=>simp|cons a G=>rw[if_neg (by simp)]
 refine wpAny_binaryOp_repeat_ref (rfl) ⟨_,e,rfl⟩ (λD=>Ri D k t) noFill_list_mul F.fills_int_mul IF repeat_list F.slot_int_index.lookup
  (Cw IF (Ri s k t) F.entry_int_rmul (F.args_int_rmul_2 _ _) (int___rmul___int_list k t l b.toArray n)
   ⟨e,rfl,⟨_,e,rfl⟩,Cw F.slot_list_mul ⟨_,e,rfl⟩ F.entry_list_mul (F.args_list_mul_2 _ _) (aQm l b.toArray n k t f d c) ⟨e,?_⟩⟩)
 rw[g];exact⟨.ref _,_,I.AI (r.rep k.toNat) (by rw[D1,Nat.mul_comm];exact o),rfl,q _ I.fresh⟩
end L2
namespace Att
open PySem PySem.W PySem.Calls PyProof.Rows
variable {P:bV}{h:bS}{l:OpenLaw}{n:Nat}
theorem x8:∀(ns:WK) (vs:Fv),WellAll P h vs (ns.map WData.int)->az vs ns:=by
 intro ns;induction ns with
 |nil=>intro vs w;cases w;exact .nil
 |cons n ns c=>
  intro vs w;cases w with
  |cons a b=>cases a;exact .cons _ _<|c _ b
theorem aHv(hn:l.most=aA n){args:List WData}{vals:Fv}
  (Yy:l.row.toRowW.claim.pre args=aB)(hwl:WellAll P h vals args) :
  ∃a vs ns,vals=[kX a]/\args=[WData.list (ns.map WData.int)]/\h.get? a=aA { cls:=.type "list",data:=.seq vs.toArray }/\az vs ns/\ns.length<=n:=by
 have e:WShape.hasAll [] args [.list .int]=aB:=(pre_splitW Yy).1;have g:=(pre_splitW Yy).2;obtain⟨d,r,rfl,i,j⟩:=hasAllW_cons e;obtain rfl:=hasAllW_nil j;obtain⟨xs,rfl,k⟩:=hasW_list i;obtain⟨ns,rfl⟩:=items_int k;have hlen:ns.length<=n:=by
  have c:(WTm.not<|.lt (.lit<|.int n)<|.len<|.arg 0).holds [] { args:=[.list (ns.map .int)] }=aB:=by have c:=(holds_andW g).1;rw[hn]at c;exact c
  have f:=condW_of c (w_not<|w_lt w_lit<|w_len_list<|w_arg rfl);refine Po λq=>?_;first
   | (exact absurd f<|rfl)
   | (simp at f;lia)
 cases hwl with
 |cons w1 w2=>
  cases w2;cases w1 with
  |list m b=>exact⟨_,_,ns,rfl,rfl,m,x8 ns _ b,hlen⟩
theorem Z7(l:OpenLaw)(args:List WData):l.row.toRowW.claim.post args (.bool aB) args=aB:=
 postW_of
  (show WShape.has [] (.bool aB) .bool=aB by first|rfl|decide|simp[WShape.has])
  (show(WTm.eq .res<|.lit<|.bool aB).value [] { args:=args,res:=aA (.bool aB),after:=args }=aA (.bool<|aB==aB) from w_eq_bool (w_res rfl) w_lit) rfl
theorem MZ{q:cD}{loose:WL}{XP:(Str->WM)->bS->Prop}{YP:bW->bS->Prop}{d:DefRec}
  (hn:l.most=aA n)(hdf:d.params.defaults=[])
  (call:∀(w:bW) (s₀ s₁:aK) (mg mb:Str->WM) (fa:Addr) (o:Obj) (pm cd doc:Value) (a:Addr) (vs:Fv) (ns:WK),
   Ground q loose [] XP w s₀ mg mb s₁.heap->YP w s₁.heap ->
   s₁.heap.get? fa=aA o->o.data = .func (docDef d.name d.params d.body d.scope pm cd doc)->s₁.heap.CodeRec cd d.name->mg d.name=aA (.ref fa) ->
   s₁.heap.get? a=aA { cls:=.type "list",data:=.seq vs.toArray }->az vs ns->ns.length<=n->s₁.gens=#[] ->
   tE (aY l.prog w) xU (.call (.ref fa) ⟨[.ref a],[]⟩) (λr s'=>r = .ok (.ret<|.bool aB)/\OldK s₁.heap s'.heap/\s'.os=s₁.os/\vC s'.gens) s₁) :
  WalkO q loose XP YP l.row.toRowW d [] (λf vs=>Qo f vs):=by
 intro w s₀ s₁ mg mb G Y fa o pm cd doc k kV m hd e i g p args vals as b j s h t;obtain rfl:k = .none:=Dflts.none i hdf;obtain rfl:kV = .none:=Dflts.noKw i;obtain⟨a,vs,ns,rfl,rfl,c,hints,hlen⟩:=aHv hn b h;refine enter_call<|uy (call w s₀ s₁ mg mb fa o pm cd doc a vs ns G Y m (fd_plain hd) e g c hints hlen p) λr s' u=>?_;obtain⟨rfl,v,x,y⟩:=u;exact⟨.inl ⟨.bool aB,.bool aB,[],rfl,λ_=>rfl,.bool aB,Z7 l _,λ_=>⟨jw,λ_ hm=>(nomatch hm)⟩⟩,v,x,y⟩
end Att
namespace L2
open PySem PySem.Spec PyProof.Rows
variable {A:cR}{CX:nP}{E Q:Value->aK->Prop}{H H':Hp}{N':WL}{P:cD}{X:Cx}{a:Addr}{fd:eV}{fp:S1}{h':bS}{kvs:List (List aN×V)}{mg:Str->WM}{o:Option V}{outer:Wl}{pins:Fw}{pos:Pos}{r u:Value}{s:aK}{scope:gK}{sp:Sp}{tc:TT}{te:TE}{trs:List (TE×TE)}{us:Fv}{v y:V}{w:bW}{x:Str}{xs:List (List aN×Addr×Value)}{Z Z':St}
theorem GU:∀{vs:Fv}{ns:WK},az vs ns->Vals (ns.map V.int) vs
 |_,_,.nil=>.nil
 |_,_,.cons n t h=>.cons ⟨t,rfl⟩ (GU h)
def vn(H:Hp):Prop:=∀b,H b=aD\/∃o xs,H b=aA (.cZ o<|.lst xs)
theorem C5{K:bH}{mb:Str->WM}{k:Nat}{fa:Addr}{s₁:aK}{vs:Fv}{ns:WK}
  (KX:K.In s₁.heap)(hns:s₁.heap.Ns iW mg)(hb:s₁.heap.Ns Qs mb)(hbb:∀x:Str,x≠"__name__"->mb x=mT x)(t5:s₁.heap.NoLimit)(hg:s₁.gens=#[])
  (ha:s₁.heap.get? a=aA { cls:=.type "list",data:=.seq vs.toArray })(hi:az vs ns)(hl:ns.length<=sizeLine)(hr:fI k xU)
  (F:∀base:bS,K.In base->base.Ns iW mg->iK P w K mg base CX k fa fd [x] sp)(q9:∀(s:aK) (u:Value),jn s fd ⟨[u],[]⟩ [(x,u)])
  (hsp:∀H:Hp,vn H->dM K H a (ns.map V.int)->sp [.ref a] H (λv _=>v = .bl aB) λ_ _ _=>False)
  (hCX:∀H e s',CX [] H s₁ (λ_ _ _=>False) e s'->False) :
  tE (aY P w) xU (.call (.ref fa) ⟨[.ref a],[]⟩) (λr s'=>r = .ok (.ret<|.bool aB)/\OldK s₁.heap s'.heap/\s'.os=s₁.os/\vC s'.gens) s₁:=by
 have D:=GU hi;have f:=hi.length;have core:∀H:Hp,vn H->dM K H a (ns.map V.int)->eZ P w H s₁.heap->(∀b,H b≠aD->b=a)->(H a≠aD->K.lookup a=aD) ->
   tE (aY P w) xU (.call (.ref fa) ⟨[.ref a],[]⟩) (λr s'=>r = .ok (.ret<|.bool aB)/\OldK s₁.heap s'.heap/\s'.os=s₁.os/\vC s'.gens) s₁:=by
  intro H E J aZ G L;have base_of:∀{b:Addr}{o:Obj},s₁.heap.get? b=aA o->H b=aD->(wI s₁.heap H).get? b=aA o:=λe n=>s9 e n;have A:∀{b:Addr}{o:Obj}{i:Array DictEntry}{j:Nat},s₁.heap.get? b=aA o->o.data = .dict i j->H b=aD:=λ{b o i j} e d=>by
   cases q:H b with
   |none=>rfl|some u=>have B:=G b (by rw[q];simp);subst B;rw[ha]at e;cases e;have M:=d;cases M
  have c:∀{b:Addr}{m:Str->WM},s₁.heap.Ns b m->(wI s₁.heap H).Ns b m:=λ{b m} ⟨o,i,j,e,d,r⟩=>⟨o,i,j,base_of e (A e d),d,r⟩;have l:=λb o e=>base_of (KX b o e) (by
   cases q:H b with
   |none=>rfl|some u=>have B:=G b (by rw[q];simp);subst B;rw[L (by rw[q];simp)]at e;cases e)
  have N:Mod K mg (wI s₁.heap H):=⟨l,c hns,⟨mb,c hb,hbb⟩,let ⟨O,Q,R⟩:=t5;⟨O,c Q,R⟩⟩;have S:xY P w K mg (wI s₁.heap H) xU [] s₁ H:=⟨rfl,N,λb o e=>M0 e,JY (t4 _ _),trivial,λb hb=>absurd (show b∈([]:S1) from hb) (by simp),aZ,.of_eq hg⟩;refine uy ((F _ l<|c hns).run xU [] s₁ H ⟨[.ref a],[]⟩ [.ref a] [.ref a] _ _ hr S (q9 s₁<|.ref a) (.cons rfl .nil) (hsp H E J)) λr s' h=>?_;cases r with
  |error e=>exact(hCX H e s' h).elim|ok fl=>
   cases fl with
   |next=>exact kU h|brk=>exact kU h|cont=>exact kU h|ret u=>
    obtain⟨v,Y,os,bare,un,p,T,q⟩:=h;have U:=q;subst U;obtain rfl:u=bp aB:=T;refine⟨rfl,OldK.of_keep λb o e=>?_,os,bare⟩;cases q:H b with
    |none=>exact un.keep b o e q (by intro z;exact absurd (show b∈([]:S1) from z) (by simp)) (by simp)|some u=>
     rcases E b with z|⟨ob,xs,z⟩
     .rw[q]at z;cases z
     .have W:=un.pZ b ob _ z;obtain⟨I,_⟩:=aZ b _ z;obtain⟨X,_⟩:=p b _ W;rw[e]at I;cases I;exact X
 cases C:K.lookup a with
 |some o=>have e:=KX a o C;rw[ha]at e;cases e;refine core (λ_=>aD) (λ_=>.inl rfl) (.inr ⟨_,vs.toArray,_,C,rfl,rfl,rfl,by rw[hJ,f];exact hl,by simpa using D⟩) (λb u z=>by have t:=z;cases t) (λb z=>absurd rfl z) λz=>absurd rfl z
 |none=>
  refine core (λb=>if b=a then aA (.cZ { cls:=.type "list",data:=.seq vs.toArray } (.lst<|ns.map V.int)) else aD) (λb=>?_) (.inl<|.inr ⟨{ cls:=.type "list",data:=.seq vs.toArray },if_pos rfl⟩) (λb u z=>?_) (λb z=>?_) λ_=>C
  .by_cases hb:b=a
   .exact .inr ⟨_,_,if_pos hb⟩
   .exact .inl<|if_neg hb
  .by_cases hb:b=a
   .have t:=(if_pos hb).symm.trans z;cases t;subst hb;exact⟨ha,by rw[aR];exact hl,vs,_,D,ha⟩
   .have t:=(if_neg hb).symm.trans z;cases t
  .by_cases hb:b=a
   .exact hb
   .exact absurd (if_neg hb) z
theorem aMx{l:Qd}{n k:Nat}{q:cD}{loose:WL}{XP:(Str->WM)->bS->Prop}{YP:bW->bS->Prop}{d:DefRec}{K:bV->bH}{CX:bW->nP}{sp:bW->Sp}
  (hn:l.most=aA n)(hn2:n<=sizeLine)(hdf:d.params.defaults=[])(hr:fI k xU)
  (hY:∀(w:bW) (h:bS),YP w h->(K w.params).In h)
  (F:∀(w:bW) (mg:Str->WM) (fa:Addr) (h:bS),(K w.params).In h->h.Ns iW mg->mg d.name=aA (.ref fa) ->
   ∃fd:eV,(∀(s:aK) (u:Value),jn s fd ⟨[u],[]⟩ [(x,u)]) /\
    ∀base:bS,(K w.params).In base->base.Ns iW mg->iK l.prog w (K w.params) mg base (CX w) k fa fd [x] (sp w))
  (hsp:∀(w:bW) (H:Hp) (a:Addr) (ns:WK),ns.length<=n->vn H->dM (K w.params) H a (ns.map V.int)->sp w [.ref a] H (λv _=>v = .bl aB) λ_ _ _=>False)
  (hCX:∀(w:bW) (H:Hp) (s:aK) (e:Value) (s':aK),CX w [] H s (λ_ _ _=>False) e s'->False) :
  LJ q loose XP YP l.row.toRowW d [] (λf vs=>Qo f vs):=by
 refine Att.MZ hn hdf λw s₀ s₁ mg mb fa o pm cd doc a vs ns G Y ho hd hcd hmg t7 hints hlen hg=>?_;have KX:=hY w _ Y;obtain⟨fd,hb,hF⟩:=F w mg fa _ KX G.T.g hmg;exact C5 KX G.T.g G.T.b G.T.builtins G.T.nolimit hg t7 hints (dR hlen hn2) hr hF hb (λH hO hS=>hsp w H a ns hlen hO hS) λH e s'=>hCX w H s₁ e s'
def xa(s:Stmt):Oa:=match s with
 |.FunctionDef _ a _ _ _ _ _ _ _ _=>a
 |_=>{ posonlyargs:=[],args:=[],vararg:=aD,kwonlyargs:=[],kw_defaults:=[],kwarg:=aD,defaults:=[] }
def fh(s:Stmt):WN:=match s with
 |.FunctionDef _ _ b _ _ _ _ _ _ _=>b
 |_=>[]
def pT(s:Stmt):gK:=match s with
 |.FunctionDef _ _ _ _ _ _ sc _ _ _=>sc
 |_=>{ kind:=.function,names:=[],isGenerator:=aG,isCoroutine:=aG }
abbrev E0:XK:=λ_ _ _=>False
section
variable {κ:Type} [DecidableEq κ]
def fQ(kvs:List (κ×V))(k:κ):Option V:=(kvs.find? λkv=>decide (kv.1=k)).map (·.2)
def putK(kvs:List (κ×V))(k:κ)(v:V):List (κ×V):=
 if(kvs.any λkv=>decide (kv.1=k))=aB then kvs.map (λkv=>if kv.1=k then(kv.1,v) else kv) else kvs++[(k,v)]
def rY(kvs:List (κ×V))(k:κ):List (κ×V):=kvs.filter λkv=>decide (kv.1≠k)
theorem Mw{p:κ×V}{r:List (κ×V)}{k:κ}(e:p.1=k):fQ (p::r) k=aA p.2:=by simp[fQ,e]
theorem Mv{p:κ×V}{r:List (κ×V)}{k:κ}(e:¬p.1=k):fQ (p::r) k=fQ r k:=by simp[fQ,e]
theorem GS(k:κ):∀kvs:List (κ×V),(kvs.any λkv=>decide (kv.1=k))=(fQ kvs k).isSome
 |[]=>rfl|p::r=>by
  rw[rK];by_cases e:p.1=k
  .simp only[Mw e,decide_eq_true e,Bool.true_or,Option.isSome_some]
  .rw[Mv e,decide_eq_false e];exact GS k r
theorem yt(kvs:List (κ×V))(k:κ)(v:V):(putK kvs k v).length<=kvs.length+1:=by
 unfold putK;split
 .rw[aR];lia
 .rw[dC,eK,Ca];lia
theorem iB.pw{u:WM}(r:iB o u):o.isSome=u.isSome:=by
 cases o with
 |none=>cases u with
  |none=>rfl|some _=>exact(r).elim
 |some _=>cases u with
  |none=>exact(r).elim|some _=>rfl
theorem iB.getD{o:Option V}{u:WM}{d:V}{d':Value}(r:iB o u)(rd:RelV d d'):RelV (o.getD d) (u.getD d'):=by
 cases o with
 |none=>cases u with
  |none=>exact rd|some _=>exact(r).elim
 |some _=>cases u with
  |none=>exact(r).elim|some _=>exact r
theorem KV.val{kvs:List (κ×V)}{vs:List (κ×Value)}(r:KV kvs vs)(k:κ):iB (fQ kvs k) (cw vs k):=by
 induction r with
 |nil=>exact mS|@cons p q ps a h t f=>
  obtain⟨d,g⟩:=h;by_cases e:p.1=k
  .have c:=d.symm.trans e;have b:cw (q::a) k=aA q.2:=by simp[cw,c]
   rw[Mw e,b];exact g
  .have c:¬q.1=k:=λz=>e (d.trans z);have b:cw (q::a) k=cw a k:=by simp[cw,c]
   rw[Mv e,b];exact f
theorem KV.any{kvs:List (κ×V)}{vs:List (κ×Value)}(r:KV kvs vs)(k:κ):(kvs.any λkv=>decide (kv.1=k))=vs.any λkv=>decide (kv.1=k):=by
 induction r with
 |nil=>rfl|cons h t a=>rw[rK,rK,a,h.1]
theorem KV.Lm{kvs:List (κ×V)}{vs:List (κ×Value)}(r:KV kvs vs)(k:κ)(ry:RelV y u) :
  KV (kvs.map λkv=>if kv.1=k then(kv.1,y) else kv) (vs.map λkv=>if kv.1=k then(kv.1,u) else kv):=by
 induction r with
 |nil=>exact .nil|@cons p q ps d h t b=>
  rw[hA,hA];refine .cons ?_ b;obtain⟨a,c⟩:=h;by_cases e:p.1=k
  .rw[if_pos e,if_pos (a.symm.trans e)];exact⟨a,ry⟩
  .rw[if_neg e,if_neg (λz=>e (a.trans z))];exact⟨a,c⟩
theorem KV.put{kvs:List (κ×V)}{vs:List (κ×Value)}(r:KV kvs vs)(k:κ)(ry:RelV y u):KV (putK kvs k y) (stored vs k u):=by
 unfold putK stored;rw[r.any k];by_cases e:(vs.any λa=>decide (a.1=k))=aB
 .rw[if_pos e,if_pos e];exact r.Lm k ry
 .rw[if_neg e,if_neg e];exact Paired.snoc r ⟨rfl,ry⟩
theorem KV.drop{kvs:List (κ×V)}{vs:List (κ×Value)}(r:KV kvs vs)(k:κ):KV (rY kvs k) (without vs k):=by
 unfold rY without;induction r with
 |nil=>exact .nil|@cons p q ps i h t d=>
  obtain⟨c,f⟩:=h;rw[gC,gC];by_cases e:p.1=k
  .have a:¬decide (p.1≠k)=aB:=by simp[e]
   have b:¬decide (q.1≠k)=aB:=by simp[c.symm.trans e]
   rw[if_neg a,if_neg b];exact d
  .have g:¬q.1=k:=λz=>e (c.trans z);have a:decide (p.1≠k)=aB:=by simp[e]
   have b:decide (q.1≠k)=aB:=by simp[g]
   rw[if_pos a,if_pos b];exact .cons ⟨c,f⟩ d
theorem KV.length{kvs:List (κ×V)}{vs:List (κ×Value)}(r:KV kvs vs):kvs.length=vs.length:=Ci r
theorem VW(kvs:List (κ×V))(k:κ):(rY kvs k).length<=kvs.length:=pF _ _
end
theorem qO{k:aN}(r:RelV (kV k) u):(gG P w).is k u=aB:=by
 cases k with
 |inl i=>obtain⟨t,e⟩:=(r);subst e;exact F9 P w i t|inr x=>obtain⟨t,e⟩:=(r);subst e;exact G0 P w x t
theorem Zf{P:cD}{w:bW}:∀{ks:List aN}{us:Fv},Vals (ks.map kV) us->ItemsAre (gG P w) ks us
 |[],_,r=>by cases r;exact .nil
 |k::ks,_,r=>by
  cases r with
  |cons h t=>exact .cons (qO h)<|Zf t
abbrev KT(H:Hp):List (List aN×V)->List (List aN×Addr×Value)->Prop:=bj λp q=>p.1=q.1/\H q.2.1=aA (.tup<|p.1.map kV)/\RelV p.2 q.2.2
theorem KT.val(r:KT H kvs xs)(k:List aN):iB (fQ kvs k) ((xS xs k).map (·.2)):=by
 induction r with
 |nil=>exact mS|@cons p q ps a h t f=>
  obtain⟨d,_,g⟩:=h;by_cases e:p.1=k
  .have c:=d.symm.trans e;have b:xS (q::a) k=aA q.2:=by simp[xS,c]
   rw[Mw e,b];exact g
  .have c:¬q.1=k:=λz=>e (d.trans z);have b:xS (q::a) k=xS a k:=by simp[xS,c]
   rw[Mv e,b];exact f
theorem KT.Lm(r:KT H kvs xs)(k:List aN)(ry:RelV y u) :
  KT H (kvs.map λkv=>if kv.1=k then(kv.1,y) else kv) (xs.map<|putAt k u):=by
 induction r with
 |nil=>exact .nil|@cons p q ps f h t c=>
  rw[hA];refine .cons ?_ c;obtain⟨a,b,d⟩:=h;unfold putAt;by_cases e:p.1=k
  .rw[if_pos e,if_pos (a.symm.trans e)];exact⟨a,b,ry⟩
  .rw[if_neg e,if_neg (λz=>e (a.trans z))];exact⟨a,b,d⟩
theorem KT.put(r:KT H kvs xs)(k:List aN){b:Addr}(hb:H b=aA (.tup<|k.map kV))(ry:RelV y u) :
  KT H (putK kvs k y) (storedH xs k b u):=by
 have e:(kvs.any λa=>decide (a.1=k))=(xS xs k).isSome:=by rw[GS,(r.val k).pw,Pt]
 unfold putK storedH;rw[e];by_cases q:(xS xs k).isSome=aB
 .rw[if_pos q,if_pos q];exact r.Lm k ry
 .rw[if_neg q,if_neg q];exact Paired.snoc r ⟨rfl,hb,ry⟩
theorem KT.keeps(r:KT H kvs xs)(ht:∀b ys,H b=aA (.tup ys)->H' b=aA (.tup ys)):KT H' kvs xs:=
 Paired.Ie r λ_ _ z=>⟨z.1,ht _ _ z.2.1,z.2.2⟩
section
variable {h:bS}
theorem EG{u:HO}(ok:eZ P w H h)(e:Rd H a u):hU P w H h a u:=e.ok ok
theorem yQ{kvs:List (aN×V)}(ok:eZ P w H h)(e:Rd H a (.dK kvs)):kvs.length<=sizeLine/\(a==tF)=aG/\∃vs,KV kvs vs/\h.DictOf (gG P w) a vs:=
 show hU P w H h a (.dK kvs) from EG ok e
theorem nq{kvs:List (aN×V)}(ok:eZ P w H h)(e:H a=aA (.dK kvs)):kvs.length<=sizeLine/\(a==tF)=aG/\∃vs,KV kvs vs/\h.DictOf (gG P w) a vs:=yQ ok (.inl e)
theorem zJ{ks:List aN}(ok:eZ P w H h)(e:H a=aA (.tup<|ks.map kV)):(cv<|gG P w).is h ks a:=by obtain⟨_,b,r,o,c,d,n,f⟩:=(show hU P w H h a (.tup<|ks.map kV) from ok a _ e);exact⟨o,b.toArray,n,c,d,f,by simpa using Zf r⟩
theorem yR(ok:eZ P w H h)(e:Rd H a (.dT kvs)):kvs.length<=sizeLine/\(a==tF)=aG /\
  ∃xs,KT H kvs xs/\h.DictOfH (cv<|gG P w) a xs:=by
 obtain⟨z,y,xs,r,o,c,d,f,g,i,j,k⟩:=(show hU P w H h a (.dT kvs) from EG ok e);refine⟨z,y,xs,r,o,c,d,f,g,i,j,λx hx=>?_,k⟩;have all:∀{l:List (List aN×V)}{m:List (List aN×Addr×Value)},KT H l m->∀x∈m,(cv<|gG P w).is h x.1 x.2.1:=by
  intro l m q;induction q with
  |nil=>intro x hx;exact nomatch hx|@cons p q ps s b t n=>
   intro x hx;rcases List.mem_cons.mp hx with e|hx
   .subst e;exact zJ ok<|b.1▸b.2.1
   .exact n x hx
 exact all r x hx
theorem VY(ok:eZ P w H h)(e:H a=aA (.dT kvs)):kvs.length<=sizeLine/\(a==tF)=aG /\
 ∃xs,KT H kvs xs/\h.DictOfH (cv<|gG P w) a xs:=yR ok (.inl e)
end
def lO(H:Hp)(a:Addr)(y:V)(r:Option V):Prop:=
 (∃kvs k,Rd H a (.dK kvs)/\y=kV k/\r=fQ kvs k)\/∃kvs k b,Rd H a (.dT kvs)/\y = .ref b/\H b=aA (.tup<|k.map kV)/\r=fQ kvs k
def lg(H:Hp)(a:Addr)(y v:V)(H':Hp):Prop:=
 (∃kvs k,H a=aA (.dK kvs)/\y=kV k/\kvs.length<sizeLine/\H'=bE H a (.dK<|putK kvs k v)) \/
 ∃kvs k b,H a=aA (.dT kvs)/\y = .ref b/\H b=aA (.tup<|k.map kV)/\kvs.length<sizeLine/\H'=bE H a (.dT<|putK kvs k v)
theorem lO.k{H:Hp}{a:Addr}{kvs:List (aN×V)}{k:aN}(e:H a=aA (.dK kvs)):lO H a (kV k) (fQ kvs k):=.inl ⟨kvs,k,.inl e,rfl,rfl⟩
theorem lg.k{H:Hp}{a:Addr}{kvs:List (aN×V)}{k:aN}{v:V}(e:H a=aA (.dK kvs))(hl:kvs.length<sizeLine):lg H a (kV k) v (bE H a<|.dK<|putK kvs k v):=.inl ⟨kvs,k,e,rfl,hl,rfl⟩
theorem Inv.big(I:Inv X pins Z H s):tF<s.heap.objs.size:=by have h:=(I.mod.glob.keeps I.bk).lt;exact Nat.lt_trans (by decide) h
theorem VA(hu:A.units+1<cLine)(I:Inv X pins Z H s)(g:lO H a y (aA v))(ry:RelV y u)(h:∀w' s',Inv X pins Z H s'->RelV v w'->Q w' s') :
  aU (aY X.prog X.w) A (ck (.ref a) u) Q E s:=by
 rcases g with⟨d,k,e,f,l⟩|⟨d,k,b,e,f,j,l⟩
 .subst f;obtain⟨z,hd,n,rel,dd⟩:=yQ I.aZ e;obtain⟨w',hw,c⟩:=iB.some_of (by rw[l];exact rel.val k);exact wpAny_getItem_of (qO ry) dd.mapOf hw<|h w' _ (I.tok _) c
 .subst f;cases(ry);obtain⟨z,hd,xs,rel,dd⟩:=yR I.aZ e;obtain⟨w',hw,c⟩:=iB.some_of (by rw[l];exact rel.val k);obtain⟨p,m,i⟩:=Option.map_eq_some_iff.mp hw;refine wpAny_getItem_heap (kr hu) (zJ I.aZ j) dd m ?_;rw[i];exact h w' _ (I.tok _) c
theorem VB(hu:A.units+1<cLine)(I:Inv X pins Z H s)(g:lO H a y o)(ry:RelV y u)(h:∀s',Inv X pins Z H s'->Q (.bool o.isSome) s') :
  aU (aY X.prog X.w) A (dG .In u<|.ref a) Q E s:=by
 rcases g with⟨c,k,e,d,l⟩|⟨c,k,b,e,d,f,l⟩
 .subst d;obtain⟨z,hd,i,rel,dd⟩:=yQ I.aZ e;refine wpAny_in_of (qO ry) hd dd.mapOf ?_;rw[<- (rel.val k).pw,<- l];exact h _<|I.tok _
 .subst d;cases(ry);obtain⟨z,hd,xs,rel,dd⟩:=yR I.aZ e;refine wpAny_in_heap (kr hu) (zJ I.aZ f) hd dd ?_;have q:=(rel.val k).pw;rw[Pt]at q;rw[<- q,<- l];exact h _<|I.tok _
theorem VC(hu:A.units+1<cLine)(I:Inv X pins Z H s)(g:lO H a y o)(ry:RelV y u)(h:∀s',Inv X pins Z H s'->Q (.bool<|!o.isSome) s') :
  aU (aY X.prog X.w) A (dG .NotIn u<|.ref a) Q E s:=by
 rcases g with⟨c,k,e,d,l⟩|⟨c,k,b,e,d,f,l⟩
 .subst d;obtain⟨z,hd,i,rel,dd⟩:=yQ I.aZ e;refine wpAny_notIn_of (qO ry) hd dd.mapOf ?_;rw[<- (rel.val k).pw,<- l];exact h _<|I.tok _
 .subst d;cases(ry);obtain⟨z,hd,xs,rel,dd⟩:=yR I.aZ e;refine wpAny_notIn_heap (kr hu) (zJ I.aZ f) hd dd ?_;have q:=(rel.val k).pw;rw[Pt]at q;rw[<- q,<- l];exact h _<|I.tok _
theorem nh{t':Nat}{ob:HO}(I:Inv X pins Z H s)(mu:dk (H a))(hs:jv a s.heap h')(he:∃q,h'.get? a=aA q)(new:hU X.prog X.w (bE H a ob) h' a ob) :
  Inv X pins Z (bE H a ob) { s with heap:=h',toks:=t' }:=
 I.write mu (.inl rfl) (λb q hb z=>(hs.2 b hb).trans z) he new
theorem xf{kvs:List (aN×V)}{vs:List (aN×Value)}(z:kvs.length<=sizeLine)(hd:(a==tF)=aG)(rel:KV kvs vs)(dd:h'.DictOf (gG P w) a vs) :
 hU P w H' h' a (.dK kvs):=⟨z,hd,vs,rel,dd⟩
theorem VE{Q:Unit->aK->Prop}(hu:A.units+1<cLine)(I:Inv X pins Z H s)(g:lg H a y v H')(ry:RelV y u)(rv:RelV v r)(h:∀s',Inv X pins Z H' s'->Q () s') :
  aU (aY X.prog X.w) A (setItem (.ref a) u r) Q E s:=by
 rcases g with⟨d,k,e,j,l,m⟩|⟨d,k,b,e,j,p,l,m⟩
 .subst j m;obtain⟨z,hd,x,rel,dd⟩:=nq I.aZ e;have n:=rel.length▸z;have hl:(putK d k v).length<=sizeLine:=by have:=yt d k v;lia
  refine wpAny_setItem_pairs (hsz:=n) (qO ry) dd λt f o=>h _ ?_;have he:∃q,t.get? a=aA q:=let ⟨q,_,_,i,_⟩:=f;⟨q,i⟩;exact nh I (e▸mS) o he<|xf hl hd (rel.put k rv) f
 .subst j m;cases(ry);obtain⟨z,hd,xs,rel,dd⟩:=VY I.aZ e;have n:xs.length<=sizeLine:=by rw[<- Ci rel];exact z
  have hl:(putK d k v).length<=sizeLine:=by have:=yt d k v;lia
  refine wpAny_setItem_heap (hsz:=n) (kr hu) (zJ I.aZ p) dd λt f o=>h _ ?_;obtain⟨q,B,C,i,D,F,G,_,J⟩:=f;refine nh I (e▸mS) o ⟨q,i⟩ ⟨hl,hd,_,(rel.put k p rv).keeps λc K w=>?_,q,B,C,i,D,F,G,J⟩;rw[bX (rB w e<|nofun)];exact w
section
variable {kvs:List (aN×V)}{k:aN}
theorem Vk{more:Fv}(I:Inv X pins Z H s)(e:H a=aA (.dK kvs))(ry:RelV (kV k) u)(l:fQ kvs k=aA v)(hm:more=[]\/∃x,more=[x])
  (h:∀w' s',Inv X pins Z (bE H a<|.dK<|rY kvs k) s'->RelV v w'->Q w' s'):aU (aY X.prog X.w) A (call (.builtin "dict.pop")<|.ref a::u::more) Q E s:=by
 obtain⟨z,hd,d,rel,dd⟩:=nq I.aZ e;obtain⟨w',hw,c⟩:=iB.some_of (by rw[<- l];exact rel.val k);have f:(keyPart u).isSome=aB:=by
  cases k with
  |inl i=>obtain⟨t,q⟩:=(ry);subst q;rfl|inr x=>obtain⟨t,q⟩:=(ry);subst q;rfl
 have ha:argsOk "dict.pop" ⟨.ref a::u::more,[]⟩:=by
  rcases hm with q|⟨x,q⟩
  .subst q;exact aRy _ _
  .subst q;exact KZ _ _ _
 refine cg Qa dd.typeIs LA ha (meets_dict_pop_there (gG X.prog X.w) a (qO ry) more hm f)
  ⟨d,w',dd,rel.length▸z,hw,λg b j=>h w' _ ?_ c⟩
 have he:∃q,g.get? a=aA q:=let ⟨q,_,_,m,_⟩:=b;⟨q,m⟩;exact nh I (e▸mS) j he<|xf (dR (VW kvs k) z) hd (rel.drop k) b
theorem VD(I:Inv X pins Z H s)(e:H a=aA (.dK kvs))(ry:RelV (kV k) u)(l:fQ kvs k=aD)(h:∀s',Inv X pins Z H s'->Q r s') :
  aU (aY X.prog X.w) A (call (.builtin "dict.pop") [.ref a,u,r]) Q E s:=by
 obtain⟨z,hd,b,rel,dd⟩:=nq I.aZ e;have hn:=iB.none_of (by rw[<- l];exact rel.val k);have c:(keyPart u).isSome=aB:=by
  cases k with
  |inl i=>obtain⟨t,q⟩:=(ry);subst q;rfl|inr x=>obtain⟨t,q⟩:=(ry);subst q;rfl
 exact cg Qa dd.typeIs LA (KZ _ _ _) (meets_dict_pop_default (gG X.prog X.w) a (qO ry) hd c r) ⟨b,dd,hn,h _ (I.tok _)⟩
end
theorem VJ(I:Inv X pins Z H s)(g:lO H a y o):s.TypeIs (.ref a) "dict":=by
 rcases g with⟨c,k,e,_,_⟩|⟨c,k,b,e,_,_,_⟩
 .obtain⟨_,_,d,_,dd⟩:=yQ I.aZ e;exact dd.typeIs
 .obtain⟨_,_,xs,_,dd⟩:=yR I.aZ e;exact dd.typeIs
theorem Vt(h:bS)(hb:tF<h.objs.size):hU P w H (h.push { cls:=.type "dict",data:=.dict #[] }) h.objs.size (.dK []):=
 ⟨jR _,beq_eq_false_iff_ne.mpr (mE<|cC hb),[],.nil,Heap.DictOf.new h⟩
def aKg:TE:=λ_ H Q=>∀p,H p=aD->Q (.ref p) (bE H p<|.dK [])
theorem V0:PE X (.Dict [] [] pos) aKg:=λpins s Z H Q I h=>wpAny_Dict_empty ⟨.ref s.heap.objs.size,_,I.laid (λ_ _ q=>dO _ q) (aV _) (Vt s.heap I.big),rfl,h _ (I.aZ.fresh<|aV _)⟩
def Ao:List (TE×TE)->St->Hp->(List (V×V)->Hp->Prop)->Prop
 |[],_,H,Q=>Q [] H
 | (tk,tv)::r,Z,H,Q=>tk Z H λx H1=>tv Z H1 λy H2=>Ao r Z H2 λps H3=>Q ((x,y)::ps) H3
abbrev VV:List (V×V)->List (Value×Value)->Prop:=bj λp q=>RelV p.1 q.1/\RelV p.2 q.2
def md(X:Cx)(pos:Pos)(keys:List (Option aI))(values:List aI)(trs:List (TE×TE)):Prop:=
 ∀(pins:Fw) (s:aK) (Z:St) (H:Hp) (Q:List (V×V)->Hp->Prop),Inv X pins Z H s->Ao trs Z H Q ->
  aU (aY X.prog X.w) X.A (evalPairs<|pairTrees keys values X.env pos) (λvs s'=>∃ps H',Inv X pins Z H' s'/\VV ps vs/\Q ps H') X.xe s
theorem Z9:md X pos [] [] []:=λpins s Z H Q I h=>pairTrees_nil_walk ⟨[],H,I,.nil,h⟩
theorem Z8{k v:aI}{ks:List (Option aI)}{vs:List aI}{tk tv:TE}(hk:PE X k tk)(hv:PE X v tv)(hr:md X pos ks vs trs) :
  md X pos (aA k::ks) (v::vs) ((tk,tv)::trs):=λpins s a H Q I h=>
 pairTrees_cons_walk (bA (hk pins s a H _ I h) λu s1 ⟨x,H1,b,c,d⟩=>bA (hv pins s1 a H1 _ b d) λw2 s2 ⟨y,e,f,g,i⟩=>bA (hr pins s2 a e _ f i) λws n ⟨ps,j,l,rel,m⟩=>⟨(x,y)::ps,j,l,.cons ⟨c,g⟩ rel,m⟩)
def zP(kvs more:List (aN×V)):List (aN×V):=more.foldl (λacc kv=>putK acc kv.1 kv.2) kvs
theorem KV.merge:∀{more:List (aN×V)}{rs:List (aN×Value)}{kvs:List (aN×V)}{vs:List (aN×Value)},KV more rs->KV kvs vs->KV (zP kvs more) (merged vs rs):=by
 intro more rs kvs vs r;induction r generalizing kvs vs with
 |nil=>intro q;exact q|@cons p q ps c h t a=>
  intro b;have e:KV (putK kvs p.1 p.2) (stored vs q.1 q.2):=by have:=b.put p.1 h.2;rw[<- h.1];exact this
  exact a e
theorem AB:∀(more kvs:List (aN×V)),(zP kvs more).length<=kvs.length+more.length
 |[],kvs=>by show kvs.length<=kvs.length+0;omega
 |p::r,kvs=>by have a:=AB r (putK kvs p.1 p.2);have b:=yt kvs p.1 p.2;show(zP (putK kvs p.1 p.2) r).length<=_;rw[eK];omega
theorem Ul{P:cD}{w:bW}:∀{kvs:List (aN×V)}{ws:List (Value×Value)},VV (kvs.map λkv=>(kV kv.1,kv.2)) ws->∃rs,Carries (gG P w) ws rs/\KV kvs rs
 |[],_,r=>by cases r;exact⟨[],mS,.nil⟩
 |p::kvs,_,r=>by
  cases r with
  |@cons a b as bs h t=>obtain⟨rs,c,q⟩:=Ul t;obtain⟨b1,b2⟩:=b;exact⟨(p.1,b2)::rs,⟨qO h.1,rfl,c⟩,.cons ⟨rfl,h.2⟩ q⟩
def aKh(trs:List (TE×TE)):TE:=λZ H Q=>∀p,H p=aD->Ao trs Z (bE H p<|.dK []) λps H2=>H2 p=aA (.dK [])/\∃kvs:List (aN×V),ps=kvs.map (λkv=>(kV kv.1,kv.2))/\kvs.length<=15/\Q (.ref p) (bE H2 p<|.dK<|zP [] kvs)
theorem U9{keys:List (Option aI)}{values:List aI}(h:md X pos keys values trs)(oU:keys.all (·.isSome)=aB)(hl:keys.length=values.length)(h0:keys≠[])
  (h15:keys.length<=15):PE X (.Dict keys values pos) (aKh trs):=by
 intro pins s f H Q I q;have hn:=I.aZ.fresh (aV s.heap.objs.size);have g:=I.laid (t':=s.toks) (λ_ _ q=>dO _ q) (aV _) (Vt s.heap I.big);refine wpAny_Dict_walk (knd:=gG X.prog X.w) oU hl h0 h15<|bA (h pins _ f _ _ g<|q _ hn) λws s2 i=>?_;obtain⟨ps,v,d,rel,e,a,j,lk,k⟩:=i;subst j;obtain⟨rs,c,l⟩:=Ul rel;obtain⟨z,hd,m,n,dd⟩:=nq d.aZ e;cases n;refine⟨rs,c,dd,λo b p=>⟨.ref s.heap.objs.size,_,?_,rfl,k⟩⟩;have r:(zP [] a).length<=sizeLine:=by have t:=AB a [];rw[Ca]at t;rw[pI];omega
 have he:∃q,o.get? s.heap.objs.size=aA q:=let ⟨q,_,_,u,_⟩:=b;⟨q,u⟩;exact nh d (e▸mS) p he<|xf r hd (l.merge .nil) b
section
variable {d:V}
theorem UY(hu:A.units+1<cLine)(I:Inv X pins Z H s)(g:lO H a y o)(ry:RelV y u)(h:∀w' s',Inv X pins Z H s'->RelV (o.getD .aH) w'->Q w' s') :
  aU (aY X.prog X.w) A (call (.builtin "dict.get") [.ref a,u]) Q E s:=by
 rcases g with⟨c,k,e,d,l⟩|⟨c,k,b,e,d,f,l⟩
 .subst d;obtain⟨z,hd,i,rel,dd⟩:=yQ I.aZ e;refine cg kh dd.typeIs Co (KW _ _) (meets_dict_get (gG X.prog X.w) a (qO ry) hd) ⟨_,dd.mapOf,h _ _ (I.tok _) ?_⟩;rw[l];exact(rel.val k).getD rfl
 .subst d;cases(show u=kX b from ry);obtain⟨z,hd,xs,rel,dd⟩:=yR I.aZ e;refine cg kh dd.typeIs Co (KW _ _) (meetsH_dict_get (cv<|gG X.prog X.w) a b hd) ⟨kr hu,k,xs,zJ I.aZ f,dd,h _ _ (I.tok _) ?_⟩;rw[l];exact(rel.val k).getD rfl
theorem UZ(hu:A.units+1<cLine)(I:Inv X pins Z H s)(g:lO H a y o)(ry:RelV y u)(rd:RelV d r)(h:∀w' s',Inv X pins Z H s'->RelV (o.getD d) w'->Q w' s') :
  aU (aY X.prog X.w) A (call (.builtin "dict.get") [.ref a,u,r]) Q E s:=by
 rcases g with⟨c,k,e,f,l⟩|⟨c,k,b,e,f,i,l⟩
 .subst f;obtain⟨z,hd,j,rel,dd⟩:=yQ I.aZ e;refine cg kh dd.typeIs Co (KY _ _ _) (meets_dict_get_default (gG X.prog X.w) a (qO ry) hd r) ⟨_,dd.mapOf,h _ _ (I.tok _) ?_⟩;rw[l];exact(rel.val k).getD rd
 .subst f;cases(ry);obtain⟨z,hd,xs,rel,dd⟩:=yR I.aZ e;refine cg kh dd.typeIs Co (KY _ _ _) (meetsH_dict_get_default (cv<|gG X.prog X.w) a b hd r) ⟨kr hu,k,xs,zJ I.aZ i,dd,h _ _ (I.tok _) ?_⟩;rw[l];exact(rel.val k).getD rd
end
inductive kH(P:cD)(w:bW)(outer:Wl)(H:Hp)(s:aK)(E:XK)(e:Value)(s':aK):Prop
theorem ng{s':aK}{e:Value}(h:kH P w outer H s (λ_ _ _=>False) e s'):False:=nomatch h
theorem zj{K:bH}{base:bS}{N:WL}{qual:Str}{f:Addr}{cd:Value}{E:XK} :
 rT (kH P w) (wC (kH P w) P w K mg base N qual scope f cd A outer s H E) E:=λ_ _ _ _ _ _ _ h=>nomatch h
def Si(CX:nP)(X:Cx)(EE:St->XK):Prop:=∀(pins:Fw) (Z:St) (H:Hp) (s:aK) (e:Value) (s':aK),Inv X pins Z H s->CX X.stack H s (EE Z) e s'->X.xe e s'
section
variable {k:Nat}{f:Addr}{ps:WL}{EE:St->XK}{p:Pos}{e:aI}{es:List aI}{t:TA}
theorem EO{Q:VK}{vs:Fx}(F:iK X.prog X.w X.K X.mg X.base CX k f fd ps sp)(hr:fI k X.A)(hb:Binds X.K fd ps [])(hx:Si CX X EE)
  (I:Inv X pins Z H s)(r:Vals vs us)(h:sp vs H Q (EE Z)):aU (aY X.prog X.w) X.A (call (.ref f) us) (EP X pins Z Q) X.xe s:=by
 have hl:(us++[]).length=ps.length:=by rw[pE,<- r.length];exact F.len _ _ _ _ h
 have a:=hb s us I.fM hl;rw[pE]at a;refine vc<|uy (F.run X.A X.stack s H ⟨us,[]⟩ us vs Q (EE Z) hr I.Fq a r h) λr c b=>?_;cases r with
 |error e=>exact hx pins Z H s e c I b|ok fl=>
  cases fl with
  |ret u=>exact I.after b|next=>exact kU b|brk=>exact kU b|cont=>exact kU b
end
def pS(cells:Wi)(x:Str×sZ)(cs:Wi):Wi:=if(x.2==iV)=aB then(match cells.lookup x.1 with
 |some c=>(x.1,c)::cs
 |none=>cs) else cs
def vX(scope:gK)(env:Env):Wi:=scope.names.foldl (λcs x=>pS env.cells x cs) []
theorem Xn{α β:Type}{st:α->β->β}:∀{l:List α}{f:α->β->Sem (ForInStep β)} (c:β),(∀x∈l,∀c,f x c=pure (.yield<|st x c))->forIn l c f=pure (l.foldl (λc x=>st x c) c)
 |[],f,c,h=>rfl|x::l,f,c,h=>by rw[List.forIn_cons,h x fS];exact Xn (st x c) λy a=>h y (iI _ a)
theorem UH{env:Env}(h:∀x∈scope.names,x.2 = .free->∃c,env.cells.lookup x.1=aA c):Qu scope env=pure (vX scope env):=by
 simp only[Qu];rw[Xn (st:=pS env.cells) [] (λx d c=>by
  obtain⟨n,kind⟩:=x;by_cases b:kind = .free
  .obtain⟨a,ha⟩:=h _ d b;subst b;simp[pS,cellOf,ha]
  .have:(kind==iV)=aG:=by simpa
   simp[pS,this])]
 rfl
theorem Us{cells:Wi}:∀(l:List (Str×sZ)) (cs:Wi),(∀x c,cs.lookup x=aA c->cells.lookup x=aA c)->∀x c,(l.foldl (λcs x=>pS cells x cs) cs).lookup x=aA c->cells.lookup x=aA c
 |[],cs,h=>h
 |y::l,cs,h=>Us l _ (by
  intro x c e;change (pS cells y cs).lookup x=aA c at e;unfold pS at e;split at e
  .split at e
   .rename_i b a;rw[iU]at e;split at e
    .rename_i q;have:=eq_of_beq q;subst this;rw[a];exact e
    .exact h x c e
   .exact h x c e
  .exact h x c e)
theorem Ur{cells:Wi}:∀(l:List (Str×sZ)) (cs:Wi) (x:Str),((∃c,cs.lookup x=aA c)\/((x,iV)∈l/\∃c,cells.lookup x=aA c))->∃c,(l.foldl (λcs x=>pS cells x cs) cs).lookup x=aA c
 |[],cs,x,h=>by
  rcases h with h|⟨h,_⟩
  .exact h
  .cases h
 |y::l,cs,x,h=>by
  refine Ur l _ x ?_;rcases h with⟨c,e⟩|⟨hm,c,e⟩
  .left;change ∃c,(pS cells y cs).lookup x=aA c;unfold pS;split
   .split
    .rename_i a _;rw[iU];split
     .exact⟨a,rfl⟩
     .exact⟨c,e⟩
    .exact⟨c,e⟩
   .exact⟨c,e⟩
  .rcases List.mem_cons.mp hm with q|q
   .left;subst q;simp[pS,e]
   .exact .inr ⟨q,c,e⟩
theorem AL{env:Env}(hk:env.scope.kind = .function):∀{names:List (Str×sZ)}{x:Str},names.lookup x=aA .free->env.kindOf x=aA .cell ->
  (names.map λ(n,k)=>if(k==iV&&env.scope.kind == .function&&env.kindOf n==aA .cell) then(n,jy) else(n,k)).lookup x=aA .cell
 |[],_,h,_=>by simp at h
 | (n,k)::r,x,h,b=>by
  have c:=@AL env hk r x;show rL x ((if(k==iV&&env.scope.kind == .function&&env.kindOf n==aA .cell)=aB then(n,jy) else(n,k))::_)=_;cases a:x==n with
  |true=>simp only[iU,a]at h;cases h;have:=eq_of_beq a;subst this;simp[hk,b]
  |false=>
   simp only[iU,a]at h;by_cases d:(k==iV&&env.scope.kind == .function&&env.kindOf n==aA .cell)=aB
   .rw[if_pos d];simp only[iU,a];exact c h b
   .rw[if_neg d];simp only[iU,a];exact c h b
theorem Ia{env:Env}:∀{names:List (Str×sZ)}{x:Str}{k:sZ},(∀y∈names,y.2 ≠ .cell) ->
  (names.map λ(n,k)=>if(k==iV&&env.scope.kind == .function&&env.kindOf n==aA .cell) then(n,jy) else(n,k)).lookup x=aA k->k = .cell\/k = .free->(x,iV)∈names
 |[],_,_,_,h,_=>by simp at h
 | (n,k)::r,x,d,hn,h,hk=>by
  have f:=@Ia env r x d λy g=>hn y (iI _ g);have a:rL x ((if(k==iV&&env.scope.kind == .function&&env.kindOf n==aA .cell)=aB then(n,jy) else(n,k))::(r.map λ(n,k)=>if(k==iV&&env.scope.kind == .function&&env.kindOf n==aA .cell) then(n,jy) else(n,k)))=aA d:=h;cases c:x==n with
  |true=>
   have e:=eq_of_beq c;subst e;by_cases b:(k==iV&&env.scope.kind == .function&&env.kindOf x==aA .cell)=aB
   .have:k = .free:=by simp only[bT]at b;exact eq_of_beq b.1.1
    subst this;exact fS
   .rw[if_neg b]at a;simp only[iU,c]at a;cases a;rcases hk with hk|hk
    .exact absurd hk<|hn _ fS
    .have hk:=hk;subst hk;exact fS
  |false=>
   have i:(r.map λ(n,k)=>if(k==iV&&env.scope.kind == .function&&env.kindOf n==aA .cell) then(n,jy) else(n,k)).lookup x=aA d:=by
    by_cases b:(k==iV&&env.scope.kind == .function&&env.kindOf n==aA .cell)=aB
    .rw[if_pos b]at a;simpa only[iU,c]using a
    .rw[if_neg b]at a;simpa only[iU,c]using a
   exact iI _<|f i hk
def Cx.comp(X:Cx)(N':WL)(scope:gK)(s3:aK)(H3:Hp)(C:Addr)(fp:S1):Cx:=
 { X with N:=N',s₀:=s3,H₀:=H3,env:=compEnvC scope (vX scope X.env) C X.env,outer:=X.stack,ex:=fp,fn:=λ_=>aG,pn:=[],xe:=λ_ _=>False }
structure oP(X:Cx)(N':WL)(scope:gK):Prop where
 kind:scope.kind = .function
 Jh:∀y∈scope.names,y.2 ≠ .cell
 AJ:∀y∈scope.names,y.2 = .local->scope.names.lookup y.1=aA .local
 free:∀y∈scope.names,y.2 = .free->X.env.scope.names.lookup y.1=aA .cell
section
variable {C:Addr}
theorem oP.Uu(hs:oP X N' scope)(ok:X.Ok):Qu scope X.env=pure (vX scope X.env):=
 UH λx a b=>ok.has x.1 (.inl<|hs.free x a b)
theorem ei{c:Addr}(h:(vX scope X.env).lookup x=aA c):X.env.cells.lookup x=aA c:=Us _ [] (λx c e=>by simp at e) x c h
theorem oP.has(hs:oP X N' scope)(ok:X.Ok){x:Str}(h:(x,iV)∈scope.names):∃c,(vX scope X.env).lookup x=aA c:=
 Ur _ [] x (.inr ⟨h,ok.has x (.inl<|hs.free _ h rfl)⟩)
theorem Inv.yO(I:Inv X pins Z H s)(hs:oP X N' scope)(hf:∀b∈fp,kJ X pins H b/\b≠C)(hC:s.heap.objs.size<=C):(X.comp N' scope s H C fp).Ok where
 mod:=I.ok.mod
 kind:=hs.kind
 glob:=I.ok.glob
 blt:=I.ok.blt
 above:=hC
 inj:=λx y c a d=>I.ok.inj x y c (ei a) (ei d)
 has:=λx hx=>by
  rcases hx with hx|hx
  .exact hs.has I.ok<|Ia hs.Jh hx<|.inl rfl
  .exact hs.has I.ok<|Ia hs.Jh hx<|.inr rfl
 wg:=λx c h=>by cases h
 hd:=I.ok.hd
 frames:=I.ok.frames
 Mg:=.inl rfl
 xm:=λb hb=>⟨(hf b hb).2,λx c e=>(hf b hb).1.2.2.2.2.1 x c (ei e)⟩
 bs:=λb o e=>I.bs b o e
 vW:=dR I.ok.vW I.sz
 ze:=λb o e hb=>by
  rcases(hf b hb).1.2.2.2.1 with z|z
  .exact I.ok.ze b o e z
  .exact absurd (bF (bF (dF e) I.ok.vW) z)<|oH _
 ny:=λb hb f=>by
  rcases List.mem_cons.mp (I.Mh b f)with e|e
  .exact(hf b hb).1.2.1 e
  .exact(hf b hb).1.2.2.1 e
 qA:=I.stack
 fq:=I.FQ
theorem Inv.comp{h4:bS}{t:Nat}{m0:Str->WM}(I:Inv X pins Z H s)(hs:oP X N' scope)(hf:∀b∈fp,kJ X pins H b/\b≠C)(hC:s.heap.objs.size<=C)
  (k:∀b o,s.heap.get? b=aA o->h4.get? b=aA o) (hn:h4.Ns C m0) (hl:Z'.length=N'.length)
  (hσ:∀(i:Nat) x v,N'[i]?=aA x->Z'[i]?=aA (aA v)->scope.names.lookup x=aA .free/\(x,iV)∈scope.names/\∃j:Nat,X.N[j]?=aA x/\Z[j]?=aA (aA v)) :
  Inv (X.comp N' scope s H C fp) [] Z' H { s with heap:=h4,toks:=t } where
 ok:=I.yO hs hf hC
 os:=rfl
 bare:=I.bare
 base:=Un.kept k
 loc:=⟨m0,hn,λi x v g h _=>by
  obtain⟨l,hm,j,n,q⟩:=hσ i x v g h;obtain⟨m,_,hl⟩:=I.loc;have a:=hs.free _ hm rfl;obtain⟨u,r,lk⟩:=hl j x v n q (.inr<|.inl a);refine⟨u,r,.inr ⟨.inl (AL I.ok.kind l a),?_⟩⟩;rcases lk with⟨z,_⟩|⟨_,c,w,y⟩
  .rw[show X.env.kindOf x=aA .cell from a]at z;cases z
  .obtain⟨B,f⟩:=hs.has I.ok hm;have:=ei f;rw[w]at this;cases this;obtain⟨o,d,hd⟩:=y;exact⟨c,f,o,k _ _ d,hd⟩⟩
 cell:=λx c e=>by obtain⟨v,o,d,hd⟩:=I.cell x c (ei e);exact⟨v,o,k _ _ d,hd⟩
 free:=I.aZ.fresh hC
 pX:=λx c e=>I.pX x c (ei e)
 pin:=λp A=>by cases A
 aZ:=I.aZ.kept k
 len:=hl
end
noncomputable abbrev mY(us:Fv)(k:Nat):Obj:={ cls:=.type "list",data:=.seq us.toArray k }
theorem As{α:Type}{M:Model}{t:Sem α}{Q:α->aK->Prop}(h:aU M A t Q (λ_ _=>False) s):aU M A t Q E s:=vd h (λ_ _ q=>q) λ_ _ z=>z.elim
section
variable {H2:Hp}{s2:aK}{it:Addr}{tn:Nat->bS->Prop}{J:It}{elt tg cO:aI}
theorem Inv.aLt{D:Addr}{ys:Fx}{k:Nat}(I:Inv X pins Z H s)(hD:kJ X pins H D)(ho:s.heap.get? D=aA (mY us k))(r:Vals ys us)(hz:ys.length<=sizeLine):Inv X pins Z (bE H D<|.lst ys) s:=by
 have hn:=hD.1;refine I.step (ch:=[D]) (λb hb=>?_) (λb o _ _ _ e _=>e) (λb o _ _ _ e _=>⟨o.slots,e⟩) (λb o a e n=>?_) (λb o _ e=>⟨o,e⟩) (λb xs e=>by rw[bX (jN e hn)];exact e) (λb o u e=>by rw[bX (jN e hn)];exact e) (λb ps e=>⟨#[],by rw[bX (jN e hn),e];simp⟩) (λm hm=>hm) (λb u e=>?_) I.bare
 .have e:b=D:=by simpa using hb
  subst e;exact⟨hD.2.2.2.1,hD.2.1,hD.2.2.2.2.1,hD.2.2.2.2.2⟩
 .rw[bX (λz=>a (by simp[z]))];exact n
 .by_cases hb:b=D
  .subst hb;rw[gI]at e;cases e;exact⟨hz,us,k,r,ho⟩
  .rw[bX hb]at e;exact(I.aZ b u e).uS (λc v a q=>q) (λc q=>by rw[bX (jN q hn)];exact q) λc xs q=>by rw[bX (jN q hn)];exact q
theorem Uz{ct:Option aI}{g:TG}{R:Fx->Hp->Prop}{W:Nat->Nat->Fx->St->Hp->Prop}{m0:Nat}{RR:Value->Addr->Result->aK->Prop}
  (hsc:oP X N' scope)(sD:X.calm=aB)(I2:Inv X pins σ H2 s2)(T:Turn X.prog X.w X.K tg J fp it tn)(st2:tn 0 s2.heap)(f2:∀b∈fp,kJ X pins H2 b)
  (hg:∀s H C fp,PG (X.comp N' scope s H C fp) tg g)(hct:∀c,ct=aA c->∀s H C fp,PT (X.comp N' scope s H C fp) c tc)(hct0:ct=aD->∀σ H Q,tc σ H Q->Q aB H)(he:∀s H C fp,PE (X.comp N' scope s H C fp) elt te)
  (hl:σ'.length=N'.length)(hσ:∀(i:Nat) x v,N'[i]?=aA x->σ'[i]?=aA (aA v)->scope.names.lookup x=aA .free/\(x,iV)∈scope.names/\∃j:Nat,X.N[j]?=aA x/\σ[j]?=aA (aA v))
  (w0:W 0 m0 [] σ' H2)
  (turn:∀i m ys σ H,W i m ys σ H->(J.stop i H/\R ys H)\/(J.go i H/\∀x H',J.uf i H x H'->g x σ H' λσ2 H2=>tc σ2 H2 λb H3=>if b=aB then te σ2 H3 λy H4=>ys.length<sizeLine/\∃m',m'<m/\W (i+1) m' (ys++[y]) σ2 H4 else∃m',m'<m/\W (i+1) m' ys σ2 H3))
  (hRR:∀D C s' H' m ys,Inv X pins σ (bE H' D<|.lst ys) s'->H' D=aD->s'.heap.Ns C m->kJ X pins (bE H' D<|.lst ys) C->R ys H'->RR (.ref D) C (.ok .next) s') :
  aU (aY X.prog X.w) X.A (newList []) (λacc s₃=>aU (aY X.prog X.w) X.A (newFunctionEnv scope X.env.globals (vX scope X.env) [] X.env.qual aD .none<|aA X.env) (λUo s₄=>tE (aY X.prog X.w) X.A (.compStart (.ListComp elt [⟨tg,cO,ct.toList,0⟩] scope pos) 0 (.ref it) acc { Uo with scope:=relabel scope X.env }) (RR acc Uo.locals) s₄) E s₃) E s2:=by
 refine xX<|wpAny_newFunctionEnv hsc.Jh (by intro y hy;simp at hy) (λh₁ hns₁ hsb₁=>?_) hsc.kind;dsimp only at hns₁ hsb₁ ⊢;generalize hH2:s2.heap.push { cls:=.type "list",dict:=aD,data:=.seq ([]:Fv).toArray }=hp2 at hns₁ hsb₁ ⊢;have hC:hp2.objs.size=s2.heap.objs.size+1:=by rw[<- hH2,aw]
 have hDC:s2.heap.objs.size≠hp2.objs.size:=by rw[hC];exact cC<|cM _
 have hCle:s2.heap.objs.size<=hp2.objs.size:=by rw[hC];exact iJ _
 have below:∀b,b<s2.heap.objs.size->b≠hp2.objs.size/\b≠s2.heap.objs.size:=λb hb=>⟨by rw[hC];exact cC<|kG hb,cC hb⟩;have old:∀b o,s2.heap.get? b=aA o->h₁.get? b=aA o:=λb o e=>hsb₁.extBut b o (below b<|dF e).1 (dO _<|hH2▸dO _ e);have p9:h₁.get? s2.heap.objs.size=aA (mY [] 0):=hsb₁.extBut _ _ hDC (dO _<|hH2▸jG _ rfl);have fD:kJ X pins H2 s2.heap.objs.size:=I2.wG (aV _) (I2.aZ.fresh<|aV _);have lfp:∀b∈fp,b<s2.heap.objs.size:=λb hb=>by obtain⟨o,e,_⟩:=T.obj 0 _ st2 b hb;exact dF e
 have hf':∀b∈s2.heap.objs.size::fp,kJ X pins H2 b/\b≠hp2.objs.size:=λb hb=>by
  rcases List.mem_cons.mp hb with rfl|hb
  .exact⟨fD,hDC⟩
  .exact⟨f2 b hb,(below b<|lfp b hb).1⟩
 have IY:=I2.comp (t:=s2.toks+([]:Wh).length) hsc hf' hCle old hns₁ hl hσ;generalize hDd:s2.heap.objs.size=D at *;generalize hCd:hp2.objs.size=C at *;have fnD:∀b∈fp,b≠D:=λb hb=>(below b<|lfp b hb).2;have ok:=IY.ok;have hg':=hg s2 H2 C (D::fp);have hct':=λc e=>hct c e s2 H2 C (D::fp);have he':=he s2 H2 C (D::fp);have fY:∀{pl:Fw} {H':Hp}{b:Addr},b∈D::fp->H' b=aD->(∀p∈pl,p.1≠b)->kJ (X.comp N' scope s2 H2 C<|D::fp) pl H' b:=λ{pl H' b} hb hn hp=>
  ⟨hn,(ok.xm b hb).1,ok.ny b hb,.inl hb,(ok.xm b hb).2,λp h=>hp p (by simpa[Cx.comp]using h)⟩
 let Iv:Nat->aK->Prop:=λn s'=>∃(i:Nat) (ys:Fx) (us:Fv) (k:Nat) (σ':St) (H':Hp),Inv (X.comp N' scope s2 H2 C<|D::fp) [] σ' H' s'/\tn i s'.heap/\(∀b∈D::fp,H' b=aD)/\s'.heap.get? D=aA (mY us k)/\Vals ys us/\ys.length<=sizeLine/\W i n ys σ' H'
 have turnA:∀(n:Nat) (s':aK),Iv n s'->∀(K:aK->Prop) (E':Value->aK->Prop),
   (∀(i:Nat) (ys:Fx) (us:Fv) (k:Nat) (pl:Fw) (σ6:St) (H6:Hp) (s6:aK),Inv (X.comp N' scope s2 H2 C<|D::fp) ([(D,mY us k)]++pl) σ6 H6 s6 ->
    (∀h7:bS,(∀p∈pl,h7.get? p.1=aA p.2)->tn (i+1) h7)->(∀b∈fp,∃o,(b,o)∈pl)->(∀p∈pl,p.1∈fp)->Vals ys us->ys.length<=sizeLine ->
    (tc σ6 H6 λb H3=>if b=aB then te σ6 H3 λy H4=>ys.length<sizeLine/\∃m',m'<n/\W (i+1) m' (ys++[y]) σ6 H4 else∃m',m'<n/\W (i+1) m' ys σ6 H3)->K s6) ->
   aU (aY X.prog X.w) X.A (xW<|.ref it) (λr s1=>match r with
    |none=>RR (.ref D) C (.ok .next) s1
    |some v=>aU (aY X.prog X.w) X.A (Qy tg (.ref it) v) (λ_ s0=>aU (aY X.prog X.w) X.A (bu tg (compEnvC scope (vX scope X.env) C X.env) v) (λ_ s2=>K s2) E' s0) E' s1) E' s':=by
  rintro n s' ⟨i,ys,us,k,σ3,H3,I3,st3,fr3,hD3,rv3,hz3,w3⟩ K E' hK
  have I3':Inv (X.comp N' scope s2 H2 C<|D::fp) [(D,mY us k)] σ3 H3 s':=I3.gy λp hp=>by
   have e:p=(D,mY us k):=by simpa using hp
   subst e;exact⟨hD3,fr3 D fS,(ok.xm D fS).1,ok.ny D fS,λv z=>by cases z⟩
  have fp3:∀{H':Hp},(∀b∈fp,H' b=aD)->∀b∈fp,kJ (X.comp N' scope s2 H2 C<|D::fp) [(D,mY us k)] H' b:=λhn b hb=>fY (iI _ hb) (hn b hb) λp hp=>by
   have e:p=(D,mY us k):=by simpa using hp
   subst e;exact mE<|fnD b hb
  have fr3':∀b∈fp,H3 b=aD:=λb hb=>fr3 b (iI _ hb);rcases turn i n ys σ3 H3 w3 with⟨stop,hR⟩|⟨go,step⟩
  .refine bA (T.done (X.comp N' scope s2 H2 C<|D::fp) rfl rfl rfl sD i _ s' σ3 H3 E' I3' (fp3 fr3') st3 stop) λr s4 ⟨hr,I4⟩=>?_;subst hr;obtain⟨gD,nD,_⟩:=I4.pin (D,mY us k) (iH _ fS);obtain⟨m,hn,_⟩:=id I4.loc;have IX:Inv X pins σ H3 s4:=I2.TC (ch:=D::fp) I4.os I4.base I4.aZ I4.bare λb hb=>⟨(hf' b hb).1.2.2.2.1,(hf' b hb).1.2.1,(hf' b hb).1.2.2.2.2.1,(hf' b hb).1.2.2.2.2.2⟩;refine hRR D C s4 H3 m ys (IX.aLt ⟨nD,fD.2⟩ gD rv3 hz3) nD hn ⟨by rw[bX (mE hDC)];exact I4.free,?_⟩ hR;have fC:kJ X pins H3 C:=I2.wG (by rw[hDd];exact hCle) I4.free;exact fC.2
  .refine bA (T.item (X.comp N' scope s2 H2 C<|D::fp) rfl rfl rfl sD i _ s' σ3 H3 E' I3' (fp3 fr3') st3 go) λr s4 ⟨u,hr,h4⟩=>?_;subst hr;refine bA h4 λ_ s5 zq=>?_;obtain⟨x,H5,I5,r5,y5,st5,fr5⟩:=zq;have I5':=I5.pinned (fp3 fr5) (T.obj _ _ st5);refine As<|bA (hg' _ s5 σ3 H5 x u _ I5' r5<|step x H5 y5) λ_ s6 ⟨σ6,H6,I6,q6⟩=>?_;refine hK i ys us k _ σ6 H6 s6 I6 (λh7 h=>T.keep _ _ _ st5 λb hb o e=>h (b,o) (yy hb e)) (λb hb=>?_) (λp hp=>(BG hp).1) rv3 hz3 q6;obtain⟨o,e,_⟩:=T.obj _ _ st5 b hb;exact⟨o,yy hb e⟩
 have back:∀{n i:Nat}{ys:Fx}{us:Fv}{k:Nat}{pl:Fw}{σ6:St}{H6:Hp}{s6:aK},Inv (X.comp N' scope s2 H2 C<|D::fp) ([(D,mY us k)]++pl) σ6 H6 s6 ->
   (∀h7:bS,(∀p∈pl,h7.get? p.1=aA p.2)->tn (i+1) h7)->(∀b∈fp,∃o,(b,o)∈pl)->Vals ys us->ys.length<=sizeLine->(∃m',m'<n/\W (i+1) m' ys σ6 H6)->∃m',m'<n/\Iv m' s6:=by
  intro n i ys us k pl σ6 H6 s6 I6 ht oU rv hz ⟨m',hm,w⟩;obtain⟨gD,nD,_⟩:=I6.pin (D,mY us k) (iH _<|xJ _ fS);refine⟨m',hm,i+1,ys,us,k,σ6,H6,I6.gy λp hp=>(by cases hp),ht _ λp hp=>(I6.pin p<|iH _<|iH _ hp).1,λb hb=>?_,gD,rv,hz,w⟩;rcases List.mem_cons.mp hb with rfl|hb
  .exact nD
  .obtain⟨o,ho⟩:=oU b hb;exact(I6.pin _<|iH _<|iH _ ho).2.1
 have app:∀{n i:Nat}{ys:Fx}{us:Fv}{k:Nat}{pl:Fw}{σ6:St}{H7:Hp}{s7:aK}{y:V}{v:Value} {E':Value->aK->Prop},Inv (X.comp N' scope s2 H2 C<|D::fp) ([(D,mY us k)]++pl) σ6 H7 s7 ->
   (∀h7:bS,(∀p∈pl,h7.get? p.1=aA p.2)->tn (i+1) h7)->(∀b∈fp,∃o,(b,o)∈pl)->(∀p∈pl,p.1∈fp)->Vals ys us->RelV y v->ys.length<sizeLine->(∃m',m'<n/\W (i+1) m' (ys++[y]) σ6 H7) ->
   aU (aY X.prog X.w) X.A (call (.builtin "list.append") [.ref D,v]) (λ_ s8=>∃m',m'<n/\Iv m' s8) E' s7:=by
  intro n i ys us k pl σ6 H7 s7 y v E' I7 ht oU hpl rv ry hz ⟨m',hm,w⟩;obtain⟨gD,nD,_⟩:=I7.pin (D,mY us k) (iH _<|xJ _ fS);have hus:us.length<sizeLine:=by rw[<- rv.length];exact hz
  refine append_at (hsz:=by rw[hJ];exact mR hus) gD λh8 hs8 g8=>?_;have nb:∀b∈D::fp,H7 b=aD:=λb hb=>by
   rcases List.mem_cons.mp hb with rfl|hb
   .exact nD
   .obtain⟨o,ho⟩:=oU b hb;exact(I7.pin _<|iH _<|iH _ ho).2.1
  have f8:=fY (pl:=[]) (H':=H7) (b:=D) fS nD (λp hp=>by cases hp);refine⟨m',hm,i+1,ys++[y],us++[v],k+1,σ6,H7,(I7.gy (pins':=[]) λp hp=>(by cases hp)).turned (t':=s7.toks) (it:=D) (λb o hb e=>hs8.extBut b o hb e) nD f8.2.1 f8.2.2.2.1 f8.2.2.2.2.1 f8.2.2.2.2.2,
   ht _ λp hp=>?_,nb,?_,rv.append (.cons ry .nil),?_,w⟩
  .exact hs8.extBut _ _ (fnD _<|hpl p hp) (I7.pin p<|iH _<|iH _ hp).1
  .show h8.get? D=_;rw[g8];simp[mY]
  .rw[dC];exact hz
 have i0:Iv m0 { s2 with heap:=h₁,toks:=s2.toks+([]:Wh).length }:=⟨0,[],[],0,σ',H2,IY,T.keep _ _ _ st2 λb _ o e=>old b o e,λb hb=>(hf' b hb).1.1,p9,.nil,jR _,w0⟩;have loop:tE (aY X.prog X.w) X.A (.compLoop (.ListComp elt [⟨tg,cO,ct.toList,0⟩] scope pos) 0 (.ref it) (.ref D)<|compEnvC scope (vX scope X.env) C X.env) (RR (.ref D) C) { s2 with heap:=h₁,toks:=s2.toks+([]:Wh).length }:=by
  cases ct with
  |none=>refine PySem.W.kcp_loop Iv (λn s' hI=>turnA n s' hI _ _ ?_) m0 i0;intro i ys us k pl σ6 H6 s6 I6 ht oU hpl rv hz q6;have q7:=hct0 rfl σ6 H6 _ q6;rw[if_pos rfl]at q7;refine As<|bA (he' _ s6 σ6 H6 _ I6 q7) λv s7 ⟨y,H7,I7,r7,hz7,w7⟩=>?_;exact app I7 ht oU hpl rv r7 hz7 w7
  |some c=>
   refine PySem.W.kct_loop Iv (λn s' hI=>turnA n s' hI _ _ ?_) m0 i0;intro i ys us k pl σ6 H6 s6 I6 ht oU hpl rv hz q6;refine As<|bA (hct' c rfl _ s6 σ6 H6 _ I6 q6) λb s7 ⟨H7,I7,q7⟩=>?_;cases b with
   |true=>rw[if_pos rfl]at q7 ⊢;refine As<|bA (he' _ s7 σ6 H7 _ I7 q7) λv s8 ⟨y,H8,I8,r8,hz8,w8⟩=>?_;exact app I8 ht oU hpl rv r8 hz8 w8
   |false=>rw[if_neg gS]at q7 ⊢;exact back I7 ht oU rv hz q7
 exact codeAny_compStart_list loop<|T.self _ 0 _ _ _ (T.keep _ _ _ st2 λb _ o e=>old b o e) loop
def Mm(wi:TI)(imp:St->St)(g:TG)(tc:TT)(te:TE):TE:=λσ H Q=>wi σ H λJ H1=>∃(W:Nat->Nat->Fx->St->Hp->Prop) (m0:Nat),W 0 m0 [] (imp σ) H1/\∀i m ys σ' H',W i m ys σ' H' ->
 (J.stop i H'/\∀D,H' D=aD->Q (.ref D) (bE H' D<|.lst ys))\/(J.go i H'/\∀x H2,J.uf i H' x H2->g x σ' H2 λσ3 H3=>tc σ3 H3 λb H4=>if b=aB then te σ3 H4 λy H5=>ys.length<sizeLine/\∃m',m'<m/\W (i+1) m' (ys++[y]) σ3 H5 else∃m',m'<m/\W (i+1) m' ys σ3 H4)
variable {ct:Option aI}{wi:TI}{imp:St->St}{g:TG}
theorem U8(hsc:oP X N' scope)(sD:X.calm=aB)(hi:PI X tg cO wi)
  (hg:∀s H C fp,PG (X.comp N' scope s H C fp) tg g) (hct:∀c,ct=aA c->∀s H C fp,PT (X.comp N' scope s H C fp) c tc) (hct0:ct=aD->∀Z H Q,tc Z H Q->Q aB H) (he:∀s H C fp,PE (X.comp N' scope s H C fp) elt te)
  (himp:∀Z:St,(imp Z).length=N'.length)
  (hσ:∀(Z:St) (i:Nat) x v,N'[i]?=aA x->(imp Z)[i]?=aA (aA v)->scope.names.lookup x=aA .free/\(x,iV)∈scope.names/\∃j:Nat,X.N[j]?=aA x/\Z[j]?=aA (aA v))
  (Hf:∀x,Cz cO X.env x=pure x):PE X (.ListComp elt [⟨tg,cO,ct.toList,0⟩] scope pos) (Mm wi imp g tc te):=by
 intro pins s Z H Q I h;refine MD rfl Hf (hsc.Uu I.ok) hsc.kind hsc.AJ ?_;refine bA (hi pins s Z H _ I h) λv s1 h1=>bA h1 λk s2 l=>?_;obtain⟨it,fp,u,J,w,e,n,T,d,f2,W,m0,p,turn⟩:=l;subst e;refine Uz hsc sD n T d f2 hg hct hct0 he (himp Z) (hσ Z) p turn ?_;intro D C y z m A q r hn a t;exact⟨m,hn,λB f=>⟨.ref D,_,q.turned (λb o hb e=>f.extBut b o hb e) a.1 a.2.1 a.2.2.2.1 a.2.2.2.2.1 a.2.2.2.2.2,rfl,t D r⟩⟩
theorem aAr{i:Nat}{y:Str}{py pB:Pos}(hN:X.N.Nodup)(hi':X.N[i]?=aA y)(hy:X.env.scope.names.lookup y=aA .local)
  (hsw:vM (.ListComp elt [⟨tg,cO,ct.toList,0⟩] scope pos) (aA<|.Name y py) pB.line X.env=pure aB) (hsc:oP X N' scope) (sD:X.calm=aB) (hi:PI X tg cO wi)
  (hg:∀s H C fp,PG (X.comp N' scope s H C fp) tg g) (hct:∀c,ct=aA c->∀s H C fp,PT (X.comp N' scope s H C fp) c tc) (hct0:ct=aD->∀Z H Q,tc Z H Q->Q aB H) (he:∀s H C fp,PE (X.comp N' scope s H C fp) elt te)
  (himp:∀Z:St,(imp Z).length=N'.length)
  (hσ:∀(Z:St) (i:Nat) x v,N'[i]?=aA x->(imp Z)[i]?=aA (aA v)->scope.names.lookup x=aA .free/\(x,iV)∈scope.names/\∃j:Nat,X.N[j]?=aA x/\Z[j]?=aA (aA v))
  (Hf:∀x,Cz cO X.env x=pure x):PS X (.Assign [.Name y py] (.ListComp elt [⟨tg,cO,ct.toList,0⟩] scope pos) pB) (FV (Mm wi imp g tc te)<|Ye i):=by
 intro pins s Z H D I h;rw[exec_Assign_Name_used _ _ _ _ hsw];refine bB<|ky<|bB ?_;refine bB (vd (MD rfl Hf (hsc.Uu I.ok) hsc.kind hsc.AJ ?_)
  (λ_ t A=>cU (cU A)) λ_ _ e=>e)
 refine bA (hi pins s Z H _ I h) λv s1 h1=>bA h1 λB s2 E=>?_;obtain⟨it,fp,U,J,V,e,F,T,l,f2,W,m0,G,turn⟩:=E;subst e;refine Uz hsc sD F T l f2 hg hct hct0 he (himp Z) (hσ Z) G turn ?_;intro d C t K m L u M hn a N;obtain⟨k,O,P,n,f,R⟩:=id hn;have q:Inv X (pins++[(C,k)]) Z (bE K d<|.lst L) t:=u.gy λp S=>(List.mem_append.mp S).elim (λz=>u.pin p (iH _ z)) λz=>by
  have e:p=(C,k):=by simpa using z
  subst e;exact⟨n,a.1,a.2.1,a.2.2.1,λv z=>by rw[f]at z;cases z⟩
 refine MB<|sx q hN hi' (.inl hy) (v:=.ref d) rfl (λY w=>?_)<|.inr hy;exact⟨m,⟨k,O,P,((w.pin (C,k)<|iH _<|iH _ fS).1),f,R⟩,λWv r=>⟨_,_,w.Aw.turned (λb o hb e=>r.extBut b o hb e) a.1 a.2.1 a.2.2.2.1 a.2.2.2.2.1 a.2.2.2.2.2,N d M⟩⟩
end
end L2
namespace AM
open PySem PySem.Spec PyProof.Rows L2
variable {A:cR}{E:XK}{H H':Hp}{O O':HO}{P prog:cD}{Q:VK}{X:Cx}{a it l:Addr}{apos kq p p2 pos py tp:Pos}{args elts es ts:List aI}{b bb kd:Bool}{c e tg:aI}{env:Env}{ep n tk:Nat}{fd:eV}{gZ ys:Fx}{h':bS}{i j:Int}{items:WV}{ks ps:WL}{ns:WK}{op':pD}{pins:Fw}{s:aK}{scope:gK}{sp:Sp}{sts:WN}{tb:TE}{us:List (aN×V)}{w:bW}{x' y':V}{Y Y':S1}{Z':L2.St}
def xZ(K:bH)(H:Hp)(_:Nat)(x y:V)(b:Bool):Prop:=∃(a c:Addr) (xs:Fx),x = .ref a/\y = .ref c/\dM K H a xs/\dM K H c []/\b=xs.isEmpty
section
variable {Z:L2.St}
theorem AS(I:Inv X pins Z H s){xs:Fx}(h:dM X.K H a xs):∃its:Fv,Vals xs its/\s.heap.IsList a its.toArray:=by obtain⟨its,r,p,_⟩:=I.list h;exact⟨its,r,p.isList⟩
theorem xZ.rc(I:Inv X pins Z H s){c:Addr}(hu:A.units+n<cLine)(h:xZ X.K H n (.ref a) (.ref c) b):SeqAt.RcAt A s (.ref a) (.ref c) b/\SeqAt.RcNeAt A s (.ref a) (.ref c) (!b):=by
 obtain⟨_,_,xs,e1,e2,h1,h2,rfl⟩:=h;cases e1;cases e2;have h0:A.units<cLine:=by omega
 obtain⟨us,r1,p1⟩:=AS I h1;obtain⟨vs,r2,p2⟩:=AS I h2;cases r2;cases r1 with
 |nil=>exact⟨SeqAt.RcAt.lists (e:=λ_=>aB) p1 p2 rfl h0 λj z=>absurd z (kb j),SeqAt.RcNeAt.lists (e:=λ_=>aB) p1 p2 rfl h0 λj z=>absurd z (kb j)⟩|cons _ _=>exact⟨SeqAt.RcAt.lists_lengths p1 p2 rfl h0,SeqAt.RcNeAt.lists_lengths p1 p2 rfl h0⟩
def aGx(K:bH):R2:=λx y H Q=>DV x y H Q\/∃b a c,x = .ref a/\y = .ref c/\xZ K H 12 x y b/\Q (.bl b) H
def aGz(K:bH):R2:=λx y H Q=>EB x y H Q\/∃b a c,x = .ref a/\y = .ref c/\xZ K H 12 x y b/\Q (.bl<|!b) H
theorem N4(hu:X.A.units+12<cLine):cV X (dG .Eq) (aGx X.K):=by
 intro pins s Z H x y v u Q I d e h;rcases h with h|⟨b,a,c,rfl,rfl,h,q⟩
 .exact N2 pins s Z H x y v u Q I d e h
 .cases d;cases e;exact(xZ.rc I hu h).1 _ _ _ _ ⟨.bl b,H,I,rfl,q⟩
theorem O6(hu:X.A.units+12<cLine):cV X (dG .NotEq) (aGz X.K):=by
 intro pins s Z H x y v u Q I d e h;rcases h with h|⟨b,a,c,rfl,rfl,h,q⟩
 .exact O5 pins s Z H x y v u Q I d e h
 .cases d;cases e;exact(xZ.rc I hu h).2 _ _ _ _ ⟨.bl (!b),H,I,rfl,q⟩
end
def aGy:R2:=λx y H Q=>∃a v,x = .ref a/\lO H a y (aA v)/\Q v H
theorem z9(hu:X.A.units+1<cLine):pM X aGy:=by
 intro value slice pins s Z H x y o i Q I e f h hs;obtain⟨a,v,rfl,g,q⟩:=h;cases e;have j:=VJ I g;have hl:=PySem.F.slot_dict_getitem.lookup;have k:aU (aY X.prog X.w) X.A (ck (.ref a) i) (EP X pins Z Q) X.xe s:=VA hu I g f λm s3 l d=>⟨v,H,l,d,q⟩;refine bB ?_;refine bB<|ML j hl ?_;have fin:aU (aY X.prog X.w) X.A (Rh slice aG (.ref a) i) (λr b=>aU (aY X.prog X.w) X.A (letTemporaryGo value (.ref a) r>>=λ_=>pure r) (EP X pins Z Q) X.xe b) X.xe s:=by rw[hs];exact wpAny_operating<|vd k (λr b c=>bB (wpAny_letTemporaryGo<|cU c)) λ_ _ x=>x
 first
  |exact cU<|bB fin|exact bB<|cU<|bB fin|exact bB fin
def DX(neg:Bool):R2:=λy x H Q=>∃a o,x = .ref a/\lO H a y o/\Q (.bl<|if neg then !o.isSome else o.isSome) H
theorem N8(hu:X.A.units+1<cLine):cV X (dG .In) (DX aG):=by intro pins s Z H x y v u Q I b c h;obtain⟨a,o,rfl,g,q⟩:=h;cases c;exact VB hu I g b λs3 d=>⟨.bl o.isSome,H,d,rfl,q⟩
theorem O7(hu:X.A.units+1<cLine):cV X (dG .NotIn) (DX aB):=by intro pins s Z H x y v u Q I b c h;obtain⟨a,o,rfl,g,q⟩:=h;cases c;exact VC hu I g b λs3 d=>⟨.bl (!o.isSome),H,d,rfl,q⟩
def aHc:V->V->V->Hp->(Hp->Prop)->Prop:=λo i v H Q=>∃a H',o = .ref a/\lg H a i v H'/\Q H'
theorem aHx(hu:X.A.units+1<cLine):Dw X (λo i v H Q=>EC o i v H Q\/aHc o i v H Q):=by
 intro pins s Z H o i v e f u Q I b c d h;rcases h with h|⟨a,k,rfl,g,q⟩
 .exact aHy pins s Z H o i v e f u Q I b c d h
 .cases b;exact VE hu I g c d λs4 j=>⟨_,j,q⟩
def DS:V->Fx->Hp->VK->Prop:=λx vs H Q=>∃a y o,x = .ref a/\lO H a y o/\((vs=[y]/\Q (o.getD .aH) H)\/∃z,vs=[y,z]/\Q (o.getD z) H)
theorem G6(hu:X.A.units+1<cLine):dj X "dict.get" DS:=by
 intro pins s Z H x l v us Q I e d h;obtain⟨a,y,o,rfl,g,h⟩:=h;cases e;rcases h with⟨rfl,q⟩|⟨z,rfl,q⟩
 .obtain⟨u,rfl,f⟩:=d.one;exact UY hu I g f λi s3 c b=>⟨_,H,c,b,q⟩
 .obtain⟨m,n,rfl,j,k⟩:=xA d;exact UZ hu I g j k λi s3 c b=>⟨_,H,c,b,q⟩
def DT:V->Fx->Hp->VK->Prop:=λx vs H Q=>∃a kvs k,x = .ref a/\H a=aA (.dK kvs) /\
 ((vs=[kV k]/\∃v,fQ kvs k=aA v/\Q v (bE H a<|.dK<|rY kvs k))\/∃z,vs=[kV k,z]/\(∀v,fQ kvs k=aA v->Q v (bE H a<|.dK<|rY kvs k))/\(fQ kvs k=aD->Q z H))
theorem G7:dj X "dict.pop" DT:=by
 intro pins s Z H x r v us Q I i f h;obtain⟨a,d,k,rfl,e,h⟩:=h;cases i;rcases h with⟨rfl,v,l,q⟩|⟨z,rfl,j,m⟩
 .obtain⟨u,rfl,n⟩:=f.one;exact Vk I e n l (.inl rfl) λo s3 c b=>⟨v,_,c,b,q⟩
 .obtain⟨t,w,rfl,g,p⟩:=xA f;cases l:fQ d k with
  |some v=>exact Vk I e g l (.inr ⟨_,rfl⟩) λo s3 c b=>⟨v,_,c,b,j v l⟩|none=>exact VD I e g l λs3 c=>⟨z,H,c,p,m l⟩
def DU:V->Fx->Hp->VK->Prop:=λx vs H Q=>∃a kvs k z,x = .ref a/\H a=aA (.dK kvs)/\vs=[kV k,z]/\kvs.length<sizeLine/\(∀v,fQ kvs k=aA v->Q v H)/\(fQ kvs k=aD->Q z (bE H a<|.dK<|putK kvs k z))
theorem G8:dj X "dict.setdefault" DU:=by
 intro pins s Z H x y v us Q I i j h;obtain⟨a,b,k,z,rfl,e,rfl,A,m,n⟩:=h;cases i;obtain⟨B,o,rfl,p,f⟩:=xA j;obtain⟨r,hd,ws,rel,dd⟩:=nq I.aZ e;refine cg LG dd.typeIs aSa (aRz _ _ _) (kt_meets_setdefault (gG X.prog X.w) a (qO p) hd o)
  ⟨ws,dd,rel.length▸r,λC hw=>?_,λhn t c hs=>?_⟩
 .cases l:fQ b k with
  |none=>have:cw ws k=aD:=iB.none_of (by rw[<- l];exact rel.val k);rw[this]at hw;cases hw
  |some v=>obtain⟨u,d,g⟩:=iB.some_of (by rw[<- l];exact rel.val k);rw[d]at hw;cases hw;exact⟨v,H,I.tok _,g,m v l⟩
 .have l:fQ b k=aD:=by
   cases l:fQ b k with
   |none=>rfl|some v=>obtain⟨u,d,g⟩:=iB.some_of (by rw[<- l];exact rel.val k);rw[d]at hn;cases hn
  have he:∃q,t.get? a=aA q:=let ⟨q,_,_,w,_⟩:=c;⟨q,w⟩;refine⟨z,_,nh I (e▸mS) hs he (xf ?_ hd (rel.put k f) c),f,n l⟩;have:=yt b k z;lia
theorem Zj{k:aN}{v:Value}(h:zI k v=aB):RelV (kV k) v:=by
 rcases sG h with⟨i,t,rfl,rfl⟩|⟨x,t,rfl,rfl⟩
 .exact⟨t,rfl⟩
 .exact⟨t,rfl⟩
theorem Zs{kvs:List (aN×V)}{vs:List (aN×Value)}(r:KV kvs vs):∀{i:Nat}{k:aN}{x:Value},vs[i]?=aA (k,x)->∃v,kvs[i]?=aA (k,v):=by
 induction r with
 |nil=>intro i k x e;simp at e|@cons p q ps b h t a=>
  intro i k x e;cases i with
  |zero=>simp at e;subst e;exact⟨p.2,by simp;exact Pu h.1 rfl⟩
  |succ i=>simpa using a (by simpa)
def NF(X:Cx)(a:Addr):Prop:=∀o u,X.H₀ a≠aA (.cZ o u)
section
variable {Z:L2.St}{kvs:List (aN×V)}{o:Obj}
theorem ph(I:Inv X pins Z H s)(e:H a=aA (.dK kvs)):NF X a:=λo u z=>by have:=I.base.pZ a o u z;rw[e]at this;cases this
theorem x9(I:Inv X pins Z H s)(e:H a=aA (.dK kvs)):∃o,s.heap.get? a=aA o/\Inv X pins Z (bE H a<|.cZ o<|.dK kvs) s:=by obtain⟨z,y,d,r,ob,f,g,b,c⟩:=id (I.aZ a _ e);have mu:dk (H a):=e▸mS;have ob':hU X.prog X.w (bE H a<|.cZ ob<|.dK kvs) s.heap a (.cZ ob<|.dK kvs):=⟨b,z,y,d,r,ob,f,g,b,c⟩;have:=I.un (t':=s.toks) (Un.write mu (.inl rfl) (λ_ _ _ q=>q) ⟨ob,b⟩) (eZ.write I.aZ mu (.inl rfl) (λ_ _ _ q=>q) ⟨ob,b⟩ ob');exact⟨ob,b,this⟩
theorem pq(I:Inv X pins Z H s)(e:H a=aA (.cZ o<|.dK kvs))(nf:NF X a):Inv X pins Z (bE H a<|.dK kvs) s:=by
 have d:∀b,H b=aD->b≠a:=λb n z=>by rw[z,e]at n;cases n
 refine⟨I.ok,I.os,I.bare,⟨I.base.keep,I.base.slot,λb u q n g=>?_,I.base.there,λb xs q=>?_,λb x u q=>?_,λb ps q=>?_⟩,I.loc,I.cell,?_,λx c q=>?_,λp h=>?_,λb u q=>?_,I.len⟩
 .have:=I.base.free b u q n g;rw[bX (d b this)];exact this
 .have h1:=I.base.uW b xs q;rw[bX (λz=>by rw[z,e]at h1;cases h1)];exact h1
 .rw[bX (λz=>by rw[z]at q;exact nf x u q)];exact I.base.pZ b x u q
 .obtain⟨m,h1⟩:=I.base.uU b ps q;exact⟨m,by rw[bX (λz=>by rw[z,e]at h1;cases h1)];exact h1⟩
 .rw[bX (d _ I.free)];exact I.free
 .rw[bX (d _<|I.pX x c q)];exact I.pX x c q
 .obtain⟨h1,f,i⟩:=I.pin p h;exact⟨h1,by rw[bX (d _ f)];exact f,i⟩
 .by_cases hb:b=a
  .subst hb;rw[gI]at q;cases q;exact(I.aZ b _ e).2
  .rw[bX hb]at q;exact(I.aZ b u q).uS (λ_ _ _ r=>r) (λc r=>by rw[bX (λz=>by rw[z,e]at r;cases r)];exact r) λc xs r=>by rw[bX (λz=>by rw[z,e]at r;cases r)];exact r
def Dr(a:Addr)(o:Obj)(kvs:List (aN×V)):It:=
 ⟨λi H=>H a=aA (.cZ o<|.dK kvs)/\i<kvs.length,λi H x H'=>H'=H/\∃k v,kvs[i]?=aA (k,v)/\x=kV k,λi H=>H a=aA (.cZ o<|.dK kvs)/\kvs.length=i⟩
theorem Xq(I:Inv X pins Z H s)(e:H a=aA (.cZ o<|.dK kvs)){es:Array DictEntry}(hd:o.data = .dict es ep):∃vs,KV kvs vs/\Heap.DictAt (gG X.prog X.w) s.heap a vs ep:=by obtain⟨c,z,y,vs,r,ob,f,g,b,h,d,i⟩:=I.aZ a _ e;rw[c]at b;cases b;rw[hd]at d;cases d;exact⟨vs,r,o,es,c,h,hd,i⟩
theorem aLv{K:bH}(a it:Addr)(hai:a≠it){es:Array DictEntry}(hd:o.data = .dict es ep):Turn P w K tg (Dr a o kvs) [it] it (λi h=>h.IsKeyIter it a i kvs.length ep) where
 mem:=by simp
 obj:=λi h st b hb=>by
  have e:b=it:=by simpa using hb
  subst e;obtain⟨o,e,c,d⟩:=st;exact⟨o,e,λv z=>by rw[d]at z;cases z⟩
 keep:=λi h j st k=>by obtain⟨o,e,c,d⟩:=st;exact⟨o,k it (by simp) o e,c,d⟩
 item:=by intro X l hw m n i pins s Z H E I hf st p;subst l hw m;obtain⟨e,F⟩:=p;obtain⟨g,r,q⟩:=Xq I e hd;have hl:=r.length;obtain⟨f0,f1,f2,t,f4,u⟩:=hf it (by simp);have W:=LP (knd:=gG X.prog X.w) (I.ok.hd n) it a hai g ep;refine W.item i s _ _ (by lia) ⟨hl▸st,q⟩ λv j tk B C D=>?_;obtain⟨k,x,G,B⟩:=B;obtain⟨y,J⟩:=Zs r G;have L:Inv X pins Z H { s with heap:=j,toks:=tk }:=I.turned (λb o hb e=>D b o (by simpa) e) f0 f1 t f4 u;obtain⟨f,_⟩:=C;rw[<- hl]at f;obtain⟨O,M,ci,N⟩:=id f;exact⟨v,rfl,yd M ci N (rfl) ⟨kV k,H,L,Zj B,⟨rfl,k,y,J,rfl⟩,f,λb hb=>(hf b hb).1⟩⟩
 done:=by intro X l hw m n i pins s Z H E I hf st p;subst l hw m;obtain⟨e,F⟩:=p;obtain⟨g,r,q⟩:=Xq I e hd;have hl:=r.length;obtain⟨f0,f1,f2,t,f4,u⟩:=hf it (by simp);have W:=LP (knd:=gG X.prog X.w) (I.ok.hd n) it a hai g ep;exact W.done s _ _ ⟨by rw[<- hl];rw[<- F]at st;exact st,q⟩ λj tk D=>⟨rfl,I.turned (λb o hb e=>D b o (by simpa using hb) e) f0 f1 t f4 u⟩
 self:=λA i s Q E st h=>by obtain⟨o,e,c,d⟩:=st;exact wpAny_pyIter_keyiter ⟨o,e,c,d⟩ h
def u4(tl:TE):TI:=λZ H R=>tl Z H λx H1=>∃a kvs,x = .ref a/\H1 a=aA (.dK kvs)/\∀o,R (Dr a o kvs) (bE H1 a<|.cZ o<|.dK kvs)
theorem X6{l:aI}{tl:TE}(hl:PE X l tl):PI X tg l (u4 tl):=by
 intro pins s Z H R I h;refine bA (hl pins s Z H _ I h) λv s1 k=>?_;obtain⟨x,H1,i,m,n⟩:=k;obtain⟨a,d,e,ha,q⟩:=n;subst e;cases m;obtain⟨o,f,g⟩:=x9 i ha;obtain⟨z,y,p,r,ob,t,A,c,u,j,w⟩:=i.aZ a _ ha;rw[f]at c;cases c;have hl:=r.length;refine wpAny_pyIter_dict y ⟨o,t,f,u,j,w⟩ ?_;have dX:=dF f;refine⟨s1.heap.objs.size,[s1.heap.objs.size],_,_,_,rfl,g.kept λb o e=>dO _ e,aLv a _ (cC dX) j,⟨_,jG _ rfl,rfl,by rw[hl];rfl⟩,λb hb=>?_,q o⟩;have e:b=s1.heap.objs.size:=by simpa using hb
 subst e;exact g.wG (aV _)<|g.aZ.fresh<|aV _
def Tw(H0:Hp)(Q:Hp->Prop)(H:Hp):Prop:=∃a k0 o kvs,H0 a=aA (.dK k0)/\H a=aA (.cZ o<|.dK kvs)/\Q (bE H a<|.dK kvs)
theorem W7{t:TE}(h:PE X e t):PE X e (λZ H Q=>t Z H λx=>Tw H (Q x)):=by intro pins s Z H Q I q;refine bA (h pins s Z H _ I q) λv s1 b=>?_;obtain⟨x,H1,c,d,a,k,o,f,g,i,j⟩:=b;exact⟨x,_,pq c i (ph I g),d,j⟩
def Vx(H:Hp)(D:Ends):Ends:=⟨λZ=>Tw H (D.nx Z),λv=>Tw H (D.rt v),λZ=>Tw H (D.bk Z),λZ=>Tw H (D.ct Z)⟩
theorem aAs{st:Stmt}{t:TS}(h:PS X st t):PS X st (λD Z H=>t (Vx H D) Z H):=by
 intro pins s Z H D I q;refine bA (h pins s Z H _ I q) λf s1 h1=>?_;cases f with
 |next=>obtain⟨b,H1,c,a,j,o,d,e,g,i⟩:=h1;exact⟨b,_,pq c g (ph I e),i⟩|brk=>obtain⟨b,H1,c,a,j,o,d,e,g,i⟩:=h1;exact⟨b,_,pq c g (ph I e),i⟩|cont=>obtain⟨b,H1,c,a,j,o,d,e,g,i⟩:=h1;exact⟨b,_,pq c g (ph I e),i⟩|ret u=>obtain⟨v,b,H1,c,k,a,j,o,d,e,g,i⟩:=h1;exact⟨v,b,_,pq c g (ph I e),k,i⟩
end
theorem aMn{bs:Wq}:∀{us:Fv},Vals (bs.map V.bl) us->us=bs.map bp:=by
 induction bs with
 |nil=>intro us r;cases r;rfl|cons b bs a=>
  intro us r;cases r with
  |cons h t=>have c:=h;subst c;rw[a t];rfl
theorem Mx:∀{us:Fv},Vals (ns.map V.int) us->az us ns:=by
 induction ns with
 |nil=>intro us r;cases r;exact .nil|cons n ns a=>
  intro us r;cases r with
  |cons h t=>obtain⟨k,rfl⟩:=(h);exact .cons n k<|a t
theorem Hl:∀{us:Fv}{ns:WK},az us ns->Vals (ns.map V.int) us
 |_,_,.nil=>.nil
 |_,_,.cons n t r=>.cons ⟨t,rfl⟩ (Hl r)
theorem aHf(bs:Wq):(Pk bs.length).any (λi=>(bs[i]?).getD aG)=bs.any id:=by
 rw[jo,IU,IU];constructor
 .rintro ⟨i,c,h⟩
  have a:=List.mem_range.mp c;rw[eB a]at h;exact⟨bs[i],JN a,h⟩
 .rintro ⟨b,hb,h⟩
  obtain⟨i,c,e⟩:=Ox hb;exact⟨i,List.mem_range.mpr c,by rw[eB c,e];exact h⟩
def kM(rev:Bool)(ns:WK):WK:=ns.mergeSort (λa b=>if rev then decide (b<=a) else decide (a<=b))
theorem Mc{rev:Bool}{ns':WK}(hp:ns'.Perm ns)(ho:Ordered rev ns'):ns'=kM rev ns:=by
 have hs:IP (λa b=>(if rev then decide (b<=a) else decide (a<=b))=aB) (kM rev ns):=by
  refine aQx ?_ ?_ ns
  .intro a b c;cases rev<;>simp<;>lia
  .intro a b;cases rev<;>simp<;>lia
 refine aQn ?_ ?_ hs<|hp.trans (JS _ _).symm
 .intro a b _ _;cases rev<;>simp<;>lia
 .unfold Ordered at ho;cases rev with
  |true=>exact IQ (λh=>by simpa) (by simpa)|false=>exact IQ (λh=>by simpa) (by simpa)
section
variable {Z:L2.St}
theorem TF(hc:X.calm=aB):jL X (.builtin "any") (λxs H Q=>∃(a:Addr) (bs:Wq),xs=[.ref a]/\dM X.K H a (bs.map V.bl)/\Q (.bl<|bs.any id) H):=by
 intro pins s Z H xs us Q I r h;obtain⟨a,bs,rfl,g,q⟩:=h;obtain⟨u,rfl,j⟩:=r.one;cases j;obtain⟨l,m,p,z⟩:=I.list g;have e:=aMn m;subst e;have t:X.A.in1.handled=aD:=I.ok.hd hc;obtain⟨ob,h1,w,n,x⟩:=p.isList;refine call_any_walk<|ve p.isList ?_;refine⟨s.heap.objs.size,_,_,_,_,_,λi=>(bs[i]?).getD aG,rfl,Walks.list t s.heap.objs.size a (cC<|dF h1) (bs.map bp).toArray,⟨⟨_,jG _ rfl,rfl,rfl⟩,⟨ob,dO _ h1,w,n,x⟩⟩,λi v A B C c d=>?_,λD tk k=>?_⟩
 .dsimp only at c d;rw[JK,fR]at c;cases e:bs[i]? with
  |none=>rw[e]at c;cases c|some b=>rw[e]at c d;have f:=dJ c;subst f;exact dh d
 .have hl:(bs.map bp).toArray.size=bs.length:=by simp
  rw[hl,aHf];refine⟨.bl _,H,I.kept λb o e=>k b o ?_ (dO _ e),rfl,q⟩;intro hb;have y:b=s.heap.objs.size:=by simpa using hb
  subst y;exact absurd (dF e)<|oH _
theorem UB(b:Bool)(I:Inv X pins Z H s)(hq:dM X.K H l (ns.map V.int))(hn:ns.length<64)(q:∀D,H D=aD->Q (.ref D) (bE H D<|.lst<|(kM b ns).map V.int)) :
  aU (aY X.prog X.w) X.A (call (.builtin "sorted") [.ref l] [(vI "reverse",.bool b)]) (EP X pins Z Q) X.xe s:=by
 obtain⟨a,c,p,k⟩:=I.list hq;have hl:a.length=ns.length:=by have:=c.length;simpa using this.symm
 refine sorted_ints_rev p.isList (Mx c) (by lia) λout f g d h=>?_;have e:=Mc d h;subst e;obtain⟨i,j⟩:=sortedAll_at s.heap a out;refine⟨.ref _,_,I.laid (o:=.lst ((kM b ns).map V.int)) (λb u z=>sortedAll_old z) (iJ _) ⟨?_,out.toList,i,Hl g,by rw[j]⟩,rfl,q _ (I.aZ.fresh<|iJ _)⟩;have:=d.length_eq;rw[aR];have:64<=sizeLine:=by decide
 lia
theorem AX(l:Addr)(d:Value):Builtin.min { pos:=[.ref l],kw:=[(vI "default",d)] }=(do
   let it <- pyIter (.ref l)
   let S <- newList []
   again (.builtin "min.loop" { pos:=[it,.none,S],kw:=[(vI "default",d)] })):=by
  with_unfolding_all rfl
theorem Uq(a d:Value):checkBuiltinCall "min" { pos:=[a],kw:=[(vI "default",d)] }=pure ():=by with_unfolding_all rfl
theorem F8(I S:Addr)(d:Value)(n:Str):∃k:Option (Array Value)->Sem Qc,Builtin.«min.loop» { pos:=[.ref I,.none,.ref S],kw:=[(n,d)] }=(cq (.ref S)>>=k) /\
  ∃(h:Value->Sem WM) (k2:WM->Sem Qc),k (aA #[])=((tryCatch (xW<|.ref I) h)>>=k2)/\k2 aD=(rule "min.default">>=λ_=>ret d):=by
 refine⟨_,by with_unfolding_all rfl,_,_,by with_unfolding_all rfl,by with_unfolding_all rfl⟩
theorem TZ(hc:X.calm=aB){d:Value}{v:V}(I:Inv X pins Z H s)(hq:dM X.K H l [])(rd:RelV v d)(q:Q v H) :
  aU (aY X.prog X.w) X.A (call (.builtin "min") [.ref l] [(vI "default",d)]) (EP X pins Z Q) X.xe s:=by
 obtain⟨its,rv,p,hz⟩:=I.list hq;cases rv;have hh:=I.ok.hd hc;obtain⟨ob,h1,h2,n,h3⟩:=p.isList;refine vc<|LU LF LB ?_;rw[Uq];refine cU ?_;rw[AX];refine bB<|ve p.isList<|bB<|MG ?_;refine cU ⟨IC _ (by decide +kernel),Cy Cq ?_⟩;obtain⟨k,e1,hd,k2,e2,e3⟩:=F8 s.heap.objs.size (s.heap.push { cls:=.type "list_iterator",data:=.fields #[.ref l,.int 0 0] }).objs.size d (vI "default");rw[e1];refine bB<|ku (jG _ rfl) rfl ?_;show aU _ _ (k<|aA #[]) _ _ _;rw[e2];refine bB<|vf<|Ro (items:=#[]) (l:=l) (i:=0) hh ?_ ?_ rfl λh' eb=>?_
 .exact⟨_,dO _ (jG _ rfl),rfl,rfl⟩
 .exact⟨ob,dO _ (dO _ h1),h2,n,h3⟩
 .rw[e3];refine bB<|Rr<|cU ?_;refine⟨v,H,I.kept (t':=s.toks) λb o e=>eb b o ?_ (dO _<|dO _ e),rd,q⟩;intro hb;subst hb;exact absurd (dF e)<|oH _
theorem BY{x nm:Str}{id:String}{kp:Pos}{kc:aI}{t:TE}{z:V}{r:V->Hp->VK->Prop}(hc:∀pins s Z H v u zu Q,Inv X pins Z H s->RelV v u->RelV z zu->r v H Q->aU (aY X.prog X.w) X.A (call (.builtin id) [u] [(nm,zu)]) (EP X pins Z Q) X.xe s)
  (hg:Gl X x)(hm:X.mg x=aD)(hv:mT x=aA (.builtin id))(ha:PE X e t)(hk:PE X kc (tC z))(hs:eC [e] X.env=[(aG,eval e X.env)])(hn:x≠"__name__":=by decide)(hdb:(x==("__debug__":Str))=aG:=by decide) :
  PE X (.Call (.Name x p) [e] [⟨aA nm,kc,kp⟩] pos) (λZ H Q=>t Z H λv H1=>r v H1 Q):=by
 intro pins s Z H Q I h;refine cz<|zL I hg hm hv ?_ hn hdb;have pa:=wR ha zR hs;have j:PK X [⟨aA nm,kc,kp⟩] (Mn (tC z) iz):=Y3 hk Y4;obtain⟨y,rest,b⟩:∃y rest,lN pos (eC [e] X.env)=(aG,y)::rest:=by rw[hs];exact⟨_,_,rfl⟩
 have c:(lN pos<|eC [e] X.env).any (·.1)=aG:=by rw[hs];rfl
 refine callWith_builtin_kwB c rfl ?_;have h1:=pa pos pins s Z H (λa H1=>match a with
  |[v]=>r v H1 Q
  |_=>False) I h
 rw[b]at h1 ⊢;refine evalArgs_kw rfl ?_;refine bA h1 λus s1 d=>?_;obtain⟨a,H1,k,l,i⟩:=d;obtain⟨v,rfl⟩:∃v,a=[v]:=by
  match a,i with
  |[v],_=>exact⟨v,rfl⟩
 obtain⟨u,rfl,m⟩:=l.one;refine bA (j pos pins s1 Z H1 (λzs f=>zs=[z]/\f=H1) k ⟨rfl,rfl⟩) λws s2 d=>?_;obtain⟨zs,f,n,o,q,w⟩:=d;subst q w;obtain⟨zu,rfl,g⟩:=o.one;exact hc pins s2 Z f v u zu Q n m g i
end
def sI:WK->Int
 |[]=>0
 |n::r=>r.foldl (λm x=>if x<m then x else m) n
theorem Ii:∀(r:WK) (n:Int),(r.foldl (λm x=>if x<m then x else m) n∈n::r)/\∀a∈n::r,r.foldl (λm x=>if x<m then x else m) n<=a
 |[],n=>by simp
 |x::r,n=>by
  obtain⟨h1,b⟩:=Ii r (if x<n then x else n);rw[Bw];refine⟨?_,λa ha=>?_⟩
  .rcases List.mem_cons.mp h1 with e|e
   .rw[e];split<;>simp
   .exact iI _<|iI _ e
  .have c:=b _ (fS ..);have d:(if x<n then x else n)<=x/\(if x<n then x else n)<=n:=by split<;>lia
   rcases List.mem_cons.mp ha with rfl|ha
   .exact rJ c d.2
   .rcases List.mem_cons.mp ha with rfl|ha
    .exact rJ c d.1
    .exact b a<|iI _ ha
theorem Ij(h:ns≠[]):sI ns∈ns:=by
 cases ns with
 |nil=>exact absurd rfl h|cons n r=>exact(Ii r n).1
theorem F5{a:Int}(h:a∈ns):sI ns<=a:=by
 cases ns with
 |nil=>cases h|cons n r=>exact(Ii r n).2 a h
theorem F4{M:Int}(h1:M∈ns)(h2:∀a∈ns,M<=a):M=sI ns:=by have b:=F5 h1;have c:=h2 _ (Ij<|List.ne_nil_of_mem h1);lia
section
variable {R:Result->aK->Prop}{I:Addr}{fp wr:S1}{P:Nat->Value->Prop}{St:Nat->bS->Prop}
theorem F6(nm:Str)(d:Value)(W:Walks prog w A.in1 I fp wr n P St)(bt:Nat->Nat->Bool)(Hc:CmpOf prog w A.in1 .Lt P bt)(S:Addr)(hSf:S∉fp) :
  ∀(k j:Nat) (s:aK) (vb:Value) (c:Nat),n-(j+1)=k->j+1<=n->St (j+1) s.heap->P (vJ bt j) vb->s.heap.get? S=aA { cls:=.type "list",dict:=aD,data:=.seq #[vb,vb] c,slots:=#[] } ->
  (∀v h' tk,P (vJ bt<|n-1) v->(∀b o,b∉wr->b≠S->s.heap.get? b=aA o->h'.get? b=aA o)->R (.ok<|.ret v) { s with heap:=h',toks:=tk }) ->
  tE (aY prog w) A (.builtin "min.loop" ⟨[.ref I,.none,.ref S],[(nm,d)]⟩) R s:=by
 have hSw:S∉wr:=λh=>hSf (W.sub _ h);have yg:(toString "min"++toString ".loop":String)="min.loop":=by decide
 intro k;induction k with
 |zero=>
  intro j s vb c hk hj hst hPb hS hR;have hin:j+1=n:=by omega
  refine Cy Cq ?_;rw[Ob kg _];show aU _ A.in1 (cq (.ref S)>>=_) _ _ s;refine bB<|ku hS rfl ?_;show aU _ A.in1 (tryCatch (xW<|.ref I) _>>=_) _ _ s;refine bB<|vf<|W.done s _ _ (hin▸hst) λh' tk hk'=>?_;have hS':=hk' S _ hSw hS;show aU _ A.in1 (updateSeq S (λ_=>#[])>>=_) _ _ _;refine bB ?_;refine Rt hS' rfl<|bB<|Di<|cU ?_;exact hR vb _ tk (by rw[<- hin];exact hPb) λb o hbw hbS e=>(au _ _<|mE hbS).trans (hk' b o hbw e)
 |succ k ih=>
  intro j s vb c hk hj hst hPb hS hR;have dX:j+1<n:=by omega
  refine Cy Cq ?_;rw[Ob kg _];show aU _ A.in1 (cq (.ref S)>>=_) _ _ s;refine bB<|ku hS rfl ?_;show aU _ A.in1 (tryCatch (xW<|.ref I) _>>=_) _ _ s;refine bB<|vf<|W.item (j+1) s _ _ dX hst λv h' tk hP hst' hk'=>?_;have hS':=hk' S _ hSw hS;show aU _ A.in1 (tryCatch (km [v,v]<|richCompare .Lt v vb>>=_) _>>=_) _ _ _;refine bB<|vf<|pJ<|bB<|Hc (j+1) (vJ bt j) v vb _ _ _ hP hPb ?_;refine bB<|pJ<|dh ?_;refine bB<|Di<|cU ?_;cases hb:bt (j+1) (vJ bt j) with
  |true=>
   simp only[if_true];refine bB ?_;refine Rt hS' rfl<|bB<|Di ?_;rw[yg];refine cU ⟨Rb kg _,ih (j+1) _ v _ (by omega) dX (W.frame _ _ _ hst' λb hbf o e=>?_) (by simp only[vJ,hb,if_true];exact hP) (Bp _ hS' rfl) λv' h'' tk'' hP' hk''=>?_⟩
   .exact(au _ _ (λh:S=b=>hSf (by rw[h];exact hbf))).trans e
   .exact hR v' h'' tk'' hP' λb o hbw hbS e=>hk'' b o hbw hbS ((au _ _<|mE hbS).trans (hk' b o hbw e))
  |false=>simp only[jq,if_false];refine bB<|Di ?_;rw[yg];refine cU ⟨Rb kg _,ih (j+1) _ vb c (by omega) dX hst' (by simp only[vJ,hb,jq,if_false];exact hPb) hS' λv' h'' tk'' hP' hk''=>?_⟩;exact hR v' h'' tk'' hP' λb o hbw hbS e=>hk'' b o hbw hbS (hk' b o hbw e)
theorem F7(nm:Str)(d:Value)(W:Walks prog w A.in1 I fp wr n P St)(bt:Nat->Nat->Bool)(Hc:CmpOf prog w A.in1 .Lt P bt)(S:Addr)(hSf:S∉fp)(hn:0<n){c:Nat}(hst:St 0 s.heap)
  (hS:s.heap.get? S=aA { cls:=.type "list",dict:=aD,data:=.seq #[] c,slots:=#[] })
  (hR:∀v h' tk,P (vJ bt<|n-1) v->(∀b o,b∉wr->b≠S->s.heap.get? b=aA o->h'.get? b=aA o)->R (.ok<|.ret v) { s with heap:=h',toks:=tk }) :
  tE (aY prog w) A (.builtin "min.loop" ⟨[.ref I,.none,.ref S],[(nm,d)]⟩) R s:=by
 have hSw:S∉wr:=λh=>hSf (W.sub _ h);have yg:(toString "min"++toString ".loop":String)="min.loop":=by decide
 refine Cy Cq ?_;rw[Ob kg _];show aU _ A.in1 (cq (.ref S)>>=_) _ _ s;refine bB<|ku hS rfl ?_;show aU _ A.in1 (tryCatch (xW<|.ref I) _>>=_) _ _ s;refine bB<|vf<|W.item 0 s _ _ hn hst λv h' tk hP hst' hk'=>?_;have hS':=hk' S _ hSw hS;show aU _ A.in1 (updateSeq S (λ_=>#[v,v])>>=_) _ _ _;refine bB ?_;refine Rt hS' rfl ?_;rw[yg];refine cU ⟨Rb kg _,F6 nm d W bt Hc S hSf _ 0 _ v _ rfl hn (W.frame _ _ _ hst' λb hbf o e=>?_) hP (Bp _ hS' rfl) λv' h'' tk'' hP' hk''=>?_⟩
 .exact(au _ _ (λh:S=b=>hSf (by rw[h];exact hbf))).trans e
 .exact hR v' h'' tk'' hP' λb o hbw hbS e=>hk'' b o hbw hbS ((au _ _<|mE hbS).trans (hk' b o hbw e))
end
section
variable {Z:L2.St}
theorem UA(hc:X.calm=aB){d:Value}(I:Inv X pins Z H s)(hq:dM X.K H l (ns.map V.int))(hne:ns≠[])(q:Q (.int<|sI ns) H) :
  aU (aY X.prog X.w) X.A (call (.builtin "min") [.ref l] [(vI "default",d)]) (EP X pins Z Q) X.xe s:=by
 obtain⟨its,rv,p,hz⟩:=I.list hq;have hi:=Mx rv;have hh:=I.ok.hd hc;obtain⟨xs,e⟩:=hi.allInts.items;have hns:ns=xs.toList.map (·.1):=by rw[<- hi.numsOf,<- nums_intItems,<- e]
 have hsz:0<xs.size:=by have:ns.length≠0:=λz=>hne (ug z);rw[hns,aR,aq]at this;lia
 have hl:s.heap.IsList l (uz xs):=by rw[<- e];exact p.isList
 obtain⟨ob,h1,h2,n,h3⟩:=id hl;refine vc<|LU LF LB ?_;rw[Uq];refine cU ?_;rw[AX];refine bB<|ve hl<|bB<|MG ?_;have dX:=dF h1;refine cU ⟨IC _ (by decide +kernel),?_⟩;refine F7 (vI "default") d (Walks.list (A:=X.A.in1) hh s.heap.objs.size l (cC dX)<|uz xs) (λi j=>decide (vL xs i<vL xs j)) (CmpOf.ints_lt (vL xs)<|λ_ _=>intItems_at) _ ?_ (by simpa[uz]using hsz) ?_ (jG _ rfl) λv h' tk hP hk=>?_
 .intro hm;have hs2:(s.heap.push { cls:=.type "list_iterator",data:=.fields #[.ref l,.int 0 0] }).objs.size=s.heap.objs.size+1:=aw ..;rw[hs2]at hm;simp only[uj,ba,or_false]at hm;rcases hm with hm|hm
  .exact absurd hm<|tB<|cM _
  .exact absurd hm<|tB<|kG dX
 .exact⟨⟨_,dO _ (jG _ rfl),rfl,rfl⟩,ob,dO _ (dO _ h1),h2,n,h3⟩
 .have hP':(uz xs)[vJ (λi j=>decide (vL xs i<vL xs j)) (xs.size-1)]?=aA v:=by simpa[uz]using hP
  obtain⟨t,rfl⟩:=intItems_at hP';obtain⟨b1,b2⟩:=argBest_lt (vL xs) (xs.size-1);have em:vL xs (vJ (λi j=>decide (vL xs i<vL xs j))<|xs.size-1)=sI ns:=by
   refine F4 ?_ λa ha=>?_
   .rw[hns,numAt_eq];exact getD_mem (by rw[aR,aq];lia)
   .rw[hns]at ha;obtain⟨j,hj,rfl⟩:=mem_getD ha;rw[aR,aq]at hj;rw[<- numAt_eq];exact b2 j (by omega)
  rw[em];refine⟨.int (sI ns),H,I.kept (t':=tk) λb o e=>hk b o ?_ ?_ (dO _<|dO _ e),⟨t,rfl⟩,q⟩
  .intro hm;simp only[uj,ba,or_false]at hm;exact absurd hm<|cC<|dF e
  .have:=dF e;have hs2:(s.heap.push { cls:=.type "list_iterator",data:=.fields #[.ref l,.int 0 0] }).objs.size=s.heap.objs.size+1:=aw ..;rw[hs2];exact cC<|kG this
theorem UC:jL X (.builtin "sorted") (λxs H Q=>∃(a:Addr) (ns:WK),xs=[.ref a]/\dM X.K H a (ns.map V.int)/\ns.length<64/\∀D,H D=aD->Q (.ref D) (bE H D<|.lst<|(kM aG ns).map V.int)):=by
 intro pins s Z H xs us Q I r h;obtain⟨l,ns,rfl,g,hn,q⟩:=h;obtain⟨u,rfl,i⟩:=r.one;cases i;obtain⟨c,d,p,t⟩:=I.list g;have hl:c.length=ns.length:=by have:=d.length;simpa using this.symm
 refine sorted_ints p.isList (Mx d) (by lia) λout j k f v=>?_;have e:=Mc (rev:=aG) f (by unfold Ordered;simpa);subst e;obtain⟨m,n⟩:=sortedAll_at s.heap c out;refine⟨.ref _,_,I.laid (o:=.lst ((kM aG ns).map V.int)) (λb u z=>sortedAll_old z) (iJ _) ⟨?_,out.toList,m,Hl k,by rw[n]⟩,rfl,q _ (I.aZ.fresh<|iJ _)⟩;have:=f.length_eq;rw[aR];have:64<=sizeLine:=by decide
 lia
variable {k:Nat}{f:Addr}
variable {kS:Addr}{us:Fv}{ks:WK}{keys:WV}{e e1:Nat}{E:Value->aK->Prop}{P:Qc->aK->Prop}
end
theorem aMm{us:Fv}:∀{ys:Fx},us.length=ys.length->(∀(j:Nat) v y,us[j]?=aA v->ys[j]?=aA y->RelV y v)->Vals ys us:=by
 induction us with
 |nil=>intro ys hl _;cases ys with
  |nil=>exact .nil|cons _ _=>simp at hl
 |cons u us a=>intro ys hl h;cases ys with
  |nil=>simp at hl|cons y ys=>exact .cons (h 0 u y rfl rfl)<|a (by simpa using hl) λj v z b c=>h (j+1) v z (by simpa) (by simpa)
theorem TU(hc:X.calm=aB):jL X (.type "list") (λxs H Q=>∃(a:Addr) (kvs:List (aN×V)),xs=[.ref a]/\H a=aA (.dK kvs)/\∀D,H D=aD->Q (.ref D) (bE H D<|.lst<|kvs.map λp=>kV p.1)):=by intro pins s Z H xs us Q I r h;obtain⟨a,kvs,rfl,ha,q⟩:=h;obtain⟨u,rfl,f⟩:=r.one;cases f;obtain⟨z,y,c,d,ob,g,i,l,m,n,t⟩:=I.aZ a _ ha;have w:Heap.DictAt (gG X.prog X.w) s.heap a c i:=⟨ob,g,l,m,n,t⟩;have A:=d.length;refine W.kdl_call (W.kdl_dict y) (I.ok.hd hc) w (by lia) λL tk acc B C E b=>?_;refine⟨.ref s.heap.objs.size,_,I.laid (o:=.lst (kvs.map λp=>kV p.1)) C (aV _) ⟨by rw[aR];exact z,acc.toList,B,aMm (by rw[aq,b.1,aR];lia) λj v y F e=>?_,E⟩,rfl,q _ (I.aZ.fresh<|aV _)⟩;obtain⟨k,x,G,J⟩:=b.2 j v (by rw[<- HX];exact F);obtain⟨M,K⟩:=Zs d G;rw[fR,K]at e;cases e;exact Zj J
section
variable {E:Value->aK->Prop}
theorem J5{t:Addr}{i:Nat}{x:Value}{Q:Value->aK->Prop}(u1:s.heap.IsTupleIter it t i)(u2:s.heap.IsTuple t items)(gx:items[i]?=aA x)
  (hQ:∀h',h'.IsTupleIter it t (i+1)->jv it s.heap h'->Q x { s with heap:=h' }):aU (aY prog w) A (Oe<|.ref it) Q E s:=by
 obtain⟨o,a,b,d1⟩:=id u1;obtain⟨d,c,_,e,d2⟩:=u2;refine bB<|Rk u1.typeIs Bo<|Rm Bo u1.typeIs IE ?_<|ID _;show aU _ _ (field (.ref it) 0>>=_) _ _ s;refine bB<|da a d1 rfl ?_;show aU _ _ (if(kX t==uv)=aB then _ else _) _ _ s;rw[if_neg (show¬((kX t==uv)=aB) from gS)];show aU _ _ (field (.ref it) 1>>=_) _ _ s;refine bB<|da a d1 rfl ?_;show aU _ _ (cq (.ref t)>>=_) _ _ s;refine bB<|ku c d2 ?_;simp only[oG,gx];refine bB<|MK a d1 (by simp)<|cU ⟨x,rfl,cU (hQ _ ?_ (IG ..))⟩;exact⟨_,Bp _ a (Obj.isFreed_of_fields<|KL d1 _),(Obj.cls_mapFields ..).trans b,by rw[KL d1];simp[rawInt]⟩
theorem BA{t:Addr}{i:Nat}{Q:Value->aK->Prop}(hh:A.handled=aD)(u1:s.heap.IsTupleIter it t i)(u2:s.heap.IsTuple t items)(gx:items[i]?=aD)
  (hE:∀h' e,Og it s.heap h'->(∃o,h'.get? e=aA o/\o.cls = .type "StopIteration")->E (.ref e) { s with heap:=h' }):aU (aY prog w) A (Oe<|.ref it) Q E s:=by
 obtain⟨o,e1,c1,d1⟩:=id u1;obtain⟨p2,e2,_,n2,d2⟩:=u2;unfold Oe;refine bB<|Rk (name:=vI "__next__") u1.typeIs Bo<|Rm Bo u1.typeIs IE ?_<|ID _;show aU _ _ (field (.ref it) 0>>=_) _ _ s;refine bB<|da e1 d1 rfl ?_;show aU _ _ (if(kX t==uv)=aB then _ else _) _ _ s;rw[if_neg (show¬((kX t==uv)=aB) from gS)];show aU _ _ (field (.ref it) 1>>=_) _ _ s;refine bB<|da e1 d1 rfl ?_;show aU _ _ (cq (.ref t)>>=_) _ _ s;refine bB<|ku e2 d2 ?_;simp only[oG,gx];refine bB<|Rr<|bB<|MK e1 d1 (by simp) ?_;show aU _ _ (newExc (.type "StopIteration") []>>=_) _ _ _;refine bB ?_;simp only[newExc];refine bB<|xX ?_ (by size_fits);refine bB (m:=LV _ _)<|wpAny_of_eq (by first|rfl|(simp only[LV];rfl)) ?_;refine xX ?_ (by size_fits);simp only[raiseNew];refine bB<|wpAny_handled ?_;(first|rw[show A.in1.handled=aD from hh] | rw[hh]);refine bB<|cU<|wpAny_throw ?_;exact hE _ _ (((IG ..).extBut.push _).push _) ⟨_,jG _ rfl,rfl⟩
end
theorem VU(hh:A.handled=aD)(it l:Addr)(hne:l≠it)(items:WV):Draws prog w A it [it,l] items.size (λi v=>items[i]?=aA v) (λi h=>h.IsTupleIter it l i/\h.IsTuple l items) where
 live:=λ_ _ u=>u.1.elim λo p=>⟨o,p.1⟩
 frame:=λ_ _ _ st c=>⟨st.1.at λo e=>c it (.head _) o e,let ⟨o,f,r⟩:=st.2;⟨o,c l (.tail _<|.head _) o f,r⟩⟩
 item:=λi s Q E d st g=>J5 st.1 st.2 (x:=items[i]) (by simp[d]) λj a b=>g _ j s.toks (by simp[d]) ⟨a,st.2.extBut b.extBut hne⟩ b
 done:=λs Q E st k=>BA hh st.1 st.2 (by simp) k
abbrev qa(l:Addr):Obj:={ cls:=.type "tuple_iterator",data:=.fields #[.ref l,.int 0 0] }
abbrev Fp(n:Addr):Obj:={ cls:=.type "enumerate",data:=.fields #[.none,.bool aG,.ref n,rawInt 0,.none,.none] }
theorem F0(l:Addr)(items:WV)(n:Nat)(aP:Wr)(sl:Wn) :
  Meets (Builtin.«enumerate.__new__» ⟨[.type "enumerate",.ref l],[]⟩) (λ_ R s=>s.heap.get? l=aA { cls:=.type "tuple",dict:=aP,data:=.seq items n,slots:=sl } /\
   R (.ok<|.ret<|.ref (s.heap.push<|qa l).objs.size)
    { s with heap:=(s.heap.push<|qa l).push (Fp s.heap.objs.size) }):=
 .of_wp λprog w A R s h=>by
  obtain⟨hp,g,d,tk,os⟩:=s;obtain⟨e1,h⟩:=h;have sb:=sub_enumerate;have v1:Heap.IsTuple (Shared.heap ⟨hp,g,d,tk,os⟩) l items:=⟨_,e1,rfl,n,rfl⟩;wp_walk using Bm e1
  refine wpAny_stack_any λst=>cU ?_;split
  .rename_i c _ _ _ _ _;cases(c==Qq "enumerate")
   .wp_walk using Bm e1,Dj v1
    exact⟨_,rfl,h⟩
   .wp_walk using Bm e1,Dj v1
    exact⟨_,rfl,h⟩
  .wp_walk using Bm e1,Dj v1
   exact⟨_,rfl,h⟩
theorem TL{E:Value->aK->Prop}{Q:Value->aK->Prop}(v1:s.heap.IsTuple l items)
  (h:∀h',IsEnum h' (s.heap.objs.size+1) s.heap.objs.size 0 .none->h'.IsTupleIter s.heap.objs.size l 0->h'.objs.size=s.heap.objs.size+2->(∀b o,s.heap.get? b=aA o->h'.get? b=aA o)->Q (.ref<|s.heap.objs.size+1) { s with heap:=h' }):aU (aY prog w) A (call (.type "enumerate") [.ref l]) Q E s:=by
 obtain⟨⟨c,aP,dt,sl⟩,e1,c1,n,d1⟩:=v1;cases(c1);cases(d1);refine callType_new F.called_enumerate (rfl) (F.typeCall_enumerate_1 _) (F.newCall_enumerate_1 _) (λobj=>F.args_object_init_2 obj _) F.entry_enumerate_new (F0 l items n aP sl) ⟨e1,?_⟩;have z1:(s.heap.push<|qa l).objs.size=s.heap.objs.size+1:=aw ..;rw[z1];have q1:IsEnum ((s.heap.push<|qa l).push
   (Fp s.heap.objs.size)) (s.heap.objs.size+1) s.heap.objs.size 0 .none:=by
  have:=jG (s.heap.push<|qa l)
   (o:=(Fp s.heap.objs.size)) rfl
  rw[z1]at this;exact this
 exact⟨⟨_,q1,rfl⟩,h _ q1 ⟨_,dO _ (jG _ rfl),rfl,rfl⟩ (by rw[aw,z1]) λb o x=>dO _ (dO _ x)⟩
inductive AV where
 |aH|bl (b:Bool)|int (i:Int)|str (x:Str)|tup (xs:List AV)|ref (n:Nat)|lE (kvs:WW)
 deriving Inhabited
abbrev _root_.Fu:=List AV
abbrev _root_.WR:=List (Str×AV)
abbrev _root_.Ws:=Option AV
variable {dv xs:Fu}{kvs:List (aN×AV)}{v x y:AV}
inductive bC where
 |lst (mu:Bool) (xs:Fu)
 |aP (kvs:List (aN×AV))
 |dD (kvs:List (aN×AV))
 |ins (c:Nat) (fs:WR)
variable {o:bC}
def bC.mu:bC->Bool
 |.lst m _=>m
 |_=>aB
structure AH where
 nx:Nat
 ob:Nat->Option bC
variable {R:AV->AH->Prop}{h:AH}
def AH.put(h:AH)(n:Nat)(o:bC):AH:=⟨h.nx,λm=>if m=n then aA o else h.ob m⟩
def AH.new(h:AH)(o:bC):AH:=⟨h.nx+1,λm=>if m=h.nx then aA o else h.ob m⟩
inductive Res(α:Type) where
 |ok (a:α) (h:AH)
 |bad
abbrev M(α:Type):=AH->Res α
variable {dp:Nat->Option (Fu->M AV)}{g':AV->AV->M AV}
def M.ret{α:Type}(a:α):M α:=λh=>.ok a h
def M.bad{α:Type}:M α:=λ_=>.bad
def M.bind{α β:Type}(m:M α)(k:α->M β):M β:=λh=>match m h with
 |.ok a h'=>k a h'
 |.bad=>.bad
def M.guard{α:Type}(p:Prop) [Decidable p] (m:M α):M α:=λh=>if p then m h else .bad
structure Tab where
 K:bH
 G:WW->Addr->Prop
 C:Nat->Wr
variable {T:Tab}
mutual
inductive aT(T:Tab)(Y:S1)(H:Hp):AV->V->Prop where
 |aH:aT T Y H .aH .aH
 |bl (b:Bool):aT T Y H (.bl b) (.bl b)
 |int (i:Int):aT T Y H (.int i) (.int i)
 |str (x:Str):aT T Y H (.str x) (.str x)
 |tup {a:Addr}{xs:Fu}{ys:Fx} (hq:eG T.K H a ys) (hr:bD T Y H xs ys):aT T Y H (.tup xs) (.ref a)
 |ref {n:Nat}{a:Addr} (e:Y[n]?=aA a):aT T Y H (.ref n) (.ref a)
 |lE {kvs:WW}{a:Addr} (e:T.G kvs a):aT T Y H (.lE kvs) (.ref a)
inductive bD(T:Tab)(Y:S1)(H:Hp):Fu->Fx->Prop where
 |nil:bD T Y H [] []
 |cons {x:AV}{y:V}{xs:Fu}{ys:Fx} (h:aT T Y H x y) (hs:bD T Y H xs ys):bD T Y H (x::xs) (y::ys)
end
structure Ext(Y:S1)(H:Hp)(Y':S1)(H':Hp):Prop where
 pre:∀(n:Nat) a,Y[n]?=aA a->Y'[n]?=aA a
 tup:∀b xs,H b=aA (.tup xs)->H' b=aA (.tup xs)
 cZ:∀b o u,H b=aA (.cZ o u)->H' b=aA (.cZ o u)
theorem Ext.refl:Ext Y H Y H:=⟨λ_ _ e=>e,λ_ _ e=>e,λ_ _ _ e=>e⟩
theorem Ext.trans{ρ1 ρ2:S1}{H1 H2:Hp}(a:Ext ρ H ρ1 H1)(b:Ext ρ1 H1 ρ2 H2):Ext ρ H ρ2 H2:=
 ⟨λn x e=>b.pre n x (a.pre n x e),λn x e=>b.tup n x (a.tup n x e),λn x u e=>b.cZ n x u (a.cZ n x u e)⟩
theorem Ext.Al{K:bH}(e:Ext Y H Y' H'){xs:Fx}(h:eG K H a xs):eG K H' a xs:=by
 rcases h with(h|⟨o,h⟩)|h
 .exact .inl<|.inl<|e.tup _ _ h
 .exact .inl<|.inr ⟨o,e.cZ _ _ _ h⟩
 .exact .inr h
mutual
theorem aT.ext{T:Tab}{Y Y':S1}{H H':Hp}(e:Ext Y H Y' H'):∀{x:AV}{y:V},aT T Y H x y->aT T Y' H' x y
 |_,_,.aH=>.aH
 |_,_,.bl b=>.bl b
 |_,_,.int i=>.int i
 |_,_,.str x=>.str x
 |_,_,.tup a hr=>.tup (e.Al a) (bD.ext e hr)
 |_,_,.ref q=>.ref (e.pre _ _ q)
 |_,_,.lE q=>.lE q
theorem bD.ext{T:Tab}{Y Y':S1}{H H':Hp}(e:Ext Y H Y' H'):∀{xs:Fu}{ys:Fx},bD T Y H xs ys->bD T Y' H' xs ys
 |_,_,.nil=>.nil
 |_,_,.cons h hs=>.cons (aT.ext e h) (bD.ext e hs)
end
theorem bD.length{T:Tab}{Y:S1}{H:Hp}:∀{xs:Fu}{ys:Fx},bD T Y H xs ys->xs.length=ys.length
 |_,_,.nil=>rfl|_,_,.cons _ hs=>congrArg (·+1) hs.length
theorem bD.get{T:Tab}{Y:S1}{H:Hp}:∀{xs:Fu}{ys:Fx}{i:Nat}{x:AV},bD T Y H xs ys->xs[i]?=aA x->∃y,ys[i]?=aA y/\aT T Y H x y
 |_,_,_,_,.nil,e=>by simp at e
 |_,_,0,_,.cons h _,e=>by simp at e;subst e;exact⟨_,rfl,h⟩
 |_,_,i+1,x,.cons _ hs,e=>by obtain⟨y,h1,a⟩:=bD.get hs (by simpa);exact⟨y,by simpa using h1,a⟩
theorem bD.append{T:Tab}{Y:S1}{H:Hp}:∀{xs zs:Fu}{ys ws:Fx},bD T Y H xs ys->bD T Y H zs ws->bD T Y H (xs++zs) (ys++ws)
 |_,_,_,_,.nil,s=>s
 |_,_,_,_,.cons h hs,s=>.cons h (bD.append hs s)
theorem bD.set{T:Tab}{Y:S1}{H:Hp}{x:AV}{y:V}(r:aT T Y H x y):∀{xs:Fu}{ys:Fx} (i:Nat),bD T Y H xs ys->bD T Y H (xs.set i x) (ys.set i y)
 |_,_,_,.nil=>.nil
 |_,_,0,.cons _ t=>.cons r t
 |_,_,i+1,.cons q t=>.cons q (bD.set r i t)
theorem bD.take{T:Tab}{Y:S1}{H:Hp}:∀{xs:Fu}{ys:Fx} (n:Nat),bD T Y H xs ys->bD T Y H (xs.take n) (ys.take n)
 |_,_,0,_=>.nil
 |_,_,_+1,.nil=>.nil
 |_,_,n+1,.cons r t=>.cons r (bD.take n t)
theorem bD.drop{T:Tab}{Y:S1}{H:Hp}:∀{xs:Fu}{ys:Fx} (n:Nat),bD T Y H xs ys->bD T Y H (xs.drop n) (ys.drop n)
 |_,_,0,r=>r
 |_,_,_+1,.nil=>.nil
 |_,_,n+1,.cons _ t=>bD.drop n t
theorem bD.ints{T:Tab}{Y:S1}{H:Hp}:∀(ns:WK),bD T Y H (ns.map AV.int) (ns.map V.int)
 |[]=>.nil
 |n::ns=>.cons (.int n) (bD.ints ns)
def pL(K:bH)(H:Hp)(a:Addr)(xs:Fx):Prop:=
 (∃o,H a=aA (.cZ o<|.lst xs)) \/
  ∃(o:Obj) (its:WV) (n:Nat),K.lookup a=aA o/\o.cls = .type "list"/\o.dict=aD/\o.data = .seq its n/\its.size<=sizeLine/\Vals xs its.toList
theorem pL.sq{K:bH}{xs:Fx}(h:pL K H a xs):dM K H a xs:=by
 rcases h with h|h
 .exact .inl<|.inr h
 .exact .inr h
theorem pL.ext{K:bH}{xs:Fx}(e:Ext Y H Y' H')(h:pL K H a xs):pL K H' a xs:=by
 rcases h with⟨o,h⟩|h
 .exact .inl ⟨o,e.cZ _ _ _ h⟩
 .exact .inr h
def nR(T:Tab)(Y:S1)(H:Hp)(a:Addr):bC->Prop
 |.lst aB xs=>∃ys,H a=aA (.lst ys)/\bD T Y H xs ys
 |.lst aG xs=>∃ys,pL T.K H a ys/\bD T Y H xs ys
 |.aP kvs=>∃ks ys,H a=aA (.dK<|ks.zip ys)/\ks=kvs.map (·.1)/\bD T Y H (kvs.map (·.2)) ys
 |.dD kvs=>∃o ks ys,H a=aA (.cZ o<|.dK<|ks.zip ys)/\ks=kvs.map (·.1)/\bD T Y H (kvs.map (·.2)) ys
 |.ins c fs=>∃C dx ks ys,T.C c=aA C/\H a=aA (.ins C dx<|ks.zip ys)/\ks=fs.map (·.1)/\bD T Y H (fs.map (·.2)) ys
theorem nR.ext{T:Tab}{Y Y':S1}{H H':Hp}{a:Addr}{o:bC}(r:nR T Y H a o)(e:Ext Y H Y' H')(k:o.mu=aB->H' a=H a):nR T Y' H' a o:=by
 cases o with
 |lst m xs=>
  cases m with
  |true=>obtain⟨b,h,r⟩:=r;exact⟨b,by rw[k rfl];exact h,r.ext e⟩|false=>obtain⟨b,h,r⟩:=r;exact⟨b,h.ext e,r.ext e⟩
 |aP g=>obtain⟨d,b,h,f,r⟩:=r;exact⟨d,b,by rw[k rfl];exact h,f,r.ext e⟩|dD g=>obtain⟨o,d,b,h,f,r⟩:=r;exact⟨o,d,b,by rw[k rfl];exact h,f,r.ext e⟩|ins c fs=>obtain⟨C,i,d,b,j,h,f,r⟩:=r;exact⟨C,i,d,b,j,by rw[k rfl];exact h,f,r.ext e⟩
structure bQ(T:Tab)(Y:S1)(h:AH)(H:Hp):Prop where
 len:Y.length=h.nx
 pV:∀(n:Nat) o,h.ob n=aA o->n<h.nx
 obj:∀(n:Nat) o a,h.ob n=aA o->Y[n]?=aA a->nR T Y H a o
 inj:∀(n m:Nat) a o u,h.ob n=aA o->h.ob m=aA u->o.mu=aB->u.mu=aB->Y[n]?=aA a->Y[m]?=aA a->n=m
theorem bQ.at(R:bQ T Y h H){n:Nat}{o:bC}(e:h.ob n=aA o):∃a,Y[n]?=aA a/\nR T Y H a o:=by have hn:=R.pV n o e;rw[<- R.len]at hn;exact⟨Y[n],by simp[hn],R.obj n o _ e (by simp[hn])⟩
theorem Iq(r:nR T Y H a o)(m:o.mu=aB):∃u,H a=aA u:=by
 cases o with
 |lst k xs=>
  cases k with
  |true=>obtain⟨b,h,_⟩:=r;exact⟨_,h⟩|false=>cases m
 |aP d=>obtain⟨e,b,h,_⟩:=r;exact⟨_,h⟩|dD d=>obtain⟨o,e,b,h,_⟩:=r;exact⟨_,h⟩|ins c fs=>obtain⟨C,f,e,b,_,h,_⟩:=r;exact⟨_,h⟩
theorem Ext.kP{o:HO}(hn:H a=aD):Ext Y H Y (bE H a o):=
 ⟨λ_ _ e=>e,λb xs e=>by rw[bX (jN e hn)];exact e,λb u xs e=>by rw[bX (jN e hn)];exact e⟩
theorem bQ.keep(R:bQ T Y h H){o:HO}(hn:H a=aD):bQ T Y h (bE H a o):=
 ⟨R.len,R.pV,λn u b e q=>(R.obj n u b e q).ext (.kP hn) λm=>by obtain⟨w,hw⟩:=Iq (R.obj n u b e q) m;rw[bX (jN hw hn)],R.inj⟩
theorem bQ.alloc(R:bQ T Y h H)(hn:H a=aD)(ho:nR T (Y++[a]) (bE H a O) a o):bQ T (Y++[a]) (h.new o) (bE H a O)/\Ext Y H (Y++[a]) (bE H a O):=by
 have ex:Ext Y H (Y++[a]) (bE H a O):=⟨λn x e=>by have hl:=(List.getElem?_eq_some_iff.mp e).1;rw[sY hl];exact e,(Ext.kP (Y:=Y) hn).tup,(Ext.kP (Y:=Y) hn).cZ⟩
 have old:∀{n:Nat}{b:Addr},n<h.nx->(Y++[a])[n]?=aA b->Y[n]?=aA b:=λ{n b} hl e=>by rw[sY (R.len▸hl)]at e;exact e
 have at_:∀{b:Addr},(Y++[a])[h.nx]?=aA b->b=a:=λ{b} e=>by rw[<- R.len]at e;simp at e;exact e.symm
 refine⟨⟨by simp[AH.new,R.len],λn u e=>?_,λn u b e q=>?_,λn m b u v f d l p i j=>?_⟩,ex⟩
 .simp only[AH.new]at e ⊢;by_cases c:n=h.nx
  .lia
  .rw[if_neg c]at e;have:=R.pV n u e;lia
 .simp only[AH.new]at e;by_cases c:n=h.nx
  .rw[if_pos c]at e;cases e;subst c;rw[at_ q];exact ho
  .rw[if_neg c]at e;have r:=old (R.pV n u e) q;refine(R.obj n u b e r).ext ex λm=>?_;obtain⟨w,hw⟩:=Iq (R.obj n u b e r) m;rw[bX (jN hw hn)]
 .simp only[AH.new]at f d;have no:∀{k:Nat}{y:bC},h.ob k=aA y->y.mu=aB->(Y++[a])[k]?=aA b->b≠a:=λ{k y} e m q=>by obtain⟨w,hw⟩:=Iq (R.obj k y b e<|old (R.pV k y e) q) m;exact jN hw hn
  by_cases c:n=h.nx
  .subst c;by_cases g:m=h.nx
   .exact g.symm
   .rw[if_neg g]at d;exact absurd (at_ i)<|no d p j
  .rw[if_neg c]at f;by_cases g:m=h.nx
   .subst g;exact absurd (at_ j)<|no f l i
   .rw[if_neg g]at d;exact R.inj n m b u v f d l p (old (R.pV n u f) i)<|old (R.pV m v d) j
theorem bQ.write(R:bQ T Y h H){o':bC}(e:h.ob n=aA o)(m:o.mu=aB)(m':o'.mu=aB)(q:Y[n]?=aA a)(hO:H a=aA O)(nt:∀xs,O ≠ .tup xs)(nf:∀x u,O ≠ .cZ x u)
  (ho:nR T Y (bE H a O') a o'):bQ T Y (h.put n o') (bE H a O')/\Ext Y H Y (bE H a O'):=by
 have ex:Ext Y H Y (bE H a O'):=⟨λ_ _ z=>z,λb xs z=>by
   rw[bX (rB z hO λw=>nt xs w.symm)];exact z,λb x u z=>by
   rw[bX (rB z hO λw=>nf x u w.symm)];exact z⟩
 refine⟨⟨R.len,λk u z=>?_,λk u b z w=>?_,λk l b u v d f i p r s=>?_⟩,ex⟩
 .simp only[AH.put]at z;by_cases c:k=n
  .subst c;exact R.pV _ _ e
  .rw[if_neg c]at z;exact R.pV k u z
 .simp only[AH.put]at z;by_cases c:k=n
  .rw[if_pos c]at z;cases z;subst c;rw[q]at w;cases w;exact ho
  .rw[if_neg c]at z;refine(R.obj k u b z w).ext ex λmu=>?_;rw[bX];rintro rfl
   exact c<|R.inj k n b u o z e mu m w q
 .simp only[AH.put]at d f;have back:∀{j:Nat}{y:bC},(if j=n then aA o' else h.ob j)=aA y->y.mu=aB->∃g,h.ob j=aA g/\g.mu=aB:=λ{j y} z mu=>by
   by_cases c:j=n
   .subst c;exact⟨o,e,m⟩
   .rw[if_neg c]at z;exact⟨y,z,mu⟩
  obtain⟨t,g1,k1⟩:=back d i;obtain⟨A,g2,k2⟩:=back f p;exact R.inj k l b t A g1 g2 k1 k2 r s
structure vN(Y:S1)(H H':Hp):Prop where
 Al:∀K b xs,eG K H b xs->eG K H' b xs
 xd:∀b o fs,H b=aA (.cZ o<|.xd fs)->H' b=aA (.cZ o<|.xd fs)
 j2:∀K b xs,pL K H b xs->pL K H' b xs
mutual
theorem aT.ext2{T:Tab}{Y:S1}{H H':Hp}(e:vN Y H H'):∀{x:AV}{y:V},aT T Y H x y->aT T Y H' x y
 |_,_,.aH=>.aH
 |_,_,.bl b=>.bl b
 |_,_,.int i=>.int i
 |_,_,.str x=>.str x
 |_,_,.tup a hr=>.tup (e.Al _ _ _ a) (bD.ext2 e hr)
 |_,_,.ref q=>.ref q
 |_,_,.lE q=>.lE q
theorem bD.ext2{T:Tab}{Y:S1}{H H':Hp}(e:vN Y H H'):∀{xs:Fu}{ys:Fx},bD T Y H xs ys->bD T Y H' xs ys
 |_,_,.nil=>.nil
 |_,_,.cons h hs=>.cons (aT.ext2 e h) (bD.ext2 e hs)
end
theorem nR.ext2{T:Tab}{Y:S1}{H H':Hp}{a:Addr}{o:bC}(r:nR T Y H a o)(e:vN Y H H')(k:o.mu=aB->H' a=H a):nR T Y H' a o:=by
 cases o with
 |lst m xs=>
  cases m with
  |true=>obtain⟨b,h,r⟩:=r;exact⟨b,by rw[k rfl];exact h,r.ext2 e⟩|false=>obtain⟨b,h,r⟩:=r;exact⟨b,e.j2 _ _ _ h,r.ext2 e⟩
 |aP g=>obtain⟨d,b,h,f,r⟩:=r;exact⟨d,b,by rw[k rfl];exact h,f,r.ext2 e⟩|dD g=>obtain⟨o,d,b,h,f,r⟩:=r;exact⟨o,d,b,by rw[k rfl];exact h,f,r.ext2 e⟩|ins c fs=>obtain⟨C,i,d,b,j,h,f,r⟩:=r;exact⟨C,i,d,b,j,by rw[k rfl];exact h,f,r.ext2 e⟩
theorem Wg{o:Obj}{kz:List (aN×V)}(hO:H a=aA (.cZ o<|.dK kz)):vN Y H (bE H a<|.dK kz):=by
 have ne:∀b u,H b=aA u->(∀x y,u ≠ .cZ x (.dK y))->b≠a:=λb u e n z=>by rw[z,hO]at e;cases e;exact n _ _ rfl
 refine⟨λK b xs h=>?_,λb x fs h=>by rw[bX (ne b _ h λ_ _ z=>by cases z)];exact h,λK b xs h=>?_⟩
 .rcases h with(h|⟨x,h⟩)|h
  .exact .inl<|.inl (by rw[bX (ne b _ h λ_ _ z=>by cases z)];exact h)
  .exact .inl<|.inr ⟨x,by rw[bX (ne b _ h λ_ _ z=>by cases z)];exact h⟩
  .exact .inr h
 .rcases h with⟨x,h⟩|h
  .exact .inl ⟨x,by rw[bX (ne b _ h λ_ _ z=>by cases z)];exact h⟩
  .exact .inr h
theorem bQ.Ms(R:bQ T Y h H)(e:h.ob n=aA (.dD kvs))(q:Y[n]?=aA a) :
  ∃o kz,H a=aA (.cZ o<|.dK kz)/\bQ T Y (h.put n<|.aP kvs) (bE H a<|.dK kz):=by
 obtain⟨o,m,p,d,r,s⟩:=R.obj n _ a e q;have ex:=Wg (Y:=Y) d;refine⟨o,_,d,⟨R.len,λk u z=>?_,λk u b z w=>?_,λk l b u v f g t x A B=>?_⟩⟩
 .simp only[AH.put]at z;by_cases c:k=n
  .subst c;exact R.pV _ _ e
  .rw[if_neg c]at z;exact R.pV k u z
 .simp only[AH.put]at z;by_cases c:k=n
  .rw[if_pos c]at z;cases z;subst c;rw[q]at w;cases w;exact⟨m,p,gI,r,s.ext2 ex⟩
  .rw[if_neg c]at z;refine(R.obj k u b z w).ext2 ex λmu=>?_;rw[bX];rintro rfl
   exact c<|R.inj k n b u _ z e mu rfl w q
 .simp only[AH.put]at f g;have back:∀{j:Nat}{y:bC},(if j=n then aA (.aP kvs) else h.ob j)=aA y->y.mu=aB->∃i,h.ob j=aA i/\i.mu=aB:=λ{j y} z mu=>by
   by_cases c:j=n
   .subst c;exact⟨_,e,rfl⟩
   .rw[if_neg c]at z;exact⟨y,z,mu⟩
  obtain⟨C,g1,k1⟩:=back f t;obtain⟨D,g2,k2⟩:=back g x;exact R.inj k l b C D g1 g2 k1 k2 A B
abbrev Rl(α β:Type):=S1->Hp->α->β->Prop
def W{α β:Type}(T:Tab)(Rp:Rl α β)(r:Res α)(Y:S1)(H:Hp)(Q:β->Hp->Prop)(E:XK):Prop:=match r with
 |.ok a h=>∀Y' b H',Ext Y H Y' H'->bQ T Y' h H'->Rp Y' H' a b->Q b H'
 |.bad=>False
section
variable {α β γ δ:Type}{Rp:Rl α β}{Rq:Rl γ δ}{Q:β->Hp->Prop}
theorem W.ext{r:Res α}(w:W T Rp r Y H Q E)(e:Ext Y H Y' H'):W T Rp r Y' H' Q E:=by
 cases r with
 |ok a h=>exact λc b d x R q=>w c b d (e.trans x) R q|bad=>exact w
theorem W.bind{m:M α}{k:α->M γ}{Q2:δ->Hp->Prop}(w:W T Rq (M.bind m k h) ρ H Q2 E)
  (f:∀ρ1 x y h1 H1,Ext ρ H ρ1 H1->bQ T ρ1 h1 H1->Rp ρ1 H1 x y->W T Rq (k x h1) ρ1 H1 Q2 E->Q y H1):W T Rp (m h) ρ H Q E:=by
 unfold M.bind at w;cases e:m h with
 |ok a h1=>rw[e]at w;exact λρ1 y H1 x R q=>f ρ1 a y h1 H1 x R q (w.ext x)
 |bad=>rw[e]at w;exact w
theorem W.ok{a:α}{b:β}(w:W T Rp (.ok a h) Y H Q E)(e:Ext Y H Y' H')(R:bQ T Y' h H')(q:Rp Y' H' a b):Q b H':=w Y' b H' e R q
theorem W.here{a:α}{b:β}(w:W T Rp (.ok a h) Y H Q E)(R:bQ T Y h H)(q:Rp Y H a b):Q b H:=w Y b H .refl R q
end
abbrev aF:=List (Option AV)
variable {B C N:aF->AH->Prop}{m m0 ma mb mc:aF->M AV}{mr:aF->M Fu}{Z:aF}
def cT(T:Tab)(Y:S1)(H:Hp)(Z:aF)(Z':L2.St):Prop:=Z.length=Z'.length/\∀(i:Nat) v,Z[i]?=aA (aA v)->∃v',Z'[i]?=aA (aA v')/\aT T Y H v v'
theorem cT.ext{T:Tab}{Y Y':S1}{H H':Hp}{Z:aF}{Z':L2.St}(S:cT T Y H Z Z')(e:Ext Y H Y' H'):cT T Y' H' Z Z':=
 ⟨S.1,λi v q=>let ⟨c,a,b⟩:=S.2 i v q;⟨c,a,b.ext e⟩⟩
theorem cT.set{T:Tab}{Y:S1}{H:Hp}{Z:aF}{Z':L2.St}(S:cT T Y H Z Z'){v:AV}{v':V}(r:aT T Y H v v')(i:Nat):cT T Y H (Z.set i<|aA v) (Z'.set i<|aA v'):=by
 refine⟨by simp[S.1],λj u q=>?_⟩;by_cases c:i=j
 .subst c;by_cases hl:i<Z.length
  .rw[kE hl]at q;cases q;exact⟨v',kE (S.1▸hl),r⟩
  .rw[JI (by simpa using hl)]at q;cases q
 .rw[jQ c]at q;obtain⟨w,a,b⟩:=S.2 j u q;exact⟨w,by rw[jQ c];exact a,b⟩
def QE(X:Cx)(T:Tab)(E:XK)(e:aI)(m:aF->M AV):Prop:=
 ∃t,PE X e t/\∀Y Z Z' h H Q,bQ T Y h H->cT T Y H Z Z'->W T (aT T) (m Z h) Y H Q E->t Z' H Q
def QA(X:Cx)(T:Tab)(E:XK)(es:List aI)(m:aF->M Fu):Prop:=
 ∃t,PA X es t/\∀Y Z Z' h H Q,bQ T Y h H->cT T Y H Z Z'->W T (bD T) (m Z h) Y H Q E->t Z' H Q
abbrev RB:Rl Bool Bool:=λ_ _ a b=>a=b
def QT(X:Cx)(T:Tab)(E:XK)(e:aI)(m:aF->M Bool):Prop:=
 ∃t,PT X e t/\∀Y Z Z' h H Q,bQ T Y h H->cT T Y H Z Z'->W T RB (m Z h) Y H Q E->t Z' H Q
def QW(X:Cx)(T:Tab)(E:XK)(e:aI)(m:aF->M Bool):Prop:=
 ∃t,PW X e t/\∀Y Z Z' h H Q,bQ T Y h H->cT T Y H Z Z'->W T RB (m Z h) Y H Q E->t Z' H Q
theorem QW.qt{m:aF->M Bool}(h:QW X T E e m):QT X T E e m:=let ⟨t,a,b⟩:=h;⟨t,a.pt,b⟩
def dW(X:Cx)(T:Tab)(E:XK)(f:Value->Value->Sem Value)(g:AV->AV->M AV):Prop:=
 ∃r,cV X f r/\∀Y h H x y x' y' Q,bQ T Y h H->aT T Y H x x'->aT T Y H y y'->W T (aT T) (g x y h) Y H Q E->r x' y' H Q
def Sn(X:Cx)(T:Tab)(E:XK)(f:Value->Sem Value)(g:AV->M AV):Prop:=
 ∃r,vt X f r/\∀Y h H x x' Q,bQ T Y h H->aT T Y H x x'->W T (aT T) (g x h) Y H Q E->r x' H Q
def vk(X:Cx)(T:Tab)(E:XK)(g:AV->AV->M AV):Prop:=
 ∃r,pM X r/\∀Y h H x y x' y' Q,bQ T Y h H->aT T Y H x x'->aT T Y H y y'->W T (aT T) (g x y h) Y H Q E->r x' y' H Q
def oO(X:Cx)(T:Tab)(E:XK)(f:Value)(g:Fu->M AV):Prop:=
 ∃r,jL X f r/\∀Y h H xs gZ Q,bQ T Y h H->bD T Y H xs gZ->W T (aT T) (g xs h) Y H Q E->r gZ H Q
def qZ(i j:Int):Bool:=decide (i.natAbs<2 ^ 64)||decide (j.natAbs<2 ^ 64)||(decide (i.natAbs<2 ^ 1000)&&decide (j.natAbs<2 ^ 1000))
def pU(j:Int):Bool:=decide (0<j)&&decide (j<2 ^ 1000)
def wU(i j:Int):Bool:=decide (0<=j)&&decide (j<=1000000)&&decide (i.natAbs<2 ^ 64)
def zO(h:AH)(n:Nat):Option (List AV):=match h.ob n with
 |some (.lst aB xs)=>aA xs
 |_=>aD
theorem AR(e:zO h n=aA xs):h.ob n=aA (.lst aB xs):=by
 unfold zO at e;split at e
 .rename_i q;cases e;exact q
 .cases e
def oj(n m:Nat):M AV:=λh=>match zO h n with
 |some xs=>(match zO h m with
  |some ys=>if xs.length+ys.length<=sizeLine then .ok (.ref h.nx) (h.new<|.lst aB<|xs++ys) else .bad
  |none=>.bad)
 |none=>.bad
def Xt:AV->AV->M AV
 |.int i,.int j=>M.ret (.int<|i+j)
 |.str i,.str j=>M.guard (i.length+j.length<=sizeLine) (M.ret<|.str<|i++j)
 |.tup xs,.tup ys=>M.guard (xs.length+ys.length<=sizeLine) (M.ret<|.tup<|xs++ys)
 |.ref n,.ref m=>oj n m
 |_,_=>M.bad
def mI(p:Int->Int->Bool)(f:Int->Int->Int):AV->AV->M AV
 |.int i,.int j=>λh=>if p i j=aB then .ok (.int<|f i j) h else .bad
 |_,_=>M.bad
def yb:AV->AV->M AV:=mI (λ_ _=>aB) HSub.hSub
def ou(x y:AV):M AV:=match x with
 |.ref n=>match y with
  |.int k=>λh=>match h.ob n with
   |some (.lst aB xs)=>if 0<=k/\xs.length*k.toNat<=sizeLine/\k<2 ^ 63 then .ok (.ref h.nx) (h.new<|.lst aB (eO k.toNat xs).flatten) else .bad
   |_=>.bad
  |_=>M.bad
 |_=>mI qZ HMul.hMul x y
def Xv:AV->AV->M AV:=mI (λ_ j=>pU j) HDiv.hDiv
def Yd:AV->AV->M AV:=mI (λ_ j=>decide (0<j)) HMod.hMod
def Yg:AV->AV->M AV:=mI wU λi j=>i ^ j.toNat
def Yh:AV->AV->M AV:=mI wU λi j=>i*2 ^ j.toNat
def Yi:AV->AV->M AV:=mI (λ_ j=>decide (0<=j)) λi j=>i / 2 ^ j.toNat
def Xu:AV->AV->M AV:=mI (λ_ _=>aB) rH
def Yf:AV->AV->M AV:=mI (λ_ _=>aB) js
def Yj:AV->AV->M AV:=mI (λ_ _=>aB) jt
def oo(f:Int->Int->Bool):AV->AV->M AV
 |.int i,.int j=>M.ret (.bl<|f i j)
 |_,_=>M.bad
def Ya:AV->AV->M AV:=oo λi j=>decide (i<j)
def Xz:AV->AV->M AV:=oo λi j=>decide (i<=j)
def Xx:AV->AV->M AV:=oo λi j=>decide (j<i)
def Xw:AV->AV->M AV:=oo λi j=>decide (j<=i)
def tP:AV->AV->Option Bool
 |.aH,.aH=>aA aB | .aH,.int _=>aA aG | .int _,.aH=>aA aG | .aH,.bl _=>aA aG | .bl _,.aH=>aA aG | .aH,.str _=>aA aG | .str _,.aH=>aA aG
 |.int i,.int j=>aA (decide<|i=j) | .bl i,.bl j=>aA (decide<|i=j) | .str i,.str j=>aA (decide<|i=j)
 |.int _,.str _=>aA aG | .str _,.int _=>aA aG | .bl _,.str _=>aA aG | .str _,.bl _=>aA aG
 |_,_=>aD
def jB:AV->Bool
 |.aH=>aB | .bl _=>aB | .int _=>aB | .str _=>aB
 |_=>aG
def Fs:AV->AV->Bool
 |.aH,.aH=>aB
 |.bl a,.bl b=>a==b
 |.bl a,.int b=>(if a then 1 else 0)==b
 |.int a,.bl b=>a==(if b then 1 else 0)
 |.int a,.int b=>a==b
 |.str a,.str b=>a==b
 |_,_=>aG
def sv(h:AH):AV->Option (Bool×Fu)
 |.tup xs=>aA (aG,xs)
 |.ref n=>match h.ob n with
  |some (.lst _ xs)=>aA (aB,xs)
  |_=>aD
 |_=>aD
def rZ(h:AH)(x y:AV):Option Bool:=match sv h x,sv h y with
 |some (aB,xs),aA (aB,[])=>aA xs.isEmpty
 |_,_=>aD
def yZ(x y:AV):M AV:=λh=>match tP x y with
 |some b=>.ok (.bl b) h
 |none=>match rZ h x y with
  |some b=>.ok (.bl b) h
  |none=>.bad
def zC(x y:AV):M AV:=λh=>match tP x y with
 |some b=>.ok (.bl<|!b) h
 |none=>match rZ h x y with
  |some b=>.ok (.bl<|!b) h
  |none=>.bad
def lF:AV->Bool
 |.aH=>aB
 |_=>aG
def Gk(x y:AV):M AV:=if lF y=aB then M.ret (.bl<|lF x) else M.bad
def Gm(x y:AV):M AV:=if lF y=aB then M.ret (.bl<|!lF x) else M.bad
def gU(x:AV)(xs:Fu):Bool:=xs.any λy=>Fs y x
def dS(h:AH):AV->Option (List AV)
 |.tup xs=>aA xs
 |.ref n=>match h.ob n with
  |some (.lst _ xs)=>aA xs
  |_=>aD
 |_=>aD
def fN:AV->Option aN
 |.int i=>aA (.inl i)
 |.str s=>aA (.inr s)
 |_=>aD
def fK(h:AH):AV->Option (List<|aN×AV)
 |.ref n=>match h.ob n with
  |some (.aP kvs)=>aA kvs
  |_=>aD
 |_=>aD
def bR(kvs:List (aN×AV))(k:aN):Ws:=(kvs.find? λkv=>decide (kv.1=k)).map (·.2)
def jC(kvs:List (aN×AV))(k:aN)(v:AV):List (aN×AV):=
 if(kvs.any λkv=>decide (kv.1=k))=aB then kvs.map (λkv=>if kv.1=k then(kv.1,v) else kv) else kvs++[(k,v)]
def tO(kvs:List (aN×AV))(k:aN):List (aN×AV):=kvs.filter λkv=>decide (kv.1≠k)
def tV(neg:Bool)(x y:AV):M AV:=λh=>match dS h y with
 |some xs=>if(jB x&&xs.all jB)=aB then .ok (.bl<|if neg then !gU x xs else gU x xs) h else
  .bad
 |none=>.bad
def oT(neg:Bool)(x y:AV):M AV:=λh=>match fK h y with
 |some kvs=>match fN x with
  |some k=>.ok (.bl<|if neg then !(bR kvs k).isSome else(bR kvs k).isSome) h
  |none=>.bad
 |none=>tV neg x y h
def ox:AV->M AV
 |.int i=>M.ret (.int<|-i)
 |_=>M.bad
def fv(x y:AV):M AV:=λh=>match y with
 |.int i=>match x with
  |.str z=>if z.length<=sizeLine then match cJ z.cps.toList i with
   |some c=>.ok (.str ⟨#[c]⟩) h
   |none=>.bad
   else .bad
  |x=>match (dS h x).bind λxs=>cJ xs i with
   |some v=>.ok v h
   |none=>.bad
 |_=>.bad
def yP(h:AH):AV->Option (List<|aN×AV)
 |.ref n=>match h.ob n with
  |some (.dD kvs)=>aA kvs
  |_=>aD
 |_=>aD
def xx(x y:AV):M AV:=λh=>match yP h x with
 |some kvs=>match (fN y).bind (bR kvs) with
  |some v=>.ok v h
  |none=>.bad
 |none=>fv x y h
def tW(x y:AV):M AV:=λh=>match fK h x with
 |some kvs=>match (fN y).bind (bR kvs) with
  |some v=>.ok v h
  |none=>.bad
 |none=>xx x y h
def jb(h:AH):AV->Option Bool
 |.aH=>aA aG
 |.bl b=>aA b
 |.int i=>aA (i != 0)
 |.str y=>if y.length<=sizeLine then aA ((y.length:Int) != 0) else aD
 |.tup xs=>aA (!xs.isEmpty)
 |.ref n=>match h.ob n with
  |some (.lst _ xs)=>aA (!xs.isEmpty)
  |some (.aP kvs)=>aA (!kvs.isEmpty)
  |_=>aD
 |_=>aD
def dB(x:AV):M Bool:=λh=>match jb h x with
 |some b=>.ok b h
 |none=>.bad
section
variable (hK:X.K=T.K)
theorem zG{α β:Type}{Rp:Rl α β}{p:Prop}[Decidable p]{m:M α}{Q:β->Hp->Prop}(w:W T Rp (M.guard p m h) Y H Q E):p/\W T Rp (m h) Y H Q E:=by
 unfold M.guard at w;by_cases a:p
 .rw[if_pos a]at w;exact⟨a,w⟩
 .rw[if_neg a]at w;exact w.elim
theorem sL{f:Value->Value->Sem Value}{C:Int->Int->Prop}{p:Int->Int->Bool}{g:Int->Int->Int}(ho:cV X f (rI C λi j=>.int (g i j)))(hc:∀i j,p i j=aB->C i j):dW X T E f (mI p g):=by
 refine⟨_,ho,λd h H x y e k Q R b c w=>?_⟩;cases x with
 |int i=>
  cases y with
  |int j=>
   cases b;cases c;simp only[mI]at w;by_cases a:p i j=aB
   .rw[if_pos a]at w;exact⟨i,j,rfl,rfl,hc i j a,w.here R (.int _)⟩
   .rw[if_neg a]at w;cases w
  |_=>exact w.elim
 |_=>exact w.elim
theorem zh{f:Value->Value->Sem Value}{g:Int->Int->Bool}(ho:cV X f (oC λi j=>.bl (g i j))):dW X T E f (oo g):=by
 refine⟨_,ho,λc h H x y d e Q R a b w=>?_⟩;cases x with
 |int i=>
  cases y with
  |int j=>cases a;cases b;exact⟨i,j,rfl,rfl,W.here w R (.bl _)⟩
  |_=>exact w.elim
 |_=>exact w.elim
theorem zz{f:Value->Value->Sem Value}{g:Int->Int->V}(h:cV X f (oC g)):cV X f (rI (λ_ _=>True) g):=
 λpins s Z H x y v u Q I c d ⟨i,j,a,b,_,q⟩=>h pins s Z H x y v u Q I c d ⟨i,j,a,b,q⟩
theorem T4:dW X T E (eY .Sub) yb:=sL (zz P7) λ_ _ _=>trivial
theorem Q0:dW X T E (eY .BitAnd) Xu:=sL (zz M8) λ_ _ _=>trivial
theorem S6:dW X T E (eY .BitOr) Yf:=sL (zz P0) λ_ _ _=>trivial
theorem T8:dW X T E (eY .BitXor) Yj:=sL (zz P8) λ_ _ _=>trivial
theorem R8:dW X T E (eY .Mod) Yd:=sL O3 λ_ _ h=>of_decide_eq_true h
theorem CG(h:wU i j=aB):Dl i j:=by simp only[wU,bT,decide_eq_true_eq]at h;exact⟨h.1.1,h.1.2,h.2⟩
theorem S7:dW X T E (eY .Pow) Yg:=sL P2 λ_ _ h=>CG h
theorem S8:dW X T E (eY .LShift) Yh:=sL P5 λ_ _ h=>CG h
theorem S9:dW X T E (eY .RShift) Yi:=sL P6 λ_ _ h=>of_decide_eq_true h
theorem I9(h:qZ i j=aB):IntMulOk i j:=by
 simp only[qZ,jr,bT,decide_eq_true_eq]at h;rcases h with(h|h)|⟨h1,a⟩
 .exact .of_left<|Dd h
 .exact .of_right<|Dd h
 .exact .of_bits (dR (Dd h1) (by decide))<|dR (Dd a) (by decide)
theorem O4:cV X (eY .Mult) (rI IntMulOk λi j=>.int (i*j)):=gq λ_ _ _ _ _ _ _ hc q=>mul_int q hc
theorem log2_lt{j:Int}(h:j<2 ^ 1000)(h0:0<j):j.natAbs.log2<9000:=by
 have hn:j.natAbs<2 ^ 1000:=by omega
 have:j.natAbs.log2<1000:=(Nat.log2_lt (by lia)).mpr hn;lia
theorem N5:cV X (eY .FloorDiv) (rI (λ_ j=>0<j/\j<2 ^ 1000) λi j=>.int (i / j)):=gq λi j _ _ _ _ _ hc q=>by have h1:(0:Int)<j:=hc.1;exact floordiv_int (by omega) (by rw[Ol i (by omega)];exact q)<|.inl<|KS<|log2_lt hc.2 hc.1
theorem Vs(h:pU j=aB):0<j/\j<2 ^ 1000:=by simp only[pU,bT,decide_eq_true_eq]at h;exact h
theorem Q4:dW X T E (eY .FloorDiv) Xv:=sL N5 λ_ _ h=>Vs h
theorem R7:dW X T E (dG .Lt) Ya:=zh O2
theorem R6:dW X T E (dG .LtE) Xz:=zh O1
theorem Q6:dW X T E (dG .Gt) Xx:=zh N7
theorem Q5:dW X T E (dG .GtE) Xw:=zh N6
theorem Wb(rx:aT T Y H x x')(ry:aT T Y H y y')(e:tP x y=aA b):Lw x' y'=aB/\decide (x'=y')=b:=by
 cases rx<;>cases ry<;>first
  | (cases e;done)
  |exact⟨rfl,(decide_eq_false nofun).trans (dJ e)⟩
  | (obtain rfl:=dJ e;exact⟨rfl,by simp⟩)
theorem Gb(r:aT T Y H x x')(f:jB x=aB):sC x'=aB:=by cases r<;>first|rfl|cases f
theorem Ge{Y:S1}{H:Hp}:∀{xs:Fu}{ys:Fx},bD T Y H xs ys->xs.all jB=aB->ys.all sC=aB
 |_,_,.nil,_=>rfl|_,_,.cons h hs,f=>by rw[jI,bT]at f ⊢;exact⟨Gb h f.1,Ge hs f.2⟩
theorem WI(rx:aT T Y H x x')(ry:aT T Y H y y')(fx:jB x=aB)(fy:jB y=aB):tQ x' y'=Fs x y:=by
 cases rx<;>first|cases fx;done|skip
 all_goals (cases ry<;>first|rfl|cases fy)
theorem FJ(hK:X.K=T.K){k:Bool}(R:bQ T Y h H)(r:aT T Y H x x')(e:sv h x=aA (k,xs)):∃a ys,x' = .ref a/\bD T Y H xs ys/\(k=aB->dM X.K H a ys)/\(k=aG->eG X.K H a ys):=by
 cases r with
 |tup c hr=>cases e;exact⟨_,_,rfl,hr,(nofun),λ_=>hK▸c⟩
 |@ref n a q=>
  simp only[sv]at e;cases o:h.ob n with
  |none=>rw[o]at e;cases e|some u=>
   rw[o]at e;cases u with
   |lst m ys=>
    cases e;cases m with
    |true=>obtain⟨zs,h1,b⟩:=R.obj n _ a o q;exact⟨_,_,rfl,b,λ_=>.inl (.inl h1),nofun⟩|false=>obtain⟨zs,h1,b⟩:=R.obj n _ a o q;exact⟨_,_,rfl,b,λ_=>hK▸h1.sq,nofun⟩
   |_=>cases e
 |_=>cases e
theorem Wc(hK:X.K=T.K)(R:bQ T Y h H)(rx:aT T Y H x x')(ry:aT T Y H y y')(e:rZ h x y=aA b):∃a c,x' = .ref a/\y' = .ref c/\xZ X.K H 12 x' y' b:=by
 unfold rZ at e;split at e
 .rename_i xs h1 d;cases e;obtain⟨a,us,rfl,f,g,_⟩:=FJ hK R rx h1;obtain⟨c,k,rfl,i,j,_⟩:=FJ hK R ry d;cases i;exact⟨a,c,rfl,rfl,a,c,us,rfl,rfl,g rfl,j rfl,by cases f<;>rfl⟩
 .cases e
theorem Q3(hK:X.K=T.K)(hu:X.A.units+12<cLine):dW X T E (dG .Eq) yZ:=by
 refine⟨_,N4 hu,λl h H x y m n Q R f g w=>?_⟩;unfold yZ at w;cases e:tP x y with
 |none=>
  simp only[e]at w;cases d:rZ h x y with
  |none=>simp only[d]at w;exact w.elim|some b=>simp only[d]at w;obtain⟨a,c,i,j,q⟩:=Wc hK R f g d;exact .inr ⟨b,a,c,i,j,q,W.here w R (.bl _)⟩
 |some b=>simp only[e]at w;obtain⟨h1,k⟩:=Wb f g e;exact .inl ⟨h1,by rw[k];exact W.here w R<|.bl _⟩
theorem S0(hK:X.K=T.K)(hu:X.A.units+12<cLine):dW X T E (dG .NotEq) zC:=by
 refine⟨_,O6 hu,λl h H x y m n Q R f g w=>?_⟩;unfold zC at w;cases e:tP x y with
 |none=>
  simp only[e]at w;cases d:rZ h x y with
  |none=>simp only[d]at w;exact w.elim|some b=>simp only[d]at w;obtain⟨a,c,i,j,q⟩:=Wc hK R f g d;exact .inr ⟨b,a,c,i,j,q,W.here w R (.bl _)⟩
 |some b=>simp only[e]at w;obtain⟨h1,k⟩:=Wb f g e;exact .inl ⟨h1,by rw[k];exact W.here w R<|.bl _⟩
theorem yn(r:aT T Y H x x'):decide (x' = .aH)=lF x:=by cases r<;>simp[lF]
theorem Q9:dW X T E (dG .Is) Gk:=by
 refine⟨_,O0,λc h H x y d f Q R a b w=>?_⟩;unfold Gk at w;by_cases e:lF y=aB
 .rw[if_pos e]at w;rw[<- yn b]at e;exact⟨of_decide_eq_true e,by rw[yn a];exact W.here w R<|.bl _⟩
 .rw[if_neg e]at w;exact w.elim
theorem R4:dW X T E (dG .IsNot) Gm:=by
 refine⟨_,O9,λc h H x y d f Q R a b w=>?_⟩;unfold Gm at w;by_cases e:lF y=aB
 .rw[if_pos e]at w;rw[<- yn b]at e;exact⟨of_decide_eq_true e,by rw[yn a];exact W.here w R<|.bl _⟩
 .rw[if_neg e]at w;exact w.elim
theorem aMk:Sn X T E (Dh .USub) ox:=by
 refine⟨_,aMg,λb h H x c Q R a w=>?_⟩;cases x with
 |int i=>cases a;exact⟨i,rfl,W.here w R (.int _)⟩|_=>exact w.elim
theorem Hi{Y:S1}{H:Hp}{x:AV}{x':V}(rx:aT T Y H x x')(fx:jB x=aB):∀{xs:Fu}{ys:Fx},bD T Y H xs ys->xs.all jB=aB->yi x' ys=gU x xs
 |_,_,.nil,_=>rfl|_,_,.cons h hs,f=>by rw[jI,bT]at f;have:=Hi rx fx hs f.2;unfold yi gU at this ⊢;rw[rK,rK,this,WI h rx f.1 fx]
theorem uF{m:Bool}(R:bQ T Y h H)(e:h.ob n=aA (.lst m xs))(q:Y[n]?=aA a):∃ys,dM T.K H a ys/\bD T Y H xs ys:=by
 have r:=R.obj n _ a e q;cases m with
 |true=>obtain⟨ys,h1,b⟩:=r;exact⟨ys,.of h1,b⟩|false=>obtain⟨ys,h1,b⟩:=r;exact⟨ys,h1.sq,b⟩
theorem iw(R:bQ T Y h H)(r:aT T Y H x x')(e:dS h x=aA xs):∃p ys,x' = .ref p/\(dM T.K H p ys\/eG T.K H p ys)/\bD T Y H xs ys:=by
 cases r with
 |tup b hr=>cases e;exact⟨_,_,rfl,.inr b,hr⟩|@ref n a q=>
  simp only[dS]at e;cases o:h.ob n with
  |none=>rw[o]at e;cases e|some u=>
   rw[o]at e;cases u with
   |lst m ys=>cases e;obtain⟨zs,h1,d⟩:=uF R o q;exact⟨_,zs,rfl,.inl h1,d⟩
   |aP f=>cases e|dD _=>cases e|ins c fs=>cases e
 |_=>cases e
inductive gE(T:Tab)(Y:S1)(H:Hp):List (aN×AV)->List (aN×V)->Prop where
 |nil:gE T Y H [] []
 |cons {k:aN}{v:AV}{y:V}{xs:List (aN×AV)}{ys:List (aN×V)} (h:aT T Y H v y) (t:gE T Y H xs ys):gE T Y H ((k,v)::xs) ((k,y)::ys)
theorem iq{Y:S1}{H:Hp}:∀{kvs:List (aN×AV)}{ys:Fx},bD T Y H (kvs.map (·.2)) ys->gE T Y H kvs ((kvs.map (·.1)).zip ys)
 |[],_,.nil=>.nil
 | (k,v)::kvs,_,.cons h t=>.cons h (iq t)
theorem Lo(r:gE T Y H kvs us):∃ys,us=(kvs.map (·.1)).zip ys/\bD T Y H (kvs.map (·.2)) ys:=by
 induction r with
 |nil=>exact⟨[],rfl,.nil⟩|cons h t a=>obtain⟨ys,e,r⟩:=a;exact⟨_::ys,by rw[e];rfl,.cons h r⟩
theorem EM(r:gE T Y H kvs us):kvs.length=us.length:=by
 induction r with
 |nil=>rfl|cons h t a=>rw[eK,eK,a]
theorem aa{k:aN}(r:gE T Y H kvs us):(∀v,bR kvs k=aA v->∃y,fQ us k=aA y/\aT T Y H v y)/\(bR kvs k=aD->fQ us k=aD):=by
 induction r with
 |nil=>exact⟨(λv h=>by cases h),λ_=>rfl⟩|@cons b v y xs c h t d=>
  by_cases e:b=k
  .subst e;refine⟨λi a=>?_,λa=>?_⟩
   .simp[bR]at a;subst a;exact⟨y,by simp[fQ],h⟩
   .simp[bR]at a
  .have f:bR ((b,v)::xs) k=bR xs k:=by simp[bR,e]
   have g:fQ ((b,y)::c) k=fQ c k:=by simp[fQ,e]
   rw[f,g];exact d
theorem EN{k:aN}(r:gE T Y H kvs us):(fQ us k).isSome=(bR kvs k).isSome:=by
 obtain⟨h1,a⟩:=aa r;cases e:bR kvs k with
 |none=>rw[a e];rfl|some v=>obtain⟨y,b,_⟩:=h1 v e;rw[b];rfl
theorem aHk{k:aN}(r:gE T Y H kvs us):(kvs.any λkv=>decide (kv.1=k))=us.any λkv=>decide (kv.1=k):=by
 induction r with
 |nil=>rfl|cons h t a=>rw[rK,rK,a]
theorem aHl{k:aN}{y:V}(r:gE T Y H kvs us)(h:aT T Y H v y):gE T Y H (kvs++[(k,v)]) (us++[(k,y)]):=by
 induction r with
 |nil=>exact .cons h .nil|cons a t b=>exact .cons a b
theorem aHn{k:aN}{y:V}(r:gE T Y H kvs us)(h:aT T Y H v y):gE T Y H (kvs.map λkv=>if kv.1=k then(kv.1,v) else kv) (us.map λkv=>if kv.1=k then(kv.1,y) else kv):=by
 induction r with
 |nil=>exact .nil|@cons b d f xs g c t a=>
  by_cases e:b=k
  .simp only[hA,e];exact .cons h a
  .simp only[hA,e];exact .cons c a
theorem Lp{k:aN}{y:V}(r:gE T Y H kvs us)(h:aT T Y H v y):gE T Y H (jC kvs k v) (putK us k y):=by
 unfold jC putK;rw[aHk r];split
 .exact aHn r h
 .exact aHl r h
theorem aHm{k:aN}(r:gE T Y H kvs us):gE T Y H (tO kvs k) (rY us k):=by
 induction r with
 |nil=>exact .nil|@cons b d f xs g c t a=>
  unfold tO rY;by_cases e:b=k
  .simp only[gC,e,ne_eq];exact a
  .simp only[gC,e,ne_eq];exact .cons c a
theorem gE.ext{Y Y':S1}{H H':Hp}{kvs:List (aN×AV)}{us:List (aN×V)}(r:gE T Y H kvs us)(e:Ext Y H Y' H'):gE T Y' H' kvs us:=by
 induction r with
 |nil=>exact .nil|cons h t a=>exact .cons (h.ext e) a
theorem wD(R:bQ T Y h H)(r:aT T Y H x x')(e:fK h x=aA kvs):∃n a us,x = .ref n/\Y[n]?=aA a/\h.ob n=aA (.aP kvs)/\x' = .ref a/\H a=aA (.dK us)/\gE T Y H kvs us:=by
 cases r with
 |@ref n a q=>
  simp only[fK]at e;cases o:h.ob n with
  |none=>rw[o]at e;cases e|some u=>
   rw[o]at e;cases u with
   |aP b=>cases e;obtain⟨d,f,h1,rfl,c⟩:=R.obj n _ a o q;exact⟨n,a,_,rfl,q,o,rfl,h1,iq c⟩
   |_=>cases e
 |_=>cases e
theorem VH(R:bQ T Y h H)(r:aT T Y H x x')(e:yP h x=aA kvs):∃a us,x' = .ref a/\Rd H a (.dK us)/\gE T Y H kvs us:=by
 cases r with
 |@ref n a q=>
  simp only[yP]at e;cases o:h.ob n with
  |none=>rw[o]at e;cases e|some u=>
   rw[o]at e;cases u with
   |dD b=>cases e;obtain⟨ob,d,f,h1,rfl,c⟩:=R.obj n _ a o q;exact⟨a,_,rfl,.inr ⟨ob,h1⟩,iq c⟩
   |_=>cases e
 |_=>cases e
theorem wz(e:H a=aA (.dK us))(r:gE T Y H kvs us):nR T Y H a (.aP kvs):=by obtain⟨b,c,d⟩:=Lo r;subst c;exact⟨_,b,e,rfl,d⟩
theorem sH{k:aN}(r:aT T Y H x x')(e:fN x=aA k):x'=kV k:=by cases r<;>simp[fN]at e<;>(subst e)<;>rfl
include hK in
theorem Q8
   :dW X T E (dG .In) (tV aG):=by
  refine⟨_,N9,λY h H x y x' y' Q R a c w=>?_⟩;unfold tV at w;cases e:dS h y with
  |none=>rw[e]at w;cases w
  |some xs=>
    rw[e]at w;by_cases f:(jB x&&xs.all jB)=aB
    · simp only[if_pos f]at w
      rw[bT]at f;obtain⟨p,d,g,h1,b⟩:=iw R c e;refine⟨p,d,g,hK▸h1,Gb a f.1,Ge b f.2,?_⟩;rw[Hi a f.1 b f.2];exact w.here R<|.bl _
    · simp only[if_neg f]at w
      exact w.elim
include hK in
theorem S5:dW X T E (dG .NotIn) (tV aB):=by
 refine⟨_,O8,λY h H x y x' y' Q R a c w=>?_⟩;unfold tV at w;cases e:dS h y with
 |none=>rw[e]at w;cases w
 |some xs=>
  rw[e]at w;by_cases f:(jB x&&xs.all jB)=aB
  .simp only[if_pos f]at w;rw[bT]at f;obtain⟨p,d,g,h1,b⟩:=iw R c e;refine⟨p,d,g,hK▸h1,Gb a f.1,Ge b f.2,?_⟩;rw[Hi a f.1 b f.2];exact w.here R<|.bl _
  .simp only[if_neg f]at w;exact w.elim
theorem MX(r:bD T Y H xs ys)(e:cJ xs i=aA v):∃v',cJ ys i=aA v'/\aT T Y H v v':=by
 unfold cJ at e ⊢;rw[<- r.length];cases q:jM xs.length i with
 |none=>rw[q]at e;cases e|some j=>rw[q]at e;exact r.get e
include hK in
theorem A5:vk X T E fv:=by
 refine⟨_,A1,λY h H x y f y' Q R g ry w=>?_⟩;cases y with
 |int i=>
  cases ry;have a:∀xs v,dS h x=aA xs->cJ xs i=aA v->(W T (aT T) (.ok v h) Y H Q E)->Lj X.K f (.int i) H Q:=λxs v e1 e2 w=>by
   obtain⟨p,k,rfl,hq,hr⟩:=iw R g e1;obtain⟨l,m,rv⟩:=MX hr e2;rcases hq with hq|hq
   .exact .inl ⟨p,k,i,l,rfl,rfl,hK▸hq,m,w.here R rv⟩
   .exact .inr<|.inl ⟨p,k,i,l,rfl,rfl,hK▸hq,m,w.here R rv⟩
  have go:(match (dS h x).bind λxs=>cJ xs i with
   |some v=>Res.ok v h
   |none=>Res.bad)=fv x (.int i) h->Lj X.K f (.int i) H Q:=λe=>by
    rw[<- e]at w;cases s:dS h x with
    |none=>rw[s]at w;cases w|some xs=>
     rw[s]at w;simp only[jJ]at w;cases q:cJ xs i with
     |none=>rw[q]at w;cases w|some v=>rw[q]at w;exact a xs v s q w
  cases x with
  |str z=>
   cases g;simp only[fv]at w;by_cases d:z.length<=sizeLine
   .rw[if_pos d]at w;cases q:cJ z.cps.toList i with
    |none=>rw[q]at w;cases w|some c=>rw[q]at w;exact .inr<|.inr ⟨z,i,c,rfl,rfl,d,q,w.here R (.str _)⟩
   .rw[if_neg d]at w;cases w
  |aH=>exact go rfl|bl b=>exact go rfl|int j=>exact go rfl|tup xs=>exact go rfl|ref n=>exact go rfl|lE n=>exact go rfl
 |_=>exact w.elim
include hK in
theorem Q7(hu:X.A.units+1<cLine):dW X T E (dG .In) (oT aG):=by
 obtain⟨r0,e,f⟩:=(Q8 hK:dW X T E (dG .In) (tV aG));refine⟨_,e.or (N8 hu),λi h H x y x' y' Q R b c w=>?_⟩;unfold oT at w;cases d:fK h y with
 |none=>simp only[d]at w;exact .inl<|f i h H _ _ _ _ Q R b c w|some j=>
  simp only[d]at w;cases k:fN x with
  |none=>simp only[k]at w;exact w.elim|some k'=>simp only[k]at w;obtain⟨n,a,us,rfl,_,_,rfl,g,r⟩:=wD R c d;refine .inr ⟨a,_,rfl,(sH b k)▸lO.k g,?_⟩;rw[EN r];exact W.here w R<|.bl _
include hK in
theorem S4(hu:X.A.units+1<cLine):dW X T E (dG .NotIn) (oT aB):=by
 obtain⟨r0,e,f⟩:=(S5 hK:dW X T E (dG .NotIn) (tV aB));refine⟨_,e.or (O7 hu),λi h H x y x' y' Q R b c w=>?_⟩;unfold oT at w;cases d:fK h y with
 |none=>simp only[d]at w;exact .inl<|f i h H _ _ _ _ Q R b c w|some j=>
  simp only[d]at w;cases k:fN x with
  |none=>simp only[k]at w;exact w.elim|some k'=>simp only[k]at w;obtain⟨n,a,us,rfl,_,_,rfl,g,r⟩:=wD R c d;refine .inr ⟨a,_,rfl,(sH b k)▸lO.k g,?_⟩;rw[EN r];exact W.here w R<|.bl _
include hK in
theorem A4(hu:X.A.units+1<cLine):vk X T E tW:=by
 obtain⟨r0,p0,q0⟩:=(A5 hK:vk X T E fv);refine⟨_,p0.or (z9 hu),λY h H x y x' y' Q R f i w=>?_⟩;unfold tW at w;cases d:fK h x with
 |none=>
  simp only[d]at w;unfold xx at w;cases d2:yP h x with
  |none=>simp only[d2]at w;exact .inl<|q0 Y h H _ _ _ _ Q R f i w|some b=>
   simp only[d2]at w;cases k:fN y with
   |none=>simp only[k]at w;exact w.elim|some e=>
    simp only[k,jJ]at w;cases l:bR b e with
    |none=>simp only[l]at w;exact w.elim|some v=>simp only[l]at w;obtain⟨a,us,rfl,g,r⟩:=VH R f d2;obtain⟨j,m,c⟩:=(aa r).1 v l;refine .inr ⟨a,j,rfl,?_,W.here w R c⟩;rw[sH i k,<- m];exact .inl ⟨us,e,g,rfl,rfl⟩
 |some b=>
  simp only[d]at w;cases k:fN y with
  |none=>simp only[k]at w;exact w.elim|some e=>
   simp only[k,jJ]at w;cases l:bR b e with
   |none=>simp only[l]at w;exact w.elim|some v=>simp only[l]at w;obtain⟨n,a,us,rfl,_,_,rfl,g,r⟩:=wD R f d;obtain⟨j,m,c⟩:=(aa r).1 v l;refine .inr ⟨a,j,rfl,?_,W.here w R c⟩;rw[sH i k,<- m];exact lO.k g
def aGw(K:bH):R2:=λx y H Q=>∃a b ys,x = .ref a/\y = .ref b/\eG K H a []/\eG K H b ys/\Q (.ref b) H
theorem N1:cV X (eY .Add) (aGw X.K):=by
 intro pins s Z H x y v u Q I k l h;obtain⟨a,b,z,rfl,rfl,ha,hb,q⟩:=h;cases k;cases l;obtain⟨m,o,p,_⟩:=I.tuple ha;obtain⟨g,A,r,_⟩:=I.tuple hb;cases o;obtain⟨⟨cls,dd,data,sl⟩,i,t,n,hd⟩:=id p;obtain⟨⟨j,d,data2,e⟩,c,f,w,hd2⟩:=id r;subst t hd f hd2;exact Qv ⟨_,i,rfl⟩ ⟨_,c,rfl⟩ Ra Rf Qb Pz (Py _ _)
  (tuple_addW0 a b _ _ n w dd d sl e<|rfl) ⟨i,c,⟨.ref b,H,I,rfl,q⟩⟩
include hK in
theorem P9:dW X T E (eY .Add) Xt:=by
 refine⟨_,M6.or (M7.or<|N0.or<|N1.or M9),λY h H x y x' y' Q R u v w=>?_⟩;cases x with
 |int i=>
  cases y with
  |int j=>cases u;cases v;exact .inl ⟨i,j,rfl,rfl,W.here w R (.int _)⟩|_=>cases w
 |str i=>
  cases y with
  |str j=>cases u;cases v;obtain⟨A,w⟩:=zG w;exact .inr<|.inl ⟨i,j,rfl,rfl,A,W.here w R (.str _)⟩
  |_=>cases w
 |tup xs=>
  cases y with
  |tup c=>
   obtain⟨h2,w⟩:=zG w;cases u with
   |@tup a _ d hq hr=>
    cases v with
    |@tup b _ f g l=>
     have l1:=hr.length;have l2:=l.length;by_cases h1:xs.length=0
     .have s:=ug h1;subst s;have s:=ug l1.symm;subst s;exact .inr<|.inr<|.inr<|.inl ⟨a,b,f,rfl,rfl,hK▸hq,hK▸g,W.here w R (.tup g l)⟩
     refine .inr<|.inr<|.inl ⟨a,b,d,f,rfl,rfl,hK▸hq,hK▸g,λz=>?_,by omega,λz=>?_,λz p o=>?_⟩
     .rw[z]at l1;exact h1 l1
     .subst z;have s:c=[]:=by cases c with|nil=>rfl|cons _ _=>cases l2
      subst s;rw[pE]at w;exact W.here w R<|.tup hq hr
     .exact W.ok w (.kP o) (R.keep o)<|.tup (.of gI)<|((hr.append l).ext (.kP o))
  |_=>cases w
 |ref n=>
  cases y with
  |ref m=>
   cases u with
   |@ref _ a q=>
    cases v with
    |@ref _ b q2=>
     have go:∀xs c,h.ob n=aA (.lst aB xs)->h.ob m=aA (.lst aB c)->W T (aT T) (if xs.length+c.length<=sizeLine then .ok (.ref h.nx) (h.new<|.lst aB<|xs++c) else .bad) Y H Q E->DR (.ref a) (.ref b) H Q:=λxs c r t w=>by
      by_cases A:xs.length+c.length<=sizeLine
      .rw[if_pos A]at w;obtain⟨d,g1,r1⟩:=R.obj n _ a r q;obtain⟨f,g2,r2⟩:=R.obj m _ b t q2;have l1:=r1.length;have l2:=r2.length;refine⟨a,b,d,f,rfl,rfl,g1,g2,by omega,λp o=>?_⟩;have ho:nR T (Y++[p]) (bE H p<|.lst<|d++f) p (.lst aB<|xs++c):=⟨_,gI,(r1.append r2).ext ⟨λk z e=>by rw[sY ((List.getElem?_eq_some_iff.mp e).1)];exact e,(Ext.kP (Y:=Y) o).tup,(Ext.kP (Y:=Y) o).cZ⟩⟩
       obtain⟨R',ex⟩:=R.alloc o ho;exact W.ok w ex R'<|.ref (by rw[<- R.len];simp)
      .rw[if_neg A]at w;cases w
     refine .inr<|.inr<|.inr<|.inr ?_;replace w:W T (aT T) (oj n m h) Y H Q E:=w
     unfold oj at w;cases r:zO h n with
     |none=>rw[r]at w;cases w|some xs=>
      cases t:zO h m with
      |none=>rw[r,t]at w;cases w|some c=>rw[r,t]at w;exact go xs c (AR r) (AR t) w
  |_=>cases w
 |_=>cases w
theorem GN(hK:X.K=T.K)(R:bQ T Y h H)(r:aT T Y H x x')(e:jb h x=aA b):yH X.K x' H b:=by
 have emp:∀{xs:Fu}{d:Fx},bD T Y H xs d->(!xs.isEmpty) = !d.isEmpty:=λr=>by cases r<;>rfl
 cases r with
 |aH=>cases e;rfl|bl c=>cases e;rfl|int i=>cases e;rfl|str y=>
  simp only[jb]at e;by_cases f:y.length<=sizeLine
  .rw[if_pos f]at e;cases e;exact⟨f,rfl⟩
  .rw[if_neg f]at e;cases e
 |tup k hr=>cases e;exact .inr<|.inl ⟨_,hK▸k,emp hr⟩|@ref n a q=>
  simp only[jb]at e;cases o:h.ob n with
  |none=>rw[o]at e;cases e|some u=>
   rw[o]at e;cases u with
   |lst m d=>cases e;obtain⟨zs,h1,g⟩:=uF R o q;exact .inl ⟨zs,hK▸h1,emp g⟩
   |aP j=>
    cases e;obtain⟨s,d,h1,g,l⟩:=R.obj n _ a o q;refine .inr<|.inr ⟨_,h1,?_⟩;subst g;cases j with
    |nil=>rfl|cons p r=>cases l;rfl
   |dD _=>cases e|ins c fs=>cases e
 |lE q=>cases e
end
def tX(i:Nat):aF->M AV:=λZ h=>match Z[i]? with
 |some (aA v)=>.ok v h
 |_=>.bad
def Sr(m k:M AV):M AV:=m.bind λx=>(dB x).bind λb=>if b=aB then k else M.ret x
def BO(m k:M AV):M AV:=m.bind λx=>(dB x).bind λb=>if b=aB then M.ret x else k
def Sq(m k:M Bool):M Bool:=m.bind λb=>if b=aB then k else M.ret aG
def BN(m k:M Bool):M Bool:=m.bind λb=>if b=aB then M.ret aB else k
def yo{α:Type}(c:M Bool)(a b:M α):M α:=c.bind λt=>if t=aB then a else b
def rV:AV->Option Bool
 |.bl b=>aA b
 |_=>aD
def ee(g g':AV->AV->M AV)(a b c:M AV):M AV:=a.bind λx=>b.bind λy=>(g x y).bind λz h=>match rV z with
 |some aB=>(c.bind λw=>g' y w) h
 |some aG=>.ok (.bl aG) h
 |none=>.bad
def Fd(a:M AV)(r:M Fu):M Fu:=a.bind λx=>r.bind λxs=>M.ret (x::xs)
def Mt(r:M Fu):M AV:=r.bind λxs=>M.guard (xs.length<=sizeLine) (M.ret<|.tup xs)
def jW(xs:Fu):M AV:=λh=>.ok (.ref h.nx) (h.new<|.lst aB xs)
def uE(r:M Fu):M AV:=r.bind λxs=>M.guard (xs.length<=sizeLine) (jW xs)
def uH(g:AV->AV->M AV)(a b:M AV):M AV:=a.bind λx=>b.bind λy=>g x y
def bY:aI->Bool
 |.Name ..=>aB | .Constant ..=>aB | .BinOp ..=>aB | .UnaryOp ..=>aB | .Compare ..=>aB | .BoolOp ..=>aB | .IfExp ..=>aB
 |.Tuple ..=>aB | .List ..=>aB | .Subscript ..=>aB | .Call ..=>aB | .Attribute ..=>aB | .ListComp ..=>aB
 |.Dict ..=>aB
 |_=>aG
def uB:aI->Bool
 |.ListComp ..=>aB
 |_=>aG
def rf:aI->Bool
 |.Name ..=>aB | .Constant ..=>aB | .BinOp ..=>aB | .Subscript ..=>aB | .Call ..=>aB | .Attribute ..=>aB | .Tuple ..=>aB | .List ..=>aB | .ListComp ..=>aB
 |.Dict ..=>aB
 |_=>aG
theorem fP(h:bY e=aB):eC (e::es) env=(aG,eval e env)::eC es env:=by cases e<;>first|rfl|cases h
theorem aIc(h:bY e=aB):Dx e:=λo i=>by cases e<;>first|rfl|cases h
theorem FA{t:Option aI}(h:bY e=aB)(hl:uB e=aG):vM e t n env=pure aG:=by cases e<;>first|rfl|(cases hl;done)|(cases h;done)
theorem Ly{x:Value}(h:bY e=aB):Cz e env x=pure x:=by cases e<;>first|rfl|cases h
theorem Ah{op:pD}(h:bY e=aB):ux op e=aG:=by cases e<;>first|rfl|cases h
theorem Z0(h:rf e=aB):∀whole,isTrue e env whole=(do let v <- whole;Dg e.pos;km [v] (truthy v)):=λ_=>by cases e<;>first|rfl|cases h
theorem uR(h:es.all bY=aB):(lN pos<|eC es env).any (·.1)=aG:=by
 induction es with
 |nil=>rfl|cons e es a=>rw[jI,bT]at h;rw[fP h.1];have:=a h.2;simp only[lN]at this ⊢;exact this
section
variable {a b:aI}{mt mu:aF->M Bool}
theorem aCp{i:Nat}{x:Str} (hN:X.N[i]?=aA x) (hv:mj X.env.scope x) (hd:(x==("__debug__":Str))=aG) (hcd:(x==("__classdict__":Str))=aG):QE X T E (.Name x pos) (tX i):=by
 refine⟨_,X0 hN hv hd hcd,λd Z a h H Q R S w=>?_⟩;unfold tX at w;cases q:Z[i]? with
 |none=>rw[q]at w;exact w.elim|some o=>
  cases o with
  |none=>rw[q]at w;exact w.elim|some v=>rw[q]at w;obtain⟨b,c,r⟩:=S.2 i v q;exact⟨b,c,w.here R r⟩
theorem uK{v':V}(hp:PE X e (tC v'))(r:∀Y H,aT T Y H v v'):QE X T E e (λ_=>M.ret v):=
 ⟨_,hp,λY _ _ h H Q R _ w=>W.here w R (r Y H)⟩
theorem CM:QE X T E e (λ_=>M.bad):=⟨λ_ _ _=>False,λ_ _ _ _ _ _ h=>h.elim,λ_ _ _ _ _ _ _ _ w=>w⟩
theorem Lf:QT X T E e (λ_=>M.bad):=⟨λ_ _ _=>False,λ_ _ _ _ _ _ h=>h.elim,λ_ _ _ _ _ _ _ _ w=>w⟩
theorem jc{α β:Type}{Rp:Rl α β}{ta:TE}(ra:∀ρ Z Z' h H Q,bQ T ρ h H->cT T ρ H Z Z'->W T (aT T) (ma Z h) ρ H Q E->ta Z' H Q)(rb:∀ρ Z Z' h H Q,bQ T ρ h H->cT T ρ H Z Z'->W T (aT T) (mb Z h) ρ H Q E->tb Z' H Q){g:AV->AV->M α}{Q:β->Hp->Prop}{F:V->V->Hp->Prop}(R:bQ T ρ h H)(S:cT T ρ H Z Z')(w:W T Rp ((ma Z).bind (λx=>(mb Z).bind λy=>g x y) h) ρ H Q E)
  (f:∀ρ2 x y x' y' h2 H2,Ext ρ H ρ2 H2->bQ T ρ2 h2 H2->aT T ρ2 H2 x x'->aT T ρ2 H2 y y'->cT T ρ2 H2 Z Z'->W T Rp (g x y h2) ρ2 H2 Q E->F x' y' H2):ta Z' H λx H1=>tb Z' H1 λy H2=>F x y H2:=
 ra ρ Z Z' h H _ R S (W.bind w λa x x' h1 H1 b d e i=>rb a Z Z' h1 H1 _ d (S.ext b) (W.bind i λρ2 y y' h2 H2 c R2 j k=>f ρ2 x y x' y' h2 H2 (b.trans c) R2 (e.ext c) j ((S.ext b).ext c) k))
theorem aCh{op:rN}{g:AV->AV->M AV}(ho:dW X T E (eY op) g)(ha:QE X T E a ma)(hb:QE X T E b mb):QE X T E (.BinOp a op b pos) (λZ=>uH g (ma Z) (mb Z)):=by obtain⟨r,hr,d⟩:=ho;obtain⟨s,pa,e⟩:=ha;obtain⟨tb,f,i⟩:=hb;exact⟨_,W4 hr pa f,λt Z j h H Q R S w=>jc e i R S w λc x y k l m n _ R2 o p _ q=>d c m n x y k l Q R2 o p q⟩
theorem aBz{g:AV->AV->M AV}(ho:vk X T E g)(ha:QE X T E a ma)(hb:QE X T E b mb)(hs:Dx b):QE X T E (.Subscript a b pos) (λZ=>uH g (ma Z) (mb Z)):=by obtain⟨r,hr,d⟩:=ho;obtain⟨s,pa,e⟩:=ha;obtain⟨tb,f,i⟩:=hb;exact⟨_,V5 hr pa f hs,λt Z j h H Q R S w=>jc e i R S w λc x y k l m n _ R2 o p _ q=>d c m n x y k l Q R2 o p q⟩
theorem aBs{op:pD}{g:AV->AV->M AV}(ho:dW X T E (dG op) g)(ha:QE X T E a ma)(hb:QE X T E b mb)(hm:ux op b=aG):QE X T E (.Compare a [op] [b] pos) (λZ=>uH g (ma Z) (mb Z)):=by obtain⟨r,hr,d⟩:=ho;obtain⟨s,pa,e⟩:=ha;obtain⟨tb,f,i⟩:=hb;exact⟨_,U7 hr pa f hm,λt Z j h H Q R S w=>jc e i R S w λc x y k l m n _ R2 o p _ q=>d c m n x y k l Q R2 o p q⟩
theorem aCo{op:PySem.UnaryOp}{g:AV->M AV}(ho:Sn X T E (Dh op) g)(ha:QE X T E a ma):QE X T E (.UnaryOp op a pos) (λZ=>(ma Z).bind g):=by obtain⟨r,hr,d⟩:=ho;obtain⟨m,pa,e⟩:=ha;exact⟨_,W9 hr pa,λf Z b h H Q R S w=>e f Z b h H _ R S (W.bind w λc x i h1 H1 n j k l=>d c h1 H1 x i Q j k l)⟩
theorem Gr(hK:X.K=T.K){γ δ:Type}{Rq:Rl γ δ}{k:Bool->M γ}{Q:δ->Hp->Prop}(R:bQ T Y h H)(r:aT T Y H x x')(w:W T Rq ((dB x).bind k h) Y H Q E) :
  ∃d,yH X.K x' H d/\W T Rq (k d h) Y H Q E:=by
 unfold M.bind dB at w;cases e:jb h x with
 |none=>rw[e]at w;cases w|some d=>rw[e]at w;exact⟨d,GN hK R r e,w⟩
theorem aBx(hc:QT X T E c mt)(ha:QE X T E a ma)(hb:QE X T E b mb):QE X T E (.IfExp c a b pos) (λZ=>yo (mt Z) (ma Z) (mb Z)):=by
 obtain⟨r,pc,rc⟩:=hc;obtain⟨s,pa,l⟩:=ha;obtain⟨tb,m,n⟩:=hb;refine⟨_,V4 pc pa m,λo Z e h H Q R S w=>rc o Z e h H _ R S (W.bind w λf d p h1 H1 i j q k=>?_)⟩;have g:=q;subst g;cases d with
 |true=>exact l f Z e h1 H1 Q j (S.ext i) k|false=>exact n f Z e h1 H1 Q j (S.ext i) k
def aKb(K:bH)(ta tb:TE):TE:=λZ H Q=>ta Z H λx H1=>∃c,yH K x H1 c/\if c=aB then tb Z H1 Q else Q x H1
def aKs(K:bH)(ta tb:TE):TE:=λZ H Q=>ta Z H λx H1=>∃c,yH K x H1 c/\if c=aB then Q x H1 else tb Z H1 Q
def aKr(K:bH)(ta:TE):TE:=λZ H Q=>ta Z H λx H1=>∃c,yH K x H1 c/\Q (.bl<|!c) H1
variable {ta:TE}{rest:List aI}
theorem U0(ha:PE X a ta)(hb:PE X (.BoolOp .And (b::rest) pos) tb):PE X (.BoolOp .And (a::b::rest) pos) (aKb X.K ta tb):=by
 intro pins s Z H Q I h;refine BoolOp_and<|bA (ha pins s Z H _ I h) λv s1 j=>?_;obtain⟨x,H1,k,f,c,ht,g⟩:=j;refine bA (Av pins s1 Z H1 x v (λd e=>d=c/\e=H1) k f ⟨c,ht,rfl,rfl⟩) λd s2 ⟨e,i,l,m⟩=>?_;subst l;subst m;cases d with
 |true=>exact hb pins s2 Z e Q i g|false=>exact⟨x,e,i,f,g⟩
theorem W5(ha:PE X a ta)(hb:PE X (.BoolOp .Or (b::rest) pos) tb):PE X (.BoolOp .Or (a::b::rest) pos) (aKs X.K ta tb):=by
 intro pins s Z H Q I h;refine BoolOp_or<|bA (ha pins s Z H _ I h) λv s1 j=>?_;obtain⟨x,H1,k,f,c,ht,g⟩:=j;refine bA (Av pins s1 Z H1 x v (λd e=>d=c/\e=H1) k f ⟨c,ht,rfl,rfl⟩) λd s2 ⟨e,i,l,m⟩=>?_;subst l;subst m;cases d with
 |false=>exact hb pins s2 Z e Q i g|true=>exact⟨x,e,i,f,g⟩
theorem W2(ha:PE X a ta):PE X (.UnaryOp .Not a pos) (aKr X.K ta):=by intro pins s Z H Q I h;refine UnaryOp_<|bA (ha pins s Z H _ I h) λv s1 e=>?_;obtain⟨x,H1,f,g,c,ht,i⟩:=e;refine not_of<|bA (Av pins s1 Z H1 x v (λd b=>d=c/\b=H1) f g ⟨c,ht,rfl,rfl⟩) λd s2 ⟨b,j,k,l⟩=>?_;subst k;subst l;exact⟨.bl (!d),b,j,rfl,i⟩
theorem CP{op:PySem.BoolOp}(ha:QE X T E a ma):QE X T E (.BoolOp op [a] pos) ma:=let ⟨t,p,r⟩:=ha;⟨t,W3 p,r⟩
theorem aBj(hK:X.K=T.K)(ha:QE X T E a ma)(hb:QE X T E (.BoolOp .And (b::rest) pos) mb):QE X T E (.BoolOp .And (a::b::rest) pos) (λZ=>Sr (ma Z) (mb Z)):=by
 obtain⟨q,pa,j⟩:=ha;obtain⟨tb,k,l⟩:=hb;refine⟨_,U0 pa k,λm Z c h H Q R S w=>j m Z c h H _ R S (W.bind w λe x r h1 H1 n f g o=>?_)⟩;obtain⟨d,p,i⟩:=Gr hK f g o;refine⟨d,p,?_⟩;cases d with
 |true=>exact l e Z c h1 H1 Q f (S.ext n) i|false=>exact W.here i f g
theorem aCi(hK:X.K=T.K)(ha:QE X T E a ma)(hb:QE X T E (.BoolOp .Or (b::rest) pos) mb):QE X T E (.BoolOp .Or (a::b::rest) pos) (λZ=>BO (ma Z) (mb Z)):=by
 obtain⟨q,pa,j⟩:=ha;obtain⟨tb,k,l⟩:=hb;refine⟨_,W5 pa k,λm Z c h H Q R S w=>j m Z c h H _ R S (W.bind w λe x r h1 H1 n f g o=>?_)⟩;obtain⟨d,p,i⟩:=Gr hK f g o;refine⟨d,p,?_⟩;cases d with
 |false=>exact l e Z c h1 H1 Q f (S.ext n) i|true=>exact W.here i f g
theorem aCg(hK:X.K=T.K)(ha:QE X T E a ma):QE X T E (.UnaryOp .Not a pos) (λZ=>(ma Z).bind λx=>(dB x).bind λb=>M.ret (.bl<|!b)):=by obtain⟨n,pa,f⟩:=ha;refine⟨_,W2 pa,λg Z c h H Q R S w=>f g Z c h H _ R S (W.bind w λi x o h1 H1 p e j k=>?_)⟩;obtain⟨d,l,m⟩:=Gr hK e j k;exact⟨d,l,W.here m e (.bl _)⟩
theorem Up{r r':R2}{g:AV->AV->M AV}{tc:TE}
  (hg:∀Y h H x y x' y' Q,bQ T Y h H->aT T Y H x x'->aT T Y H y y'->W T (aT T) (g x y h) Y H Q E->r x' y' H Q)
  (hg':∀Y h H x y x' y' Q,bQ T Y h H->aT T Y H x x'->aT T Y H y y'->W T (aT T) (g' x y h) Y H Q E->r' x' y' H Q)
  (ra:∀Y Z Z' h H Q,bQ T Y h H->cT T Y H Z Z'->W T (aT T) (ma Z h) Y H Q E->ta Z' H Q)(rb:∀Y Z Z' h H Q,bQ T Y h H->cT T Y H Z Z'->W T (aT T) (mb Z h) Y H Q E->tb Z' H Q)
  (rc:∀Y Z Z' h H Q,bQ T Y h H->cT T Y H Z Z'->W T (aT T) (mc Z h) Y H Q E->tc Z' H Q)(R:bQ T Y h H)(S:cT T Y H Z Z')
  (w:W T (aT T) (ee g g' (ma Z) (mb Z) (mc Z) h) Y H Q E):Ml r r' ta tb tc Z' H Q:=by
 refine jc ra rb R S w λb x y x' y' m n _ R2 o i p q=>?_;refine hg b m n x y x' y' _ R2 o i<|W.bind q λa z I c j k l s t=>?_;have e:W T (aT T) (match rV z with
  |some aB=>((mc Z).bind λw=>g' y w) c
  |some aG=>Res.ok (.bl aG) c
  |none=>.bad) a j Q E:=t
 cases z with
 |bl d=>
  cases s;refine⟨d,rfl,?_⟩;cases d with
  |true=>exact rc a Z Z' c j _ l (p.ext k)<|W.bind e λf u v A B C D F G=>hg' f A B y u y' v Q D ((i.ext k).ext C) F G|false=>exact W.here e l<|.bl _
 |_=>exact e.elim
theorem aBq{op:pD}{g:AV->AV->M AV}(ho:dW X T E (dG op) g)(ho':dW X T E (dG op') g')(ha:QE X T E a ma)(hb:QE X T E b mb)(hc:QE X T E c mc)
  (hm:De [op,op'] [b,c]=aG):QE X T E (.Compare a [op,op'] [b,c] pos) (λZ=>ee g g' (ma Z) (mb Z) (mc Z)):=by
 obtain⟨r,hr,f⟩:=ho;obtain⟨m,d,e⟩:=ho';obtain⟨n,pa,i⟩:=ha;obtain⟨tb,j,k⟩:=hb;obtain⟨o,pc,rc⟩:=hc;exact⟨_,U6 hr d pa j pc hm,λp Z l h H Q R S w=>Up f e i k rc R S w⟩
theorem rG(hK:X.K=T.K)(ha:QE X T E a ma)(he:rf a=aB):QT X T E a (λZ=>(ma Z).bind dB):=by
 obtain⟨l,pa,g⟩:=ha;refine⟨_,aAz pa (Z0 he),λi Z c h H Q R S w=>g i Z c h H _ R S (W.bind w λj x m h1 H1 n f k b=>?_)⟩;unfold dB at b;cases e:jb h1 x with
 |none=>rw[e]at b;cases b|some d=>rw[e]at b;exact⟨d,GN hK f k e,b.here f rfl⟩
theorem Ui{z:AV}{z':V}{Q:Bool->Hp->Prop}(R:bQ T Y h H)(r:aT T Y H z z')(w:W T RB (match rV z with
  |some d=>Res.ok d h
  |none=>.bad) Y H Q E):∃k,z' = .bl k/\Q k H:=by
 cases z with
 |bl d=>cases r;exact⟨d,rfl,W.here w R rfl⟩|_=>exact w.elim
def xu(z:AV):M Bool:=λh=>match rV z with
 |some d=>.ok d h
 |none=>.bad
theorem aGg{op:pD}{g:AV->AV->M AV}(ho:dW X T E (dG op) g)(ha:QE X T E a ma)(hb:QE X T E b mb)(hm:ux op b=aG):QT X T E (.Compare a [op] [b] pos) (λZ=>(uH g (ma Z)<|mb Z).bind xu):=by obtain⟨r,hr,e⟩:=ho;obtain⟨D,pa,f⟩:=ha;obtain⟨tb,i,j⟩:=hb;refine⟨_,aAx hr pa i hm,λl Z m h H Q R S w=>?_⟩;have n:W T (aT T) (uH g (ma Z) (mb Z) h) l H (λx o=>∃k,x = .bl k/\Q k o) E:=W.bind w λp z F h1 H1 G q c s=>Ui q c s;exact jc f j R S n λd x y t u v A _ R2 c B _ C=>e d v A x y t u _ R2 c B C
theorem aGf{op:pD}{g:AV->AV->M AV}(ho:dW X T E (dG op) g)(ho':dW X T E (dG op') g')(ha:QE X T E a ma)(hb:QE X T E b mb)(hc:QE X T E c mc)
  (hm:De [op,op'] [b,c]=aG):QT X T E (.Compare a [op,op'] [b,c] pos) (λZ=>(ee g g' (ma Z) (mb Z)<|mc Z).bind xu):=by
 obtain⟨r,hr,f⟩:=ho;obtain⟨v,d,e⟩:=ho';obtain⟨y,pa,i⟩:=ha;obtain⟨tb,j,l⟩:=hb;obtain⟨A,pc,rc⟩:=hc;refine⟨_,aAw hr d pa j pc hm,λm Z n h H Q R S w=>?_⟩;have o:W T (aT T) (ee g g' (ma Z) (mb Z) (mc Z) h) m H (λx p=>∃k,x = .bl k/\Q k p) E:=W.bind w λq z B h1 H1 C s t u=>Ui s t u;exact Up f e i l rc R S o
theorem aGh(ha:QT X T E a mt):QT X T E (.UnaryOp .Not a pos) (λZ=>(mt Z).bind λb=>M.ret (!b)):=by obtain⟨m,pa,e⟩:=ha;refine⟨_,aAy pa,λf Z c h H Q R S w=>e f Z c h H _ R S (W.bind w λg x i h1 H1 n j k l=>?_)⟩;have d:=k;subst d;exact W.here l j rfl
theorem aGj(ha:QT X T E a mt):QW X T E (.BoolOp .And [a] pos) mt:=let ⟨t,p,r⟩:=ha;⟨t,aBd p,r⟩
theorem aGl(ha:QT X T E a mt):QW X T E (.BoolOp .Or [a] pos) mt:=let ⟨t,p,r⟩:=ha;⟨t,aBg p,r⟩
theorem aGi(ha:QT X T E a mt)(hb:QW X T E (.BoolOp .And (b::rest) pos) mu):QW X T E (.BoolOp .And (a::b::rest) pos) (λZ=>Sq (mt Z) (mu Z)):=by
 obtain⟨p,pa,i⟩:=ha;obtain⟨tb,j,k⟩:=hb;refine⟨_,aBc pa j,λl Z c h H Q R S w=>i l Z c h H _ R S (W.bind w λd x m h1 H1 n f o g=>?_)⟩;have e:=o;subst e;cases x with
 |true=>exact k d Z c h1 H1 Q f (S.ext n) g|false=>exact W.here g f rfl
theorem aGk(ha:QT X T E a mt)(hb:QW X T E (.BoolOp .Or (b::rest) pos) mu):QW X T E (.BoolOp .Or (a::b::rest) pos) (λZ=>BN (mt Z) (mu Z)):=by
 obtain⟨p,pa,i⟩:=ha;obtain⟨tb,j,k⟩:=hb;refine⟨_,aBf pa j,λl Z c h H Q R S w=>i l Z c h H _ R S (W.bind w λd x m h1 H1 n f o g=>?_)⟩;have e:=o;subst e;cases x with
 |true=>exact W.here g f rfl|false=>exact k d Z c h1 H1 Q f (S.ext n) g
theorem aBi:QA X T E [] (λ_=>M.ret []):=⟨_,zR,λY _ _ h H Q R _ w=>W.here w R .nil⟩
theorem aBh(ha:QE X T E e m)(hr:QA X T E es mr)(hs:bY e=aB):QA X T E (e::es) (λZ=>Fd (m Z) (mr Z)):=by obtain⟨r,pa,c⟩:=ha;obtain⟨s,pr,d⟩:=hr;exact⟨_,wR pa pr (fP hs),λf Z a h H Q R S w=>c f Z a h H _ R S (W.bind w λb x t h1 H1 g i j k=>d b Z a h1 H1 _ i (S.ext g) (W.bind k λl xs n u v o R2 p q=>W.here q R2 (.cons (j.ext o) p)))⟩
theorem aAa{p:Addr}(hp:H p=aD):Ext Y H (Y++[p]) (bE H p O):=⟨λk z e=>by rw[sY ((List.getElem?_eq_some_iff.mp e).1)];exact e,(Ext.kP (Y:=Y) hp).tup,(Ext.kP (Y:=Y) hp).cZ⟩
theorem wQ{p:Addr}(R:bQ T Y h H)(r:bD T Y H xs gZ)(hp:H p=aD)(w:W T (aT T) (jW xs h) Y H Q E):Q (.ref p) (bE H p<|.lst gZ):=by obtain⟨a,ex⟩:=R.alloc (o:=.lst aB xs) hp ⟨_,gI,r.ext (aAa hp)⟩;exact W.ok w ex a<|.ref (by rw[<- R.len];simp)
theorem zd{p:Addr}(R:bQ T Y h H)(r:bD T Y H xs gZ)(hp:H p=aD)(w:W T (aT T) (.ok (.tup xs) h) Y H Q E):Q (.ref p) (bE H p<|.tup gZ):=
 W.ok w (.kP hp) (R.keep hp) (.tup (.of gI)<|r.ext<|.kP hp)
theorem aCn{k:Nat}(h:QA X T E es mr):QE X T E (.Tuple es k pos) (λZ=>Mt (mr Z)):=by obtain⟨m,pr,d⟩:=h;refine⟨_,W8 pr,λe Z a h H Q R S w=>d e Z a h H _ R S (W.bind w λf xs g h1 H1 n i c b=>?_)⟩;obtain⟨j,b⟩:=zG b;exact⟨c.length▸j,λp l=>zd i c l b⟩
theorem aCa(h:QA X T E es mr):QE X T E (.List es pos) (λZ=>uE (mr Z)):=by obtain⟨l,pr,d⟩:=h;refine⟨_,V6 pr,λe Z a h H Q R S w=>d e Z a h H _ R S (W.bind w λf xs g h1 H1 m i c b=>?_)⟩;obtain⟨j,b⟩:=zG b;exact⟨c.length▸j,λp k=>wQ i c k b⟩
def sU(T:Tab)(g:Fu->M AV):Sp:=λvs H Q E=>∃Y h args,bQ T Y h H/\bD T Y H args vs/\W T (aT T) (g args h) Y H Q E
inductive Fn(X:Cx)(T:Tab)(E:XK)(x:Str)(g:Fu->M AV):Prop
 |mk (k:Nat) (f:Addr) (fd:eV) (ps:WL) (_:iK X.prog X.w X.K X.mg X.base (kH X.prog X.w) k f fd ps (sU T g)) (_:fI (k+1) X.A) (_:X.mg x=aA (.ref f)) (_:tD X.K (.ref f)=aB) (_:Binds X.K fd ps []) (_:rT (kH X.prog X.w) X E):Fn X T E x g
theorem aBn{x:Str}{g:Fu->M AV}(F:Fn X T E x g)(hg:Gl X x)(hd:(x==("__debug__":Str))=aG):QE X T E (.Call (.Name x p) [] [] pos) (λ_=>g []):=by obtain⟨k,f,fd,ps,F,hr,hm,a,hb,b⟩:=F;exact⟨_,U4 F (hr.mono<|iJ _) hg hm a hb .nil b hd,λc Z d h H Q R S w=>⟨c,h,[],R,.nil,w⟩⟩
theorem aBm{x:Str}{g:Fu->M AV}(F:Fn X T E x g)(hg:Gl X x)(ha:QA X T E (e::es) mr)(hs:(e::es).all bY=aB)(hd:(x==("__debug__":Str))=aG):QE X T E (.Call (.Name x p) (e::es) [] pos) (λZ=>(mr Z).bind g):=by obtain⟨k,f,fd,ps,F,hr,hm,c,hb,d⟩:=F;obtain⟨q,pr,i⟩:=ha;rw[jI,bT]at hs;refine⟨_,U3 F (hr.mono<|iJ _) hg hm c hb .nil d pr hd (fP hs.1) (uR hs.2),λj Z a h H Q R S w=>i j Z a h H _ R S (W.bind w λb xs l h1 H1 r m n o=>?_)⟩;rw[pE];exact⟨b,h1,xs,m,n,o⟩
theorem bD.flat{Y:S1}{H:Hp}{xs:Fu}{ys:Fx}(r:bD T Y H xs ys):∀(k:Nat),bD T Y H (eO k xs).flatten (eO k ys).flatten
 |0=>.nil
 |k+1=>by exact r.append<|bD.flat r k
theorem R9:dW X T E (eY .Mult) ou:=by
 obtain⟨r,f,g⟩:=(sL O4 λ_ _ h=>I9 h:dW X T E (eY .Mult) (mI qZ (·*·)));refine⟨_,f.or P4,λi h H x y s t Q R c d w=>?_⟩;cases x with
 |ref n=>
  refine .inr ?_;cases y with
  |int k=>
   cases d;cases c with
   |@ref _ a q=>
    simp only[ou]at w;cases o:h.ob n with
    |none=>simp only[o]at w;cases w|some u=>
     simp only[o]at w;cases u with
     |lst m xs=>
      cases m with
      |false=>cases w|true=>
       dsimp only at w;by_cases b:0<=k/\xs.length*k.toNat<=sizeLine/\k<2 ^ 63
       .rw[if_pos b]at w;obtain⟨j,h1,e⟩:=R.obj n _ a o q;exact⟨a,k,j,rfl,rfl,h1,by lia,b.2.2,by rw[<- e.length];exact b.2.1,λp l=>wQ R (e.flat _) l w⟩
       .rw[if_neg b]at w;cases w
     |_=>cases w
  |_=>cases w
 |_=>exact .inl<|g i h H _ _ _ _ Q R c d w
end
inductive Out where
 |nx (Z:aF)|ret (v:AV)|brk (Z:aF)|cnt (Z:aF)
variable {body ms:aF->M Out}
inductive jK where
 |nx (Z:L2.St)|ret (v:V)|brk (Z:L2.St)|cnt (Z:L2.St)
def RO(T:Tab):Rl Out jK:=λY H a b=>match a,b with
 |.nx Z,.nx Z'=>cT T Y H Z Z'
 |.ret v,.ret v'=>aT T Y H v v'
 |.brk Z,.brk Z'=>cT T Y H Z Z'
 |.cnt Z,.cnt Z'=>cT T Y H Z Z'
 |_,_=>False
def nI(D:Ends):jK->Hp->Prop
 |.nx Z=>D.nx Z
 |.ret v=>D.rt v
 |.brk Z=>D.bk Z
 |.cnt Z=>D.ct Z
def QS(X:Cx)(T:Tab)(E:XK)(st:Stmt)(m:aF->M Out):Prop:=
 ∃t,PS X st t/\∀Y Z Z' h H D,bQ T Y h H->cT T Y H Z Z'->W T (RO T) (m Z h) Y H (nI D) E->t D Z' H
def vQ(X:Cx)(T:Tab)(E:XK)(st:WN)(m:aF->M Out):Prop:=
 ∃t,rS X st t/\∀Y Z Z' h H D,bQ T Y h H->cT T Y H Z Z'->W T (RO T) (m Z h) Y H (nI D) E->t D Z' H
def QG(X:Cx)(T:Tab)(E:XK)(tg:aI)(g:AV->aF->M aF):Prop:=
 ∃t,PG X tg t/\∀Y v v' Z Z' h H Q,bQ T Y h H->cT T Y H Z Z'->aT T Y H v v'->W T (cT T) (g v Z h) Y H Q E->t v' Z' H Q
def dq(X:Cx)(T:Tab)(E:XK)(tf:List aI)(g:Fu->aF->M aF):Prop:=
 ∃t,lz X tf t/\∀Y vs vs' Z Z' h H Q,bQ T Y h H->cT T Y H Z Z'->bD T Y H vs vs'->W T (cT T) (g vs Z h) Y H Q E->t vs' Z' H Q
def EU(m:M Out)(k:aF->M Out):M Out:=m.bind λo=>match o with
 |.nx Z=>k Z
 |.ret v=>M.ret (.ret v)
 |.brk Z=>M.ret (.brk Z)
 |.cnt Z=>M.ret (.cnt Z)
section
variable {a b:aI}{mt:aF->M Bool}{mk:aF->M Out}{st:Stmt}{rest:WN}{g:AV->aF->M aF}{gs:Fu->aF->M aF}
theorem iQ:QS X T E st (λ_=>M.bad):=⟨_,aAm,λ_ _ _ _ _ _ _ _ w=>w⟩
theorem aGe:vQ X T E [] (λZ=>M.ret (.nx Z)):=⟨_,aAv,λc Z a h H D R S w=>W.here (b:=jK.nx a) w R S⟩
theorem aGd(h1:QS X T E st ms)(h2:vQ X T E rest mk):vQ X T E (st::rest) (λZ=>EU (ms Z) mk):=by
 obtain⟨t,p,r⟩:=h1;obtain⟨u,q,s⟩:=h2;refine⟨_,aAu p q,λj Z g h H D R S w=>r j Z g h H _ R S (W.bind w λi o d h1 H1 l e b f=>?_)⟩;cases o with
 |nx c=>cases d with
  |nx a=>exact s i c a h1 H1 D e b f|_=>exact b.elim
 |ret v=>cases d with
  |ret k=>exact(W.here (Q:=nI D) f e b:D.rt k H1)|_=>exact b.elim
 |brk c=>cases d with
  |brk a=>exact(W.here (Q:=nI D) f e b:D.bk a H1)|_=>exact b.elim
 |cnt c=>cases d with
  |cnt a=>exact(W.here (Q:=nI D) f e b:D.ct a H1)|_=>exact b.elim
theorem aFy:QS X T E (.Pass pos) (λZ=>M.ret (.nx Z)):=⟨_,aAo,λc Z a h H D R S w=>W.here (b:=jK.nx a) w R S⟩
theorem aFq:QS X T E (.Break pos) (λZ=>M.ret (.brk Z)):=⟨_,aAf,λc Z a h H D R S w=>W.here (b:=jK.brk a) w R S⟩
theorem aFr:QS X T E (.Continue pos) (λZ=>M.ret (.cnt Z)):=⟨_,aAg,λc Z a h H D R S w=>W.here (b:=jK.cnt a) w R S⟩
theorem aFs(he:QE X T E e m)(hs:bY e=aB)(hlc:uB e=aG):QS X T E (.Expr e pos) (λZ=>(m Z).bind λ_=>M.ret (.nx Z)):=by obtain⟨t,p,r⟩:=he;exact⟨_,aAh p (FA hs hlc),λc Z a h H D R S w=>r c Z a h H _ R S (W.bind w λd x j h1 H1 f g k i=>W.here (b:=jK.nx a) i g (S.ext f))⟩
theorem aFz(he:QE X T E e m):QS X T E (.Return (aA e) pos) (λZ=>(m Z).bind λv=>M.ret (.ret v)):=by obtain⟨t,p,r⟩:=he;exact⟨_,aAp p,λc Z a h H D R S w=>r c Z a h H _ R S (W.bind w λd x f h1 H1 k g i j=>W.here (b:=jK.ret f) j g i)⟩
theorem aGa:QS X T E (.Return aD pos) (λ_=>M.ret (.ret .aH)):=⟨_,aAq,λc d a h H D R S w=>W.here (b:=jK.ret .aH) w R .aH⟩
theorem aFw(hc:QT X T E c mt)(ha:vQ X T E sts ms)(hb:vQ X T E rest mk):QS X T E (.If c sts rest pos) (λZ=>yo (mt Z) (ms Z) (mk Z)):=by
 obtain⟨p,pc,rc⟩:=hc;obtain⟨q,pa,j⟩:=ha;obtain⟨tb,k,l⟩:=hb;refine⟨_,aAl pc pa k,λm Z a h H D R S w=>rc m Z a h H _ R S (W.bind w λb d n h1 H1 f g o i=>?_)⟩;have e:=o;subst e;cases d with
 |true=>exact j b Z a h1 H1 D g (S.ext f) i|false=>exact l b Z a h1 H1 D g (S.ext f) i
theorem uL:QG X T E tg (λ_ _=>M.bad):=⟨λ_ _ _ _=>False,λ_ _ _ _ _ _ _ _ _ h=>h.elim,λ_ _ _ _ _ _ _ _ _ _ _ w=>w⟩
theorem Ke{i:Nat}{x:Str}(hN:X.N.Nodup)(hi:X.N[i]?=aA x)(hx:vO X.env.scope x)(hf:X.fn x=aB\/X.env.scope.names.lookup x=aA .local):QG X T E (.Name x pos) (λv Z=>M.ret (Z.set i<|aA v)):=
 ⟨_,X1 hN hi hx hf,λb v c Z a h H Q R S r w=>W.here w R (S.set r i)⟩
def Gz(vs:Fu)(Z:aF):M aF:=match vs with
 |[]=>M.ret Z
 |_=>M.bad
def Gy(g:AV->aF->M aF)(gs:Fu->aF->M aF)(vs:Fu)(σ:aF):M aF:=match vs with
 |v::r=>(g v σ).bind λσ1=>gs r σ1
 |[]=>M.bad
theorem CV:dq X T E [] Gz:=⟨_,X5,λc d a e b h H Q R S r w=>by
 cases r with
 |nil=>exact⟨rfl,W.here w R S⟩|cons _ _=>exact w.elim⟩
def sV:aI->Bool
 |.Name ..=>aB | .Tuple ..=>aB | .Subscript ..=>aB | .Attribute ..=>aB
 |_=>aG
theorem Mq{t:aI}(h:sV t=aB):rQ (t::ts) env=(aG,bu t env)::rQ ts env:=by cases t<;>first|rfl|cases h
theorem CU(h1:QG X T E tg g)(h2:dq X T E es gs)(ht:sV tg=aB):dq X T E (tg::es) (Gy g gs):=by
 obtain⟨t,p,r⟩:=h1;obtain⟨u,q,s⟩:=h2;refine⟨_,X4 p q (by rw[Mq ht];rfl),λe v f i b h H Q R S j w=>?_⟩;cases j with
 |nil=>cases w|cons k rs=>exact⟨_,_,rfl,r e _ _ i b h H _ R S k (W.bind w λc d a h1 H1 l m n o=>s c _ _ d a h1 H1 Q m n (rs.ext l) o)⟩
theorem WD(h:ts.all sV=aB):(rQ ts env).length=ts.length/\(rQ ts env).findIdx? (·.1)=aD:=by
 induction ts with
 |nil=>exact⟨rfl,rfl⟩|cons t ts a=>rw[jI,bT]at h;rw[Mq h.1];obtain⟨h1,b⟩:=a h.2;refine⟨by rw[eK,eK,h1],?_⟩;rw[List.findIdx?_cons,b];rfl
end
section
variable {E:Value->aK->Prop}
theorem Vu{it l:Addr}{items:WV}(hne:l≠it):∀(n i:Nat) (s:aK) (Q:Fv->aK->Prop),s.heap.IsListIter it l i->s.heap.IsList l items->i+n<=items.size ->
  (∀h',h'.IsListIter it l (i+n)->jv it s.heap h'->Q ((items.toList.drop i).take n) { s with heap:=h' })->aU (aY prog w) A (draw (.ref it) n) Q E s
 |0,i,s,Q,hit,_,_,hQ=>by show aU _ _ (pure []) Q E s;exact cU (by simpa using hQ s.heap hit (Heap.SameBut.refl ..))
 |n+1,i,s,Q,hit,ht,hle,hQ=>by
  have dX:i<items.size:=by omega
  show aU _ _ (xW (.ref it)>>=_) Q E s;refine bB<|MJ hit ht (x:=items[i]) (by simp[dX]) λh₁ hit₁ hs₁=>?_;refine bB<|pJ<|Vu hne n (i+1) _ _ hit₁ (ht.extBut hs₁.extBut hne) (by omega) λh₂ hit₂ hs₂=>cU ?_;have hd:items.toList.drop i=items[i]::items.toList.drop (i+1):=by simp[Ot,dX]
  have:=hQ h₂ (by rw[show i+(n+1)=i+1+n by omega];exact hit₂) (hs₁.trans hs₂);rw[hd,JV]at this;exact this
theorem aMh{t:Addr}{Q:Fv->aK->Prop}(hh:A.handled=aD)(ht:s.heap.IsList t items)
  (hQ:∀h',Og s.heap.objs.size s.heap h'->Q items.toList { s with heap:=h' }):aU (aY prog w) A (unpackItems (.ref t) items.size aD) Q E s:=by
 have dX:t≠s.heap.objs.size:=by obtain⟨o,ho,_⟩:=ht;exact cC<|dF ho
 unfold unpackItems;refine bB ?_
 .unfold notIterableAtAll;refine bB<|ML ht.typeIs PySem.slot_list_iter.lookup ?_;refine cU ?_;simp only[jq,if_false];refine bB<|pJ<|ve ht ?_;have ht0:(s.heap.push { cls:=.type "list_iterator",data:=.fields #[.ref t,.int 0 0] }).IsList t items:=ht.at λo e=>dO _ e;refine bB<|pJ<|Vu dX items.size 0 _ _ ⟨_,jG _ rfl,rfl,rfl⟩ ht0 (by omega) λh₁ hit₁ hs₁=>?_;have oU:List.take items.size (List.drop 0 items.toList)=items.toList:=by rw[JB];exact Pm (by simp)
  rw[oU];rw[if_neg (by simp)];have ht₁:h₁.IsList t items:=ht0.extBut hs₁.extBut dX;refine bB<|pJ<|Ro hh hit₁ ht₁ (by simp) λh₂ he₂=>?_;simp only[Option.isSome_none,jq,if_false];refine cU<|hQ h₂ λb o hb e=>he₂ b o hb (hs₁.extBut b o hb<|dO _ e)
theorem MU{x1}{t:Addr}{Q:Unit->aK->Prop}(hh:A.handled=aD)(ht:s.heap.IsList t items)
  (hn:(rQ elts env).length=items.size)(t9:(rQ elts env).findIdx? (·.1)=aD)
  (h:∀h',Og s.heap.objs.size s.heap h'->aU (aY prog w) A (LQ ((rQ elts env).map (·.2)) items.toList) Q E { s with heap:=h' }) :
  aU (aY prog w) A (bu (.Tuple elts x1 pos) env<|.ref t) Q E s:=by
 refine bB<|ky ?_;unfold unpack;rw[hn,t9];exact bB<|pJ<|aMh hh ht h
end
section
variable {a b:aI}{mt:aF->M Bool}{mk:aF->M Out}{st:Stmt}{rest:WN}{g:AV->aF->M aF}{gs:Fu->aF->M aF}
def j6(K:bH)(n:Nat)(t:yG):TG:=λv Z H Q=>∃a xs,v = .ref a/\(dM K H a xs\/eG K H a xs)/\xs.length=n/\t xs Z H Q
theorem X2{k:Nat}{t:yG}(hc:X.calm=aB)(h:lz X es t)(hs:es.all sV=aB):PG X (.Tuple es k pos) (j6 X.K es.length t):=by
 obtain⟨hn,hst⟩:=WD (env:=X.env) hs;intro pins s Z H v u Q I r hw;obtain⟨a,xs,e1,hq,hl,hw⟩:=hw;subst e1;cases r;rcases hq with hq|hq
 .obtain⟨its,rv,ht,hz⟩:=I.list hq;refine MU (I.ok.hd hc) ht.isList (by simp[hn,<- hl,rv.length]) hst λh' hx=>?_;have I1:Inv X pins Z H { s with heap:=h' }:=I.kept (t':=s.toks) λb o e=>hx b o (cC<|dF e) e;exact h pins _ Z H xs _ Q I1 (by simpa using rv) hw
 .obtain⟨its,rv,ht,hz⟩:=I.tuple hq;refine assign_Tuple_tuple (I.ok.hd hc) ht (by simp[hn,<- hl,rv.length]) hst λh' hx=>?_;have I1:Inv X pins Z H { s with heap:=h' }:=I.kept (t':=s.toks) λb o e=>hx b o (cC<|dF e) e;exact h pins _ Z H xs _ Q I1 (by simpa using rv) hw
def zE(n:Nat)(gs:Fu->aF->M aF)(v:AV)(Z:aF):M aF:=λh=>match dS h v with
 |some xs=>if xs.length=n then gs xs Z h else .bad
 |none=>.bad
theorem CS(hK:X.K=T.K)(hc:X.calm=aB){k:Nat}(h:dq X T E es gs)(hs:es.all sV=aB):QG X T E (.Tuple es k pos) (zE es.length gs):=by
 obtain⟨t,p,r⟩:=h;refine⟨_,X2 hc p hs,λc v g d a h H Q R S e w=>?_⟩;unfold zE at w;cases q:dS h v with
 |none=>rw[q]at w;cases w|some xs=>
  rw[q]at w;by_cases hl:xs.length=es.length
  .simp only[if_pos hl]at w;obtain⟨p,b,rfl,f,hr⟩:=iw R e q;exact⟨p,b,rfl,hK▸f,hr.length▸hl,r c xs b d a h H Q R S hr w⟩
  .simp only[if_neg hl]at w;exact w.elim
def qD(o i v:AV):M Unit:=λh=>match o,i with
 |.ref n,.int k=>match h.ob n with
  |some (.lst aB xs)=>match jM xs.length k with
   |some j=>.ok () (h.put n<|.lst aB<|xs.set j v)
   |none=>.bad
  |_=>.bad
 |_,_=>.bad
def nX(o i v:AV):M Unit:=λh=>match fK h o with
 |some kvs=>match o,fN i with
  |.ref n,aA k=>if kvs.length<sizeLine then .ok () (h.put n<|.aP<|jC kvs k v) else .bad
  |_,_=>.bad
 |none=>qD o i v h
theorem aCq(hu:X.A.units+1<cLine)(ha:QE X T E a ma)(hb:QE X T E b mb)(hs:bY b=aB):QG X T E (.Subscript a b pos) (λv Z=>(ma Z).bind λo=>(mb Z).bind λi=>(nX o i v).bind λ_=>M.ret Z):=by
 obtain⟨ta,pa,N⟩:=ha;obtain⟨tb,O,P⟩:=hb;refine⟨_,X3 pa O (aHx hu) (by intro v;cases b<;>first|rfl|cases hs),λY v F Z U h H Q R S V w=>?_⟩;refine jc N P R S w λf x y x' y' l m XD R2 G I J c=>?_;have s:=V.ext XD;cases d:fK l x with
 |some B=>
  refine .inr ?_;obtain⟨n,a,us,rfl,q,o,rfl,g,r⟩:=wD R2 G d;cases k:fN y with
  |none=>simp only[M.bind,nX,d,k]at c;cases c|some Ww=>
   by_cases C:B.length<sizeLine
   .simp only[M.bind,nX,d,k,if_pos C]at c;have ex:Ext f m f (bE m a<|.dK<|putK us Ww F):=⟨λ_ _ z=>z,λb xs z=>by
     rw[bX (rB z g nofun)];exact z,λb x u z=>by
     rw[bX (rB z g nofun)];exact z⟩
    obtain⟨D,t⟩:=R2.write o rfl rfl q g (nofun) (λ_ _ z=>by cases z) (wz gI<|(Lp r s).ext ex);refine⟨a,_,rfl,?_,W.ok c t D (J.ext t)⟩;rw[sH I k];exact lg.k g (by rw[<- EM r];exact C)
   .simp only[M.bind,nX,d,k,if_neg C]at c;cases c
 |none=>
 refine .inl ?_;have c:W T (cT T) (((qD x y v).bind λ_=>M.ret Z) l) f m Q E:=by
  have e:(nX x y v) l=qD x y v l:=by simp only[nX,d]
  simp only[M.bind,e]at c ⊢;exact c
 cases x with
 |ref n=>
  cases y with
  |int k=>
   cases I;cases G with
   |@ref _ p q=>
    cases o:l.ob n with
    |none=>simp only[M.bind,qD,o]at c;cases c|some u=>
     cases u with
     |lst mu xs=>
      cases mu with
      |true=>
       obtain⟨K,g1,L⟩:=R2.obj n _ p o q;cases j:jM xs.length k with
       |none=>simp only[M.bind,qD,o,j]at c;cases c|some A=>
        simp only[M.bind,qD,o,j]at c;obtain⟨D,t⟩:=R2.write (o':=.lst aB (xs.set A v)) o rfl rfl q g1 (nofun) (λ_ _ z=>by cases z) ⟨_,gI,by
         have:Ext f m f (bE m p<|.lst<|K.set A F):=⟨λ_ _ z=>z,λb xs z=>by
          rw[bX (rB z g1 nofun)];exact z,λb x u z=>by
          rw[bX (rB z g1 nofun)];exact z⟩
         exact(bD.set s A L).ext this⟩
        exact⟨p,K,k,A,rfl,rfl,g1,L.length▸j,W.ok c t D (J.ext t)⟩
      |false=>simp only[M.bind,qD,o]at c;cases c
     |aP _=>simp only[M.bind,qD,o]at c;cases c|dD _=>simp only[M.bind,qD,o]at c;cases c|ins _ _=>simp only[M.bind,qD,o]at c;cases c
  |_=>cases c
 |_=>cases c
def swE(ts:List aI)(e:aI)(sc:gK):Sem (Option<|WL):=ko ts e { (default:Env)with scope:=sc }
def Mj{α:Type}:Sem α->Option α
 |.pure x=>aA x
 |_=>aD
theorem FT{α:Type}{s:Sem α}{x:α}(h:Mj s=aA x):s=pure x:=by
 cases s with
 |pure a=>cases h;rfl|_=>cases h
theorem aFp(he:QE X T E e m)(hg:QG X T E tg g)(hs:bY e=aB)(hlc:uB e=aG)(ht:sV tg=aB)(hw:ko [tg] e X.env=pure aD):QS X T E (.Assign [tg] e pos) (λσ=>(m σ).bind λv=>(g v σ).bind λσ1=>M.ret (.nx σ1)):=by obtain⟨A,p,r⟩:=he;obtain⟨t,q,s⟩:=hg;refine⟨_,aAd p q (FA hs hlc) hw (by rw[Mq ht];rfl),λf σ a h H D R S w=>r f σ a h H _ R S (W.bind w λd x i h1 H1 j k l n=>?_)⟩;exact s d x i σ a h1 H1 _ k (S.ext j) l<|W.bind n λo u c B C F R2 y z=>W.here (b:=jK.nx c) z R2 y
abbrev gT:=Nat->AH->Option (Option AV)
def RI(T:Tab):Rl gT It:=λρ H it J=>∀ρ' h' H' i,Ext ρ H ρ' H'->bQ T ρ' h' H' ->
 (it i h'=aA aD->J.stop i H')/\∀v,it i h'=aA (aA v)->J.go i H'/\∀x H2,J.uf i H' x H2->∃ρ2,Ext ρ' H' ρ2 H2/\bQ T ρ2 h' H2/\aT T ρ2 H2 v x
def QI(X:Cx)(T:Tab)(E:XK)(tg cO:aI)(mi:aF->M gT):Prop:=
 ∃wi,PI X tg cO wi/\∀Y Z Z' h H R,bQ T Y h H->cT T Y H Z Z'->W T (RI T) (mi Z h) Y H R E->wi Z' H R
def jV(it:gT)(g:AV->aF->M aF)(body:aF->M Out):Nat->Nat->aF->M Out
 |0,_,_=>M.bad
 |f+1,i,σ=>λh=>match it i h with
  |none=>.bad
  |some aD=>.ok (.nx σ) h
  |some (aA v)=>((g v σ).bind λσ1=>(body σ1).bind λo=>match o with
   |.nx σ2=>jV it g body f (i+1) σ2
   |.cnt σ2=>jV it g body f (i+1) σ2
   |.brk σ2=>M.ret (.nx σ2)
   |.ret v=>M.ret (.ret v)) h
theorem Ru:∃n:Nat,n=1000000:=⟨_,rfl⟩
def FU:Nat:=Ru.choose
theorem eF:FU=1000000:=Ru.choose_spec
theorem aFv{cO:aI}{mi:aF->M gT}(hp:uo (aY X.prog X.w) X.A X.env X.xe)(hc:X.calm=aB)(hi:QI X T E tg cO mi)(hg:QG X T E tg g)(hb:vQ X T E sts ms)(hs:bY cO=aB) :
  QS X T E (.For tg cO sts [] pos) (λZ=>(mi Z).bind λit=>jV it g ms FU 0 Z):=by
 obtain⟨wi,pi,ri⟩:=hi;obtain⟨t,q,s⟩:=hg;obtain⟨u,pb,rb⟩:=hb;refine⟨_,aAk hp hc pi q pb (λx=>Ly hs),λO B C h0 H0 D R0 Y w0=>ri O B C h0 H0 _ R0 Y (W.bind w0 λr it J h1 H1 e1 R1 Wx w1=>?_)⟩;refine⟨λi m j H=>∃A Z h,Ext r H1 A H/\bQ T A h H/\cT T A H Z j/\W T (RO T) (jV it g ms m i Z h) A H (nI D) E,⟨FU,r,B,h1,.refl,R1,Y.ext e1,w1⟩,?_⟩;rintro i m j H ⟨A,Z,h,e,R,S,w⟩
 cases m with
 |zero=>cases w|succ f=>
  simp only[jV]at w;cases d:it i h with
  |none=>rw[d]at w;cases w|some o=>
   cases o with
   |none=>rw[d]at w;exact .inl ⟨(Wx A h H i e R).1 d,W.here (b:=jK.nx j) w R S⟩
   |some v=>
    rw[d]at w;obtain⟨go,yl⟩:=(Wx A h H i e R).2 v d;refine .inr ⟨go,λl n=>∃c F h2,Ext r H1 c n/\bQ T c h2 n/\cT T c n F l/\W T (RO T) (jV it g ms f (i+1) F h2) c n (nI D) E,λl n z=>⟨f,cM f,z⟩,λx n y=>?_⟩;obtain⟨c,P,R2,rv⟩:=yl x n y;refine s c v x Z j h n _ R2 (S.ext P) rv<|W.bind (w.ext P) λU V G h3 H3 e3 R3 S3 w3=>?_;refine rb U V G h3 H3 _ R3 S3<|W.bind w3 λI o K h4 H4 e4 L p N=>?_;have eE:=((e.trans P).trans e3).trans e4;cases o with
    |nx k=>cases K with
     |nx a=>exact⟨I,k,h4,eE,L,p,N⟩|_=>cases p
    |cnt k=>cases K with
     |cnt a=>exact⟨I,k,h4,eE,L,p,N⟩|_=>cases p
    |brk k=>cases K with
     |brk a=>exact(W.here (b:=jK.nx a) N L p:D.nx a H4)|_=>cases p
    |ret v=>cases K with
     |ret v'=>exact(W.here (Q:=nI D) N L p:D.rt v' H4)|_=>cases p
def vA(c:aF->M Bool)(body:aF->M Out):Nat->aF->M Out
 |0,_=>M.bad
 |f+1,σ=>(c σ).bind λb=>if b=aB then((body σ).bind λo=>match o with
  |.nx σ2=>vA c body f σ2
  |.cnt σ2=>vA c body f σ2
  |.brk σ2=>M.ret (.nx σ2)
  |.ret v=>M.ret (.ret v)) else M.ret (.nx σ)
theorem aGc(hp:uo (aY X.prog X.w) X.A X.env X.xe)(hc:QT X T E c mt)(hb:vQ X T E sts ms):QS X T E (.While c sts [] pos) (λZ=>vA mt ms FU Z):=by
 obtain⟨tc,pc,rc⟩:=hc;obtain⟨u,M,N⟩:=hb;refine⟨_,aAt hp pc M,λx y C h0 H0 D O P U=>?_⟩;refine⟨λm e H=>∃l Z h,bQ T l h H/\cT T l H Z e/\W T (RO T) (vA mt ms m Z h) l H (nI D) E,⟨FU,x,y,h0,O,P,U⟩,?_⟩;rintro m e H ⟨l,Z,h,R,S,w⟩
 cases m with
 |zero=>cases w|succ f=>
  refine rc l Z e h H _ R S<|W.bind w λA d V h1 H1 F G Y I=>?_;have B:=Y;subst B;cases d with
  |false=>exact(W.here (b:=jK.nx e) I G (S.ext F):D.nx e H1)|true=>
   refine⟨λi q=>∃k n J,bQ T k J q/\cT T k q n i/\W T (RO T) (vA mt ms f n J) k q (nI D) E,λi q z=>⟨f,cM f,z⟩,?_⟩;refine N A Z e h1 H1 _ G (S.ext F)<|W.bind I λp o r K L e4 s j t=>?_;cases o with
   |nx g=>cases r with
    |nx a=>exact⟨p,g,K,s,j,t⟩|_=>exact j.elim
   |cnt g=>cases r with
    |cnt a=>exact⟨p,g,K,s,j,t⟩|_=>exact j.elim
   |brk g=>cases r with
    |brk a=>exact(W.here (b:=jK.nx a) t s j:D.nx a L)|_=>exact j.elim
   |ret v=>cases r with
    |ret Wy=>exact(W.here (Q:=nI D) t s j:D.rt Wy L)|_=>exact j.elim
end
def tH(kd:Bool)(h:bS)(it l:Addr)(k:Nat):Prop:=if kd=aB then h.IsListIter it l k else h.IsTupleIter it l k
def tG(kd:Bool)(h:bS)(l:Addr)(items:WV):Prop:=if kd=aB then h.IsList l items else h.IsTuple l items
def yF(kd:Bool)(K:bH)(H:Hp)(a:Addr)(xs:Fx):Prop:=if kd=aB then dM K H a xs else eG K H a xs
theorem tH.at{kd:Bool}{h h':bS}{it l:Addr}{k:Nat}(st:tH kd h it l k)(f:∀o,h.get? it=aA o->h'.get? it=aA o):tH kd h' it l k:=by
 cases kd with
 |true=>exact Heap.IsListIter.at st f|false=>exact Heap.IsTupleIter.at st f
theorem tH.live{h:bS}{k:Nat}(st:tH kd h it l k):∃o,h.get? it=aA o/\∀v,o.data ≠ .cell v:=by
 cases kd with
 |true=>obtain⟨o,a,b,hd⟩:=(st);exact⟨o,a,λv z=>by rw[hd]at z;cases z⟩|false=>obtain⟨o,a,b,hd⟩:=(st);exact⟨o,a,λv z=>by rw[hd]at z;cases z⟩
def lH(n:Nat):gT:=λi h=>match h.ob n with
 |some (.lst _ xs)=>aA xs[i]?
 |_=>aD
def kQ(xs:Fu):gT:=λi _=>aA xs[i]?
def nH(lo:Int)(n:Nat):gT:=λi _=>aA (if i<n then aA (.int<|lo+i) else aD)
def lA(it:gT):gT:=λi h=>match it i h with
 |some (aA v)=>aA (aA<|.tup [.int i,v])
 |some aD=>aA aD
 |none=>aD
def Gp(v:AV):M gT:=λh=>match v with
 |.tup xs=>.ok (kQ xs) h
 |.ref n=>match h.ob n with
  |some (.lst _ _)=>.ok (lH n) h
  |_=>.bad
 |_=>.bad
noncomputable abbrev qC:=Gp
def lY(j:Int):Bool:=decide (-(2 ^ 62)<=j)&&decide (j<2 ^ 62)
def xy(xs:Fu):M gT:=λh=>match xs with
 |[.int j]=>if lY j=aB then .ok (nH 0 j.toNat) h else .bad
 |_=>.bad
def ya(xs:Fu):M gT:=λh=>match xs with
 |[.int i,.int j]=>if(lY i&&lY j)=aB then .ok (nH i (j-i).toNat) h else .bad
 |_=>.bad
def xw(v:AV):M gT:=λh=>match v with
 |.tup xs=>.ok (lA<|kQ xs) h
 |.ref n=>match h.ob n with
  |some (.lst _ _)=>.ok (lA<|lH n) h
  |_=>.bad
 |_=>.bad
section
variable {a b l:aI}{tl:TE}
theorem EJ{a:Addr}(q:Y[n]?=aA a):RI T Y H (lH n) (Ds T.K a):=by
 intro b h s i e R;unfold lH;cases o:h.ob n with
 |none=>exact⟨λz=>(by cases z),λv z=>(by cases z)⟩|some u=>
  cases u with
  |lst m xs=>
   obtain⟨c,d,r⟩:=uF R o (e.pre n a q);refine⟨λz=>⟨c,d,?_⟩,λv z=>?_⟩
   .have f:=dJ z;rw[<- r.length];exact List.getElem?_eq_none_iff.mp f
   .have f:=dJ z;obtain⟨y,g,j⟩:=r.get f;refine⟨⟨c,y,d,g⟩,λx t l=>?_⟩;obtain⟨p,k⟩:=l;subst p;have:=k c d;rw[g]at this;cases this;exact⟨b,.refl,R,j⟩
  |aP _=>exact⟨λz=>(by cases z),λv z=>(by cases z)⟩|dD _=>exact⟨λz=>(by cases z),λv z=>(by cases z)⟩|ins _ _=>exact⟨λz=>(by cases z),λv z=>(by cases z)⟩
theorem EL{a:Addr}(hq:eG T.K H a ys)(r:bD T Y H xs ys):RI T Y H (kQ xs) (Dt T.K a):=by
 intro c m n i e R;have g:=r.ext e;have b:=e.Al hq;refine⟨λz=>⟨ys,b,?_⟩,λv z=>?_⟩
 .have d:=dJ z;rw[<- r.length];exact List.getElem?_eq_none_iff.mp d
 .have d:=dJ z;obtain⟨y,f,h⟩:=g.get d;refine⟨⟨ys,y,b,f⟩,λx o j=>?_⟩;obtain⟨l,k⟩:=j;subst l;have:=k ys b;rw[f]at this;cases this;exact⟨c,.refl,R,h⟩
theorem EK{lo:Int}:RI T Y H (nH lo n) (lu lo n):=by
 intro a g h i e R;unfold nH;by_cases b:i<n
 .rw[if_pos b];refine⟨λz=>(by cases z),λv z=>⟨b,λx j c=>?_⟩⟩;cases z;obtain⟨d,f⟩:=c;subst d;subst f;exact⟨a,.refl,R,.int _⟩
 .rw[if_neg b];exact⟨λ_=>(by show n<=i;lia),λv z=>(by cases z)⟩
def u9(K:bH)(tl:TE):TI:=λZ H R=>tl Z H λx H1=>
 ∃a,x = .ref a/\(((∃xs,dM K H1 a xs)/\R (Ds K a) H1)\/((∃xs,eG K H1 a xs)/\R (Dt K a) H1))
theorem Y0(hl:PE X l tl):PI X tg l (u9 X.K tl):=by
 intro pins s g H R I h;refine bA (hl pins s g H _ I h) λv s1 i=>?_;obtain⟨x,H1,c,j,k⟩:=i;obtain⟨a,e,q⟩:=k;subst e;cases j;rcases q with⟨⟨xs,d⟩,q⟩|⟨⟨xs,d⟩,q⟩
 .obtain⟨f,m,p,n⟩:=c.list d;refine ve p.isList ?_;refine⟨s1.heap.objs.size,[s1.heap.objs.size],_,_,H1,rfl,c.kept λb o e=>dO _ e,aLx a _,⟨_,jG _ rfl,rfl,rfl⟩,λb hb=>?_,q⟩;have e:b=s1.heap.objs.size:=by simpa using hb
  subst e;exact c.wG (aV _)<|c.aZ.fresh<|aV _
 .obtain⟨f,m,p,n⟩:=c.tuple d;refine Dj (p) ?_;refine⟨s1.heap.objs.size,[s1.heap.objs.size],_,_,H1,rfl,c.kept λb o e=>dO _ e,aMa a _,⟨_,jG _ rfl,rfl,rfl⟩,λb hb=>?_,q⟩;have e:b=s1.heap.objs.size:=by simpa using hb
  subst e;exact c.wG (aV _)<|c.aZ.fresh<|aV _
theorem ia:QI X T E tg e (λ_=>M.bad):=⟨λ_ _ _=>False,λ_ _ _ _ _ _ h=>h.elim,λ_ _ _ _ _ _ _ _ w=>w⟩
theorem CW(hK:X.K=T.K)(ha:QE X T E l m):QI X T E tg l (λZ=>(m Z).bind qC):=by
 obtain⟨tl,pl,f⟩:=ha;refine⟨_,Y0 pl,λg Z b h H Q R S w=>f g Z b h H _ R S (W.bind w λi x p j H1 r c d w1=>?_)⟩;cases x with
 |tup xs=>
  cases d with
  |tup e hr=>exact⟨_,rfl,.inr ⟨⟨_,hK▸e⟩,by rw[hK];exact W.here w1 c<|EL e hr⟩⟩
 |ref n=>
  cases d with
  |@ref _ a q=>
   simp only[Gp]at w1;cases o:j.ob n with
   |none=>rw[o]at w1;cases w1|some u=>
    rw[o]at w1;cases u with
    |lst mu xs=>obtain⟨k,g1,s⟩:=uF c o q;exact⟨a,rfl,.inl ⟨⟨k,hK▸g1⟩,by rw[hK];exact W.here w1 c<|EJ q⟩⟩
    |aP _=>cases w1|dD _=>cases w1|ins _ _=>cases w1
 |_=>cases w1
theorem Lr(h:lY j=aB):-(2 ^ 62)<=j/\j<2 ^ 62:=by simp only[lY,bT,decide_eq_true_eq]at h;exact h
theorem aCt(hg:Gl X "range") (hm:X.mg "range"=aD) (ha:QA X T E [a] mr) (hs:bY a=aB):QI X T E tg (.Call (.Name "range" p) [a] [] pos) (λZ=>(mr Z).bind xy):=by
 obtain⟨tr,pr,f⟩:=ha;refine⟨_,X8 hg hm pr (by rw[fP hs];rfl),λg Z b h H Q R S w=>f g Z b h H _ R S (W.bind w λi xs k d H1 q l m w1=>?_)⟩;cases m with
 |nil=>cases w1|cons e rs=>
  cases rs with
  |nil=>
   cases e with
   |int j=>
    simp only[xy]at w1;by_cases c:lY j=aB
    .rw[if_pos c]at w1;obtain⟨d,n⟩:=Lr c;exact⟨j,rfl,d,n,W.here w1 l EK⟩
    .rw[if_neg c]at w1;cases w1
   |_=>exact w1.elim
  |cons r o=>cases e<;>exact w1.elim
theorem aCu(hg:Gl X "range") (hm:X.mg "range"=aD) (ha:QA X T E [a,b] mr) (hs:bY a=aB) (hs2:bY b=aB):QI X T E tg (.Call (.Name "range" p) [a,b] [] pos) (λZ=>(mr Z).bind ya):=by
 obtain⟨tr,pr,l⟩:=ha;refine⟨_,X9 hg hm pr (by rw[fP hs,fP hs2];rfl) (by rw[fP hs2];rfl),λm Z d h H Q R S w=>l m Z d h H _ R S (W.bind w λn xs o g H1 v q r w1=>?_)⟩;cases r with
 |nil=>cases w1|cons e rs=>
  cases rs with
  |nil=>cases e<;>cases w1|cons k f=>
   cases f with
   |nil=>
    cases e with
    |int i=>
     cases k with
     |int j=>
      simp only[ya]at w1;by_cases c:(lY i&&lY j)=aB
      .rw[if_pos c]at w1;rw[bT]at c;obtain⟨g,s⟩:=Lr c.1;obtain⟨t,u⟩:=Lr c.2;exact⟨i,j,rfl,⟨g,s,t,u⟩,W.here w1 q EK⟩
      .rw[if_neg c]at w1;cases w1
     |_=>cases w1
    |_=>cases w1
   |cons _ _=>cases e<;>first|cases w1|(cases k<;>cases w1)
def vj(kd:Bool)(K:bH)(a:Addr):It:=
 ⟨λi H=>∃xs x,yF kd K H a xs/\xs[i]?=aA x,λi H x H'=>∃T y,H T=aD/\x = .ref T/\H'=bE H T (.tup [.int i,y])/\∀xs,yF kd K H a xs->xs[i]?=aA y,λi H=>∃xs,yF kd K H a xs/\xs.length<=i⟩
theorem aMe{Z:L2.St}{ch:S1}{Tt:Addr}{its:Fv}(I:Inv X pins Z H s)(hf:∀b∈ch,kJ X pins H b)
  (k:∀b o,b∉ch->s.heap.get? b=aA o->h'.get? b=aA o)(th:∀b∈ch,∃o,h'.get? b=aA o)(hT:s.heap.objs.size<=Tt)(ht:IsTup h' Tt its.toArray)(rv:Vals ys its)(hz:ys.length<=sizeLine) :
  Inv X pins Z (bE H Tt<|.tup ys) { s with heap:=h',toks:=tk }:=by
 have hn:=I.aZ.fresh hT;have a:∀b u,H b=aA u->b∉ch:=λb u e hb=>by rw[(hf b hb).1]at e;cases e
 have d:=λhb=>(hf _ hb).2.1 rfl;refine I.step (λb hb=>⟨(hf b hb).2.2.2.1,(hf b hb).2.1,(hf b hb).2.2.2.2.1,(hf b hb).2.2.2.2.2⟩) (λb o _ _ hc e _=>k b o hc e) (λb o _ _ hc e _=>⟨o.slots,k b o hc e⟩)
  (λb o _ e n=>by rw[bX (cC<|bF (dF e) hT)];exact n) (λb o hc e=>⟨o,k b o hc e⟩)
  (λb xs e=>by rw[bX (jN e hn)];exact e) (λb o u e=>by rw[bX (jN e hn)];exact e) (λb ps e=>⟨#[],by rw[bX (jN e hn),e];simp⟩) (λm hm=>?_) (λb u e=>?_) I.bare
 .obtain⟨o,f,g,h,r⟩:=hm;exact⟨o,f,g,k _ o d h,r⟩
 .by_cases hb:b=Tt
  .subst hb;rw[gI]at e;cases e;exact⟨hz,its,rv,ht⟩
  .rw[bX hb]at e;refine(I.aZ b u e).uS (λc v hc q=>k c v ?_ q) (λc q=>by rw[bX (jN q hn)];exact q) λc xs q=>by rw[bX (jN q hn)];exact q
   rcases hc with rfl|hc
   .exact a _ _ e
   .exact a _ _ hc
theorem aMc{Z:L2.St}{ch:S1}(I:Inv X pins Z H s)(hf:∀b∈ch,kJ X pins H b)
  (k:∀b o,b∉ch->s.heap.get? b=aA o->h'.get? b=aA o):Inv X pins Z H { s with heap:=h',toks:=tk }:=by
 have a:∀b u,H b=aA u->b∉ch:=λb u e hb=>by rw[(hf b hb).1]at e;cases e
 have d:=λhb=>(hf _ hb).2.1 rfl;refine I.step (λb hb=>⟨(hf b hb).2.2.2.1,(hf b hb).2.1,(hf b hb).2.2.2.2.1,(hf b hb).2.2.2.2.2⟩) (λb o _ _ hc e _=>k b o hc e) (λb o _ _ hc e _=>⟨o.slots,k b o hc e⟩)
  (λb o _ e n=>n) (λb o hc e=>⟨o,k b o hc e⟩) (λb xs e=>e) (λb o u e=>e) (λb ps e=>⟨#[],by rw[e];simp⟩) (λm hm=>?_) (λb u e=>?_) I.bare
 .obtain⟨o,f,g,h,r⟩:=hm;exact⟨o,f,g,k _ o d h,r⟩
 .refine(I.aZ b u e).uS (λc v hc q=>k c v ?_ q) (λc q=>q) λc xs q=>q;rcases hc with rfl|hc
  .exact a _ _ e
  .exact a _ _ hc
theorem Mf{Z:L2.St}{l:Addr}{xs:Fx}(I:Inv X pins Z H s)(h:yF kd X.K H l xs):∃its:Fv,Vals xs its/\tG kd s.heap l its.toArray:=by
 cases kd with
 |true=>obtain⟨its,a,p,_⟩:=I.list h;exact⟨its,a,p.isList⟩|false=>obtain⟨its,a,p,_⟩:=I.tuple h;exact⟨its,a,p⟩
theorem aIz{Z:L2.St}{l:Addr}{xs:Fx}(I:Inv X pins Z H s)(h:yF kd X.K H l xs)(h':yF kd X.K H l ys):xs=ys:=by
 cases kd with
 |true=>exact I.AF h h'|false=>exact I.GO h h'
theorem tG.at{kd:Bool}{h h':bS}{l:Addr}{items:WV}(st:tG kd h l items)(f:∀o,h.get? l=aA o->h'.get? l=aA o):tG kd h' l items:=by
 cases kd with
 |true=>exact Heap.IsList.at st f|false=>obtain⟨o,a,r⟩:=(st);exact⟨o,f _ a,r⟩
theorem VS(hh:A.handled=aD)(kd:Bool)(it l:Addr)(hne:l≠it)(items:WV):Draws prog w A it [it,l] items.size (λi v=>items[i]?=aA v) (λi h=>tH kd h it l i/\tG kd h l items):=by
 cases kd with
 |true=>exact Draws.list hh it l hne items|false=>exact VU hh it l hne items
theorem VT(hh:A.handled=aD)(kd:Bool)(it l:Addr)(items:WV)(n:Nat)(hn:items[n]?=aD):Draws prog w A it [it,l] n (λ_ _=>True) (λi h=>i=n/\tH kd h it l n/\tG kd h l items) where
 live:=λ_ _ st=>st.2.1.live.elim λo e=>⟨o,e.1⟩
 frame:=λ_ _ _ st a=>⟨st.1,st.2.1.at λo e=>a it (.head _) o e,st.2.2.at λo e=>a l (.tail _<|.head _) o e⟩
 item:=λi s Q E c st d=>absurd c (by rw[st.1];exact oH _)
 done:=λs Q E st b=>by
  cases kd with
  |true=>exact wpAny_nextOf_list_end hh st.2.1 st.2.2 hn b|false=>exact BA hh st.2.1 st.2.2 hn b
theorem aLw{K:bH}{k:Nat}(kd:Bool)(a en it:Addr)(h1:en≠it)(h2:a≠en)(h3:a≠it) :
  Turn P w K (.Tuple elts k tp) (vj kd K a) [en,it] en (λi h=>(∃old,IsEnum h en it i old)/\tH kd h it a i) where
 mem:=.head _
 obj:=λi h st b hb=>by
  obtain⟨⟨old,he⟩,hit⟩:=st;rcases List.mem_cons.mp hb with rfl|hb
  .exact⟨_,he,λv z=>by cases z⟩
  .cases List.mem_singleton.mp hb;exact hit.live
 keep:=λi h h' st k=>⟨st.1.elim λold he=>⟨old,k en (.head _) _ he⟩,st.2.at λo e=>k it (.tail _<|.head _) o e⟩
 item:=by
  intro X hP hw hK hc i pins s Z H E I hf st hg;subst hP hw hK;obtain⟨xs,x,hq,hx⟩:=hg;obtain⟨its,rv,p⟩:=Mf I hq;obtain⟨u,hu,ru⟩:=rv.get hx;have hu':its.toArray[i]?=aA u:=by simpa using hu
  have W:=WalksT.enumerateD (VS (prog:=X.prog) (w:=X.w) (A:=Around.in1 _) (I.ok.hd hc) kd it a h3 its.toArray) en h1 (by simp[h1,h2.symm]) (by simp);refine W.item i s _ _ (Array.getElem?_eq_some_iff.mp hu').1 ⟨st.1,st.2,p⟩ λTt vals h' tk hv hT u0 Yx kk=>?_;obtain⟨t,x',hx',rfl⟩:=hv;cases hu'.symm.trans hx';refine⟨.ref Tt,rfl,?_⟩;refine W.go elts k tp i Tt { s with heap:=h',toks:=tk } _ _ Yx λh'' hst kk2=>?_;obtain⟨he2,hit2,hl2⟩:=hst;have u3:IsTup h'' Tt #[.int i t,u]:=u0.elim λo e=>⟨o,kk2 _ _ (W.apart i Tt _ Yx) e.1,e.2⟩;have I2:Inv X pins Z (bE H Tt<|.tup [.int i,x]) { s with heap:=h'',toks:=tk }:=aMe (its:=[.int i t,u]) I hf (λb o hb e=>kk2 b o hb (kk b o hb e)) (λb hb=>by
   rcases List.mem_cons.mp hb with rfl|hb
   .exact he2.elim λ_ he=>⟨_,he⟩
   .cases List.mem_singleton.mp hb;exact hit2.live.elim λo e=>⟨o,e.1⟩) hT u3 (.cons ⟨t,rfl⟩<|.cons ru .nil) (by show 2<=sizeLine;decide)
  refine⟨.ref Tt,_,I2,rfl,⟨Tt,x,I.aZ.fresh hT,rfl,rfl,λzs hzs=>by rw[aIz I hzs hq];exact hx⟩,⟨he2,hit2⟩,λb hb=>?_⟩;have hb':b<s.heap.objs.size:=by
   rcases List.mem_cons.mp hb with rfl|hb
   .exact st.1.elim λ_ he=>dF he
   .cases List.mem_singleton.mp hb;exact st.2.live.elim λ_ e=>dF e.1
  rw[bX (cC<|bF hb' hT)];exact(hf b hb).1
 done:=by intro X hP hw hK hc i pins s Z H E I hf st hg;subst hP hw hK;obtain⟨xs,hq,hx⟩:=hg;obtain⟨its,rv,p⟩:=Mf I hq;obtain⟨⟨old,he⟩,hit⟩:=st;exact wpAny_pyNext_enum_endD (VT (A:=Around.in1 _) (I.ok.hd hc) kd it a its.toArray i (by rw[JK];exact JI (by rw[<- rv.length];exact hx))) he ⟨rfl,hit,p⟩ λh' eb=>⟨rfl,aMc (tk:=s.toks) I hf λb o hb e=>eb b o (λz=>hb (z ▸ .tail _ (.head _))) e⟩
 self:=λA i s Q E st h=>st.1.elim λ_ he=>MH he h
def u5(K:bH)(ta:TA):TI:=λZ H R=>ta Z H λvs H1=>∃kd a,vs=[.ref a]/\(∃xs,yF kd K H1 a xs)/\R (vj kd K a) H1
theorem TK{E:Value->aK->Prop}{l:Addr}{Q:Value->aK->Prop}(v1:tG kd s.heap l items)
  (h:∀h',IsEnum h' (s.heap.objs.size+1) s.heap.objs.size 0 .none->tH kd h' s.heap.objs.size l 0->h'.objs.size=s.heap.objs.size+2->(∀b o,s.heap.get? b=aA o->h'.get? b=aA o)->Q (.ref<|s.heap.objs.size+1) { s with heap:=h' }):aU (aY prog w) A (call (.type "enumerate") [.ref l]) Q E s:=by
 cases kd with
 |true=>exact call_enumerate_list v1 h|false=>exact TL v1 h
theorem tG.lt{h:bS}{l:Addr}(v:tG kd h l items):l<h.objs.size:=by
 cases kd with
 |true=>obtain⟨o,e,_⟩:=(v);exact dF e|false=>obtain⟨o,e,_⟩:=(v);exact dF e
theorem X7{k:Nat}{ta:TA}(hg:Gl X "enumerate")(hm:X.mg "enumerate"=aD)(ha:PA X [a] ta)(hs:eC [a] X.env=[(aG,eval a X.env)]):PI X (.Tuple elts k tp) (.Call (.Name "enumerate" p) [a] [] pos) (u5 X.K ta):=by
 intro pins s f H R I h;refine Call_<|zL I hg hm boot_enumerate<|Cm (bA (ha pos pins s f H _ I h) λus s1 ⟨t,H1,c,g,i⟩=>?_) hs rfl;obtain⟨kd,a,e,⟨xs,j⟩,q⟩:=i;subst e;cases g with
 |cons r l=>
  cases l;cases r;obtain⟨m,u,p⟩:=Mf c j;refine TK p λv he d n o=>MH he ?_;refine⟨s1.heap.objs.size+1,[s1.heap.objs.size+1,s1.heap.objs.size],_,_,H1,rfl,c.kept o,aLw kd a _ _ (tB<|cM _) (cC<|kG p.lt) (cC p.lt),⟨⟨_,he⟩,d⟩,λb hb=>?_,q⟩;rcases List.mem_cons.mp hb with rfl|hb
  .exact c.wG (iJ _)<|c.aZ.fresh<|iJ _
  .cases List.mem_singleton.mp hb;exact c.wG (aV _)<|c.aZ.fresh<|aV _
theorem aHi{a:Addr}(q:Y[n]?=aA a):RI T Y H (lA<|lH n) (
vj aB T.K a
):=by
 intro b d f i e R;obtain⟨g,h⟩:=EJ q b d f i e R;unfold lA;cases o:lH n i d with
 |none=>exact⟨λz=>(by cases z),λv z=>(by cases z)⟩|some u=>
  cases u with
  |none=>exact⟨λ_=>g o,λv z=>(by cases z)⟩|some v=>refine⟨λz=>(by cases z),λp z=>?_⟩;cases z;obtain⟨g1,g2⟩:=h v o;refine⟨g1,λx r j=>?_⟩;obtain⟨s,y,hn,rfl,rfl,k⟩:=j;obtain⟨c,l,R2,m⟩:=g2 y f ⟨rfl,k⟩;exact⟨c,⟨l.pre,(Ext.kP (Y:=b) hn).tup,(Ext.kP (Y:=b) hn).cZ⟩,R2.keep hn,.tup (.of gI) (.cons (.int _)<|.cons (m.ext<|.kP hn) .nil)⟩
theorem aHj{a:Addr}(hq:eG T.K H a ys)(r:bD T Y H xs ys):RI T Y H (lA<|kQ xs) (
vj aG T.K a
):=by
 intro b d f i e R;obtain⟨g,h⟩:=EL hq r b d f i e R;unfold lA;cases o:kQ xs i d with
 |none=>exact⟨λz=>(by cases z),λv z=>(by cases z)⟩|some u=>
  cases u with
  |none=>exact⟨λ_=>g o,λv z=>(by cases z)⟩|some v=>refine⟨λz=>(by cases z),λn z=>?_⟩;cases z;obtain⟨g1,g2⟩:=h v o;refine⟨g1,λx p j=>?_⟩;obtain⟨q,y,hn,rfl,rfl,k⟩:=j;obtain⟨c,l,R2,m⟩:=g2 y f ⟨rfl,k⟩;exact⟨c,⟨l.pre,(Ext.kP (Y:=b) hn).tup,(Ext.kP (Y:=b) hn).cZ⟩,R2.keep hn,.tup (.of gI) (.cons (.int _)<|.cons (m.ext<|.kP hn) .nil)⟩
theorem aCs{k:Nat}(hK:X.K=T.K)(hg:Gl X "enumerate")(hm:X.mg "enumerate"=aD)(ha:QE X T E a m)(hs:bY a=aB) :
  QI X T E (.Tuple elts k tp) (.Call (.Name "enumerate" p) [a] [] pos) (λZ=>(m Z).bind xw):=by
 obtain⟨ta,pa,f⟩:=ha;refine⟨_,X7 hg hm (wR pa zR<|fP hs) (by rw[fP hs];rfl),λg Z b h H Q R S w=>f g Z b h H _ R S (W.bind w λi x r j H1 s c d w1=>?_)⟩;cases x with
 |tup xs=>
  cases d with
  |tup e hr=>exact⟨aG,_,rfl,⟨_,hK▸e⟩,by rw[hK];exact W.here w1 c<|aHj e hr⟩
 |ref n=>
  cases d with
  |@ref _ a q=>
   simp only[xw]at w1;cases o:j.ob n with
   |none=>rw[o]at w1;cases w1|some u=>
    rw[o]at w1;cases u with
    |lst mu xs=>obtain⟨l,g1,t⟩:=uF c o q;exact⟨aB,a,rfl,⟨l,hK▸g1⟩,by rw[hK];exact W.here w1 c<|aHi q⟩
    |aP _=>cases w1|dD _=>cases w1|ins _ _=>cases w1
 |_=>exact w1.elim
def iM(xs:Fu)(lo hi:Ft):Fu:=(xs.drop<|HT.bZ xs.length 0 lo).take (HT.bZ xs.length xs.length hi-HT.bZ xs.length 0 lo)
theorem Vj(r:bD T Y H xs ys)(lo hi:Ft):bD T Y H (iM xs lo hi) (fe ys lo hi):=by unfold iM fe;rw[<- r.length];exact(r.drop _).take _
def qF(x:AV)(lo hi:Ft):M AV:=λh=>match x with
 |.ref n=>match h.ob n with
  |some (.lst _ xs)=>jW (iM xs lo hi) h
  |_=>.bad
 |.tup xs=>if HT.bZ xs.length 0 lo=0/\HT.bZ xs.length xs.length hi=xs.length then .bad else .ok (.tup<|iM xs lo hi) h
 |_=>.bad
def MO:Rl Ft Ft:=λ_ _ a b=>a=b
def QO(X:Cx)(T:Tab)(E:XK)(o:Option aI)(m:aF->M Ft):Prop:=
 ∃t,PO X o t/\∀Y Z Z' h H Q,bQ T Y h H->cT T Y H Z Z'->W T MO (m Z h) Y H Q E->t Z' H Q
def Gq(v:AV):M Ft:=λh=>match v with
 |.int i=>.ok (aA i) h
 |_=>.bad
theorem aFo:QO X T E aD (λ_=>M.ret aD):=⟨_,Z2,λb c a h H Q R S w=>W.here w R rfl⟩
theorem DE(ha:QE X T E a m):QO X T E (aA a) (λZ=>(m Z).bind Gq):=by
 obtain⟨ta,pa,c⟩:=ha;refine⟨_,Z3 pa,λd Z b h H Q R S w=>c d Z b h H _ R S (W.bind w λe x j k H1 l f g w1=>?_)⟩;cases x with
 |int i=>cases g;exact⟨i,rfl,W.here w1 f rfl⟩|_=>exact w1.elim
theorem aCl(hK:X.K=T.K){lo hi:Option aI}{ml mh:aF->M Ft}(ha:QE X T E a m)(hl:QO X T E lo ml)(hh:QO X T E hi mh) :
  QE X T E (.Subscript a (.Slice lo hi aD p2) pos) (λZ=>(m Z).bind λx=>(ml Z).bind λl=>(mh Z).bind λu=>qF x l u):=by
 obtain⟨ta,pa,r⟩:=ha;obtain⟨tl,pl,s⟩:=hl;obtain⟨th,t,v⟩:=hh;refine⟨_,W6 (aIf.or aIg) pa pl t,λy Z b h H Q R S w=>r y Z b h H _ R S (W.bind w λd x x' z H1 j A q1 w1=>?_)⟩;refine s d Z b z H1 _ A (S.ext j)<|W.bind w1 λe l l' h2 H2 k R2 q2 w2=>?_;refine v e Z b h2 H2 _ R2 ((S.ext j).ext k)<|W.bind w2 λρ3 u u' h3 H3 e3 f q3 w3=>?_;cases(q2);cases(q3);have c:=(q1.ext k).ext e3;cases x with
 |ref n=>
  cases c with
  |@ref _ a q=>
   simp only[qF]at w3;cases o:h3.ob n with
   |none=>rw[o]at w3;cases w3|some ob=>
    rw[o]at w3;cases ob with
    |lst mu xs=>obtain⟨g,g1,r1⟩:=uF f o q;exact .inl ⟨a,g,rfl,hK▸g1,λp i=>wQ f (Vj r1 l u) i w3⟩
    |aP _=>cases w3|dD _=>cases w3|ins _ _=>cases w3
 |tup xs=>
  cases c with
  |@tup a _ g hq hr=>
   simp only[qF]at w3;by_cases hw:HT.bZ xs.length 0 l=0/\HT.bZ xs.length xs.length u=xs.length
   .rw[if_pos hw]at w3;cases w3
   .rw[if_neg hw]at w3;refine .inr ⟨a,g,rfl,hK▸hq,hr.length▸hw,λp i=>zd f (Vj hr l u) i w3⟩
 |_=>exact w3.elim
def ot(xs:Fu):M AV:=λh=>match xs with
 |[.str z]=>if z.length<=sizeLine then .ok (.int z.length) h else .bad
 |[x]=>match dS h x with
  |some ys=>.ok (.int ys.length) h
  |none=>.bad
 |_=>.bad
def Xy(xs:Fu):M AV:=λh=>match xs with
 |[.int i]=>.ok (.int i) h
 |[.bl k]=>.ok (.int<|if k then 1 else 0) h
 |_=>.bad
def wK:Fu->Option (Int×Int)
 |[.int i,.int j]=>aA (i,j)
 |_=>aD
def oA:Fu->Ws
 |[x]=>aA x
 |_=>aD
def Yc(xs:Fu):M AV:=λh=>match wK xs with
 |some (i,j)=>.ok (.int<|if j<i then j else i) h
 |none=>.bad
def Yb(xs:Fu):M AV:=λh=>match wK xs with
 |some (i,j)=>.ok (.int<|if j > i then j else i) h
 |none=>.bad
def xv(xs:Fu):M AV:=λh=>match wK xs with
 |some (i,j)=>if pU j=aB then .ok (.tup [.int (i / j),.int (i%j)]) h else .bad
 |none=>.bad
def sF:aN->AV
 |.inl i=>.int i
 |.inr x=>.str x
theorem Zi(k:aN):aT T Y H (sF k) (kV k):=by
 cases k with
 |inl i=>exact .int i|inr x=>exact .str x
theorem Zm{T:Tab}{Y:S1}{H:Hp}{ys:Fx}:∀{kvs:List (aN×AV)},bD T Y H (kvs.map (·.2)) ys->bD T Y H (kvs.map λp=>sF p.1) (((kvs.map (·.1)).zip ys).map λp=>kV p.1)
 |[],.nil=>.nil
 |p::r,.cons h t=>.cons (Zi p.1) (Zm t)
def Fi(h:AH):AV->Option (List AV)
 |.ref n=>match h.ob n with
  |some (.aP kvs)=>aA (kvs.map λp=>sF p.1)
  |_=>aD
 |_=>aD
def yc(xs:Fu):M AV:=λh=>match (oA xs).bind (dS h) with
 |some ys=>.ok (.tup ys) h
 |none=>.bad
def zB(xs:Fu):M AV:=λh=>match (oA xs).bind (dS h) with
 |some ys=>jW ys h
 |none=>match (oA xs).bind (Fi h) with
  |some ys=>jW ys h
  |none=>.bad
theorem x6(h:wK xs=aA (i,j)):xs=[.int i,.int j]:=by
 unfold wK at h;split at h
 .cases h;rfl
 .cases h
theorem BL(h:oA xs=aA x):xs=[x]:=by
 unfold oA at h;split at h
 .cases h;rfl
 .cases h
theorem UP(hK:X.K=T.K):oO X T E (.builtin "len") ot:=by
 refine⟨_,TQ.or TR,λf h H xs g Q R r w=>?_⟩;cases r with
 |nil=>cases w|@cons x i _ _ d rs=>
  cases rs with
  |nil=>
   have go:(∀z,x ≠ .str z)->(∃p a,[i]=[.ref p]/\(dM X.K H p a\/eG X.K H p a)/\Q (.int a.length) H):=λj=>by
    have b:W T (aT T) (match dS h x with
     |some a=>Res.ok (.int a.length) h
     |none=>.bad) f H Q E:=by
      cases x with
      |str z=>exact absurd rfl<|j z|_=>exact w
    cases o:dS h x with
    |none=>rw[o]at b;cases b|some a=>rw[o]at b;obtain⟨p,zs,e,k,hr⟩:=iw R d o;refine⟨p,zs,by rw[e],hK▸k,?_⟩;rw[<- hr.length];exact b.here R<|.int _
   cases x with
   |str z=>
    cases d;simp only[ot]at w;by_cases c:z.length<=sizeLine
    .rw[if_pos c]at w;exact .inr ⟨z,rfl,c,w.here R (.int _)⟩
    .rw[if_neg c]at w;cases w
   |_=>exact .inl (go λz e=>by cases e)
  |cons m l=>cases x<;>exact w.elim
theorem UO:oO X T E (.type "int") Xy:=by
 refine⟨_,TM,λd h H xs b Q R r w=>?_⟩;cases r with
 |nil=>cases w|cons a rs=>
  cases rs with
  |nil=>
   cases a with
   |int i=>exact .inl ⟨i,rfl,W.here w R (.int _)⟩
   |bl k=>exact .inr ⟨k,rfl,W.here w R (.int _)⟩
   |_=>exact w.elim
  |cons e c=>cases a<;>exact w.elim
theorem Fe{f:Value}{k:Int->Int->M AV}{r:Fx->Hp->VK->Prop}(hr:jL X f r)
  (hw:∀Y h H i j Q,bQ T Y h H->W T (aT T) (k i j h) Y H Q E->r [.int i,.int j] H Q):oO X T E f (λxs h=>match wK xs with
   |some (i,j)=>k i j h
   |none=>.bad):=by
 refine⟨_,hr,λY h H xs b Q R c w=>?_⟩;cases o:wK xs with
 |none=>simp only[o]at w;exact w.elim|some q=>
  obtain⟨i,j⟩:=q;have e:=x6 o;subst e;cases c with
  |cons d rs=>
   cases d;cases rs with
   |cons g a=>cases g;cases a;exact hw Y h H i j Q R w
theorem US(hc:X.calm=aB):oO X T E (.builtin "min") Yc:=Fe (TY hc) λY h H i j Q R w=>⟨i,j,rfl,W.here w R (.int _)⟩
theorem UR(hc:X.calm=aB):oO X T E (.builtin "max") Yb:=Fe (TX hc) λY h H i j Q R w=>⟨i,j,rfl,W.here w R (.int _)⟩
theorem TJ:jL X (.builtin "divmod") (λxs H Q=>∃i j,xs=[.int i,.int j]/\(0<j/\j<2 ^ 1000)/\∀p,H p=aD->Q (.ref p) (bE H p<|.tup [.int (i / j),.int (i%j)])):=by intro pins s d H xs us Q I r h;obtain⟨i,j,rfl,⟨a,c⟩,q⟩:=h;obtain⟨u,f,rfl,⟨t,rfl⟩,⟨g,rfl⟩⟩:=xA r;refine divmod_int (by lia) ?_<|.inl<|KS<|log2_lt c a;rw[Ol i (by omega),IJ i (by omega)];have hn:=I.aZ.fresh (aV _);refine⟨.ref s.heap.objs.size,_,?_,rfl,q _ hn⟩;refine I.laid (λb o e=>dO _ e) (aV _) ⟨by simp only[eK];decide,[.int (i / j) s.toks,.int (i%j) (s.toks+1)],.cons ⟨_,rfl⟩ (.cons ⟨_,rfl⟩ .nil),?_⟩;exact⟨_,jG s.heap rfl,rfl,0,rfl⟩
theorem UN:oO X T E (.builtin "divmod") xv:=Fe TJ λc h H i j Q R w=>by
 by_cases a:pU j=aB
 .simp only[if_pos a]at w;exact⟨i,j,rfl,Vs a,λp b=>zd R (.cons (.int _)<|.cons (.int _) .nil) b w⟩
 .simp only[if_neg a]at w;exact w.elim
theorem BM{k:Fu->M AV}(R:bQ T Y h H)(r:bD T Y H xs gZ)(w:W T (aT T) ((match (oA xs).bind (dS h) with
  |some ys=>k ys h
  |none=>.bad:Res AV)) Y H Q E):∃p ys zs,gZ=[.ref p]/\(dM T.K H p zs\/eG T.K H p zs)/\bD T Y H ys zs/\W T (aT T) (k ys h) Y H Q E:=by
 cases a:oA xs with
 |none=>rw[a]at w;cases w|some x=>
  rw[a]at w;simp only[jJ]at w;have e:=BL a;subst e;cases r with
  |cons b rs=>
   cases rs;cases o:dS h x with
   |none=>rw[o]at w;exact w.elim|some ys=>rw[o]at w;obtain⟨p,zs,e,c,hr⟩:=iw R b o;exact⟨p,ys,zs,by rw[e],c,hr,w⟩
theorem UT(hK:X.K=T.K):oO X T E (.type "tuple") yc:=by
 refine⟨_,UD,λc h H xs b Q R r w=>?_⟩;obtain⟨p,d,zs,rfl,hq,hr,a⟩:=BM R r w;rcases hq with hq|hq
 .exact⟨p,zs,rfl,.inl ⟨hK▸hq,λl hl=>zd R hr hl a⟩⟩
 .exact⟨p,zs,rfl,.inr ⟨hK▸hq,W.here a R (.tup hq hr)⟩⟩
theorem UQ(hK:X.K=T.K)(hc:X.calm=aB):oO X T E (.type "list") zB:=by
 refine⟨_,TV.or (TU hc),λd h H xs f Q R r w=>?_⟩;unfold zB at w;cases o:(oA xs).bind (dS h) with
 |some b=>
  have w1:W T (aT T) ((match (oA xs).bind (dS h) with
   |some b=>jW b h
   |none=>.bad:Res AV)) d H Q E:=by rw[o]at w ⊢;exact w
  obtain⟨p,b,zs,rfl,g,hr,i⟩:=BM R r w1;exact .inl ⟨p,zs,rfl,hK▸g,λl hl=>wQ R hr hl i⟩
 |none=>
  rw[o]at w;refine .inr ?_;cases c:oA xs with
  |none=>rw[c]at w;cases w|some x=>
   rw[c]at w;simp only[jJ]at w;have e:=BL c;subst e;cases r with
   |cons j rs=>
    cases rs;cases x with
    |ref n=>
     cases j with
     |@ref _ a q=>
      simp only[Fi]at w;cases ob:h.ob n with
      |none=>rw[ob]at w;cases w|some u=>
       rw[ob]at w;cases u with
       |aP k=>obtain⟨ks,b,g1,rfl,m⟩:=R.obj n _ a ob q;exact⟨a,_,rfl,g1,λl hl=>wQ R (Zm m) hl w⟩
       |_=>cases w
    |_=>exact w.elim
theorem aBo{x:Str}{id:String}{g:Fu->M AV} (hc:oO X T E (.builtin id) g) (hg:Gl X x) (hm:X.mg x=aD) (hv:mT x=aA (.builtin id)) (ha:QA X T E (e::es) mr) (hs:(e::es).all bY=aB) (hn:x≠"__name__") (hd:(x==("__debug__":Str))=aG) :
  QE X T E (.Call (.Name x p) (e::es) [] pos) (λZ=>(mr Z).bind g):=by
 obtain⟨r,hr,a⟩:=hc;obtain⟨tr,pr,f⟩:=ha;rw[jI,bT]at hs;exact⟨_,zm hr hg hm hv pr hn hd (fP hs.1) (uR hs.2),λi Z b h H Q R S w=>f i Z b h H _ R S (W.bind w λc xs d j H1 m k l w1=>a c j H1 xs d Q k l w1)⟩
theorem aBp{x:Str}{id:String}{g:Fu->M AV} (hc:oO X T E (.type id) g) (hg:Gl X x) (hm:X.mg x=aD) (hv:mT x=aA (.type id)) (ha:QA X T E (e::es) mr) (hs:(e::es).all bY=aB) (hn:x≠"__name__") (hd:(x==("__debug__":Str))=aG) :
  QE X T E (.Call (.Name x p) (e::es) [] pos) (λZ=>(mr Z).bind g):=by
 obtain⟨r,hr,a⟩:=hc;obtain⟨tr,pr,f⟩:=ha;rw[jI,bT]at hs;exact⟨_,U5 hr hg hm hv pr hn hd (fP hs.1) (uR hs.2),λi Z b h H Q R S w=>f i Z b h H _ R S (W.bind w λc xs d j H1 m k l w1=>a c j H1 xs d Q k l w1)⟩
end
def nZ{α:Type}(m:M α):M α:=λh=>match m h with
 |.ok a h1=>.ok a h1
 |_=>.bad
theorem BE{α β:Type}{Rp:Rl α β}{m:M α}{Q:β->Hp->Prop}{E':XK}(w:W T Rp (nZ m h) Y H Q E):W T Rp (m h) Y H Q E':=by
 unfold nZ at w;cases e:m h with
 |ok a h1=>rw[e]at w;exact w|bad=>rw[e]at w;exact w.elim
theorem M.bind_assoc{α β γ:Type}(m:M α)(k:α->M β)(l:β->M γ):(m.bind k).bind l=m.bind λx=>(k x).bind l:=by
 funext h
 unfold M.bind;cases m h<;>rfl
def eI(it:gT)(g:AV->aF->M aF)(mt:aF->M Bool)(me:aF->M AV):Nat->Nat->Fu->aF->M Fu
 |0,_,_,_=>M.bad
 |f+1,i,ys,σ=>λh=>match it i h with
  |none=>.bad
  |some aD=>.ok ys h
  |some (aA v)=>((nZ<|g v σ).bind λσ1=>(nZ<|mt σ1).bind λb=>if b=aB then(me σ1).bind λy=>M.guard (ys.length<sizeLine) (eI it g mt me f (i+1) (ys++[y]) σ1) else eI it g mt me f (i+1) ys σ1) h
def mJ{α:Type}(imp:WU)(Z:List (Option α)):List (Option α):=imp.map λo=>match o with
 |some j=>(Z[j]?).getD aD
 |none=>aD
def yM(mi:M gT)(g:AV->aF->M aF)(mt:aF->M Bool)(me:aF->M AV)(imp:WU)(Z:aF):M AV:=mi.bind λit=>(eI it g mt me FU 0 []<|mJ imp Z).bind jW
def GD(T:Tab)(E:XK)(m:aF->M AV):TE:=λZ' H Q=>∃Y Z h,bQ T Y h H/\cT T Y H Z Z'/\W T (aT T) (m Z h) Y H Q E
def GC(T:Tab)(m:aF->M Bool):TT:=λZ' H Q=>∃Y Z h,bQ T Y h H/\cT T Y H Z Z'/\W T RB (m Z h) Y H Q E0
def GB(T:Tab)(g:AV->aF->M aF):TG:=λv' Z' H Q=>∃Y v Z h,bQ T Y h H/\cT T Y H Z Z'/\aT T Y H v v'/\W T (cT T) (g v Z h) Y H Q E0
section
variable {elt cO:aI}{ct:Option aI}{me:aF->M AV}{mt:aF->M Bool}{mi:aF->M gT}{g:AV->aF->M aF}{imp:WU}{N':WL}
theorem QE.canon(h:QE X T E e m):PE X e (GD T E m):=let ⟨t,p,r⟩:=h;λpins s a H Q I ⟨b,c,h,R,S,w⟩=>p pins s a H Q I (r b c a h H Q R S w)
theorem QT.canon{m:aF->M Bool}(h:QT X T E0 e m):PT X e (GC T m):=let ⟨t,p,r⟩:=h;λpins s a H Q I ⟨b,c,h,R,S,w⟩=>p pins s a H Q I (r b c a h H Q R S w)
theorem QG.canon{g:AV->aF->M aF}(h:QG X T E0 e g):PG X e (GB T g):=let ⟨t,p,r⟩:=h;λpins s a H b u Q I c ⟨d,v,f,h,R,S,i,w⟩=>p pins s a H b u Q I c (r d v b f a h H Q R S i w)
theorem yh{α:Type}(Z:List (Option α)):(mJ imp Z).length=imp.length:=by simp[mJ]
theorem Hh{α:Type}{Z:List (Option α)}{i:Nat}{v:α}(h:(mJ imp Z)[i]?=aA (aA v)):∃j,imp[i]?=aA (aA j)/\Z[j]?=aA (aA v):=by
 unfold mJ at h;rw[fR]at h;cases e:imp[i]? with
 |none=>rw[e]at h;cases h|some o=>
  rw[e]at h;cases o with
  |none=>cases h|some j=>
   refine⟨j,rfl,?_⟩;have a:(Z[j]?).getD aD=aA v:=dJ h;cases q:Z[j]? with
   |none=>rw[q]at a;cases a|some w=>rw[q]at a;exact congrArg aA a
theorem cT.x4(S:cT T Y H Z Z'):cT T Y H (mJ imp Z) (mJ imp Z'):=by refine⟨by rw[yh,yh],λi v e=>?_⟩;obtain⟨j,a,b⟩:=Hh e;obtain⟨c,d,r⟩:=S.2 j v b;refine⟨c,?_,r⟩;unfold mJ;rw[fR,a];show aA ((Z'[j]?).getD aD)=_;rw[d];rfl
theorem Vc{wi:TI}(ri:∀Y Z Z' h H R,bQ T Y h H->cT T Y H Z Z'->W T (RI T) (mi Z h) Y H R E->wi Z' H R)(R:bQ T Y h H)(S:cT T Y H Z Z')
  (w:W T (aT T) (yM (mi Z) g mt me imp Z h) Y H Q E):Mm wi (mJ imp) (GB T g) (GC T mt) (GD T E me) Z' H Q:=by
 refine ri Y Z Z' h H _ R S<|W.bind w λs it J h1 H1 I R1 V w1=>?_;refine⟨λi m t Z' H=>∃Y a Z h,Ext s H1 Y H/\bQ T Y h H/\cT T Y H Z Z'/\bD T Y H a t/\W T (aT T) (((eI it g mt me m i a Z).bind jW) h) Y H Q E,FU,⟨s,[],_,h1,.refl,R1,(S.ext I).x4,.nil,w1⟩,?_⟩;rintro i m t Z' H ⟨Y,a,Z,h,e,R,S,n,w⟩
 cases m with
 |zero=>cases w|succ f=>
  cases l:it i h with
  |none=>
   have q:W T (aT T) Res.bad Y H Q E:=by simp only[eI,M.bind,l]at w;exact w
   cases q
  |some o=>
   cases o with
   |none=>
    have q:W T (aT T) (jW a h) Y H Q E:=by simp only[eI,M.bind,l]at w;exact w
    exact .inl ⟨(V Y h H i e R).1 l,λD hD=>wQ R n hD q⟩
   |some v=>
    have q:W T (aT T) ((((nZ<|g v Z).bind λc=>(nZ<|mt c).bind λb=>if b=aB then(me c).bind λy=>M.guard (a.length<sizeLine) (eI it g mt me f (i+1) (a++[y]) c) else eI it g mt me f (i+1) a c).bind jW) h) Y H Q E:=by
     have I:∀k:Fu->M AV,((eI it g mt me (f+1) i a Z).bind k) h=((((nZ<|g v Z).bind λc=>(nZ<|mt c).bind λb=>if b=aB then(me c).bind λy=>M.guard (a.length<sizeLine) (eI it g mt me f (i+1) (a++[y]) c) else eI it g mt me f (i+1) a c).bind k) h):=λk=>by unfold M.bind;simp only[eI,l];rfl
     rw[I]at w;exact w
    rw[M.bind_assoc]at q;obtain⟨go,yl⟩:=(V Y h H i e R).2 v l;refine .inr ⟨go,λx H2 y=>?_⟩;obtain⟨K,r,R2,rv⟩:=yl x H2 y;refine⟨K,v,Z,h,R2,S.ext r,rv,BE (W.bind (q.ext r) λL j X h3 H3 B R3 C w3=>?_)⟩;rw[M.bind_assoc]at w3;refine⟨L,j,h3,R3,C,BE (W.bind w3 λu d d' XE H4 p Wz q4 F=>?_)⟩;have N:=q4;subst N;cases d with
    |true=>
     rw[if_pos rfl]at F ⊢;rw[M.bind_assoc]at F;refine⟨u,j,XE,Wz,C.ext p,W.bind F λz y y' A H5 O R5 q5 G=>?_⟩;by_cases P:a.length<sizeLine
     .have w6:W T (aT T) (((eI it g mt me f (i+1) (a++[y]) j).bind jW) A) z H5 Q E:=by
       have U:((M.guard (a.length<sizeLine)<|eI it g mt me f (i+1) (a++[y]) j).bind jW) A=((eI it g mt me f (i+1) (a++[y]) j).bind jW) A:=by unfold M.bind M.guard;rw[if_pos P]
       rw[U]at G;exact G
      exact⟨by rw[<- n.length];exact P,f,cM f,z,a++[y],j,A,((((e.trans r).trans B).trans p).trans O),R5,(C.ext p).ext O,(n.ext<|((r.trans B).trans p).trans O).append (.cons q5 .nil),w6⟩
     .have U:((M.guard (a.length<sizeLine)<|eI it g mt me f (i+1) (a++[y]) j).bind jW) A = .bad:=by unfold M.bind M.guard;rw[if_neg P]
      rw[U]at G;cases G
    |false=>exact⟨f,cM f,u,a,j,XE,((e.trans r).trans B).trans p,Wz,C.ext p,n.ext ((r.trans B).trans p),F⟩
theorem CN(hsc:oP X N' scope)(sD:X.calm=aB)(hi:QI X T E tg cO mi)(hg:∀s H C fp,QG (X.comp N' scope s H C fp) T E0 tg g)(hct:∀c,ct=aA c->∀s H C fp,QT (X.comp N' scope s H C fp) T E0 c mt)
  (hct0:ct=aD->mt=λ_=>M.ret aB) (he:∀s H C fp,QE (X.comp N' scope s H C fp) T E0 elt me) (himp:imp.length=N'.length)
  (hσ:∀(i j:Nat) x,N'[i]?=aA x->imp[i]?=aA (aA j)->scope.names.lookup x=aA .free/\(x,iV)∈scope.names/\X.N[j]?=aA x) (hs:bY cO=aB) :
  QE X T E (.ListComp elt [⟨tg,cO,ct.toList,0⟩] scope pos) (λZ=>yM (mi Z) g mt me imp Z):=by
 obtain⟨wi,pi,d⟩:=hi;refine⟨_,U8 hsc sD pi (λs H C fp=>(hg s H C fp).canon) (λc e s H C fp=>(hct c e s H C fp).canon) (λe Z H Q=>?_) (λs H C fp=>(he s H C fp).canon) (λZ=>by rw[yh,himp]) (λZ i x v f k=>?_) λx=>Ly hs,λl Z m h H Q R S w=>Vc d R S w⟩
 .rintro ⟨l,Z,h,R,S,w⟩
  rw[hct0 e]at w;exact W.here w R rfl
 .obtain⟨j,n,o⟩:=Hh k;obtain⟨a,b,c⟩:=hσ i j x f n;exact⟨a,b,j,c,o⟩
theorem DG{i:Nat}{y:Str}{pB:Pos}(hN:X.N.Nodup)(hi':X.N[i]?=aA y)(hy:X.env.scope.names.lookup y=aA .local)
  (hsw:vM (.ListComp elt [⟨tg,cO,ct.toList,0⟩] scope pos) (aA<|.Name y py) pB.line X.env=pure aB)(hsc:oP X N' scope)(sD:X.calm=aB)(hi:QI X T E tg cO mi)(hg:∀s H C fp,QG (X.comp N' scope s H C fp) T E0 tg g)(hct:∀c,ct=aA c->∀s H C fp,QT (X.comp N' scope s H C fp) T E0 c mt)
  (hct0:ct=aD->mt=λ_=>M.ret aB)(he:∀s H C fp,QE (X.comp N' scope s H C fp) T E0 elt me)(himp:imp.length=N'.length)
  (hσ:∀(i j:Nat) x,N'[i]?=aA x->imp[i]?=aA (aA j)->scope.names.lookup x=aA .free/\(x,iV)∈scope.names/\X.N[j]?=aA x)(hs:bY cO=aB) :
  QS X T E (.Assign [.Name y py] (.ListComp elt [⟨tg,cO,ct.toList,0⟩] scope pos) pB) (λσ=>(yM (mi σ) g mt me imp σ).bind λv=>(M.ret<|σ.set i<|aA v).bind λσ1=>M.ret (.nx σ1)):=by
 obtain⟨wi,pi,l⟩:=hi;refine⟨_,aAr hN hi' hy hsw hsc sD pi (λs H C fp=>(hg s H C fp).canon) (λc e s H C fp=>(hct c e s H C fp).canon) (λe σ H Q=>?_) (λs H C fp=>(he s H C fp).canon) (λσ=>by rw[yh,himp]) (λσ i x v d m=>?_) λx=>Ly hs,
  λn σ f h H D R S w=>Vc l R S (W.bind w λo x p k H1 d q r w1=>W.here (b:=jK.nx (f.set i<|aA p)) w1 q ((S.ext d).set r i))⟩
 .rintro ⟨n,σ,h,R,S,w⟩
  rw[hct0 e]at w;exact W.here w R rfl
 .obtain⟨j,k,t⟩:=Hh m;obtain⟨a,b,c⟩:=hσ i j x d k;exact⟨a,b,j,c,t⟩
end
section
variable {l:aI}{st:Stmt}
def lS(ks:List aN):gT:=λi _=>match ks[i]? with
 |some k=>aA (aA<|sF k)
 |none=>if i=ks.length then aA aD else aD
def oe(v:AV):M gT:=λh=>match v with
 |.ref n=>match h.ob n with
  |some (.aP kvs)=>.ok (lS<|kvs.map (·.1)) (h.put n<|.dD kvs)
  |_=>.bad
 |_=>.bad
def tj{α:Type}(n:Nat)(r:Res α):Res α:=match r with
 |.ok a h=>match h.ob n with
  |some (.dD kvs)=>.ok a (h.put n<|.aP kvs)
  |_=>.bad
 |_=>.bad
theorem aHh{o:Obj}(hH:H a=aA (.cZ o<|.dK<|(kvs.map (·.1)).zip ys))(hl:ys.length=kvs.length):RI T Y H (lS<|kvs.map (·.1)) (Dr a o<|(kvs.map (·.1)).zip ys):=by
 intro d j l i e R;have b:=e.cZ _ _ _ hH;have hlen:((kvs.map (·.1)).zip ys).length=kvs.length:=by simp[hl]
 refine⟨λz=>?_,λv z=>?_⟩
 .unfold lS at z;cases q:(kvs.map (·.1))[i]? with
  |some k=>rw[q]at z;cases z|none=>
   rw[q]at z;by_cases c:i=(kvs.map (·.1)).length
   .exact⟨b,by rw[hlen];simpa using c.symm⟩
   .rw[if_neg c]at z;cases z
 .unfold lS at z;cases q:(kvs.map (·.1))[i]? with
  |none=>rw[q]at z;dsimp only at z;split at z<;>cases z
  |some k=>
   rw[q]at z;cases z;have c:i<kvs.length:=by simpa using (List.getElem?_eq_some_iff.mp q).1
   refine⟨⟨b,hlen▸c⟩,λx m y=>?_⟩;obtain⟨rfl,h,n,f,rfl⟩:=y;have g:h=k:=by rw[JL]at f;rw[q]at f;exact(dJ f.1).symm
   subst g;exact⟨d,.refl,R,Zi h⟩
theorem aCr(ha:QE X T E l m):QI X T E tg l (λZ=>(m Z).bind oe):=by
 obtain⟨tl,pl,k⟩:=ha;refine⟨_,X6 pl,λp Z f h H R r S w=>k p Z f h H _ r S (W.bind w λc v C s H1 D g t w1=>?_)⟩;unfold oe at w1;cases v with
 |ref n=>
  cases t with
  |@ref _ a q=>
   dsimp only at w1;cases o:s.ob n with
   |none=>rw[o]at w1;cases w1|some u=>
    rw[o]at w1;cases u with
    |aP d=>
     obtain⟨ks,i,e,y,j⟩:=g.obj n _ a o q;subst y;refine⟨a,_,rfl,e,λob=>?_⟩;have ex:Ext c H1 c (bE H1 a<|.cZ ob<|.dK<|(d.map (·.1)).zip i):=⟨λ_ _ z=>z,λb xs z=>by
      rw[bX (rB z e λw=>by cases w)];exact z,λb x u z=>by
      rw[bX (rB z e λw=>by cases w)];exact z⟩
     obtain⟨A,B⟩:=g.write (o':=.dD d) o rfl rfl q e (λ_ z=>by cases z) (λ_ _ z=>by cases z) ⟨ob,_,i,gI,rfl,j.ext ex⟩;exact w1 c _ _ B A<|aHh gI (by have:=j.length;simpa using this.symm)
    |_=>exact w1.elim
 |_=>exact w1.elim
theorem aLs{α β:Type}{Rp:Rl α β}(sb:∀Y H H' a b,vN Y H H'->Rp Y H a b->Rp Y H' a b){r:Res α}{Q:β->Hp->Prop}(R:bQ T Y h H)(hn:h.ob n=aA (.aP kvs))
  (w:W T Rp (tj n r) Y H Q E):W T Rp r Y H (λb=>Tw H (Q b)) E:=by
 cases r with
 |ok a k=>
  intro d b H' e l q;unfold tj at w;dsimp only at w;cases o:k.ob n with
  |none=>rw[o]at w;exact w.elim|some u=>
   rw[o]at w;cases u with
   |dD g=>
    obtain⟨i,m,ks,s,j,_,_⟩:=R.at hn;obtain⟨ob,p,f,R2⟩:=l.Ms o (e.pre n i m);refine⟨i,_,ob,p,j,f,w d b _ ⟨e.pre,λc xs z=>?_,λc x u z=>?_⟩ R2 (sb _ _ _ _ _ (Wg f) q)⟩
    .have:=e.tup c xs z;rw[bX (λy=>by rw[y,f]at this;cases this)];exact this
    .have:=e.cZ c x u z;rw[bX (λy=>by rw[y,j]at z;cases z)];exact this
   |_=>exact w.elim
 |bad=>cases w
def wy(r:Res AV):WS:=match r with
 |.ok (.ref n) _=>aA n
 |_=>aD
def lZ{α:Type}(m0:aF->M AV)(ms:aF->M α):aF->M α:=λZ h=>match wy (m0 Z h) with
 |some n=>match h.ob n with
  |some (.aP _)=>tj n (ms Z h)
  |_=>.bad
 |none=>.bad
theorem GK{α β:Type}{Rp:Rl α β}(sb:∀Y H H' a b,vN Y H H'->Rp Y H a b->Rp Y H' a b){ma:aF->M α}{Q:β->Hp->Prop}(R:bQ T Y h H)
  (w:W T Rp (lZ m0 ma Z h) Y H Q E):W T Rp (ma Z h) Y H (λb=>Tw H (Q b)) E:=by
 unfold lZ at w;cases d:wy (m0 Z h) with
 |none=>rw[d]at w;exact w.elim|some n=>
  rw[d]at w;dsimp only at w;cases o:h.ob n with
  |none=>rw[o]at w;exact w.elim|some u=>
   rw[o]at w;cases u with
   |aP c=>exact aLs sb R o w|_=>exact w.elim
theorem cT.ext2{Y:S1}{H H':Hp}{Z:aF}{Z':L2.St}(S:cT T Y H Z Z')(e:vN Y H H'):cT T Y H' Z Z':=
 ⟨S.1,λi v q=>let ⟨c,a,b⟩:=S.2 i v q;⟨c,a,b.ext2 e⟩⟩
theorem aHp{a:Out}{b:jK}(e:vN Y H H')(r:RO T Y H a b):RO T Y H' a b:=by cases a<;>cases b<;>first|exact cT.ext2 r e|exact aT.ext2 e r|exact r
theorem DH(m0:aF->M AV)(hq:QS X T E st ms):QS X T E st (lZ m0 ms):=by
 obtain⟨t,p,r⟩:=hq;refine⟨_,aAs p,λd f c h H D R S w=>r d f c h H _ R S ?_⟩;have k:=GK (Rp:=RO T) (λd H g a b e q=>aHp e q) R w;have e:(λb=>Tw H (nI D b))=nI (Vx H D):=by funext b;cases b<;>rfl
 rw[e]at k;exact k
theorem CQ(m0:aF->M AV)(hq:QE X T E e m):QE X T E e (lZ m0 m):=by obtain⟨t,p,r⟩:=hq;exact⟨_,W7 p,λd f c h H Q R S w=>r d f c h H _ R S (GK (Rp:=aT T) (λd H g a b e q=>aT.ext2 e q) R w)⟩
end
inductive Kc where
 |any|srt (b:Bool)|za
 |sd
def vV:Fu->Option (List Bool)
 |[]=>aA []
 |.bl b::r=>(vV r).map (b::·)
 |_=>aD
def qG:Fu->Option (List Int)
 |[]=>aA []
 |.int b::r=>(qG r).map (b::·)
 |_=>aD
theorem Ug:∀bs:Wq,vV (bs.map AV.bl)=aA bs
 |[]=>rfl|b::bs=>by simp[vV,Ug bs]
theorem yk:∀bs:WK,qG (bs.map AV.int)=aA bs
 |[]=>rfl|b::bs=>by simp[qG,yk bs]
def Kc.gl:Kc->Fu->M AV
 |.any,xs=>λh=>match vV xs with
  |some bs=>.ok (.bl<|bs.any id) h
  |none=>.bad
 |.srt b,xs=>λh=>match qG xs with
  |some ns=>if ns.length<64 then jW ((kM b ns).map AV.int) h else .bad
  |none=>.bad
 |.za,xs=>λh=>match qG xs with
  |some ns=>.ok (if ns.isEmpty then .aH else .int (sI ns)) h
  |none=>.bad
 |.sd,xs=>λh=>match qG xs with
  |some ns=>if ns.length<64 then jW ((kM aG ns).map AV.int) h else .bad
  |none=>.bad
def Kc.g(k:Kc)(x:AV):M AV:=λh=>match x with
 |.ref n=>match h.ob n with
  |some (.lst _ xs)=>k.gl xs h
  |_=>.bad
 |_=>.bad
section
variable {a:aI}
theorem Ue{Y:S1}{H:Hp}:∀{xs:Fu}{ys:Fx}{bs:Wq},bD T Y H xs ys->vV xs=aA bs->ys=bs.map V.bl
 |_,_,_,.nil,e=>by cases e;rfl
 |_,_,_,.cons (xs:=xs) h t,e=>by
  cases h with
  |bl b=>
   simp only[vV]at e;cases q:vV xs with
   |none=>rw[q]at e;cases e|some bs=>rw[q]at e;cases e;rw[Ue t q];rfl
  |_=>cases e
theorem Hk{Y:S1}{H:Hp}:∀{xs:Fu}{ys:Fx}{bs:WK},bD T Y H xs ys->qG xs=aA bs->ys=bs.map V.int
 |_,_,_,.nil,e=>by cases e;rfl
 |_,_,_,.cons (xs:=xs) h t,e=>by
  cases h with
  |int b=>
   simp only[qG]at e;cases q:qG xs with
   |none=>rw[q]at e;cases e|some bs=>rw[q]at e;cases e;rw[Hk t q];rfl
  |_=>cases e
theorem yp(hK:X.K=T.K){k:Kc}(R:bQ T Y h H)(r:aT T Y H x x')(w:W T (aT T) (k.g x h) Y H Q E) :
  ∃(l:Addr) (xs:Fu) (ys:Fx),x' = .ref l/\dM X.K H l ys/\bD T Y H xs ys/\W T (aT T) (k.gl xs h) Y H Q E:=by
 unfold Kc.g at w;cases x with
 |ref n=>
  cases r with
  |@ref _ l q=>
   dsimp only at w;cases o:h.ob n with
   |none=>rw[o]at w;cases w|some u=>
    rw[o]at w;cases u with
    |lst b xs=>obtain⟨ys,a,c⟩:=uF R o q;exact⟨l,xs,ys,rfl,hK▸a,c,w⟩
    |_=>exact w.elim
 |_=>exact w.elim
theorem aBk(hK:X.K=T.K) (hc:X.calm=aB) (hg:Gl X "any") (hm:X.mg "any"=aD) (ha:QE X T E a m) (hs:bY a=aB):QE X T E (.Call (.Name "any" p) [a] [] pos) (λZ=>(m Z).bind (Kc.any.g)):=by
 obtain⟨ta,pa,d⟩:=ha;refine⟨_,zm (TF hc) hg hm (by decide +kernel) (wR pa zR<|fP hs) (by decide) (rfl) (fP hs) rfl,λf Z b h H Q R S w=>?_⟩;refine d f Z b h H _ R S<|W.bind w λg x k n H1 o c i w1=>?_;obtain⟨l,xs,r,rfl,j,hr,w2⟩:=yp hK c i w1;simp only[Kc.gl]at w2;cases q:vV xs with
 |none=>rw[q]at w2;cases w2|some bs=>rw[q]at w2;have e:=Ue hr q;subst e;exact⟨l,bs,rfl,j,w2.here c (.bl _)⟩
theorem FK(hr:bD T Y H xs ys)(w:W T (aT T) ((Kc.srt b).gl xs h) Y H Q E):∃ns:WK,ys=ns.map V.int/\ns.length<64/\W T (aT T) (jW ((kM b ns).map AV.int) h) Y H Q E:=by
 simp only[Kc.gl]at w;cases q:qG xs with
 |none=>rw[q]at w;exact w.elim|some ns=>
  rw[q]at w;dsimp only at w;by_cases hn:ns.length<64
  .rw[if_pos hn]at w;exact⟨ns,Hk hr q,hn,w⟩
  .rw[if_neg hn]at w;exact w.elim
theorem aCm(hK:X.K=T.K){k:Nat}{kp:Pos}(hg:Gl X "sorted")(hm:X.mg "sorted"=aD)(ha:QE X T E a m)(hs:bY a=aB) :
  QE X T E (.Call (.Name "sorted" p) [a] [⟨aA "reverse",.Constant (.bool b) k kq,kp⟩] pos) (λZ=>(m Z).bind ((Kc.srt b).g)):=by
 obtain⟨ta,pa,i⟩:=ha;refine⟨_,BY (r:=λv H Q=>∃l ns,v = .ref l/\dM X.K H l (ns.map V.int)/\ns.length<64/\∀D,H D=aD->Q (.ref D) (bE H D<|.lst<|(kM b ns).map V.int)) ?_ hg hm boot_sorted pa Jl (fP hs) (by decide) (rfl),λj Z c h H Q R S w=>?_⟩
 .intro pins s Z H v u n Q I o t ⟨l,ns,ev,d,hn,q⟩;subst ev;cases o;have e:=t;subst e;exact UB b I d hn q
 refine i j Z c h H _ R S<|W.bind w λy x B C H1 F f z w1=>?_;obtain⟨l,xs,G,rfl,d,hr,w2⟩:=yp hK f z w1;obtain⟨ns,rfl,hn,w3⟩:=FK hr w2;exact⟨l,ns,rfl,d,hn,λD A=>wQ f (bD.ints _) A w3⟩
theorem aCf(hK:X.K=T.K)(hc:X.calm=aB){k:Nat}{kp:Pos}(hg:Gl X "min")(hm:X.mg "min"=aD)(ha:QE X T E a m)(hs:bY a=aB) :
  QE X T E (.Call (.Name "min" p) [a] [⟨aA "default",.Constant .none k kq,kp⟩] pos) (λZ=>(m Z).bind (Kc.za.g)):=by
 obtain⟨ta,pa,f⟩:=ha;refine⟨_,BY (r:=λv H Q=>∃l ns,v = .ref l/\dM X.K H l (ns.map V.int)/\Q (if ns.isEmpty then .aH else .int (sI ns)) H) ?_ hg hm (show mT "min"=aA (.builtin "min") from by decide +kernel) pa Jm (fP hs) (by decide) (rfl),λg Z c h H Q R S w=>?_⟩
 .intro pins s Z H v u y Q I i j ⟨l,ns,ev,b,q⟩;subst ev;cases i;cases ns with
  |nil=>exact TZ hc I b j q|cons n r=>exact UA hc I b (by intro z;cases z) q
 refine f g Z c h H _ R S<|W.bind w λo x A B H1 C d t w1=>?_;obtain⟨l,xs,D,rfl,b,hr,w2⟩:=yp hK d t w1;simp only[Kc.gl]at w2;cases q:qG xs with
 |none=>rw[q]at w2;cases w2|some ns=>
  rw[q]at w2;have e:=Hk hr q;subst e;refine⟨l,ns,rfl,b,?_⟩;cases ns with
  |nil=>exact W.here w2 d .aH|cons n r=>exact W.here w2 d<|.int _
theorem aCk(hK:X.K=T.K) (hc:X.calm=aB) (hg:Gl X "sorted") (hm:X.mg "sorted"=aD) (ha:QE X T E a m) (hs:bY a=aB):QE X T E (.Call (.Name "sorted" p) [a] [] pos) (λZ=>(m Z).bind (Kc.sd.g)):=by obtain⟨ta,pa,d⟩:=ha;refine⟨_,zm UC hg hm boot_sorted (wR pa zR<|fP hs) (by decide) (rfl) (fP hs) rfl,λe Z b h H Q R S w=>?_⟩;refine d e Z b h H _ R S<|W.bind w λf x k n H1 o c g w1=>?_;obtain⟨l,xs,q,rfl,i,hr,w2⟩:=yp hK c g w1;obtain⟨ns,rfl,hn,w3⟩:=FK hr w2;exact⟨l,ns,rfl,i,hn,λD j=>wQ c (bD.ints _) j w3⟩
end
inductive BT where
 |aH|bl|int|str|tup|lst|aP
 deriving DecidableEq
def BT.nm:BT->String
 |.aH=>"NoneType" |.bl=>"bool" |.int=>"int" |.str=>"str" |.tup=>"tuple" |.lst=>"list" |.aP=>"dict"
def BT.sub(s t:BT):Bool:=decide (s=t)||(decide (s = .bl)&&decide (t = .int))
theorem zK{K:bH}(s t:BT):Qh K (.type s.nm) (.type t.nm)=aA (s.sub t):=by cases s<;>cases t<;>first|rfl|(with_unfolding_all rfl)|decide +kernel
inductive tI(K:bH)(H:Hp):V->BT->Prop where
 |aH:tI K H .aH .aH
 |bl (x:Bool):tI K H (.bl x) .bl
 |int (i:Int):tI K H (.int i) .int
 |str (x:Str):tI K H (.str x) .str
 |lst {a:Addr}{xs:Fx} (e:dM K H a xs):tI K H (.ref a) .lst
 |tup {a:Addr}{xs:Fx} (e:eG K H a xs):tI K H (.ref a) .tup
 |aP {a:Addr}{kvs:List (aN×V)} (e:H a=aA (.dK kvs)):tI K H (.ref a) .aP
def tK(h:AH):AV->Option BT
 |.aH=>aA .aH
 |.bl _=>aA .bl
 |.int _=>aA .int
 |.str _=>aA .str
 |.tup _=>aA .tup
 |.ref n=>match h.ob n with
  |some (.lst _ _)=>aA .lst
  |some (.aP _)=>aA .aP
  |_=>aD
 |_=>aD
def zA(t:BT)(x:AV):M AV:=λh=>match tK h x with
 |some s=>.ok (.bl<|s.sub t) h
 |none=>.bad
section
variable {a b l o:aI}
theorem TN(t:BT):jL X (.builtin "isinstance") (λxs H Q=>∃x s,xs=[x,.ty t.nm]/\tI X.K H x s/\Q (.bl<|s.sub t) H):=by
 intro pins st Z H xs us Q I r h;obtain⟨x,s,rfl,ty,q⟩:=h;obtain⟨u,g,rfl,b,d⟩:=xA r;obtain rfl:g=Qq t.nm:=d;have fin:∀tk,EP X pins Z Q (.bool<|s.sub t) { st with toks:=tk }:=λtk=>⟨.bl _,H,I.tok tk,rfl,q⟩;cases ty with
 |aH=>cases b;exact bo W.kitx_none I.fM mS (zK .aH t) (nofun) fin|bl y=>cases b;exact bo W.kitx_bool I.fM mS (zK .bl t) (nofun) fin|int i=>obtain⟨tk,rfl⟩:=b;exact bo W.kitx_int I.fM mS (zK .int t) (nofun) fin|str y=>obtain⟨tk,rfl⟩:=b;exact bo W.kitx_str I.fM mS (zK .str t) (nofun) fin|lst e=>cases b;obtain⟨_,_,⟨ob,n,h1,c,_⟩,_⟩:=I.list e;exact bo W.kitx_list I.fM ⟨ob,h1,c⟩ (zK .lst t) (nofun) fin
 |tup e=>cases b;obtain⟨_,_,⟨ob,h1,c,_⟩,_⟩:=I.tuple e;exact bo W.kitx_tuple I.fM ⟨ob,h1,c⟩ (zK .tup t) (nofun) fin
 |@aP a f e=>cases b;obtain⟨_,_,j,_,ob,k,l,h1,c,_⟩:=(show hU X.prog X.w H st.heap a (.dK f) from I.aZ a _ e);exact bo W.kitx_dict I.fM ⟨ob,h1,c.1⟩ (zK .aP t) (nofun) fin
theorem SW(hK:X.K=T.K){s:BT}(R:bQ T Y h H)(r:aT T Y H x x')(e:tK h x=aA s):tI X.K H x' s:=by
 cases r with
 |aH=>cases e;exact .aH|bl b=>cases e;exact .bl b|int i=>cases e;exact .int i|str y=>cases e;exact .str y|tup c hr=>cases e;exact .tup<|hK▸c|@ref n a q=>
  simp only[tK]at e;cases o:h.ob n with
  |none=>rw[o]at e;cases e|some u=>
   rw[o]at e;cases u with
   |lst m xs=>cases e;obtain⟨d,h1,_⟩:=uF R o q;exact .lst<|hK▸h1
   |aP f=>cases e;obtain⟨g,d,h1,_⟩:=R.obj n _ a o q;exact .aP h1
   |dD _=>cases e|ins _ _=>cases e
 |lE q=>cases e
theorem aBy(hK:X.K=T.K){y:Str}(t:BT)(hg:Gl X "isinstance")(hm:X.mg "isinstance"=aD)(hg2:Gl X y)(hm2:X.mg y=aD)(hv2:mT y=aA (.type t.nm))(hn2:y≠"__name__")(hd2:(y==("__debug__":Str))=aG)
  (ha:QE X T E a m)(hs:bY a=aB):QE X T E (.Call (.Name "isinstance" p) [a,.Name y p2] [] pos) (λZ=>(m Z).bind (zA t)):=by
 obtain⟨k,pa,e⟩:=ha;refine⟨_,zm (TN t) hg hm boot_isinstance (wR pa (wR (U1 (v:=.ty t.nm) hg2 hm2 hv2 rfl hn2 hd2) zR)<|fP hs) (by decide) (rfl) (fP hs) rfl,λf Z c h H Q R S w=>?_⟩;refine e f Z c h H _ R S<|W.bind w λg x i h1 H1 l d j b=>?_;unfold zA at b;cases o:tK h1 x with
 |none=>rw[o]at b;cases b|some s=>rw[o]at b;exact⟨i,s,rfl,SW hK d j o,b.here d (.bl _)⟩
def tT(x v:AV):M AV:=λh=>match x with
 |.ref n=>match h.ob n with
  |some (.lst aB xs)=>if xs.length<sizeLine then .ok .aH (h.put n<|.lst aB<|xs++[v]) else .bad
  |_=>.bad
 |_=>.bad
def zH(h:AH):AV->Bool
 |.ref n=>match h.ob n with
  |some (.lst _ _)=>aB
  |_=>aG
 |_=>aG
def Ea(a b:M AV):M AV:=a.bind λx h=>if zH h x=aB then(b.bind λy=>tT x y) h else .bad
theorem qs{α β:Type} [BEq α] [LawfulBEq α]:∀{l:List (α×β)}{x:α}{v:β},l.lookup x=aA v->(x,v)∈l
 |[],_,_,h=>by cases h
 | (k,u)::r,x,v,h=>by
  rw[iU]at h;cases hb:(x==k) with
  |true=>simp only[hb]at h;rw[eq_of_beq hb,dJ h];exact fS ..
  |false=>simp only[hb]at h;exact iI _<|qs h
def jT:aI->Bool
 |.Name ..=>aB | .Attribute ..=>aB | .Subscript ..=>aB
 |.Call (.Attribute ..) _ _ _=>aB
 |.Call (.Name ..) (_::_) _ _=>aB
 |_=>aG
theorem vU{o:aI}{f:Str}{whole:Sem Value}(h:jT o=aB):kj o f env whole=whole:=by
 cases o with
 |Name=>rfl|Attribute=>rfl|Subscript=>rfl|Call g a b p=>
  cases g with
  |Attribute=>rfl|Name=>
   cases a with
   |nil=>cases h|cons=>rfl
  |_=>cases h
 |_=>cases h
theorem ao{p:Addr}(g1:H p=aA O)(nt:∀xs,O ≠ .tup xs)(nf:∀x u,O ≠ .cZ x u):Ext Y H Y (bE H p O'):=⟨λ_ _ z=>z,λb xs z=>by
 rw[bX (rB z g1 λw=>nt xs w.symm)];exact z,λb x u z=>by
 rw[bX (rB z g1 λw=>nf x u w.symm)];exact z⟩
theorem aBl(hK:X.K=T.K)(ho:QE X T E o ma)(ha:QE X T E a mb)(hb:jT o=aB)(hs:bY a=aB)(hl:(apos.endLine==pos.line)=aB) :
  QE X T E (.Call (.Attribute o "append" apos) [a] [] pos) (λZ=>Ea (ma Z) (mb Z)):=by
 obtain⟨M,pa,B⟩:=ho;obtain⟨tb,C,D⟩:=ha;refine⟨_,BX LD aSb aSd G5 pa (wR C zR<|fP hs) (vU hb) (by rw[fP hs];rfl) hl (fP hs) rfl,λF Z k h H Q R S w=>?_⟩;refine B F Z k h H _ R S<|W.bind w λg x N h1 H1 G t I J=>?_;have e:=J;by_cases d:zH h1 x=aB
 case neg=>rw[if_neg d]at e;cases e
 rw[if_pos d]at e;cases x with
 |ref n=>
  cases I with
  |@ref _ p q=>
   have fin:∀b y i j f,Ext g H1 b f->bQ T b j f->aT T b f y i->W T (aT T) (tT (.ref n) y j) b f Q E->DQ (.ref p) [i] f Q:=λb y i j f l R2 m c=>by
    have v:=l.pre n p q;simp only[tT]at c;cases ob:j.ob n with
    |none=>rw[ob]at c;cases c|some u=>
     rw[ob]at c;cases u with
     |lst mu xs=>
      cases mu with
      |true=>
       obtain⟨r,g1,A⟩:=R2.obj n _ p ob v;by_cases s:xs.length<sizeLine
       .simp only[if_pos s]at c;obtain⟨K,L⟩:=R2.write (o':=.lst aB (xs++[y])) ob rfl rfl v g1 (nofun) (λ_ _ z=>by cases z)
         ⟨_,gI,(A.append<|.cons m .nil).ext (ao g1 (nofun) (λ_ _ z=>by cases z))⟩
        exact⟨p,r,i,rfl,rfl,g1,A.length▸s,W.ok c L K .aH⟩
       .simp only[if_neg s]at c;cases c
      |false=>cases c
     |aP _=>cases c|dD _=>cases c|ins _ _=>cases c
   refine⟨.inl ⟨rfl,?_⟩,D g Z k h1 H1 _ t (S.ext G) (W.bind e λb y i j f l R2 m c=>fin b y i j f l R2 m c)⟩;simp only[zH]at d;cases ob:h1.ob n with
   |none=>rw[ob]at d;cases d|some u=>
    cases u with
    |lst mu xs=>obtain⟨r,g1,_⟩:=uF t ob q;exact⟨r,hK▸g1⟩
    |aP _=>rw[ob]at d;cases d|dD _=>rw[ob]at d;cases d|ins _ _=>rw[ob]at d;cases d
 |_=>cases d
def ly(P:cD)(w:bW)(K:bH)(a:Addr)(kvs:WW):Prop:=∀h:bS,K.In h->StrTab P w h a (kvs.map λp=>(Pw p.1,rO p.2))
theorem E1(x:Str)(kvs:WW):LI (.str x) (kvs.map λp=>(Pw p.1,rO p.2))=(kvs.lookup x).map rO:=by
 induction kvs with
 |nil=>rfl|cons p r a=>
  obtain⟨k,v⟩:=p;rw[iU];show(if(k==x)=aB then aA (rO v) else LI (.str x) (r.map λp=>(Pw p.1,rO p.2)))=_;by_cases h:k=x
  .subst h;simp
  .have h1:=beq_eq_false_iff_ne.mpr h;have b:=beq_eq_false_iff_ne.mpr (mE h);rw[h1,b,if_neg gS,a]
def getOf(kvs:WW)(x:Str)(z:Int):Int:=(kvs.lookup x).getD z
def aKl(X:Cx)(to:TE)(t:TA):TE:=λZ H Q=>to Z H λx H1=>∃a kvs,x = .ref a/\ly X.prog X.w X.K a kvs/\t Z H1 λvs H2=>∃s z,vs=[.str s,.int z]/\Q (.int<|getOf kvs s z) H2
theorem V3{to:TE}{t:TA}(ho:PE X o to)(ha:PA X [a,b] t)(hb:jT o=aB)(hs:bY a=aB)(hs2:bY b=aB)(hl:(apos.endLine==pos.line)=aB):PE X (.Call (.Attribute o "get" apos) [a,b] [] pos) (aKl X to t):=by
 intro pins s Z H Q I h;refine MA (vU hb) (by rw[fP hs,fP hs2];rfl) hl rfl<|bA (ho pins s Z H _ I h) λv s1 j=>?_;obtain⟨x,H1,l,u,p,c,e,tab,w⟩:=j;subst e;cases u;obtain⟨hn,C,⟨ob,D,E,g1,g2,_⟩,_⟩:=id (tab _ l.fM);refine⟨"dict","dict.get",LC,kh,LH,⟨ob,g1,g2.1⟩,λF y=>?_,?_⟩
 .cases y;exact⟨ob,g1,g2.2.1⟩
 .have m:=ha pos pins s1 Z H1 _ l w;rw[fP hs]at m ⊢;refine Of (by show(aG||(lN pos<|eC [b] X.env).any (·.1))=aG;rw[fP hs2]<;>rfl)<|IB ?_;refine bA m λus s2 j=>?_;obtain⟨G,n,g,A,q,z,B,f⟩:=j;subst B;obtain⟨J,K,rfl,⟨t1,rfl⟩,⟨r,rfl⟩⟩:=xA A;have i:=E1 q c;unfold getOf at f;cases lk:c.lookup q with
  |some d=>
   rw[lk]at i f;exact W.kt_get2_thereS (tab _ g.fM) i (KR z r) λv k=>by obtain⟨t3,rfl⟩:=k.int_inv;exact⟨.int d,n,g.tok _,⟨_,rfl⟩,f⟩
  |none=>
   rw[lk]at i f;exact W.kt_get2_noneS (tab _ g.fM) i (KR z r) λv k=>by obtain⟨t3,rfl⟩:=k.int_inv;exact⟨.int z,n,g.tok _,⟨_,rfl⟩,f⟩
def GG:AV->Option (List<|Str×Int)
 |.lE kvs=>aA kvs
 |_=>aD
def iy:Fu->Option (Str×Int)
 |[.str s,.int z]=>aA (s,z)
 |_=>aD
theorem aJo{s:Str}{z:Int}(h:iy xs=aA (s,z)):xs=[.str s,.int z]:=by
 unfold iy at h;split at h
 .cases h;rfl
 .cases h
def Gv(o:M AV)(r:M Fu):M AV:=o.bind λx h=>match GG x with
 |some kvs=>(r.bind λxs h2=>match iy xs with
  |some (s,z)=>.ok (.int<|getOf kvs s z) h2
  |none=>.bad) h
 |none=>.bad
theorem aBw(hT:∀kvs a,T.G kvs a->ly X.prog X.w X.K a kvs)(ho:QE X T E o ma)(ha:QA X T E [a,b] mr)(hb:jT o=aB)(hs:bY a=aB)(hs2:bY b=aB)(hl:(apos.endLine==pos.line)=aB) :
  QE X T E (.Call (.Attribute o "get" apos) [a,b] [] pos) (λZ=>Gv (ma Z) (mr Z)):=by
 obtain⟨G,pa,m⟩:=ho;obtain⟨I,pr,n⟩:=ha;refine⟨_,V3 pa pr hb hs hs2 hl,λq Z c h H Q R S w=>m q Z c h H _ R S (W.bind w λd x J h1 H1 r t u v=>?_)⟩;have k:W T (aT T) (match GG x with
  |some kvs=>((mr Z).bind λxs f=>match iy xs with
   |some (s,z)=>.ok (.int<|getOf kvs s z) f
   |none=>.bad) h1
  |none=>Res.bad) d H1 Q E:=v
 cases x with
 |lE kvs=>
  cases u with
  |@lE _ p e=>
   refine⟨p,kvs,rfl,hT kvs p e,n d Z c h1 H1 _ t (S.ext r) (W.bind k λg xs y f A K R2 B C=>?_)⟩;have i:W T (aT T) (match iy xs with
    |some (s,z)=>.ok (.int<|getOf kvs s z) f
    |none=>Res.bad) g A Q E:=C
   cases l:iy xs with
   |none=>rw[l]at i;cases i|some p=>
    obtain⟨s,z⟩:=p;have ex:=aJo l;subst ex;cases B with
    |cons D rs=>
     cases D;cases rs with
     |cons F j=>cases F;cases j;exact⟨s,z,rfl,W.here i R2 (.int _)⟩
 |_=>exact k.elim
end
section
variable {o v:aI}{f:Str}{pos':Pos}
theorem Gf{v:AV}:∀{fs:WR}{ys:Fx},bD T Y H (fs.map (·.2)) ys->fs.lookup f=aA v->∃y,((fs.map (·.1)).zip ys).lookup f=aA y/\aT T Y H v y
 |[],_,_,l=>by cases l
 | (k,x)::fs,_,.cons h hs,l=>by
  rw[iU]at l;rw[hA,bc,iU];cases hb:(f==k) with
  |true=>simp only[hb]at l ⊢;cases l;exact⟨_,rfl,h⟩
  |false=>simp only[hb]at l ⊢;exact Gf hs l
def tU(cs:WT)(f:Str)(x:AV):M AV:=λh=>match x with
 |.ref n=>match h.ob n with
  |some (.ins c fs)=>if cs.contains c=aB then match fs.lookup f with
   |some v=>.ok v h
   |none=>.bad
   else .bad
  |_=>.bad
 |_=>.bad
def di(K:bH)(T:Tab)(cs:WT)(f:Str):Prop:=∀c C,cs.contains c=aB->T.C c=aA C->mU K C/\vP K C f
theorem aBv{cs:WT}(hC:di X.K T cs f)(ho:QE X T E o ma)(hb:jT o=aB):QE X T E (.Attribute o f pos) (λZ=>(ma Z).bind (tU cs f)):=by
 obtain⟨B,pa,e⟩:=ho;refine⟨_,V2 pa (vU hb),λi Z b h H Q R S w=>e i Z b h H _ R S (W.bind w λj x D h1 H1 F d k a=>?_)⟩;cases x with
 |ref n=>
  cases k with
  |@ref _ p q=>
   simp only[tU]at a;cases ob:h1.ob n with
   |none=>rw[ob]at a;cases a|some u=>
    rw[ob]at a;cases u with
    |ins c fs=>
     obtain⟨C,m,G,I,s,g,rfl,r⟩:=d.obj n _ p ob q;by_cases hm:cs.contains c=aB
     case neg=>simp only[if_neg hm]at a;cases a
     simp only[if_pos hm]at a;cases l:fs.lookup f with
     |none=>rw[l]at a;cases a|some v=>rw[l]at a;obtain⟨y,t,z⟩:=Gf r l;obtain⟨h1,A⟩:=hC c C hm s;exact⟨p,C,m,_,y,rfl,g,h1,A,t,W.here a d z⟩
    |_=>cases a
 |_=>cases a
def gL(f:Str)(v:AV):WR->WR
 |[]=>[(f,v)]
 | (g,x)::r=>if g=f then(g,v)::r else(g,x)::gL f v r
theorem Js{v:AV}{y:V}(rv:aT T Y H v y):∀{fs:WR}{ys:Fx},bD T Y H (fs.map (·.2)) ys->∃ys',jO f y ((fs.map (·.1)).zip ys)=((gL f v fs).map (·.1)).zip ys'/\bD T Y H ((gL f v fs).map (·.2)) ys'
 |[],_,.nil=>⟨[y],rfl,.cons rv .nil⟩
 | (k,x)::fs,_,.cons (y:=z) (ys:=zs) h hs=>by
  obtain⟨ys',e,r⟩:=Js rv hs;by_cases a:k=f
  .refine⟨y::zs,?_,?_⟩
   .simp only[gL,if_pos a,hA,bc,jO]
   .simp only[gL,if_pos a];exact .cons rv hs
  .refine⟨z::ys',?_,?_⟩
   .simp only[gL,if_neg a,hA,bc,jO,e]
   .simp only[gL,if_neg a];exact .cons h r
def sg(cs:WT)(f:Str)(x v:AV)(h:AH):Option AH:=match x with
 |.ref n=>match h.ob n with
  |some (.ins c fs)=>if cs.contains c=aB/\fs.length<1000 then aA (h.put n<|.ins c<|gL f v fs) else aD
  |_=>aD
 |_=>aD
def Xk(cs:WT)(f:Str)(a b:M AV)(Z:aF):M Out:=b.bind λv=>a.bind λx h=>match sg cs f x v h with
 |some h'=>.ok (.nx Z) h'
 |none=>.bad
theorem aFt{cs:WT}(hC:di X.K T cs f)(ho:QE X T E o ma)(hv:QE X T E v mb)(hs:vM v (aA<|.Attribute o f pos') pos.line X.env=pure aG) :
  QS X T E (.Assign [.Attribute o f pos'] v pos) (λZ=>Xk cs f (ma Z) (mb Z) Z):=by
 obtain⟨XA,pa,B⟩:=ho;obtain⟨tb,F,G⟩:=hv;refine⟨_,aAi pa F hs,λY Z d h H D R S w=>G Y Z d h H _ R S (W.bind w λj y y' h1 H1 l I J K=>B j Z d h1 H1 _ I (S.ext l) (W.bind K λe x x' m L s R2 M N=>?_))⟩;have a:W T (RO T) (match sg cs f x y m with
  |some O=>.ok (.nx Z) O
  |none=>.bad) e L (nI D) E:=N
 cases x with
 |ref n=>
  cases M with
  |@ref _ p q=>
   simp only[sg]at a;cases ob:m.ob n with
   |none=>simp only[ob]at a;cases a|some u=>
    simp only[ob]at a;cases u with
    |ins c fs=>
     obtain⟨C,k,ks,ys,t,g,rfl,r⟩:=R2.obj n _ p ob q;by_cases hm:cs.contains c=aB/\fs.length<1000
     case neg=>simp only[if_neg hm]at a;exact a.elim
     simp only[if_pos hm]at a;obtain⟨P,Q⟩:=hC c C hm.1 t;obtain⟨i,U,V⟩:=Js (f:=f) (J.ext s) r;have ex:=ao (Y:=e) (O':=.ins C k (((gL f y fs).map (·.1)).zip i)) g (λ_ z=>by cases z) (λ_ _ z=>by cases z);obtain⟨XF,A⟩:=R2.write (o':=.ins c (gL f y fs)) ob rfl rfl q g (λ_ z=>by cases z) (λ_ _ z=>by cases z)
      ⟨C,k,_,i,t,gI,rfl,V.ext ex⟩
     refine⟨p,C,k,_,rfl,g,P,Q,?_,?_⟩
     .rw[Oz,aR];lia
     .rw[U];exact W.ok (b:=jK.nx d) a A XF<|(S.ext l).ext (s.trans A)
    |_=>cases a
 |_=>exact a.elim
inductive yB(X:Cx)(T:Tab)(EE:L2.St->XK)(C:Addr)(m:Str)(g:Fu->M AV):Prop
 |mk (k:Nat) (f:Addr) (fd:eV) (ps:WL) (_:iK X.prog X.w X.K X.mg X.base (kH X.prog X.w) k f fd ps (sU T g)) (_:fI k X.A) (_:mU X.K C) (_:vm X.K C m f) (_:Binds X.K fd ps []) (_:Si (kH X.prog X.w) X EE):yB X T EE C m g
def FZ(X:Cx)(T:Tab)(m:Str)(EE:L2.St->XK)(ta:TE)(t:TA):TE:=λZ H Q=>ta Z H λx H1=>∃(a C dx:Addr) (fs:WZ) (g:Fu->M AV),x = .ref a/\H1 a=aA (.ins C dx fs)/\fs.lookup m=aD/\yB X T EE C m g /\
 t Z H1 λvs H2=>sU T g (x::vs) H2 Q (EE Z)
variable {EE:L2.St->XK}
variable {m:Str}{ta:TE}{t:TA}
theorem Fc{Xe:Value->aK->Prop}{Q:Value->aK->Prop}(h0:kj o m env (eval o env)=eval o env)
  (h1:Qz (args.length+([]:List sW).length) (lN pos<|eC args env) (xT pos<|xV [] env)=aB)(h2:(apos.endLine==pos.line)=aB)
  (h:aU (aY X.prog X.w) A (eval o env) (λov s1=>∀pl,aU (aY X.prog X.w) A (Qw ov m pl) (λfx s2=>aU (aY X.prog X.w) A (callWith pos fx.1 fx.2 (lN pos<|eC args env)<|xT pos<|xV [] env) Q Xe s2) Xe s1) Xe s) :
  aU (aY X.prog X.w) A (eval (.Call (.Attribute o m apos) args [] pos) env) Q Xe s:=by
 have a:LW aB o env apos pos=pure pos:=by unfold LW;simp[h2]
 rw[arm_eval_Call,h0];refine bB<|bA h λov s1 z=>bB (ky ?_);unfold methodCall;rw[h1];exact bB<|pJ<|bA (z _) λfx s2 y=>bB (wpAny_of_eq a y)
theorem Gi(hs:args.all bY=aB)(hn:args.length<30):Qz (args.length+([]:List sW).length) (lN pos<|eC args env) (xT pos<|xV [] env)=aB:=by unfold Qz;rw[<- JU,uR hs];simpa[xV,xT]using hn
theorem V9(he:PE X o ta)(ha:PA X (e::es) t)(hb:jT o=aB)(hs:(e::es).all bY=aB)(hn:(e::es).length<30)(hl:(apos.endLine==pos.line)=aB):PE X (.Call (.Attribute o m apos) (e::es) [] pos) (FZ X T m EE ta t):=by
 intro pins s Z H Q I h;have b:=hs;rw[jI,bT]at hs;refine Fc (vU hb) ?_ hl<|bA (he pins s Z H _ I h) λu s1 ⟨x,H1,i,n,a,C,y,fs,g,ex,p,l,F,q⟩ pl=>?_
 .exact Gi b hn
 subst ex;obtain rfl:u=kX a:=n;obtain⟨k,f,fd,ps,F,hr,c,hm,d,v⟩:=F;refine Yl i p c hm l ?_;refine Cr I.ok.mod.gc hm.kp (bA (ha pos pins s1 Z H1 _ i q) λus s2 ⟨vs,z,j,r,w⟩=>⟨j.fM,?_⟩) (fP hs.1)<|uR hs.2;exact EO (vs:=.ref a::vs) F hr d v j (.cons rfl r) w
theorem W0(he:PE X o ta)(hb:jT o=aB)(hl:(apos.endLine==pos.line)=aB):PE X (.Call (.Attribute o m apos) [] [] pos) (FZ X T m EE ta iz):=by intro pins s Z H Q I h;refine Fc (vU hb) (Gi rfl (by decide)) hl<|bA (he pins s Z H _ I h) λu s1 ⟨x,H1,b,e,a,C,n,fs,g,ex,i,l,F,q⟩ pl=>?_;subst ex;obtain rfl:u=kX a:=e;obtain⟨k,f,fd,ps,F,hr,c,hm,d,j⟩:=F;refine Yl b i c hm l ?_;exact Qe b.fM hm.kp<|EO (vs:=[.ref a]) F hr d j b (.cons rfl .nil) q
def qx(dp:Nat->Option (Fu->M AV))(m:Str)(r:M Fu)(x:AV):M AV:=λh=>match x with
 |.ref n=>match h.ob n with
  |some (.ins c fs)=>match dp c,fs.lookup m with
   |some g,aD=>(r.bind λxs=>g (.ref n::xs)) h
   |_,_=>.bad
  |_=>.bad
 |_=>.bad
def yz(dp:Nat->Option (Fu->M AV))(m:Str)(a:M AV)(r:M Fu):M AV:=a.bind (qx dp m r)
theorem Xl:∀{fs:WR}{ys:Fx},bD T Y H (fs.map (·.2)) ys->fs.lookup f=aD->((fs.map (·.1)).zip ys).lookup f=aD
 |[],_,.nil,_=>rfl
 | (k,x)::fs,_,.cons h hs,l=>by
  rw[iU]at l;rw[hA,bc,iU];cases hb:(f==k) with
  |true=>simp only[hb]at l;cases l|false=>simp only[hb]at l ⊢;exact Xl hs l
theorem AW{r:M Fu}(hM:∀c C g,dp c=aA g->T.C c=aA C->yB X T EE C m g)(R:bQ T Y h H)(q:aT T Y H x x')
  (w:W T (aT T) (qx dp m r x h) Y H Q (EE Z'))(rr:∀Q',W T (bD T) (r h) Y H Q' (EE Z')->t Z' H Q') :
  ∃(a C dx:Addr) (fs:WZ) (g:Fu->M AV),x' = .ref a/\H a=aA (.ins C dx fs)/\fs.lookup m=aD/\yB X T EE C m g/\t Z' H λvs H2=>sU T g (x'::vs) H2 Q (EE Z'):=by
 unfold qx at w;cases x with
 |ref n=>
  cases q with
  |@ref _ p q=>
   cases ob:h.ob n with
   |none=>simp only[ob]at w;cases w|some u=>
    simp only[ob]at w;cases u with
    |ins c fs=>
     obtain⟨C,dx,s,y,d,g1,rfl,e⟩:=R.obj n _ p ob q;cases hd:dp c with
     |none=>simp only[hd]at w;cases w|some g=>
      cases l:fs.lookup m with
      |some v=>simp only[hd,l]at w;exact w.elim|none=>simp only[hd,l]at w;exact⟨p,C,dx,_,g,rfl,g1,Xl e l,hM c C g hd d,rr _ (W.bind w λb xs f i H2 j R2 k o=>⟨b,i,.ref n::xs,R2,.cons (.ref<|j.pre n p q) k,o⟩)⟩
    |_=>cases w
 |_=>exact w.elim
theorem aCd(hM:∀c C g,dp c=aA g->T.C c=aA C->yB X T (λ_=>E) C m g)(ho:QE X T E o ma)(ha:QA X T E (e::es) mr)(hb:jT o=aB)(hs:(e::es).all bY=aB)
  (hn:(e::es).length<30)(hl:(apos.endLine==pos.line)=aB):QE X T E (.Call (.Attribute o m apos) (e::es) [] pos) (λZ=>yz dp m (ma Z) (mr Z)):=by
 obtain⟨q,pa,f⟩:=ho;obtain⟨r,pr,i⟩:=ha;exact⟨_,V9 pa pr hb hs hn hl,λj Z a h H Q R S w=>f j Z a h H _ R S (W.bind w λb x s h1 H1 k d l n=>AW hM d l n λt p=>i b Z a h1 H1 _ d (S.ext k) p)⟩
theorem aCe(hM:∀c C g,dp c=aA g->T.C c=aA C->yB X T (λ_=>E) C m g)(ho:QE X T E o ma)(hb:jT o=aB)(hl:(apos.endLine==pos.line)=aB) :
  QE X T E (.Call (.Attribute o m apos) [] [] pos) (λZ=>yz dp m (ma Z) (M.ret [])):=by
 obtain⟨l,pa,d⟩:=ho;exact⟨_,W0 pa hb hl,λe Z a h H Q R S w=>d e Z a h H _ R S (W.bind w λf x n h1 H1 p b i j=>AW hM b i j λq k=>W.here k b .nil)⟩
inductive vh(X:Cx)(T:Tab)(E:XK)(x:Str)(c:Nat)(dv:Fu)(g:Fu->M AV):Prop
 |mk (k:Nat) (C f:Addr) (fd:eV) (ps:WL) (ds:Fv) (dvs:Fx) (_:T.C c=aA C) (_:Mk X.K C f) (_:iK X.prog X.w X.K X.mg X.base (kH X.prog X.w) k f fd ps (sU T g)) (_:fI (k+1) X.A) (_:X.mg x=aA (.ref C)) (_:Binds X.K fd ps ds) (_:Vals dvs ds) (_:(∀Y H,bD T Y H dv dvs)) (_:rT (kH X.prog X.w) X E):vh X T E x c dv g
def isNone:AV->Bool
 |.aH=>aB
 |_=>aG
def yw(c:Nat)(dv:Fu)(g:Fu->M AV)(r:M Fu):M AV:=r.bind λxs h=>((g<|.ref h.nx::(xs++dv)).bind λv=>if isNone v=aB then M.ret (.ref h.nx) else M.bad) (h.new<|.ins c [])
theorem AU{c:Nat}{C dx:Addr}{g:Fu->M AV}(hc:T.C c=aA C)(R:bQ T Y h H)(r:bD T Y H xs ys)(h1:H a=aD)(h2:H dx=aD)(h3:dx≠a)
  (w:W T (aT T) (((g<|.ref h.nx::xs).bind λv=>if isNone v=aB then M.ret (.ref h.nx) else M.bad)<|h.new<|.ins c []) Y H Q E) :
  sU T g (.ref a::ys) (bE (bE H dx<|.own a) a<|.ins C dx []) (λv H2=>v = .aH/\Q (.ref a) H2) E:=by
 have f:Ext Y H Y (bE H dx<|.own a):=.kP h2;have hn:(bE H dx<|.own a) a=aD:=by rw[bX (mE h3)];exact h1
 obtain⟨R2,i⟩:=(R.keep (a:=dx) (o:=.own a) h2).alloc (o:=.ins c []) hn ⟨C,dx,[],[],hc,gI,rfl,.nil⟩;have e:=f.trans i;have b:(Y++[a])[h.nx]?=aA a:=by rw[<- R.len];simp
 refine⟨Y++[a],h.new (.ins c []),.ref h.nx::xs,R2,.cons (.ref b) (r.ext e),W.bind (w.ext e) λj v n h3 p k l m d=>?_⟩;cases v with
 |aH=>cases m;exact⟨rfl,W.here d l (.ref<|k.pre _ _ b)⟩
 |_=>exact d.elim
theorem aCb{x:Str}{c:Nat}{g:Fu->M AV}(F:vh X T E x c dv g)(hg:Gl X x)(ha:QA X T E (e::es) mr)(hs:(e::es).all bY=aB)(hd:(x==("__debug__":Str))=aG) :
  QE X T E (.Call (.Name x p) (e::es) [] pos) (λZ=>yw c dv g (mr Z)):=by
 obtain⟨k,C,f,fd,ps,ds,i,j,K,F,hr,hm,hb,l,b,m⟩:=F;obtain⟨A,pr,n⟩:=ha;rw[jI,bT]at hs;exact⟨_,V7 K F hr hg hm hb l m pr hd (fP hs.1) (uR hs.2),λo Z d h H Q R S w=>n o Z d h H _ R S (W.bind w λq xs r h1 H1 B s t u=>λa D v y z=>AU j s (t.append<|b _ _) v y z u)⟩
theorem aCc{x:Str}{c:Nat}{g:Fu->M AV}(F:vh X T E x c dv g)(hg:Gl X x)(hd:(x==("__debug__":Str))=aG) :
  QE X T E (.Call (.Name x p) [] [] pos) (λZ=>yw c dv g (M.ret [])):=by
 obtain⟨k,C,f,fd,ps,ds,d,e,K,F,hr,hm,hb,i,b,j⟩:=F;exact⟨_,V8 K F hr hg hm hb i j hd,λq Z l h H Q R S w=>λa r m n o=>AU e R (b _ _) m n o w⟩
def Ec(f:Str)(n c:Nat)(i:Int)(Z:aF)(y:AV):M Out:=λh=>match y with
 |.int j=>match h.ob n with
  |some (.ins c' fs)=>if c'=c/\fs.length<1000 then .ok (.nx Z) (h.put n<|.ins c<|gL f (.int<|i+j) fs) else .bad
  |_=>.bad
 |_=>.bad
def Sy(cs:WT)(f:Str)(a b:M AV)(Z:aF):M Out:=a.bind λx h=>match x with
 |.ref n=>match h.ob n with
  |some (.ins c fs)=>if cs.contains c=aB then match fs.lookup f with
   |some (.int i)=>(b.bind<|Ec f n c i Z) h
   |_=>.bad
   else .bad
  |_=>.bad
 |_=>.bad
theorem aFu{cs:WT}{tpos:Pos}(hC:di X.K T cs f)(ho:QE X T E o ma)(hv:QE X T E v mb) :
  QS X T E (.AugAssign (.Attribute o f tpos) .Add v pos) (λZ=>Sy cs f (ma Z) (mb Z) Z):=by
 obtain⟨ta,pa,P⟩:=ho;obtain⟨tb,Q,U⟩:=hv;refine⟨_,aAj pa Q x5,λY Z k h H D R S w=>P Y Z k h H _ R S (W.bind w λF x x' h1 H1 J K V a=>?_)⟩;cases x with
 |ref n=>
  cases V with
  |@ref _ p q=>
   cases ob:h1.ob n with
   |none=>simp only[ob]at a;cases a|some u=>
    simp only[ob]at a;cases u with
    |ins c fs=>
     obtain⟨C,XG,ks,ys,G,g,rfl,r⟩:=K.obj n _ p ob q;by_cases hm:cs.contains c=aB
     case neg=>simp only[if_neg hm]at a;cases a
     simp only[if_pos hm]at a;cases l:fs.lookup f with
     |none=>simp only[l]at a;cases a|some v1=>
      simp only[l]at a;cases v1 with
      |int i=>
       obtain⟨y1,XB,ry⟩:=Gf r l;cases ry;obtain⟨c1,c2⟩:=hC c C hm G;refine⟨p,C,XG,_,_,rfl,g,c1,c2,XB,U F Z k h1 H1 _ K (S.ext J) (W.bind a λI y y' h2 H2 L R2 q2 d=>?_)⟩;cases y with
       |int j=>
        cases q2;simp only[Ec]at d;cases e:h2.ob n with
        |none=>simp only[e]at d;cases d|some u2=>
         simp only[e]at d;cases u2 with
         |ins M m=>
          by_cases B:M=c/\m.length<1000
          case neg=>simp only[if_neg B]at d;cases d
          simp only[if_pos B]at d;obtain⟨rfl,B⟩:=B;have N:=L.pre n p q;obtain⟨C2,s,ks2,ys2,t,g2,rfl,r2⟩:=R2.obj n _ p e N;rw[G]at t;cases t;obtain⟨A,ez,rz⟩:=Js (.int _) r2;have ex:=ao (Y:=I) (O':=.ins C s (((gL f (.int<|i+j) m).map (·.1)).zip A)) g2 (nofun) (λ_ _ z=>by cases z);obtain⟨R3,O⟩:=R2.write (o':=.ins M (gL f (.int<|i+j) m)) e rfl rfl N g2 (nofun) (λ_ _ z=>by cases z)
           ⟨C,s,_,A,G,gI,rfl,rz.ext ex⟩
          refine⟨i,j,rfl,rfl,s,_,g2,?_,?_⟩
          .rw[Oz,aR];lia
          .rw[ez];exact W.ok (b:=jK.nx k) d O R3<|(S.ext J).ext (L.trans O)
         |_=>cases d
       |_=>cases d
      |_=>cases a
    |_=>cases a
 |_=>cases a
structure Se(K:bH)(C:Addr):Prop where
 cl:mU K C
 ha:nM K (.ref C) "__class__"=aA (aA<|.builtin "object.__class__")
 hn:Cv K (.builtin "object.__class__") "__get__"=aA (aA<|.builtin "getset_descriptor.__get__")
 ht:W.takesIn K (.builtin "object.__class__")=aA aB
 hm:W.mroIn K C (.type "object")=aA aB
def mv(sub:Bool)(i:Nat)(b:M AV)(Z:aF):M Out:=match Z[i]? with
 |some (aA<|.int a)=>b.bind λy=>match y with
  |.int j=>M.ret (.nx<|Z.set i<|aA<|.int<|if sub=aB then a-j else a+j)
  |_=>M.bad
 |_=>M.bad
theorem DF{i:Nat}{x:Str}(sub:Bool)(hN:X.N.Nodup)(hi:X.N[i]?=aA x)(hx:vO X.env.scope x)(hf:X.fn x=aB\/X.env.scope.names.lookup x=aA .local)(hv:QE X T E v mb) :
  QS X T E (.AugAssign (.Name x pos') (if sub=aB then .Sub else .Add) v pos) (λZ=>mv sub i (mb Z) Z):=by
 obtain⟨tb,e,f⟩:=hv;have k:vo X (if sub=aB then .Sub else .Add) (Hm λa j=>if sub=aB then a-j else a+j):=by
  cases sub
  .exact y3
  .exact y4
 refine⟨_,aAe hN hi hx e k hf,λm Z c h H D R S w=>?_⟩;unfold mv at w;cases l:Z[i]? with
 |none=>simp only[l]at w;exact w.elim|some u=>
  cases u with
  |none=>simp only[l]at w;exact w.elim|some a=>
   obtain⟨y,g,r⟩:=S.2 i a l;cases a with
   |int a=>
    simp only[l]at w;cases r;refine⟨_,g,f m Z c h H _ R S (W.bind w λn z s h1 H1 o p q d=>?_)⟩;cases z with
    |int j=>cases q;exact⟨a,j,rfl,rfl,W.here (b:=jK.nx (c.set i<|aA<|.int<|if sub=aB then a-j else a+j)) d p ((S.ext o).set (.int _) i)⟩
    |_=>exact d.elim
   |_=>simp only[l]at w;exact w.elim
inductive Dk(X:Cx)(T:Tab)(E:XK)(x m:Str)(g:Fu->M AV):Prop
 |mk (k:Nat) (C f:Addr) (fd:eV) (ps:WL) (_:X.mg x=aA (.ref C)) (_:iK X.prog X.w X.K X.mg X.base (kH X.prog X.w) k f fd ps (sU T g)) (_:fI k X.A) (_:tD X.K (.ref f)=aB) (_:Cv X.K (.ref C) "__getattribute__"=aA (aA<|.builtin "type.__getattribute__")) (_:Ql X.K C (.type "type")=aB) (_:Qg X.K (.ref C) (.type "type") m=aA (.val<|.ref f)) (_:Cs (.ref f)=aB) (_:Binds X.K fd ps []) (_:rT (kH X.prog X.w) X E):Dk X T E x m g
theorem aBr{x:Str}{g:Fu->M AV}(B:Dk X T E x m g)(hg:Gl X x)(hd:(x==("__debug__":Str))=aG)(ha:QA X T E (e::es) mr)(hs:(e::es).all bY=aB)(hn:(e::es).length<30)
  (hl:(apos.endLine==pos.line)=aB):QE X T E (.Call (.Attribute (.Name x p) m apos) (e::es) [] pos) (λZ=>(mr Z).bind g):=by
 obtain⟨k,C,f,fd,ps,hm,F,hr,kp,h1,o,t,z,hb,A⟩:=B;obtain⟨l,pr,D⟩:=ha;refine⟨λZ H Q=>l Z H λa b=>sU T g a b Q E,?_,λG Z c h H Q R S w=>D G Z c h H _ R S (W.bind w λd xs J h1 H1 V K L N=>⟨d,h1,xs,K,L,N⟩)⟩;intro pins s Z H Q I h;have i:=hs;rw[jI,bT]at hs;refine Fc (vU rfl) (Gi i hn) hl<|bA ((BZ (v:=.ref C) hg hm rfl hd) pins s Z H (λy H1=>y = .ref C/\l Z H1 λa b=>sU T g a b Q E) I ⟨rfl,h⟩) λu s1 ⟨y,H1,j,O,P,q⟩ pl=>?_;subst P;obtain rfl:u=kX C:=O;refine W.method_cls j.fM h1<|W.cls_value j.fM o t z ?_;refine Cr I.ok.mod.gc kp (bA (pr pos pins _ Z H1 _ (j.tok _) q) λus s2 ⟨a,b,n,r,U⟩=>⟨n.fM,?_⟩) (fP hs.1)<|uR hs.2;exact Lu F hr hb .nil A n r (by rw[pE];exact U)
end
section
variable {o:aI}
def zD(x:AV):M AV:=λh=>match x with
 |.ref n=>match h.ob n with
  |some (.lst aB xs)=>match xs[xs.length-1]? with
   |some y=>.ok y (h.put n<|.lst aB xs.dropLast)
   |none=>.bad
  |_=>.bad
 |_=>.bad
theorem bD.dropLast{Y:S1}{H:Hp}{xs:Fu}{ys:Fx}(r:bD T Y H xs ys):bD T Y H xs.dropLast ys.dropLast:=by rw[IZ,IZ,r.length];exact r.take _
theorem aCj(hK:X.K=T.K)(ho:QE X T E o ma)(hb:jT o=aB)(hl:(apos.endLine==pos.line)=aB):QE X T E (.Call (.Attribute o "pop" apos) [] [] pos) (λZ=>(ma Z).bind zD):=by
 obtain⟨s,pa,i⟩:=ho;refine⟨_,U2 LD PySem.F.slot_list_pop PySem.F.type_list_pop G9 pa (vU hb) hl,λY Z a h H Q R S w=>?_⟩;refine i Y Z a h H _ R S<|W.bind w λb x t j H1 v f k w1=>?_;cases x with
 |ref n=>
  cases k with
  |@ref _ p q=>
   simp only[zD]at w1;cases ob:j.ob n with
   |none=>rw[ob]at w1;exact w1.elim|some u=>
    rw[ob]at w1;cases u with
    |lst mu xs=>
     cases mu with
     |false=>exact w1.elim|true=>
      obtain⟨c,g1,d⟩:=f.obj n _ p ob q;dsimp only at w1;cases e:xs[xs.length-1]? with
      |none=>rw[e]at w1;exact w1.elim|some y=>rw[e]at w1;obtain⟨l,g2,m⟩:=d.get e;have ex:=ao (Y:=b) (O':=.lst c.dropLast) g1 (λ_ z=>by cases z) (λ_ _ z=>by cases z);obtain⟨r,g⟩:=f.write (o':=.lst aB xs.dropLast) ob rfl rfl q g1 (λ_ z=>by cases z) (λ_ _ z=>by cases z) ⟨_,gI,d.dropLast.ext ex⟩;exact⟨.inl ⟨rfl,⟨c,.inl (.inl g1)⟩⟩,p,c,l,rfl,rfl,g1,d.length▸g2,W.ok w1 g r (m.ext g)⟩
    |_=>exact w1.elim
 |_=>exact w1.elim
def Fj:M AV:=λh=>.ok (.ref h.nx) (h.new<|.aP [])
theorem aBu:QE X T E (.Dict [] [] pos) (λ_=>Fj):=by refine⟨_,V0,λe f a h H Q R S w p b=>?_⟩;obtain⟨c,d⟩:=R.alloc (o:=.aP []) b ⟨[],[],gI,rfl,.nil⟩;refine W.ok w d c<|.ref ?_;rw[<- R.len];simp
def xg(g:AV->Fu->M AV)(a:M AV)(r:M Fu):M AV:=a.bind λx h=>if(fK h x).isSome=aB then(r.bind λxs=>g x xs) h else .bad
theorem Kd{m:Str}{id:String}{r:V->Fx->Hp->VK->Prop}{g:AV->Fu->M AV} (slot:Slot "dict" m id) (hty:typeOf (.builtin id)=pure (.type "method_descriptor")) (hm:dj X id r)
  (hg:∀Y h H x x' xs gZ Q,bQ T Y h H->aT T Y H x x'->bD T Y H xs gZ->W T (aT T) (g x xs h) Y H Q E->r x' gZ H Q)
  (ho:QE X T E o ma) (ha:QA X T E (e::es) mr) (hb:jT o=aB) (hs:(e::es).all bY=aB) (hn:(e::es).length<29) (hl:(apos.endLine==pos.line)=aB) :
  QE X T E (.Call (.Attribute o m apos) (e::es) [] pos) (λZ=>xg g (ma Z) (mr Z)):=by
 obtain⟨B,pa,l⟩:=ho;obtain⟨C,pr,p⟩:=ha;have i:=hs;rw[jI,bT]at hs;refine⟨_,BX LC slot hty hm pa pr (vU hb) ?_ hl (fP hs.1) (uR hs.2),λY Z c h H Q R S w=>?_⟩
 .rw[<- JU,(uR (env:=X.env) (pos:=pos) i)];simp only[xV,xT,List.map_nil,List.all_nil,Ca,List.isEmpty_nil,if_true,Bool.not_false,Bool.true_and,decide_eq_true_eq];omega
 refine l Y Z c h H _ R S<|W.bind w λd x x' f H1 s k t w1=>?_;have b:W T (aT T) (if(fK f x).isSome=aB then((mr Z).bind λxs=>g x xs) f else .bad) d H1 Q E:=w1;by_cases hd:(fK f x).isSome=aB
 case neg=>rw[if_neg hd]at b;exact b.elim
 rw[if_pos hd]at b;obtain⟨u,hd⟩:=Option.isSome_iff_exists.mp hd;obtain⟨n,a,us,rfl,q,ob,rfl,gd,D⟩:=wD k t hd;exact⟨.inr (.inr<|.inl ⟨rfl,.inl ⟨us,gd⟩⟩),p d Z c f H1 _ k (S.ext s) (W.bind b λj xs gZ v y z R2 A w2=>hg j v y _ _ xs gZ Q R2 (.ref<|z.pre n a q) A w2)⟩
def yX(x:AV)(xs:Fu):M AV:=λh=>match fK h x with
 |some kvs=>match xs with
  |[y]=>match fN y with
   |some k=>.ok ((bR kvs k).getD .aH) h
   |none=>
    .bad
  |[y,z]=>match fN y with
   |some k=>.ok ((bR kvs k).getD z) h
   |none=>.bad
  |_=>.bad
 |none=>.bad
def Ll:AV->Nat
 |.ref n=>n
 |_=>0
def yY(x:AV)(xs:Fu):M AV:=λh=>match fK h x with
 |some kvs=>match xs with
  |[y]=>match fN y with
   |some k=>match bR kvs k with
    |some v=>.ok v (h.put (Ll x)<|.aP<|tO kvs k)
    |none=>.bad
   |none=>.bad
  |[y,z]=>match fN y with
   |some k=>match bR kvs k with
    |some v=>.ok v (h.put (Ll x)<|.aP<|tO kvs k)
    |none=>.ok z h
   |none=>.bad
  |_=>.bad
 |none=>.bad
def oq(x:AV)(xs:Fu):M AV:=λh=>match fK h x with
 |some kvs=>match xs with
  |[y,z]=>match fN y with
   |some k=>if kvs.length<sizeLine then match bR kvs k with
    |some v=>.ok v h
    |none=>.ok z (h.put (Ll x)<|.aP<|jC kvs k z)
    else .bad
   |none=>.bad
  |_=>.bad
 |none=>.bad
theorem VI(Y:S1)(h:AH)(H:Hp)(x:AV)(x':V)(xs:Fu)(gZ:Fx)(Q:VK)(R:bQ T Y h H)(rx:aT T Y H x x')(rs:bD T Y H xs gZ)(w:W T (aT T) (yX x xs h) Y H Q E):DS x' gZ H Q:=by
 unfold yX at w;cases d:fK h x with
 |none=>simp only[d]at w;exact w.elim|some b=>
  simp only[d]at w;obtain⟨n,a,us,rfl,q,ob,rfl,gd,i⟩:=wD R rx d;cases rs with
  |nil=>exact w.elim|@cons y s t j g rs=>
   have fin:∀{k:aN}{z:AV}{c:V},aT T Y H z c->aT T Y H ((bR b k).getD z) ((fQ us k).getD c):=λ{k z c} e=>by
    obtain⟨g1,g2⟩:=aa i;cases l:bR b k with
    |none=>rw[g2 l];exact e|some v=>obtain⟨u,m,o⟩:=g1 v l;rw[m];exact o
   cases rs with
   |nil=>
    cases k:fN y with
    |none=>simp only[k]at w;exact w.elim
    |some p=>simp only[k]at w;have f:=sH g k;subst f;exact⟨a,_,_,rfl,lO.k gd,.inl ⟨rfl,W.here w R (fin .aH)⟩⟩
   |@cons z c zs r e rs=>
    cases rs with
    |nil=>
     cases k:fN y with
     |none=>simp only[k]at w;exact w.elim|some p=>simp only[k]at w;have f:=sH g k;subst f;exact⟨a,_,_,rfl,lO.k gd,.inr ⟨c,rfl,W.here w R (fin e)⟩⟩
    |cons _ _=>exact w.elim
theorem VR(Y:S1)(h:AH)(H:Hp)(x:AV)(x':V)(xs:Fu)(gZ:Fx)(Q:VK)(R:bQ T Y h H)(rx:aT T Y H x x')(rs:bD T Y H xs gZ)(w:W T (aT T) (yY x xs h) Y H Q E):DT x' gZ H Q:=by
 unfold yY at w;cases d:fK h x with
 |none=>simp only[d]at w;exact w.elim|some b=>
  simp only[d]at w;obtain⟨n,a,us,rfl,q,ob,rfl,gd,i⟩:=wD R rx d;have wr:∀{k:aN}{v:AV}{y:V},bR b k=aA v->aT T Y H v y->W T (aT T) (.ok v<|h.put n<|.aP<|tO b k) Y H Q E->Q y (bE H a<|.dK<|rY us k):=λ{k v y} l r w=>by have ex:=ao (Y:=Y) (O':=.dK (rY us k)) gd (nofun) (λ_ _ z=>by cases z);obtain⟨s,o⟩:=R.write ob rfl rfl q gd (nofun) (λ_ _ z=>by cases z) (wz gI<|(aHm i).ext ex);exact W.ok w o s<|r.ext o
  cases rs with
  |nil=>exact w.elim|@cons y C D t p rs=>
   cases rs with
   |nil=>
    cases k:fN y with
    |none=>simp only[k]at w;exact w.elim|some e=>
     simp only[k]at w;have j:=sH p k;subst j;obtain⟨g1,g2⟩:=aa i;cases l:bR b e with
     |none=>simp only[l]at w;exact w.elim|some v=>simp only[l]at w;obtain⟨m,c,g⟩:=g1 v l;exact⟨a,us,e,rfl,gd,.inl ⟨rfl,m,c,wr l g w⟩⟩
   |@cons z u zs A B rs=>
    cases rs with
    |nil=>
     cases k:fN y with
     |none=>simp only[k]at w;exact w.elim|some e=>
      simp only[k]at w;have j:=sH p k;subst j;obtain⟨g1,g2⟩:=aa i;refine⟨a,us,e,rfl,gd,.inr ⟨u,rfl,λv1 c=>?_,λc=>?_⟩⟩
      .cases l:bR b e with
       |none=>rw[g2 l]at c;cases c|some v=>simp only[l]at w;obtain⟨m,f,g⟩:=g1 v l;rw[c]at f;cases f;exact wr l g w
      .cases l:bR b e with
       |none=>simp only[l]at w;exact W.here w R B|some v=>obtain⟨m,f,g⟩:=g1 v l;rw[c]at f;cases f
    |cons _ _=>exact w.elim
theorem VX(Y:S1)(h:AH)(H:Hp)(x:AV)(x':V)(xs:Fu)(gZ:Fx)(Q:VK)(R:bQ T Y h H)(rx:aT T Y H x x')(rs:bD T Y H xs gZ)(w:W T (aT T) (oq x xs h) Y H Q E):DU x' gZ H Q:=by
 unfold oq at w;cases d:fK h x with
 |none=>simp only[d]at w;exact w.elim|some b=>
  simp only[d]at w;obtain⟨n,a,us,rfl,q,ob,rfl,gd,g⟩:=wD R rx d;cases rs with
  |nil=>exact w.elim|@cons y C D r s rs=>
   cases rs with
   |nil=>exact w.elim|@cons z j zs t m rs=>
    cases rs with
    |nil=>
     cases k:fN y with
     |none=>simp only[k]at w;exact w.elim|some f=>
      simp only[k]at w;have u:=sH s k;subst u;by_cases i:b.length<sizeLine
      case neg=>rw[if_neg i]at w;exact w.elim
      rw[if_pos i]at w;obtain⟨g1,g2⟩:=aa g;refine⟨a,us,f,j,rfl,gd,rfl,by rw[<- EM g];exact i,λv1 c=>?_,λc=>?_⟩
      .cases l:bR b f with
       |none=>rw[g2 l]at c;cases c|some v=>simp only[l]at w;obtain⟨A,e,o⟩:=g1 v l;rw[c]at e;cases e;exact W.here w R o
      .cases l:bR b f with
       |none=>simp only[l]at w;have ex:=ao (Y:=Y) (O':=.dK (putK us f j)) gd (nofun) (λ_ _ z=>by cases z);obtain⟨B,p⟩:=R.write ob rfl rfl q gd (nofun) (λ_ _ z=>by cases z) (wz gI<|(Lp g m).ext ex);exact W.ok w p B<|m.ext p
       |some v=>obtain⟨A,e,o⟩:=g1 v l;rw[c]at e;cases e
    |cons _ _=>exact w.elim
def uG(kvs more:List (aN×AV)):List (aN×AV):=more.foldl (λacc kv=>jC acc kv.1 kv.2) kvs
theorem aHo:∀{more:List (aN×AV)}{ms:List (aN×V)}{kvs:List (aN×AV)}{us:List (aN×V)},gE T Y H more ms->gE T Y H kvs us->gE T Y H (uG kvs more) (zP us ms):=by
 intro more ms kvs us r;obtain⟨b,rfl,a⟩:=Lo r;clear r;induction more generalizing kvs us b with
 |nil=>intro q;cases a;exact q|cons p ps c=>
  intro q;cases a with
  |cons h t=>exact c _ t<|Lp q h
def sT(ks:WL)(xs:Fu):List (aN×AV):=(ks.map oJ).zip xs
def Fh(ks:WL)(n:Nat)(xs:Fu):M AV:=λh=>match h.ob n with
 |some (.aP [])=>if xs.length=ks.length/\ks.length<=15 then .ok (.ref n) (h.put n<|.aP<|uG []<|sT ks xs) else .bad
 |_=>.bad
def xc(ks:WL)(r:M Fu):M AV:=λh=>(r.bind<|Fh ks h.nx) (h.new<|.aP [])
inductive yD(X:Cx)(T:Tab)(E:XK):List (Option aI)->List aI->WL->(aF->M Fu)->Prop
 |nil:yD X T E [] [] [] λ_=>M.ret []
 |cons {k:Str}{n:Nat}{p:Pos}{e:aI}{m:aF->M AV}{keys:List (Option aI)}{es:List aI}{ks:WL}{mr:aF->M Fu} (h:QE X T E e m) (t:yD X T E keys es ks mr):yD X T E (aA (.Constant (.str k) n p)::keys) (e::es) (k::ks) λZ=>Fd (m Z) (mr Z)
theorem yD.ok{keys:List (Option aI)}{vs:List aI}{ks:WL}{mr:aF->M Fu}(q:yD X T E keys vs ks mr):(keys.all (·.isSome)=aB/\keys.length=vs.length/\keys.length=ks.length)/\∃trs,md X pos keys vs trs /\
  ∀Y Z Z' h H Q,bQ T Y h H->cT T Y H Z Z'->W T (bD T) (mr Z h) Y H (λys H2=>Q ((ks.map V.str).zip ys) H2) E->Ao trs Z' H Q:=by
 induction q with
 |nil=>exact⟨⟨rfl,rfl,rfl⟩,[],Z9,λY Z Z' h H Q R S w=>(w:W T (bD T) (.ok [] h) Y H (λys H2=>Q (([]:Fx).zip ys) H2) E) Y [] H .refl R .nil⟩|@cons k n p e m keys C ks mr h t d=>obtain⟨⟨f,g,i⟩,trs,j,l⟩:=d;obtain⟨D,o,re⟩:=h;refine⟨⟨by rw[jI,f];rfl,by rw[eK,eK,g],by rw[eK,eK,i]⟩,_,Z8 (Jn) o j,λY Z Z' h H Q R S w=>?_⟩;exact re Y Z Z' h H _ R S<|W.bind w λb x r s H1 u v y w1=>l b Z Z' s H1 _ v (S.ext u) (W.bind w1 λa xs c z H2 A R2 B w2=>(w2:W T (bD T) (.ok (x::xs) z) a H2 _ E) a (r::c) H2 .refl R2 (.cons (y.ext A) B))
theorem H9(hl:ys.length=ks.length):(ks.map V.str).zip ys=((ks.map oJ).zip ys:List (aN×V)).map λkv=>(kV kv.1,kv.2):=by
 induction ks generalizing ys with
 |nil=>rfl|cons k ks a=>
  cases ys with
  |nil=>cases hl|cons y ys=>rw[hA,hA,bc,bc,a (by simpa using hl)];rfl
theorem FC{Y:S1}{H:Hp}:∀{ks:WL}{xs:Fu}{ys:Fx},bD T Y H xs ys->xs.length=ks.length->gE T Y H (sT ks xs) ((ks.map oJ).zip ys)
 |[],_,_,.nil,_=>iq .nil
 |k::ks,_,_,.cons h t,hl=>by obtain⟨zs,e,r⟩:=Lo (FC (ks:=ks) t (by simpa using hl));have:=iq (kvs:=(oJ k,_)::sT ks _) (.cons h r);rw[hA,bc,<- e]at this;exact this
theorem aBt{keys:List (Option aI)}{vs:List aI}(q:yD X T E keys vs ks mr)(h0:keys≠[])(h15:keys.length<=15):QE X T E (.Dict keys vs pos) (λZ=>xc ks (mr Z)):=by
 obtain⟨⟨i,j,B⟩,k,l,m⟩:=q.ok;refine⟨_,U9 l i j h0 h15,λY Z b h H Q R S w p n=>?_⟩;obtain⟨r,f⟩:=R.alloc (o:=.aP []) n ⟨[],[],gI,rfl,.nil⟩;have s:(Y++[p])[h.nx]?=aA p:=by rw[<- R.len];simp
 refine m _ Z b _ _ _ r (S.ext f)<|W.bind (w.ext f) λc xs d t C v R2 g w2=>?_;have e:=v.pre _ _ s;unfold Fh at w2;cases ob:t.ob h.nx with
 |none=>rw[ob]at w2;exact w2.elim|some u=>
  rw[ob]at w2;cases u with
  |aP kvs=>
   cases kvs with
   |cons _ _=>exact w2.elim|nil=>
    obtain⟨us,x,g1,g2,g3⟩:=R2.obj _ _ p ob e;by_cases a:xs.length=ks.length/\ks.length<=15
    case neg=>rw[if_neg a]at w2;exact w2.elim
    rw[if_pos a]at w2;subst g2;have hl:d.length=ks.length:=g.length▸a.1;refine⟨g1,(ks.map oJ).zip d,H9 hl,by rw[Oz];omega,?_⟩;have ex:=ao (Y:=c) (O':=.dK (zP []<|(ks.map oJ).zip d)) g1 (nofun) (λ_ _ z=>by cases z);obtain⟨y,A⟩:=R2.write ob rfl rfl e g1 (nofun) (λ_ _ z=>by cases z) (wz gI<|(aHo (FC g a.1)<|iq (kvs:=[]) .nil).ext ex);exact W.ok w2 A y<|.ref e
  |_=>exact w2.elim
inductive Dm where
 |get
 |pop|setd
def Dm.g:Dm->AV->Fu->M AV
 |.get=>yX
 |.pop=>yY | .setd=>oq
def xh(m:Str):Option Dm:=if m="get" then aA .get else
 if m="pop" then aA .pop else if m="setdefault" then aA .setd else
 aD
theorem CO{m:Str}{f:Dm}(hf:xh m=aA f)(hu:X.A.units+1<cLine)(ho:QE X T E o ma)(ha:QA X T E (e::es) mr)(hb:jT o=aB)(hs:(e::es).all bY=aB)(hn:(e::es).length<29)(hl:(apos.endLine==pos.line)=aB) :
  QE X T E (.Call (.Attribute o m apos) (e::es) [] pos) (λZ=>xg f.g (ma Z) (mr Z)):=by
 unfold xh at hf;split at hf
 case isTrue h=>cases hf;subst h;exact Kd kh LH (G6 hu) VI ho ha hb hs hn hl
 split at hf
 case isTrue h=>cases hf;subst h;exact Kd Qa PySem.F.type_dict_pop G7 VR ho ha hb hs hn hl
 split at hf
 case isTrue h=>cases hf;subst h;exact Kd LG aSc G8 VX ho ha hb hs hn hl
 cases hf
end
inductive Op where
 |add|sub|mul|fdiv|mod|pow|shl|shr|band|bor|bxor|ix
def Op.g:Op->AV->AV->M AV
 |.add=>Xt | .sub=>yb | .mul=>ou | .fdiv=>Xv | .mod=>Yd | .pow=>Yg | .shl=>Yh | .shr=>Yi | .band=>Xu | .bor=>Yf | .bxor=>Yj | .ix=>tW
inductive Cp where
 |eq|ne|lt|le|gt|ge|gb|isn|fw|nin
variable {o':Cp}
def Cp.g:Cp->AV->AV->M AV
 |.eq=>yZ | .ne=>zC | .lt=>Ya | .le=>Xz | .gt=>Xx | .ge=>Xw | .gb=>Gk | .isn=>Gm | .fw=>oT aG | .nin=>oT aB
inductive Bi where
 |len|int|min|max|divmod|tuple|list
def Bi.g:Bi->Fu->M AV
 |.len=>ot | .int=>Xy | .min=>Yc | .max=>Yb | .divmod=>xv | .tuple=>yc | .list=>zB
inductive CT where
 |bad
 |nm (i:Nat)
 |tup (is:WT)
def vw:WT->Fu->aF->M aF
 |[]=>Gz
 |i::is=>Gy (λv Z=>M.ret (Z.set i<|aA v)) (vw is)
def pP:CT->AV->aF->M aF
 |.bad,_,_=>M.bad
 |.nm i,v,Z=>M.ret (Z.set i<|aA v)
 |.tup is,v,Z=>zE is.length (vw is) v Z
mutual
inductive Ex where
 |vY (imp:WU) (t:CT) (it:Ir) (e:Ex)
 |vZ (imp:WU) (t:CT) (it:Ir) (c e:Ex)
 |kB (d e:Ex)
 |bad|no
 |var (i:Nat)
 |val (v:AV)
 |op (o:Op) (a b:Ex)
 |cmp (o:Cp) (a b:Ex)
 |chain (o o':Cp) (a b c:Ex)
 |neg (a:Ex)
 |not (a:Ex)
 |and (a b:Ex)
 |or (a b:Ex)
 |ite (c a b:Ex)
 |tup (es:eD)
 |lst (es:eD)
 |slice (a lo hi:Ex)
 |call (f:Nat) (es:eD)
 |bi (f:Bi) (es:eD)
 |qN (t:BT) (a:Ex)
 |kc (k:Kc) (a:Ex)
 |lD (cs:WT) (f:Str) (o:Ex)
 |qX (m:Str) (dp:WQ) (o:Ex) (es:eD)
 |make (c i:Nat) (dv:Fu) (es:eD)
 |fb (i:Nat) (es:eD)
 |nu
 |dm (f:Dm) (o:Ex) (es:eD)
 |xb (ks:WL) (es:eD)
 |rg (o:Ex)
 |app (o a:Ex)
 |get (o:Ex) (es:eD)
inductive eD where
 |nil
 |cons (e:Ex) (es:eD)
inductive Ir where
 |bad
 |seq (e:Ex)
 |Ab (es:eD)
 |Ac (es:eD)
 |enum (e:Ex)
 |aP (e:Ex)
end
variable {d:Ex}
abbrev Run:=Nat->Fu->M AV
variable {F:Run}
def oX(e:Ex)(m:M AV):M Ft:=match e with
 |.no=>M.ret aD
 |_=>m.bind Gq
mutual
noncomputable def aL(F:Run):Ex->aF->M AV
 |.bad,_=>M.bad
 |.no,_=>M.bad
 |.var i,Z=>tX i Z
 |.val v,_=>M.ret v
 |.op o a b,Z=>uH o.g (aL F a Z) (aL F b Z)
 |.cmp o a b,Z=>uH o.g (aL F a Z) (aL F b Z)
 |.chain o o' a b c,Z=>ee o.g o'.g (aL F a Z) (aL F b Z) (aL F c Z)
 |.neg a,Z=>(aL F a Z).bind ox
 |.not a,Z=>(aL F a Z).bind λx=>(dB x).bind λb=>M.ret (.bl<|!b)
 |.and a b,Z=>Sr (aL F a Z) (aL F b Z)
 |.or a b,Z=>BO (aL F a Z) (aL F b Z)
 |.ite c a b,Z=>yo (dP F c Z) (aL F a Z) (aL F b Z)
 |.tup es,Z=>Mt (dA F es Z)
 |.lst es,Z=>uE (dA F es Z)
 |.slice a lo hi,Z=>(aL F a Z).bind λx=>(oX lo<|aL F lo Z).bind λl=>(oX hi<|aL F hi Z).bind λu=>qF x l u
 |.call f es,Z=>(dA F es Z).bind (F f)
 |.bi f es,Z=>(dA F es Z).bind f.g
 |.qN t a,Z=>(aL F a Z).bind (zA t)
 |.kc k a,Z=>(aL F a Z).bind k.g
 |.lD cs f o,Z=>(aL F o Z).bind (tU cs f)
 |.qX m dp o es,Z=>yz (λc=>(dp.lookup c).map F) m (aL F o Z) (dA F es Z)
 |.make c i dv es,Z=>yw c dv (F i) (dA F es Z)
 |.fb i es,Z=>(dA F es Z).bind (F i)
 |.nu,_=>Fj
 |.dm f o es,Z=>xg f.g (aL F o Z) (dA F es Z)
 |.xb ks es,Z=>xc ks (dA F es Z)
 |.rg o,Z=>(aL F o Z).bind zD
 |.app o a,Z=>Ea (aL F o Z) (aL F a Z)
 |.get o es,Z=>Gv (aL F o Z) (dA F es Z)
 |.vY imp t it e,Z=>yM (cO F it Z) (pP t) (λ_=>M.ret aB) (aL F e) imp Z
 |.vZ imp t it c e,Z=>yM (cO F it Z) (pP t) (dP F c) (aL F e) imp Z
 |.kB d e,Z=>lZ (aL F d) (aL F e) Z
noncomputable def dP(F:Run):Ex->aF->M Bool
 |.bad,_=>M.bad
 |.no,_=>M.bad
 |.ite _ _ _,_=>M.bad
 |.var i,Z=>(tX i Z).bind dB
 |.val v,_=>dB v
 |.op o a b,Z=>(uH o.g (aL F a Z)<|aL F b Z).bind dB
 |.cmp o a b,Z=>(uH o.g (aL F a Z)<|aL F b Z).bind xu
 |.chain o o' a b c,Z=>(ee o.g o'.g (aL F a Z) (aL F b Z)<|aL F c Z).bind xu
 |.neg a,_=>M.bad
 |.not a,Z=>(dP F a Z).bind λb=>M.ret (!b)
 |.and a b,Z=>Sq (dP F a Z) (dP F b Z)
 |.or a b,Z=>BN (dP F a Z) (dP F b Z)
 |.tup es,Z=>(Mt<|dA F es Z).bind dB
 |.lst es,Z=>(uE<|dA F es Z).bind dB
 |.slice a lo hi,Z=>((aL F a Z).bind λx=>(oX lo<|aL F lo Z).bind λl=>(oX hi<|aL F hi Z).bind λu=>qF x l u).bind dB
 |.call f es,Z=>((dA F es Z).bind (F f)).bind dB
 |.bi f es,Z=>((dA F es Z).bind f.g).bind dB
 |.qN t a,Z=>((aL F a Z).bind (zA t)).bind dB
 |.kc k a,Z=>((aL F a Z).bind k.g).bind dB
 |.lD cs f o,Z=>((aL F o Z).bind (tU cs f)).bind dB
 |.qX m dp o es,Z=>(yz (λc=>(dp.lookup c).map F) m (aL F o Z)<|dA F es Z).bind dB
 |.make c i dv es,Z=>(yw c dv (F i)<|dA F es Z).bind dB
 |.fb i es,Z=>((dA F es Z).bind (F i)).bind dB
 |.nu,_=>Fj.bind dB
 |.dm f o es,Z=>(xg f.g (aL F o Z)<|dA F es Z).bind dB
 |.xb ks es,Z=>(xc ks<|dA F es Z).bind dB
 |.rg o,Z=>((aL F o Z).bind zD).bind dB
 |.app o a,Z=>(Ea (aL F o Z)<|aL F a Z).bind dB
 |.get o es,Z=>(Gv (aL F o Z)<|dA F es Z).bind dB
 |.vY imp t it e,Z=>(yM (cO F it Z) (pP t) (λ_=>M.ret aB) (aL F e) imp Z).bind dB
 |.vZ imp t it c e,Z=>(yM (cO F it Z) (pP t) (dP F c) (aL F e) imp Z).bind dB
 |.kB d e,Z=>(lZ (aL F d) (aL F e) Z).bind dB
noncomputable def dA(F:Run):eD->aF->M Fu
 |.nil,_=>M.ret []
 |.cons e es,Z=>Fd (aL F e Z) (dA F es Z)
noncomputable def cO(F:Run):Ir->aF->M gT
 |.bad,_=>M.bad
 |.seq e,Z=>(aL F e Z).bind qC
 |.Ab es,Z=>(dA F es Z).bind xy
 |.Ac es,Z=>(dA F es Z).bind ya
 |.enum e,Z=>(aL F e Z).bind xw
 |.aP e,Z=>(aL F e Z).bind oe
end
structure Cn where
 N:WL
 sc:gK
 fns:WL
 pf:WR
 iZ:WL
 HW:List (Str×Nat)
 cat:List (Str×Wo)
 Ze:List (Str×Wo)
 top:Bool:=aB
 kK:List (Str×WT):=[]
 mZ:List (Str×WQ):=[]
 mM:List ((Str×Nat)×(Nat×Nat×Fu)):=[]
 sE:List (Str×Wo):=[]
 oS:List (Str×List (Str×Nat)):=[]
 Fm:WL:=[]
def Cn.gl(C:Cn)(x:Str):Bool:=decide (C.sc.names.lookup x=aA .globalImplicit)
def gp(x:Str):Bool:=!(x==("__debug__":Str)) && !(x==("__classdict__":Str)) && !(x==("__name__":Str))
def Cn.loc(C:Cn)(x:Str):Bool:=decide (C.sc.names.lookup x=aA .local)||decide (C.sc.names.lookup x=aA .cell)
def Cn.name(C:Cn)(x:Str):Ex:=if gp x then
  if C.loc x then match C.N.idxOf? x with
   |some i=>.var i
   |none=>.bad
  else if C.gl x then match C.pf.lookup x with
   |some v=>.val v
   |none=>.bad
  else .bad
 else .bad
def Vg:Const->Ex
 |.none=>.val .aH
 |.bool b=>.val (.bl b)
 |.int i=>.val (.int i)
 |.str x=>.val (.str x)
 |_=>.bad
def Tz:rN->Option Op
 |.Add=>aA .add | .Sub=>aA .sub | .Mult=>aA .mul | .FloorDiv=>aA .fdiv | .Mod=>aA .mod | .Pow=>aA .pow
 |.LShift=>aA .shl | .RShift=>aA .shr | .BitAnd=>aA .band | .BitOr=>aA .bor | .BitXor=>aA .bxor
 |_=>aD
def wm:pD->Cp
 |.Eq=>.eq | .NotEq=>.ne | .Lt=>.lt | .LtE=>.le | .Gt=>.gt | .GtE=>.ge | .Is=>.gb | .IsNot=>.isn | .In=>.fw | .NotIn=>.nin
def Ep(op:rN)(a b:Ex):Ex:=match Tz op with
 |some o=>.op o a b
 |none=>.bad
def yJ(k:Ex->Ex->Ex):List Ex->Ex
 |[]=>.bad
 |[a]=>a
 |a::r=>k a (yJ k r)
def lB:List Ex->eD
 |[]=>.nil
 |e::es=>.cons e (lB es)
def Uj:List (Str×BT):=[("int",.int),("bool",.bl),("str",.str),("tuple",.tup),("list",.lst)]
def TB(x:Str):Option BT:=Uj.lookup x
def Tx:List (Str×Bi):=[("len",.len),("int",.int),("min",.min),("max",.max),("divmod",.divmod),("tuple",.tuple),("list",.list)]
def SN(x:Str):Option Bi:=Tx.lookup x
def Cn.bl(C:Cn)(x:Str):Bool:=C.gl x&&C.iZ.contains x&&gp x
def gm:aI->Option Str
 |.Name x _=>aA x
 |_=>aD
def Cn.Fb(C:Cn)(x:Str)(es:List aI)(cs:List Ex):Ex:=if gp x&&es.all bY then match C.fns.idxOf? x with
    |some i=>if C.gl x then .call i (lB cs) else .bad
    |none=>match C.mM.lookup (x,es.length) with
     |some (c,i,dv)=>if C.gl x then .make c i dv (lB cs) else .bad
     |none=>match SN x with
      |some f=>if C.bl x && !es.isEmpty then .bi f (lB cs) else .bad
      |none=>if decide (x="isinstance")&&C.bl x then match es,cs with
          |[_,t],[a,_]=>match (gm t).bind λy=>if C.bl y then TB y else aD with
            |some bt=>.qN bt a
            |none=>.bad
          |_,_=>.bad
        else .bad
  else .bad
def EF:Nat:=40
def Cn.slot(C:Cn)(x:Str):WS:=if C.loc x then C.N.idxOf? x else aD
def Cn.Hq(C:Cn):aI->Bool
 |.Attribute _ f _=>C.Fm.contains f
 |_=>aG
def Cn.kB(C:Cn)(it:aI)(d e:Ex):Ex:=if C.Hq it then .kB d e else e
def cI(C:Cn)(f:aI->Ex)(tg:aI)(e:aI):Ir:=match e with
 |.Call (.Name x _) es [] _=>
  if decide (x="range")&&C.bl x then match es with
   |[a]=>if bY a then .Ab (lB<|[a].map f) else .bad
   |[a,b]=>if bY a&&bY b then .Ac (lB<|[a,b].map f) else .bad
   |_=>.bad
  else if decide (x="enumerate")&&C.bl x then match es,tg with
   |[a],.Tuple _ _ _=>if bY a then .enum (f a) else .bad
   |_,_=>.bad
  else .seq (f e)
 |e=>if bY e then(if C.Hq e then .aP (f e) else .seq (f e)) else .bad
def yN(scope:gK):WL:=(scope.names.filter λx=>(x.2==NameKind.local&&x.1 != (".0":Str))||x.2==iV).map (·.1)
def EI(scope sc:gK):gK:=
 { scope with names:=scope.names.map λ(n,k)=>if(k == .free&&sc.kind == .function&&sc.names.lookup n==aA .cell) then(n,.cell) else(n,k) }
def Cn.comp(C:Cn)(scope:gK):Cn:={ C with N:=yN scope,sc:=EI scope C.sc,top:=aG }
def Cn.imp(C:Cn)(scope:gK):WU:=(yN scope).map λx=>if decide (scope.names.lookup x=aA .free) then C.N.idxOf? x else aD
def Cn.yO(C:Cn)(scope:gK):Bool:=decide (scope.kind = .function)&&scope.names.all (λy=>decide (y.2 ≠ .cell))&&scope.names.all (λy=>decide (y.2 = .local->scope.names.lookup y.1=aA .local)) &&
 scope.names.all (λy=>decide (y.2 = .free->C.sc.names.lookup y.1=aA .cell))&&decide (yN scope).Nodup&&C.top
def wu(C:Cn):List aI->Option (List Nat)
 |[]=>aA []
 |.Name x _::r=>if decide (C.sc.names.lookup x=aA .local) then match C.N.idxOf? x,wu C r with
   |some i,aA l=>aA (i::l)
   |_,_=>aD
  else aD
 |_=>aD
def wb(C:Cn)(e:aI):CT:=match e with
 |.Name x _=>if decide (C.sc.names.lookup x=aA .local) then match C.N.idxOf? x with
   |some i=>.nm i
   |none=>.bad
  else .bad
 |.Tuple es _ _=>match wu C es with
  |some l=>.tup l
  |none=>.bad
 |_=>.bad
def Il(o:aI)(m:Str)(eo:Ex):Ex:=
 if decide (m="pop")&&jT o then .rg eo else
 .bad
def Im(o:aI)(m:Str)(eo ea:Ex):Ex:=
 if decide (m="append")&&jT o then .app eo ea else
 if jT o then(match xh m with
  |some f=>.dm f eo (.cons ea .nil)
  |none=>.bad) else
 .bad
def K9:Ex->Bool
 |.var _=>aG
 |_=>aB
def Io(o:aI)(m:Str)(eo ea eb:Ex):Ex:=
 if decide (m="get")&&jT o&&((gm o).isSome&&K9 eo) then .get eo (.cons ea<|.cons eb .nil) else
 if jT o then(match xh m with
  |some f=>.dm f eo (.cons ea<|.cons eb .nil)
  |none=>.bad) else
 .bad
def Uh(o:aI)(m:Str)(eo:Ex):List Ex->Ex
 |[]=>Il o m eo
 |[a]=>Im o m eo a
 |[a,b]=>Io o m eo a b
 |_=>.bad
def Cn.Uw(C:Cn)(o:aI)(m:Str):WS:=(gm o).bind λx=>if gp x&&C.gl x then(C.oS.lookup x).bind (·.lookup m) else aD
def Cn.Ih(C:Cn)(o:aI)(m:Str)(apos pos:Pos)(es:List aI)(eo:Ex)(cs:List Ex):Ex:=
 if es.all bY&&(apos.endLine==pos.line) then
  match C.Uw o m with
  |some i=>if !es.isEmpty&&decide (es.length<30) then .fb i (lB cs) else .bad
  |none=>match C.mZ.lookup m with
   |some dp=>if jT o&&decide (es.length<30) then .qX m dp eo (lB cs) else .bad
   |none=>Uh o m eo cs
 else .bad
def Fa(op:UnaryOp)(a:Ex):Ex:=match op with
 |.USub=>.neg a
 |.Not=>.not a
 |_=>.bad
def Et(f:aI->Ex)(a:aI)(os:List pD)(bs:List aI):Ex:=match os,bs with
 |[o],[b]=>if bY b then .cmp (wm o) (f a) (f b) else .bad
 |[o,o'],[b,c]=>if bY c then .chain (wm o) (wm o') (f a) (f b) (f c) else .bad
 |_,_=>.bad
def Er(op:BoolOp)(vs:List Ex):Ex:=match op with
 |.And=>yJ .and vs
 |.Or=>yJ .or vs
def nN:Ex->Ex
 |.no=>.bad
 |x=>x
def Ez(C:Cn)(f:aI->Ex)(a s:aI):Ex:=match s with
 |.Slice lo hi aD _=>.slice (f a) (lo.elim .no λe=>nN (f e)) (hi.elim .no λe=>nN (f e))
 |b=>if bY b then .op .ix (f a) (f b) else .bad
def Es(C:Cn)(f:aI->Ex)(g:aI)(es:List aI)(ks:List sW)(pos:Pos):Ex:=match ks with
 |[]=>match g with
  |.Name x _=>C.Fb x es (es.map f)
  |.Attribute o m apos=>C.Ih o m apos pos es (f o) (es.map f)
  |_=>.bad
 |_=>.bad
def nc(C:Cn)(r:Cn->aI->Ex)(elt:aI)(gs:List Comprehension)(scope:gK):Ex:=match gs with
 |[⟨t,it,cs,0⟩]=>if C.yO scope&&bY it then match cs with
   |[]=>C.kB it (r C it) (.vY (C.imp scope) (wb (C.comp scope) t) (cI C (r C) t it)<|r (C.comp scope) elt)
   |[c]=>C.kB it (r C it) (.vZ (C.imp scope) (wb (C.comp scope) t) (cI C (r C) t it) (r (C.comp scope) c)<|r (C.comp scope) elt)
   |_=>.bad
  else .bad
 |_=>.bad
def En(C:Cn)(o:aI)(f:Str)(eo:Ex):Ex:=if jT o then
  match C.kK.lookup f with
  |some cs=>.lD cs f eo
  |none=>
   .bad
 else .bad
def Am:List (Option aI)->Option (List Str)
 |[]=>aA []
 |some (.Constant (.str k) _ _)::r=>(Am r).map (k::·)
 |_::_=>aD
def Eu(f:aI->Ex)(ks:List (Option aI))(vs:List aI):Ex:=match ks,vs with
 |[],[]=>.nu
 |ks,vs=>match Am ks with
  |some ss=>if decide (ss.length=vs.length)&&decide (ss.length<=15) && !ss.isEmpty then .xb ss (lB<|vs.map f) else .bad
  |none=>.bad
def Zk(x:Str)(ks:List sW):Option Kc:=match ks with
 |[]=>if x="any" then aA .any else
  if x="sorted" then aA .sd else
  aD
 |[⟨aA nm,kc,_⟩]=>match kc with
  |.Constant (.bool b) _ _=>if x="sorted"/\nm="reverse" then aA (.srt b) else aD
  |.Constant .none _ _=>if x="min"/\nm="default" then aA .za else aD
  |_=>aD
 |_=>aD
def wc(C:Cn)(f:aI->Ex)(g:aI)(es:List aI)(ks:List sW):Option Ex:=match g,es with
 |.Name x _,[a]=>match Zk x ks with
  |some k=>if C.bl x&&bY a then aA (.kc k<|f a) else aD
  |none=>aD
 |_,_=>aD
def cE:Cn->Nat->aI->Ex
 |_,0,_=>.bad
 |C,n+1,e=>match e with
  |.Name x _=>C.name x
  |.Constant c _ _=>Vg c
  |.BinOp a op b _=>Ep op (cE C n a) (cE C n b)
  |.UnaryOp op a _=>Fa op (cE C n a)
  |.Compare a os bs _=>Et (cE C n) a os bs
  |.BoolOp op vs _=>Er op (vs.map<|cE C n)
  |.IfExp c a b _=>.ite (cE C n c) (cE C n a) (cE C n b)
  |.Tuple es _ _=>if es.all bY then .tup (lB<|es.map<|cE C n) else .bad
  |.List es _=>if es.all bY then .lst (lB<|es.map<|cE C n) else .bad
  |.Subscript a s _=>Ez C (cE C n) a s
  |.Call g es ks pos=>match wc C (cE C n) g es ks with
   |some y=>y
   |none=>Es C (cE C n) g es ks pos
  |.Dict ks vs _=>Eu (cE C n) ks vs
  |.Attribute o f _=>En C o f (cE C n o)
  |.ListComp elt gs scope _=>nc C (λC' e'=>cE C' n e') elt gs scope
  |_=>.bad
theorem yv{α:Type}{x:Str}{v:α}:∀{l:List (Str×α)},l.lookup x=aA v->(x,v)∈l
 |[],h=>by cases h
 | (k,u)::r,h=>by
  rw[iU]at h;split at h
  .rename_i q;have:=eq_of_beq q;subst this;cases h;exact fS
  .exact iI _<|yv h
theorem SX:∀q∈Uj,mT q.1=aA (.type q.2.nm):=by decide +kernel
structure Lk(X:Cx)(T:Tab)(E:XK)(C:Cn)(F:Run):Prop where
 K:X.K=T.K
 N:X.N=C.N
 sc:X.env.scope=C.sc
 nd:C.N.Nodup
 fn:C.top=aB->∀x,X.fn x=aB
 calm:X.calm=aB
 po:C.top=aB->uo (aY X.prog X.w) X.A X.env X.xe
 gv:∀x v,C.pf.lookup x=aA v->∃u v',X.mg x=aA u/\RelV v' u/\∀Y H,aT T Y H v v'
 fns:∀(i:Nat) x,C.fns[i]?=aA x->Fn X T E x (F i)
 iZ:∀x,C.iZ.contains x=aB->X.mg x=aD
 tab:∀kvs a,T.G kvs a->ly X.prog X.w X.K a kvs
 un:X.A.units+64<cLine
 kK:∀f cs,C.kK.lookup f=aA cs->di X.K T cs f
 mZ:∀m dp,C.mZ.lookup m=aA dp->∀c D g,(dp.lookup c).map F=aA g->T.C c=aA D->yB X T (λ_=>E) D m g
 mM:∀x n c i dv,C.mM.lookup (x,n)=aA (c,i,dv)->vh X T E x c dv (F i)
 sE:∀y cs,C.sE.lookup y=aA cs->∃D:Addr,X.mg y=aA (.ref D)/\∀k b,cs.lookup k=aA b->∃D':Addr,T.C k=aA D'/\Se X.K D'/\Qh X.K (.ref D') (.ref D)=aA b
 oS:∀x m i,(C.oS.lookup x).bind (·.lookup m)=aA i->Dk X T E x m (F i)
section
variable {C:Cn}(L:Lk X T E C F)
theorem zf{x:Str}(h:gp x=aB):(x==("__debug__":Str))=aG/\(x==("__classdict__":Str))=aG/\x≠"__name__":=by simp only[gp,bT,Oc,beq_eq_false_iff_ne]at h;exact⟨beq_eq_false_iff_ne.mpr h.1.1,beq_eq_false_iff_ne.mpr h.1.2,h.2⟩
theorem tZ{x:Str}{l:WL}{i:Nat}(h:l.idxOf? x=aA i):l[i]?=aA x:=by obtain⟨a,b,_⟩:=List.findIdx?_eq_some_iff_getElem.mp h;rw[eB a];exact congrArg aA<|eq_of_beq b
include L in
theorem Lk.gl{x:Str}(h:C.gl x=aB):Gl X x:=by have a:=of_decide_eq_true h;rw[<- L.sc]at a;exact a
def Q2(X:Cx)(T:Tab)(E:XK)(F:Run)(e:aI)(x:Ex):Prop:=QE X T E e (aL F x)/\QT X T E e (dP F x)
theorem dH:Q2 X T E F e .bad:=⟨CM,Lf⟩
include L in
theorem CL{it:aI}{y:Ex}(pl:rf e=aB)(h:Q2 X T E F e y):Q2 X T E F e (C.kB it d y):=by
 unfold Cn.kB;split
 .exact⟨CQ (aL F d) h.1,rG L.K (CQ (aL F d) h.1) pl⟩
 .exact h
include L in
theorem aIu(x:Str)(pos:Pos):Q2 X T E F (.Name x pos) (C.name x):=by
 unfold Cn.name;split
 case isFalse=>exact dH
 case isTrue ok=>
  obtain⟨b,c,h⟩:=zf ok;split
  case isTrue hl=>
   split
   case h_1 i d=>
    have a:mj X.env.scope x:=by
     rw[L.sc];simp only[Cn.loc,jr,decide_eq_true_eq]at hl;rcases hl with hl|hl
     .exact .inl hl
     .exact .inr<|.inl hl
    have q:QE X T E (.Name x pos) (tX i):=aCp (by rw[L.N];exact tZ d) a b c;exact⟨q,rG L.K q rfl⟩
   case h_2=>exact dH
  case isFalse=>
   split
   case isFalse=>exact dH
   case isTrue e=>
    split
    case h_1 v a=>obtain⟨u,j,f,r,g⟩:=L.gv x v a;have q:QE X T E (.Name x pos) (λ_=>M.ret v):=uK (BZ (L.gl e) f r b) g;exact⟨q,rG L.K q rfl⟩
    case h_2=>exact dH
include L in
theorem aIr(c:Const)(k:Nat)(pos:Pos):Q2 X T E F (.Constant c k pos) (Vg c):=by
 cases c with
 |none=>exact⟨uK Jm λ_ _=>.aH,rG L.K (uK Jm λ_ _=>.aH) rfl⟩|bool b=>exact⟨uK Jl λ_ _=>.bl b,rG L.K (uK Jl λ_ _=>.bl b) rfl⟩|int i=>exact⟨uK CA λ_ _=>.int i,rG L.K (uK CA λ_ _=>.int i) rfl⟩|str x=>exact⟨uK Jn λ_ _=>.str x,rG L.K (uK Jn λ_ _=>.str x) rfl⟩|_=>exact dH
include L in
theorem Q1{op:rN}{o:Op}(h:Tz op=aA o):dW X T E (eY op) o.g:=by
 cases op<;>cases h
 .exact P9 L.K
 .exact T4
 .exact R9
 .exact R8
 .exact S7
 .exact S8
 .exact S9
 .exact S6
 .exact T8
 .exact Q0
 .exact Q4
include L in
theorem gr(op:pD):dW X T E (dG op) (wm op).g:=by
 cases op
 .exact Q3 L.K (by have:=L.un;omega)
 .exact S0 L.K (by have:=L.un;omega)
 .exact R7
 .exact R6
 .exact Q6
 .exact Q5
 .exact Q9
 .exact R4
 .exact Q7 L.K (by have:=L.un;omega)
 .exact S4 L.K (by have:=L.un;omega)
theorem nU{f:aI->Ex}(hs:es.all bY=aB)(h:∀e,Q2 X T E F e (f e)):QA X T E es (dA F<|lB<|es.map f):=by
 induction es with
 |nil=>exact aBi|cons e es a=>rw[jI,bT]at hs;exact aBh (h e).1 (a hs.2) hs.1
include L in
theorem Su{pos:Pos}{f:aI->Ex}(h:∀e,Q2 X T E F e (f e)):∀(e:aI) (es:List aI),QE X T E (.BoolOp .And (e::es) pos) (aL F<|yJ .and<|(e::es).map f)/\QW X T E (.BoolOp .And (e::es) pos) (dP F<|yJ .and<|(e::es).map f)
 |e,[]=>⟨CP (h e).1,aGj (h e).2⟩
 |e,b::rest=>by obtain⟨a,c⟩:=Su h b rest;exact⟨aBj L.K (h e).1 a,aGi (h e).2 c⟩
include L in
theorem BQ{pos:Pos}{f:aI->Ex}(h:∀e,Q2 X T E F e (f e)):∀(e:aI) (es:List aI),QE X T E (.BoolOp .Or (e::es) pos) (aL F<|yJ .or<|(e::es).map f)/\QW X T E (.BoolOp .Or (e::es) pos) (dP F<|yJ .or<|(e::es).map f)
 |e,[]=>⟨CP (h e).1,aGl (h e).2⟩
 |e,b::rest=>by obtain⟨a,c⟩:=BQ h b rest;exact⟨aCi L.K (h e).1 a,aGk (h e).2 c⟩
theorem J1{x:Ex}(q:QE X T E e (aL F x)):QO X T E (aA e) (λZ=>oX (nN x) (aL F (nN x) Z)):=by cases x<;>first|exact DE q|exact DE CM
theorem BV{o:Option aI}{f:aI->Ex}(h:∀e,Q2 X T E F e (f e)):QO X T E o (λZ=>oX (o.elim .no λe=>nN (f e)) (aL F (o.elim .no λe=>nN (f e)) Z)):=by
 cases o with
 |none=>exact aFo|some e=>exact J1 (h e).1
include L in
theorem aIs{f:aI->Ex}(ih:∀e,Q2 X T E F e (f e)){g:aI}{ks:List sW}{y:Ex}(h:wc C f g es ks=aA y):Q2 X T E F (.Call g es ks pos) y:=by
 unfold wc at h;split at h
 case h_2=>cases h
 case h_1 x p a=>
  split at h
  case h_2=>cases h
  case h_1 k c=>
   split at h
   case isFalse=>cases h
   case isTrue hb=>
    cases h;simp only[bT,Cn.bl]at hb;obtain⟨⟨⟨i,hm⟩,_⟩,j⟩:=hb;have mk:QE X T E (.Call (.Name x p) [a] ks pos) (aL F<|.kc k<|f a)->Q2 X T E F (.Call (.Name x p) [a] ks pos) (.kc k<|f a):=λq=>⟨q,rG L.K q rfl⟩;refine mk ?_;unfold Zk at c;split at c
    case h_1=>
     split at c
     case isTrue d=>cases c;subst d;exact aBk L.K L.calm (L.gl i) (L.iZ _ hm) (ih a).1 j
     split at c
     case isTrue d=>cases c;subst d;exact aCk L.K L.calm (L.gl i) (L.iZ _ hm) (ih a).1 j
     cases c
    case h_2 nm kc kp=>
     split at c
     case h_1 b l m=>
      split at c
      case isFalse=>cases c
      case isTrue d=>cases c;obtain⟨rfl,rfl⟩:=d;exact aCm L.K (L.gl i) (L.iZ _ hm) (ih a).1 j
     case h_2 l m=>
      split at c
      case isFalse=>cases c
      case isTrue d=>cases c;obtain⟨rfl,rfl⟩:=d;exact aCf L.K L.calm (L.gl i) (L.iZ _ hm) (ih a).1 j
     case h_3=>cases c
    case h_3=>cases c
include L in
theorem SO:∀q∈Tx,(∃id,oO X T E (.builtin id) q.2.g/\mT q.1=aA (.builtin id))\/∃id,oO X T E (.type id) q.2.g/\mT q.1=aA (.type id):=
 List.forall_mem_cons.2 ⟨.inl ⟨_,UP L.K,boot_len⟩,List.forall_mem_cons.2 ⟨.inr ⟨_,UO,boot_int⟩,List.forall_mem_cons.2 ⟨.inl ⟨_,US L.calm,boot_min⟩,List.forall_mem_cons.2 ⟨.inl ⟨_,UR L.calm,boot_max⟩,List.forall_mem_cons.2 ⟨.inl ⟨_,UN,boot_divmod⟩,List.forall_mem_cons.2 ⟨.inr ⟨_,UT L.K,boot_tuple⟩,List.forall_mem_cons.2 ⟨.inr ⟨_,UQ L.K L.calm,boot_list⟩,λ_ h=>nomatch h⟩⟩⟩⟩⟩⟩⟩
include L in
theorem aIq(ih:∀e,Q2 X T E F e (cE C n e))(x:Str)(p:Pos)(es:List aI)(pos:Pos):Q2 X T E F (.Call (.Name x p) es [] pos) (C.Fb x es<|es.map<|cE C n):=by
  have mk:∀{y:Ex},QE X T E (.Call (.Name x p) es [] pos) (aL F y)->(∀k,dP F y k=(aL F y k).bind dB)->Q2 X T E F (.Call (.Name x p) es [] pos) y:=λ{y} q e=>by refine⟨q,?_⟩;have:=rG L.K q rfl;have B:=funext e;rw[B];exact this
  unfold Cn.Fb;split
  case isFalse=>exact dH
  case isTrue ok=>
    rw[bT]at ok;obtain⟨h,R,v⟩:=zf ok.1;split
    case h_1 i l=>
      split
      case isFalse=>exact dH
      case isTrue d=>
        have w:=L.fns i x (tZ l);refine mk ?_ λ_=>rfl;cases es with
        |nil=>exact aBn w (L.gl d) h|cons e es=>exact aBm w (L.gl d) (nU ok.2 ih) ok.2 h
    case h_2=>
     split
     case h_1 c i D G=>
      split
      case isFalse=>exact dH
      case isTrue d=>
        have z:=L.mM x _ c i D G;refine mk ?_ λ_=>rfl;cases es with
        |nil=>exact aCc z (L.gl d) h|cons e es=>exact aCb z (L.gl d) (nU ok.2 ih) ok.2 h
     case h_2=>
      split
      case h_1 f H=>
        split
        case isFalse=>exact dH
        case isTrue hb=>
          simp only[Cn.bl,bT]at hb;obtain⟨⟨⟨d,hm⟩,_⟩,m⟩:=hb;refine mk ?_ λ_=>rfl;cases es with
          |nil=>cases m|cons e es=>
            have q:=nU ok.2 ih;have j:=L.iZ x hm;rcases SO L _ (yv H)with⟨_,c,b⟩|⟨_,c,b⟩
            · exact aBo c (L.gl d) j b q ok.2 v h
            · exact aBp c (L.gl d) j b q ok.2 v h
      case h_2=>
        split
        case isFalse=>exact dH
        case isTrue l=>
          simp only[bT,decide_eq_true_eq,Cn.bl]at l;obtain⟨I,⟨d,hm⟩,_⟩:=l;subst I;split
          case h_2=>exact dH
          case h_1 a t ca ct J K=>
            injection K with o M;subst o;cases t with
            |Name y N=>
              simp only[gm,jJ];have O:bY a=aB:=by have:=ok.2;rw[jI,bT]at this;exact this.1
              split
              case h_2=>exact dH
              case h_1 bt g=>
                refine mk ?_ λ_=>rfl;split at g
                case isFalse=>cases g
                case isTrue A=>
                  simp only[Cn.bl,bT]at A;obtain⟨⟨r,s⟩,u⟩:=A;obtain⟨k1,k2,P⟩:=zf u;have sa:bY a=aB:=by have:=ok.2;rw[jI,bT]at this;exact this.1
                  have fin:∀bt,mT y=aA (.type bt.nm)->QE X T E (.Call (.Name "isinstance" p) [a,.Name y N] [] pos) (aL F<|.qN bt<|cE C n a):=λbt Q=>aBy L.K bt (L.gl d) (L.iZ _ hm) (L.gl r) (L.iZ _ s) Q P k1 (ih a).1 sa
                  exact fin _<|SX _<|yv g
            |_=>exact dH
include L in
theorem sk{f:aI->Ex}(ih:∀e,Q2 X T E F e (f e))(tg e:aI):QI X T E tg e (cO F<|cI C f tg e):=by
 unfold cI;split
 .rename_i x p i pos;split
  .rename_i h;simp only[bT,decide_eq_true_eq,Cn.bl]at h;obtain⟨g,⟨d,hm⟩,_⟩:=h;subst g;split
   .split
    .rename_i a c;exact aCt (L.gl d) (L.iZ _ hm) (nU (by simp[c]) ih) c
    .exact ia
   .split
    .rename_i a b c;rw[bT]at c;exact aCu (L.gl d) (L.iZ _ hm) (nU (by simp[c.1,c.2]) ih) c.1 c.2
    .exact ia
   .exact ia
  .split
   .rename_i h;simp only[bT,decide_eq_true_eq,Cn.bl]at h;obtain⟨g,⟨d,hm⟩,_⟩:=h;subst g;split
    .split
     .rename_i c;exact aCs L.K (L.gl d) (L.iZ _ hm) (ih _).1 c
     .exact ia
    .exact ia
   .exact CW L.K (ih _).1
 .split
  .split
   .exact aCr (ih _).1
   .exact CW L.K (ih _).1
  .exact ia
include L in
theorem FH:∀{es:List aI}{l:WT},wu C es=aA l->dq X T E es (vw l)/\es.all sV=aB/\l.length=es.length
 |[],l,h=>by cases h;exact⟨CV,rfl,rfl⟩
 |e::es,l,h=>by
  cases e with
  |Name x p=>
   simp only[wu]at h;split at h
   .rename_i b;split at h
    .rename_i i j c hl;cases h;obtain⟨d,f,g⟩:=FH hl;have a:X.env.scope.names.lookup x=aA .local:=by rw[L.sc];exact of_decide_eq_true b
     exact⟨CU (Ke (L.N▸L.nd) (by rw[L.N];exact tZ c) (.inl a)<|.inr a) d rfl,by rw[jI,f];rfl,by simp[g]⟩
    .cases h
   .cases h
  |_=>cases h
include L in
theorem Ak(e:aI):QG X T E e (pP<|wb C e):=by
 unfold wb;split
 .split
  .rename_i a;split
   .rename_i i b;have lc:∀{x:Str},C.sc.names.lookup x=aA .local->X.env.scope.names.lookup x=aA .local:=λ{x} h=>L.sc▸h;exact Ke (L.N▸L.nd) (by rw[L.N];exact tZ b) (.inl<|lc<|of_decide_eq_true a)<|.inr<|lc<|of_decide_eq_true a
   .exact uL
  .exact uL
 .split
  .rename_i l hl;obtain⟨c,d,f⟩:=FH L hl;show QG X T E _ (zE l.length<|vw l);rw[f];exact CS L.K L.calm c d
  .exact uL
 .exact uL
end
section
variable {C:Cn}
theorem Uy(ok:C.yO scope=aB):scope.kind = .function/\(∀y∈scope.names,y.2 ≠ .cell)/\(∀y∈scope.names,y.2 = .local->scope.names.lookup y.1=aA .local)/\(∀y∈scope.names,y.2 = .free->C.sc.names.lookup y.1=aA .cell)/\(yN scope).Nodup/\C.top=aB:=by simp only[Cn.yO,bT,decide_eq_true_eq,IS]at ok;exact⟨ok.1.1.1.1.1,ok.1.1.1.1.2,ok.1.1.1.2,ok.1.1.2,ok.1.2,ok.2⟩
theorem Lk.wq(L:Lk X T E C F)(ok:C.yO scope=aB):oP X (yN scope) scope:=by obtain⟨a,b,c,d,_⟩:=Uy ok;exact⟨a,b,c,λy e f=>by rw[L.sc];exact d y e f⟩
theorem Lk.imp(L:Lk X T E C F){i j:Nat}{x:Str}(e1:(yN scope)[i]?=aA x)(e2:(C.imp scope)[i]?=aA (aA j)):scope.names.lookup x=aA .free/\(x,iV)∈scope.names/\X.N[j]?=aA x:=by
 unfold Cn.imp at e2;rw[fR,e1]at e2;have a:(if decide (scope.names.lookup x=aA .free) then C.N.idxOf? x else aD)=aA j:=dJ e2;split at a
 .rename_i h;have h:=of_decide_eq_true h;exact⟨h,yv h,by rw[L.N];exact tZ a⟩
 .cases a
theorem Lk.comp(L:Lk X T E C F)(ok:C.yO scope=aB)(s:aK)(H:Hp)(a:Addr)(fp:S1):Lk (X.comp (yN scope) scope s H a fp) T E0 (C.comp scope) F where
 K:=L.K
 N:=rfl
 sc:=by show relabel scope X.env=EI scope C.sc;rw[<- L.sc];rfl
 nd:=(Uy ok).2.2.2.2.1
 fn:=λz=>by cases z
 calm:=L.calm
 po:=λz=>by cases z
 gv:=L.gv
 fns:=λi x h=>let ⟨k,f,fd,ps,F,hr,hm,l,hb,_⟩:=(L.fns i x h);⟨k,f,fd,ps,F,hr,hm,l,hb,λ_ _ _ _ _ _ _ z=>(ng z).elim⟩
 iZ:=L.iZ
 tab:=L.tab
 un:=L.un
 kK:=L.kK
 mZ:=λm dp h c D g b d=>let ⟨k,f,fd,ps,F,hr,c,hm,hb,_⟩:=(L.mZ m dp h c D g b d);⟨k,f,fd,ps,F,hr,c,hm,hb,λ_ _ _ _ _ _ _ z=>(ng z).elim⟩
 mM:=λx n c i o h=>let ⟨k,C,f,fd,ps,ds,e,p,K,F,hr,hm,hb,q,j,_⟩:=(L.mM x n c i o h);⟨k,C,f,fd,ps,ds,e,p,K,F,hr,hm,hb,q,j,λ_ _ _ _ _ _ _ z=>(ng z).elim⟩
 sE:=L.sE
 oS:=λx m i h=>let ⟨k,C,f,fd,ps,hm,F,hr,kp,b,d,r,t,hb,_⟩:=(L.oS x m i h);⟨k,C,f,fd,ps,hm,F,hr,kp,b,d,r,t,hb,λ_ _ _ _ _ _ _ z=>(ng z).elim⟩
end
theorem aIt{C:Cn}(L:Lk X T E C F)(ih:∀e,Q2 X T E F e (cE C n e))(o:aI)(m:Str)(apos pos:Pos)(es:List aI):Q2 X T E F (.Call (.Attribute o m apos) es [] pos) (C.Ih o m apos pos es (cE C n o)<|es.map<|cE C n):=by
 have tr:∀{e:aI}{y:Ex},QE X T E e (aL F y)->rf e=aB->(∀s,dP F y s=(aL F y s).bind dB)->Q2 X T E F e y:=λ{e y} q pl z=>by refine⟨q,?_⟩;have:=rG L.K q pl;have A:=funext z;rw[A];exact this
 unfold Cn.Ih;split
 case isFalse=>exact dH
 case isTrue hb=>
  rw[bT]at hb;obtain⟨h,hl⟩:=hb;have blt:Q2 X T E F (.Call (.Attribute o m apos) es [] pos) (Uh o m (cE C n o)<|es.map<|cE C n):=by
   cases es with
   |nil=>
    show Q2 X T E F _ (Il o m<|cE C n o);unfold Il;split
    case isTrue hm=>simp only[bT,decide_eq_true_eq]at hm;obtain⟨hm,j⟩:=hm;subst hm;exact tr (aCj L.K (ih _).1 j hl) rfl λ_=>rfl
    exact dH
   |cons a es=>
    rw[jI,bT]at h;cases es with
    |nil=>
     show Q2 X T E F _ (Im o m (cE C n o)<|cE C n a);unfold Im;split
     case isTrue hm=>simp only[bT,decide_eq_true_eq]at hm;obtain⟨hm,j⟩:=hm;subst hm;exact tr (aBl L.K (ih _).1 (ih _).1 j h.1 hl) rfl λ_=>rfl
     split
     case isTrue j=>
      split
      .rename_i f t;exact tr (CO t (by have:=L.un;omega) (ih _).1 (nU (by simp[h.1]) ih) j (by simp[h.1]) (by simp) hl) rfl λ_=>rfl
      .exact dH
     exact dH
    |cons b es=>
     obtain⟨k,d⟩:=h;rw[jI,bT]at d;cases es with
     |nil=>
      show Q2 X T E F _ (Io o m (cE C n o) (cE C n a)<|cE C n b);unfold Io;split
      case isTrue hm=>simp only[bT,decide_eq_true_eq]at hm;obtain⟨⟨hm,j⟩,_⟩:=hm;subst hm;exact tr (aBw L.tab (ih _).1 (nU (by simp[k,d.1]) ih) j k d.1 hl) rfl λ_=>rfl
      split
      case isTrue j=>
       split
       .rename_i f t;exact tr (CO t (by have:=L.un;omega) (ih _).1 (nU (by simp[k,d.1]) ih) j (by simp[k,d.1]) (by simp) hl) rfl λ_=>rfl
       .exact dH
      exact dH
     |cons c es=>exact dH
  split
  case h_1 i r=>
   split
   case isFalse=>exact dH
   case isTrue l=>
    simp only[bT,decide_eq_true_eq]at l;unfold Cn.Uw at r;cases o with
    |Name x p=>
     simp only[gm,jJ]at r;split at r
     case isFalse=>cases r
     case isTrue u=>
      rw[bT]at u;cases es with
      |nil=>cases l.1|cons e es=>exact tr (aBr (L.oS _ _ _ r) (L.gl u.2) (zf u.1).1 (nU h ih) h l.2 hl) rfl λ_=>rfl
    |_=>cases r
  case h_2=>
   split
   case h_2=>exact blt
   case h_1 dp v=>
    split
    case isFalse=>exact dH
    case isTrue l=>
     rw[bT,decide_eq_true_eq]at l;have w:=λc D g B G=>L.mZ m dp v c D g B G;cases es with
     |nil=>exact tr (aCe w (ih _).1 l.1 hl) rfl λ_=>rfl|cons e es=>exact tr (aCd w (ih _).1 (nU h ih) l.1 h l.2 hl) rfl λ_=>rfl
theorem CI{X:Cx}{T:Tab}{E:XK}{F:Run}{f:aI->Ex}(ih:∀e,Q2 X T E F e (f e)):∀{ks:List (Option aI)}{ss:WL}{vs:List aI},Am ks=aA ss->ss.length=vs.length->yD X T E ks vs ss (dA F<|lB<|vs.map f)/\ss.length=ks.length
 |[],ss,vs,h,hl=>by
  cases h;cases vs with
  |nil=>exact⟨.nil,rfl⟩|cons _ _=>cases hl
 |k::r,ss,vs,h,hl=>by
  unfold Am at h;split at h
  .rename_i z;cases z
  .rename_i z;cases z;obtain⟨b,a,e⟩:=Option.map_eq_some_iff.mp h;subst e;cases vs with
   |nil=>cases hl|cons v vs=>obtain⟨q,l⟩:=CI ih a (by simpa using hl);exact⟨.cons (ih v).1 q,by rw[eK,eK,l]⟩
  .cases h
theorem hX{T:Tab}{F:Run}:∀(n:Nat) {X:Cx}{E:XK}{C:Cn} (L:Lk X T E C F) (e:aI),Q2 X T E F e (cE C n e)
 |0,X,E,C,L,e=>dH
 |n+1,X,E,C,L,e=>by
  have d:=λe=>hX n L e;have tr:∀{e:aI}{y:Ex},QE X T E e (aL F y)->rf e=aB->(∀B,dP F y B=(aL F y B).bind dB)->Q2 X T E F e y:=λ{e y} q pl t=>by refine⟨q,?_⟩;have:=rG L.K q pl;have u:=funext t;rw[u];exact this
  cases e
  case Name=>exact aIu L _ _
  case Constant=>exact aIr L _ _ _
  case BinOp a op b p=>
   show Q2 X T E F _ (Ep op (cE C n a)<|cE C n b);unfold Ep;split
   .rename_i o M;exact tr (aCh (Q1 L M) (d _).1 (d _).1) rfl λ_=>rfl
   .exact dH
  case UnaryOp op a p=>
   show Q2 X T E F _ (Fa op<|cE C n a);unfold Fa;split
   .exact⟨aCo aMk (d _).1,Lf⟩
   .exact⟨aCg L.K (d _).1,aGh (d _).2⟩
   .exact dH
  case Compare a os bs p=>
   show Q2 X T E F _ (Et (cE C n) a os bs);unfold Et;split
   .split
    .rename_i hb;exact⟨aBs (gr L _) (d _).1 (d _).1 (Ah hb),aGg (gr L _) (d _).1 (d _).1 (Ah hb)⟩
    .exact dH
   .split
    .rename_i D;exact⟨aBq (gr L _) (gr L _) (d _).1 (d _).1 (d _).1 (Ah D),aGf (gr L _) (gr L _) (d _).1 (d _).1 (d _).1 (Ah D)⟩
    .exact dH
   .exact dH
  case BoolOp op r p=>
   show Q2 X T E F _ (Er op<|r.map<|cE C n);unfold Er;cases r with
   |nil=>split<;>exact dH|cons v r=>
    split
    .obtain⟨G,I⟩:=Su L d v r;exact⟨G,I.qt⟩
    .obtain⟨G,I⟩:=BQ L d v r;exact⟨G,I.qt⟩
  case IfExp=>exact⟨aBx (d _).2 (d _).1 (d _).1,Lf⟩
  case Tuple m k p=>
   show Q2 X T E F _ (if m.all bY then .tup (lB<|m.map<|cE C n) else .bad);split
   .rename_i J;exact tr (aCn<|nU J d) rfl λ_=>rfl
   .exact dH
  case List m p=>
   show Q2 X T E F _ (if m.all bY then .lst (lB<|m.map<|cE C n) else .bad);split
   .rename_i J;exact tr (aCa<|nU J d) rfl λ_=>rfl
   .exact dH
  case Subscript a s p=>
   show Q2 X T E F _ (Ez C (cE C n) a s);unfold Ez;split
   .exact tr (aCl L.K (d _).1 (BV d) (BV d)) rfl λ_=>rfl
   .split
    .rename_i hb;exact tr (aBz (A4 L.K (by have:=L.un;lia)) (d _).1 (d _).1 (aIc hb)) rfl λ_=>rfl
    .exact dH
  case Call g m ks p=>
   show Q2 X T E F _ (match wc C (cE C n) g m ks with
    |some y=>y
    |none=>Es C (cE C n) g m ks p)
   split
   .rename_i h;exact aIs L d h
   unfold Es;split
   .split
    .exact aIq L d _ _ _ _
    .exact aIt L d _ _ _ _ _
    .exact dH
   .exact dH
  case Dict ks r p=>
   show Q2 X T E F _ (Eu (cE C n) ks r);unfold Eu;split
   .exact tr aBu rfl λ_=>rfl
   .split
    .rename_i ss K;split
     .rename_i w;simp only[bT,decide_eq_true_eq,Oc]at w;obtain⟨q,hl⟩:=CI d K w.1.1;exact tr (aBt q (λe=>by rw[e]at hl;rw[aQv]at w;exact w.2<|ug hl)<|hl▸w.1.2) rfl λ_=>rfl
     .exact dH
    .exact dH
  case Attribute o f p=>
   show Q2 X T E F _ (En C o f<|cE C n o);unfold En;split
   .rename_i hb;split
    .rename_i cs D;exact tr (aBv (L.kK _ _ D) (d _).1 hb) rfl λ_=>rfl
    all_goals exact dH
   .exact dH
  case ListComp elt gs scope p=>
   show Q2 X T E F _ (nc C (λN O=>cE N n O) elt gs scope);unfold nc;split
   .split
    .rename_i hb;rw[bT]at hb;have A:=λs H a l=>L.comp hb.1 s H a l;split
     .exact CL L rfl<|tr (CN (ct:=aD) (L.wq hb.1) L.calm (sk L d _ _) (λs H a l=>Ak (A s H a l) _) (λc z=>by cases z) (λ_=>rfl) (λs H a l=>(hX n (A s H a l) _).1) (by simp[Cn.imp]) (λi j x t u=>L.imp t u) hb.2) rfl λ_=>rfl
     .exact CL L rfl<|tr (CN (ct:=aA _) (L.wq hb.1) L.calm (sk L d _ _) (λs H a l=>Ak (A s H a l) _) (λc z s H a l=>by cases z;exact(hX n (A s H a l) _).2) (λz=>by cases z) (λs H a l=>(hX n (A s H a l) _).1) (by simp[Cn.imp]) (λi j x t u=>L.imp t u) hb.2) rfl λ_=>rfl
     .exact dH
    .exact dH
   .exact dH
  all_goals exact dH
def Ae:WT->Fu->aF->aF
 |i::is,v::vs,Z=>Ae is vs (Z.set i<|aA v)
 |_,_,Z=>Z
def BU(is:WT)(mr:M Fu)(Z:aF):M Out:=mr.bind λvs=>M.guard (vs.length=is.length) (M.ret<|.nx<|Ae is vs Z)
section
variable {a b:aI}{x y z:Str}{px pz pt:Pos}{kt k2:Nat}{pt2:Pos}{i j k:Nat}
theorem aFx(hc:X.calm=aB)(hN:X.N.Nodup)(hi:X.N[i]?=aA x)(hj:X.N[j]?=aA y)(hij:i≠j)(hx:X.env.scope.names.lookup x=aA .local)(hy:X.env.scope.names.lookup y=aA .local)(ha:QA X T E [a,b] mr)
  (hw:ko [.Tuple [.Name x px,.Name y py] kt pt] (.Tuple [a,b] k2 pt2) X.env=pure (aA [x,y])) :
  QS X T E (.Assign [.Tuple [.Name x px,.Name y py] kt pt] (.Tuple [a,b] k2 pt2) pos) (λZ=>BU [i,j] (mr Z) Z):=by
 obtain⟨r,pr,f⟩:=ha;refine⟨_,aAn hc hN hi hj hij hx hy pr hw,λg Z c h H D R S w=>f g Z c h H _ R S (W.bind w λk xs l h1 H1 m n o d=>?_)⟩;obtain⟨e,d⟩:=zG d;cases o with
 |nil=>cases e|cons p rs=>
  cases rs with
  |nil=>cases e|cons q rs=>
   cases rs with
   |nil=>exact⟨_,_,rfl,W.here (b:=jK.nx _) d n (((S.ext m).set p i).set q j)⟩|cons _ _=>cases e
end
mutual
inductive Tg where
 |bad
 |nm (i:Nat)
 |tup (n:Nat) (ts:vS)
 |sub (o i:Ex)
inductive vS where
 |nil
 |cons (t:Tg) (ts:vS)
end
mutual
inductive Sx where
 |bad|pass|brk|cnt|Aa
 |expr (e:Ex)
 |ret (e:Ex)
 |asg (t:Tg) (e:Ex)
 |ite (c:Ex) (a b:aQ)
 |tS (t:Tg) (it:Ir) (b:aQ)
 |kB (d:Ex) (s:Sx)
 |Be (c:Ex) (b:aQ)
 |par (is:WT) (es:eD)
 |fu (cs:WT) (f:Str) (o e:Ex)
 |nz (cs:WT) (f:Str) (o e:Ex)
 |aug (sub:Bool) (i:Nat) (e:Ex)
inductive aQ where
 |nil
 |cons (s:Sx) (ss:aQ)
end
mutual
noncomputable def nT(F:Run):Tg->AV->aF->M aF
 |.bad,_,_=>M.bad
 |.nm i,v,Z=>M.ret (Z.set i<|aA v)
 |.tup n ts,v,Z=>zE n (vT F ts) v Z
 |.sub o i,v,Z=>(aL F o Z).bind λx=>(aL F i Z).bind λy=>(nX x y v).bind λ_=>M.ret Z
noncomputable def vT(F:Run):vS->Fu->aF->M aF
 |.nil,vs,Z=>Gz vs Z
 |.cons t ts,vs,Z=>Gy (nT F t) (vT F ts) vs Z
end
mutual
noncomputable def eL(F:Run):Sx->aF->M Out
 |.bad,_=>M.bad
 |.pass,σ=>M.ret (.nx σ)
 |.brk,σ=>M.ret (.brk σ)
 |.cnt,σ=>M.ret (.cnt σ)
 |.Aa,_=>M.ret (.ret .aH)
 |.expr e,σ=>(aL F e σ).bind λ_=>M.ret (.nx σ)
 |.ret e,σ=>(aL F e σ).bind λv=>M.ret (.ret v)
 |.asg t e,σ=>(aL F e σ).bind λv=>(nT F t v σ).bind λσ1=>M.ret (.nx σ1)
 |.ite c a b,σ=>yo (dP F c σ) (jA F a σ) (jA F b σ)
 |.tS t it b,σ=>(cO F it σ).bind λi=>jV i (nT F t) (jA F b) FU 0 σ
 |.kB d s,σ=>lZ (aL F d) (eL F s) σ
 |.Be c b,σ=>vA (dP F c) (jA F b) FU σ
 |.par is es,σ=>BU is (dA F es σ) σ
 |.fu cs f o e,σ=>Xk cs f (aL F o σ) (aL F e σ) σ
 |.nz cs f o e,σ=>Sy cs f (aL F o σ) (aL F e σ) σ
 |.aug sub i e,σ=>mv sub i (aL F e σ) σ
noncomputable def jA(F:Run):aQ->aF->M Out
 |.nil,Z=>M.ret (.nx Z)
 |.cons s ss,Z=>EU (eL F s Z) (jA F ss)
end
def tf:List Tg->vS
 |[]=>.nil
 |t::ts=>.cons t (tf ts)
def cG(C:Cn):Nat->aI->Tg
 |0,_=>.bad
 |n+1,e=>match e with
  |.Name x _=>match C.slot x with
   |some i=>.nm i
   |none=>.bad
  |.Tuple es _ _=>if es.all sV then .tup es.length (tf<|es.map<|cG C n) else .bad
  |.Subscript a b _=>if bY b then .sub (cE C EF a) (cE C EF b) else .bad
  |_=>.bad
def uT:List Sx->aQ
 |[]=>.nil
 |s::ss=>.cons s (uT ss)
def cK(C:Cn)(t:aI):WS:=match t with
 |.Name x _=>if decide (C.sc.names.lookup x=aA .local) then C.N.idxOf? x else aD
 |_=>aD
def swL(C:Cn)(t e:aI):Bool:=decide (Mj (vM e (aA t) 0 { (default:Env)with scope:=C.sc })=aA aB)
def cL(C:Cn)(t e:aI):Sx:=match cK C t with
 |some i=>if swL C t e then .asg (.nm i) (cE C EF e) else .bad
 |none=>.bad
def Mi(C:Cn)(t e:aI)(o:Option (List Str)):Bool:=decide (Mj (swE [t] e C.sc)=aA o)
def zi(C:Cn)(t e:aI)(ts vs:List aI):Bool:=ts.length==2&&vs.length==2&&ts.all (λt=>(cK C t).isSome)&&decide ((ts.filterMap<|cK C).Nodup)&&vs.all bY&&Mi C t e (aA<|ts.filterMap gm)
def cP(C:Cn)(t e:aI):Sx:=match t,e with
 |.Tuple ts _ _,.Tuple vs _ _=>if zi C t e ts vs then .par (ts.filterMap<|cK C) (lB<|vs.map<|cE C EF) else .bad
 |_,_=>.bad
def y7:aI->Bool
 |.Attribute ..=>aB
 |_=>aG
def Ew(C:Cn)(t e:aI):Sx:=match t with
 |.Attribute o f _=>match C.kK.lookup f with
  |some cs=>if bY e then .fu cs f (cE C EF o) (cE C EF e) else .bad
  |none=>.bad
 |_=>.bad
def Eo(C:Cn)(t:aI)(op:rN)(e:aI):Sx:=match t with
 |.Name x _=>match C.slot x with
  |some i=>match op with
   |.Add=>.aug aG i (cE C EF e)
   |.Sub=>.aug aB i (cE C EF e)
   |_=>.bad
  |none=>.bad
 |.Attribute o f _=>match C.kK.lookup f with
  |some cs=>match op with
   |.Add=>.nz cs f (cE C EF o) (cE C EF e)
   |_=>.bad
  |none=>.bad
 |_=>.bad
def Ey(C:Cn)(o:Option aI):Sx:=match o with
 |none=>.Aa
 |some e=>.ret (cE C EF e)
def Uk(C:Cn)(t e:aI):Sx:=
 if uB e then cL C t e else
 if y7 t then Ew C t e else
 if bY e&&sV t&&Mi C t e aD then .asg (cG C 4 t) (cE C EF e) else
  cP C t e
def Em(C:Cn)(ts:List aI)(e:aI):Sx:=match ts with
 |[t]=>Uk C t e
 |_=>.bad
def Cn.Aq(C:Cn)(it:aI)(d:Ex)(s:Sx):Sx:=if C.Hq it then .kB d s else s
def cS(C:Cn):Nat->Stmt->Sx
 |0,_=>.bad
 |n+1,s=>match s with
  |.Pass _=>.pass
  |.Break _=>.brk
  |.Continue _=>.cnt
  |.Return o _=>Ey C o
  |.Expr e _=>if bY e && !uB e then .expr (cE C EF e) else .bad
  |.Assign ts e _=>Em C ts e
  |.AugAssign t op e _=>Eo C t op e
  |.If c a b _=>.ite (cE C EF c) (uT<|a.map<|cS C n) (uT<|b.map<|cS C n)
  |.For t it b els _=>if els.isEmpty&&bY it then C.Aq it (cE C EF it) (.tS (cG C 4 t) (cI C (cE C EF) t it)<|uT<|b.map<|cS C n) else .bad
  |.While c b els _=>if els.isEmpty then .Be (cE C EF c) (uT<|b.map<|cS C n) else .bad
  |_=>.bad
section
variable {C:Cn}(L:Lk X T E C F)(ht:C.top=aB)
theorem aLr{k:aF->AV->aF}(σ:aF):lZ m0 (λσ=>(ma σ).bind λv=>(M.ret<|k σ v).bind λσ1=>M.ret (Out.nx σ1)) σ=(lZ m0 ma σ).bind λv=>(M.ret<|k σ v).bind λσ1=>M.ret (Out.nx σ1):=by
 funext h
 simp only[M.bind,M.ret,lZ];cases wy (m0 σ h) with
 |none=>rfl|some n=>
  dsimp only;cases h.ob n with
  |none=>rfl|some u=>
   cases u with
   |aP b=>
    cases ma σ h with
    |ok a c=>
     dsimp only[tj];cases c.ob n with
     |none=>rfl|some w=>cases w<;>rfl
    |bad=>rfl
   |_=>rfl
theorem DI{st:Stmt}{it:aI}{y:Ex}{i:Nat}(h:QS X T E st (λσ=>(aL F y σ).bind λv=>(M.ret<|σ.set i<|aA v).bind λσ1=>M.ret (.nx σ1))) :
  QS X T E st (λσ=>(aL F (C.kB it d y) σ).bind λv=>(M.ret<|σ.set i<|aA v).bind λσ1=>M.ret (.nx σ1)):=by
 unfold Cn.kB;split
 .have q:=DH (aL F d) h;have e:lZ (aL F d) (λσ=>(aL F y σ).bind λv=>(M.ret<|σ.set i<|aA v).bind λσ1=>M.ret (Out.nx σ1))=λσ=>(aL F (.kB d y) σ).bind λv=>(M.ret<|σ.set i<|aA v).bind λσ1=>M.ret (Out.nx σ1):=funext λσ=>aLr σ;rw[e]at q;exact q
 .exact h
theorem aGb{st:Stmt}{it:aI}{s:Sx}(h:QS X T E st (eL F s)):QS X T E st (eL F<|C.Aq it d s):=by
 unfold Cn.Aq;split
 .exact DH (aL F d) h
 .exact h
theorem aLq{f:aI->Tg}(hs:es.all sV=aB)(h:∀e,QG X T E e (nT F<|f e)):dq X T E es (vT F<|tf<|es.map f):=by
 induction es with
 |nil=>exact CV|cons e es a=>rw[jI,bT]at hs;exact CU (h e) (a hs.2) hs.1
include L ht in
theorem Mb:∀(n:Nat) (e:aI),QG X T E e (nT F<|cG C n e)
 |0,e=>uL
 |n+1,e=>by
  unfold cG;split
  .split
   .rename_i i a;unfold Cn.slot at a;split at a
    .rename_i hl;have c:∀{x:Str},C.loc x=aB->vO X.env.scope x:=λ{x} hl=>by rw[L.sc];simp only[Cn.loc,jr,decide_eq_true_eq]at hl;exact hl
     exact Ke (by rw[L.N];exact L.nd) (by rw[L.N];exact tZ a) (c hl)<|.inl<|L.fn ht _
    .cases a
   .exact uL
  .split
   .rename_i b;exact CS L.K L.calm (aLq b<|Mb n) b
   .exact uL
  .split
   .rename_i b;exact aCq (by have:=L.un;lia) (hX EF L _).1 (hX EF L _).1 b
   .exact uL
  .exact uL
theorem sy{ss:WN}{f:Stmt->Sx}(h:∀s,QS X T E s (eL F<|f s)):vQ X T E ss (jA F<|uT<|ss.map f):=by
 induction ss with
 |nil=>exact aGe|cons s ss a=>exact aGd (h s) a
theorem Ma{t:aI}(h:(cK C t).isSome=aB):∃x p i,t = .Name x p/\cK C t=aA i/\C.sc.names.lookup x=aA .local/\C.N[i]?=aA x:=by
 cases t with
 |Name x p=>
  obtain⟨i,a⟩:=Option.isSome_iff_exists.mp h;refine⟨x,p,i,rfl,a,?_⟩;have a:(if decide (C.sc.names.lookup x=aA .local)=aB then C.N.idxOf? x else aD)=aA i:=a;by_cases e:C.sc.names.lookup x=aA .local
  .rw[if_pos (decide_eq_true e)]at a;exact⟨e,tZ a⟩
  .rw[if_neg (mt of_decide_eq_true e)]at a;cases a
 |_=>cases h
theorem Zz{α:Type}{l:List α}(h:l.length=2):∃a b,l=[a,b]:=by
 match l,h with
 |[a,b],_=>exact⟨a,b,rfl⟩
theorem FR{t:aI}{o:Option (List Str)}(hs:X.env.scope=C.sc)(h:Mi C t e o=aB):ko [t] e X.env=pure o:=by have h:=FT (of_decide_eq_true h);rw[<- hs]at h;exact h
include L ht in
theorem aIp(t e:aI)(pB:Pos):QS X T E (.Assign [t] e pB) (eL F<|cP C t e):=by
 cases t with
 |Tuple d m pt=>
  cases e with
  |Tuple f k2 n=>
   show QS X T E _ (eL F<|if zi C (.Tuple d m pt) (.Tuple f k2 n) d f then .par (d.filterMap<|cK C) (lB<|f.map<|cE C EF) else .bad);by_cases ok:zi C (.Tuple d m pt) (.Tuple f k2 n) d f=aB
   .rw[if_pos ok];unfold zi at ok;rw[bT,bT,bT,bT,bT]at ok;obtain⟨⟨⟨⟨⟨o,p⟩,k⟩,c⟩,g⟩,l⟩:=ok;obtain⟨t1,q,rfl⟩:=Zz (eq_of_beq o);obtain⟨a,b,rfl⟩:=Zz (eq_of_beq p);have sl:=List.all_eq_true.mp k;obtain⟨x,r,i,rfl,s,u,g1⟩:=Ma (sl t1<|.head _);obtain⟨y,py,j,rfl,v,w,g2⟩:=Ma (sl q<|.tail _<|.head _);have c:=of_decide_eq_true c;have z:[Expr.Name x r,.Name y py].filterMap (cK C)=[i,j]:=by rw[JD s,JD v];rfl
    rw[z]at c ⊢;have lc:∀{x:Str},C.sc.names.lookup x=aA .local->X.env.scope.names.lookup x=aA .local:=λ{x} h=>L.sc▸h;exact aFx L.calm (by rw[L.N];exact L.nd) (by rw[L.N];exact g1) (by rw[L.N];exact g2) (λe=>(List.nodup_cons.mp c).1 (e ▸ .head _)) (lc u) (lc w) (nU g<|hX EF L)<|FR L.sc l
   .rw[if_neg ok];exact iQ
  |_=>exact iQ
 |_=>exact iQ
include L ht in
theorem aIo(t e:aI)(pB:Pos)(hlc:uB e=aB):QS X T E (.Assign [t] e pB) (eL F<|cL C t e):=by
 unfold cL;split
 .rename_i i p;obtain⟨y,py,j,rfl,u,k,d⟩:=Ma (by rw[p];rfl);cases p.symm.trans u;split
  .rename_i l;rw[<- L.N]at d;rw[<- L.sc]at k;have q:=L.N▸L.nd;cases e with
   |ListComp elt gens scope pos=>
    have f:vM (.ListComp elt gens scope pos) (aA<|.Name y py) pB.line X.env=pure aB:=by have h:=FT (of_decide_eq_true l);rw[<- L.sc]at h;exact h
    show QS X T E _ (λr=>(aL F (nc C (λw A=>cE w 39 A) elt gens scope) r).bind λv=>(M.ret<|r.set i<|aA v).bind λm=>M.ret (.nx m));unfold nc;split
    .split
     .rename_i hb;rw[bT]at hb;have g:=λs H a b=>L.comp hb.1 s H a b;split
      .exact DI<|DG (ct:=aD) q d k f (L.wq hb.1) L.calm (sk L (hX 39 L) _ _) (λs H a b=>Ak (g s H a b) _) (λc z=>by cases z) (λ_=>rfl) (λs H a b=>(hX 39 (g s H a b) _).1) (by simp[Cn.imp]) (λi j x n o=>L.imp n o) hb.2
      .exact DI<|DG (ct:=aA _) q d k f (L.wq hb.1) L.calm (sk L (hX 39 L) _ _) (λs H a b=>Ak (g s H a b) _) (λc z s H a b=>by cases z;exact(hX 39 (g s H a b) _).2) (λz=>by cases z) (λs H a b=>(hX 39 (g s H a b) _).1) (by simp[Cn.imp]) (λi j x n o=>L.imp n o) hb.2
      .exact iQ
     .exact iQ
    .exact iQ
   |_=>cases hlc
  .exact iQ
 .exact iQ
theorem aJp{v o:aI}{f:Str}{l:Nat}(h:bY v=aB)(hn:uB v=aG):vM v (aA<|.Attribute o f p) l env=pure aG:=by cases v<;>first|rfl|cases h|cases hn
include L in
theorem aIn(t e:aI)(pB:Pos)(hlc:uB e=aG):QS X T E (.Assign [t] e pB) (eL F<|Ew C t e):=by
 unfold Ew;split
 .split
  .rename_i cs a;split
   .rename_i b;exact aFt (L.kK _ _ a) (hX EF L _).1 (hX EF L _).1 (aJp b hlc)
   .exact iQ
  .exact iQ
 .exact iQ
include L ht in
theorem aIm(t:aI)(op:rN)(e:aI)(pos:Pos):QS X T E (.AugAssign t op e pos) (eL F<|Eo C t op e):=by
 unfold Eo;split
 .rename_i x d;split
  .rename_i i a;unfold Cn.slot at a;split at a
   .rename_i hl;have b:vO X.env.scope x:=by rw[L.sc];simp only[Cn.loc,jr,decide_eq_true_eq]at hl;exact hl
    split
    .exact DF aG (L.N▸L.nd) (by rw[L.N];exact tZ a) b (.inl<|L.fn ht _) (hX EF L _).1
    .exact DF aB (L.N▸L.nd) (by rw[L.N];exact tZ a) b (.inl<|L.fn ht _) (hX EF L _).1
    .exact iQ
   .cases a
  .exact iQ
 .split
  .rename_i cs c;split
   .exact aFu (L.kK _ _ c) (hX EF L _).1 (hX EF L _).1
   .exact iQ
  .exact iQ
 .exact iQ
include L ht in
theorem FI:∀(n:Nat) (s:Stmt),QS X T E s (eL F<|cS C n s)
 |0,s=>iQ
 |n+1,s=>by
  have h:=FI n;cases s
  case Pass=>exact aFy
  case Break=>exact aFq
  case Continue=>exact aFr
  case Return o p=>
   show QS X T E _ (eL F<|Ey C o);unfold Ey;split
   .exact aGa
   .exact aFz (hX EF L _).1
  case Expr e p=>
   show QS X T E _ (eL F<|if bY e && !uB e then .expr (cE C EF e) else .bad);split
   .rename_i a;rw[bT,Oc]at a;exact aFs (hX EF L _).1 a.1 a.2
   .exact iQ
  case Assign i e d=>
   show QS X T E _ (eL F<|Em C i e);unfold Em;split
   case h_2=>exact iQ
   case h_1 t=>
    unfold Uk;split
    .rename_i g;exact aIo L ht t e d g
    .rename_i g;split
     .exact aIn L t e d (by simpa using g)
     split
     .rename_i a;rw[bT,bT]at a;exact aFp (hX EF L _).1 (Mb L ht 4 _) a.1.1 (by simpa using g) a.1.2 (FR L.sc a.2)
     .exact aIp L ht t e d
  case AugAssign=>exact aIm L ht _ _ _ _
  case If=>exact aFw (hX EF L _).2 (sy h) (sy h)
  case For t it b f p=>
   show QS X T E _ (eL F<|if f.isEmpty&&bY it then C.Aq it (cE C EF it) (.tS (cG C 4 t) (cI C (cE C EF) t it)<|uT<|b.map<|cS C n) else .bad);split
   .rename_i a;rw[bT]at a;cases f with
    |nil=>exact aGb<|aFv (L.po ht) L.calm (sk L (hX EF L) _ _) (Mb L ht 4 _) (sy h) a.2|cons _ _=>cases a.1
   .exact iQ
  case While c b f p=>
   show QS X T E _ (eL F<|if f.isEmpty then .Be (cE C EF c) (uT<|b.map<|cS C n) else .bad);split
   .rename_i a;cases f with
    |nil=>exact aGc (L.po ht) (hX EF L _).2 (sy h)|cons _ _=>cases a
   .exact iQ
  all_goals exact iQ
end
abbrev Pg:=Nat->Option (Nat×Nat×aQ)
def BS:Out->M AV
 |.nx _=>M.ret .aH
 |.ret v=>M.ret v
 |_=>M.bad
def run(P:Pg):Nat->Run
 |0,_,_=>M.bad
 |k+1,f,args=>match P f with
  |none=>M.bad
  |some (np,nn,b)=>M.guard (args.length=np) ((jA (run P k) b<|args.map aA++eO (nn-np) aD).bind BS)
def UI:Stmt->WN
 |.ClassDef _ _ _ body ..=>body
 |_=>[]
structure Df where
 name:Str
 qual:Str
 st:Stmt
 N:WL
 ps:WL
structure Pr where
 defs:List Df
 yV:Nat
 pf:WR
 iZ:WL
 HW:List (Str×Nat):=[]
 cat:List (Str×Wo):=[]
 Ze:List (Str×Wo):=[]
 kK:List (Str×WT):=[]
 mZ:List (Str×WQ):=[]
 mM:List ((Str×Nat)×(Nat×Nat×Fu)):=[]
 sE:List (Str×Wo):=[]
 oS:List (Str×List (Str×Nat)):=[]
 Fm:WL:=[]
def SF:Nat:=30
def Pr.cn(p:Pr)(d:Df):Cn:=⟨d.N,pT d.st,(p.defs.take p.yV).map (·.name),p.pf,p.iZ,p.HW,p.cat,p.Ze,aB
 ,p.kK,p.mZ,p.mM,p.sE,p.oS
 ,p.Fm
 ⟩
def Pr.bodyOf(p:Pr)(d:Df):Nat×Nat×aQ:=(d.ps.length,d.N.length,uT ((fh d.st).map (cS (p.cn d) SF)))
def Pr.ir(p:Pr):Pg:=λi=>(p.defs[i]?).map p.bodyOf
structure Ry(K:bH)(x qual:Str)(st:Stmt)(f:Addr)(fd:eV):Prop where
 ex:∃(oc:Value) (od:Wr) (dV kV doc pm:Value) (an:Wr) (cdv ct:Value) (osl:Wn),
  fd=ki x qual (xa st) (fh st) (pT st) dV kV doc pm an cdv ct/\K.lookup f=aA ⟨oc,od,.func fd,osl⟩/\Qf K cdv qual=aB
 kp:tD K (.ref f)=aB
theorem vy{K:bH}{ds:Fv}{D:Addr}{o:Obj}(hd:fd.defaults = .ref D)(l:K.lookup D=aA o)(hs:o.data = .seq items n)
  (h:∀us:Fv,(us++ds).length=ps.length->∃k,bindArgs fd ⟨us,[]⟩=cq fd.defaults>>=k/\k (aA items)=pure (ps.zip<|us++ds)):Binds K fd ps ds:=λs us X hl=>
 let ⟨_,h1,a⟩:=h us hl;BindsTo.of_defaults hd (X _ _ l) hs h1 a
structure Dn(K:bH)(d:Df)(f:Addr)(fd:eV):Prop where
 fn:Ry K d.name d.qual d.st f fd
 bd:Binds K fd d.ps []
 sc:lj d.N d.ps (pT d.st)
inductive iX(K:bH):List Df->S1->List eV->Prop
 |nil:iX K [] [] []
 |cons {d:Df}{a:Addr}{f:eV}{ds:List Df}{as:S1}{fs:List eV} (h:Dn K d a f) (t:iX K ds as fs):iX K (d::ds) (a::as) (f::fs)
theorem iX.get{K:bH}{ds:List Df}{as:S1}{fs:List eV}(h:iX K ds as fs){f0:eV}:∀(i:Nat) d,ds[i]?=aA d->Dn K d (as.getD i 0) (fs.getD i f0):=by
 induction h with
 |nil=>intro i d e;simp at e|cons h t a=>
  intro i d e;cases i with
  |zero=>cases(e);exact h|succ i=>exact a i d e
theorem aMo{α:Type}{us:List α}(h:us.length=0):us=[]:=ug h
theorem My{α:Type}{us:List α}(h:us.length=1):∃a0,us=[a0]:=by obtain⟨a,r,rfl⟩:=xH h;obtain rfl:=aMo (by simpa using h);exact⟨a,rfl⟩
theorem jf{α:Type}{us:List α}(h:us.length=2):∃a0 a1,us=[a0,a1]:=by obtain⟨a,r,rfl⟩:=xH h;obtain⟨b,rfl⟩:=My (by simpa using h);exact⟨a,b,rfl⟩
theorem Mz{α:Type}{us:List α}(h:us.length=3):∃a0 a1 a2,us=[a0,a1,a2]:=by obtain⟨a,r,rfl⟩:=xH h;obtain⟨b,b1,rfl⟩:=jf (by simpa using h);exact⟨a,b,b1,rfl⟩
theorem Na{α:Type}{us:List α}(h:us.length=4):∃a0 a1 a2 a3,us=[a0,a1,a2,a3]:=by obtain⟨a,r,rfl⟩:=xH h;obtain⟨b,b1,b2,rfl⟩:=Mz (by simpa using h);exact⟨a,b,b1,b2,rfl⟩
theorem GW{α:Type}{us:List α}(h:us.length=5):∃a0 a1 a2 a3 a4,us=[a0,a1,a2,a3,a4]:=by obtain⟨a,r,rfl⟩:=xH h;obtain⟨b,b1,b2,c,rfl⟩:=Na (by simpa using h);exact⟨a,b,b1,b2,c,rfl⟩
theorem GX{α:Type}{us:List α}(h:us.length=6):∃a0 a1 a2 a3 a4 a5,us=[a0,a1,a2,a3,a4,a5]:=by obtain⟨a,r,rfl⟩:=xH h;obtain⟨b,b1,b2,c,d,rfl⟩:=GW (by simpa using h);exact⟨a,b,b1,b2,c,d,rfl⟩
theorem aMp{α:Type}{us:List α}(h:us.length=7):∃a0 a1 a2 a3 a4 a5 a6,us=[a0,a1,a2,a3,a4,a5,a6]:=by obtain⟨a,r,rfl⟩:=xH h;obtain⟨b,b1,b2,c,d,e,rfl⟩:=GX (by simpa using h);exact⟨a,b,b1,b2,c,d,e,rfl⟩
theorem GY{α:Type}{us:List α}(h:us.length=8):∃a0 a1 a2 a3 a4 a5 a6 a7,us=[a0,a1,a2,a3,a4,a5,a6,a7]:=by obtain⟨a,r,rfl⟩:=xH h;obtain⟨b,b1,b2,c,d,e,f,rfl⟩:=aMp (by simpa using h);exact⟨a,b,b1,b2,c,d,e,f,rfl⟩
structure Dy(P:cD)(w:bW)(p:Pr)(T:Tab)(mg:Str->WM)(ad:Nat->Addr)(fds:Nat->eV):Prop where
 df:∀(i:Nat) d,p.defs[i]?=aA d->Dn T.K d (ad i) (fds i)
 gn:∀(i:Nat) d,(p.defs.take p.yV)[i]?=aA d->mg d.name=aA (.ref<|ad i)
 gv:∀x v,p.pf.lookup x=aA v->∃u v',mg x=aA u/\RelV v' u/\∀Y H,aT T Y H v v'
 bl:∀x,p.iZ.contains x=aB->mg x=aD
 tab:∀(kvs:WW) a,T.G kvs a->ly P w T.K a kvs
 kK:∀f cs,p.kK.lookup f=aA cs->di T.K T cs f
 mZ:∀m dp,p.mZ.lookup m=aA dp->∀c i,dp.lookup c=aA i->∃d D,p.defs[i]?=aA d/\T.C c=aA D/\mU T.K D/\vm T.K D m (ad i)
 mM:∀x n c i dv,p.mM.lookup (x,n)=aA (c,i,dv)->∃d D ds dvs,p.defs[i]?=aA d/\T.C c=aA D/\Mk T.K D (ad i)/\mg x=aA (.ref D)/\Binds T.K (fds i) d.ps ds/\Vals dvs ds/\∀Y H,bD T Y H dv dvs
 sE:∀y cs,p.sE.lookup y=aA cs->∃D:Addr,mg y=aA (.ref D)/\∀k b,cs.lookup k=aA b->∃D':Addr,T.C k=aA D'/\Se T.K D'/\Qh T.K (.ref D') (.ref D)=aA b
 oS:∀x m i,(p.oS.lookup x).bind (·.lookup m)=aA i->∃d D,p.defs[i]?=aA d/\mg x=aA (.ref D)/\tD T.K (.ref<|ad i)=aB /\
  Cv T.K (.ref D) "__getattribute__"=aA (aA<|.builtin "type.__getattribute__")/\Ql T.K D (.type "type")=aB/\Qg T.K (.ref D) (.type "type") m=aA (.val<|.ref<|ad i)/\Cs (.ref<|ad i)=aB
theorem C0{K:bH}{o:Obj}{kvs:WW}(l:K.lookup a=aA o)(e:Ck Px (λ_=>aA o) a (kvs.map λp=>(p.1,rO p.2))=aB)
  (n:(kvs.map (·.1)).Nodup)(q:Cj (λ_=>aA o) a=(kvs.map λp=>(p.1,rO p.2)).map λp=>(Qp P w).hash p.1):ly P w K a kvs:=λh x=>by
 have c:Ck Px (λb=>K.lookup b) a (kvs.map λp=>(p.1,rO p.2))=aB:=by rw[<- e];simp only[Ck,l]
 have d:Cj (λb=>K.lookup b) a=(kvs.map λp=>(p.1,rO p.2)).map λp=>(Qp P w).hash p.1:=by rw[<- q];simp only[Cj,l]
 have:=W.kt_tab_in P w x c (by rw[hB];exact n) d;rw[hB]at this;exact this
section
variable {mg:Str->WM}{base:bS}{p:Pr}{ad:Nat->Addr}{fds:Nat->eV}
theorem aJi{args:Fu}{vs:Fx}{N:WL}(r:bD T Y H args vs)(hn:N.length=n):cT T Y H (args.map aA++eO (n-args.length) aD) (L2.start N vs):=by
 subst hn;unfold L2.start;have hl:=r.length;refine⟨by simp[hl],λi v e=>?_⟩;by_cases b:i<args.length
 .rw[sY (by simpa),fR]at e;cases q:args[i]? with
  |none=>rw[q]at e;cases e|some a=>rw[q]at e;cases e;obtain⟨y,h1,c⟩:=r.get q;exact⟨y,by rw[sY (by rw[aR,<- hl];exact b),fR,h1];rfl,c⟩
 .rw[Bx (by simpa using b),By]at e;split at e<;>cases e
theorem j0{K:bH}{x qual:Str}{st:Stmt}{f:Addr}{N:WL}{k:Nat}(F:Ry K x qual st f fd)(S:lj N ps (pT st))(len:∀vs H Q E,sp vs H Q E->vs.length=ps.length)
  (Hb:∀(cdv:Value) (A:cR) (outer:Wl) (s:aK) (H:Hp) (vs:Fx) (Q:VK) (E:XK),fI k (A.deeper<|vK qual (pT st) s.heap.objs.size f cdv)->sp vs H Q E ->
   ∃t,rS (wC (kH P w) P w K mg base N qual (pT st) f cdv A outer s H E) (fh st) t/\t { nx:=λ_ H'=>Q .aH H',rt:=Q } (L2.start N vs) H):iK P w K mg base (kH P w) (k+1) f fd ps sp:=by
 obtain⟨d,od,e,kV,doc,pm,an,cdv,ct,c,rfl,lk,a⟩:=F.ex;exact f9 lk a S len λA outer s H vs Q E hr b=>Hb cdv A outer s H vs Q E hr b
theorem ES(O:Dy P w p T mg ad fds):∀(k i:Nat) (d:Df),p.defs[i]?=aA d->iK P w T.K mg base (kH P w) (2*k+2) (ad i) (fds i) d.ps (sU T<|run p.ir k i)
 |0,i,d,hd=>⟨λy H Q E ⟨z,h,args,_,_,w⟩=>w.elim,λA outer s H args us y Q E _ _ _ _ ⟨z,h,ar,_,_,w⟩=>w.elim⟩
 |k+1,i,d,hd=>by
  have B:=ES O k;have D:=O.df i d hd;have u:p.ir i=aA (p.bodyOf d):=by unfold Pr.ir;rw[hd];rfl
  refine j0 D.fn D.sc (λy H Q E h=>?_)<|λI A outer s H y Q E hr h=>?_
  .obtain⟨z,h,args,R,r,w⟩:=h;simp only[run,u,Pr.bodyOf]at w;obtain⟨hl,_⟩:=zG w;rw[<- r.length,hl]
  .obtain⟨z,h,args,R,r,C⟩:=h;simp only[run,u]at C;obtain⟨hl,C⟩:=zG C;have L:Lk (wC (kH P w) P w T.K mg base d.N d.qual (pT d.st) (ad i) I A outer s H E) T E (p.cn d) (run p.ir k):={
    K:=rfl
    N:=rfl
    sc:=rfl
    nd:=D.sc.nd
    fn:=λ_ _=>rfl
    calm:=rfl
    po:=λ_=>PassesOwn.leaving
    gv:=O.gv
    fns:=λj x hx=>by
     have b:((p.defs.take p.yV).map (·.name))[j]?=aA x:=hx;rw[fR]at b;cases q:(p.defs.take p.yV)[j]? with
     |none=>rw[q]at b;cases b|some a=>
      rw[q]at b;cases b;have f:p.defs[j]?=aA a:=by
       rw[Ow]at q;split at q
       .exact q
       .cases q
      have l:=O.df j a f;exact⟨2*k+2,ad j,fds j,a.ps,B j a f,hr,O.gn j a q,l.fn.kp,l.bd,zj⟩
    iZ:=O.bl
    tab:=O.tab
    un:=hr.units
    kK:=O.kK
    mZ:=λm dp h c D g h1 J=>by obtain⟨j,hj,e⟩:=Option.map_eq_some_iff.mp h1;subst e;obtain⟨a,l,f,F,M,S⟩:=O.mZ m dp h c j hj;rw[J]at F;cases F;exact⟨2*k+2,ad j,fds j,a.ps,B j a f,hr.mono (iJ _),M,S,(O.df j a f).bd,zj⟩
    mM:=λx n c j dv h=>by obtain⟨a,l,ds,U,f,F,M,S,c3,c4,c5⟩:=O.mM x n c j dv h;exact⟨2*k+2,l,ad j,fds j,a.ps,ds,U,F,M,B j a f,hr,S,c3,c4,c5,zj⟩
    sE:=O.sE
    oS:=λx m j h=>by obtain⟨a,l,f,hm,kp,h1,J,h3,h4⟩:=O.oS x m j h;exact⟨2*k+2,l,ad j,fds j,a.ps,hm,B j a f,hr.mono (iJ _),kp,h1,J,h3,h4,(O.df j a f).bd,zj⟩
   }
   obtain⟨t,ps,rs⟩:=sy (FI L rfl SF);refine⟨t,ps,rs z _ (L2.start d.N y) h H _ R ?_ (W.bind C λρ1 o Y h1 H1 e1 XC X G=>?_)⟩
   .rw[<- hl];exact aJi r rfl
   .cases o with
    |nx Z=>cases Y with
     |nx Z'=>exact(W.here G XC aT.aH:Q V.aH H1)|_=>cases X
    |ret v=>cases Y with
     |ret v'=>exact(W.here G XC X:Q v' H1)|_=>cases X
    |brk Z=>cases G|cnt Z=>cases G
def Me(K:bH):Sp:=λvs H Q _=>∃(a:Addr) (ns:WK),vs=[.ref a]/\pL K H a (ns.map V.int)/\ns.length<=63/\∀H',Q (.bl aB) H'
def h0(ns:WK):AH:=⟨1,λm=>if m=0 then aA (.lst aG<|ns.map AV.int) else aD⟩
def Keeps(P:Pg)(k i:Nat):Prop:=∀ns:WK,ns.length<=63->∃h',run P k i [.ref 0] (h0 ns) = .ok (.bl aB) h'
theorem p8(h:pL T.K H a (ns.map V.int)):bQ T [a] (h0 ns) H:=by
 have z:∀{n:Nat}{o:bC},(h0 ns).ob n=aA o->n=0/\o = .lst aG (ns.map AV.int):=λ{n o} e=>by
  have c:(if n=0 then aA (bC.lst aG<|ns.map AV.int) else aD)=aA o:=e;by_cases hn:n=0
  .rw[if_pos hn]at c;exact⟨hn,(dJ c).symm⟩
  .rw[if_neg hn]at c;cases c
 refine⟨rfl,λn o e=>?_,λn o b e q=>?_,λn m b o u d f g i _ _=>?_⟩
 .rw[(z e).1];exact KJ
 .obtain⟨rfl,rfl⟩:=z e;cases q;exact⟨_,h,bD.ints ns⟩
 .rw[(z d).1,(z f).1]
theorem C6(O:Dy P w p T mg ad fds){k i:Nat}{d:Df}(hd:p.defs[i]?=aA d)(h:Keeps p.ir k i):iK P w T.K mg base (kH P w) (2*k+2) (ad i) (fds i) d.ps (Me T.K):=by refine(ES O k i d hd).imp λl H Q E c=>?_;obtain⟨a,ns,e,f,hl,q⟩:=c;subst e;obtain⟨m,e⟩:=h ns hl;refine⟨[a],h0 ns,[.ref 0],p8 f,.cons (.ref rfl) .nil,?_⟩;rw[e];intro g b j _ _ r;cases r;exact q j
theorem j3{K:bH}{xs:Fx}(ho:vn H)(h:dM K H a xs):pL K H a xs:=by
 rcases h with(h|h)|h
 .rcases ho a with z|⟨o,ys,z⟩
  .rw[h]at z;cases z
  .rw[h]at z;cases z
 .exact .inl h
 .exact .inr h
end
theorem walk{l:Qd}{q:cD}{loose:WL}{XP:(Str->WM)->bS->Prop}{YP:bW->bS->Prop}{d:DefRec}{K:bV->bH}{k:Nat}{x:Str}(hn:l.most=aA 63)(hdf:d.params.defaults=[])(hr:fI k xU)
  (hY:∀(w:bW) (h:bS),YP w h->(K w.params).In h)
  (F:∀(w:bW) (mg:Str->WM) (fa:Addr) (h:bS),(K w.params).In h->h.Ns iW mg->mg d.name=aA (.ref fa) ->
   ∃fd:eV,(∀(s:aK) (u:Value),jn s fd ⟨[u],[]⟩ [(x,u)])/\∀base:bS,(K w.params).In base->base.Ns iW mg->iK l.prog w (K w.params) mg base (kH l.prog w) k fa fd [x] (Me<|K w.params)) :
  LJ q loose XP YP l.row.toRowW d [] (λf vs=>Qo f vs):=
 L2.aMx hn (by decide) hdf hr hY F (λ_ _ a ns hl b c=>⟨a,ns,rfl,j3 b c,hl,λ_=>rfl⟩) λ_ _ _ _ _ z=>ng z
def We{α:Type}(m:M α)(h:AH)(Q:α->AH->Prop):Prop:=match m h with
 |.ok a h'=>Q a h'
 |.bad=>False
abbrev Wp{α:Type}(m:M α)(h:AH)(Q:α->AH->Prop):Prop:=We m h Q
section
variable {α β:Type}{m:M α}{k:α->M β}{h':AH}{Q:α->AH->Prop}{Q2:β->AH->Prop}
theorem bI(w:We m h λa h1=>We (k a) h1 Q2):We (M.bind m k) h Q2:=by
 unfold We at w ⊢;unfold M.bind;cases e:m h with
 |ok a h1=>rw[e]at w;exact w|bad=>rw[e]at w;exact w.elim
theorem We.mono{Q':α->AH->Prop}(w:We m h Q)(f:∀a h1,Q a h1->Q' a h1):We m h Q':=by
 unfold We at w ⊢;cases e:m h with
 |ok a h1=>rw[e]at w;exact f a h1 w|bad=>rw[e]at w;exact w.elim
theorem We.eq{a:α}(e:m h = .ok a h')(q:Q a h'):We m h Q:=by unfold We;rw[e];exact q
theorem We.ex(w:We m h Q):∃a h',m h = .ok a h'/\Q a h':=by
 unfold We at w;cases e:m h with
 |ok a b=>rw[e]at w;exact⟨a,b,rfl,w⟩|bad=>rw[e]at w;exact w.elim
theorem jk{p:Prop} [Decidable p] (hp:p)(w:We m h Q):We (M.guard p m) h Q:=by unfold We at w ⊢;unfold M.guard;rw[if_pos hp];exact w
variable {V1:AV->AH->Prop}{B1:Bool->AH->Prop}{L1:Fu->AH->Prop}
theorem Bj{i:Nat}(e:Z[i]?=aA (aA v))(q:V1 v h):We (aL F (.var i) Z) h V1:=by show We (tX i Z) h V1;unfold We tX;rw[e];exact q
theorem aPh{o:Op}{a b:Ex}(w:We (aL F a Z) h λx h1=>We (aL F b Z) h1 λy h2=>We (o.g x y) h2 V1):We (aL F (.op o a b) Z) h V1:=bI (w.mono λ_ _ z=>bI z)
theorem aOx{o:Cp}{a b:Ex}(w:We (aL F a Z) h λx h1=>We (aL F b Z) h1 λy h2=>We (o.g x y) h2 V1):We (aL F (.cmp o a b) Z) h V1:=bI (w.mono λ_ _ z=>bI z)
theorem aPf{a:Ex}(w:We (aL F a Z) h λx h1=>We (ox x) h1 V1):We (aL F (.neg a) Z) h V1:=bI w
theorem aPg{a:Ex}(w:We (aL F a Z) h λx h1=>We (dB x) h1 λb h2=>V1 (.bl<|!b) h2):We (aL F (.not a) Z) h V1:=bI (w.mono λ_ _ z=>bI z)
theorem aOt{a b:Ex}(w:We (aL F a Z) h λx h1=>We (dB x) h1 λt h2=>if t=aB then We (aL F b Z) h2 V1 else V1 x h2):We (aL F (.and a b) Z) h V1:=
 bI (w.mono λx _ z=>bI (z.mono λt _ y=>by
  cases t with
  |true=>exact y|false=>exact y))
theorem aPi{a b:Ex}(w:We (aL F a Z) h λx h1=>We (dB x) h1 λt h2=>if t=aB then V1 x h2 else We (aL F b Z) h2 V1):We (aL F (.or a b) Z) h V1:=
 bI (w.mono λx _ z=>bI (z.mono λt _ y=>by
  cases t with
  |true=>exact y|false=>exact y))
theorem aPc{c a b:Ex}(w:We (dP F c Z) h λt h1=>if t=aB then We (aL F a Z) h1 V1 else We (aL F b Z) h1 V1):We (aL F (.ite c a b) Z) h V1:=bI (w.mono λt _ y=>by
 cases t with
 |true=>exact y|false=>exact y)
theorem HQ{o:Cp}{a b c:Ex}(w:We (aL F a Z) h λx h1=>We (aL F b Z) h1 λy h2=>We (o.g x y) h2 λz h3=>∃t,z = .bl t/\if t=aB then We (aL F c Z) h3 λu h4=>We (o'.g y u) h4 V1 else V1 (.bl aG) h3) :
 We (aL F (.chain o o' a b c) Z) h V1:=bI (w.mono λx _ z=>bI (z.mono λy _ z=>bI (z.mono λu h3 ⟨t,e,q⟩=>by
 subst e;cases t with
 |true=>exact bI q|false=>exact q)))
theorem aPq{es:eD}(w:We (dA F es Z) h λxs h1=>xs.length<=sizeLine/\V1 (.tup xs) h1):We (aL F (.tup es) Z) h V1:=bI (w.mono λxs _ z=>jk z.1 z.2)
theorem aPd{es:eD}(w:We (dA F es Z) h λxs h1=>xs.length<=sizeLine/\V1 (.ref h1.nx) (h1.new<|.lst aB xs)):We (aL F (.lst es) Z) h V1:=bI (w.mono λxs _ z=>jk z.1 z.2)
theorem aPn{a lo hi:Ex}(w:We (aL F a Z) h λx h1=>We (oX lo<|aL F lo Z) h1 λl h2=>We (oX hi<|aL F hi Z) h2 λu h3=>We (qF x l u) h3 V1):We (aL F (.slice a lo hi) Z) h V1:=
 bI (w.mono λ_ _ z=>bI (z.mono λ_ _ z=>bI z))
theorem HP{f:Nat}{es:eD}(w:We (dA F es Z) h λxs h1=>We (F f xs) h1 V1):We (aL F (.call f es) Z) h V1:=bI w
theorem aOv{f:Bi}{es:eD}(w:We (dA F es Z) h λxs h1=>We (f.g xs) h1 V1):We (aL F (.bi f es) Z) h V1:=bI w
theorem HS{t:BT}{a:Ex}(w:We (aL F a Z) h λx h1=>We (zA t x) h1 V1):We (aL F (.qN t a) Z) h V1:=bI w
theorem aOu{o a:Ex}(w:We (aL F o Z) h λx h1=>zH h1 x=aB/\We (aL F a Z) h1 λy h2=>We (tT x y) h2 V1):We (aL F (.app o a) Z) h V1:=bI (w.mono λx h1 ⟨b,c⟩=>by unfold We;simp only[if_pos b];exact bI c)
theorem aPb{o:Ex}{es:eD}(w:We (aL F o Z) h λx h1=>∃kvs,x = .lE kvs/\We (dA F es Z) h1 λxs h2=>∃s z,xs=[.str s,.int z]/\V1 (.int<|getOf kvs s z) h2):We (aL F (.get o es) Z) h V1:=bI (w.mono λx h1 ⟨kvs,e,w2⟩=>by subst e;exact bI (w2.mono λxs h2 ⟨s,z,a,q⟩=>by subst a;exact q))
theorem HV(q:L1 [] h):We (dA F .nil Z) h L1:=q
theorem Bk{e:Ex}{es:eD}(w:We (aL F e Z) h λx h1=>We (dA F es Z) h1 λxs h2=>L1 (x::xs) h2):We (dA F (.cons e es) Z) h L1:=bI (w.mono λ_ _ z=>bI z)
theorem aQe{o:Cp}{a b:Ex}(w:We (aL F a Z) h λx h1=>We (aL F b Z) h1 λy h2=>We (o.g x y) h2 λz h3=>∃t,z = .bl t/\B1 t h3):We (dP F (.cmp o a b) Z) h B1:=
 bI (bI<|w.mono λ_ _ z=>bI (z.mono λ_ _ z=>z.mono λu h3 ⟨t,e,q⟩=>by subst e;exact q))
theorem aQd{o:Cp}{a b c:Ex}(w:We (aL F (.chain o o' a b c) Z) h λz h3=>∃t,z = .bl t/\B1 t h3):We (dP F (.chain o o' a b c) Z) h B1:=
 bI (w.mono λu h3 ⟨t,e,q⟩=>by subst e;exact q)
theorem aQi{a:Ex}(w:We (dP F a Z) h λt h1=>B1 (!t) h1):We (dP F (.not a) Z) h B1:=bI w
theorem aQb{a b:Ex}(w:We (dP F a Z) h λt h1=>if t=aB then We (dP F b Z) h1 B1 else B1 aG h1):We (dP F (.and a b) Z) h B1:=bI (w.mono λt _ y=>by
 cases t with
 |true=>exact y|false=>exact y)
theorem aQk{a b:Ex}(w:We (dP F a Z) h λt h1=>if t=aB then B1 aB h1 else We (dP F b Z) h1 B1):We (dP F (.or a b) Z) h B1:=bI (w.mono λt _ y=>by
 cases t with
 |true=>exact y|false=>exact y)
theorem aQl{i:Nat}(w:We (aL F (.var i) Z) h λx h1=>We (dB x) h1 B1):We (dP F (.var i) Z) h B1:=bI w
theorem aQc{f:Nat}{es:eD}(w:We (aL F (.call f es) Z) h λx h1=>We (dB x) h1 B1):We (dP F (.call f es) Z) h B1:=bI w
theorem aQg{t:BT}{a:Ex}(w:We (aL F (.qN t a) Z) h λx h1=>We (dB x) h1 B1):We (dP F (.qN t a) Z) h B1:=bI w
theorem aNc(q:V1 (.int<|i+j) h):We (Op.g .add (.int i)<|.int j) h V1:=q
theorem aOf(q:V1 (.int<|i-j) h):We (Op.g .sub (.int i)<|.int j) h V1:=q
theorem uZ{p:Int->Int->Bool}{f:Int->Int->Int}(hp:p i j=aB)(q:V1 (.int<|f i j) h):We (mI p f (.int i)<|.int j) h V1:=by unfold We mI;simp only[if_pos hp];exact q
theorem aNw(hp:qZ i j=aB)(q:V1 (.int<|i*j) h):We (Op.g .mul (.int i)<|.int j) h V1:=uZ hp q
theorem aNm(hp:pU j=aB)(q:V1 (.int<|i / j) h):We (Op.g .fdiv (.int i)<|.int j) h V1:=uZ (p:=λ_ j=>pU j) hp q
theorem aNv(hp:0<j)(q:V1 (.int<|i%j) h):We (Op.g .mod (.int i)<|.int j) h V1:=uZ (p:=λ_ j=>decide (0<j)) (decide_eq_true hp) q
theorem Nm(hp:wU i j=aB)(q:V1 (.int<|i ^ j.toNat) h):We (Op.g .pow (.int i)<|.int j) h V1:=uZ (f:=λi j=>i ^ j.toNat) hp q
theorem HJ(hp:wU i j=aB)(q:V1 (.int<|i*2 ^ j.toNat) h):We (Op.g .shl (.int i)<|.int j) h V1:=uZ (f:=λi j=>i*2 ^ j.toNat) hp q
theorem aOd(hp:0<=j)(q:V1 (.int<|i / 2 ^ j.toNat) h):We (Op.g .shr (.int i)<|.int j) h V1:=uZ (p:=λ_ j=>decide (0<=j)) (f:=λi j=>i / 2 ^ j.toNat) (decide_eq_true hp) q
theorem aNe(q:V1 (.int<|rH i j) h):We (Op.g .band (.int i)<|.int j) h V1:=uZ (p:=λ_ _=>aB) rfl q
theorem aNf(q:V1 (.int<|js i j) h):We (Op.g .bor (.int i)<|.int j) h V1:=uZ (p:=λ_ _=>aB) rfl q
theorem Nf(q:V1 (.int<|jt i j) h):We (Op.g .bxor (.int i)<|.int j) h V1:=uZ (p:=λ_ _=>aB) rfl q
theorem aNs(q:V1 (.bl<|decide<|i<j) h):We (Cp.g .lt (.int i)<|.int j) h V1:=q
theorem aNr(q:V1 (.bl<|decide<|i<=j) h):We (Cp.g .le (.int i)<|.int j) h V1:=q
theorem aNo(q:V1 (.bl<|decide<|j<i) h):We (Cp.g .gt (.int i)<|.int j) h V1:=q
theorem aNn(q:V1 (.bl<|decide<|j<=i) h):We (Cp.g .ge (.int i)<|.int j) h V1:=q
theorem aNk(q:V1 (.bl<|decide<|i=j) h):We (Cp.g .eq (.int i)<|.int j) h V1:=q
theorem aNy(q:V1 (.bl<|!decide (i=j)) h):We (Cp.g .ne (.int i)<|.int j) h V1:=q
theorem aNl{i j:Str}(q:V1 (.bl<|decide<|i=j) h):We (Cp.g .eq (.str i)<|.str j) h V1:=q
theorem aNz{i j:Str}(q:V1 (.bl<|!decide (i=j)) h):We (Cp.g .ne (.str i)<|.str j) h V1:=q
theorem Ba(e:tP x y=aA b)(q:V1 (.bl b) h):We (Cp.g .eq x y) h V1:=by show We (yZ x y) h V1;unfold We yZ;rw[e];exact q
theorem aNx(e:tP x y=aA b)(q:V1 (.bl<|!b) h):We (Cp.g .ne x y) h V1:=by show We (zC x y) h V1;unfold We zC;rw[e];exact q
theorem aNp(q:V1 (.bl<|lF x) h):We (Cp.g .gb x .aH) h V1:=q
theorem aNq(q:V1 (.bl<|!lF x) h):We (Cp.g .isn x .aH) h V1:=q
theorem Ad(e:dS h x=aA xs):fK h x=aD:=by
 cases x with
 |ref n=>
  simp only[dS]at e;simp only[fK];cases o:h.ob n with
  |none=>rfl|some u=>
   rw[o]at e;cases u with
   |lst m ys=>rfl|_=>cases e
 |_=>rfl
theorem aHw(e:dS h x=aA xs):yP h x=aD:=by
 cases x with
 |ref n=>
  simp only[dS]at e;simp only[yP];cases o:h.ob n with
  |none=>rfl|some u=>
   rw[o]at e;cases u with
   |lst m ys=>rfl|_=>cases e
 |_=>rfl
theorem Nk(e:dS h y=aA xs)(f:(jB x&&xs.all jB)=aB)(q:V1 (.bl<|gU x xs) h):We (Cp.g .fw x y) h V1:=by show We (oT aG x y) h V1;have a:fK h y=aD:=Ad e;unfold We oT;simp only[a];unfold tV;rw[e];simp only[if_pos f];exact q
theorem aOa(e:dS h y=aA xs)(f:(jB x&&xs.all jB)=aB)(q:V1 (.bl<|!gU x xs) h):We (Cp.g .nin x y) h V1:=by show We (oT aB x y) h V1;have a:fK h y=aD:=Ad e;unfold We oT;simp only[a];unfold tV;rw[e];simp only[if_pos f];exact q
theorem eU(e:dS h x=aA xs)(e2:cJ xs i=aA v)(q:V1 v h):We (Op.g .ix x<|.int i) h V1:=by
 show We (tW x<|.int i) h V1;have a:fK h x=aD:=Ad e;unfold We tW;simp only[a];unfold xx;simp only[aHw e];unfold fv;cases x with
 |str z=>cases e|aH=>cases e|bl _=>cases e|int _=>cases e|lE _=>cases e|tup b=>simp only[e,jJ,e2];exact q|ref n=>simp only[e,jJ,e2];exact q
theorem HG{t s:BT}(e:tK h x=aA s)(q:V1 (.bl<|s.sub t) h):We (zA t x) h V1:=by unfold We zA;rw[e];exact q
theorem kR(e:dS h x=aA xs)(q:V1 (.int xs.length) h):We (Bi.g .len [x]) h V1:=by
 show We (ot [x]) h V1;unfold We ot;cases x with
 |str z=>cases e|aH=>cases e|bl _=>cases e|int _=>cases e|lE _=>cases e|tup ys=>simp only[e];exact q|ref n=>simp only[e];exact q
theorem aNg(hp:pU j=aB)(q:V1 (.tup [.int (i / j),.int (i%j)]) h):We (Bi.g .divmod [.int i,.int j]) h V1:=by show We (xv [.int i,.int j]) h V1;unfold We xv wK;simp only[if_pos hp];exact q
theorem xD(e:dS h x=aA xs)(q:V1 (.tup xs) h):We (Bi.g .tuple [x]) h V1:=by show We (yc [x]) h V1;unfold We yc oA;simp only[jJ,e];exact q
theorem Bc(e:dS h x=aA xs)(q:V1 (.ref h.nx) (h.new<|.lst aB xs)):We (Bi.g .list [x]) h V1:=by show We (zB [x]) h V1;unfold We zB oA jW;simp only[jJ,e];exact q
theorem ai(e:h.ob n=aA (.lst aB xs))(hz:xs.length<sizeLine)(q:V1 .aH (h.put n<|.lst aB<|xs++[v])):We (tT (.ref n) v) h V1:=by unfold We tT;simp only[e,if_pos hz];exact q
theorem Ng{k:Nat}{ys:Fu}(e:h.ob n=aA (.lst aB xs))(e2:h.ob k=aA (.lst aB ys))(hz:xs.length+ys.length<=sizeLine)(q:V1 (.ref h.nx) (h.new<|.lst aB<|xs++ys)):We (Op.g .add (.ref n)<|.ref k) h V1:=by show We (oj n k) h V1;unfold We oj zO;simp only[e,e2,if_pos hz];exact q
theorem Bd{lo hi:Ft}(e:h.ob n=aA (.lst b xs))(q:V1 (.ref h.nx) (h.new<|.lst aB<|iM xs lo hi)):We (qF (.ref n) lo hi) h V1:=by unfold We qF;simp only[e];exact q
variable {P1:Ft->AH->Prop}
theorem aPj{e:Ex}(he:∀m,oX e m=m.bind Gq)(w:We (aL F e Z) h λx h1=>∃i,x = .int i/\P1 (aA i) h1):We (oX e<|aL F e Z) h P1:=by rw[he];exact bI (w.mono λx h1 ⟨i,e,q⟩=>by subst e;exact q)
end
def Wt(m:M Out)(h:AH)(N:aF->AH->Prop)(R:AV->AH->Prop)(B C:aF->AH->Prop):Prop:=We m h λo h1=>match o with
 |.nx Z=>N Z h1
 |.ret v=>R v h1
 |.brk Z=>B Z h1
 |.cnt Z=>C Z h1
section
theorem aPt{s:Sx}{ss:aQ}(w:Wt (eL F s σ) h (λσ1 h1=>Wt (jA F ss σ1) h1 N R B C) R B C):Wt (jA F (.cons s ss) σ) h N R B C:=
 bI (We.mono w λo h1 z=>by
  cases o with
  |nx σ1=>exact z|ret v=>exact z|brk σ1=>exact z|cnt σ1=>exact z)
theorem aPz{e:Ex}(w:We (aL F e Z) h R):Wt (eL F (.ret e) Z) h N R B C:=bI w
theorem aPu{e:Ex}(w:We (aL F e Z) h λ_ h1=>N Z h1):Wt (eL F (.expr e) Z) h N R B C:=bI w
theorem aPr{t:Tg}{e:Ex}(w:We (aL F e Z) h λv h1=>We (nT F t v Z) h1 N):Wt (eL F (.asg t e) Z) h N R B C:=bI (w.mono λ_ _ z=>bI z)
theorem aMw{ts:vS}{Q:aF->AH->Prop}(e:dS h v=aA xs)(hl:xs.length=n)(w:We (vT F ts xs Z) h Q):We (nT F (.tup n ts) v Z) h Q:=by show We (zE n (vT F ts) v Z) h Q;unfold We zE;simp only[e,if_pos hl];exact w
theorem aMu{t:Tg}{ts:vS}{vs:Fu}{Q:aF->AH->Prop}(w:We (nT F t v σ) h λσ1 h1=>We (vT F ts vs σ1) h1 Q):We (vT F (.cons t ts) (v::vs) σ) h Q:=bI w
theorem aPx{c:Ex}{a b:aQ}(w:We (dP F c Z) h λt h1=>if t=aB then Wt (jA F a Z) h1 N R B C else Wt (jA F b Z) h1 N R B C):Wt (eL F (.ite c a b) Z) h N R B C:=bI (w.mono λt _ y=>by
 cases t with
 |true=>exact y|false=>exact y)
theorem yW{it:gT}{g:AV->aF->M aF}{body:aF->M Out}(I:Nat->aF->AH->Prop)(n:Nat)
  (turn:∀i σ h,i<n->I i σ h->∃v,it i h=aA (aA v)/\We (g v σ) h λσ1 h1=>Wt (body σ1) h1 (I<|i+1) R N (I<|i+1))
  (done:∀σ h,I n σ h->it n h=aA aD/\N σ h):∀(f i:Nat) (σ:aF) (h:AH),i<=n->n-i<f->I i σ h->Wt (jV it g body f i σ) h N R B C
 |0,i,σ,h,j,k,_=>by omega
 |f+1,i,σ,h,j,k,b=>by
  have c:=yW I n turn done f;by_cases hn:i<n
  .obtain⟨v,e,w⟩:=turn i σ h hn b;unfold Wt We jV;simp only[e];refine bI<|w.mono λσ1 h1 w1=>bI (We.mono w1 λo d z=>?_);cases o with
   |nx a=>exact c (i+1) a d hn (by omega) z|cnt a=>exact c (i+1) a d hn (by omega) z|brk a=>exact z|ret v=>exact z
  .have l:i=n:=by omega
   subst l;obtain⟨e,q⟩:=done σ h b;unfold Wt We jV;simp only[e];exact q
theorem kD{t:Tg}{it:Ir}{b:aQ}(w:We (cO F it Z) h λi h1=>Wt (jV i (nT F t) (jA F b) FU 0 Z) h1 N R B C):Wt (eL F (.tS t it b) Z) h N R B C:=bI w
variable {Q:gT->AH->Prop}
theorem aOl{e:Ex}(w:We (aL F e Z) h λx h1=>We (qC x) h1 Q):We (cO F (.seq e) Z) h Q:=bI w
theorem aOj{es:eD}(w:We (dA F es Z) h λxs h1=>∃j,xs=[.int j]/\lY j=aB/\Q (nH 0 j.toNat) h1):We (cO F (.Ab es) Z) h Q:=bI (w.mono λxs h1 ⟨j,e,r,q⟩=>by subst e;unfold We xy;simp only[if_pos r];exact q)
theorem aOk{es:eD}(w:We (dA F es Z) h λxs h1=>∃i j,xs=[.int i,.int j]/\(lY i&&lY j)=aB/\Q (nH i (j-i).toNat) h1):We (cO F (.Ac es) Z) h Q:=bI (w.mono λxs h1 ⟨i,j,e,r,q⟩=>by subst e;unfold We ya;simp only[if_pos r];exact q)
theorem HL{e:Ex}(w:We (aL F e Z) h λx h1=>∃n b xs,x = .ref n/\h1.ob n=aA (.lst b xs)/\Q (lA<|lH n) h1):We (cO F (.enum e) Z) h Q:=bI (w.mono λx h1 ⟨n,b,xs,e,r,q⟩=>by subst e;unfold We xw;simp only[r];exact q)
theorem aOg{e:Ex}(w:We (aL F e Z) h λx h1=>∃xs,x = .tup xs/\Q (lA<|kQ xs) h1):We (cO F (.enum e) Z) h Q:=bI (w.mono λx h1 ⟨xs,e,q⟩=>by subst e;exact q)
theorem Nn(q:Q (kQ xs) h):We (qC<|.tup xs) h Q:=q
theorem mB(e:h.ob n=aA (.lst b xs))(q:Q (lH n) h):We (qC<|.ref n) h Q:=by unfold We qC Gp;simp only[e];exact q
theorem aPl{P:Pg}{k f np nn:Nat}{b:aQ}{args:Fu}(e:P f=aA (np,nn,b))(hl:args.length=np)(w:Wt (jA (run P k) b<|args.map aA++eO (nn-np) aD) h (λ_ h1=>R .aH h1) R (λ_ _=>False) (λ_ _=>False)):We (run P (k+1) f args) h R:=by
 show We (match P f with
  |none=>M.bad
  |some (np,nn,b)=>M.guard (args.length=np) ((jA (run P k) b<|args.map aA++eO (nn-np) aD).bind BS)) h R
 rw[e];refine jk hl<|bI<|We.mono w λo h1 z=>?_;cases o with
 |nx a=>exact z|ret v=>exact z|brk a=>exact z.elim|cnt a=>exact z.elim
end
theorem Keeps.of{P:Pg}{k i:Nat}(h:∀ns:WK,ns.length<=63->Wp (run P k i [.ref 0]) (h0 ns) λv _=>v = .bl aB):Keeps P k i:=λns hl=>by obtain⟨a,b,e,q⟩:=(h ns hl).ex;subst q;exact⟨b,e⟩
theorem Ip(h1:-18446744073709551616<i)(h2:i<18446744073709551616):qZ i j=aB:=by simp only[qZ,jr,decide_eq_true_eq];exact .inl<|.inl (by omega)
theorem J0(h1:-18446744073709551616<j)(h2:j<18446744073709551616):qZ i j=aB:=by simp only[qZ,jr,decide_eq_true_eq];exact .inl<|.inr (by omega)
theorem cH(e:h.ob n=aA (.lst b xs)):dS h (.ref n)=aA xs:=by simp only[dS,e]
def cell(ns:WK)(i:Int):Int:=ns.getD i.toNat 0
theorem mn(h0:0<=i)(h1:i<(ns.map AV.int).length):cJ (ns.map AV.int) i=aA (.int<|cell ns i):=by
 have hl:i.toNat<ns.length:=by rw[aR]at h1;omega
 unfold cJ jM;rw[if_pos h0,if_pos h1];simp only[jJ,fR,cell,List.getD,eB hl,xO,Option.getD_some]
def fc{α:Type}(xs:List α)(lo hi:Ft):List α:=(xs.drop<|HT.bZ xs.length 0 lo).take (HT.bZ xs.length xs.length hi-HT.bZ xs.length 0 lo)
theorem UW{α:Type}(xs:List α)(f:α->AV)(lo hi:Ft):iM (xs.map f) lo hi=(fc xs lo hi).map f:=by unfold iM fc;rw[aR,<- Pb,<- Pc]
theorem bJ:(h.new o).ob h.nx=aA o:=by simp only[AH.new,if_pos]
theorem eA(hn:n≠h.nx):(h.new o).ob n=h.ob n:=by simp only[AH.new,if_neg hn]
theorem bP:(h.put n o).ob n=aA o:=by simp only[AH.put,if_pos]
theorem bL{k:Nat}(hn:k≠n):(h.put n o).ob k=h.ob k:=by simp only[AH.put,if_neg hn]
theorem wN{i:Nat}(e:h.ob n=aA (.lst b xs)):lH n i h=aA xs[i]?:=by simp only[lH,e]
theorem Wa{i:Nat}(e:h.ob n=aA (.lst b xs))(hv:xs[i]?=aA v):lA (lH n) i h=aA (aA<|.tup [.int i,v]):=by simp only[lA,wN e,hv]
theorem Vz{i:Nat}(e:h.ob n=aA (.lst b xs))(hv:xs[i]?=aD):lA (lH n) i h=aA aD:=by simp only[lA,wN e,hv]
theorem h9{g:AV->aF->M aF}(I:Nat->aF->AH->Prop)(hn:xs.length<FU)(i0:I 0 σ h)(il:∀i σ h,I i σ h->h.ob n=aA (.lst bb xs))
  (turn:∀(i:Nat) x σ h,xs[i]?=aA x->I i σ h->We (g (.tup [.int i,x]) σ) h λσ1 h1=>Wt (body σ1) h1 (I<|i+1) R N (I<|i+1))
  (done:∀σ h,I xs.length σ h->N σ h):Wt (jV (lA<|lH n) g body FU 0 σ) h N R B C:=by
 exact yW I xs.length (λi σ h b a=>⟨_,Wa (il _ _ _ a) (eB b),turn i _ σ h (eB b) a⟩) (λσ h a=>⟨Vz (il _ _ _ a) (by simp),done σ h a⟩) FU 0 σ h (jR _) (by omega) i0
theorem i3{g:AV->aF->M aF}(I:Nat->aF->AH->Prop)(hn:xs.length<FU)(i0:I 0 σ h)
  (turn:∀(i:Nat) x σ h,xs[i]?=aA x->I i σ h->We (g (.tup [.int i,x]) σ) h λσ1 h1=>Wt (body σ1) h1 (I<|i+1) R N (I<|i+1))
  (done:∀σ h,I xs.length σ h->N σ h):Wt (jV (lA<|kQ xs) g body FU 0 σ) h N R B C:=by
 exact yW I xs.length (λi σ h b a=>⟨_,by simp only[lA,kQ,eB b],turn i _ σ h (eB b) a⟩) (λσ h a=>⟨by simp[lA,kQ],done σ h a⟩) FU 0 σ h (jR _) (by omega) i0
theorem i4{g:AV->aF->M aF}(I:Nat->aF->AH->Prop)(hn:xs.length<FU)(i0:I 0 σ h)
  (turn:∀(i:Nat) x σ h,xs[i]?=aA x->I i σ h->We (g x σ) h λσ1 h1=>Wt (body σ1) h1 (I<|i+1) R N (I<|i+1))
  (done:∀σ h,I xs.length σ h->N σ h):Wt (jV (kQ xs) g body FU 0 σ) h N R B C:=by
 exact yW I xs.length (λi σ h b a=>⟨_,by simp only[kQ,eB b],turn i _ σ h (eB b) a⟩) (λσ h a=>⟨by simp[kQ],done σ h a⟩) FU 0 σ h (jR _) (by omega) i0
theorem nV{g:AV->aF->M aF}(I:Nat->aF->AH->Prop)(hn:xs.length<FU)(i0:I 0 σ h)(il:∀i σ h,I i σ h->h.ob n=aA (.lst bb xs))
  (turn:∀(i:Nat) x σ h,xs[i]?=aA x->I i σ h->We (g x σ) h λσ1 h1=>Wt (body σ1) h1 (I<|i+1) R N (I<|i+1))
  (done:∀σ h,I xs.length σ h->N σ h):Wt (jV (lH n) g body FU 0 σ) h N R B C:=by
 exact yW I xs.length (λi σ h b a=>⟨_,by rw[wN (il _ _ _ a),eB b],turn i _ σ h (eB b) a⟩) (λσ h a=>⟨by rw[wN (il _ _ _ a)];simp,done σ h a⟩) FU 0 σ h (jR _) (by omega) i0
theorem Gg{lo:Int}{g:AV->aF->M aF}(I:Nat->aF->AH->Prop)(hn:n<FU)(i0:I 0 σ h)
  (turn:∀(i:Nat) σ h,i<n->I i σ h->We (g (.int<|lo+i) σ) h λσ1 h1=>Wt (body σ1) h1 (I<|i+1) R N (I<|i+1))
  (done:∀σ h,I n σ h->N σ h):Wt (jV (nH lo n) g body FU 0 σ) h N R B C:=by
 exact yW I n (λi σ h b a=>⟨_,by simp only[nH,if_pos b],turn i σ h b a⟩) (λσ h a=>⟨by simp[nH],done σ h a⟩) FU 0 σ h (jR _) (by omega) i0
theorem sf(h1:-4611686018427387904<=j)(h2:j<4611686018427387904):lY j=aB:=by simp only[lY,bT,decide_eq_true_eq];omega
end AM
namespace AM
structure Kp(h h':AH):Prop where
 nx:h.nx<=h'.nx
 ob:∀n,n<h.nx->h'.ob n=h.ob n
theorem Kp.refl{h:AH}:Kp h h:=⟨aV _,λ_ _=>rfl⟩
theorem Kp.trans{a b c:AH}(x:Kp a b)(y:Kp b c):Kp a c:=⟨dR x.nx y.nx,λn hn=>(y.ob n<|bF hn x.nx).trans (x.ob n hn)⟩
theorem Kp.new{a b:AH}{o:bC}(x:Kp a b):Kp a (b.new o):=⟨JZ x.nx,λn hn=>(eA<|cC<|bF hn x.nx).trans (x.ob n hn)⟩
theorem Kp.put{a b:AH}{o:bC}{k:Nat}(x:Kp a b)(hk:a.nx<=k):Kp a (b.put k o):=⟨x.nx,λn hn=>(bL<|cC<|bF hn hk).trans (x.ob n hn)⟩
end AM
namespace AM
open PySem PySem.Spec PyProof.Rows L2
variable {B C N:aF->AH->Prop}{B1:Bool->AH->Prop}{F:Run}{L1:Fu->AH->Prop}{Q R V1:AV->AH->Prop}{a:Int}{as:S1}{b bb:Bool}{c i j n:Nat}{d e o:Ex}{dp:WQ}{ds:List Df}{es:eD}{h h':AH}{it:Ir}{ks:List aN}{kvs:List (aN×AV)}{m:Str}{me:aF->M AV}{ns ws:WK}{v x y z:AV}{xs:Fu}{Z:aF}
inductive eH where
 |sum|less|times|share|rest|both|su|odd|up|down|below|same
def eH.nm:eH->Str
 |.sum=>"sum" |.less=>"less" |.times=>"times" |.share=>"share" |.rest=>"rest" |.both=>"both" |.su=>"some" |.odd=>"odd" |.up=>"up" |.down=>"down" |.below=>"below" |.same=>"same"
inductive aM where
 |way (w:eH) (x y z:Int)|set (x v:Int)|move (x y:Int)|load (x y s:Int)|store (x y s:Int)|fW (x t:Int)|go (t:Int)|fault (v:Int)
def aM.av:aM->AV
 |.way w x y z=>.tup [.str w.nm,.int x,.int y,.int z] | .set x v=>.tup [.str "set",.int x,.int v] | .move x y=>.tup [.str "move",.int x,.int y]
 |.load x y s=>.tup [.str "load",.int x,.int y,.int s] | .store x y s=>.tup [.str "store",.int x,.int y,.int s] | .fW x t=>.tup [.str "jump",.int x,.int t]
 |.go t=>.tup [.str "go",.int t] | .fault v=>.tup [.str "fault",.int v]
def aM.nw:aM->Nat
 |.way _ _ _ _=>2 | .set _ _=>0 | .move _ _=>1 | .load _ _ _=>1 | .store _ _ _=>2 | .fW _ _=>1 | .go _=>0 | .fault _=>0
def aM.pl(ws:WK):aM->AV
 |.load _ _ s=>.int (cell ws 0+s) | .store _ _ s=>.int (cell ws 1+s)
 |_=>.aH
def aM.gs(a:Int)(ws:WK):aM->Int
 |.go t=>t
 |.fW _ t=>if cell ws 0≠0 then t else a+1
 |_=>a+1
theorem qo(h:ws.length=1):∃a,ws=[a]:=by
 match ws,h with
 |[a],_=>exact⟨a,rfl⟩
theorem qp(h:ws.length=2):∃a b,ws=[a,b]:=by
 match ws,h with
 |[a,b],_=>exact⟨a,b,rfl⟩
def eH.cA:eH->Int
 |.times=>1 | .share=>2 | .rest=>2
 |_=>0
def aM.fF:aM->WK
 |.way _ _ y z=>[y,z] | .move _ y=>[y] | .load _ y _=>[y] | .store x y _=>[x,y] | .fW x _=>[x]
 |_=>[]
def aM.fl:aM->AV
 |.way _ x _ _=>.int x | .set x _=>.int x | .move x _=>.int x | .load x _ _=>.int x
 |_=>.aH
def aM.cA:aM->Int
 |.way w _ _ _=>w.cA | .set _ _=>0 | .move _ _=>0 | .load _ _ _=>3 | .store _ _ _=>3
 |_=>4
def sJ(b:Int):Int:=if 64<b then 64 else b
def eH.wk(a b:Int):eH->Int
 |.sum=>(a+b)%18446744073709551616 | .less=>(a-b)%18446744073709551616 | .times=>a*b%18446744073709551616
 |.share=>a / b | .rest=>a%b
 |.both=>rH a b | .su=>js a b | .odd=>jt a b
 |.up=>a*2 ^ (sJ b).toNat%18446744073709551616 | .down=>a / 2 ^ (sJ b).toNat
 |.below=>if a<b then 1 else 0 | .same=>if a=b then 1 else 0
def eH.sr:eH->Bool
 |.share=>aB | .rest=>aB
 |_=>aG
def aM.CB(ws:WK):aM->Ft
 |.load _ _ s=>aA (cell ws 0+s) | .store _ _ s=>aA (cell ws 1+s)
 |_=>aD
def aM.ft(ws:WK)(room:Int):aM->Ws
 |.fault v=>aA (.tup [.str "told",.int v])
 |.way w _ _ _=>cond w.sr (if cell ws 1=0 then aA (.tup [.str "nought",.int (cell ws 0)]) else aD) aD
 |.load _ _ s=>if 0<=cell ws 0+s/\cell ws 0+s<room then aD else aA (.tup [.str "place",.int (cell ws 0+s)])
 |.store _ _ s=>if 0<=cell ws 1+s/\cell ws 1+s<room then aD else aA (.tup [.str "place",.int (cell ws 1+s)])
 |_=>aD
def aM.br(ws:WK)(held:AV):aM->AV
 |.way w _ _ _=>.int (w.wk (cell ws 0)<|cell ws 1) | .set _ v=>.int v | .move _ _=>.int (cell ws 0) | .store _ _ _=>.int (cell ws 0) | .load _ _ _=>held
 |_=>.aH
def aM.fg(a:Int)(ws:WK)(room:Int)(held:AV)(r:aM):AV:=match r.ft ws room with
 |some f=>.tup [.int a,.aH,.aH,.aH,.aH,f]
 |none=>.tup [.int a,r.fl,r.pl ws,r.br ws held,.int (r.gs a ws),.aH]
def kT(ws:WK):Prop:=∀w∈ws,0<=w/\w<18446744073709551616
theorem aMi{b:Int}(h:¬b<64):a*2 ^ (sJ b).toNat%18446744073709551616=0:=by
 have e:sJ b=64:=by unfold sJ;split<;>lia
 rw[e];exact Int.mul_emod_left ..
theorem VO{b:Int}(h:¬b<64)(a0:0<=a)(a1:a<18446744073709551616):a / 2 ^ (sJ b).toNat=0:=by
 have e:sJ b=64:=by unfold sJ;split<;>lia
 rw[e];exact Int.ediv_eq_zero_of_lt a0 a1
theorem AY{b:Int}(h:b<64):sJ b=b:=by unfold sJ;split<;>lia
theorem CH{b:Int}(a0:0<=a)(a1:a<18446744073709551616)(b0:0<=b)(b1:b<=64):wU a b=aB:=by simp only[wU,bT,decide_eq_true_eq];exact⟨⟨b0,by lia⟩,by lia⟩
theorem VL{b:Int}(b0:0<b)(b1:b<18446744073709551616):pU b=aB:=by
 have e:(18446744073709551616:Int)<2 ^ 1000:=by decide
 simp only[pU,bT,decide_eq_true_eq];exact⟨b0,vD b1 e⟩
section
variable {α:Type}{m:M α}{Q:α->AH->Prop}
theorem HD(w:Wp m h Q):We (nZ m) h Q:=by obtain⟨a,h1,e,q⟩:=w.ex;exact We.eq (show nZ m h = .ok a h1 by unfold nZ;rw[e]) q
theorem ak{imp:WU}{t:CT}(w:We (cO F it Z) h λi h1=>We (eI i (pP t) (λ_=>M.ret aB) (aL F e) FU 0 []<|mJ imp Z) h1 λys h2=>V1 (.ref h2.nx) (h2.new<|.lst aB ys)):We (aL F (.vY imp t it e) Z) h V1:=
 bI (w.mono λ_ _ z=>bI (z.mono λ_ _ y=>y))
theorem aOy{imp:WU}{t:CT}{c:Ex}(w:We (cO F it Z) h λi h1=>We (eI i (pP t) (dP F c) (aL F e) FU 0 []<|mJ imp Z) h1 λys h2=>V1 (.ref h2.nx) (h2.new<|.lst aB ys)):We (aL F (.vZ imp t it c e) Z) h V1:=
 bI (w.mono λ_ _ z=>bI (z.mono λ_ _ y=>y))
theorem tw{Q:aF->AH->Prop}(q:Q (Z.set i<|aA v) h):We (pP (.nm i) v Z) h Q:=q
theorem aMv{a b:AV}{Q:aF->AH->Prop}(q:Q ((Z.set i<|aA a).set j (aA b)) h):We (pP (.tup [i,j]) (.tup [a,b]) Z) h Q:=q
theorem wB{it:gT}{g:AV->aF->M aF}{mt:aF->M Bool}{me:aF->M AV}(I:Nat->Fu->aF->AH->Prop)(n:Nat)
  (turn:∀i ys σ h,i<n->I i ys σ h->∃v,it i h=aA (aA v)/\Wp (g v σ) h λσ1 h1=>Wp (mt σ1) h1 λb h2=>if b=aB then We (me σ1) h2 λy h3=>ys.length<sizeLine/\I (i+1) (ys++[y]) σ1 h3 else I (i+1) ys σ1 h2)
  (done:∀ys σ h,I n ys σ h->it n h=aA aD/\L1 ys h):∀(f i:Nat) (ys:Fu) (σ:aF) (h:AH),i<=n->n-i<f->I i ys σ h->We (eI it g mt me f i ys σ) h L1
 |0,i,ys,σ,h,_,hf,_=>absurd hf (kb _)
 |f+1,i,ys,σ,h,m,hf,d=>by
  by_cases a:i<n
  .obtain⟨v,e,w⟩:=turn i ys σ h a d;have c:eI it g mt me (f+1) i ys σ h=((nZ<|g v σ).bind λσ1=>(nZ<|mt σ1).bind λb=>if b=aB then(me σ1).bind λy=>M.guard (ys.length<sizeLine) (eI it g mt me f (i+1) (ys++[y]) σ1) else eI it g mt me f (i+1) ys σ1) h:=by simp only[eI,e]
   unfold We;rw[c];refine bI<|HD<|w.mono λσ1 h1 l=>bI (HD<|l.mono λb h2 j=>?_);cases b with
   |true=>exact bI<|j.mono λy h3 k=>jk k.1 (wB I n turn done f (i+1) _ σ1 h3 a (by omega) k.2)
   |false=>exact wB I n turn done f (i+1) ys σ1 h2 a (by omega) j
  .have:i=n:=by lia
   subst this;obtain⟨e,q⟩:=done ys σ h d;unfold We;have c:eI it g mt me (f+1) i ys σ h = .ok ys h:=by simp only[eI,e]
   rw[c];exact q
variable {g:AV->aF->M aF}{mt:aF->M Bool}
theorem tm{A B:AH->Prop}(q:A h):Wp (M.ret aB) h λb h2=>if b=aB then A h2 else B h2:=by
 show if aB=aB then A h else B h
 exact q
theorem Vd{lo:Int}(I:Nat->Fu->aF->AH->Prop)(hn:n<FU)(i0:I 0 [] σ h)
  (turn:∀(i:Nat) ys σ h,i<n->I i ys σ h->Wp (g (.int<|lo+i) σ) h λσ1 h1=>We (me σ1) h1 λy h3=>ys.length<sizeLine/\I (i+1) (ys++[y]) σ1 h3)
  (done:∀ys σ h,I n ys σ h->L1 ys h):We (eI (nH lo n) g (λ_=>M.ret aB) me FU 0 [] σ) h L1:=by
 exact wB I n (λi ys σ h b a=>⟨_,by simp only[nH,if_pos b],(turn i ys σ h b a).mono λσ1 h1 w=>tm w⟩) (λys σ h a=>⟨by simp[nH],done ys σ h a⟩) FU 0 [] σ h (jR _) (by omega) i0
theorem Ve(I:Nat->Fu->aF->AH->Prop)(hn:xs.length<FU)(i0:I 0 [] σ h)
  (turn:∀(i:Nat) x ys σ h,xs[i]?=aA x->I i ys σ h->Wp (g x σ) h λσ1 h1=>We (me σ1) h1 λy h3=>ys.length<sizeLine/\I (i+1) (ys++[y]) σ1 h3)
  (done:∀ys σ h,I xs.length ys σ h->L1 ys h):We (eI (kQ xs) g (λ_=>M.ret aB) me FU 0 [] σ) h L1:=by
 exact wB I xs.length (λi ys σ h b a=>⟨xs[i],by simp only[kQ,eB b],(turn i _ ys σ h (eB b) a).mono λσ1 h1 w=>tm w⟩) (λys σ h a=>⟨by simp[kQ],done ys σ h a⟩) FU 0 [] σ h (jR _) (by omega) i0
theorem Vb(I:Nat->Fu->aF->AH->Prop)(hn:xs.length<FU)(i0:I 0 [] σ h)(il:∀i ys σ h,I i ys σ h->h.ob n=aA (.lst bb xs))
  (turn:∀(i:Nat) x ys σ h,xs[i]?=aA x->I i ys σ h->Wp (g x σ) h λσ1 h1=>We (me σ1) h1 λy h3=>ys.length<sizeLine/\I (i+1) (ys++[y]) σ1 h3)
  (done:∀ys σ h,I xs.length ys σ h->L1 ys h):We (eI (lH n) g (λ_=>M.ret aB) me FU 0 [] σ) h L1:=by
 exact wB I xs.length (λi ys σ h b a=>⟨_,by rw[wN (il _ _ _ _ a),eB b],(turn i _ ys σ h (eB b) a).mono λσ1 h1 w=>tm w⟩) (λys σ h a=>⟨by rw[wN (il _ _ _ _ a)];simp,done ys σ h a⟩) FU 0 [] σ h (jR _) (by omega) i0
theorem UL(I:Nat->Fu->aF->AH->Prop)(hn:xs.length<FU)(i0:I 0 [] σ h)(il:∀i ys σ h,I i ys σ h->h.ob n=aA (.lst bb xs))
  (turn:∀(i:Nat) x ys σ h,xs[i]?=aA x->I i ys σ h->Wp (g (.tup [.int i,x]) σ) h λσ1 h1=>We (me σ1) h1 λy h3=>ys.length<sizeLine/\I (i+1) (ys++[y]) σ1 h3)
  (done:∀ys σ h,I xs.length ys σ h->L1 ys h):We (eI (lA<|lH n) g (λ_=>M.ret aB) me FU 0 [] σ) h L1:=by
 exact wB I xs.length (λi ys σ h b a=>⟨_,Wa (il _ _ _ _ a) (eB b),(turn i _ ys σ h (eB b) a).mono λσ1 h1 w=>tm w⟩) (λys σ h a=>⟨Vz (il _ _ _ _ a) (by simp),done ys σ h a⟩) FU 0 [] σ h (jR _) (by omega) i0
theorem aPy{is:WT}(w:We (dA F es Z) h λvs h1=>vs.length=is.length/\N (Ae is vs Z) h1):Wt (eL F (.par is es) Z) h N R B C:=
 bI (w.mono λvs h1 z=>jk z.1 z.2)
end
theorem qc(h:i<n):jM n (i:Int)=aA i:=by unfold jM;rw[if_pos (by lia),if_pos (by lia)];simp
theorem HE{ys:Fu}(hz:xs.length+ys.length<=sizeLine)(q:V1 (.tup<|xs++ys) h):We (Op.g .add (.tup xs)<|.tup ys) h V1:=jk hz q
theorem HK{lo hi:Ft}(hz:¬(HT.bZ xs.length 0 lo=0/\HT.bZ xs.length xs.length hi=xs.length))(q:V1 (.tup<|iM xs lo hi) h):We (qF (.tup xs) lo hi) h V1:=by unfold We qF;simp only[if_neg hz];exact q
theorem HR{cs:WT}{f:Str}(w:We (aL F o Z) h λx h1=>We (tU cs f x) h1 V1):We (aL F (.lD cs f o) Z) h V1:=bI w
theorem HF{cs:WT}{f:Str}{fs:WR}(e:h.ob n=aA (.ins c fs))(hc:cs.contains c=aB)(l:fs.lookup f=aA v)(q:V1 v h):We (tU cs f<|.ref n) h V1:=by unfold We tU;simp only[e,if_pos hc,l];exact q
theorem aNt{dp:Nat->Option (Fu->M AV)}{r:M Fu}{fs:WR}{g:Fu->M AV}(e2:h.ob n=aA (.ins c fs))(e3:dp c=aA g)(e4:fs.lookup m=aD)(q:We r h λxs h2=>We (g<|.ref n::xs) h2 V1):We (qx dp m r<|.ref n) h V1:=by unfold We qx;simp only[e2,e3,e4];exact bI q
theorem HU(w:We (aL F o Z) h λx h1=>∃(n c:Nat) (fs:WR) (i:Nat),x = .ref n/\h1.ob n=aA (.ins c fs)/\dp.lookup c=aA i/\fs.lookup m=aD/\We (dA F es Z) h1 λxs h2=>We (F i<|.ref n::xs) h2 V1) :
  We (aL F (.qX m dp o es) Z) h V1:=bI (w.mono λx h1 ⟨n,c,fs,i,a,b,d,e,q⟩=>by
 subst a;exact aNt b (by rw[d];rfl) e q)
theorem aPe{dv:Fu}(w:We (dA F es Z) h λxs h1=>We (F i<|.ref h1.nx::(xs++dv)) (h1.new<|.ins c []) λv h2=>v = .aH/\V1 (.ref h1.nx) h2):We (aL F (.make c i dv es) Z) h V1:=
 bI (w.mono λxs h1 z=>by exact bI (z.mono λv h2 ⟨e,q⟩=>by subst e;exact q))
theorem aOw(w:We (dA F es Z) h λxs h1=>We (F i xs) h1 V1):We (aL F (.fb i es) Z) h V1:=bI w
theorem aQf{cs:WT}{f:Str}(w:We (aL F (.lD cs f o) Z) h λx h1=>We (dB x) h1 B1):We (dP F (.lD cs f o) Z) h B1:=bI w
theorem aQh(w:We (aL F (.qX m dp o es) Z) h λx h1=>We (dB x) h1 B1):We (dP F (.qX m dp o es) Z) h B1:=bI w
theorem aPw{cs:WT}{f:Str}(w:We (aL F e Z) h λv h1=>We (aL F o Z) h1 λx h2=>∃(n c:Nat) (fs:WR),x = .ref n/\h2.ob n=aA (.ins c fs)/\cs.contains c=aB/\fs.length<1000/\N Z (h2.put n<|.ins c<|gL f v fs)) :
  Wt (eL F (.fu cs f o e) Z) h N R B C:=bI (w.mono λv h1 z=>bI (z.mono λx h2 ⟨n,c,fs,a,b,d,g,q⟩=>by
 subst a;have i:sg cs f (.ref n) v h2=aA (h2.put n<|.ins c<|gL f v fs):=by simp only[sg,b];rw[if_pos ⟨d,g⟩]
 unfold We;simp only[i];exact q))
theorem aPv{cs:WT}{f:Str}(w:We (aL F o Z) h λx h1=>∃(n c:Nat) (fs:WR) (i:Int),x = .ref n/\h1.ob n=aA (.ins c fs)/\cs.contains c=aB/\fs.lookup f=aA (.int i) /\
  We (aL F e Z) h1 λy h2=>∃(j:Int) (fs2:WR),y = .int j/\h2.ob n=aA (.ins c fs2)/\fs2.length<1000/\N Z (h2.put n<|.ins c<|gL f (.int<|i+j) fs2)) :
  Wt (eL F (.nz cs f o e) Z) h N R B C:=bI (w.mono λx h1 ⟨n,c,fs,i,a,b,d,g,z⟩=>by
 subst a;unfold We;simp only[b,if_pos d,g];refine bI<|z.mono λy h2 ⟨j,fs2,k,l,m,q⟩=>?_;subst k;unfold We;simp only[Ec,l];rw[if_pos ⟨trivial,m⟩];exact q)
theorem aPs{sub:Bool}(l:Z[i]?=aA (aA<|.int a))(w:We (aL F e Z) h λy h1=>∃j:Int,y = .int j/\N (Z.set i<|aA<|.int<|if sub=aB then a-j else a+j) h1):Wt (eL F (.aug sub i e) Z) h N R B C:=by show We (mv sub i (aL F e Z) Z) h _;unfold mv;simp only[l];exact bI (w.mono λy h1 ⟨j,b,q⟩=>by subst b;exact q)
theorem aPa{f:Dm}(w:We (aL F o Z) h λx h1=>(fK h1 x).isSome=aB/\We (dA F es Z) h1 λxs h2=>We (f.g x xs) h2 V1):We (aL F (.dm f o es) Z) h V1:=bI (w.mono λx h1 ⟨a,b⟩=>by unfold We;simp only[if_pos a];exact bI b)
theorem aOz{ks:WL}(w:We (dA F es Z) (h.new<|.aP []) λxs h2=>h2.ob h.nx=aA (.aP [])/\xs.length=ks.length/\ks.length<=15/\V1 (.ref h.nx) (h2.put h.nx<|.aP<|uG []<|sT ks xs)):We (aL F (.xb ks es) Z) h V1:=by show We (xc ks<|dA F es Z) h V1;refine bI<|w.mono λxs h2 ⟨a,b,c,q⟩=>?_;unfold We Fh;simp only[a];rw[if_pos ⟨b,c⟩];exact q
theorem tN(e:h.ob n=aA (.aP kvs)):fK h (.ref n)=aA kvs:=by simp only[fK,e]
theorem Ni{k:aN}(e:h.ob n=aA (.aP kvs))(hk:fN y=aA k)(q:V1 ((bR kvs k).getD z) h):We (Dm.g .get (.ref n) [y,z]) h V1:=by show We (yX (.ref n) [y,z]) h V1;unfold We yX;simp only[tN e,hk];exact q
theorem Nh{k:aN}(e:h.ob n=aA (.aP kvs))(hk:fN y=aA k)(q:V1 ((bR kvs k).getD .aH) h):We (Dm.g .get (.ref n) [y]) h V1:=by show We (yX (.ref n) [y]) h V1;unfold We yX;simp only[tN e,hk];exact q
theorem Nj{k:aN}(e:h.ob n=aA (.aP kvs))(hk:fN y=aA k)(l:bR kvs k=aA v)(q:V1 v (h.put n<|.aP<|tO kvs k)):We (Dm.g .pop (.ref n) [y]) h V1:=by show We (yY (.ref n) [y]) h V1;unfold We yY;simp only[tN e,hk,l];exact q
theorem aNi{k:aN}(e:h.ob n=aA (.aP kvs))(hk:fN y=aA k)(hz:kvs.length<sizeLine)(q1:∀v,bR kvs k=aA v->V1 v h)(q2:bR kvs k=aD->V1 z (h.put n<|.aP<|jC kvs k z)):We (Dm.g .setd (.ref n) [y,z]) h V1:=by
 show We (oq (.ref n) [y,z]) h V1;unfold We oq;simp only[tN e,hk,if_pos hz];cases l:bR kvs k with
 |none=>exact q2 l|some v=>exact q1 v l
theorem ua{k:aN}(e:h.ob n=aA (.aP kvs))(hk:fN y=aA k)(l:bR kvs k=aA v)(q:V1 v h):We (Op.g .ix (.ref n) y) h V1:=by show We (tW (.ref n) y) h V1;unfold We tW;simp only[tN e,hk,jJ,l];exact q
theorem Bb{k:aN}(e:h.ob n=aA (.dD kvs))(hk:fN y=aA k)(l:bR kvs k=aA v)(q:V1 v h):We (Op.g .ix (.ref n) y) h V1:=by show We (tW (.ref n) y) h V1;unfold We tW;simp only[fK,e];unfold xx;simp only[yP,e,hk,jJ,l];exact q
theorem xC{k:aN}(e:h.ob n=aA (.aP kvs))(hk:fN y=aA k)(q:V1 (.bl (bR kvs k).isSome) h):We (Cp.g .fw y<|.ref n) h V1:=by show We (oT aG y<|.ref n) h V1;unfold We oT;simp only[tN e,hk];exact q
theorem aMl{k k':aN}:bR (jC kvs k v) k'=if k=k' then aA v else bR kvs k':=by
 induction kvs with
 |nil=>
  by_cases e:k=k'
  .simp[bR,jC]
  .simp[bR,jC]
 |cons p r h=>
  obtain⟨b,v0⟩:=p;by_cases f:b=k
  .subst f;have g:jC ((b,v0)::r) b v=(b,v)::r.map (λa=>if a.1=b then(a.1,v) else a):=by simp[jC]
   rw[g];by_cases e:b=k'
   .subst e;simp[bR]
   .have:bR (r.map λa=>if a.1=b then(a.1,v) else a) k'=bR r k':=by
     clear h g;induction r with
     |nil=>rfl|cons q s d=>
      obtain⟨k2,v2⟩:=q;by_cases i:k2=b
      .subst i;simp only[hA,if_true];have l1:bR ((k2,v)::s.map λa=>if a.1=k2 then(a.1,v) else a) k'=bR (s.map λa=>if a.1=k2 then(a.1,v) else a) k':=by simp[bR,e]
       have l2:bR ((k2,v2)::s) k'=bR s k':=by simp[bR,e]
       rw[l1,l2,d]
      .simp only[hA,i,if_false];by_cases c:k2=k'
       .simp[bR,c]
       .have l1:bR ((k2,v2)::s.map λa=>if a.1=b then(a.1,v) else a) k'=bR (s.map λa=>if a.1=b then(a.1,v) else a) k':=by simp[bR,c]
        have l2:bR ((k2,v2)::s) k'=bR s k':=by simp[bR,c]
        rw[l1,l2,d]
    have l1:bR ((b,v)::r.map λa=>if a.1=b then(a.1,v) else a) k'=bR (r.map λa=>if a.1=b then(a.1,v) else a) k':=by simp[bR,e]
    have l2:bR ((b,v0)::r) k'=bR r k':=by simp[bR,e]
    rw[l1,this,if_neg e,l2]
  .have g:jC ((b,v0)::r) k v=(b,v0)::jC r k v:=by unfold jC;simp only[rK,f,decide_false,Bool.false_or];split<;>simp[f]
   rw[g];by_cases c:b=k'
   .have ne:k≠k':=λz=>f (c.trans z.symm);simp[bR,c,ne]
   .have l1:bR ((b,v0)::jC r k v) k'=bR (jC r k v) k':=by simp[bR,c]
    have l2:bR ((b,v0)::r) k'=bR r k':=by simp[bR,c]
    rw[l1,l2,h]
theorem aBa{k:aN}:(jC kvs k v).length<=kvs.length+1:=by
 unfold jC;split
 .rw[aR];lia
 .rw[dC];exact aV _
theorem HI{k:Int}(e:h.ob n=aA (.lst aB xs))(h0:0<=k)(hz:xs.length*k.toNat<=sizeLine)(h1:k<2 ^ 63)(q:V1 (.ref h.nx) (h.new<|.lst aB (eO k.toNat xs).flatten)):We (Op.g .mul (.ref n)<|.int k) h V1:=by show We (ou (.ref n)<|.int k) h V1;unfold We ou;simp only[e,if_pos (show 0<=k/\xs.length*k.toNat<=sizeLine/\k<2 ^ 63 from⟨h0,hz,h1⟩)];exact q
theorem aPk(w:We (aL F o Z) h λx h1=>We (zD x) h1 V1):We (aL F (.rg o) Z) h V1:=bI w
theorem aOb(e:h.ob n=aA (.lst aB<|xs++[y]))(q:V1 y (h.put n<|.lst aB xs)):We (zD<|.ref n) h V1:=by
 unfold We zD;have a:(xs++[y])[(xs++[y]).length-1]?=aA y:=by simp
 have b:(xs++[y]).dropLast=xs:=by simp
 simp only[e,a,b];exact q
theorem aNj(e:tP x y=aD)(e2:rZ h x y=aA b)(q:V1 (.bl b) h):We (Cp.g .eq x y) h V1:=by show We (yZ x y) h V1;unfold We yZ;simp only[e,e2];exact q
theorem Nl(e:tP x y=aD)(e2:rZ h x y=aA b)(q:V1 (.bl<|!b) h):We (Cp.g .ne x y) h V1:=by show We (zC x y) h V1;unfold We zC;simp only[e,e2];exact q
theorem xl{m:Nat}{b1 b2:Bool}(e1:h.ob n=aA (.lst b1 xs))(e2:h.ob m=aA (.lst b2 [])):rZ h (.ref n) (.ref m)=aA (decide<|xs=[]):=by simp only[rZ,sv,e1,e2];cases xs<;>rfl
theorem Kp.get(g:Kp h h'){o:Option bC}(hn:n<h.nx)(e:h.ob n=o):h'.ob n=o:=(g.ob n hn).trans e
theorem aTm{o:bC}:(h.put n o).nx=h.nx:=rfl
theorem aTl{o:bC}:(h.new o).nx=h.nx+1:=rfl
theorem UM{g:AV->aF->M aF}{mt:aF->M Bool}(I:Nat->Fu->aF->AH->Prop)(hn:xs.length<FU)(i0:I 0 [] σ h)(il:∀i ys σ h,I i ys σ h->h.ob n=aA (.lst bb xs))
  (turn:∀(i:Nat) x ys σ h,xs[i]?=aA x->I i ys σ h->Wp (g x σ) h λσ1 h1=>Wp (mt σ1) h1 λb h2=>if b=aB then We (me σ1) h2 λy h3=>ys.length<sizeLine/\I (i+1) (ys++[y]) σ1 h3 else I (i+1) ys σ1 h2)
  (done:∀ys σ h,I xs.length ys σ h->L1 ys h):We (eI (lH n) g mt me FU 0 [] σ) h L1:=by
 exact wB I xs.length (λi ys σ h c a=>⟨_,by rw[wN (il _ _ _ _ a),eB c],turn i _ ys σ h (eB c) a⟩) (λys σ h a=>⟨by rw[wN (il _ _ _ _ a)];simp,done ys σ h a⟩) FU 0 [] σ h (jR _) (by omega) i0
theorem jE:(1000:Nat)<sizeLine:=by decide
theorem iN{α:Type}{f:α->AV}{ws:List α}(h:(ws.map f)[i]?=aA x):∃w,ws[i]?=aA w/\x=f w:=by rw[fR]at h;obtain⟨w,a,b⟩:=Option.map_eq_some_iff.mp h;exact⟨w,a,b.symm⟩
theorem UX:iM xs aD (aA (n:Int))=xs.take n:=by
 unfold iM;rw[HT.Lv,HT.iu,JB,Nat.sub_zero];rcases Pp n xs.length with h|h
 .rw[Ch h]
 .rw[Pq h,pH,Pm h]
theorem Vi:iM xs (aA (n:Int)) aD=xs.drop n:=by
 unfold iM;rw[HT.Lv,HT.iu];rcases Pp n xs.length with h|h
 .rw[Ch h,Pm (by rw[uh];exact aV _)]
 .rw[Pq h,List.drop_eq_nil_of_le h,Ps];rfl
theorem MV(h0:0<n)(h1:n<=xs.length):cJ xs (-(n:Int))=xs[xs.length-n]?:=by
 unfold cJ jM;rw[if_neg (by lia)];first
  |rw[if_pos (by lia)]|skip
 have:(-n+(xs.length:Int)).toNat=xs.length-n:=by lia
 simp[this]
theorem Bl{c:Ex}{b:aQ}(w:Wt (vA (dP F c) (jA F b) FU Z) h N R B C):Wt (eL F (.Be c b) Z) h N R B C:=w
theorem ub{c:aF->M Bool}{body:aF->M Out}(I:Nat->aF->AH->Prop)(n:Nat)(hb:∀i Z h,I i Z h->i<=n)
  (turn:∀i Z h,I i Z h->We (c Z) h λb h1=>if b=aB then Wt (body Z) h1 (I<|i+1) R N (I<|i+1) else N Z h1):∀(f i:Nat) (Z:aF) (h:AH),n-i<f->I i Z h->Wt (vA c body f Z) h N R B C
 |0,i,Z,h,d,_=>absurd d (kb _)
 |f+1,i,Z,h,d,j=>by
  have e:=ub I n hb turn f;refine bI<|(turn i Z h j).mono λb h1 w=>?_;cases b with
  |false=>exact w|true=>
   refine bI<|We.mono w λo g z=>?_;cases o with
   |nx a=>have:=hb _ _ _ z;exact e (i+1) a g (by omega) z
   |cnt a=>have:=hb _ _ _ z;exact e (i+1) a g (by omega) z
   |brk a=>exact z|ret v=>exact z
theorem Vr{k:aN}(e:ks[i]?=aA k):lS ks i h=aA (aA<|sF k):=by simp only[lS,e]
theorem Vq:lS ks ks.length h=aA aD:=by simp[lS]
theorem Va{g:AV->aF->M aF}{mt:aF->M Bool}(I:Nat->Fu->aF->AH->Prop)(hn:ks.length<FU)(i0:I 0 [] σ h)
  (turn:∀(i:Nat) k ys σ h,ks[i]?=aA k->I i ys σ h->Wp (g (sF k) σ) h λσ1 h1=>Wp (mt σ1) h1 λb h2=>if b=aB then We (me σ1) h2 λy h3=>ys.length<sizeLine/\I (i+1) (ys++[y]) σ1 h3 else I (i+1) ys σ1 h2)
  (done:∀ys σ h,I ks.length ys σ h->L1 ys h):We (eI (lS ks) g mt me FU 0 [] σ) h L1:=by
 exact wB I ks.length (λi ys σ h c a=>⟨_,Vr (eB c),turn i _ ys σ h (eB c) a⟩) (λys σ h a=>⟨Vq,done ys σ h a⟩) FU 0 [] σ h (jR _) (by omega) i0
theorem UK{g:AV->aF->M aF}(I:Nat->Fu->aF->AH->Prop)(hn:ks.length<FU)(i0:I 0 [] σ h)
  (turn:∀(i:Nat) k ys σ h,ks[i]?=aA k->I i ys σ h->Wp (g (sF k) σ) h λσ1 h1=>We (me σ1) h1 λy h3=>ys.length<sizeLine/\I (i+1) (ys++[y]) σ1 h3)
  (done:∀ys σ h,I ks.length ys σ h->L1 ys h):We (eI (lS ks) g (λ_=>M.ret aB) me FU 0 [] σ) h L1:=
 Va I hn i0 (λi k ys σ h e a=>(turn i k ys σ h e a).mono λσ1 h1 w=>tm w) done
theorem GL{L:bC}(ho:h.ob n=aA (.aP kvs))(hn:n<h.nx):((h.put n<|.dD kvs).new L).put n (.aP kvs)=h.new L:=by
 unfold AH.put AH.new;congr 1
 funext m
 dsimp only;by_cases e:m=n
 .subst e;rw[if_pos rfl,if_neg (cC hn),ho]
 .rw[if_neg e,if_neg e]
theorem Mr{α:Type}{m0:aF->M AV}{ma:aF->M α}{kv':List (aN×AV)}{a:α}(hd:m0 Z h = .ok (.ref n) h)(ho:h.ob n=aA (.aP kvs))(hm:ma Z h = .ok a h')(h2:h'.ob n=aA (.dD kv')):lZ m0 ma Z h = .ok a (h'.put n<|.aP kv'):=by unfold lZ;simp only[hd,wy,ho,hm,tj,h2]
theorem Gj(hd:aL F d Z h = .ok (.ref n) h)(ho:h.ob n=aA (.aP kvs)):cO F (.aP d) Z h = .ok (lS<|kvs.map (·.1)) (h.put n<|.dD kvs):=by show M.bind (aL F d Z) oe h=_;simp only[M.bind,hd,oe,ho]
theorem aPp{c:Ex}{imp:WU}{t:CT}(hd:aL F d Z h = .ok (.ref n) h)(ho:h.ob n=aA (.aP kvs))(hn:n<h.nx)
  (w:Wp (eI (lS<|kvs.map (·.1)) (pP t) (dP F c) (aL F e) FU 0 []<|mJ imp Z) (h.put n<|.dD kvs) λys h2=>h2=h.put n (.dD kvs)/\V1 (.ref h.nx) (h.new<|.lst aB ys)):We (aL F (.kB d<|.vZ imp t (.aP d) c e) Z) h V1:=by
 obtain⟨ys,h2,a,rfl,q⟩:=w.ex;have b:aL F (.vZ imp t (.aP d) c e) Z h = .ok (.ref h.nx) ((h.put n<|.dD kvs).new (.lst aB ys)):=by show M.bind (cO F (.aP d) Z) _ h=_;simp only[M.bind,Gj hd ho,a];rfl
 show We (lZ (aL F d) (aL F<|.vZ imp t (.aP d) c e) Z) h V1;unfold We;rw[(Mr (kv':=kvs) hd ho b (by simp[AH.new,AH.put,cC hn])),GL ho hn];exact q
theorem aPo{imp:WU}{t:CT}(hd:aL F d Z h = .ok (.ref n) h)(ho:h.ob n=aA (.aP kvs))(hn:n<h.nx)
  (w:Wp (eI (lS<|kvs.map (·.1)) (pP t) (λ_=>M.ret aB) (aL F e) FU 0 []<|mJ imp Z) (h.put n<|.dD kvs) λys h2=>h2=h.put n (.dD kvs)/\V1 (.ref h.nx) (h.new<|.lst aB ys)):We (aL F (.kB d<|.vY imp t (.aP d) e) Z) h V1:=by
 obtain⟨ys,h2,a,rfl,q⟩:=w.ex;have b:aL F (.vY imp t (.aP d) e) Z h = .ok (.ref h.nx) ((h.put n<|.dD kvs).new (.lst aB ys)):=by show M.bind (cO F (.aP d) Z) _ h=_;simp only[M.bind,Gj hd ho,a];rfl
 show We (lZ (aL F d) (aL F<|.vY imp t (.aP d) e) Z) h V1;unfold We;rw[(Mr (kv':=kvs) hd ho b (by simp[AH.new,AH.put,cC hn])),GL ho hn];exact q
theorem g9{g:AV->aF->M aF}{body:aF->M Out}(I:Nat->aF->AH->Prop)(hn:ks.length<FU)(i0:I 0 σ h)
  (turn:∀(i:Nat) k σ h,ks[i]?=aA k->I i σ h->We (g (sF k) σ) h λσ1 h1=>Wt (body σ1) h1 (I<|i+1) R N (I<|i+1))
  (done:∀σ h,I ks.length σ h->N σ h):Wt (jV (lS ks) g body FU 0 σ) h N R B C:=by
 exact yW I ks.length (λi σ h b a=>⟨_,Vr (eB b),turn i _ σ h (eB b) a⟩) (λσ h a=>⟨Vq,done σ h a⟩) FU 0 σ h (jR _) (by omega) i0
theorem aQa{t:Tg}{b:aQ}(hd:aL F d Z h = .ok (.ref n) h)(ho:h.ob n=aA (.aP kvs))
  (w:Wt (jV (lS<|kvs.map (·.1)) (nT F t) (jA F b) FU 0 Z) (h.put n<|.dD kvs) (λZ' h'=>h'.ob n=aA (.dD kvs)/\N Z' (h'.put n<|.aP kvs)) (λ_ _=>False) (λ_ _=>False) (λ_ _=>False)):Wt (eL F (.kB d<|.tS t (.aP d) b) Z) h N R B C:=by
 have a:Wp (jV (lS<|kvs.map (·.1)) (nT F t) (jA F b) FU 0 Z) (h.put n<|.dD kvs) _:=w;obtain⟨o,h',e,q⟩:=a.ex;cases o with
 |nx Z'=>
  obtain⟨c,f⟩:=(q:h'.ob n=aA (.dD kvs)/\N Z' (h'.put n<|.aP kvs));have g:eL F (.tS t (.aP d) b) Z h = .ok (.nx Z') h':=by show M.bind (cO F (.aP d) Z) _ h=_;simp only[M.bind,Gj hd ho];exact e
  show Wt (lZ (aL F d) (eL F<|.tS t (.aP d) b) Z) h N R B C;unfold Wt We;rw[(Mr (kv':=kvs) hd ho g c)];exact f
 |_=>exact(q).elim
theorem fm{cs:WT}{f:Str}{fs:WR}(ho:aL F o Z h = .ok (.ref n) h)(e:h.ob n=aA (.ins c fs))(hc:cs.contains c=aB)(l:fs.lookup f=aA v):aL F (.lD cs f o) Z h = .ok v h:=by show M.bind (aL F o Z) (tU cs f) h=_;simp only[M.bind,ho,tU,e,hc,l,if_true]
theorem je(e:Z[i]?=aA (aA v)):aL F (.var i) Z h = .ok v h:=by show tX i Z h=_;simp only[tX,e]
theorem aNd{bs:Wq}(e:h.ob n=aA (.lst b<|bs.map AV.bl))(q:V1 (.bl<|bs.any id) h):We (Kc.any.g<|.ref n) h V1:=by unfold We Kc.g;simp only[e,Kc.gl,Ug];exact q
theorem aOe{r:Bool}(e:h.ob n=aA (.lst b<|ns.map AV.int))(hn:ns.length<64)(q:V1 (.ref h.nx) (h.new<|.lst aB<|(kM r ns).map AV.int)):We ((Kc.srt r).g (.ref n)) h V1:=by unfold We Kc.g;simp only[e,Kc.gl,yk,if_pos hn];exact q
theorem aIw(hi:ns.Pairwise (·<·)):kM aB ns=ns.reverse:=by refine(Mc (List.reverse_perm ns) ?_).symm;show IP (λa b=>a ≥ b) ns.reverse;rw[List.pairwise_reverse];exact hi.imp λh=>by omega
theorem aNu(e:h.ob n=aA (.lst b<|ns.map AV.int))(q:V1 (if ns.isEmpty then .aH else .int (sI ns)) h):We (Kc.za.g<|.ref n) h V1:=by unfold We Kc.g;simp only[e,Kc.gl,yk];exact q
theorem aOc(e:h.ob n=aA (.lst b<|ns.map AV.int))(hn:ns.length<64)(q:V1 (.ref h.nx) (h.new<|.lst aB<|(kM aG ns).map AV.int)):We (Kc.sd.g<|.ref n) h V1:=by unfold We Kc.g;simp only[e,Kc.gl,yk,if_pos hn];exact q
def aE(b:Bool)(A B:Prop):Prop:=match b with
 |true=>A
 |false=>B
theorem aE.ite{A B:Prop}(w:aE b A B):if b=aB then A else B:=by
 cases b with
 |true=>exact w|false=>exact w
theorem aE.mp{A B A' B':Prop}(w:aE b A B)(f:A->A')(g:B->B'):aE b A' B':=by
 cases b with
 |true=>exact f w|false=>exact g w
theorem aE.t{A B:Prop}(e:b=aB)(q:A):aE b A B:=by rw[e];exact q
theorem aE.f{A B:Prop}(e:b=aG)(q:B):aE b A B:=by rw[e];exact q
theorem aE.dt{c:Prop} [Decidable c] {A B:Prop}(e:c)(q:A):aE (decide c) A B:=aE.t (decide_eq_true e) q
theorem aE.df{c:Prop} [Decidable c] {A B:Prop}(e:¬c)(q:B):aE (decide c) A B:=aE.f (decide_eq_false e) q
theorem aE.nt{c:Prop} [Decidable c] {A B:Prop}(e:c)(q:B):aE (!decide c) A B:=aE.f (by rw[decide_eq_true e];rfl) q
theorem aE.nf{c:Prop} [Decidable c] {A B:Prop}(e:¬c)(q:A):aE (!decide c) A B:=aE.t (by rw[decide_eq_false e];rfl) q
theorem aE.dc{c:Prop} [Decidable c] {A B:Prop}(t:c->A)(f:¬c->B):aE (decide c) A B:=by
 by_cases z:c
 .exact aE.dt z<|t z
 .exact aE.df z<|f z
theorem aE.nd{c:Prop} [Decidable c] {A B:Prop}(t:¬c->A)(f:c->B):aE (!decide c) A B:=by
 by_cases z:c
 .exact aE.nt z<|f z
 .exact aE.nf z<|t z
theorem aE.by{b:Bool}{A B:Prop}(t:b=aB->A)(f:b=aG->B):aE b A B:=by
 cases b with
 |true=>exact t rfl|false=>exact f rfl
@[irreducible] def WC {α:Type} (m:M α) (h:AH) (Q:α->AH->Prop):Prop:=We m h Q
theorem WC.of{α:Type}{m:M α}{Q:α->AH->Prop}(w:We m h Q):WC m h Q:=by unfold WC;exact w
theorem WC.we{α:Type}{m:M α}{Q:α->AH->Prop}(w:WC m h Q):We m h Q:=by unfold WC at w;exact w
@[irreducible] def WB (m:M Out) (h:AH) (N:aF->AH->Prop) (R:AV->AH->Prop) (B C:aF->AH->Prop):Prop:=Wt m h N R B C
theorem WB.of{m:M Out}(w:Wt m h N R B C):WB m h N R B C:=by unfold WB;exact w
theorem WB.wt{m:M Out}(w:WB m h N R B C):Wt m h N R B C:=by unfold WB at w;exact w
def aC{α:Type}(o:Option α)(K:α->Prop):Prop:=match o with
 |some v=>K v
 |none=>False
theorem aC.of{α:Type}{o:Option α}{K:α->Prop}{v:α}(e:o=aA v)(q:K v):aC o K:=by rw[e];exact q
def tY:AV->Ft
 |.int i=>aA i
 |_=>aD
def Ax(o:Op)(x y:AV)(h:AH)(Q:AV->AH->Prop):Prop:=match o with
 |.add=>match x,y with
  |.int i,.int j=>Q (.int<|i+j) h
  |x,y=>WC (Op.g .add x y) h Q
 |.sub=>match x,y with
  |.int i,.int j=>Q (.int<|i-j) h
  |x,y=>WC (Op.g .sub x y) h Q
 |.mod=>match x,y with
  |.int i,.int j=>aE (decide<|0<j) (Q (.int<|i%j) h) False
  |x,y=>WC (Op.g .mod x y) h Q
 |.fdiv=>match x,y with
  |.int i,.int j=>aE (pU j) (Q (.int<|i / j) h) False
  |x,y=>WC (Op.g .fdiv x y) h Q
 |.mul=>match x,y with
  |.int i,.int j=>aE (qZ i j) (Q (.int<|i*j) h) False
  |x,y=>WC (Op.g .mul x y) h Q
 |.ix=>match x,y with
  |.tup xs,.int i=>aC (cJ xs i) λv=>Q v h
  |x,y=>WC (Op.g .ix x y) h Q
 |o=>WC (o.g x y) h Q
def af(o:Cp)(x y:AV)(h:AH)(Q:AV->AH->Prop):Prop:=match o with
 |.lt=>match x,y with
  |.int i,.int j=>Q (.bl<|decide<|i<j) h
  |x,y=>WC (Cp.g .lt x y) h Q
 |.le=>match x,y with
  |.int i,.int j=>Q (.bl<|decide<|i<=j) h
  |x,y=>WC (Cp.g .le x y) h Q
 |.gt=>match x,y with
  |.int i,.int j=>Q (.bl<|decide<|j<i) h
  |x,y=>WC (Cp.g .gt x y) h Q
 |.ge=>match x,y with
  |.int i,.int j=>Q (.bl<|decide<|j<=i) h
  |x,y=>WC (Cp.g .ge x y) h Q
 |.eq=>match x,y with
  |.int i,.int j=>Q (.bl<|decide<|i=j) h
  |.str i,.str j=>Q (.bl<|decide<|i=j) h
  |x,y=>WC (Cp.g .eq x y) h Q
 |.ne=>match x,y with
  |.int i,.int j=>Q (.bl<|!decide (i=j)) h
  |.str i,.str j=>Q (.bl<|!decide (i=j)) h
  |x,y=>WC (Cp.g .ne x y) h Q
 |.gb=>match y with
  |.aH=>Q (.bl<|lF x) h
  |y=>WC (Cp.g .gb x y) h Q
 |.isn=>match y with
  |.aH=>Q (.bl<|!lF x) h
  |y=>WC (Cp.g .isn x y) h Q
 |o=>WC (o.g x y) h Q
def uY(x:AV)(h:AH)(Q:Bool->AH->Prop):Prop:=match x with
 |.bl b=>Q b h
 |.int i=>Q (i != 0) h
 |x=>WC (dB x) h Q
def Nc(f:Bi)(xs:Fu)(h:AH)(Q:AV->AH->Prop):Prop:=match f with
 |.len=>match xs with
  |[.tup ys]=>Q (.int ys.length) h
  |xs=>WC (Bi.g .len xs) h Q
 |.int=>match xs with
  |[.int i]=>Q (.int i) h
  |[.bl b]=>Q (.int<|if b then 1 else 0) h
  |xs=>WC (Bi.g .int xs) h Q
 |.min=>match xs with
  |[.int i,.int j]=>Q (.int<|if j<i then j else i) h
  |xs=>WC (Bi.g .min xs) h Q
 |.max=>match xs with
  |[.int i,.int j]=>Q (.int<|if j > i then j else i) h
  |xs=>WC (Bi.g .max xs) h Q
 |.tuple=>match xs with
  |[.tup ys]=>Q (.tup ys) h
  |xs=>WC (Bi.g .tuple xs) h Q
 |f=>WC (f.g xs) h Q
def HA(x:AV)(h:AH)(Q:AV->AH->Prop):Prop:=match x with
 |.int i=>Q (.int<|-i) h
 |x=>WC (ox x) h Q
def gY(x:AV)(h:AH)(K:Nat->Nat->WR->Prop):Prop:=match x with
 |.ref n=>aC (h.ob n) λo=>match o with
  |.ins c fs=>K n c fs
  |_=>False
 |_=>False
mutual
noncomputable def wE(F:Run):Ex->aF->AH->(AV->AH->Prop)->Prop
 |.var i,Z,h,Q=>aC Z[i]? λo=>aC o λv=>Q v h
 |.val v,_,h,Q=>Q v h
 |.op o a b,Z,h,Q=>wE F a Z h λx h1=>wE F b Z h1 λy h2=>Ax o x y h2 Q
 |.cmp o a b,Z,h,Q=>wE F a Z h λx h1=>wE F b Z h1 λy h2=>af o x y h2 Q
 |.neg a,Z,h,Q=>wE F a Z h λx h1=>HA x h1 Q
 |.not a,Z,h,Q=>wE F a Z h λx h1=>uY x h1 λb h2=>Q (.bl<|!b) h2
 |.and a b,Z,h,Q=>wE F a Z h λx h1=>uY x h1 λt h2=>aE t (wE F b Z h2 Q) (Q x h2)
 |.or a b,Z,h,Q=>wE F a Z h λx h1=>uY x h1 λt h2=>aE t (Q x h2) (wE F b Z h2 Q)
 |.ite c a b,Z,h,Q=>wT F c Z h λt h1=>aE t (wE F a Z h1 Q) (wE F b Z h1 Q)
 |.tup es,Z,h,Q=>oD F es Z h λxs h1=>aE (Pn xs.length 64) (Q (.tup xs) h1) False
 |.lst es,Z,h,Q=>oD F es Z h λxs h1=>aE (Pn xs.length 64) (Q (.ref h1.nx)<|h1.new<|.lst aB xs) False
 |.call f es,Z,h,Q=>oD F es Z h λxs h1=>WC (F f xs) h1 Q
 |.bi f es,Z,h,Q=>oD F es Z h λxs h1=>Nc f xs h1 Q
 |.qN t a,Z,h,Q=>wE F a Z h λx h1=>aC (tK h1 x) λs=>Q (.bl<|s.sub t) h1
 |.chain o o' a b c,Z,h,Q=>wE F a Z h λx h1=>wE F b Z h1 λy h2=>af o x y h2 λz h3=>aC (rV z) λt=>aE t (wE F c Z h3 λu h4=>af o' y u h4 Q) (Q (.bl aG) h3)
 |.app o a,Z,h,Q=>wE F o Z h λx h1=>aE (zH h1 x) (wE F a Z h1 λy h2=>WC (tT x y) h2 Q) False
 |.lD cs f o,Z,h,Q=>wE F o Z h λx h1=>gY x h1 λ_ c fs=>aE (cs.contains c) (aC (fs.lookup f) λv=>Q v h1) False
 |.qX m dp o es,Z,h,Q=>wE F o Z h λx h1=>gY x h1 λn c fs=>aC (dp.lookup c) λi=>aE (fs.lookup m).isNone (oD F es Z h1 λxs h2=>WC (F i<|.ref n::xs) h2 Q) False
 |.make c i dv es,Z,h,Q=>oD F es Z h λxs h1=>WC (F i<|.ref h1.nx::(xs++dv)) (h1.new<|.ins c []) λv h2=>v = .aH/\Q (.ref h1.nx) h2
 |.fb i es,Z,h,Q=>oD F es Z h λxs h1=>WC (F i xs) h1 Q
 |.nu,_,h,Q=>Q (.ref h.nx) (h.new<|.aP [])
 |.dm f o es,Z,h,Q=>wE F o Z h λx h1=>aE (fK h1 x).isSome (oD F es Z h1 λxs h2=>WC (f.g x xs) h2 Q) False
 |.kc k a,Z,h,Q=>wE F a Z h λx h1=>WC (k.g x) h1 Q
 |e,Z,h,Q=>WC (aL F e Z) h Q
noncomputable def wT(F:Run):Ex->aF->AH->(Bool->AH->Prop)->Prop
 |.var i,Z,h,Q=>aC Z[i]? λo=>aC o λv=>uY v h Q
 |.cmp o a b,Z,h,Q=>wE F a Z h λx h1=>wE F b Z h1 λy h2=>af o x y h2 λz h3=>aC (rV z) λt=>Q t h3
 |.not a,Z,h,Q=>wT F a Z h λb h1=>Q (!b) h1
 |.and a b,Z,h,Q=>wT F a Z h λt h1=>aE t (wT F b Z h1 Q) (Q aG h1)
 |.or a b,Z,h,Q=>wT F a Z h λt h1=>aE t (Q aB h1) (wT F b Z h1 Q)
 |.chain o o' a b c,Z,h,Q=>wE F a Z h λx h1=>wE F b Z h1 λy h2=>af o x y h2 λz h3=>aC (rV z) λt=>aE t (wE F c Z h3 λu h4=>af o' y u h4 λz h5=>aC (rV z) λt=>Q t h5) (Q aG h3)
 |.call f es,Z,h,Q=>oD F es Z h λxs h1=>WC (F f xs) h1 λv h2=>uY v h2 Q
 |.qN t a,Z,h,Q=>wE F a Z h λx h1=>aC (tK h1 x) λs=>Q (s.sub t) h1
 |.lD cs f o,Z,h,Q=>wE F o Z h λx h1=>gY x h1 λ_ c fs=>aE (cs.contains c) (aC (fs.lookup f) λv=>uY v h1 Q) False
 |.qX m dp o es,Z,h,Q=>wE F o Z h λx h1=>gY x h1 λn c fs=>aC (dp.lookup c) λi=>aE (fs.lookup m).isNone (oD F es Z h1 λxs h2=>WC (F i<|.ref n::xs) h2 λv h3=>uY v h3 Q) False
 |.kc k a,Z,h,Q=>wE F a Z h λx h1=>WC (k.g x) h1 λv h3=>uY v h3 Q
 |e,Z,h,Q=>WC (dP F e Z) h Q
noncomputable def oD(F:Run):eD->aF->AH->(Fu->AH->Prop)->Prop
 |.nil,_,h,Q=>Q [] h
 |.cons e es,Z,h,Q=>wE F e Z h λx h1=>oD F es Z h1 λxs h2=>Q (x::xs) h2
end
mutual
noncomputable def wA(F:Run):Tg->AV->aF->AH->(aF->AH->Prop)->Prop
 |.nm i,v,Z,h,K=>K (Z.set i<|aA v) h
 |.tup n ts,v,Z,h,K=>aC (dS h v) λxs=>aE (decide<|xs.length=n) (Nb F ts xs Z h K) False
 |.sub o i,v,Z,h,K=>wE F o Z h λx h1=>wE F i Z h1 λy h2=>WC (nX x y v) h2 λ_ h3=>K Z h3
 |t,v,Z,h,K=>WC (nT F t v Z) h K
noncomputable def Nb(F:Run):vS->Fu->aF->AH->(aF->AH->Prop)->Prop
 |.nil,[],σ,h,K=>K σ h
 |.nil,_::_,_,_,_=>False
 |.cons _ _,[],_,_,_=>False
 |.cons t ts,v::vs,σ,h,K=>wA F t v σ h λσ1 h1=>Nb F ts vs σ1 h1 K
end
mutual
noncomputable def wS(F:Run):Sx->aF->AH->(aF->AH->Prop)->(AV->AH->Prop)->(aF->AH->Prop)->(aF->AH->Prop)->Prop
 |.pass,Z,h,N,_,_,_=>N Z h
 |.brk,Z,h,_,_,B,_=>B Z h
 |.cnt,Z,h,_,_,_,C=>C Z h
 |.Aa,_,h,_,R,_,_=>R .aH h
 |.expr e,Z,h,N,_,_,_=>wE F e Z h λ_ h1=>N Z h1
 |.ret e,Z,h,_,R,_,_=>wE F e Z h R
 |.asg t e,Z,h,N,_,_,_=>wE F e Z h λv h1=>wA F t v Z h1 N
 |.ite c a b,Z,h,N,R,B,C=>wT F c Z h λt h1=>aE t (dU F a Z h1 N R B C) (dU F b Z h1 N R B C)
 |.fu cs f o e,Z,h,N,_,_,_=>wE F e Z h λv h1=>wE F o Z h1 λx h2=>gY x h2 λn c fs=>aE (cs.contains c) (aE (decide<|fs.length<1000) (N Z<|h2.put n<|.ins c<|gL f v fs) False) False
 |.nz cs f o e,Z,h,N,_,_,_=>wE F o Z h λx h1=>gY x h1 λn c fs=>aE (cs.contains c) (aC (fs.lookup f) λv=>aC (tY v) λi=>wE F e Z h1 λy h2=>aC (tY y) λj=>gY (.ref n) h2 λ_ c' fs2=>aE (decide<|c'=c) (aE (decide<|fs2.length<1000) (N Z<|h2.put n<|.ins c<|gL f (.int<|i+j) fs2) False) False) False
 |.aug sub i e,Z,h,N,_,_,_=>aC Z[i]? λo=>aC o λv=>aC (tY v) λa=>wE F e Z h λy h1=>aC (tY y) λj=>N (Z.set i<|aA<|.int<|if sub=aB then a-j else a+j) h1
 |.par is es,Z,h,N,_,_,_=>oD F es Z h λvs h1=>aE (decide<|vs.length=is.length) (N (Ae is vs Z) h1) False
 |s,Z,h,N,R,B,C=>WB (eL F s Z) h N R B C
noncomputable def dU(F:Run):aQ->aF->AH->(aF->AH->Prop)->(AV->AH->Prop)->(aF->AH->Prop)->(aF->AH->Prop)->Prop
 |.nil,σ,h,N,_,_,_=>N σ h
 |.cons s ss,σ,h,N,R,B,C=>wS F s σ h (λσ1 h1=>dU F ss σ1 h1 N R B C) R B C
end
theorem ue{i:Int}{Q:Unit->AH->Prop}(e:h.ob n=aA (.lst aB xs))(hi:jM xs.length i=aA j)(q:Q () (h.put n<|.lst aB<|xs.set j v)):WC (nX (.ref n) (.int i) v) h Q:=by refine WC.of ?_;have a:fK h (.ref n)=aD:=Ad (xs:=xs) (by simp only[dS,e]);unfold We nX;simp only[a];unfold qD;simp only[e,hi];exact q
theorem vB{k:aN}{Q:Unit->AH->Prop}(e:h.ob n=aA (.aP kvs))(hk:fN y=aA k)(hl:kvs.length<sizeLine)(q:Q () (h.put n<|.aP<|jC kvs k v)):WC (nX (.ref n) y v) h Q:=by refine WC.of ?_;unfold We nX;simp only[tN e,hk,if_pos hl];exact q
theorem qL(e:h.ob n=aA (.aP kvs)):(fK h<|.ref n).isSome=aB:=by rw[tN e];rfl
theorem aC.ex{α:Type}{o:Option α}{K:α->Prop}(w:aC o K):∃v,o=aA v/\K v:=by
 cases o with
 |some v=>exact⟨v,rfl,w⟩|none=>cases w
theorem aE.an{A:Prop}(w:aE b A False):b=aB/\A:=by
 cases b with
 |true=>exact⟨rfl,w⟩|false=>cases w
theorem aE.len{c:Prop} [Decidable c] {A:Prop}(w:aE (decide c) A False):c/\A:=⟨of_decide_eq_true (aE.an w).1,(aE.an w).2⟩
theorem AA(h:Pn n 64=aB):n<=sizeLine:=dR (JX h) (by decide)
theorem aMs{o:Op}(w:Ax o x y h Q):We (o.g x y) h Q:=by
 cases o with
 |add=>cases x<;>first|exact WC.we w|(cases y<;>first|exact WC.we w|exact aNc w)
 |sub=>cases x<;>first|exact WC.we w|(cases y<;>first|exact WC.we w|exact aOf w)
 |mod=>cases x<;>first|exact WC.we w|(cases y<;>first|exact WC.we w|exact aNv (aE.len w).1 (aE.len w).2)
 |fdiv=>cases x<;>first|exact WC.we w|(cases y<;>first|exact WC.we w|exact aNm (aE.an w).1 (aE.an w).2)
 |mul=>cases x<;>first|exact WC.we w|(cases y<;>first|exact WC.we w|exact aNw (aE.an w).1 (aE.an w).2)
 |ix=>cases x<;>first|exact WC.we w|(cases y<;>first|exact WC.we w|(obtain⟨v,e,q⟩:=aC.ex w;exact eU rfl e q))
 |_=>exact WC.we w
theorem jg{o:Cp}(w:af o x y h Q):We (o.g x y) h Q:=by
 cases o with
 |lt=>cases x<;>first|exact WC.we w|(cases y<;>first|exact WC.we w|exact aNs w)
 |le=>cases x<;>first|exact WC.we w|(cases y<;>first|exact WC.we w|exact aNr w)
 |gt=>cases x<;>first|exact WC.we w|(cases y<;>first|exact WC.we w|exact aNo w)
 |ge=>cases x<;>first|exact WC.we w|(cases y<;>first|exact WC.we w|exact aNn w)
 |eq=>cases x<;>first|exact WC.we w|(cases y<;>first|exact WC.we w|exact aNk w|exact aNl w)
 |ne=>cases x<;>first|exact WC.we w|(cases y<;>first|exact WC.we w|exact aNy w|exact aNz w)
 |gb=>cases y<;>first|exact WC.we w|exact aNp w
 |isn=>cases y<;>first|exact WC.we w|exact aNq w
 |_=>exact WC.we w
theorem xB{Q:Bool->AH->Prop}(w:uY x h Q):We (dB x) h Q:=by cases x<;>first|exact WC.we w|exact w
theorem aMr(w:HA x h Q):We (ox x) h Q:=by cases x<;>first|exact WC.we w|exact w
theorem aMq{f:Bi}(w:Nc f xs h Q):We (f.g xs) h Q:=by
 unfold Nc at w;split at w
 .split at w
  .exact kR rfl w
  .exact WC.we w
 .split at w
  .exact w
  .exact w
  .exact WC.we w
 .split at w
  .exact w
  .exact WC.we w
 .split at w
  .exact w
  .exact WC.we w
 .split at w
  .exact xD rfl w
  .exact WC.we w
 .exact WC.we w
theorem vz{m:M AV}{Q:Bool->AH->Prop}(w:We m h λz h1=>aC (rV z) λt=>Q t h1):We m h λz h1=>∃t,z = .bl t/\Q t h1:=w.mono λz h1 w=>by obtain⟨t,e,q⟩:=aC.ex w;cases z<;>cases e;exact⟨_,rfl,q⟩
theorem gY.ex{x:AV}{h:AH}{K:Nat->Nat->WR->Prop}(w:gY x h K):∃n c fs,x = .ref n/\h.ob n=aA (.ins c fs)/\K n c fs:=by
 unfold gY at w;split at w
 .obtain⟨o,e,w⟩:=aC.ex w;split at w
  .exact⟨_,_,_,rfl,e,w⟩
  .cases w
 .cases w
theorem AG{fs:WR}(h:(fs.lookup m).isNone=aB):fs.lookup m=aD:=by
 cases e:fs.lookup m with
 |none=>rfl|some v=>rw[e]at h;cases h
mutual
theorem cF(e:Ex):∀{Z:aF}{h:AH}{Q:AV->AH->Prop},wE F e Z h Q->We (aL F e Z) h Q:=by
 intro Z h Q w;cases e with
 |var i=>obtain⟨o,e1,w⟩:=aC.ex w;obtain⟨v,e2,w⟩:=aC.ex w;subst e2;exact Bj e1 w
 |val v=>exact w|op o a b=>exact aPh<|(cF a w).mono λx h1 w=>(cF b w).mono λy h2 w=>aMs w|cmp o a b=>exact aOx<|(cF a w).mono λx h1 w=>(cF b w).mono λy h2 w=>jg w|neg a=>exact aPf<|(cF a w).mono λx h1 w=>aMr w|not a=>exact aPg<|(cF a w).mono λx h1 w=>xB w|and a b=>exact aOt<|(cF a w).mono λx h1 w=>(xB w).mono λt h2 w=>aE.ite (w.mp (cF b) id)|or a b=>exact aPi<|(cF a w).mono λx h1 w=>(xB w).mono λt h2 w=>aE.ite (w.mp id<|cF b)|ite c a b=>exact aPc<|(oE c w).mono λt h1 w=>aE.ite (w.mp (cF a)<|cF b)|tup es=>exact aPq<|(nJ es w).mono λxs h1 w=>⟨AA (aE.an w).1,(aE.an w).2⟩|lst es=>exact aPd<|(nJ es w).mono λxs h1 w=>⟨AA (aE.an w).1,(aE.an w).2⟩|call f es=>exact HP<|(nJ es w).mono λxs h1 w=>w.we|bi f es=>exact aOv<|(nJ es w).mono λxs h1 w=>aMq w|qN t a=>exact HS ((cF a w).mono λx h1 w=>by obtain⟨s,e,w⟩:=aC.ex w;exact HG e w)
 |chain o o' a b c=>exact HQ<|(cF a w).mono λx h1 w=>(cF b w).mono λy h2 w=>vz ((jg w).mono λz h3 w=>by obtain⟨t,e,w⟩:=aC.ex w;exact aC.of e<|aE.ite<|w.mp (λw=>(cF c w).mono λu h4 w=>jg w) id)
 |app o a=>exact aOu<|(cF o w).mono λx h1 w=>⟨(aE.an w).1,(cF a (aE.an w).2).mono λy h2 w=>w.we⟩|lD cs f o=>exact HR ((cF o w).mono λx h1 w=>by obtain⟨n,c,fs,rfl,e,w⟩:=gY.ex w;obtain⟨hc,w⟩:=aE.an w;obtain⟨v,l,w⟩:=aC.ex w;exact HF e hc l w)
 |qX m dp o es=>exact HU ((cF o w).mono λx h1 w=>by obtain⟨n,c,fs,rfl,e,w⟩:=gY.ex w;obtain⟨i,l,w⟩:=aC.ex w;obtain⟨hm,w⟩:=aE.an w;exact⟨n,c,fs,i,rfl,e,l,AG hm,(nJ es w).mono λxs h2 w=>w.we⟩)
 |make c i dv es=>exact aPe<|(nJ es w).mono λxs h1 w=>w.we|fb i es=>exact aOw<|(nJ es w).mono λxs h1 w=>w.we|nu=>exact w|dm f o es=>exact aPa<|(cF o w).mono λx h1 w=>⟨(aE.an w).1,(nJ es (aE.an w).2).mono λxs h2 w=>w.we⟩|kc k a=>exact bI<|(cF a w).mono λx h1 w=>w.we|_=>exact WC.we w
theorem oE(e:Ex):∀{Z:aF}{h:AH}{Q:Bool->AH->Prop},wT F e Z h Q->We (dP F e Z) h Q:=by
 intro Z h Q w;cases e with
 |var i=>obtain⟨o,e1,w⟩:=aC.ex w;obtain⟨v,e2,w⟩:=aC.ex w;subst e2;exact aQl<|Bj e1<|xB w
 |cmp o a b=>exact aQe<|(cF a w).mono λx h1 w=>(cF b w).mono λy h2 w=>vz (jg w)|not a=>exact aQi<|oE a w|and a b=>exact aQb<|(oE a w).mono λt h1 w=>aE.ite (w.mp (oE b) id)|or a b=>exact aQk<|(oE a w).mono λt h1 w=>aE.ite (w.mp id<|oE b)|chain o o' a b c=>exact aQd<|HQ<|(cF a w).mono λx h1 w=>(cF b w).mono λy h2 w=>vz ((jg w).mono λz h3 w=>by obtain⟨t,e,w⟩:=aC.ex w;exact aC.of e<|aE.ite<|w.mp (λw=>(cF c w).mono λu h4 w=>vz (jg w)) λw=>⟨_,rfl,w⟩)
 |call f es=>exact aQc<|HP<|(nJ es w).mono λxs h1 w=>w.we.mono λv h2 w=>xB w|qN t a=>exact aQg<|HS ((cF a w).mono λx h1 w=>by obtain⟨s,e,w⟩:=aC.ex w;exact HG e w)
 |lD cs f o=>exact aQf<|HR ((cF o w).mono λx h1 w=>by obtain⟨n,c,fs,rfl,e,w⟩:=gY.ex w;obtain⟨hc,w⟩:=aE.an w;obtain⟨v,l,w⟩:=aC.ex w;exact HF e hc l<|xB w)
 |qX m dp o es=>exact aQh<|HU ((cF o w).mono λx h1 w=>by obtain⟨n,c,fs,rfl,e,w⟩:=gY.ex w;obtain⟨i,l,w⟩:=aC.ex w;obtain⟨hm,w⟩:=aE.an w;exact⟨n,c,fs,i,rfl,e,l,AG hm,(nJ es w).mono λxs h2 w=>w.we.mono λv h3 w=>xB w⟩)
 |kc k a=>exact bI<|bI<|(cF a w).mono λx h1 w=>w.we.mono λv h3 w=>xB w|_=>exact WC.we w
theorem nJ(es:eD):∀{Z:aF}{h:AH}{Q:Fu->AH->Prop},oD F es Z h Q->We (dA F es Z) h Q:=by
 intro Z h Q w;cases es with
 |nil=>exact w|cons e es=>exact Bk<|(cF e w).mono λx h1 w=>nJ es w
end
mutual
theorem gX(t:Tg):∀{v:AV}{Z:aF}{h:AH}{K:aF->AH->Prop},wA F t v Z h K->We (nT F t v Z) h K:=by
 intro v Z h K w;cases t with
 |nm i=>exact w|tup n a=>obtain⟨xs,e,w⟩:=aC.ex w;exact aMw e (aE.len w).1 (GZ a (aE.len w).2)
 |sub o i=>exact bI<|(cF o w).mono λx b w=>bI ((cF i w).mono λy c w=>bI (w.we.mono λ_ d q=>q))|_=>exact WC.we w
theorem GZ(ts:vS):∀{vs:Fu}{Z:aF}{h:AH}{K:aF->AH->Prop},Nb F ts vs Z h K->We (vT F ts vs Z) h K:=by
 intro vs Z h K w;cases ts with
 |nil=>
  cases vs with
  |nil=>exact w|cons=>exact w.elim
 |cons t ts=>
  cases vs with
  |nil=>exact w.elim|cons v vs=>exact aMu<|(gX t w).mono λa b w=>GZ ts w
end
mutual
theorem aMt(s:Sx):∀{Z:aF}{h:AH}{N:aF->AH->Prop}{R:AV->AH->Prop}{B C:aF->AH->Prop},wS F s Z h N R B C->Wt (eL F s Z) h N R B C:=by
 intro Z h N R B C w;cases s with
 |pass=>exact w|brk=>exact w|cnt=>exact w|Aa=>exact w|expr e=>exact aPu<|cF e w|ret e=>exact aPz<|cF e w|asg t e=>exact aPr<|(cF e w).mono λv d w=>gX t w|ite c a b=>exact aPx<|(oE c w).mono λt d w=>aE.ite (w.mp (fE a)<|fE b)|fu cs f o e=>exact aPw ((cF e w).mono λv d w=>(cF o w).mono λx r w=>by obtain⟨n,c,fs,rfl,e,w⟩:=gY.ex w;obtain⟨g,w⟩:=aE.an w;obtain⟨hl,w⟩:=aE.len w;exact⟨n,c,fs,rfl,e,g,hl,w⟩)
 |nz cs f o e=>exact aPv ((cF o w).mono λx d w=>by
   obtain⟨n,c,fs,rfl,k,w1⟩:=gY.ex w;obtain⟨g,w2⟩:=aE.an w1;obtain⟨v,l,w3⟩:=aC.ex w2;obtain⟨i,m,u⟩:=aC.ex w3;have ev:v = .int i:=by cases v<;>cases m;rfl
   refine⟨n,c,fs,i,rfl,k,g,by rw[l,ev],(cF e u).mono λy r z=>?_⟩;obtain⟨j,p,A⟩:=aC.ex z;have D:y = .int j:=by cases y<;>cases p;rfl
   obtain⟨J,K,q,en,E,G⟩:=gY.ex A;cases en;obtain⟨H,w8⟩:=aE.len G;obtain⟨hl,w⟩:=aE.len w8;subst H;exact⟨j,q,D,E,hl,w⟩)
 |aug sub i e=>
  obtain⟨o,k,w⟩:=aC.ex w;obtain⟨v,l,w⟩:=aC.ex w;obtain⟨a,m,w⟩:=aC.ex w;subst l;cases v<;>cases m;exact aPs k ((cF e w).mono λy d w=>by obtain⟨j,p,w⟩:=aC.ex w;cases y<;>cases p;exact⟨_,rfl,w⟩)
 |par is I=>exact aPy<|(nJ I w).mono λL d w=>aE.len w|_=>exact WB.wt w
theorem fE(ss:aQ):∀{Z:aF}{h:AH}{N:aF->AH->Prop}{R:AV->AH->Prop}{B C:aF->AH->Prop},dU F ss Z h N R B C->Wt (jA F ss Z) h N R B C:=by
 intro Z h N R B C w;cases ss with
 |nil=>exact w|cons s ss=>
  refine aPt<|(aMt s w).mono λo h1 w=>?_;cases o with
  |nx Z=>exact fE ss w|ret v=>exact w|brk Z=>exact w|cnt Z=>exact w
end
def Ay(F:Run)(e:Ex)(Z:aF)(h:AH)(K:Ft->AH->Prop):Prop:=match e with
 |.no=>K aD h
 |e=>wE F e Z h λx h1=>aC (tY x) λi=>K (aA i) h1
theorem HB{K:Ft->AH->Prop}(w:Ay F e Z h K):We (oX e<|aL F e Z) h K:=by
 unfold Ay at w;split at w
 .exact w
 .rename_i hn;have key:We (aL F e Z) h λx a=>∃i,x = .int i/\K (aA i) a:=(cF e w).mono λx a w=>by obtain⟨i,e,q⟩:=aC.ex w;cases x<;>cases e;exact⟨_,rfl,q⟩
  exact aPj (λm=>by unfold oX;split;exact absurd rfl hn;rfl) key
theorem jm{a lo hi:Ex}(w:wE F a Z h λx h1=>Ay F lo Z h1 λl h2=>Ay F hi Z h2 λu h3=>WC (qF x l u) h3 Q):WC (aL F (.slice a lo hi) Z) h Q:=
 WC.of (aPn<|(cF a w).mono λ_ _ w=>(HB w).mono λ_ _ w=>(HB w).mono λ_ _ w=>w.we)
theorem aPm{P:Pg}{k f np nn:Nat}{b:aQ}{args:Fu}(e:P f=aA (np,nn,b))(hl:args.length=np)(w:dU (run P k) b (args.map aA++eO (nn-np) aD) h (λ_ h1=>R .aH h1) R (λ_ _=>False) (λ_ _=>False)):We (run P (k+1) f args) h R:=aPl e hl (fE b w)
section
variable {Q:gT->AH->Prop}
theorem Hg{K:Int->Prop}(w:aC (tY x) K):∃i,x = .int i/\K i:=by obtain⟨i,e,q⟩:=aC.ex w;cases x<;>cases e;exact⟨_,rfl,q⟩
theorem Bf{a:Ex}(w:wE F a Z h λx h1=>aC (tY x) λj=>lY j=aB/\Q (nH 0 j.toNat) h1):We (cO F (.Ab<|.cons a .nil) Z) h Q:=
 aOj (Bk<|(cF a w).mono λx h1 w=>HV (by obtain⟨j,rfl,w⟩:=Hg w;exact⟨j,rfl,w⟩))
theorem aOi{a b:Ex}(w:wE F a Z h λx h1=>aC (tY x) λi=>wE F b Z h1 λy h2=>aC (tY y) λj=>(lY i&&lY j)=aB/\Q (nH i (j-i).toNat) h2):We (cO F (.Ac<|.cons a<|.cons b .nil) Z) h Q:=
 aOk (Bk ((cF a w).mono λx h1 w=>by obtain⟨i,rfl,w⟩:=Hg w;exact Bk<|(cF b w).mono λy h2 w=>HV (by obtain⟨j,rfl,w⟩:=Hg w;exact⟨i,j,rfl,w⟩)))
theorem kC{a:Ex}(w:wE F a Z h λx h1=>We (qC x) h1 Q):We (cO F (.seq a) Z) h Q:=aOl (cF a w)
end
def fz:Wj->Addr->Bool
 |some (aA<|.ref a),f=>a==f
 |_,_=>aG
def ym:Wj->Bool
 |some aD=>aB
 |_=>aG
def Ho:Wj->String->Bool
 |some (aA<|.builtin b),s=>b==s
 |_,_=>aG
theorem pv{o:Wj}{f:Addr}(h:fz o f=aB):o=aA (aA<|.ref f):=by
 unfold fz at h;split at h
 .rw[eq_of_beq h]
 .cases h
theorem Zc{o:Wj}(h:ym o=aB):o=aA aD:=by
 unfold ym at h;split at h
 .rfl
 .cases h
theorem y8{o:Wj}{s:String}(h:Ho o s=aB):o=aA (aA<|.builtin s):=by
 unfold Ho at h;split at h
 .rw[eq_of_beq h]
 .cases h
def wj(K:bH)(C:Addr):Bool:=ur K C Str.empty&&Ct K C&&Qk K C&&Ho (nM K (.ref C) "__setattr__") "object.__setattr__"
theorem Uv{K:bH}{C:Addr}(h:wj K C=aB):mU K C:=by unfold wj at h;rw[bT,bT,bT]at h;exact⟨h.1.1.1,h.1.1.2,h.1.2,y8 h.2⟩
def pO(cs:Wm)(c:Nat):Addr:=(cs.lookup c).getD 0
def qy(K:bH)(p:Pr)(fJ:S1):Bool:=((p.defs.take p.yV).zip fJ).all (λx=>fz (vH K iW x.1.name) x.2)&&p.iZ.all λx=>ym (vH K iW x)
def BH(K:bH)(p:Pr)(cs:Wm):Bool:=p.kK.all λx=>x.2.all λc=>(cs.lookup c).isSome&&wj K (pO cs c)&&ym (nM K (.ref<|pO cs c) x.1)
def BJ(K:bH)(p:Pr)(fJ:S1)(cs:Wm):Bool:=p.mZ.all λx=>x.2.all λy=>(cs.lookup y.1).isSome&&(p.defs[y.2]?).isSome&&wj K (pO cs y.1)&&fz (nM K (.ref<|pO cs y.1) x.1) (fJ.getD y.2 0)&&uq K (.ref<|fJ.getD y.2 0)
def BI(K:bH)(p:Pr)(fJ:S1)(cs:Wm):Bool:=p.mM.all λx=>(cs.lookup x.2.1).isSome&&(p.defs[x.2.2.1]?).isSome&&fz (vH K iW x.1.1) (pO cs x.2.1)&&Qi K (pO cs x.2.1) &&
 fz (nM K (.ref<|pO cs x.2.1) "__init__") (fJ.getD x.2.2.1 0)&&uq K (.ref<|fJ.getD x.2.2.1 0)&&tD K (.ref<|pO cs x.2.1)
theorem vv{cs:Wm}(h:(cs.lookup c).isSome=aB):cs.lookup c=aA (pO cs c):=by
 unfold pO;cases e:cs.lookup c with
 |none=>rw[e]at h;cases h|some a=>rfl
theorem iX.len{K:bH}{fs:List eV}(h:iX K ds as fs):ds.length=as.length:=by
 induction h with
 |nil=>rfl|cons _ _ a=>rw[eK,eK,a]
theorem iX.one{K:bH}{nm qu:Str}{st:Stmt}{N ps:WL}{f:Addr}{oc dV kV doc pm cd ct:Value}{od an:Wr}{sl:Wn}{fs:List eV}
  (l:K.lookup f=aA ⟨oc,od,.func (ki nm qu (xa st) (fh st) (pT st) dV kV doc pm an cd ct),sl⟩)(c:Qf K cd qu=aB)(k:tD K (.ref f)=aB)
  (b:Binds K (ki nm qu (xa st) (fh st) (pT st) dV kV doc pm an cd ct) ps [])(s:lj N ps (pT st))(t:iX K ds as fs):iX K (⟨nm,qu,st,N,ps⟩::ds) (f::as) (ki nm qu (xa st) (fh st) (pT st) dV kV doc pm an cd ct::fs):=
 .cons ⟨⟨⟨_,_,_,_,_,_,_,_,_,_,rfl,l,c⟩,k⟩,b,s⟩ t
section
variable {P:cD}{w:bW}{K:bH}{h:bS}{mg:Str->WM}{p:Pr}{fJ:S1}{fds:List eV}{cs:Wm}{G:WW->Addr->Prop}{f0:eV}
theorem BK(X:K.In h)(N:h.Ns iW mg)(D:iX K p.defs fJ fds)(ok:qy K p fJ=aB):∀(i:Nat) d,(p.defs.take p.yV)[i]?=aA d->mg d.name=aA (.ref<|fJ.getD i 0):=λi d hd=>by
 unfold qy at ok;rw[bT]at ok;have a:=(List.getElem?_eq_some_iff.mp hd).1;rw[kW,D.len]at a;have ha:fJ[i]?=aA (fJ.getD i 0):=by rw[vF,eB (by lia)];rfl
 have hm:(d,fJ.getD i 0)∈(p.defs.take p.yV).zip fJ:=bM (by rw[JL];exact⟨hd,ha⟩);exact vG X N<|pv<|List.all_eq_true.mp ok.1 _ hm
theorem M5(X:K.In h)(N:h.Ns iW mg)(ok:qy K p fJ=aB):∀x,p.iZ.contains x=aB->mg x=aD:=λx a=>by unfold qy at ok;rw[bT]at ok;exact W.mg_none_of X N<|Zc<|List.all_eq_true.mp ok.2 x<|List.contains_iff_mem.mp a
theorem M1(ok:BH K p cs=aB):∀f c,p.kK.lookup f=aA c->di K ⟨K,G,λi=>cs.lookup i⟩ c f:=λf c a k C b d=>by have:=List.all_eq_true.mp (List.all_eq_true.mp ok _<|qs a) k (List.contains_iff_mem.mp b);rw[bT,bT]at this;have e:=vv this.1.1;have g:cs.lookup k=aA C:=d;rw[g]at e;rw[(dJ e)];exact⟨Uv this.1.2,Zc this.2⟩
theorem M4(D:iX K p.defs fJ fds)(ok:BJ K p fJ cs=aB):∀m dp,p.mZ.lookup m=aA dp->∀c i,dp.lookup c=aA i->∃d C,p.defs[i]?=aA d/\cs.lookup c=aA C/\mU K C/\vm K C m (fJ.getD i 0):=λm dp a c i b=>by have:=List.all_eq_true.mp (List.all_eq_true.mp ok _<|qs a) _ (qs b);rw[bT,bT,bT,bT]at this;obtain⟨⟨⟨⟨h1,e⟩,f⟩,g⟩,h⟩:=this;obtain⟨d,hd⟩:=Option.isSome_iff_exists.mp e;exact⟨d,_,hd,vv h1,Uv f,pv g,h,(iX.get D (f0:=default) i d hd).fn.kp⟩
theorem M3(X:K.In h)(N:h.Ns iW mg)(D:iX K p.defs fJ fds)(ok:BI K p fJ cs=aB)
  (dv:∀x n c i dv,p.mM.lookup (x,n)=aA (c,i,dv)->dv≠[]->∃d ds dvs,p.defs[i]?=aA d/\Binds K (fds.getD i f0) d.ps ds/\Vals dvs ds/\∀Y H,bD ⟨K,G,λi=>cs.lookup i⟩ Y H dv dvs) :
  ∀x n c i dv,p.mM.lookup (x,n)=aA (c,i,dv)->∃d C ds dvs,p.defs[i]?=aA d/\cs.lookup c=aA C/\Mk K C (fJ.getD i 0)/\mg x=aA (.ref C)/\Binds K (fds.getD i f0) d.ps ds/\Vals dvs ds/\∀Y H,bD ⟨K,G,λi=>cs.lookup i⟩ Y H dv dvs:=λx n c i v e=>by
 have:=List.all_eq_true.mp ok _ (qs e);rw[bT,bT,bT,bT,bT,bT]at this;obtain⟨⟨⟨⟨⟨⟨h1,j⟩,f⟩,k⟩,l⟩,m⟩,o⟩:=this;obtain⟨d,hd⟩:=Option.isSome_iff_exists.mp j;have mk:Mk K (pO cs c) (fJ.getD i 0):=⟨k,pv l,m,o⟩;by_cases g:v=[]
 .subst g;exact⟨d,_,[],[],hd,vv h1,mk,vG X N (pv f),(iX.get D i d hd).bd,.nil,λ_ _=>.nil⟩
 .obtain⟨q,ds,dvs,a,b,s,r⟩:=dv x n c i v e g;exact⟨q,_,ds,dvs,a,vv h1,mk,vG X N (pv f),b,s,r⟩
end
end AM
namespace AMx
open PySem PySem.Spec PyProof.Rows L2 AM
def top(i:Nat):Stmt:=PySem.Challenge.pw_aheadmill_k39_started_at_once.main.body.getD i (.Pass ⟨0,0,0,0⟩)
def cb(i j:Nat):Stmt:=(UI<|top i).getD j (.Pass ⟨0,0,0,0⟩)
section
local macro_rules|`(!($a,$i,[$p,*],[$l,*]))=>`(⟨$a,$a,top $i,[$p,*,$l,*],[$p,*]⟩)|`(!($a,$q,$i,$j,[$p,*],[$l,*]))=>`(⟨$a,$q,cb $i $j,[$p,*,$l,*],[$p,*]⟩)
def Fg:List Df:=[!("_wall",0,["k"],[]),!("word_of",12,["number"],[]),!("shared",13,["one","other"],[]),!("leaves_some",14,["places"],[]),!("moved_up",15,["one","places"],[]),!("moved_down",16,["one","places"],[]),!("worked",17,["way","one","other"],[]),!("wants",20,["row"],["kind"]),!("fills",21,["row"],["kind"]),!("group_of",22,["row"],[]),!("place_of",23,["row","words"],[]),!("goes",24,["row","at","words"],[]),!("fault_of",25,["row","words","room"],["kind","place"]),!("brought",26,["row","words","held"],["kind"]),!("made",27,["row","at","words","room","held"],["fault"]),!("fetch_all",29,["window","ledger"],["put"]),!("fetch",30,["window","ledger"],["slot"]),!("give_known",31,["window","slot","boxes"],["want","box","word"]),!("known_word",32,["giver","word"],[]),!("row_behind",33,["slot","guesser"],[]),!("in_memory",55,["place","memory"],[]),!("replaced",56,["words","number","word"],[]),!("behind",57,["stand","deed"],["box","place","word","after"]),!("poked",58,["stand","place","word"],[]),!("take_off",61,["window","ledger"],["told","slot"]),!("take",62,["window","ledger","slot"],[]),!("note_memory",63,["window","ledger","slot"],[]),!("teach",64,["ledger","slot"],[]),!("was_near",65,["ledger","slot"],[]),!("finish_all",67,["window","ledger"],["ticket","slot"]),!("finish",68,["window","slot","room"],[]),!("give_word",69,["window","ticket","word"],["number","slot","want"]),!("start_all",70,["window","ledger"],["slot"]),!("start",71,["window","ledger","slot"],["group"]),!("take_word",72,["window","ledger","slot"],["place","found"]),!("or_plain",76,["guesser"],[]),!("_law_cell_at",78,["_law_script","_law_k"],[]),!("_law_number",79,["_law_cell","_law_k"],[]),!("_law_word_by",80,["_law_number_here"],["_law_kind","_law_part"]),!("_law_way_row",81,["_law_boxes","_law_part","_law_calm"],["_law_x","_law_y","_law_z","_law_ways","_law_way"]),!("_law_place_row",82,["_law_kind","_law_boxes","_law_part","_law_calm"],["_law_x","_law_y","_law_z"]),!("_law_turn_row",83,["_law_kind","_law_boxes","_law_part","_law_spot","_law_calm"],["_law_x","_law_y","_law_z","_law_k","_law_many","_law_target"]),!("_law_row",84,["_law_cell","_law_k","_law_many","_law_calm"],["_law_number_here","_law_boxes","_law_part","_law_kind"]),!("_law_late",85,["_law_cell","_law_k"],["_law_number_here"]),!("_law_program",86,["_law_cells","_law_calm"],["_law_rows","_law_k","_law_cell"]),!("_law_stand",87,["_law_cell","_law_other","_law_calm"],["_law_boxes","_law_most","_law_room","_law_memory"]),!("_law_table",88,["_law_cell","_law_most"],["_law_pairs","_law_k","_law_number_here"]),!("_law_guesser",89,["_law_cell","_law_script"],["_law_number_here","_law_part","_law_kind"]),!("_law_sizes",90,["_law_cell"],["_law_number_here","_law_size","_law_wide"]),!("_law_numbers",91,["_law_some"],["_law_one"]),!("_law_shape",92,["_law_slips","_law_size"],["_law_slip"]),!("_law_group",93,["_law_row_here"],[]),!("_law_given",94,["_law_slip","_law_window"],["_law_name","_law_deed"]),!("_law_free",95,["_law_slips","_law_program_here","_law_table_here","_law_turn"],["_law_free_here","_law_slip","_law_begun","_law_ended","_law_group_here"]),!("_law_starts",96,["_law_slips","_law_program_here","_law_table_here","_law_turn"],["_law_window","_law_slip","_law_free_here","_law_begun","_law_row_here","_law_group_here","_law_ready"]),!("_law_named",97,["_law_slips","_law_program_here"],["_law_wanted","_law_slip"]),!("law",98,["_law_script"],["_law_calm","_law_program_here","_law_start","_law_size","_law_wide","_law_table_here","_law_guesser_here","_law_mill","_law_turn","_law_slips","_law_number_here"]),!("__init__","Tally.__init__",36,0,["self","many","begin"],[]),!("likely","Tally.likely",36,1,["self","number"],[]),!("move","Tally.move",36,2,["self","number","up"],["place","level"]),!("__init__","Guesser.__init__",37,0,["self"],[]),!("guess","Guesser.guess",37,1,["self","at"],[]),!("heed","Guesser.heed",37,2,["self","at","came"],[]),!("learn","Guesser.learn",37,3,["self","at","came"],[]),!("lessons","Guesser.lessons",37,4,["self"],[]),!("guess","Always.guess",38,0,["self","at"],[]),!("__init__","Last.__init__",39,0,["self","first"],[]),!("guess","Last.guess",39,1,["self","at"],[]),!("heed","Last.heed",39,2,["self","at","came"],[]),!("__init__","Counts.__init__",40,0,["self","many","begin"],[]),!("guess","Counts.guess",40,1,["self","at"],[]),!("heed","Counts.heed",40,2,["self","at","came"],[]),!("__init__","Paths.__init__",41,0,["self","many","long"],[]),!("guess","Paths.guess",41,1,["self","at"],[]),!("heed","Paths.heed",41,2,["self","at","came"],["longer"]),!("__init__","Listed.__init__",42,0,["self","truths"],[]),!("guess","Listed.guess",42,1,["self","at"],[]),!("__init__","Turned.__init__",43,0,["self","one"],[]),!("guess","Turned.guess",43,1,["self","at"],[]),!("heed","Turned.heed",43,2,["self","at","came"],[]),!("__init__","Chosen.__init__",44,0,["self","one","other","many"],[]),!("guess","Chosen.guess",44,1,["self","at"],[]),!("heed","Chosen.heed",44,2,["self","at","came"],["second"]),!("__init__","Benches.__init__",46,0,["self","table"],[]),!("free","Benches.free",46,1,["self","group"],["there"]),!("start","Benches.start",46,2,["self","ticket","group","turn"],["due"]),!("done","Benches.done",46,3,["self","turn"],["tickets","ticket"]),!("busy","Benches.busy",46,4,["self"],[]),!("throw","Benches.throw",46,5,["self","ticket"],["tickets","other"]),!("__init__","Names.__init__",48,0,["self"],[]),!("fill","Names.fill",48,1,["self","ticket","box"],["other","giver"]),!("giver","Names.giver",48,2,["self","box"],["tickets"]),!("givers","Names.givers",48,3,["self","boxes"],[]),!("throw","Names.throw",48,4,["self","ticket"],["thrown","box","tickets"]),!("__init__","Shelf.__init__",50,0,["self"],[]),!("store","Shelf.store",50,1,["self","ticket"],[]),!("placed","Shelf.placed",50,2,["self","ticket","place"],["known"]),!("bitten","Shelf.bitten",50,3,["self","ticket","place"],["told","other","giver"]),!("worded","Shelf.worded",50,4,["self","ticket","word"],["known"]),!("look","Shelf.look",50,5,["self","ticket","place","dares"],["elder","other","spot","word"]),!("loaded","Shelf.loaded",50,6,["self","ticket","place","giver"],[]),!("leave","Shelf.leave",50,7,["self","ticket"],[]),!("throw","Shelf.throw",50,8,["self","ticket"],["stores","loads","other"]),!("stores","Shelf.stores",50,9,["self"],[]),!("loads","Shelf.loads",50,10,["self"],[]),!("__init__","Slot.__init__",52,0,["self","ticket","at","row","names","put"],[]),!("ready","Slot.ready",52,1,["self"],[]),!("spot","Slot.spot",52,2,["self"],[]),!("slip","Slot.slip",52,3,["self"],["times"]),!("__init__","Window.__init__",53,0,["self","program","at","size","wide","table"],[]),!("at_end","Window.at_end",53,1,["self"],[]),!("slot_of","Window.slot_of",53,2,["self","ticket"],["slot"]),!("enter","Window.enter",53,3,["self"],["row","slot"]),!("give","Window.give",53,4,["self","slot","want","word"],[]),!("place","Window.place",53,5,["self","slot"],["bitten"]),!("throw","Window.throw",53,6,["self","ticket"],["left"]),!("__init__","Ledger.__init__",60,0,["self","stand","guesser","nerve"],[]),!("poke","Ledger.poke",60,1,["self","place","word"],[]),!("__init__","Mill.__init__",75,0,["self","program","stand","size","wide","table","guesser","nerve"],[]),!("turn","Mill.turn",75,1,["self"],["window","told"]),!("turns","Mill.turns",75,2,["self","many"],[]),!("taken","Mill.taken",75,3,["self"],[]),!("inside","Mill.inside",75,4,["self"],[]),!("stand","Mill.stand",75,5,["self"],[]),!("halted","Mill.halted",75,6,["self"],[]),!("refuse_halted","Mill.refuse_halted",75,7,["self"],[]),!("counts","Mill.counts",75,8,["self"],[]),!("poke","Mill.poke",75,9,["self","place","word"],["window"])]
end
def pr:Pr:=⟨Fg,57,[("BITS",.int 64),("BEYOND",.int 18446744073709551616),("WAYS",.tup [.str "sum",.str "less",.str "times",.str "share",.str "rest",.str "both",.str "some",.str "odd",.str "up",.str "down",.str "below",.str "same"]),("GROUPS",.lE [("times",1),("share",2),("rest",2),("load",3),("store",3),("jump",4),("go",4),("fault",4)]),("GREATEST_COUNT",.int 3)],["len","int","min","max","divmod","tuple","list","any","sorted","isinstance","bool","range","enumerate"],[],[],[],[(("slots":Str),[19]),(("size":Str),[19]),(("wide":Str),[19]),(("ahead":Str),[19]),(("chosen":Str),[18]),(("guesser":Str),[20]),(("row":Str),[18]),(("dares":Str),[18]),(("nerve":Str),[20]),(("at":Str),[18]),(("state":Str),[20]),(("names":Str),[18,19]),(("finished":Str),[18]),(("deed":Str),[18]),(("ticket":Str),[18]),(("broken":Str),[20]),(("slips":Str),[20]),(("off":Str),[18]),(("now":Str),[19]),(("shelf":Str),[19]),(("gone":Str),[20]),(("storers":Str),[20]),(("words":Str),[18]),(("source":Str),[18]),(("put":Str),[18]),(("benches":Str),[19]),(("held":Str),[18]),(("started":Str),[18]),(("levels":Str),[6]),(("learned":Str),[7,8,9,10,11,12,13,14]),(("lately":Str),[9]),(("first":Str),[9]),(("tally":Str),[10,11,14]),(("trail":Str),[11]),(("length":Str),[11]),(("truths":Str),[12]),(("one":Str),[13,14]),(("other":Str),[14]),(("working":Str),[15]),(("table":Str),[15]),(("filled":Str),[16]),(("begun":Str),[17]),(("kept":Str),[17]),(("thrown":Str),[19]),(("tickets":Str),[19]),(("program":Str),[19]),(("ledger":Str),[21]),(("window":Str),[21])],[(("at_end":Str),[(19,110)]),(("guess":Str),[(7,61),(8,65),(9,67),(10,70),(11,73),(12,76),(13,78),(14,81)]),(("enter":Str),[(19,112)]),(("give":Str),[(19,113)]),(("slot_of":Str),[(19,111)]),(("slip":Str),[(18,108)]),(("throw":Str),[(15,88),(16,93),(17,102),(19,115)]),(("leave":Str),[(17,101)]),(("learn":Str),[(7,63),(8,63),(9,63),(10,63),(11,63),(12,63),(13,63),(14,63)]),(("done":Str),[(15,86)]),(("ready":Str),[(18,106)]),(("free":Str),[(15,84)]),(("start":Str),[(15,85)]),(("loaded":Str),[(17,100)]),(("look":Str),[(17,99)]),(("spot":Str),[(18,107)]),(("halted":Str),[(21,124)]),(("inside":Str),[(21,122)]),(("poke":Str),[(20,117),(21,127)]),(("turn":Str),[(21,119)]),(("heed":Str),[(7,62),(8,62),(9,68),(10,71),(11,74),(12,62),(13,79),(14,82)]),(("likely":Str),[(6,58)]),(("move":Str),[(6,59)]),(("giver":Str),[(16,91)]),(("bitten":Str),[(17,97)]),(("store":Str),[(17,95)]),(("fill":Str),[(16,90)]),(("givers":Str),[(16,92)]),(("place":Str),[(19,114)]),(("worded":Str),[(17,98)]),(("placed":Str),[(17,96)]),(("refuse_halted":Str),[(21,125)])],[(("Guesser",0),(7,60,[])),(("Chosen",3),(14,80,[])),(("Paths",1),(11,72,[.int 4])),(("Last",0),(9,66,[.bl aG])),(("Turned",1),(13,77,[])),(("Counts",1),(10,69,[.int 1])),(("Listed",1),(12,75,[])),(("Paths",2),(11,72,[])),(("Counts",2),(10,69,[])),(("Last",1),(9,66,[])),(("Always",0),(8,60,[])),(("Mill",7),(21,118,[])),(("Tally",2),(6,57,[])),(("Shelf",0),(17,94,[])),(("Benches",1),(15,83,[])),(("Names",0),(16,89,[])),(("Slot",5),(18,105,[])),(("Ledger",3),(20,116,[])),(("Window",5),(19,109,[]))],[],[("Guesser",[("__init__",60)])],["begun","filled","gone","kept","lately","storers","working"]⟩
theorem oi(n:Nat):Int.ofNat (no_index (KM n):Nat)=(KM n:Int):=rfl
def bq(i:Nat):aQ:=((pr.defs.map pr.bodyOf).getD i (0,0,.nil)).2.2
section
local macro_rules | `(!$n:num)=>`(eX (p:=λt=>t=bq $n) ⟨_,by refine(?f:(_=bq $n)->_) ?e;(case e=>conv=>rhs;reduce;dsimp only[oi]);(case f=>intro h;show type_of% h;kernel_rfl)⟩)
def SD:aQ:=!0
def SG:aQ:=!1
def RW:aQ:=!2
def RK:aQ:=!3
def RN:aQ:=!4
def RM:aQ:=!5
def SH:aQ:=!6
def Tq:aQ:=!7
def QJ:aQ:=!8
def QP:aQ:=!9
def RS:aQ:=!10
def QN:aQ:=!11
def QF:aQ:=!12
def Tc:aQ:=!13
def RL:aQ:=!14
def QH:aQ:=!15
def Td:aQ:=!16
def QL:aQ:=!17
def QR:aQ:=!18
def RV:aQ:=!19
def QQ:aQ:=!20
def RU:aQ:=!21
def QD:aQ:=!22
def RT:aQ:=!23
def RZ:aQ:=!24
def my:aQ:=!25
def RP:aQ:=!26
def SA:aQ:=!27
def SE:aQ:=!28
def QK:aQ:=!29
def Te:aQ:=!30
def QM:aQ:=!31
def RY:aQ:=!32
def RX:aQ:=!33
def mz:aQ:=!34
def RQ:aQ:=!35
def QU:aQ:=!36
def RA:aQ:=!37
def RJ:aQ:=!38
def RH:aQ:=!39
def RD:aQ:=!40
def Tp:aQ:=!41
def RF:aQ:=!42
def QZ:aQ:=!43
def RE:aQ:=!44
def Tn:aQ:=!45
def RG:aQ:=!46
def QY:aQ:=!47
def Tl:aQ:=!48
def RC:aQ:=!49
def Tj:aQ:=!50
def QX:aQ:=!51
def QV:aQ:=!52
def Th:aQ:=!53
def To:aQ:=!54
def Ti:aQ:=!55
def Tf:aQ:=!56
def PN:aQ:=!57
def PQ:aQ:=!58
def PR:aQ:=!59
def NQ:aQ:=!60
def NR:aQ:=!61
def NS:aQ:=!62
def NT:aQ:=!63
def NU:aQ:=!64
def NB:aQ:=!65
def NV:aQ:=!66
def NW:aQ:=!67
def NX:aQ:=!68
def NN:aQ:=!69
def NO:aQ:=!70
def NP:aQ:=!71
def OQ:aQ:=!72
def OR:aQ:=!73
def OS:aQ:=!74
def OA:aQ:=!75
def OB:aQ:=!76
def PU:aQ:=!77
def PV:aQ:=!78
def PX:aQ:=!79
def NK:aQ:=!80
def NL:aQ:=!81
def NM:aQ:=!82
def NC:aQ:=!83
def NH:aQ:=!84
def NI:aQ:=!85
def NG:aQ:=!86
def ND:aQ:=!87
def NJ:aQ:=!88
def OL:aQ:=!89
def OM:aQ:=!90
def ON:aQ:=!91
def OO:aQ:=!92
def OP:aQ:=!93
def OT:aQ:=!94
def PB:aQ:=!95
def OZ:aQ:=!96
def OU:aQ:=!97
def PF:aQ:=!98
def OY:aQ:=!99
def OW:aQ:=!100
def OV:aQ:=!101
def PD:aQ:=!102
def PC:aQ:=!103
def OX:aQ:=!104
def PH:aQ:=!105
def PJ:aQ:=!106
def PM:aQ:=!107
def PL:aQ:=!108
def Ta:aQ:=!109
def PY:aQ:=!110
def QB:aQ:=!111
def vx:aQ:=!112
def Tb:aQ:=!113
def PZ:aQ:=!114
def QC:aQ:=!115
def NY:aQ:=!116
def NZ:aQ:=!117
def OC:aQ:=!118
def OJ:aQ:=!119
def OK:aQ:=!120
def OI:aQ:=!121
def OF:aQ:=!122
def OH:aQ:=!123
def OE:aQ:=!124
def OG:aQ:=!125
def OD:aQ:=!126
def Sz:aQ:=!127
end
def Hn:List (Nat×Nat×aQ):=[(1,1,SD),(1,1,SG),(2,2,RW),(1,1,RK),(2,2,RN),(2,2,RM),(3,3,SH),(1,2,Tq),(1,2,QJ),(1,1,QP),(2,2,RS),(3,3,QN),(3,5,QF),(3,4,Tc),(5,6,RL),(2,3,QH),(2,3,Td),(3,6,QL),(2,2,QR),(2,2,RV),(2,2,QQ),(3,3,RU),(2,6,QD),(3,3,RT),(2,4,RZ),(3,3,my),(3,3,RP),(2,2,SA),(2,2,SE),(2,4,QK),(3,3,Te),(3,6,QM),(2,3,RY),(3,4,RX),(3,5,mz),(1,1,RQ),(2,2,QU),(2,2,RA),(1,3,RJ),(3,8,RH),(4,7,RD),(5,11,Tp),(4,8,RF),(2,3,QZ),(2,5,RE),(3,7,Tn),(2,5,RG),(2,5,QY),(1,4,Tl),(1,2,RC),(2,3,Tj),(1,1,QX),(2,4,QV),(4,9,Th),(4,11,To),(2,4,Ti),(1,12,Tf),(3,3,PN),(2,2,PQ),(3,5,PR),(1,1,NQ),(2,2,NR),(3,3,NS),(3,3,NT),(1,1,NU),(2,2,NB),(2,2,NV),(2,2,NW),(3,3,NX),(3,3,NN),(2,2,NO),(3,3,NP),(3,3,OQ),(2,2,OR),(3,4,OS),(2,2,OA),(2,2,OB),(2,2,PU),(2,2,PV),(3,3,PX),(4,4,NK),(2,2,NL),(3,4,NM),(2,2,NC),(2,3,NH),(4,5,NI),(2,4,NG),(1,1,ND),(2,4,NJ),(1,1,OL),(3,5,OM),(2,3,ON),(2,2,OO),(2,5,OP),(1,1,OT),(2,2,PB),(3,4,OZ),(3,6,OU),(3,4,PF),(4,8,OY),(4,4,OW),(2,2,OV),(2,5,PD),(1,1,PC),(1,1,OX),(6,6,PH),(1,1,PJ),(1,1,PM),(1,2,PL),(6,6,Ta),(1,1,PY),(2,3,QB),(1,3,vx),(4,4,Tb),(2,3,PZ),(2,3,QC),(4,4,NY),(3,3,NZ),(8,8,OC),(1,3,OJ),(2,2,OK),(1,1,OI),(1,1,OF),(1,1,OH),(1,1,OE),(1,1,OG),(1,1,OD),(3,4,Sz)]
noncomputable abbrev pg:Pg:=λi=>Hn[i]?
theorem y6:pr.ir=pg:=by
 have e:pr.defs.map pr.bodyOf=Hn:=by kernel_rfl
 funext i
 show(pr.defs[i]?).map pr.bodyOf=Hn[i]?;rw[<- e,fR]
end AMx
open AM
namespace AMx
open PySem PySem.Spec PyProof.Rows L2 AM
variable {B C N:aF->AH->Prop}{F:AM.Run}{G G':Nat->Nat->Int->Prop}{K':Nat->WS}{L d fa gu i j n n1 np nr nv:Nat}{Q R V1:AV->AH->Prop}{S:WT}{T a b bG e now p pc room tk u v w w1 x y:Int}{a0 a2 a3 a4 fnd held t3:AV}{bb dr:Bool}{h h' h2:AH}{kd:Nat->Nat}{kvs:List (aN×AV)}{l ls ns ts ws:WK}{o o':bC}{r row:aM}{rs:List aM}{ss:aQ}{tb:Wk}{v10 v7 v8:Ws}{w0:Ft}{xs:Fu}{Z:aF}
theorem aS{k f nn:Nat}{b:aQ}{args:Fu}(e:pg f=aA (np,nn,b))(hl:args.length=np)(w:dU (run pg k) b (args.map aA++eO (nn-np) aD) h (λ_ h1=>R .aH h1) R (λ_ _=>False) (λ_ _=>False)):WC (run pg (k+1) f args) h R:=WC.of (aPm e hl w)
def oI:Ft->AV
 |none=>.aH
 |some i=>.int i
structure eP where
 tk:Int
 pc:Int
 row:aM
 aX:WY
 ch:Int
 dr:Bool
 src:Ft
 dZ:Ft
 dd:AV
 put:Int
 st:Ft
 fi:Ft
 of:Ft
def eP.fs(s:eP)(w:Nat):WR:=[("ticket",.int s.tk),("at",.int s.pc),("row",s.row.av),("names",.tup (s.aX.map oI)),("words",.ref w),("chosen",.int s.ch),("dares",.bl s.dr),("source",oI s.src),("held",oI s.dZ),("deed",s.dd),("put",.int s.put),("started",oI s.st),("finished",oI s.fi),("off",oI s.of)]
def eP.gB(s:eP):AV:=.tup [.int s.tk,.int s.pc,.tup (s.aX.map oI),oI s.src,s.dd,.tup [.int s.put,oI s.st,oI s.fi,oI s.of]]
theorem Lz{k w:Nat}{s:eP}(o:h.ob n=aA (.ins 18<|s.fs w))(q:R s.gB h):WC (run pg (k+1) 108 [.ref n]) h R:=by
 refine aS rfl rfl ?_;repeat refine aC.of o ?_
 exact q
section
variable {k:Nat}
theorem Bh{z:Int}(q:R (.int<|z%18446744073709551616) h):WC (run pg (k+1) 1 [.int z]) h R:=aS rfl rfl q
theorem Zy{z:Int}(z0:0<=z)(q:R (.bl<|decide<|z<64) h):WC (run pg (k+1) 3 [.int z]) h R:=aS rfl rfl (aE.dt z0 q)
theorem aMj(a0:0<=a)(a1:a<18446744073709551616)(b0:0<=b)(q:R (.int<|eH.wk a b .up) h):WC (run pg (k+2) 4 [.int a,.int b]) h R:=by
 refine aS rfl rfl<|Zy b0<|aE.dc (λc=>?_) λc=>?_
 .unfold eH.wk at q;simp only[AY c]at q;exact WC.of<|HJ (CH a0 a1 b0 (by omega))<|Bh q
 .unfold eH.wk at q;simp only[aMi c]at q;exact q
theorem VP(a0:0<=a)(a1:a<18446744073709551616)(b0:0<=b)(q:R (.int<|eH.wk a b .down) h):WC (run pg (k+2) 5 [.int a,.int b]) h R:=by
 refine aS rfl rfl<|Zy b0<|aE.dc (λc=>?_) λc=>?_
 .unfold eH.wk at q;simp only[AY c]at q;exact WC.of<|aOd b0 q
 .unfold eH.wk at q;simp only[VO c a0 a1]at q;exact q
theorem EZ(b0:0<b)(b1:b<18446744073709551616)(q:R (.tup [.int (a / b),.int (a%b)]) h):WC (run pg (k+1) 2 [.int a,.int b]) h R:=
 aS rfl rfl (aE.df (by omega)<|WC.of<|aNg (VL b0 b1) q)
theorem aOs{w:eH}(a0:0<=a)(a1:a<18446744073709551616)(b0:0<=b)(b1:b<18446744073709551616)(hz:¬(w.sr=aB/\b=0))(q:R (.int<|w.wk a b) h):WC (run pg (k+3) 6 [.str w.nm,.int a,.int b]) h R:=by
 refine aS rfl rfl ?_;cases w with
 |sum=>exact Bh q|less=>exact Bh q|times=>exact aE.t (by unfold qZ;rw[decide_eq_true (show a.natAbs<2 ^ 64 by omega)];rfl)<|Bh q|share=>exact EZ (k:=k+1) (by rcases Oo b0 with e|e;exact e;exact absurd ⟨rfl,e.symm⟩ hz) b1 q|rest=>exact EZ (k:=k+1) (by rcases Oo b0 with e|e;exact e;exact absurd ⟨rfl,e.symm⟩ hz) b1 q|both=>exact WC.of<|aNe q|su=>exact WC.of<|aNf q|odd=>exact WC.of<|Nf q|up=>exact aMj a0 a1 b0 q|down=>exact VP a0 a1 b0 q|below=>exact aE.dc (λhc=>by rw[show eH.wk a b .below=1 from if_pos hc]at q;exact q) λhc=>by rw[show eH.wk a b .below=0 from if_neg hc]at q;exact q
 |same=>exact aE.dc (λhc=>by rw[show eH.wk a b .same=1 from if_pos hc]at q;exact q) λhc=>by rw[show eH.wk a b .same=0 from if_neg hc]at q;exact q
theorem BC(w:eH):¬(w.nm=("load":cW)):=by cases w<;>decide
theorem BD(w:eH):¬(w.nm=("store":cW)):=by cases w<;>decide
theorem Iy(w:eH):¬(w.nm=("jump":cW)):=by cases w<;>decide
theorem K0(w:eH):¬(w.nm=("go":cW)):=by cases w<;>decide
theorem J9(w:eH):¬(w.nm=("fault":cW)):=by cases w<;>decide
theorem Bg{x y:AV}(e:dS h y=aA xs)(f:(jB x&&xs.all jB)=aB)(n:gU x xs=aB)(q:V1 (.bl aB) h):WC (Cp.g .fw x y) h V1:=WC.of (Nk e f<|n.symm▸q)
theorem uc{x y:AV}(e:dS h y=aA xs)(f:(jB x&&xs.all jB)=aB)(n:gU x xs=aG)(q:V1 (.bl aG) h):WC (Cp.g .fw x y) h V1:=WC.of (Nk e f<|n.symm▸q)
abbrev pC:Fu:=[.str "sum",.str "less",.str "times",.str "share",.str "rest",.str "both",.str "some",.str "odd",.str "up",.str "down",.str "below",.str "same"]
theorem Iw(w:eH):gU (.str w.nm) pC=aB:=by cases w<;>rfl
theorem Jf:gU (.str "set") pC=aG:=by decide +kernel
theorem Je:gU (.str "move") pC=aG:=by decide +kernel
theorem Jd:gU (.str "load") pC=aG:=by decide +kernel
theorem Jg:gU (.str "store") pC=aG:=by decide +kernel
theorem Jc:gU (.str "jump") pC=aG:=by decide +kernel
theorem Jb:gU (.str "go") pC=aG:=by decide +kernel
theorem Ja:gU (.str "fault") pC=aG:=by decide +kernel
def bK:aQ->aQ
 |.cons _ t=>t
 |.nil=>.nil
theorem ag{z:Str}{l:Fu}(e:cJ l 0=aA (.str z))(n:gU (.str z) pC=aG)(q:dU (run pg k) (bK<|bK Tq) [aA (.tup l),aA (.str z)] h (λ_ h1=>R .aH h1) R (λ_ _=>False) (λ_ _=>False)):WC (run pg (k+1) 7 [.tup l]) h R:=aS rfl rfl (aC.of e<|uc rfl rfl n q)
theorem HC(q:R (.tup<|r.fF.map .int) h):WC (run pg (k+1) 7 [r.av]) h R:=by
 cases r with
 |way w x y z=>exact aS rfl rfl<|Bg rfl rfl (Iw w) q|set=>exact ag rfl Jf q|move=>exact ag rfl Je q|load=>exact ag rfl Jd q|store=>exact ag rfl Jg q|fW=>exact ag rfl Jc q|go=>exact ag rfl Jb q|fault=>exact ag rfl Ja q
abbrev FG:Fu:=[.str "set",.str "move",.str "load"]
theorem Fy{z:Str}{v:AV}{l:Fu}(e:cJ l 0=aA (.str z))(n:gU (.str z) pC=aG)(m:gU (.str z) FG=aB)(d:cJ l 1=aA v)(q:R v h):WC (run pg (k+1) 8 [.tup l]) h R:=aS rfl rfl (aC.of e<|uc rfl rfl n<|Bg rfl rfl m<|aC.of rfl<|aC.of d q)
theorem xp{z:Str}{l:Fu}(e:cJ l 0=aA (.str z))(n:gU (.str z) pC=aG)(m:gU (.str z) FG=aG)(q:R .aH h):WC (run pg (k+1) 8 [.tup l]) h R:=aS rfl rfl (aC.of e<|uc rfl rfl n<|uc rfl rfl m q)
theorem Fz(q:R r.fl h):WC (run pg (k+1) 8 [r.av]) h R:=by
 cases r with
 |way w x y z=>exact aS rfl rfl<|Bg rfl rfl (Iw w) q|set=>exact Fy rfl Jf rfl rfl q|move=>exact Fy rfl Je rfl rfl q|load=>exact Fy rfl Jd rfl rfl q|store=>exact xp rfl Jg rfl q|fW=>exact xp rfl Jc rfl q|go=>exact xp rfl Jb rfl q|fault=>exact xp rfl Ja rfl q
end
section
variable {k:Nat}
theorem Jp(hl:ws.length=r.nw)(q:R (r.pl ws) h):WC (run pg (k+1) 10 [r.av,.tup (ws.map .int)]) h R:=by
 refine aS rfl rfl ?_;cases r with
 |way w x y z=>exact aE.df (BC w)<|aE.df (BD w) q|load x y s=>obtain⟨a,rfl⟩:=qo hl;exact q|store x y s=>obtain⟨a,b,rfl⟩:=qp hl;exact q|_=>exact q
theorem p5(q:R (.int r.cA) h):WC (run pg (k+1) 9 [r.av]) h R:=by
 refine aS rfl rfl<|WC.of<|aPb<|cF _ ⟨_,rfl,nJ _ ?_⟩;cases r with
 |way w x y z=>exact⟨_,_,rfl,by cases w<;>exact q⟩|_=>exact⟨_,_,rfl,q⟩
theorem Yz{mem:WK}(q:R (.bl<|decide<|0<=p/\p<mem.length) h):WC (run pg (k+1) 20 [.int p,.tup (mem.map .int)]) h R:=by
 refine aS rfl rfl<|aE.dc (λa=>?_) λa=>?_
 .have e:decide (0<=p/\p<(mem.length:Int))=decide (p<((mem.map AV.int).length:Int)):=by rw[aR];exact decide_eq_decide.mpr ⟨λz=>z.2,λz=>⟨a,z⟩⟩
  rw[e]at q;exact q
 .rw[decide_eq_false λz=>a z.1]at q;exact q
end
section
variable {k:Nat}
theorem K5{w:eH}(h:w.sr=aG):¬(w.nm=("share":cW)):=by cases w<;>first|decide|cases h
theorem K4{w:eH}(h:w.sr=aG):¬(w.nm=("rest":cW)):=by cases w<;>first|decide|cases h
theorem aJa(w:eH):w = .share\/w = .rest\/w.sr=aG:=by cases w<;>simp[eH.sr]
theorem b9(hl:ws.length=r.nw)(q:R ((r.ft ws room).getD .aH) h):WC (run pg (k+2) 12 [r.av,.tup (ws.map .int),.int room]) h R:=by
 have hpl:∀{R:AV->AH->Prop},R (r.pl ws) h->WC (run pg (k+1) 10 [r.av,.tup (ws.map .int)]) h R:=λq=>Jp hl q;refine aS rfl rfl ?_;cases r with
 |load x y s=>
  obtain⟨a,rfl⟩:=qo hl;refine hpl<|aE.dc (λh0=>aE.nd (λh1=>?_) λh1=>?_) λh0=>?_
  .rw[show aM.ft [a] room (.load x y s)=aA _ from if_neg λz=>h1 z.2]at q;exact q
  .rw[show aM.ft [a] room (.load x y s)=aD from if_pos ⟨h0,h1⟩]at q;exact q
  .rw[show aM.ft [a] room (.load x y s)=aA _ from if_neg λz=>h0 z.1]at q;exact q
 |store x y s=>
  obtain⟨a,b,rfl⟩:=qp hl;refine hpl<|aE.dc (λh0=>aE.nd (λh1=>?_) λh1=>?_) λh0=>?_
  .rw[show aM.ft [a,b] room (.store x y s)=aA _ from if_neg λz=>h1 z.2]at q;exact q
  .rw[show aM.ft [a,b] room (.store x y s)=aD from if_pos ⟨h0,h1⟩]at q;exact q
  .rw[show aM.ft [a,b] room (.store x y s)=aA _ from if_neg λz=>h0 z.1]at q;exact q
 |way w x y z=>
  obtain⟨a,b,rfl⟩:=qp hl;refine aE.df (J9 w) ?_;rcases aJa w with rfl|rfl|hs
  .refine aE.dc (λhc=>?_) λhc=>hpl ?_
   .rw[show aM.ft [a,b] room (.way .share x y z)=aA _ from if_pos hc]at q;exact q
   .rw[show aM.ft [a,b] room (.way .share x y z)=aD from if_neg hc]at q;exact q
  .refine aE.dc (λhc=>?_) λhc=>hpl ?_
   .rw[show aM.ft [a,b] room (.way .rest x y z)=aA _ from if_pos hc]at q;exact q
   .rw[show aM.ft [a,b] room (.way .rest x y z)=aD from if_neg hc]at q;exact q
  .simp only[aM.ft,hs]at q;exact aE.df (K5 hs)<|aE.df (K4 hs)<|hpl q
 |fault v=>exact q|_=>exact hpl q
end
section
variable {k:Nat}
theorem Yp(hl:∀x t,r = .fW x t->ws.length=1)(q:R (.int<|r.gs a ws) h):WC (run pg (k+1) 11 [r.av,.int a,.tup (ws.map .int)]) h R:=by
 refine aS rfl rfl ?_;cases r with
 |way w x y z=>exact aE.df (K0 w)<|aE.df (Iy w) q|fW x t=>obtain⟨b,rfl⟩:=qo (hl _ _ rfl);exact aE.nd (λc=>by rw[show aM.gs a [b] (.fW x t)=t from if_pos c]at q;exact q) λc=>by rw[show aM.gs a [b] (.fW x t)=a+1 from if_neg λz=>z c]at q;exact q
 |_=>exact q
end
section
variable {k:Nat}
theorem yI{z:Str}{l:Fu}{u v:AV}(e:cJ l 0=aA (.str z))(n:gU (.str z) pC=aG)(q:dU (run pg k) (bK<|bK Tc) [aA (.tup l),aA u,aA v,aA (.str z)] h (λ_ h1=>R .aH h1) R (λ_ _=>False) (λ_ _=>False)):WC (run pg (k+1) 13 [.tup l,u,v]) h R:=aS rfl rfl (aC.of e<|uc rfl rfl n q)
theorem SV(hl:ws.length=r.nw)(hw:kT ws)(hf:∀w x y z,r = .way w x y z->¬(w.sr=aB/\cell ws 1=0))(q:R (r.br ws held) h):WC (run pg (k+4) 13 [r.av,.tup (ws.map .int),held]) h R:=by
 cases r with
 |way w x y z=>obtain⟨a,b,rfl⟩:=qp hl;have c:=hw a (by simp);have d:=hw b (by simp);exact aS rfl rfl<|Bg rfl rfl (Iw w)<|aOs c.1 c.2 d.1 d.2 (hf w x y z rfl) q
 |set=>exact yI rfl Jf q|move=>obtain⟨a,rfl⟩:=qo hl;exact yI rfl Je q|load=>exact yI rfl Jd q|store=>obtain⟨a,b,rfl⟩:=qp hl;exact yI rfl Jg q|fW=>exact yI rfl Jc q|go=>exact yI rfl Jb q|fault=>exact yI rfl Ja q
theorem i9{w:eH}{z:Int}(h:(aM.way w x y z).ft ws room=aD):¬(w.sr=aB/\cell ws 1=0):=by
 rintro ⟨a,b⟩
 simp[aM.ft,a,b]at h
theorem xt{f:AV}(e:r.ft ws room=aA f):∃xs,f = .tup xs:=by
 cases r<;>simp only[aM.ft]at e<;>first
  | (cases e;done)
  | (cases e;exact⟨_,rfl⟩)
  | (split at e<;>cases e<;>exact⟨_,rfl⟩)
  |skip
 rename_i w x y z;cases a:w.sr with
 |true=>rw[a]at e;simp only[cond]at e;split at e<;>cases e;exact⟨_,rfl⟩|false=>rw[a]at e;cases e
theorem E5(hl:ws.length=r.nw)(hw:kT ws)(q:R (r.fg a ws room held) h):WC (run pg (k+5) 14 [r.av,.int a,.tup (ws.map .int),.int room,held]) h R:=by
 refine aS rfl rfl<|b9 hl ?_;unfold aM.fg at q;cases e:r.ft ws room with
 |some f=>rw[e]at q;obtain⟨xs,rfl⟩:=xt e;exact q
 |none=>rw[e]at q;exact Fz<|Jp hl<|SV hl hw (λw x y z b=>by subst b;exact i9 e)<|Yp (λx t b=>by subst b;exact hl) q
end
section
variable {k:Nat}
theorem aIy{w:Nat}{s:eP}(o:h.ob n=aA (.ins 18<|s.fs w))(ow:h.ob w=aA (.lst aB<|ws.map AV.int))(hl:ws.length=s.row.nw)(q:R (s.row.pl ws) h):WC (run pg (k+2) 107 [.ref n]) h R:=by refine aS rfl rfl ?_;exact aC.of o<|aC.of o<|WC.of<|xD (cH ow)<|Jp (k:=k) hl q
theorem aHr{w g:Nat}{s:eP}(o:h.ob n=aA (.ins 18<|s.fs w))(hj:∀x t,s.row ≠ .fW x t)(q:R (.int<|s.row.gs s.pc []) h):WC (run pg (k+2) 19 [.ref n,.ref g]) h R:=by
 obtain⟨tk,pc,r,aX,ch,dr,src,dZ,dd,pt,st,fi,of⟩:=s;have a:WC (run pg (k+1) 11 [r.av,.int pc,.tup []]) h R:=Yp (ws:=[]) (λx t e=>absurd e (hj x t)) q;refine aS rfl rfl ?_;refine aC.of o ?_;cases r with
 |fW x t=>exact absurd rfl<|hj x t|way ww x y z=>refine aE.df (Iy ww) ?_;refine aC.of o ?_;refine aC.of o ?_;exact a|_=>refine aC.of o ?_;refine aC.of o ?_;exact a
theorem MY{fs:List (cW×AV)}(o:h.ob n=aA (.ins 19 fs))(e1:fs.lookup ("ahead":cW)=aA (AV.int a))(e2:fs.lookup ("program":cW)=aA (AV.ref np))(op:h.ob np=aA (.lst aB xs))(q:R (.bl<|decide<|(xs.length:Int)<=a) h):WC (run pg (k+1) 110 [.ref n]) h R:=by refine aS rfl rfl ?_;refine aC.of o ?_;refine aC.of e1 ?_;refine aC.of o ?_;exact aC.of e2<|WC.of<|kR (cH op) q
end
section
variable {k:Nat}
theorem aIl{pt:Int}{aX:WY}(o:h.ob n=aA (.ins 18 []))(hn:n<h.nx)(hl:aX.length<=2)
  (q:∀h',h'.nx=h.nx+2->h'.ob n=aA (.ins 18<|eP.fs ⟨tk,pc,r,aX,pc+1,aG,aD,aD,.aH,pt,aD,aD,aD⟩<|h.nx+1)->h'.ob (h.nx+1)=aA (.lst aB<|eO aX.length .aH)->(∀m,m≠n->m<h.nx->h'.ob m=h.ob m)->R .aH h') :
  WC (run pg (k+1) 105 [.ref n,.int tk,.int pc,r.av,.tup (aX.map oI),.int pt]) h R:=by
 have l1:(0:Int)<=((aX.map oI).length:Int):=by omega
 have l2:[AV.aH].length*((aX.map oI).length:Int).toNat<=sizeLine:=by
  have e:(sizeLine:Nat) > 1000:=by decide
  rw[aR];simp only[eK,Ca,oG];omega
 have l3:((aX.map oI).length:Int)<2 ^ 63:=by rw[aR];omega
 refine aS rfl rfl ?_;refine aC.of o ?_;refine aC.of bP ?_;refine aC.of bP ?_;refine aC.of bP ?_;refine WC.of<|HI bJ l1 l2 l3 ?_;refine aC.of rfl ?_;refine aC.of rfl ?_;refine aC.of (Eq.trans (eA<|show n≠_ from λe=>?a)<|Eq.trans (eA<|show n≠_ from λe=>?b) bP) ?_
 case a=>have:n=h.nx+1:=e;omega
 case b=>have:n=h.nx:=e;omega
 refine aC.of bP ?_;refine aC.of bP ?_;refine aC.of bP ?_;refine aC.of bP ?_;refine aC.of bP ?_;refine aC.of bP ?_;refine aC.of bP ?_;refine aC.of bP ?_;refine aC.of bP ?_;refine q _ rfl bP ?_ λm hm hx=>?_
 .repeat rw[bL (show h.nx+1≠n by omega)]
  refine bJ.trans ?_;rw[aR,oG,JG]
 .repeat rw[bL hm]
  rw[eA (show m≠_ from λe=>by have:m=h.nx+1:=e;omega),eA (show m≠_ from λe=>by have:m=h.nx:=e;omega)];repeat rw[bL hm]
end
section
variable {k:Nat}
theorem f7(vs:WY):(vs.map oI).all jB=aB:=by rw[List.all_map,IS];intro v _;cases v<;>rfl
theorem J6(vs:WY):(!gU .aH (vs.map oI))=vs.all xN:=by
 induction vs with
 |nil=>rfl|cons v vs a=>have e:gU .aH ((v::vs).map oI)=(Fs (oI v) .aH||gU .aH (vs.map oI)):=rfl;rw[e,Bool.not_or,a];cases v<;>rfl
theorem aHg{w:Nat}{s:eP}{vs:WY}(o:h.ob n=aA (.ins 18<|s.fs w))(ow:h.ob w=aA (.lst aB<|vs.map oI))(q:R (.bl<|vs.all xN) h):WC (run pg (k+1) 106 [.ref n]) h R:=by rw[<- J6]at q;refine aS rfl rfl ?_;exact aC.of o<|WC.of<|aOa (cH ow) (by rw[f7];rfl) q
end
section
variable {k:Nat}
theorem z8{i:Int}(hn:0<n):∃j,jM n (i%(n:Int))=aA j/\j<n:=by have h0:0<=i%n:=mC _ (by lia);have a:i%n<n:=mQ _ (by lia);refine⟨(i%n).toNat,?_,by lia⟩;unfold jM;simp only[h0,a,if_true]
structure vR(h:AH)(t l:Nat)(ls:WK):Prop where
 ob:h.ob t=aA (.ins 6 [("levels",.ref l)])
 lv:h.ob l=aA (.lst aB<|ls.map AV.int)
 pos:0<ls.length
theorem vR.len{t l:Nat}(T:vR h t l ls):(0:Int)<((ls.map AV.int).length:Int):=by rw[aR];have:=T.pos;omega
theorem vR.at{t l:Nat}(T:vR h t l ls){i:Int}:cJ (ls.map AV.int) (i%((ls.map AV.int).length:Int))=aA (.int<|cell ls<|i%((ls.map AV.int).length:Int)):=
 mn (mC _ (by have:=T.len;lia)) (mQ _ T.len)
theorem Hw{t l:Nat}{i:Int}(T:vR h t l ls)(q:∀b,R (.bl b) h):WC (run pg (k+1) 58 [.ref t,.int i]) h R:=by refine aS rfl rfl ?_;refine aC.of T.ob<|aC.of T.ob ?_;refine WC.of<|kR (cH T.lv) ?_;refine aE.dt T.len ?_;exact WC.of<|eU (cH T.lv) T.at<|WC.of<|Nk rfl rfl<|q _
theorem Ik{t l:Nat}{i:Int}{b:Bool}(T:vR h t l ls)(q:∀AO:WK,0<AO.length->R .aH (h.put l<|.lst aB<|AO.map AV.int)):WC (run pg (k+1) 59 [.ref t,.int i,.bl b]) h R:=by
 obtain⟨j,hj,_⟩:=z8 (i:=i) (n:=(ls.map AV.int).length) (by rw[aR];exact T.pos);have fin:∀c:Int,WC (nX (.ref l) (.int<|i%((ls.map AV.int).length:Int))<|.int c) h λ_ h3=>R .aH h3:=λc=>by refine ue T.lv hj ?_;have:=q (ls.set j c) (by rw[nL];exact T.pos);rw[jx]at this;exact this
 refine aS rfl rfl ?_;refine aC.of T.ob ?_;refine WC.of<|kR (cH T.lv) ?_;refine aE.dt T.len ?_;refine aC.of T.ob ?_;refine WC.of<|eU (cH T.lv) T.at ?_;refine aE.by (λe=>?_) λe=>?_
 .exact aC.of T.ob<|fin _
 .exact aC.of T.ob<|fin _
end
section
variable {K:Nat->WS}{c c':Nat}
inductive Go(K:Nat->WS)(c:Nat):Nat->bC->Prop
 |ta {l:Nat} (e:K l=aA 1):Go K c 0 (.ins 6 [("levels",.ref l)])
 |lv {ls:WK} (p:0<ls.length):Go K c 1 (.lst aB<|ls.map AV.int)
 |tr {bs:Wq}:Go K c 2 (.lst aB<|bs.map AV.bl)
 |dc {kvs:List (aN×AV)} (hb:∀j v,bR kvs j=aA v->∃b,v = .bl b) (hc:kvs.length<=c):Go K c 3 (.aP kvs)
 |pl {d:Nat}{i:Int}:Go K c (d+4) (.ins 7 [("learned",.int i)])
 |al {d:Nat}{i:Int}:Go K c (d+4) (.ins 8 [("learned",.int i)])
 |la {d m:Nat}{i:Int}{f:Bool} (e:K m=aA 3):Go K c (d+4) (.ins 9 [("learned",.int i),("first",.bl f),("lately",.ref m)])
 |co {d t:Nat}{i:Int} (e:K t=aA 0):Go K c (d+4) (.ins 10 [("learned",.int i),("tally",.ref t)])
 |pa {d t:Nat}{i g x:Int} (e:K t=aA 0) (g0:0<=g/\g<16) (x0:0<=x/\x<65536):Go K c (d+4) (.ins 11 [("learned",.int i),("tally",.ref t),("length",.int g),("trail",.int x)])
 |li {d l:Nat}{i:Int} (e:K l=aA 2):Go K c (d+4) (.ins 12 [("learned",.int i),("truths",.ref l)])
 |tu {d m:Nat}{i:Int} (e:K m=aA (d+4)):Go K c (d+5) (.ins 13 [("learned",.int i),("one",.ref m)])
 |ch {d m m' t:Nat}{i:Int} (e:K m=aA (d+4)) (e':K m'=aA (d+4)) (f:K t=aA 0):Go K c (d+5) (.ins 14 [("learned",.int i),("one",.ref m),("other",.ref m'),("tally",.ref t)])
theorem Go.up{t:Nat}(z:Go K c t o)(hc':c<=c')(hk:∀m s,K m=aA s->K' m=aA s):Go K' c' t o:=by
 cases z with
 |ta e=>exact .ta<|hk _ _ e|lv p=>exact .lv p|tr=>exact .tr|dc hb a=>exact .dc hb<|dR a hc'|pl=>exact .pl|al=>exact .al|la e=>exact .la<|hk _ _ e|co e=>exact .co<|hk _ _ e|pa e b x0=>exact .pa (hk _ _ e) b x0|li e=>exact .li<|hk _ _ e|tu e=>exact .tu<|hk _ _ e|ch e d f=>exact .ch (hk _ _ e) (hk _ _ d)<|hk _ _ f
noncomputable abbrev xi:WQ:=[(7,61),(8,65),(9,67),(10,70),(11,73),(12,76),(13,78),(14,81)]
noncomputable abbrev VQ:WQ:=[(7,62),(8,62),(9,68),(10,71),(11,74),(12,62),(13,79),(14,82)]
noncomputable abbrev xj:WQ:=[(7,63),(8,63),(9,63),(10,63),(11,63),(12,63),(13,63),(14,63)]
inductive Rz(K:Nat->WS)(c t:Nat):bC->Prop
 |mk {cl:Nat}{i:Int}{fs:WR} (a:[7,8,9,10,11,12,13,14].contains cl=aB) (b:xj.lookup cl=aA 63) (e:(rL ("learn":Str)<|("learned",.int i)::fs).isNone=aB) (l:decide (((("learned",.int i):Str×AV)::fs).length<1000)=aB) (g:∀j,Go K c t (.ins cl<|("learned",.int j)::fs)):Rz K c t (.ins cl<|("learned",.int i)::fs)
theorem Go.top(z:Go K c (d+4) o):Rz K c (d+4) o:=by
 cases z with
 |pl=>exact⟨rfl,rfl,rfl,rfl,λ_=>.pl⟩|al=>exact⟨rfl,rfl,rfl,rfl,λ_=>.al⟩|la e=>exact⟨rfl,rfl,rfl,rfl,λ_=>.la e⟩|co e=>exact⟨rfl,rfl,rfl,rfl,λ_=>.co e⟩|pa e a x0=>exact⟨rfl,rfl,rfl,rfl,λ_=>.pa e a x0⟩|li e=>exact⟨rfl,rfl,rfl,rfl,λ_=>.li e⟩|tu e=>exact⟨rfl,rfl,rfl,rfl,λ_=>.tu e⟩|ch e b f=>exact⟨rfl,rfl,rfl,rfl,λ_=>.ch e b f⟩
def TH(K:Nat->WS)(c:Nat)(h:AH):Prop:=∀n t,K n=aA t->∃o,h.ob n=aA o/\Go K c t o
def Kl(K:Nat->WS)(h:AH):Prop:=∀n t,K n=aA t->n<h.nx
theorem Kl.up(l:Kl K h)(e:h.nx<=h'.nx):Kl K h':=λn t z=>bF (l n t z) e
theorem Kl.no(l:Kl K h)(e:h.nx<=n):K n=aD:=by
 cases z:K n with
 |none=>rfl|some t=>exact absurd (l n t z)<|Nat.not_lt.mpr e
theorem TH.kp(T:TH K c h)(l:Kl K h)(k:Kp h h'):TH K c h':=λn t e=>(T n t e).imp λ_ z=>⟨k.get (l n t e) z.1,z.2⟩
theorem TH.le(T:TH K c h)(z:c<=c'):TH K c' h:=λn t e=>(T n t e).imp λ_ y=>⟨y.1,y.2.up z λ_ _ w=>w⟩
theorem TH.put(T:TH K c h){n t:Nat}{o:bC}(e:K n=aA t)(z:Go K c t o):TH K c (h.put n o):=λm u f=>by
 by_cases hm:m=n
 .subst hm;cases e.symm.trans f;exact⟨_,bP,z⟩
 .rw[bL hm];exact T m u f
theorem TH.ja(T:TH K c h){t:Nat}(e:K t=aA 0):∃l ls,vR h t l ls/\K l=aA 1:=by
 obtain⟨_,o,z⟩:=T t 0 e;cases z with
 |ta f=>
  obtain⟨_,p,z⟩:=T _ 1 f;cases z with
  |lv w=>exact⟨_,_,⟨o,p,w⟩,f⟩
theorem MM{m t u:Nat}(e:K n=aA t)(f:K m=aA u)(z:t≠u):n≠m:=λw=>z (dJ<|(w▸e).symm.trans f)
structure Kk(K:Nat->WS)(b:Nat)(h h':AH):Prop where
 nx:h.nx<=h'.nx
 ob:∀m,m<h.nx->(∀t,K m=aA t->b<t)->h'.ob m=h.ob m
theorem Kk.of{b:Nat}(k:Kp h h'):Kk K b h h':=⟨k.nx,λm hm _=>k.ob m hm⟩
theorem Kk.trans{b:Nat}{x y z:AH}(p:Kk K b x y)(q:Kk K b y z):Kk K b x z:=⟨dR p.nx q.nx,λm hm z=>(q.ob m (bF hm p.nx) z).trans (p.ob m hm z)⟩
theorem Kk.put{b n t:Nat}{o:bC}{x y:AH}(p:Kk K b x y)(e:K n=aA t)(z:t<=b):Kk K b x (y.put n o):=⟨p.nx,λm hm w=>(bL λv=>absurd (w t (by rw[v];exact e)) (Nat.not_lt.mpr z)).trans (p.ob m hm w)⟩
theorem Kk.le{b b':Nat}(p:Kk K b h h')(z:b<=b'):Kk K b' h h':=⟨p.nx,λm hm w=>p.ob m hm λt e=>jz z (w t e)⟩
theorem MW{bs:Wq}{i:Int}(h0:0<=i)(h1:i<(bs.map AV.bl).length):∃b,cJ (bs.map AV.bl) i=aA (.bl b):=by
 have hl:i.toNat<bs.length:=by rw[aR]at h1;lia
 unfold cJ jM;rw[if_pos h0,if_pos h1];exact⟨bs[i.toNat],by simp only[jJ,fR,eB hl,xO]⟩
def Sa(L n:Nat)(a:Int)(h:AH)(R:AV->AH->Prop):Prop:=gY (.ref n) h λn c fs=>aC (xi.lookup c) λi=>aE (fs.lookup ("guess":cW)).isNone (WC (run pg L i [.ref n,.int a]) h R) False
def Dq(K:Nat->WS)(d:Nat):Prop:=∀{h:AH}{c n:Nat},TH K c h->Kl K h->K n=aA (d+4)->∀{L:Nat}{a:Int}{R:AV->AH->Prop},d+2<=L->(∀b h',Kp h h'->R (.bl b) h')->Sa L n a h R
theorem Yv(IH:∀d',d'+1=d->Dq K d'):Dq K d:=by
 intro h c n T l e L a R x q;obtain⟨L,rfl⟩:∃s,L=s+2:=⟨L-2,by lia⟩;obtain⟨_,o,z⟩:=T _ _ e;cases z with
 |pl=>exact aC.of o<|aS rfl rfl<|q _ _ Kp.refl|al=>exact aC.of o<|aS rfl rfl<|q _ _ Kp.refl|la f=>
  obtain⟨_,od,z⟩:=T _ _ f;cases z with
  |dc hb y=>
   rename_i m;refine aC.of o<|aS rfl rfl<|aC.of o<|aE.t rfl<|aC.of rfl<|aE.t (qL od)<|aC.of o<|aE.t rfl<|aC.of rfl<|WC.of<|Ni (k:=.inl a) od rfl ?_;cases e:bR m (.inl a) with
   |none=>exact q _ _ Kp.refl|some v=>obtain⟨b,rfl⟩:=hb _ _ e;exact q _ _ Kp.refl
 |co f=>obtain⟨_,_,t,_⟩:=T.ja f;exact aC.of o<|aS rfl rfl<|aC.of o<|aE.t rfl<|aC.of rfl<|aC.of t.ob<|Hw (k:=L) t λb=>q _ _ Kp.refl
 |pa f A x0=>obtain⟨_,_,t,_⟩:=T.ja f;exact aC.of o<|aS rfl rfl<|aC.of o<|aE.t rfl<|aC.of rfl<|aC.of t.ob<|aC.of rfl<|aE.t rfl<|aC.of o<|aE.t rfl<|aC.of rfl<|WC.of<|Nf<|Hw (k:=L) t λb=>q _ _ Kp.refl
 |li f=>
  obtain⟨_,ol,z⟩:=T _ _ f;cases z with
  |tr=>
   rename_i i bs;have p:=(eA (o:=.lst aB [])<|cC<|l _ _ e).trans o;have j:=(eA (o:=.lst aB [])<|cC<|l _ _ f).trans ol;refine aC.of o<|aS rfl rfl<|aC.of o<|aE.t rfl<|aC.of rfl<|WC.of<|aNj rfl (xl (h:=h.new (.lst aB [])) (b1:=aB) (b2:=aB) j bJ) ?_;cases bs with
   |nil=>exact q _ _ Kp.refl.new|cons r bs=>
    have hl:(0:Int)<(((r::bs).map AV.bl).length:Int):=by simp only[aR,eK];lia
    obtain⟨b,u⟩:=MW (bs:=r::bs) (mC i (by lia)) (mQ i hl);refine aC.of rfl<|aE.df (by simp)<|aC.of p<|aE.t rfl<|aC.of rfl<|aC.of p<|aE.t rfl<|aC.of rfl<|aC.of p<|aE.t rfl<|aC.of rfl<|WC.of<|kR (cH j)<|aE.dt hl<|WC.of<|eU (cH j) u ?_;exact q _ _ Kp.refl.new
 |tu f=>exact aC.of o<|aS rfl rfl<|aC.of o<|aE.t rfl<|aC.of rfl<|IH _ rfl T l f (by omega) λb B kp=>q _ _ kp|ch f w g=>
  obtain⟨_,_,t,_⟩:=T.ja g;refine aC.of o<|aS rfl rfl<|aC.of o<|aE.t rfl<|aC.of rfl<|aC.of t.ob<|Hw (k:=L) t λb=>aE.by (λ_=>?_) λ_=>?_
  .exact aC.of o<|aE.t rfl<|aC.of rfl<|IH _ rfl T l w (by omega) q
  .exact aC.of o<|aE.t rfl<|aC.of rfl<|IH _ rfl T l f (by omega) q
theorem pd:∀d,Dq K d
 |0=>Yv λd' e=>by omega
 |d+1=>Yv λd' e=>by
  obtain rfl:d'=d:=by omega
  exact pd d'
def vi(L n:Nat)(a:Int)(b:Bool)(h:AH)(R:AV->AH->Prop):Prop:=gY (.ref n) h λn c fs=>aC (VQ.lookup c) λi=>aE (fs.lookup ("heed":cW)).isNone (WC (run pg L i [.ref n,.int a,.bl b]) h R) False
def Du(L n:Nat)(a:Int)(b:Bool)(h:AH)(R:AV->AH->Prop):Prop:=gY (.ref n) h λn c fs=>aC (xj.lookup c) λi=>aE (fs.lookup ("learn":cW)).isNone (WC (run pg L i [.ref n,.int a,.bl b]) h R) False
def lq(K:Nat->WS)(W:Nat->Nat->Int->Bool->AH->(AV->AH->Prop)->Prop)(d l:Nat):Prop:=∀{h:AH}{c n:Nat},TH K c h->Kl K h->K n=aA (d+4)->c+2 ^ d<=2000->∀{L:Nat}{a:Int}{b:Bool}{R:AV->AH->Prop},l<=L->(∀h',Kk K (d+4) h h'->TH K (c+2 ^ d) h'->R .aH h')->W L n a b h R
theorem ql(H:lq K vi d (2*d+2)):lq K Du d (2*d+3):=by
 intro h c n T l e g L a b R t q;obtain⟨L,rfl⟩:∃i,L=i+1:=⟨L-1,by lia⟩;obtain⟨_,o,z⟩:=T _ _ e;cases z.top with
 |mk _ j k _ _=>
  refine aC.of o<|aC.of j<|aE.t k<|aS rfl rfl<|H T l e g (by lia) λu m f=>?_;obtain⟨_,o,z⟩:=f _ _ e;cases z.top with
  |mk p _ _ r s=>exact aC.of o<|aE.t p<|aC.of rfl<|aC.of rfl<|aC.of o<|aE.dt rfl<|aE.t r<|q _ (m.put e<|aV _)<|f.put e<|s _
theorem GP(d:Nat):1<=2 ^ d:=Nat.one_le_two_pow
theorem Yw(IH:∀d',d'+1=d->lq K vi d' (2*d'+2)):lq K vi d (2*d+2):=by
 intro h c n T l e Y L a b R Z q;have big:sizeLine=16777216:=pI;have hp:=GP d;have w:∀{C},Kk K (d+4) h C->TH K c C->R .aH C:=λr T=>q _ r (T.le<|rM _ _);obtain⟨L,rfl⟩:∃Q,L=Q+2:=⟨L-2,by omega⟩;obtain⟨_,o,z⟩:=T _ _ e;cases z with
 |pl=>exact aC.of o<|aS rfl rfl<|w (Kk.of Kp.refl) T|al=>exact aC.of o<|aS rfl rfl<|w (Kk.of Kp.refl) T|li f=>exact aC.of o<|aS rfl rfl<|w (Kk.of Kp.refl) T|la f=>
  obtain⟨_,od,z⟩:=T _ _ f;cases z with
  |dc hb E=>
   refine aC.of o<|aS rfl rfl<|aC.of o<|aE.t rfl<|aC.of rfl<|vB (k:=.inl a) od rfl (by omega) ?_;refine q _ ((Kk.of Kp.refl).put f (by omega))<|(T.le<|rM _ _).put f (.dc (λj v e=>?_)<|dR aBa<|Nat.add_le_add E<|GP d);rw[aMl]at e;split at e
   .cases e;exact⟨_,rfl⟩
   .exact hb _ _ e
 |co f=>obtain⟨_,_,t,g⟩:=T.ja f;exact aC.of o<|aS rfl rfl<|aC.of o<|aE.t rfl<|aC.of rfl<|aC.of t.ob<|Ik (k:=L) t λp z=>w ((Kk.of Kp.refl).put g (by omega)) (T.put g<|.lv z)
 |pa f G x0=>
  rename_i g x;obtain⟨H,_,t,u⟩:=T.ja f;refine aC.of o<|aS rfl rfl<|aC.of o<|aE.t rfl<|aC.of rfl<|aC.of t.ob<|aC.of rfl<|aE.t rfl<|aC.of o<|aE.t rfl<|aC.of rfl<|WC.of<|Nf<|Ik (k:=L) t λp z=>?_;have A:=(bL (o:=.lst aB (p.map AV.int))<|MM e u (by omega)).trans o;have I:=T.put u (.lv z);have r:Kk K (d+4) h (h.put H<|.lst aB<|p.map AV.int):=(Kk.of Kp.refl).put u (by omega);generalize h.put H (.lst aB<|p.map AV.int)=J at A I r ⊢;have p0:(0:Int)<1*2 ^ g.toNat:=by rw[IL];exact IM (by decide)
  have p1:(1:Int)*2 ^ g.toNat<=65536:=by
   rw[IL];have:g.toNat<=16:=by omega
   have:=KD (n:=2) (by decide) this;have e:((2 ^ g.toNat:Nat):Int)=2 ^ g.toNat:=by rw[Int.natCast_pow];rfl
   omega
  refine aC.of A<|aE.t rfl<|aC.of rfl<|aE.t (Ip (by omega) (by omega)) ?_;have fin:∀y:Int,WC (Op.g .shl (.int 1)<|.int g) J λz M=>Ax .mod (.int y) z M λv s=>gY (.ref n) s λn c fs=>aE ([11].contains c) (aE (decide<|fs.length<1000) (R .aH<|s.put n<|.ins c<|gL "trail" v fs) False) False:=λy=>by refine WC.of<|HJ (CH (by decide) (by decide) G.1 (by omega))<|aE.dt p0<|aC.of A ?_;exact w (r.put e<|aV _)<|I.put e<|.pa f G ⟨mC _ (by omega),Om (mQ _ p0) p1⟩
  cases b with
  |true=>exact aC.of A<|aE.t rfl<|aC.of rfl<|fin _|false=>exact aC.of A<|aE.t rfl<|aC.of rfl<|fin _
 |tu f=>rename_i d' _ _;refine aC.of o<|aS rfl rfl<|aC.of o<|aE.t rfl<|aC.of rfl ?_;have:=KD (n:=2) (by decide) (iJ d');exact ql (IH d' rfl) T l f (by omega) (by omega) λC r S=>q _ (r.le (by omega)) (S.le (by omega))
 |ch f N g=>
  rename_i d' m _ _ _;have p2:2 ^ (d'+1)=2 ^ d'+2 ^ d':=by rw[Nat.pow_succ,Nat.mul_two]
  refine aC.of o<|aS rfl rfl<|aC.of o<|aE.t rfl<|aC.of rfl<|pd d' T l N (by omega) λb1 J k1=>?_;refine aC.of (k1.get (l _ _ e) o)<|aE.t rfl<|aC.of rfl<|pd d' (T.kp l k1) (l.up k1.nx) f (by omega) λb2 M k2=>?_;have k2:=k1.trans k2;have keep:∀{s},Kk K (d'+4) h s->s.ob n=h.ob n:=λr=>r.ob n (l _ _ e) λt z=>by rw[e]at z;cases z;omega
  have F:=T.kp l k2;obtain⟨_,_,t,u⟩:=F.ja g;have rest:∀(s:AH),Kk K (d'+4) h s->TH K c s->Du (L+1) m a b s λ_ D=>gY (.ref n) D λ_ c fs=>aE ([14].contains c) (aC (fs.lookup ("other":cW)) λv=>gY v D λn c fs=>aC (xj.lookup c) λi=>aE (fs.lookup ("learn":cW)).isNone (WC (run pg (L+1) i [.ref n,.int a,.bl b]) D λ_ O=>R .aH O) False) False:=λs r U=>by refine ql (IH d' rfl) U (l.up r.nx) f (by omega) (by omega) λD B V=>?_;have B:=r.trans B;refine aC.of ((keep B).trans o)<|aE.t rfl<|aC.of rfl<|ql (IH d' rfl) V (l.up B.nx) N (by omega) (by omega) λO W X=>?_;exact q _ ((B.trans W).le (by omega))<|X.le (by omega)
  refine aC.of rfl<|aC.of rfl<|WC.of<|aNx rfl<|aC.of rfl<|aE.nd (λ_=>?_) λ_=>?_
  .refine aC.of (k2.get (l _ _ e) o)<|aE.t rfl<|aC.of rfl<|aC.of t.ob<|aC.of rfl<|aE.t rfl<|aC.of rfl<|aC.of rfl<|WC.of<|Ba rfl<|Ik (k:=L) t λp z=>?_;have P:=(Kk.of (K:=K) (b:=d'+4) k2).put (o:=.lst aB (p.map AV.int)) u (by omega);exact aC.of ((keep P).trans o)<|aE.t rfl<|aC.of rfl<|rest _ P<|F.put u<|.lv z
  .exact aC.of (k2.get (l _ _ e) o)<|aE.t rfl<|aC.of rfl<|rest _ (Kk.of k2) F
theorem Hd:∀d,lq K vi d (2*d+2)
 |0=>Yw λd' e=>by omega
 |d+1=>Yw λd' e=>by
  obtain rfl:d'=d:=by omega
  exact Hd d'
end
structure Kx(S:WT)(h h':AH):Prop where
 nx:h.nx<=h'.nx
 ob:∀m,m<h.nx->m∉S->h'.ob m=h.ob m
theorem Kx.refl:Kx S h h:=⟨aV _,λ_ _ _=>rfl⟩
theorem Kx.trans{S:WT}{a b c:AH}(x:Kx S a b)(y:Kx S b c):Kx S a c:=⟨dR x.nx y.nx,λm hm d=>(y.ob m (bF hm x.nx) d).trans (x.ob m hm d)⟩
theorem Kx.put{S:WT}{a b:AH}{n:Nat}{o:bC}(x:Kx S a b)(hn:n∈S):Kx S a (b.put n o):=⟨x.nx,λm hm c=>(bL λe=>c (by rw[e];exact hn)).trans (x.ob m hm c)⟩
theorem Kx.of{a b:AH}(x:Kp a b):Kx S a b:=⟨x.nx,λm hm _=>x.ob m hm⟩
theorem Kx.sub{S':WT}{a b:AH}(x:Kx S a b)(hs:∀m∈S,m∈S'):Kx S' a b:=⟨x.nx,λm hm hn=>x.ob m hm λz=>hn (hs m z)⟩
section
variable {k:Nat}{K:Nat->WS}{c:Nat}
theorem oW{c i:Int}(h0:0<=i)(h1:i<1000)(q:∀z,0<=z->z<2147483647->R (.int z) h):WC (run pg (k+1) 37 [.int c,.int i]) h R:=
 aS rfl rfl (WC.of<|Nm rfl<|aE.t (Ip (by omega) (by omega))<|aE.t (J0 (by omega) (by omega))<|q _ (mC _ (by decide))<|mQ _ (by decide))
def pN(L c i:Nat)(as:Fu)(h:AH)(Q:AV->AH->Prop):Prop:=WC (run pg L i<|.ref h.nx::as) (h.new<|.ins c []) λv h2=>v = .aH/\Q (.ref h.nx) h2
def tq(K:Nat->WS)(n t:Nat):Nat->WS:=λm=>if m=n then aA t else K m
theorem uX{t m:Nat}(e:m≠n):tq K n t m=K m:=if_neg e
theorem GR{t:Nat}(e:K n=aD)(m s:Nat)(z:K m=aA s):tq K n t m=aA s:=(uX λw=>by rw[w,e]at z;cases z).trans z
theorem TH.add{t:Nat}(T:TH K c h)(e:K n=aD)(ho:h.ob n=aA o)(z:Go K c t o):TH (tq K n t) c h:=λm u f=>by
 by_cases hm:m=n
 .subst hm;cases(if_pos rfl).symm.trans f;exact⟨o,ho,z.up (aV _) (GR e)⟩
 .exact(T m u<|(uX hm).symm.trans f).imp λ_ y=>⟨y.1,y.2.up (aV _) (GR e)⟩
theorem Kl.add{t:Nat}(l:Kl K h)(e:n<h.nx):Kl (tq K n t) h:=λm u f=>by
 by_cases hm:m=n
 .rw[hm];exact e
 .exact l m u<|(uX hm).symm.trans f
def Gn(K:Nat->WS)(c:Nat)(h:AH)(d:Nat)(Q:AV->AH->Prop):Prop:=∀h' n K',Kp h h'->TH K' c h'->Kl K' h'->(∀m,m<h.nx->K' m=K m)->K' n=aA (d+4)->Q (.ref n) h'
theorem TH.putN(T:TH K c h)(e:K n=aD):TH K c (h.put n o):=λm u f=>by rw[bL λw=>by rw[w,e]at f;cases f];exact T m u f
theorem Gn.at(q:Gn K c h d R)(l:Kl K h)(kp:Kp h h')(T:TH K' c h')(l':Kl K' h')(a:∀m,m<=h.nx->K' m=K m)(lt:h.nx<h'.nx)(z:Go K' c (d+4) o):R (.ref h.nx) (h'.put h.nx o):=
 have e:K' h.nx=aD:=(a _<|aV _).trans (l.no<|aV _);q _ _ (tq K' h.nx<|d+4) (kp.put<|aV _) ((T.putN e).add e bP z) (l'.add lt) (λm hm=>(uX<|cC hm).trans (a m<|mR hm)) (if_pos rfl)
theorem wJ{c:Nat}(o:h.ob n=aA (.ins c []))(hc:[7,8,9,10,11,12,13,14].contains c=aB)(q:R .aH (h.put n<|.ins c [("learned",.int 0)])):WC (run pg (k+1) 60 [.ref n]) h R:=aS rfl rfl (aC.of o<|aE.t hc q)
theorem Z1(T:TH K c h)(l:Kl K h)(q:Gn K c h d R):pN (k+1) 7 60 [] h R:=
 wJ bJ rfl ⟨rfl,q.at l Kp.refl.new (T.kp l Kp.refl.new) (l.up<|iJ _) (λ_ _=>rfl) (cM _) .pl⟩
theorem MT(T:TH K c h)(l:Kl K h)(q:Gn K c h d R):pN (k+1) 8 60 [] h R:=
 wJ bJ rfl ⟨rfl,q.at l Kp.refl.new (T.kp l Kp.refl.new) (l.up<|iJ _) (λ_ _=>rfl) (cM _) .al⟩
theorem Zv{f:Bool}(T:TH K c h)(l:Kl K h)(q:Gn K c h d R):pN (k+2) 9 66 [.bl f] h R:=by have a:h.nx≠h.nx+1:=cC (cM _);refine aS rfl rfl<|wJ bJ rfl<|aC.of bP<|aC.of ((eA a).trans bP) ⟨rfl,?_⟩;have kp:=((((Kp.refl (h:=h)).new (o:=.ins 9 [])).put (o:=.ins 9 [("learned",.int 0)]) (aV _)).put (o:=.ins 9 [("learned",.int 0),("first",.bl f)]) (aV _)).new (o:=.aP []);exact q.at l kp ((T.kp l kp).add (l.no<|iJ _) bJ (.dc (λj v e=>nomatch e)<|jR _)) ((l.up kp.nx).add (cM _)) (λm hm=>uX (cC<|KA hm)) (kG<|cM _)<|.la<|if_pos rfl
theorem aLo{t:Nat}{m:Int}(o:h.ob t=aA (.ins 6 []))(ht:t<h.nx)(m0:0<m)(m1:m<=64)(q:∀h' l ls,vR h' t l ls->h.nx<=l->l<h'.nx->(∀j,j<h.nx->j≠t->h'.ob j=h.ob j)->R .aH h'):WC (run pg (k+1) 57 [.ref t,.int m,.int b]) h R:=by have big:sizeLine=16777216:=pI;refine aS rfl rfl<|WC.of<|HI bJ (by omega) (by simp;omega) (by omega) ?_;have k1:Kp h ((h.new<|.lst aB [.int b]).new (.lst aB (eO m.toNat [AV.int b]).flatten)):=Kp.refl.new.new;have a:((h.new<|.lst aB [.int b]).new (.lst aB (eO m.toNat [AV.int b]).flatten)).ob (h.new<|.lst aB [.int b]).nx=aA (.lst aB (eO m.toNat [AV.int b]).flatten):=bJ;have c:(h.new<|.lst aB [.int b]).nx<((h.new<|.lst aB [.int b]).new (.lst aB (eO m.toNat [AV.int b]).flatten)).nx:=cM _;have d:h.nx<=(h.new<|.lst aB [.int b]).nx:=iJ _;generalize (h.new<|.lst aB [.int b]).new (.lst aB (eO m.toNat [AV.int b]).flatten)=f at k1 a c ⊢;generalize (h.new<|.lst aB [.int b]).nx=l at a c d ⊢;rw[JG]at a;refine aC.of rfl<|aC.of rfl<|aC.of (k1.get ht o) ?_;refine q _ l (eO m.toNat b) ⟨bP,(bL (by omega)).trans (a.trans (by rw[JR])),by rw[ui];omega⟩ d c λj e hn=>(bL hn).trans (k1.ob j e)
theorem Mp{h1:AH}{m:Int}(T:TH K c h)(l:Kl K h)(kp:Kp h h1)(lt:h.nx<h1.nx)(m0:0<m)(m1:m<=64)(q:∀h2 K',Kp h h2->h1.nx<=h2.nx->h2.ob h.nx=h1.ob h.nx->TH K' c h2->Kl K' h2->(∀m,m<=h.nx->K' m=K m)->K' h1.nx=aA 0->Q .aH h2) :
  WC (run pg (k+1) 57 [.ref h1.nx,.int m,.int b]) (h1.new<|.ins 6 []) Q:=
 aLo bJ (cM _) m0 m1 λh2 d ls t l1 l2 kx=>by have l1:h1.nx+1<=d:=l1;have e:∀j,j<h1.nx->h2.ob j=h1.ob j:=λj a=>(kx j (kG a)<|cC a).trans (eA<|cC a);have k2:Kp h h2:=⟨by have:=kp.nx;omega,λj a=>(e j (by omega)).trans (kp.ob j a)⟩;have f:=(T.kp l k2).add (l.no (by omega)) t.lv (.lv t.pos);exact q h2 _ k2 (by omega) (e _ lt) (f.add ((uX<|cC ‹_›).trans (l.no<|mR ‹_›)) t.ob<|.ta<|if_pos rfl) (((l.up k2.nx).add l2).add (by omega)) (λm hm=>(uX (by omega)).trans (uX (by omega)))<|if_pos rfl
theorem Vf{m:Int}(T:TH K c h)(l:Kl K h)(m0:0<m)(m1:m<=64)(q:Gn K c h d R):pN (k+2) 10 69 [.int m,.int b] h R:=
 aS rfl rfl (wJ bJ rfl<|Mp T l (Kp.refl.new.put<|aV _) (cM _) m0 m1 λi j k2 a e f l2 a2 g=>⟨rfl,aC.of rfl (aC.of rfl<|aC.of (e.trans bP) ⟨rfl,q.at l k2 f l2 a2 a (.co g)⟩)⟩)
theorem BW{m g:Int}(T:TH K c h)(l:Kl K h)(m0:0<m)(m1:m<=64)(g0:0<=g/\g<16)(q:Gn K c h d R):pN (k+2) 11 72 [.int m,.int g] h R:=
 aS rfl rfl (wJ bJ rfl (Mp T l (Kp.refl.new.put<|aV _) (cM _) m0 m1 λn a k2 b f i l2 a2 j=>⟨rfl,aC.of rfl (aC.of rfl (aC.of (f.trans bP) (aC.of bP (aC.of bP ⟨rfl,
  have e:a h.nx=aD:=(a2 _<|aV _).trans (l.no<|aV _);q.at l ((k2.put<|aV _).put (aV _)) ((i.putN e).putN e) l2 a2 b (.pa j g0 ⟨jH _,by decide⟩)⟩))))⟩))
theorem D3{l':Nat}{bs:Wq}(T:TH K c h)(l:Kl K h)(ol:h.ob l'=aA (.lst aB<|bs.map AV.bl))(hl:l'<h.nx)(q:Gn K c h d R):pN (k+2) 12 75 [.ref l'] h R:=by refine aS rfl rfl<|wJ bJ rfl ?_;have k1:Kp h ((h.new<|.ins 12 []).put h.nx (.ins 12 [("learned",.int 0)])):=Kp.refl.new.put (aV _);refine WC.of<|Bc (cH<|k1.get hl ol)<|aC.of rfl<|aC.of rfl<|aC.of ((eA<|cC<|cM _).trans bP) ⟨rfl,?_⟩;exact q.at l k1.new ((T.kp l k1.new).add (l.no<|iJ _) bJ .tr) ((l.up k1.new.nx).add (cM _)) (λm hm=>uX (cC<|KA hm)) (kG<|cM _)<|.li<|if_pos rfl
theorem aMd(T:TH K c h)(l:Kl K h)(e:K n1=aA (d+4))(q:Gn K c h (d+1) R):pN (k+2) 13 77 [.ref n1] h R:=
 have kp:Kp h ((h.new<|.ins 13 []).put h.nx (.ins 13 [("learned",.int 0)])):=Kp.refl.new.put (aV _);aS rfl rfl (wJ bJ rfl<|aC.of bP ⟨rfl,q.at l kp (T.kp l kp) (l.up kp.nx) (λ_ _=>rfl) (cM _) (.tu e)⟩)
theorem UG{n2:Nat}{m:Int}(T:TH K c h)(l:Kl K h)(m0:0<m)(m1:m<=64)(e:K n1=aA (d+4))(e':K n2=aA (d+4))(q:Gn K c h (d+1) R):pN (k+2) 14 80 [.ref n1,.ref n2,.int m] h R:=
 aS rfl rfl (wJ bJ rfl<|aC.of bP<|aC.of bP<|Mp T l (((Kp.refl.new.put<|aV _).put (aV _)).put (aV _)) (cM _) m0 m1 λg i k2 n2 a b l2 a2 f=>⟨rfl,aC.of rfl (aC.of rfl<|aC.of (a.trans bP) ⟨rfl,q.at l k2 b l2 a2 n2 (.ch ((a2 _<|mR<|l _ _ e).trans e) ((a2 _<|mR<|l _ _ e').trans e') f)⟩)⟩)
end
section
variable {k:Nat}{K:Nat->WS}{b:Nat}
theorem UU{lo hi:Ft}:(fc ns lo hi).length<=ns.length:=by unfold fc;rw[kW,uh];omega
theorem Zw{c:Int}{ps:Nat}(os:h.ob ps=aA (.lst bb<|ns.map AV.int))(hn:ns.length<=63)(T:TH K b h)(l:Kl K h)(q:Gn K b h 1 R):WC (run pg (k+4) 47 [.int c,.ref ps]) h R:=by
 have big:sizeLine=16777216:=pI;refine aS rfl rfl<|oW (k:=k+2) (by decide) (by decide) λz z0 z1=>?_;have p0:0<=z / 8:=Oj z0 (by decide);have a0:0<1+z / 8%64:=by omega
 have a1:1+z / 8%64<=64:=by omega
 refine aE.dc (λ_=>?_) λ_=>?_
 .exact Z1 (k:=k+2) T l q
 refine aE.dc (λ_=>?_) λ_=>?_
 .exact MT (k:=k+2) T l q
 refine aE.dc (λ_=>?_) λ_=>?_
 .exact Zv (k:=k+1) T l q
 refine aE.dc (λ_=>?_) λ_=>?_
 .exact Vf (k:=k+1) T l a0 a1 q
 refine aE.dc (λ_=>?_) λ_=>?_
 .exact BW (k:=k+1) T l a0 a1 (by omega) q
 refine aE.dc (λ_=>?_) λ_=>?_
 .refine WC.of<|ak<|kC<|jm<|WC.of<|Bd os<|mB bJ ?_;have k1:Kp h (h.new<|.lst aB<|iM (ns.map AV.int) aD<|aA 60):=Kp.refl.new;have o1:(h.new<|.lst aB<|iM (ns.map AV.int) aD<|aA 60).ob h.nx=aA (.lst aB<|(fc ns aD<|aA 60).map AV.int):=by rw[<- UW];exact bJ
  have hl:=UU (ns:=ns) (lo:=aD) (hi:=aA 60);generalize h.new (.lst aB<|iM (ns.map AV.int) aD<|aA 60)=h1 at k1 o1 ⊢;generalize h.nx=m1 at o1 ⊢;generalize fc ns aD (aA 60)=ms at o1 hl ⊢;refine Vb (bb:=aB) (xs:=ms.map AV.int) (λi ys Z h'=>h'=h1/\(∃a,Z=[a])/\∃bs:Wq,ys=bs.map AV.bl/\bs.length=i) (by rw[aR,eF];omega) ⟨rfl,⟨_,rfl⟩,[],rfl,rfl⟩ (λi ys Z h' y=>by rw[y.1];exact o1) ?_ ?_
  .rintro i x ys Z h' hx ⟨rfl,⟨a,rfl⟩,bs,rfl,rfl⟩
   obtain⟨y,hy,rfl⟩:=iN hx;have hi:=(List.getElem?_eq_some_iff.mp hy).1;refine tw<|cF _ ⟨by rw[aR];omega,rfl,⟨_,rfl⟩,bs++[_],by rw[gJ];rfl,by simp⟩
  rintro ys Z h' ⟨rfl,⟨a,rfl⟩,bs,rfl,_⟩
  have k2:=k1.new (o:=.lst aB (bs.map AV.bl));exact D3 (k:=k+1) (d:=1) (T.kp l k2) (l.up k2.nx) bJ (cM _) λh2 n K' k3 T3 l3 a3=>q _ _ _ (k2.trans k3) T3 l3 λm hm=>a3 m (bF hm k2.nx)
 refine aE.dc (λ_=>?_) λ_=>?_
 .refine Vf (k:=k+1) (d:=0) (R:=λv h1=>pN (k+3) 13 77 [v] h1 R) T l a0 a1 λh1 n K1 k1 T1 l1 a1 e1=>?_;exact aMd (k:=k+1) T1 l1 e1 λh2 n2 K2 k2 T2 l2 a2=>q _ _ _ (k1.trans k2) T2 l2 λm hm=>(a2 m<|bF hm k1.nx).trans (a1 m hm)
 .refine Zv (k:=k+1) (d:=0) (R:=λv1 h1=>pN (k+3) 11 72 [.int (1+z / 8%64),.int 4] h1 λv2 h2=>pN (k+3) 14 80 [v1,v2,.int (1+z / 8 / 64%64)] h2 R) T l λh1 n1 K1 k1 T1 l1 b1 e1=>?_;refine BW (k:=k+1) (d:=0) T1 l1 a0 a1 (by decide) λh2 n2 K2 k2 T2 l2 b2 e2=>?_;exact UG (k:=k+1) T2 l2 (by omega) (by omega) ((b2 _<|l1 _ _ e1).trans e1) e2 λh3 n3 K3 k3 T3 l3 b3=>q _ _ _ ((k1.trans k2).trans k3) T3 l3 λm hm=>(b3 m<|bF hm (k1.trans k2).nx).trans ((b2 m<|bF hm k1.nx).trans (b1 m hm))
end
section
def wd(v:Int):Prop:=0<=v/\v<18446744073709551616
def cY(b:Int):Prop:=0<=b/\b<8
def rC:aM->Prop
 |.way _ x y z=>cY x/\cY y/\cY z
 |.set x v=>cY x/\wd v
 |.move x y=>cY x/\cY y
 |.load x y _=>cY x/\cY y
 |.store x y _=>cY x/\cY y
 |.fW x t=>cY x/\0<=t
 |.go t=>0<=t
 |.fault _=>True
variable {k:Nat}
def mf(h:AH)(R:AV->AH->Prop):Prop:=∀r h',Kp h h'->rC r->R r.av h'
theorem tM{i:Int}(h0:0<=i)(hn:h.ob n=aA (.lst bb<|ns.map AV.int))(q:∀z,R (.int z) h):WC (run pg (k+1) 36 [.ref n,.int i]) h R:=by exact aS rfl rfl<|WC.of<|kR (cH hn)<|aE.dc (λa=>WC.of (eU (cH hn) (mn h0 a)<|q _)) λ_=>q _
theorem ud{z:Int}(z0:0<=z)(z1:z<2147483647)(q:∀w,wd w->R (.int w) h):WC (run pg (k+1) 38 [.int z]) h R:=by
 have e:(2:Int) ^ Int.toNat 64=18446744073709551616:=rfl;refine aS rfl rfl<|aE.dc (λ_=>aE.t (Ip (by omega) (by omega)) (WC.of<|Nm rfl ?_)) λ_=>aE.dc (λ_=>WC.of (Nm rfl ?_)) λ_=>q _ ⟨by omega,by omega⟩
 .exact(q _ ⟨mC _ (by decide),mQ _ (by decide)⟩)
 .rw[e];exact q _ ⟨by omega,by omega⟩
def Az:Fu:=[.str "sum",.str "less",.str "times",.str "share",.str "rest",.str "both",.str "some",.str "odd",.str "up",.str "down",.str "below",.str "same"]
def Nd:List eH:=[.sum,.less,.times,.share,.rest,.both,.su,.odd,.up,.down,.below,.same]
theorem aMz{i:Int}(h0:0<=i)(h1:i<12):∃w:eH,cJ Az i=aA (.str w.nm):=by
 obtain⟨n,rfl⟩:=ax h0;have e:Az=Nd.map λw=>.str w.nm:=rfl;have hl:n<Nd.length:=by show n<12;omega
 unfold cJ;rw[e,qc (by rw[aR];exact hl)];exact⟨Nd[n],by simp only[jJ,fR,eB hl,xO]⟩
theorem aNa{z:Int}{b:Bool}(hx:cY x)(hy:cY y)(hz:cY z)(q:mf h R):WC (run pg (k+1) 39 [.tup [.int x,.int y,.int z],.int p,.bl b]) h R:=by
 obtain⟨w,ew⟩:=aMz (i:=p%12) (by omega) (by omega);refine aS rfl rfl<|WC.of<|eU (cH (xs:=Az) bJ) ew ?_;have fin:∀x' z',cY x'->cY z'->R (.tup [.str w.nm,.int x',.int y,.int z']) (h.new<|.lst aB Az):=λx' z' h1 h2=>q (.way w x' y z') _ Kp.refl.new ⟨h1,hy,h2⟩;have b4:cY (x%4):=by unfold cY;omega
 have b2:cY (6+x%2):=by unfold cY;omega
 have b5:cY 5:=⟨by decide,by decide⟩;have b6:cY 4:=⟨by decide,by decide⟩;cases b with
 |false=>exact fin _ _ hx hz|true=>refine aE.dc (λ_=>fin _ _ b4 b5) λ_=>aE.dc (λ_=>fin _ _ b2 b5) λ_=>aE.dc (λ_=>fin _ _ b6 hz) λ_=>aE.dc (λ_=>fin _ _ b6 hz) λ_=>fin _ _ b4 hz
theorem CC{kd:Bool}{z:Int}{b:Bool}(hx:cY x)(hy:cY y)(q:mf h R):WC (run pg (k+1) 40 [.str (if kd then "load" else "store"),.tup [.int x,.int y,.int z],.int p,.bl b]) h R:=by
 have b2:cY (6+y%2):=by unfold cY;omega
 have b5:cY (x%5):=by unfold cY;omega
 refine aS rfl rfl ?_;cases b with
 |true=>
  cases kd with
  |true=>exact q (.load _ _ _) _ Kp.refl ⟨b5,b2⟩|false=>exact q (.store _ _ _) _ Kp.refl ⟨hx,b2⟩
 |false=>
  cases kd with
  |true=>exact aE.dc (λ_=>q (.load _ _ _) _ Kp.refl ⟨hx,hy⟩) λ_=>q (.load _ _ _) _ Kp.refl ⟨hx,hy⟩|false=>exact aE.dc (λ_=>q (.store _ _ _) _ Kp.refl ⟨hx,hy⟩) λ_=>q (.store _ _ _) _ Kp.refl ⟨hx,hy⟩
noncomputable abbrev aLu:aQ:=bK (bK<|bK<|bK Tp)
theorem Jo{i:Int}(h0:0<=i)(h1:i<2)(q:∀v,v=a\/v=b->Q (.int v) h)(e:h.ob n=aA (.lst aB [.int a,.int b])):WC (Op.g .ix (.ref n)<|.int i) h Q:=by
 have:i=0\/i=1:=by omega
 rcases this with rfl|rfl
 .exact WC.of<|eU (cH e) rfl<|q _<|.inl rfl
 .exact WC.of<|eU (cH e) rfl<|q _<|.inr rfl
theorem aLz{kd z i m:Int}{b:Bool}(hx:cY x)(hy:cY y)(hz:cY z)(hi:0<=i)(hm:0<=m)(p0:0<=p)(p1:p<2147483647)(q:mf h R):WC (run pg (k+2) 41 [.int kd,.tup [.int x,.int y,.int z],.int p,.tup [.int i,.int m],.bl b]) h R:=by
 have b5:cY (x%5):=by unfold cY;omega
 have tail:∀t:Int,0<=t->dU (run pg<|k+1) aLu [aA (.int kd),aA (.tup [.int x,.int y,.int z]),aA (.int p),aA (.tup [.int i,.int m]),aA (.bl b),aA (.int x),aA (.int y),aA (.int z),aA (.int i),aA (.int m),aA (.int t)] h (λ_ h1=>R .aH h1) R (λ_ _=>False) λ_ _=>False:=λt ht=>by
  refine aE.dc (λ_=>?_) λ_=>?_
  .cases b with
   |false=>exact q (.fW x t) _ Kp.refl ⟨hx,ht⟩|true=>exact Jo (by omega) (by omega) (λv hv=>q (.fW v t) _ Kp.refl.new ⟨by unfold cY;omega,ht⟩) bJ
  refine aE.dc (λ_=>?_) λ_=>?_
  .exact q (.go _) _ Kp.refl (by show 0<=ite _ _ _;split<;>omega)
  cases b with
  |true=>exact q (.move _ _) _ Kp.refl ⟨b5,hz⟩|false=>exact ud (k:=k) p0 p1 λw hw=>q (.fault w) _ Kp.refl trivial
 refine aS rfl rfl<|aE.dc (λ_=>?_) λ_=>?_
 .exact aE.dt (by omega)<|tail _<|mC _ (by omega)
 .refine tail _ ?_;show 0<=ite _ _ _;split<;>omega
theorem aHs{c i m:Int}{b:Bool}(h0:0<=i)(h1:i<100)(hm:0<=m)(q:mf h R):WC (run pg (k+3) 42 [.int c,.int i,.int m,.bl b]) h R:=by
 refine aS rfl rfl<|oW (k:=k+1) h0 (by omega) λz j n=>?_;have bx:∀d:Int,0<d->cY (z / d%8):=λd hd=>⟨mC _ (by decide),mQ _ (by decide)⟩;have x0:=bx 20 (by decide);have g:=bx 160 (by decide);have w0:=bx 1280 (by decide);have p0:0<=z / 10240:=Oj j (by decide);have p1:z / 10240<2147483647:=by omega
 refine aE.dc (λ_=>aNa (k:=k+1) x0 g w0 q) λ_=>?_;refine aE.dc (λ_=>?_) λ_=>?_
 .cases b with
  |true=>exact WC.of<|eU (cH bJ) rfl<|ud (k:=k+1) p0 p1 λw hw=>q (.set _ w) _ Kp.refl.new ⟨by unfold cY;omega,hw⟩|false=>exact WC.of<|eU (cH bJ) rfl<|ud (k:=k+1) p0 p1 λw hw=>q (.set _ w) _ Kp.refl.new ⟨by unfold cY;omega,hw⟩
 have rest:WC (run pg (k+2) 40 [.str "load",.tup [.int (z / 20%8),.int (z / 160%8),.int (z / 1280%8)],.int (z / 10240),.bl b]) h R:=CC (k:=k+1) (kd:=aB) x0 g q;have a:WC (run pg (k+2) 40 [.str "store",.tup [.int (z / 20%8),.int (z / 160%8),.int (z / 1280%8)],.int (z / 10240),.bl b]) h R:=CC (k:=k+1) (kd:=aG) x0 g q;have f:WC (run pg (k+2) 41 [.int (z%20),.tup [.int (z / 20%8),.int (z / 160%8),.int (z / 1280%8)],.int (z / 10240),.tup [.int i,.int m],.bl b]) h R:=aLz (k:=k) x0 g w0 h0 hm p0 p1 q;have l:cY 5:=⟨by decide,by decide⟩;refine aE.dc (λe=>?_) λe=>?_
 .cases b with
  |true=>exact q (.way .rest _ _ _) _ Kp.refl ⟨by unfold cY;omega,g,l⟩|false=>exact aE.dt e<|q (.move _ _) _ Kp.refl ⟨x0,g⟩
 .exact aE.df e<|aE.dc (λ_=>rest) λ_=>aE.dc (λ_=>a) λ_=>f
theorem C1{c i:Int}(h0:0<=i)(h1:i<100)(q:mf h R):WC (run pg (k+2) 43 [.int c,.int i]) h R:=by
 refine aS rfl rfl<|oW (by omega) (by omega) λz e f=>?_;have a:cY (z%5):=by unfold cY;omega
 have b:cY 6:=⟨by decide,by decide⟩;have d:cY 7:=⟨by decide,by decide⟩;refine aE.dc (λ_=>q (.way .rest _ _ _) _ Kp.refl ⟨b,by unfold cY;omega,⟨by decide,by decide⟩⟩) λ_=>?_;exact aE.dc (λ_=>Jo (by omega) (by omega) (λv g=>q (.store _ v _) _ Kp.refl.new ⟨a,by unfold cY;omega⟩) bJ) λ_=>aE.dc (λ_=>q (.store _ _ _) _ Kp.refl ⟨a,b⟩) λ_=>q (.load _ _ _) _ Kp.refl ⟨a,d⟩
end
section
variable {k:Nat}
def Sj(h:AH)(m:Nat)(rs:List aM):Prop:=h.ob m=aA (.lst aB<|rs.map aM.av)/\∀r∈rs,rC r
theorem aAc{b:Bool}(os:h.ob n=aA (.lst bb<|ns.map AV.int))(hn:n<h.nx)(hl:ns.length<=60)(q:∀h' m rs,Kp h h'->m<h'.nx->Sj h' m rs->rs.length=ns.length->R (.ref m) h'):WC (run pg (k+4) 44 [.ref n,.bl b]) h R:=by
 have big:sizeLine=16777216:=pI;refine aS rfl rfl<|WC.of<|ak<|HL<|Bj rfl ?_;refine⟨_,_,_,rfl,os,?_⟩;refine UL (λi ys Z h'=>Kp h h'/\(∃a c,Z=[a,c,aA (.bl b),aA (.ref n)])/\∃rs:List aM,ys=rs.map aM.av/\rs.length=i/\∀r∈rs,rC r) (by rw[aR,eF];omega) ⟨Kp.refl,⟨_,_,rfl⟩,[],rfl,rfl,λr hr=>by cases hr⟩ (λi ys Z h' y=>y.1.get hn os) ?_ ?_
 .rintro i x ys Z h' hx ⟨kp,⟨a,c,rfl⟩,rs,rfl,rl,hr⟩
  obtain⟨y,hy,rfl⟩:=iN hx;have hi:=(List.getElem?_eq_some_iff.mp hy).1;refine aMv<|cF _<|WC.of<|kR (cH<|kp.get hn os)<|aHs (by omega) (by omega) (by omega) λr h3 k3 hr3=>⟨by rw[aR];omega,kp.trans k3,⟨_,_,rfl⟩,rs++[r],by rw[gJ];rfl,by rw[dC,rl];rfl,λr' hr'=>?_⟩;rcases List.mem_append.mp hr' with z|z
  .exact hr r' z
  .rw[List.mem_singleton.mp z];exact hr3
 rintro ys Z h1 ⟨k1,⟨a,c,rfl⟩,rs,rfl,rl,hr⟩
 have k2:Kp h (h1.new<|.lst aB<|rs.map aM.av):=k1.new;have o2:(h1.new<|.lst aB<|rs.map aM.av).ob h1.nx=aA (.lst aB<|rs.map aM.av):=bJ;have l2:h1.nx<(h1.new<|.lst aB<|rs.map aM.av).nx:=cM _;have l3:=k1.nx;rw[aR]at rl;generalize h1.nx=m at o2 l2 l3 ⊢;have s2:=k2.get hn os;cases b with
 |false=>exact q _ _ rs k2 l2 ⟨o2,hr⟩ rl|true=>
  refine WC.of<|kR (cH s2)<|aE.dc (λe0=>?_) λ_=>q _ _ rs k2 l2 ⟨o2,hr⟩ rl;refine WC.of<|eU (cH s2) (mn (by decide) (by omega))<|aC.of rfl<|aE.dc (λ_=>?_) λ_=>q _ _ rs k2 l2 ⟨o2,hr⟩ rl;refine WB.of ?_;with_reducible refine kD<|HL<|Bj rfl ?_
  refine⟨_,_,_,rfl,s2,?_⟩;refine h9 (λi Z h'=>(∃a c,Z=[aA (.ref n),aA (.bl aB),aA (.ref m),a,c])/\Kp h h'/\m<h'.nx/\∃rs:List aM,Sj h' m rs/\rs.length=ns.length) (by rw[aR,eF];omega) ⟨⟨_,_,rfl⟩,k2,l2,rs,⟨o2,hr⟩,rl⟩ (λi Z h' y=>y.2.1.get hn os) ?_ ?_
  .rintro i x Z h' hx ⟨⟨a,c,rfl⟩,kp,lm,rs,⟨om,hr⟩,rl⟩
   obtain⟨y,hy,rfl⟩:=iN hx;have hi:=(List.getElem?_eq_some_iff.mp hy).1;refine gX _<|fE _<|aE.dc (λ_=>?_) λ_=>⟨⟨_,_,rfl⟩,kp,lm,rs,⟨om,hr⟩,rl⟩;refine C1 (by omega) (by omega) λr h3 k3 hr3=>?_;refine ue (k3.get lm om) (qc (by rw[aR];omega)) ⟨⟨_,_,rfl⟩,(kp.trans k3).put l3,bF lm k3.nx,rs.set i r,⟨?_,λr' hr'=>?_⟩,by rw[nL];exact rl⟩
   .rw[bP,jx]
   .rcases Cd hr' with z|z
    .exact hr r' z
    .rw[z];exact hr3
  rintro Z h' ⟨⟨a,c,rfl⟩,kp,lm,rs,hR,rl⟩
  exact q _ _ rs kp lm hR rl
end
section
variable {k:Nat}
theorem uA(e:h.ob n=aA (.lst aB xs)):zH h (.ref n)=aB:=by simp only[zH,e]
def cX(p:Int×Int):AV:=.tup [.int p.1,.int p.2]
def Sm(tb:Wk):Prop:=tb.length=5/\∀p∈tb,1<=p.1/\1<=p.2/\p.2<=16
theorem aLe{c:Int}(q:∀h' tb,Kp h h'->Sm tb->R (.tup<|tb.map cX) h'):WC (run pg (k+2) 46 [.int c,.int 6]) h R:=by
 have big:sizeLine=16777216:=pI;refine aS rfl rfl<|WB.of ?_;with_reducible refine kD<|Bf ?_
 refine⟨sf (by omega) (by omega),?_⟩;have k1:Kp h (h.new<|.lst aB []):=Kp.refl.new;have o1:(h.new<|.lst aB []).ob h.nx=aA (.lst aB []):=bJ;have l1:h.nx<(h.new<|.lst aB []).nx:=cM _;generalize em:h.nx=m at o1 l1 ⊢;refine Gg (λi Z h'=>(∃a b,Z=[aA (.int c),aA (.int 6),aA (.ref m),a,b])/\Kp h h'/\m<h'.nx/\∃tb:Wk,h'.ob m=aA (.lst aB<|tb.map cX)/\tb.length=i/\∀p∈tb,1<=p.1/\1<=p.2/\p.2<=16) (by rw[eF];decide) ⟨⟨_,_,rfl⟩,k1,l1,[],o1,rfl,λp hp=>by cases hp⟩ ?_ ?_
 .rintro i Z h' hi ⟨⟨a,b,rfl⟩,kp,lm,tb,om,tl,ht⟩
  have app:∀p:Int×Int,1<=p.1/\1<=p.2/\p.2<=16->∀{Q:AV->AH->Prop},(∀h'',(Kp h h''/\m<h''.nx/\∃tb:Wk,h''.ob m=aA (.lst aB<|tb.map cX)/\tb.length=i+1/\∀p∈tb,1<=p.1/\1<=p.2/\p.2<=16)->Q .aH h'')->WC (tT (.ref m)<|cX p) h' Q:=λp hp Q q=>by
   refine WC.of<|ai om (by rw[aR];omega)<|q _ ⟨kp.put (by omega),lm,tb++[p],by rw[bP,gJ];rfl,by rw[dC,tl];rfl,λp' hp'=>?_⟩;rcases List.mem_append.mp hp' with z|z
   .exact ht p' z
   .rw[List.mem_singleton.mp z];exact hp
  refine gX _<|fE _<|oW (by omega) (by omega) λz z0 z1=>aE.dc (λ_=>?_) λ_=>?_
  .exact aE.t (uA om)<|app (1+z / 4%8,1+z / 32%6) ⟨by omega,by omega,by omega⟩ λh'' y=>⟨⟨_,_,rfl⟩,y⟩
  .exact aE.t (uA om)<|app (1+z / 4%2,1+z / 8%4) ⟨by omega,by omega,by omega⟩ λh'' y=>⟨⟨_,_,rfl⟩,y⟩
 rintro Z h' ⟨⟨a,b,rfl⟩,kp,lm,tb,om,tl,ht⟩
 exact WC.of<|xD (cH om)<|q _ tb kp ⟨tl,ht⟩
end
section
variable {k:Nat}
theorem HN(hw:kT ws)(w0:wd w):kT (ws++[w]):=λx a=>by
 rcases List.mem_append.mp a with z|z
 .exact hw x z
 .rw[List.mem_singleton.mp z];exact w0
noncomputable abbrev aJd:aQ:=bK (bK<|bK<|bK Tn)
theorem FO{c o:Int}{b:Bool}{m room:Nat}{bx:WK}(om:h.ob m=aA (.lst aB<|bx.map AV.int))(hm:m<h.nx)(r1:room<=80)(q:∀h' mem,Kp h h'->kT mem->mem.length=room->R (.tup [.int 0,.tup (bx.map AV.int),.tup (mem.map AV.int)]) h') :
  dU (run pg<|k+1) aJd [aA (.int c),aA (.int o),aA (.bl b),aA (.ref m),aA (.int v),aA (.int room),aD] h (λ_ h1=>R .aH h1) R (λ_ _=>False) λ_ _=>False:=by
 have big:sizeLine=16777216:=pI;refine WC.of ?_;with_reducible refine ak ?_
 with_reducible refine Bf ?_
 refine⟨sf (by omega) (by omega),?_⟩;refine Vd (λi ys Z h'=>h'=h/\(∃a,Z=[a,aA (.int o)])/\∃ws:WK,ys=ws.map AV.int/\ws.length=i/\kT ws) (by rw[eF];omega) ⟨rfl,⟨_,rfl⟩,[],rfl,rfl,nofun⟩ ?_ ?_
 .rintro i ys Z h' hi ⟨rfl,⟨a,rfl⟩,ws,rfl,wl,hw⟩
  refine tw<|cF _<|oW (by omega) (by omega) λz z0 z1=>ud z0 z1 λw hw2=>⟨by rw[aR];omega,rfl,⟨_,rfl⟩,ws++[w],by rw[gJ];rfl,by rw[dC,wl];rfl,HN hw hw2⟩
 rintro ys Z h' ⟨rfl,⟨a,rfl⟩,ws,rfl,wl,hw⟩
 exact WC.of<|xD (cH<|(Kp.refl.new (a:=h')).get hm om)<|WC.of<|xD (cH bJ)<|q _ ws Kp.refl.new hw (by rw[wl];omega)
theorem aJe{c o:Int}{b:Bool}(q:∀h' bx mem,Kp h h'->kT bx->bx.length=8->kT mem->0<mem.length->mem.length<=80->R (.tup [.int 0,.tup (bx.map AV.int),.tup (mem.map AV.int)]) h'):WC (run pg (k+2) 45 [.int c,.int o,.bl b]) h R:=by
 have big:sizeLine=16777216:=pI;refine aS rfl rfl<|WC.of<|ak<|Bf ?_;refine⟨sf (by omega) (by omega),?_⟩;refine Vd (λi y A h'=>h'=h/\(∃a,A=[a,aA (.int c)])/\∃ws:WK,y=ws.map AV.int/\ws.length=i/\kT ws) (by rw[eF];decide) ⟨rfl,⟨_,rfl⟩,[],rfl,rfl,λw hw=>by cases hw⟩ ?_ ?_
 .rintro i y A h' E ⟨rfl,⟨a,rfl⟩,ws,rfl,wl,hw⟩
  have E:i<8:=E;refine tw<|cF _<|oW (k:=k) (by omega) (by omega) λz p s=>ud (k:=k) p s λw d=>⟨by rw[aR];omega,rfl,⟨_,rfl⟩,ws++[w],by rw[gJ];rfl,by rw[dC,wl];rfl,HN hw d⟩
 rintro y A h' ⟨rfl,⟨a,rfl⟩,ws,rfl,wl,hw⟩
 have wl:ws.length=8:=wl;have k1:Kp h' (h'.new<|.lst aB<|ws.map AV.int):=Kp.refl.new;have B:(h'.new<|.lst aB<|ws.map AV.int).ob h'.nx=aA (.lst aB<|ws.map AV.int):=bJ;have l1:h'.nx<(h'.new<|.lst aB<|ws.map AV.int).nx:=cM _;generalize h'.new (.lst aB<|ws.map AV.int)=t at k1 B l1 ⊢;generalize h'.nx=J at B l1 ⊢;refine oW (k:=k) (by decide) (by decide) λz p s=>?_;have k2:Kp h' (t.new<|.lst aB [.int 16,.int 64]):=k1.new;have u:=(Kp.refl.new (a:=t) (o:=.lst aB [.int 16,.int 64])).get l1 B;have l2:J<(t.new<|.lst aB [.int 16,.int 64]).nx:=kG l1;refine Jo (by split<;>decide) (by split<;>decide) (λv N=>?_) bJ;generalize t.new (.lst aB [.int 16,.int 64])=n at k2 u l2 ⊢;refine oW (k:=k) (by decide) (by decide) λz p s=>aE.dt (by omega) ?_;cases b with
 |false=>have C:0<=z%v:=mC _ (by omega);have K:z%v<v:=mQ _ (by omega);obtain⟨r,hr⟩:=ax C;have:=FO (k:=k) (c:=c) (o:=o) (v:=v) (b:=aG) (R:=R) u l2 (room:=1+r) (by omega) λD mem kp hm hl=>q _ ws mem (k2.trans kp) hw wl hm (by omega) (by omega);rw[show((1+r:Nat):Int)=1+z%v by omega]at this;exact this
 |true=>
  obtain⟨e,a1,a2,f,g,j,l,m,rfl⟩:=GY wl;refine oW (k:=k) (by decide) (by decide) λz p s=>aE.dt (by omega) ?_;refine jm<|WC.of<|Bd u ?_;have x:=(Kp.refl.new (a:=n) (o:=.lst aB (iM ([e,a1,a2,f,g,j,l,m].map AV.int) aD<|aA 5))).get l2 u;have F:(n.new<|.lst aB<|iM ([e,a1,a2,f,g,j,l,m].map AV.int) aD<|aA 5).ob n.nx=aA (.lst aB [.int e,.int a1,.int a2,.int f,.int g]):=bJ;have G:Kp h' (n.new<|.lst aB<|iM ([e,a1,a2,f,g,j,l,m].map AV.int) aD<|aA 5):=k2.new;have H:n.nx<(n.new<|.lst aB<|iM ([e,a1,a2,f,g,j,l,m].map AV.int) aD<|aA 5).nx:=cM _;generalize n.new (.lst aB<|iM ([e,a1,a2,f,g,j,l,m].map AV.int) aD<|aA 5)=I at x F G H ⊢;refine WC.of<|eU (cH x) rfl<|WC.of<|eU (cH x) rfl<|WC.of<|eU (cH x) rfl ?_;refine WC.of<|Ng ((Kp.refl.new (a:=I)).get H F) bJ (by simp;omega) ?_;have C:0<=z%(v-6):=mC _ (by omega);have K:z%(v-6)<v-6:=mQ _ (by omega);obtain⟨r,hr⟩:=ax C;have L:Kp h' ((I.new<|.lst aB [.int (1+j%4),.int (l%4),.int (m%4)]).new (.lst aB<|[.int e,.int a1,.int a2,.int f,.int g]++[.int (1+j%4),.int (l%4),.int (m%4)])):=G.new.new;have M:kT [e,a1,a2,f,g,1+j%4,l%4,m%4]:=λw d=>by
   simp only[uj,ba,or_false]at d;rcases d with rfl|rfl|rfl|rfl|rfl|rfl|rfl|rfl
   .exact hw _ (by simp)
   .exact hw _ (by simp)
   .exact hw _ (by simp)
   .exact hw _ (by simp)
   .exact hw _ (by simp)
   .omega
   .omega
   .omega
  have:=FO (k:=k) (c:=c) (o:=o) (v:=v) (b:=aB) (R:=R) bJ (cM _) (room:=7+r) (by omega) λD mem kp hm hl=>q _ _ mem (L.trans kp) M rfl hm (by omega) (by omega);rw[show((7+r:Nat):Int)=7+z%(v-6) by omega]at this;exact this
end
theorem ec{bx:WK}(hw:kT bx){i:Int}:wd (cell bx i):=by
 unfold cell;rw[vF];cases e:bx[i.toNat]? with
 |none=>exact⟨by decide,by decide⟩|some v=>exact hw v<|bM e
theorem Ss(a0:0<=a)(b0:0<=b):0<=rH a b/\rH a b<=a/\rH a b<=b:=by have e1:rH a b=((a.toNat &&& b.toNat:Nat):Int):=PyProof.Rows.bitAnd_pp a0 b0;have l1:a.toNat &&& b.toNat<=a.toNat:=Nat.and_le_left;have l2:a.toNat &&& b.toNat<=b.toNat:=Nat.and_le_right;omega
theorem BP:∀(n:Nat) {x y:Int},0<=x->0<=y->x<2 ^ n->y<2 ^ n->x+y-rH x y<2 ^ n
 |0,x,y,x0,a,b,c=>by have e:2 ^ 0=1:=rfl;have:=Ss x0 a;omega
 |n+1,x,y,x0,a,b,c=>by
  have e:(2:Int) ^ (n+1)=2*2 ^ n:=by omega
  have f:=BP n (x:=x / 2) (y:=y / 2) (by omega) (by omega) (by omega) (by omega);have d:=W.kbt_halves x y;split at d<;>omega
theorem aOp{w:eH}(a0:0<=a)(a1:a<18446744073709551616)(b0:0<=b)(b1:b<18446744073709551616)(hz:¬(w.sr=aB/\b=0)):0<=w.wk a b/\w.wk a b<18446744073709551616:=by
 have f:=PyProof.Rows.bitOr_and a b;have g:=bitXor_and a b;have l1:=Ss a0 b0;have h:2 ^ 64=18446744073709551616:=rfl;have l2:=BP 64 a0 b0 (a1) (b1);have hb:w.sr=aB->0<b:=λe=>(Oo b0).resolve_right λz=>hz ⟨e,z.symm⟩;have c:∀d:Int,0<d->0<=a / d/\a / d<18446744073709551616:=λd hd=>⟨Oj a0 (Int.le_of_lt hd),Int.lt_of_le_of_lt (Int.ediv_le_self d a0) a1⟩;cases w with
 |sum=>exact⟨mC _ (by decide),mQ _ (by decide)⟩|less=>exact⟨mC _ (by decide),mQ _ (by decide)⟩|times=>exact⟨mC _ (by decide),mQ _ (by decide)⟩|share=>exact c b<|hb rfl|rest=>exact⟨mC _ (by have:=hb rfl;omega),vD (mQ _<|hb rfl) b1⟩|both=>show 0<=rH a b/\rH a b<_;omega|su=>show 0<=js a b/\js a b<_;omega|odd=>show 0<=jt a b/\jt a b<_;omega|up=>exact⟨mC _ (by decide),mQ _ (by decide)⟩|down=>exact c _<|IM (by decide)|below=>show 0<=(if a<b then 1 else 0)/\(if a<b then 1 else 0)<_;split<;>omega|same=>show 0<=(if a=b then 1 else 0)/\(if a=b then 1 else 0)<_;split<;>omega
structure Sd where
 pc:Int
 bx:WK
 mem:WK
def Sd.av(s:Sd):AV:=.tup [.int s.pc,.tup (s.bx.map AV.int),.tup (s.mem.map AV.int)]
structure Sd.ok(s:Sd):Prop where
 pc:0<=s.pc
 bl:s.bx.length=8
 bw:kT s.bx
 mw:kT s.mem
theorem Nq(hw:kT ws)(hv:wd v):kT (ws.set i v):=λx a=>by
 rcases Cd a with z|z
 .exact hw x z
 .rw[z];exact hv
def mP(tb:Wk)(r:aM):Int:=(tb.getD r.cA.toNat (1,1)).2
variable {sd':Sd}
section
abbrev Dc(β:Type):=List (Int×β)
variable {β:Type}{e:β->AV}{l:Dc β}{v:β}
def dE(e:β->AV)(l:Dc β):List (aN×AV):=l.map λp=>(.inl p.1,e p.2)
def aW(l:Dc β)(x:Int):Option β:=(l.find? λp=>decide (p.1=x)).map (·.2)
def eR(l:Dc β)(x:Int)(v:β):Dc β:=if(l.any λp=>decide (p.1=x))=aB then l.map (λp=>if p.1=x then(p.1,v) else p) else l++[(x,v)]
def mX(l:Dc β)(x:Int):Dc β:=l.filter λp=>decide (p.1≠x)
theorem yj:((rP a:aN)=rP b)=(a=b):=propext ⟨LN,congrArg _⟩
theorem iA:bR (dE e l) (.inl x)=(aW l x).map e:=by unfold bR aW dE;rw[List.find?_map,KP,KP];simp only[ju,yj]
theorem uI:jC (dE e l) (.inl x) (e v)=dE e (eR l x v):=by
 unfold jC eR dE;rw[IV];simp only[ju,yj];split
 .rw[hB,hB];refine Cb λp _=>?_;by_cases a:p.1=x
  .simp only[ju,a,if_true]
  .simp only[ju,if_neg a,if_neg (show¬(rP p.1:aN)=rP x by rw[yj];exact a)]
 .rw[gJ];rfl
theorem xk:tO (dE e l) (.inl x)=dE e (mX l x):=by unfold tO mX dE;rw[List.filter_map];simp only[ju,ne_eq,yj]
theorem mG:(dE e l).length=l.length:=aR ..
theorem CJ:(eR l x v).length<=l.length+1:=by unfold eR;split<;>simp
theorem rh(h:aW l x=aD):eR l x v=l++[(x,v)]:=by unfold eR;rw[if_neg];intro z;obtain⟨p,a,e⟩:=List.any_eq_true.mp z;exact List.find?_eq_none.mp (Option.map_eq_none_iff.mp h) p a e
theorem gi(h:aW l x=aA v):(x,v)∈l:=by obtain⟨p,a,rfl⟩:=Option.map_eq_some_iff.mp h;have b:=Bv a;simp only[decide_eq_true_eq]at b;subst b;exact(xK a)
theorem mL(nd:(l.map (·.1)).Nodup)(h:(x,v)∈l):aW l x=aA v:=by
 unfold aW;induction l with
 |nil=>cases h|cons p l a=>
  rw[hA,List.nodup_cons]at nd;rw[nK];rcases List.mem_cons.mp h with rfl|h'
  .simp
  .have:decide (p.1=x)=aG:=decide_eq_false λz=>nd.1 (List.mem_map.mpr ⟨_,h',z.symm⟩);rw[this];exact a nd.2 h'
theorem fj{d c:Ex}{imp:WU}{rest:List (Option AV)}{f:Int×β->Bool}(hd:aL F d Z h = .ok (.ref n) h)(ho:h.ob n=aA (.aP<|dE e l))(hn:n<h.nx)(hl:l.length<1000)(hs:mJ imp Z=aD::rest)
  (hc:∀p∈l,wT F c (aA (.int p.1)::rest) (h.put n<|.dD<|dE e l) λb h'=>b=f p/\h'=h.put n (.dD<|dE e l))
  (q:V1 (.ref h.nx) (h.new<|.lst aB<|(l.filter f).map λp=>AV.int p.1)):WC (aL F (.kB d<|.vZ imp (.nm 0) (.aP d) c<|.var 0) Z) h V1:=by
 have big:=jE;refine WC.of<|aPp hd ho hn ?_;rw[hs];refine Va (λj a Z h'=>(∃v0,Z=v0::rest)/\a=(((l.take j).filter f).map λp=>AV.int p.1)/\h'=h.put n (.dD<|dE e l)) (by rw[aR,mG,eF];omega) ⟨⟨aD,rfl⟩,rfl,rfl⟩ (λj x a Z h' g y=>?_)<|λa Z h' y=>?_
 .obtain⟨⟨v0,rfl⟩,rfl,rfl⟩:=y;unfold dE at g;rw[hB,fR]at g;obtain⟨p,hr,rfl⟩:=Option.map_eq_some_iff.mp g;have i:l.take (j+1)=l.take j++[p]:=by rw[pG,hr];rfl
  refine(oE c<|hc p<|bM hr).mono λb k z=>?_;obtain⟨rfl,rfl⟩:=z;split
  .rename_i hb;refine⟨?_,⟨_,rfl⟩,?_,rfl⟩
   .have m:((l.take j).filter f).length<=(l.take j).length:=pF _ _;have o:(l.take j).length<=l.length:=by rw[kW];omega
    rw[aR];omega
   .rw[i,sX,gJ,gC,if_pos hb];rfl
  .rename_i hb;refine⟨⟨_,rfl⟩,?_,rfl⟩;rw[i,sX,gC,if_neg hb];simp
 .obtain⟨⟨v0,rfl⟩,rfl,rfl⟩:=y;refine⟨rfl,?_⟩;rw[aR,mG,pH];exact q
theorem VM{d c:Ex}{imp:WU}{rest:List (Option AV)}{f:Int×β->AV}(hd:aL F d Z h = .ok (.ref n) h)(ho:h.ob n=aA (.aP<|dE e l))(hn:n<h.nx)(hl:l.length<1000)(hs:mJ imp Z=aD::rest)
  (hc:∀p∈l,wE F c (aA (.int p.1)::rest) (h.put n<|.dD<|dE e l) λv h'=>v=f p/\h'=h.put n (.dD<|dE e l))
  (q:V1 (.ref h.nx) (h.new<|.lst aB<|l.map f)):WC (aL F (.kB d<|.vY imp (.nm 0) (.aP d) c) Z) h V1:=by
 have big:=jE;refine WC.of<|aPo hd ho hn ?_;rw[hs];refine UK (λj a Z h'=>(∃v0,Z=v0::rest)/\a=(l.take j).map f/\h'=h.put n (.dD<|dE e l)) (by rw[aR,mG,eF];omega) ⟨⟨aD,rfl⟩,rfl,rfl⟩ (λj x a Z h' g y=>?_)<|λa Z h' y=>?_
 .obtain⟨⟨v0,rfl⟩,rfl,rfl⟩:=y;unfold dE at g;rw[hB,fR]at g;obtain⟨p,hr,rfl⟩:=Option.map_eq_some_iff.mp g;refine(cF c<|hc p<|bM hr).mono λb i z=>?_;obtain⟨rfl,rfl⟩:=z;refine⟨?_,⟨_,rfl⟩,?_,rfl⟩
  .rw[aR,kW];omega
  .rw[pG,hr,gJ];rfl
 .obtain⟨⟨v0,rfl⟩,rfl,rfl⟩:=y;refine⟨rfl,?_⟩;rw[aR,mG,pH];exact q
end
variable {bg bg':Dc (Int×Ft)}{dQ gon' sto':Dc Int}{kf:Dc Nat}{kp':Dc (Ft×Ft)}
section
variable {β:Type}{e:β->AV}{l:Dc β}
theorem rA{a b:Nat}{x y:bC}(e1:h.ob a=aA x)(e2:h.ob b=aA y)(n:x≠y):a≠b:=λz=>n (by rw[z,e2]at e1;exact(dJ e1).symm)
theorem Kx.get(g:Kx S h h'){o:Option bC}(hn:n<h.nx)(ns:n∉S)(e:h.ob n=o):h'.ob n=o:=(g.ob n hn ns).trans e
theorem Kx.kp{a b c:AH}(x:Kp a b)(y:Kx S b c):Kx S a c:=(Kx.of x).trans y
theorem Kx.new{S:WT}{a b:AH}{o:bC}(x:Kx S a b):Kx S a (b.new o):=x.trans (Kx.of Kp.refl.new)
theorem VG{t:Int}:mX (l.filter λp=>!ts.contains p.1) t=l.filter λp=>!(ts++[t]).contains p.1:=by unfold mX;rw[List.filter_filter];refine Ou λp _=>?_;by_cases z:p.1=t<;>simp[z]
theorem D5{f:Int->Bool}{t:Int}(hf:f t=aB):aW (l.filter λp=>f p.1) t=aW l t:=by
 unfold aW;induction l with
 |nil=>rfl|cons p l a=>
  rw[gC];by_cases z:p.1=t
  .rw[if_pos (z▸hf)];simp[z]
  .have:decide (p.1=t)=aG:=decide_eq_false z;split
   .rw[nK,nK,this];exact a
   .rw[nK,this];exact a
theorem zp{cs:WT}{f:cW}{fs:List (cW×AV)}{a c:Nat}(ha:Z[0]?=aA (aA<|.ref a))(hj:Z[j]?=aA (aA<|.ref n))(i0:i≠0)(il:i<Z.length)
  (o:h.ob a=aA (.ins c fs))(hc:cs.contains c=aB)(hf:fs.lookup f=aA (.ref d))(od:h.ob d=aA (.aP<|dE e l))(on:h.ob n=aA (.lst aB<|ts.map .int))(hd:d<h.nx)
  (ht:∀t∈ts,(aW l t).isSome)(nd:ts.Nodup)(hl:ts.length<1000)
  (q:∀o' h',Kx [d] h h'->h'.nx=h.nx->h'.ob d=aA (.aP<|dE e<|l.filter λp=>!ts.contains p.1)->N (Z.set i o') h') :
  WB (eL F (.tS (.nm i) (.seq<|.var j)<|.cons (.expr<|.dm .pop (.lD cs f<|.var 0)<|.cons (.var i) .nil) .nil) Z) h N R B C:=by
 have ad:=rA o od (nofun);have r:=rA on od (nofun);refine WB.of<|kD<|kC<|aC.of hj<|mB on ?_;refine nV (λk b h'=>(∃o',b=Z.set i o')/\Kx [d] h h'/\h'.nx=h.nx/\h'.ob d=aA (.aP<|dE e<|l.filter λp=>!(ts.take k).contains p.1)/\h'.ob n=aA (.lst aB<|ts.map .int)/\h'.ob a=aA (.ins c fs)) (by rw[aR,eF];omega) ?_ (λ_ _ _ y=>y.2.2.2.2.1) (λk x b h' D y=>?_)<|λb h' y=>?_
 .refine⟨⟨Z[i],by simp⟩,Kx.refl,rfl,?_,on,o⟩;rw[od,List.take_zero,show(λp:Int×β=>!([]:WK).contains p.1)=λ_=>aB from rfl,List.filter_eq_self.mpr λ_ _=>rfl]
 .obtain⟨⟨o',rfl⟩,kx,nx,g,A,s⟩:=y;obtain⟨t,u,rfl⟩:=iN D;have tk:t∉ts.take k:=by rw[<- (List.getElem?_eq_some_iff.mp u).2];intro z;obtain⟨m,hm,e⟩:=Ox z;rw[kW]at hm;rw[JO]at e;have:=(Bz nd).mp e;omega
  have E:(aW (l.filter λp=>!(ts.take k).contains p.1) t)=aW l t:=D5 (f:=λx=>!(ts.take k).contains x) (by simp[tk]);have v:=ht t (bM u);rw[<- E]at v;obtain⟨w,hw⟩:=Option.isSome_iff_exists.mp v;have s0:((Z.set i o').set i (aA<|.int t))[0]?=aA (aA<|.ref a):=by rw[jQ i0,jQ i0];exact ha
  have s1:((Z.set i o').set i (aA<|.int t))[i]?=aA (aA<|.int t):=by rw[kE (by simpa)]
  refine gX _ ?_;refine fE _ ?_;refine aC.of s0<|aC.of rfl ?_;refine aC.of s<|aE.t hc<|aC.of hf ?_;refine aE.t (qL g) ?_;refine aC.of s1<|aC.of rfl ?_;refine(WC.of<|Nj g rfl (by rw[iA,hw];rfl) ?_);rw[xk,VG];refine⟨⟨_,by rw[uk]⟩,kx.put (by simp),nx,?_,(bL r).trans A,(bL ad).trans s⟩;rw[bP,pG,u];rfl
 .obtain⟨⟨o',rfl⟩,kx,nx,g,A,s⟩:=y;rw[aR,pH]at g;exact q _ _ kx nx g
end
section
variable {k:Nat}{a:Nat}{wk:Dc (Int×Int)}
def dw(tb:Wk)(d:Nat):List (cW×AV):=[("table",.tup (tb.map cX)),("working",.ref d)]
structure pK(h:AH)(a d:Nat)(tb:Wk)(wk:Dc (Int×Int)):Prop where
 o:h.ob a=aA (.ins 15<|dw tb d)
 od:h.ob d=aA (.aP<|dE cX wk)
 ha:a<h.nx
 hd:d<h.nx
 hl:wk.length<1000
 nd:(wk.map (·.1)).Nodup
theorem pK.Np(B:pK h a d tb wk)(e:Z[i]?=aA (aA<|.ref a)):aL F (.lD [15] "working"<|.var i) Z h = .ok (.ref d) h:=fm (je e) B.o rfl rfl
theorem pK.oz(B:pK h a d tb wk):(h.put d o).ob a=aA (.ins 15<|dw tb d):=(bL<|rA B.o B.od<|nofun).trans B.o
theorem pK.at{p:Int×Int×Int}(B:pK h a d tb wk)(hp:p∈wk):bR (dE cX wk) (.inl p.1)=aA (cX p.2):=by rw[iA,mL B.nd hp];rfl
def lT(wk:Dc (Int×Int))(g:Int):Int:=(wk.filter λp=>decide (p.2.1=g)).length
theorem Xp{g:Int}{t:Int×Int}(B:pK h a d tb wk)(hg:cJ (tb.map cX) g=aA (cX t))(q:∀h',Kp h h'->R (.int<|t.1-lT wk g) h'):WC (run pg (k+1) 84 [.ref a,.int g]) h R:=by
 refine aS rfl rfl<|fj (f:=λp=>decide (p.2.1=g)) (B.Np rfl) B.od B.hd B.hl rfl (λp b=>?_) ?_
 .exact aC.of B.oz<|WC.of<|Bb bP rfl (B.at b) ⟨rfl,rfl⟩
 .refine aC.of (Kp.refl.new.get B.ha B.o)<|aC.of hg ?_;refine WC.of<|kR (cH bJ) ?_;rw[aR];exact q _ Kp.refl.new
theorem aJj{t g:Int}{c:Int×Int}(B:pK h a d tb wk)(hg:cJ (tb.map cX) g=aA (cX c))(hn:aW wk t=aD)(hf:lT wk g<c.1)(q:∀v h',Kx [d] h h'->h'.ob d=aA (.aP<|dE cX<|wk++[(t,g,now+c.2)])->R v h'):WC (run pg (k+2) 85 [.ref a,.int t,.int g,.int now]) h R:=by refine aS rfl rfl<|aC.of B.o<|WC.of<|xC B.od rfl ?_;rw[iA,hn];refine aC.of rfl<|aC.of B.o<|Xp B hg λe k1=>aE.df (by omega) ?_;have b:=k1.get B.ha B.o;refine aC.of b<|aC.of hg<|aC.of b<|vB (k1.get B.hd B.od) rfl (by have:=B.hl;have:=jE;rw[mG];omega) ?_;refine q _ _ ((Kx.of k1).put (by simp)) ?_;rw[bP,show AV.tup [.int g,.int (now+c.2)]=cX (g,now+c.2) from rfl,uI,rh hn]
def pW(wk:Dc (Int×Int))(now:Int):WK:=(wk.filter λp=>decide (p.2.2<=now)).map (·.1)
theorem xo{β:Type}{wk:Dc β}{f:Int×β->Bool}(nd:(wk.map (·.1)).Nodup)(ht:∀x,x∈ts↔x∈(wk.filter f).map (·.1)):(wk.filter λp=>!ts.contains p.1)=wk.filter λp=>!f p:=by
 refine Ou λp b=>?_;congr 1
 rw[jo,List.contains_iff_mem,ht,List.mem_map];constructor
 .rintro ⟨d,a,e⟩
  obtain⟨a,g⟩:=List.mem_filter.mp a;have c:=mL nd a;rw[e,mL nd b]at c;have:d=p:=Pu e (dJ c).symm;rw[<- this];exact g
 .exact λz=>⟨p,List.mem_filter.mpr ⟨b,z⟩,rfl⟩
theorem xn{β:Type}{wk:Dc β}{f:Int×β->Bool}(nd:(wk.map (·.1)).Nodup):∀t∈(wk.filter f).map (·.1),(aW wk t).isSome:=λt ht=>by obtain⟨p,a,rfl⟩:=List.mem_map.mp ht;rw[mL nd (List.mem_filter.mp a).1];rfl
theorem nA{β:Type}{l:Dc β}{f:Int×β->Bool}(nd:(l.map (·.1)).Nodup):((l.filter f).map (·.1)).Nodup:=vE (List.filter_sublist.map _) nd
theorem Md(r:Bool)(ns:WK):(kM r ns).Perm ns:=JS ..
theorem VN(B:pK h a d tb wk)(hl:wk.length<64)(q:∀n h',Kx [d] h h'->h'.ob d=aA (.aP<|dE cX<|wk.filter λp=>!decide (p.2.2<=now))->h.nx<=n->n<h'.nx->h'.ob n=aA (.lst aB<|(kM aG<|pW wk now).map .int)->R (.ref n) h'):WC (run pg (k+1) 86 [.ref a,.int now]) h R:=by
 have pm:=Md aG (pW wk now);refine aS rfl rfl<|fj (f:=λp=>decide (p.2.2<=now)) (B.Np rfl) B.od B.hd B.hl rfl (λp c=>?_) ?_
 .exact aC.of B.oz<|WC.of<|Bb bP rfl (B.at c) ⟨rfl,rfl⟩
 have lf:(pW wk now).length<=wk.length:=by unfold pW;rw[aR];exact pF ..
 refine WC.of<|aOc (ns:=pW wk now) (by rw[bJ];unfold pW;rw[hB];rfl) (by omega) ?_;refine zp rfl rfl (by decide) (show 3<4 by decide) (Kp.refl.new.new.get B.ha B.o) rfl rfl (Kp.refl.new.new.get B.hd B.od) bJ (kG<|kG B.hd) (λt ht=>xn B.nd t (pm.mem_iff.mp ht)) (pm.nodup_iff.mpr<|nA B.nd) (by rw[pm.length_eq];omega) λe h' kx nx b=>?_;rw[xo B.nd λx=>pm.mem_iff]at b;exact q (h.nx+1) h' (Kx.kp Kp.refl.new.new kx) b (iJ _) (by rw[nx];exact cM _)<|kx.get (cM _) (by simp;have:=B.hd;omega) bJ
theorem SZ{t:Int}(B:pK h a d tb wk)(q:∀v h',Kx [d] h h'->h'.ob d=aA (.aP<|dE cX<|wk.filter λp=>!decide (t<=p.1))->R v h'):WC (run pg (k+1) 88 [.ref a,.int t]) h R:=by refine aS rfl rfl<|fj (B.Np rfl) B.od B.hd B.hl rfl (λp c=>⟨rfl,rfl⟩) ?_;refine zp rfl rfl (by decide) (show 3<4 by decide) (Kp.refl.new.get B.ha B.o) rfl rfl (Kp.refl.new.get B.hd B.od) (by rw[bJ,hB];rfl) (kG B.hd) (xn B.nd) (nA B.nd) (by rw[aR];exact jz (pF ..) B.hl) λe h' kx nx b=>?_;rw[xo B.nd λx=>Oh]at b;refine WC.of<|kR (cH<|kx.get (cM _) (by simp;have:=B.hd;omega) bJ)<|q _ h' (Kx.kp Kp.refl.new kx) b
end
section
variable {k:Nat}{a b:Nat}{kp:Dc (Ft×Ft)}
def lG(p:Ft×Ft):AV:=.tup [oI p.1,oI p.2]
def lQ(p:Int×Ft):AV:=.tup [.int p.1,oI p.2]
structure kZ(h:AH)(a d b:Nat)(kp:Dc (Ft×Ft))(bg:Dc (Int×Ft)):Prop where
 o:h.ob a=aA (.ins 17 [("kept",.ref d),("begun",.ref b)])
 od:h.ob d=aA (.aP<|dE lG kp)
 ob:h.ob b=aA (.aP<|dE lQ bg)
 ha:a<h.nx
 hd:d<h.nx
 hb:b<h.nx
 ne:d≠b
 lk:kp.length<64
 lb:bg.length<64
 nk:(kp.map (·.1)).Pairwise (·<·)
 nb:(bg.map (·.1)).Nodup
theorem kZ.nd(S:kZ h a d b kp bg):(kp.map (·.1)).Nodup:=S.nk.imp λh=>by omega
theorem kZ.oz(S:kZ h a d b kp bg):(h.put d o).ob a=aA (.ins 17 [("kept",.ref d),("begun",.ref b)]):=(bL<|rA S.o S.od<|nofun).trans S.o
theorem aJn{t:Int}(S:kZ h a d b kp bg)(hb:aW bg t=aD)(hk:∀p∈kp,p.1<t)(q:∀v h',Kx [d] h h'->h'.ob d=aA (.aP<|dE lG<|kp++[(t,aD,aD)])->R v h'):WC (run pg (k+1) 95 [.ref a,.int t]) h R:=by
 have hn:aW kp t=aD:=Option.eq_none_iff_forall_ne_some.mpr λv e=>by have:=hk _ (gi e);omega
 refine aS rfl rfl<|aC.of S.o<|WC.of<|xC S.ob rfl ?_;rw[iA,hb];refine aC.of rfl<|VM (fm (je rfl) S.o rfl rfl) S.od S.hd (by have:=S.lk;omega) rfl (λp c=>⟨rfl,rfl⟩) ?_;refine WC.of<|aNd (by rw[bJ,hB];rfl) ?_;rw[show(kp.map λp=>decide (t<=p.1)).any id=aG from by
  rw[IV,IT];intro p c;have:=hk p c;simp;omega]
 have k1:Kp h (h.new<|.lst aB<|kp.map λp=>AV.bl (decide<|t<=p.1)):=Kp.refl.new;refine aC.of (k1.get S.ha S.o)<|vB (k1.get S.hd S.od) rfl (by have:=S.lk;have:=jE;rw[mG];omega) ?_;refine q _ _ ((Kx.of k1).put (by simp)) ?_;rw[bP,show AV.tup [.aH,.aH]=lG (aD,aD) from rfl,uI,rh hn]
theorem aOr{t:Int}{p:Ft}(S:kZ h a d b kp bg)(hk:aW kp t=aA (p,aD))(q:∀v,R v (h.put d<|.aP<|dE lG<|eR kp t (p,aA w))):WC (run pg (k+1) 98 [.ref a,.int t,.int w]) h R:=by refine aS rfl rfl<|aC.of S.o<|aE.t rfl<|aC.of rfl<|aE.t (qL S.od)<|WC.of<|Nh S.od rfl ?_;rw[iA,hk];refine aC.of S.o<|vB S.od rfl (by have:=S.lk;have:=jE;rw[mG];omega) ?_;rw[show AV.tup [oI p,.int w]=lG (p,aA w) from rfl,uI];exact q _
theorem D6{t:Int}{g:Ft}(S:kZ h a d b kp bg)(hb:aW bg t=aD)(hk:aW kp t=aD)(q:∀v,R v (h.put b<|.aP<|dE lQ<|bg++[(t,p,g)])):WC (run pg (k+1) 100 [.ref a,.int t,.int p,oI g]) h R:=by refine aS rfl rfl<|aC.of S.o<|WC.of<|xC S.ob rfl ?_;rw[iA,hb];refine aC.of rfl<|aC.of S.o<|WC.of<|xC S.od rfl ?_;rw[iA,hk];refine aC.of rfl<|aC.of S.o<|vB S.ob rfl (by have:=S.lb;have:=jE;rw[mG];omega) ?_;rw[show AV.tup [.int p,oI g]=lQ (p,g) from rfl,uI,rh hb];exact q _
theorem C9{t:Int}{v:Ft×Ft}(S:kZ h a d b kp bg)(hk:aW kp t=aA v)(q:∀v,R v (h.put d<|.aP<|dE lG<|mX kp t)):WC (run pg (k+1) 101 [.ref a,.int t]) h R:=by refine aS rfl rfl<|aC.of S.o<|WC.of<|xC S.od rfl ?_;rw[iA,hk];refine aC.of rfl<|aC.of S.o<|aE.t rfl<|aC.of rfl<|aE.t (qL S.od)<|WC.of<|Nj S.od rfl (by rw[iA,hk];rfl) ?_;rw[xk];exact q _
theorem C8{t:Int}{v:Int×Ft}(S:kZ h a d b kp bg)(hk:aW kp t=aD)(hb:aW bg t=aA v)(q:∀v,R v (h.put b<|.aP<|dE lQ<|mX bg t)):WC (run pg (k+1) 101 [.ref a,.int t]) h R:=by refine aS rfl rfl<|aC.of S.o<|WC.of<|xC S.od rfl ?_;rw[iA,hk];refine aC.of rfl<|aC.of S.o<|WC.of<|xC S.ob rfl ?_;rw[iA,hb];refine aC.of rfl<|aC.of S.o<|aE.t rfl<|aC.of rfl<|aE.t (qL S.ob)<|WC.of<|Nj S.ob rfl (by rw[iA,hb];rfl) ?_;rw[xk];exact q _
end
section
variable {k:Nat}{a b:Nat}{kp:Dc (Ft×Ft)}
theorem Kx.putN{x y:AH}(g:Kx S x y)(hn:x.nx<=n):Kx S x (y.put n o):=⟨g.nx,λm hm a=>(bL<|cC<|bF hm hn).trans (g.ob m hm a)⟩
theorem Kx.Ms{x y:AH}(g:Kx [n] x y)(e:x.ob n=aA o):Kp x (y.put n o):=⟨g.nx,λm hm=>by
 by_cases z:m=n
 .rw[z,bP,e]
 .exact(bL z).trans (g.ob m hm (by simpa))⟩
def mF(t p:Int)(q:Int×Int×Ft):Bool:=decide (t<q.1)&&(decide (q.2.1=p)&&match q.2.2 with|none=>aB|some g=>decide (g<t))
theorem SS{t:Int}(S:kZ h a d b kp bg)(q:∀n h',Kp h h'->h'.ob n=aA (.lst aB<|(bg.filter<|mF t p).map λq=>.int q.1)->R (.ref n) h'):WC (run pg (k+1) 97 [.ref a,.int t,.int p]) h R:=by
 have big:=jE;have lb:=S.lb;have hb:=S.hb;have k0:Kp h (h.new<|.lst aB []):=Kp.refl.new;refine aS rfl rfl<|WB.of<|aQa (kvs:=dE lQ bg) (fm (je rfl) (k0.get S.ha S.o) rfl rfl) (k0.get hb S.ob) ?_;refine g9 (λj Z h'=>(∃v4 v5,Z=[aA (.ref a),aA (.int t),aA (.int p),aA (.ref h.nx),v4,v5])/\Kx [b] h h'/\h'.ob b=aA (.dD<|dE lQ bg)/\h'.ob h.nx=aA (.lst aB<|((bg.take j).filter (mF t p)).map λq=>.int q.1)/\h.nx<h'.nx) (by rw[aR,mG,eF];omega) ?_ (λj x Z h' hx y=>?_)<|λZ h' y=>?_
 .exact⟨⟨_,_,rfl⟩,(Kx.of k0).put (by simp),bP,(bL<|tB hb).trans bJ,cM _⟩
 .obtain⟨⟨v4,v5,rfl⟩,kx,q1,q2,lt⟩:=y;unfold dE at hx;rw[hB,fR]at hx;obtain⟨⟨o,pl,g⟩,hr,rfl⟩:=Option.map_eq_some_iff.mp hx;have oa:=kx.get S.ha (by simpa using rA S.o S.ob (nofun)) S.o;have va:bR (dE lQ bg) (.inl o)=aA (.tup [.int pl,oI g]):=by rw[iA,mL S.nb (bM hr)];rfl
  have et:bg.take (j+1)=bg.take j++[(o,pl,g)]:=by rw[pG,hr];rfl
  have no:mF t p (o,pl,g)=aG->h'.ob h.nx=aA (.lst aB<|((bg.take<|j+1).filter (mF t p)).map λq=>.int q.1):=λe=>by rw[q2,et,sX,gC,e];simp
  have yes:mF t p (o,pl,g)=aB->WC (tT (.ref h.nx)<|.int o) h' λ_ h2=>Kx [b] h h2/\h2.ob b=aA (.dD<|dE lQ bg)/\h2.ob h.nx=aA (.lst aB<|((bg.take<|j+1).filter (mF t p)).map λq=>.int q.1)/\h.nx<h2.nx:=λe=>by
   have l1:((bg.take j).filter (mF t p)).length<=(bg.take j).length:=pF ..;have l2:(bg.take j).length<=bg.length:=by rw[kW];omega
   refine WC.of<|ai q2 (by rw[aR];omega) ⟨kx.putN (aV _),(bL<|cC hb).trans q1,?_,lt⟩;rw[bP,et,sX,gC,e,gJ];rfl
  refine gX _<|fE _<|aC.of oa<|WC.of<|Bb q1 rfl va ?_;refine aE.dc (λc1=>?_) λc1=>⟨⟨_,_,rfl⟩,kx,q1,no (by unfold mF;rw[decide_eq_false c1];rfl),lt⟩;refine aC.of oa<|WC.of<|Bb q1 rfl va<|aE.dc (λc2=>?_) λc2=>⟨⟨_,_,rfl⟩,kx,q1,no (by unfold mF;rw[decide_eq_false c2,Bool.false_and,Bool.and_false]),lt⟩;have fin:=λe=>WC.of ((yes e).we.mono λv h2 z=>(show(∃v4 v5,[aA (.ref a),aA (.int t),aA (.int p),aA (.ref h.nx),aA (.int o),aA (oI g)]=[aA (.ref a),aA (.int t),aA (.int p),aA (.ref h.nx),v4,v5])/\_ from⟨⟨_,_,rfl⟩,z⟩));cases g with
  |none=>exact aE.t (uA q2)<|fin (by unfold mF;rw[decide_eq_true c1,decide_eq_true c2];rfl)|some g=>exact aE.dc (λc3=>aE.t (uA q2) (fin (by unfold mF;rw[decide_eq_true c1,decide_eq_true c2];exact decide_eq_true c3))) λc3=>⟨⟨_,_,rfl⟩,kx,q1,no (by unfold mF;rw[decide_eq_true c1,decide_eq_true c2];exact decide_eq_false c3),lt⟩
 .obtain⟨⟨v4,v5,rfl⟩,kx,q1,q2,lt⟩:=y;refine⟨q1,q _ _ (kx.Ms S.ob) ((bL<|tB hb).trans ?_)⟩;rw[aR,mG,pH]at q2;exact q2
end
section
variable {k:Nat}{a b:Nat}{kp:Dc (Ft×Ft)}
def zb(l:WK):Ft:=if l.isEmpty then aD else aA (sI l)
def pQ(bg:Dc (Int×Ft))(t p:Int):Ft:=zb ((bg.filter<|mF t p).map (·.1))
theorem BB(h:d<n):n∉[d]:=λz=>by rw[List.mem_singleton.mp z]at h;exact oH _ h
theorem zr{β:Type}{l:Dc β}{v w:β}(h:aW l x=aA w):(eR l x v).map (·.1)=l.map (·.1):=by unfold eR;rw[if_pos (List.any_eq_true.mpr ⟨_,gi h,by simp⟩),hB];refine Cb λp _=>?_;simp only[ju];split<;>rfl
theorem kZ.putK{t:Int}{v w:Ft×Ft}(S:kZ h a d b kp bg)(hk:aW kp t=aA w):kZ (h.put d<|.aP<|dE lG<|eR kp t v) a d b (eR kp t v) bg:=
 ⟨S.oz,bP,(bL S.ne.symm).trans S.ob,S.ha,S.hd,S.hb,S.ne,by rw[<- aR,zr hk,aR];exact S.lk,S.lb,by rw[zr hk];exact S.nk,S.nb⟩
theorem Y8{t:Int}{w:Ft}(S:kZ h a d b kp bg)(hk:aW kp t=aA (aD,w))(q:∀h',Kp (h.put d<|.aP<|dE lG<|eR kp t (aA p,w)) h'->R (oI<|pQ bg t p) h'):WC (run pg (k+2) 96 [.ref a,.int t,.int p]) h R:=by
 refine aS rfl rfl<|aC.of S.o<|aE.t rfl<|aC.of rfl<|aE.t (qL S.od)<|WC.of<|Nh S.od rfl ?_;rw[iA,hk];refine aC.of S.o<|vB S.od rfl (by have:=S.lk;have:=jE;rw[mG];omega) ?_;rw[show AV.tup [.int p,oI w]=lG (aA p,w) from rfl,uI];have e:=S.putK (v:=(aA p,w)) hk;refine aC.of e.o<|SS e λn h' c on=>?_;refine WC.of<|aNu (by rw[on,hB];rfl) ?_;have:=q h' c;unfold pQ zb at this;split at this<;>rename_i z
 .rw[if_pos z];exact this
 .rw[if_neg z];exact this
def uD(p:Int)(dr:Bool):List (Int×Ft×Ft)->Option (Option<|Int×Int)
 |[]=>aA aD
 | (t,sp,w)::l=>if sp=aD/\dr=aG then aD else if sp=aA p then w.map λw=>aA (t,w) else uD p dr l
def D8:Option (Option<|Int×Int)->AV
 |none=>.aH
 |some aD=>.tup [.aH,.aH]
 |some (aA (t,w))=>.tup [.int t,.int w]
theorem E2{t:Int}(S:kZ h a d b kp bg)(q:∀h',Kp h h'->R (D8<|uD p dr (kp.filter λq=>decide (q.1<t)).reverse) h'):WC (run pg (k+1) 99 [.ref a,.int t,.int p,.bl dr]) h R:=by
 have lk:=S.lk;have lf:(kp.filter λq=>decide (q.1<t)).length<=kp.length:=pF ..;refine aS rfl rfl<|fj (f:=λq=>decide (q.1<t)) (fm (je rfl) S.o rfl rfl) S.od S.hd (by omega) rfl (λp hp=>⟨rfl,rfl⟩) ?_;have srt:kM aB ((kp.filter λq=>decide (q.1<t)).map (·.1))=((kp.filter λq=>decide (q.1<t)).reverse.map (·.1)):=by rw[List.map_reverse];exact aIw<|vE (List.filter_sublist.map _) S.nk
 refine WB.of<|kD<|kC<|WC.of<|aOe (ns:=(kp.filter λq=>decide (q.1<t)).map (·.1)) (by rw[bJ,hB];rfl) (by rw[aR];omega) ?_;rw[srt];generalize el:(kp.filter λq=>decide (q.1<t)).reverse=l at q ⊢;have ll:l.length<64:=by rw[<- el,Oy];omega
 have hm:∀q∈l,q∈kp:=λq hq=>by rw[<- el]at hq;exact(List.mem_filter.mp<|List.mem_reverse.mp hq).1
 refine mB bJ ?_;have k2:∀{o1 o2:bC},Kp h ((h.new o1).new o2):=Kp.refl.new.new;refine nV (n:=h.nx+1) (bb:=aB) (xs:=(l.map (·.1)).map AV.int) (λj Z h'=>(∃v5 v6 v7,Z=[aA (.ref a),aA (.int t),aA (.int p),aA (.bl dr),aA (.ref h.nx),v5,v6,v7])/\Kp h h'/\uD p dr l=uD p dr (l.drop j)/\h'.ob (h.nx+1)=aA (.lst aB<|(l.map (·.1)).map .int)) (by rw[aR,aR,eF];omega) ⟨⟨_,_,_,rfl⟩,k2,rfl,bJ⟩ (λ_ _ _ y=>y.2.2.2) (λj x Z h' hx y=>?_)<|λZ h' y=>?_
 .obtain⟨⟨v5,v6,v7,rfl⟩,kx,e,on⟩:=y;rw[hB]at hx;obtain⟨⟨o,sp,w⟩,hr,rfl⟩:=iN hx;have hj:=(List.getElem?_eq_some_iff.mp hr).1;have de:l.drop j=(o,sp,w)::l.drop (j+1):=by rw[Ot hj,(List.getElem?_eq_some_iff.mp hr).2]
  rw[de]at e;have oa:=kx.get S.ha S.o;have od:=kx.get S.hd S.od;have va:bR (dE lG kp) (.inl o)=aA (.tup [oI sp,oI w]):=by rw[iA,mL S.nd (hm _<|bM hr)];rfl
  have q':=q h' kx;rw[e]at q';refine gX _<|fE _<|aC.of oa<|WC.of<|ua (k:=.inl o) od rfl va<|aC.of oa<|WC.of<|ua (k:=.inl o) od rfl va ?_;cases sp with
  |none=>
   cases dr with
   |false=>exact q'|true=>exact WC.of<|Ba (b:=aG) rfl ⟨⟨_,_,_,rfl⟩,kx,e,on⟩
  |some sp=>
   refine aE.dc (λc=>?_) λc=>⟨⟨_,_,_,rfl⟩,kx,?_,on⟩
   .subst c;unfold uD at q';rw[if_neg (λz=>nomatch z.1),if_pos rfl]at q';cases w<;>exact q'
   .rw[e];show(if aA sp=aD/\dr=aG then aD else if aA sp=aA p then _ else _)=_;rw[if_neg (λz=>nomatch z.1),if_neg λz=>c (dJ z)]
 .obtain⟨⟨v5,v6,v7,rfl⟩,kx,e,on⟩:=y;rw[aR,aR,Bt]at e;have q':=q h' kx;rw[e]at q';exact q'
theorem aJl{t:Int}(S:kZ h a d b kp bg)(q:∀v h',Kx [d,b] h h'->h'.ob d=aA (.aP<|dE lG<|kp.filter λp=>!decide (t<=p.1))->h'.ob b=aA (.aP<|dE lQ<|bg.filter λp=>!decide (t<=p.1))->R v h'):WC (run pg (k+1) 102 [.ref a,.int t]) h R:=by
 have lk:=S.lk;have lb:=S.lb;have k1:∀{o:bC},Kp h (h.new o):=Kp.refl.new;refine aS rfl rfl<|fj (f:=λq=>decide (t<=q.1)) (fm (je rfl) S.o rfl rfl) S.od S.hd (by omega) rfl (λp hp=>⟨rfl,rfl⟩) ?_;refine(fj (f:=λq=>decide (t<=q.1)) (fm (je rfl) (k1.get S.ha S.o) rfl rfl) (k1.get S.hb S.ob) (kG S.hb) (by omega) rfl (λp hp=>⟨rfl,rfl⟩) ?_);have k2:∀{o1 o2:bC},Kp h ((h.new o1).new o2):=Kp.refl.new.new;have hd:=S.hd;have hb:=S.hb;refine zp (e:=lG) (l:=kp) (ts:=(kp.filter λp=>decide (t<=p.1)).map (·.1)) (j:=2) (n:=h.nx) rfl rfl (by decide) (show 4<5 by decide) (k2.get S.ha S.o) rfl rfl (k2.get S.hd S.od) (by rw[eA (cC<|cM h.nx),bJ,hB];rfl) (bF hd k2.nx) (xn S.nd) (nA S.nd) (by rw[aR];have:=pF (λp:Int×Ft×Ft=>decide (t<=p.1)) kp;omega) λo' h3 kx nx q1=>?_;have ka:=Kx.kp k2 kx;refine zp (e:=lQ) (l:=bg) (ts:=(bg.filter λp=>decide (t<=p.1)).map (·.1)) (j:=3) (n:=h.nx+1) rfl rfl (by decide) (show 4<5 by decide) (ka.get S.ha (by simpa using rA S.o S.od (λz=>nomatch z)) S.o) rfl rfl (ka.get hb (by simpa using S.ne.symm) S.ob) ((kx.get (cM _) (BB<|kG hd) bJ).trans (by rw[hB];rfl)) (bF hb ka.nx) (xn S.nb) (nA S.nb) (by rw[aR];have:=pF (λp:Int×Int×Ft=>decide (t<=p.1)) bg;omega) λo'' h4 kx' nx' q2=>?_;rw[xo S.nd λx=>Oh]at q1;rw[xo S.nb λx=>Oh]at q2;have lx:h.nx+2<=h3.nx:=by rw[nx];exact aV _
 have c1:∃xs,h4.ob h.nx=aA (.lst aB xs):=⟨_,kx'.get (by omega) (by simp;omega) (kx.get (kG<|cM _) (by simp;omega)<|(eA<|cC<|cM h.nx).trans bJ)⟩;have c2:∃xs,h4.ob (h.nx+1)=aA (.lst aB xs):=⟨_,kx'.get (by omega) (by simp;omega) (kx.get (cM _) (BB<|kG hd) bJ)⟩;obtain⟨x1,c1⟩:=c1;obtain⟨x2,c2⟩:=c2;refine WC.of<|kR (cH c1)<|WC.of<|kR (cH c2)<|q _ h4 ?_ ?_ q2
 .exact(ka.sub (by simp)).trans (kx'.sub (by simp))
 .exact kx'.get (bF hd ka.nx) (by simpa using S.ne) q1
end
section
variable {k:Nat}{a:Nat}{fl:Int->WK}
structure kY(h:AH)(a d:Nat)(kf:Dc Nat)(fl:Int->WK):Prop where
 o:h.ob a=aA (.ins 16 [("filled",.ref d)])
 od:h.ob d=aA (.aP<|dE AV.ref kf)
 ha:a<h.nx
 hd:d<h.nx
 nd:(kf.map (·.1)).Nodup
 lk:kf.length<64
 ls:∀x f,aW kf x=aA f->f<h.nx/\h.ob f=aA (.lst aB<|(fl x).map .int)
 no:∀x,aW kf x=aD->fl x=[]
 inj:∀x y f,aW kf x=aA f->aW kf y=aA f->x=y
 lf:∀x,(fl x).length<100000
theorem kY.keep(S:kY h a d kf fl)(g:Kp h h'):kY h' a d kf fl:=⟨g.get S.ha S.o,g.get S.hd S.od,bF S.ha g.nx,bF S.hd g.nx,S.nd,S.lk,λx f e=>⟨bF (S.ls x f e).1 g.nx,g.get (S.ls x f e).1 (S.ls x f e).2⟩,S.no,S.inj,S.lf⟩
theorem kY.ld(S:kY h a d kf fl){f:Nat}(e:aW kf x=aA f):f≠d:=rA (S.ls x f e).2 S.od (nofun)
theorem kY.la(S:kY h a d kf fl){f:Nat}(e:aW kf x=aA f):f≠a:=rA (S.ls x f e).2 S.o (nofun)
theorem Zu{t:Int}(e:l.getLast?=aA t):cJ (l.map AV.int) (-1)=aA (.int t):=by
 have hl:l≠[]:=λz=>by rw[z]at e;cases e
 have:=List.length_pos_iff.mpr hl;rw[show -1 = -((1:Nat):Int) from rfl,MV (by decide) (by rw[aR];exact this),aR,fR];rw[aQu]at e;rw[e];rfl
theorem Yo(S:kY h a d kf fl)(q:∀h',Kp h h'->R (oI (fl x).getLast?) h'):WC (run pg (k+1) 91 [.ref a,.int x]) h R:=by
 have k1:∀{o:bC},Kp h (h.new o):=Kp.refl.new;have k2:∀{i j:bC},Kp h ((h.new i).new j):=Kp.refl.new.new;have fin:∀{n:Nat} {h':AH}{o:bC},Kp h (h'.new<|.lst aB [])->n≠h'.nx->h'.ob n=aA (.lst aB<|(fl x).map .int)->WC (Cp.g .ne (.ref n)<|.ref h'.nx) (h'.new<|.lst aB []) λz g=>aC (rV z) λb=>aE b (WC (Op.g .ix (.ref n)<|.int<|-1) g R) (R .aH g):=λ{n h' o} kp hn on=>by
  have c:=(eA (o:=.lst aB []) hn).trans on;refine WC.of<|Nl rfl (xl c bJ) ?_;cases e:(fl x).getLast? with
  |none=>have:=q _ kp;rw[e]at this;rw[(List.getLast?_eq_none_iff.mp e)];exact this
  |some t=>
   have hl:¬((fl x).map AV.int=[]):=λz=>by rw[List.map_eq_nil_iff.mp z]at e;cases e
   rw[decide_eq_false hl];have:=q _ kp;rw[e]at this;exact WC.of<|eU (cH c) (Zu e) this
 refine aS rfl rfl<|aC.of S.o<|aE.t rfl<|aC.of rfl<|aE.t (qL S.od)<|WC.of<|Ni (k1.get S.hd S.od) rfl ?_;rw[iA];cases e:aW kf x with
 |none=>exact fin (o:=.lst aB []) k2 (cC<|cM _) (by rw[S.no x e];exact bJ)|some f=>have lf:=S.ls x f e;exact fin (o:=.lst aB []) k2 (cC<|kG lf.1)<|k1.get lf.1 lf.2
theorem n9{xs:WK}(S:kY h a d kf fl)(hx:xs.length<64)(q:∀h',Kp h h'->R (.tup<|xs.map λx=>oI (fl x).getLast?) h'):WC (run pg (k+2) 92 [.ref a,.tup (xs.map .int)]) h R:=by
 have big:=jE;refine aS rfl rfl ?_;refine WC.of<|ak ?_;refine kC<|aC.of rfl<|aC.of rfl<|Nn ?_;refine Ve (λj b c h'=>(∃v0,c=[v0,aA (.ref a)])/\b=(xs.take j).map (λx=>oI (fl x).getLast?)/\Kp h h') (by rw[aR,eF];omega) ⟨⟨_,rfl⟩,rfl,Kp.refl⟩ (λj x b c h' hx y=>?_)<|λb c h' y=>?_
 .obtain⟨⟨v0,rfl⟩,rfl,kp⟩:=y;obtain⟨x,hr,rfl⟩:=iN hx;refine cF _ (aC.of (kp.get S.ha S.o)<|Yo (S.keep kp) λe k2=>⟨?_,⟨_,rfl⟩,?_,kp.trans k2⟩)
  .rw[aR,kW];omega
  .rw[pG,hr,gJ];rfl
 .obtain⟨⟨v0,rfl⟩,rfl,kp⟩:=y;rw[aR,pH];exact WC.of<|xD (cH bJ)<|q _ kp.new
end
section
variable {k:Nat}{a:Nat}{fl:Int->WK}
theorem HH(e:h.ob n=aA (.aP kvs))(q:V1 (.ref h.nx) (h.new<|.lst aB<|kvs.map λp=>sF p.1)):We (Bi.g .list [.ref n]) h V1:=by show We (zB [.ref n]) h V1;unfold We zB oA jW;simp only[jJ,dS,Fi,e];exact q
def kO(fl:Int->WK)(x:Int)(l:WK):Int->WK:=λy=>if y=x then l else fl y
theorem Zn:(dE AV.ref kf).map (λp=>sF p.1)=kf.map λp=>AV.int p.1:=by unfold dE;rw[hB];rfl
structure Rv(h h':AH)(d x:Nat)(kf kf':Dc Nat)(b:Int):Prop where
 kx:Kx (d::(aW kf b).toList) h h'
 old:∀y,y≠b->aW kf' y=aW kf y
 new:∃f,aW kf' b=aA f/\(aW kf b=aA f\/aW kf b=aD/\h.nx<=f)
theorem qv{β:Type}{l:Dc β}{v:β}:aW (l++[(x,v)]) y=(aW l y).or (if x=y then aA v else aD):=by unfold aW;rw[Bu,Option.map_or];by_cases z:x=y<;>simp[z]
theorem d6{t:Int}(S:kY h a d kf fl)(hk:kf.length<60)(hf:∀y u,(fl y).getLast?=aA u->u<t)(hl:(fl x).length<99999)(q:∀v kf' h',kY h' a d kf' (kO fl x<|fl x++[t])->Rv h h' d 0 kf kf' x->kf'.length<=kf.length+1->R v h'):WC (run pg (k+2) 90 [.ref a,.int t,.int x]) h R:=by
 have big:=jE;have lx:(kf.map λp=>AV.int p.1).length=kf.length:=aR ..;refine aS rfl rfl<|WB.of<|kD<|kC<|aC.of S.o<|WC.of<|HH S.od ?_;rw[Zn];refine mB bJ ?_;generalize eh:h.new (.lst aB<|kf.map λp=>AV.int p.1)=h0;have k0:Kp h h0:=eh▸Kp.refl.new;have n0:h.nx<h0.nx:=by rw[<- eh];exact cM _
 have on:h0.ob h.nx=aA (.lst aB<|kf.map λp=>AV.int p.1):=eh▸bJ;refine nV (n:=h.nx) (bb:=aB) (xs:=kf.map λp=>AV.int p.1) (λj Z h'=>(∃v3 v4,Z=[aA (.ref a),aA (.int t),aA (.int x),v3,v4])/\Kp h0 h') (by rw[lx,eF];omega) ⟨⟨_,_,rfl⟩,Kp.refl⟩ (λ_ _ _ y=>y.2.get n0 on) (λj y Z h' hx z=>?_)<|λZ h' z=>?_
 .obtain⟨⟨v3,v4,rfl⟩,kp⟩:=z;obtain⟨p,hr,rfl⟩:=iN hx;have S':=S.keep (k0.trans kp);refine gX _<|fE _<|aC.of S'.o<|Yo (k:=k) S' λh2 k2=>?_;have kq:=kp.trans k2;cases e:(fl p.1).getLast? with
  |none=>exact⟨⟨_,_,rfl⟩,kq⟩|some u=>exact aE.df (by have:=hf _ _ e;omega) ⟨⟨_,_,rfl⟩,kq⟩
 .obtain⟨⟨v3,v4,rfl⟩,kp⟩:=z;have kq:=k0.trans kp;have S':=S.keep kq;have k1:∀{o:bC},Kp h' (h'.new o):=Kp.refl.new;have S2:=S'.keep (k1 (o:=.lst aB []));have nx:=kq.nx;refine aC.of S'.o (aE.t rfl<|aC.of rfl<|aE.t (qL S'.od)<|WC.of<|aNi (k:=.inl x) S2.od rfl (by rw[mG];omega) (λv e=>?_) λe=>?_)
  .rw[iA]at e;obtain⟨f,ef,rfl⟩:=Option.map_eq_some_iff.mp e;obtain⟨f1,f2⟩:=S2.ls x f ef;have f3:=(S.ls x f ef).1;refine aE.t (uA f2)<|WC.of<|ai f2 (by rw[aR];have:sizeLine=16777216:=pI;omega) ?_;refine q _ kf _ ⟨(bL (S2.la ef).symm).trans S2.o,(bL (S2.ld ef).symm).trans S2.od,S2.ha,S2.hd,S.nd,S.lk,λy g eg=>?_,λy ey=>?_,S.inj,λy=>?_⟩ ⟨((Kx.of<|kq.trans k1).put (by rw[ef];simp)),λ_ _=>rfl,f,ef,.inl ef⟩ (iJ _)
   .refine⟨(S2.ls y g eg).1,?_⟩;unfold kO;by_cases z:y=x
    .subst z;rw[ef]at eg;cases eg;rw[bP,if_pos rfl,gJ];rfl
    .rw[if_neg z,bL (show g≠f from λw=>z (S.inj y x f (w▸eg) ef))];exact(S2.ls y g eg).2
   .unfold kO;rw[if_neg λz=>by rw[z,ef]at ey;cases ey];exact S.no y ey
   .unfold kO;split
    .rw[dC];exact xM hl
    .exact S.lf y
  .rw[iA,KO]at e;have f0:=S.no x e;rw[uI,rh e];have hh:h'.nx≠d:=tB S'.hd;have og:((h'.new<|.lst aB []).put d (.aP<|dE AV.ref<|kf++[(x,h'.nx)])).ob h'.nx=aA (.lst aB []):=(bL hh).trans bJ;refine aE.t (uA og)<|WC.of<|ai og (bF (by decide)<|mR big) ?_;have lo:∀{y g},aW kf y=aA g->g<h'.nx:=λeg=>(S'.ls _ _ eg).1;refine q _ (kf++[(x,h'.nx)]) _ ⟨(bL<|cC S'.ha).trans ((bL<|rA S2.o S2.od<|λz=>nomatch z).trans S2.o),(bL hh.symm).trans bP,S2.ha,S2.hd,?_,by rw[dC];exact bF (xM hk) (by decide),λy g eg=>?_,λy ey=>?_,λy z g e1 e2=>?_,λy=>?_⟩ ⟨((Kx.of<|kq.trans k1).put (by simp)).putN nx,λy hy=>?_,h'.nx,?_,.inr ⟨e,nx⟩⟩ (by rw[dC];exact aV _)
   .rw[gJ,JT];refine⟨S.nd,by simp,λy hy z hz=>?_⟩;obtain⟨p,hp,rfl⟩:=List.mem_map.mp hy;rw[List.mem_singleton.mp hz];intro w;have w':p.1=x:=w;have:=mL S.nd hp;rw[w',e]at this;cases this
   .rw[qv]at eg;unfold kO;by_cases z:y=x
    .subst z;rw[e,if_pos rfl]at eg;cases eg;refine⟨cM _,?_⟩;rw[bP,if_pos rfl,f0];rfl
    .rw[if_neg λw=>z w.symm,bh]at eg;refine⟨kG (lo eg),?_⟩;rw[if_neg z,bL (cC<|lo eg),bL (S2.ld eg)];exact(S2.ls y g eg).2
   .rw[qv]at ey;unfold kO;by_cases z:y=x
    .subst z;rw[if_pos rfl]at ey;cases h8:aW kf y<;>rw[h8]at ey<;>cases ey
    .rw[if_neg λw=>z w.symm,bh]at ey;rw[if_neg z];exact S.no y ey
   .rw[qv]at e1 e2;by_cases z1:y=x<;>by_cases z2:z=x
    .rw[z1,z2]
    .subst z1;rw[e,if_pos rfl]at e1;cases e1;rw[if_neg λw=>z2 w.symm,bh]at e2;exact absurd (lo e2)<|oH _
    .subst z2;rw[e,if_pos rfl]at e2;cases e2;rw[if_neg λw=>z1 w.symm,bh]at e1;exact absurd (lo e1)<|oH _
    .rw[if_neg λw=>z1 w.symm,bh]at e1;rw[if_neg λw=>z2 w.symm,bh]at e2;exact S.inj y z g e1 e2
   .unfold kO;split
    .rw[dC];exact xM hl
    .exact S.lf y
   .rw[qv,if_neg λw=>hy w.symm,bh]
   .rw[qv,e,if_pos rfl];rfl
end
section
variable {k:Nat}{a:Nat}{fl:Int->WK}
def lU(t:Int)(l:WK):WK:=(l.reverse.dropWhile λu=>decide (t<=u)).reverse
theorem CF{t:Int}:lU t (l++[u])=if t<=u then lU t l else l++[u]:=by
 unfold lU;rw[List.reverse_append];show(List.dropWhile _<|u::l.reverse).reverse=_;by_cases z:t<=u
 .simp[z]
 .simp[z]
theorem CD(t:Int)(l:WK):(lU t l).length<=l.length:=by unfold lU;rw[Oy];have:=(JA (λu=>decide (t<=u)) (l:=l.reverse)).length_le;rw[Oy]at this;exact this
theorem aIv(h:l≠[]):∃m u,l=m++[u]:=⟨l.dropLast,l.getLast h,(aQo h).symm⟩
theorem Z6{f:Nat}{t z:Int}{v3:AV}(of:h.ob f=aA (.lst aB<|l.map .int))(hf:f<h.nx)(hl:l.length<100000)
  (q:∀z' h',Kx [f] h h'->h'.ob f=aA (.lst aB<|(lU t l).map .int)->N [aA (.ref a),aA (.int t),aA (.int z'),aA v3,aA (.ref f)] h') :
  Wt (vA (dP F<|.and (.cmp .ne (.var 4)<|.lst .nil)<|.cmp .ge (.op .ix (.var 4)<|.neg<|.val<|.int 1)<|.var 1) (jA F<|.cons (.expr<|.rg<|.var 4)<|.cons (.aug aG 2<|.val<|.int 1) .nil) FU [aA (.ref a),aA (.int t),aA (.int z),aA v3,aA (.ref f)]) h N R B C:=by
 refine ub (λi j h'=>i<=l.length/\∃(z':Int) (m:WK),m.length+i=l.length/\j=[aA (.ref a),aA (.int t),aA (.int z'),aA v3,aA (.ref f)]/\Kx [f] h h'/\h'.ob f=aA (.lst aB<|m.map .int)/\lU t l=lU t m) l.length (λi j h' y=>y.1) (λi j h' y=>?_) FU 0 _ h (by rw[eF];omega) ⟨jR _,z,l,rfl,rfl,Kx.refl,of,rfl⟩;obtain⟨_,z',m,em,rfl,kx,k,e⟩:=y;have b:=(eA (o:=.lst aB [])<|cC<|bF hf kx.nx).trans k;refine oE _<|WC.of<|Nl rfl (xl b bJ) ?_;by_cases c:m=[]
 .subst c;exact q z' _ kx.new<|e▸b
 .have n:¬(m.map AV.int=[]):=λw=>c (List.map_eq_nil_iff.mp w);rw[decide_eq_false n];obtain⟨d,u,rfl⟩:=aIv c;rw[dC]at em;have p:((d++[u]).map AV.int)=d.map AV.int++[.int u]:=gJ ..;refine aC.of rfl<|WC.of<|eU (cH b) (Zu (by rw[List.getLast?_concat])) ?_;show if decide (t<=u)=aB then _ else _
  by_cases g:t<=u
  .rw[if_pos (decide_eq_true g)];rw[p]at b;rw[CF,if_pos g]at e;refine fE _<|WC.of<|aPk<|cF _<|aC.of rfl<|aC.of rfl<|aOb b ?_;have r:d.length+1+i=l.length:=em;exact⟨by omega,_,d,by omega,rfl,kx.new.put (.head _),bP,e⟩
  .rw[if_neg (by simpa using g)];rw[CF,if_neg g]at e;exact q z' _ kx.new<|e▸b
theorem L7{t:Int}(S:kY h a d kf fl)(q:∀v h',kY h' a d kf (λx=>lU t (fl x))->Kx (kf.map (·.2)) h h'->R v h'):WC (run pg (k+1) 93 [.ref a,.int t]) h R:=by
 have big:=jE;have lx:(kf.map λp=>AV.int p.1).length=kf.length:=aR ..;have lk:=S.lk;refine aS rfl rfl<|WB.of<|kD<|kC<|aC.of S.o<|WC.of<|HH S.od ?_;rw[Zn];refine mB bJ ?_;have hv:∀p∈kf,aW kf p.1=aA p.2:=λp hp=>mL S.nd hp;have hs:∀{x f},aW kf x=aA f->f∈kf.map (·.2):=λe=>List.mem_map.mpr ⟨_,gi e,rfl⟩;refine nV (n:=h.nx) (bb:=aB) (xs:=kf.map λp=>AV.int p.1) (λj Z h'=>(∃z v3 v4,Z=[aA (.ref a),aA (.int t),aA (.int z),v3,v4])/\kY h' a d kf (λx=>if x∈(kf.take j).map (·.1) then lU t (fl x) else fl x)/\Kx (kf.map (·.2)) h h'/\h'.ob h.nx=aA (.lst aB<|kf.map λp=>AV.int p.1)/\h.nx<h'.nx) (by rw[lx,eF];omega) ⟨⟨_,_,_,rfl⟩,?_,Kx.of Kp.refl.new,bJ,cM _⟩ (λ_ _ _ y=>y.2.2.2.1) (λj y Z h' hx w=>?_)<|λZ h' w=>?_
 .have:(λx=>if x∈(kf.take 0).map (·.1) then lU t (fl x) else fl x)=fl:=by funext x;simp
  rw[this];exact S.keep Kp.refl.new
 .obtain⟨⟨z,v3,v4,rfl⟩,S',kx,on,lt⟩:=w;obtain⟨⟨x,f⟩,hr,rfl⟩:=iN hx;have ef:=hv _ (bM hr);obtain⟨f1,f2⟩:=S'.ls x f ef;have fo:=(S.ls x f ef).1;refine gX _<|fE _<|aC.of S'.o<|WC.of<|ua (k:=.inl x) S'.od rfl (by rw[iA,ef];rfl)<|WB.of<|Bl<|Z6 f2 f1 (S'.lf x) λz' h2 k2 o2=>?_;have ne:∀{m:Nat},m≠f->m∉[f]:=λhm w=>hm (List.mem_singleton.mp w);have xin:x∉(kf.take j).map (·.1):=by
   intro w;obtain⟨p,hp,e⟩:=List.mem_map.mp w;obtain⟨m,hm,e2⟩:=Ox hp;rw[kW]at hm;rw[JO]at e2;have hj:=(List.getElem?_eq_some_iff.mp hr).1;have e3:(kf.map (·.1))[m]'(by rw[aR];omega)=(kf.map (·.1))[j]'(by rw[aR];omega):=by rw[JM,JM,e2,(List.getElem?_eq_some_iff.mp hr).2];exact e
   have:=(Bz S.nd).mp e3;omega
  have tk:kf.take (j+1)=kf.take j++[(x,f)]:=by rw[pG,hr];rfl
  refine⟨⟨_,_,_,rfl⟩,⟨k2.get S'.ha (ne (S'.la ef).symm) S'.o,k2.get S'.hd (ne (S'.ld ef).symm) S'.od,bF S'.ha k2.nx,bF S'.hd k2.nx,S.nd,S.lk,λy g eg=>⟨bF (S'.ls y g eg).1 k2.nx,?_⟩,λy ey=>?_,S.inj,λy=>?_⟩,kx.trans (k2.sub λm hm=>by rw[List.mem_singleton.mp hm];exact hs ef),k2.get lt (ne<|tB fo) on,bF lt k2.nx⟩
  .rw[tk,gJ];by_cases c:y=x
   .subst c;rw[ef]at eg;cases eg;rw[o2,if_neg xin,if_pos (by simp)]
   .have c':y∈(kf.take j).map (·.1)++[(x,f)].map (·.1)↔y∈(kf.take j).map (·.1):=by simp[c]
    have:=k2.get (S'.ls y g eg).1 (ne λw=>c (S.inj y x f (w▸eg) ef)) (S'.ls y g eg).2;rw[this];simp only[c']
  .rw[S.no y ey];split<;>rfl
  .have:=CD t (fl y);have:=S.lf y;split<;>omega
 .obtain⟨⟨z,v3,v4,rfl⟩,S',kx,on,lt⟩:=w;refine q _ h' ?_ kx;have:(λx=>if x∈(kf.take (kf.map λp=>AV.int p.1).length).map (·.1) then lU t (fl x) else fl x)=λx=>lU t (fl x):=by
   funext x
   rw[lx,pH];split
   .rfl
   .rename_i c;rw[S.no x (Option.eq_none_iff_forall_ne_some.mpr λf e=>c (List.mem_map.mpr ⟨_,gi e,rfl⟩))];rfl
  rw[this]at S';exact S'
end
section
structure Sl where
 a:Nat
 tk:Int
 pc:Int
 row:aM
 aX:WY
 ws:WY
 ch:Int
 dr:Bool
 src:Ft
 dZ:Ft
 put:Int
 st:Ft
 fi:Ft
 of:Ft
def Sl.wi(s:Sl):WK:=s.ws.map λw=>w.getD 0
def Sl.ft(room:Int)(s:Sl):Ws:=s.row.ft s.wi room
def Sl.dd(room:Int)(s:Sl):AV:=match s.fi with
 |none=>.aH
 |some _=>s.row.fg s.pc s.wi room (oI s.dZ)
def Sl.lt(room:Int)(s:Sl):eP:=⟨s.tk,s.pc,s.row,s.aX,s.ch,s.dr,s.src,s.dZ,s.dd room,s.put,s.st,s.fi,s.of⟩
structure Cf where
 b:Nat
 rs:List aM
 sz:Int
 wd:Int
 tb:Wk
 gu:Nat
 nv:Nat
 room:Int
 lo:List (Nat×bC)
structure Gh where
 sl:Nat
 kf:Dc Nat
 kd:Nat->Nat
structure Mo where
 slots:List Sl
 ah:Int
 nw:Int
 bG:Int
 jF:Int
 fl:Int->WK
 wk:Dc (Int×Int)
 kp:Dc (Ft×Ft)
 bg:Dc (Int×Ft)
 sd:Sd
 cB:Fu
 gR:Dc Int
 dQ:Dc Int
 brk:Bool
def Mo.wf(m:Mo)(c:Cf)(sl:Nat):List (cW×AV):=[("program",.ref (c.b+2)),("ahead",.int m.ah),("size",.int c.sz),("wide",.int c.wd),("slots",.ref sl),("names",.ref (c.b+4)),("benches",.ref (c.b+6)),("shelf",.ref (c.b+8)),("tickets",.int m.bG),("thrown",.int m.jF),("now",.int m.nw)]
def Mo.lf(m:Mo)(c:Cf):List (cW×AV):=[("state",m.sd.av),("guesser",.ref c.gu),("nerve",.ref c.nv),("slips",.ref (c.b+12)),("storers",.ref (c.b+13)),("gone",.ref (c.b+14)),("broken",.bl m.brk)]
def Mo.fU(m:Mo)(c:Cf)(g:Gh):List (Option bC):=[
 aA (.ins 21 [("window",.ref (c.b+1)),("ledger",.ref (c.b+11))]),aA (.ins 19<|m.wf c g.sl),aA (.lst aB<|c.rs.map aM.av),aD,
 aA (.ins 16 [("filled",.ref (c.b+5))]),aA (.aP<|dE AV.ref g.kf),aA (.ins 15<|dw c.tb<|c.b+7),aA (.aP<|dE cX m.wk),
 aA (.ins 17 [("kept",.ref (c.b+9)),("begun",.ref (c.b+10))]),aA (.aP<|dE lG m.kp),aA (.aP<|dE lQ m.bg),
 aA (.ins 20<|m.lf c),aA (.lst aB m.cB),aA (.aP<|dE AV.int m.gR),aA (.aP<|dE AV.int m.dQ)]
def Mo.dyn(m:Mo)(c:Cf)(g:Gh)(k:Nat):Option (Nat×bC):=
 if k=15 then aA (g.sl,.lst aB (m.slots.map λs=>.ref s.a))
 else if k<30 then(aW g.kf<|(k:Int)-16).map λf=>(f,.lst aB ((m.fl<|(k:Int)-16).map .int))
 else(m.slots.find? λs=>decide (s.tk=((k:Int)-30) / 2)).map λs=>if k%2=0 then(s.a,.ins 18 ((s.lt c.room).fs (s.a+2))) else(s.a+2,.lst aB (s.ws.map oI))
structure iY(b:Nat)(kd:Nat->Nat)(l:List (Option bC))(r:Nat->Option (Nat×bC))(h:AH):Prop where
 st:∀i o,l[i]?=aA (aA o)->kd (b+i)=i/\b+i<h.nx/\h.ob (b+i)=aA o
 dy:∀k n o,15<=k->r k=aA (n,o)->kd n=k/\b<=n/\n<h.nx/\h.ob n=aA o
variable {b:Nat}{l:List (Option bC)}{r r':Nat->Option (Nat×bC)}
theorem iY.keep(x:iY b kd l r h)(g:Kp h h'):iY b kd l r h':=
 ⟨λi o e=>⟨(x.st i o e).1,bF (x.st i o e).2.1 g.nx,g.get (x.st i o e).2.1 (x.st i o e).2.2⟩,λk n o a e=>have z:=x.dy k n o a e;⟨z.1,z.2.1,bF z.2.2.1 g.nx,g.get z.2.2.1 z.2.2.2⟩⟩
theorem iY.low(x:iY b kd l r h)(nx:h.nx<=h'.nx)(e:∀i,i<h.nx->b<=i->h'.ob i=h.ob i):iY b kd l r h':=
 ⟨λi o f=>have z:=x.st i o f;⟨z.1,bF z.2.1 nx,(e _ z.2.1 (rM ..)).trans z.2.2⟩,λk n o a f=>have z:=x.dy k n o a f;⟨z.1,z.2.1,bF z.2.2.1 nx,(e _ z.2.2.1 z.2.1).trans z.2.2.2⟩⟩
theorem Zl(x:iY b kd l r h){k:Nat}(e:l[i]?=aA (aA o))(hn:kd n=k)(hk:k≠i):b+i≠n:=λz=>hk (by rw[<- hn,<- z];exact(x.st i o e).1)
theorem iY.wM(x:iY b kd l r h)(hi:i<15)(e:l[i]?=aA (aA o))(g:Kx [b+i] h h')(e':h'.ob (b+i)=aA o'):iY b kd (l.set i<|aA o') r h':=by
 refine⟨λj d a=>?_,λk n on f m=>?_⟩
 .by_cases c:j=i
  .subst c;rw[kE (List.getElem?_eq_some_iff.mp e).1]at a;cases a;have z:=x.st j o e;exact⟨z.1,bF z.2.1 g.nx,e'⟩
  .rw[jQ λw=>c w.symm]at a;have z:=x.st j d a;exact⟨z.1,bF z.2.1 g.nx,g.get z.2.1 (by simp;omega) z.2.2⟩
 .have z:=x.dy k n on f m;exact⟨z.1,z.2.1,bF z.2.2.1 g.nx,g.get z.2.2.1 (λw=>Zl x e z.1 (by omega) (List.mem_singleton.mp w).symm) z.2.2.2⟩
theorem iY.sN(x:iY b kd l r h)(hi:i<15)(e:l[i]?=aA (aA o)):iY b kd (l.set i<|aA o') r (h.put (b+i) o'):=x.wM hi e (Kx.refl.put<|.head _) bP
theorem iY.Zt{k:Nat}(x:iY b kd l r h)(hk:15<=k)(hl:l.length<=15)(e:r k=aA (n,o))(g:Kx [n] h h')(e':h'.ob n=aA o')(er:r' k=aA (n,o'))(hs:∀j p,15<=j->j≠k->r' j=aA p->r j=aA p):iY b kd l r' h':=by
 have y:=x.dy k n o hk e;refine⟨λj d a=>?_,λj i d f a=>?_⟩
 .have z:=x.st j d a;have m:=(List.getElem?_eq_some_iff.mp a).1;exact⟨z.1,bF z.2.1 g.nx,g.get z.2.1 (λw=>Zl x a y.1 (by omega) (List.mem_singleton.mp w)) z.2.2⟩
 .by_cases c:j=k
  .subst c;rw[er]at a;cases a;exact⟨y.1,y.2.1,bF y.2.2.1 g.nx,e'⟩
  .have z:=x.dy j i d f (hs j _ f c a);exact⟨z.1,z.2.1,bF z.2.2.1 g.nx,g.get z.2.2.1 (λw=>c (by rw[<- z.1,<- y.1,List.mem_singleton.mp w])) z.2.2.2⟩
theorem iY.newD{k:Nat}(x:iY b kd l r h)(hk:15<=k)(g:Kp h h')(hn:h.nx<=n)(hn':n<h'.nx)(hb:b<=h.nx)(e':h'.ob n=aA o)(er:r' k=aA (n,o))(hs:∀j p,15<=j->j≠k->r' j=aA p->r j=aA p):iY b (λi=>if i=n then k else kd i) l r' h':=by
 refine⟨λj d a=>?_,λj f d e a=>?_⟩
 .have z:=x.st j d a;exact⟨by rw[if_neg (by omega)];exact z.1,bF z.2.1 g.nx,g.get z.2.1 z.2.2⟩
 .by_cases c:j=k
  .subst c;rw[er]at a;cases a;exact⟨if_pos rfl,(dR ‹_› ‹_›),hn',e'⟩
  .have z:=x.dy j f d e (hs j _ e c a);exact⟨by rw[if_neg (by omega)];exact z.1,z.2.1,bF z.2.2.1 g.nx,g.get z.2.2.1 z.2.2.2⟩
end
abbrev _root_.WX:=List Sl
variable {c:Cf}{g':Gh}{m m':Mo}{ps:WX}{s s' s0 z:Sl}
section
structure Wf(g:Gh)(m:Mo):Prop where
 tk:(m.slots.map (·.tk)).Pairwise (·<·)
 t0:∀s∈m.slots,0<=s.tk
 sn:m.slots.length<64
 sw:∀s∈m.slots,s.ws.length=s.row.nw/\s.aX.length=s.row.nw
 wn:(m.wk.map (·.1)).Nodup
 wl:m.wk.length<64
 kn:(m.kp.map (·.1)).Pairwise (·<·)
 kl:m.kp.length<64
 bn:(m.bg.map (·.1)).Nodup
 bl:m.bg.length<64
 fn:(g.kf.map (·.1)).Nodup
 fk:∀x f,aW g.kf x=aA f->0<=x/\x<8
 fo:∀x,aW g.kf x=aD->m.fl x=[]
 ff:∀x,(m.fl x).length<99999
structure lP(c:Cf)(L:Nat)(K:Nat->WS)(h:AH):Prop where
 T:TH K L h
 g:K c.gu=aA 5
 n:K c.nv=aA 5
 lt:∀j t,K j=aA t->j<c.b
 lo:∀p∈c.lo,K p.1=aD/\p.1<c.b/\h.ob p.1=aA p.2
theorem lP.kl{K:Nat->WS}(z:lP c L K h)(bx:c.b<=h.nx):Kl K h:=λj t e=>bF (z.lt j t e) bx
structure aJ(c:Cf)(g:Gh)(m:Mo)(h:AH):Prop where
 X:iY c.b g.kd (m.fU c g) (m.dyn c g) h
 G:∃K,lP c (2*m.cB.length+10) K h
 W:Wf g m
variable {g:Gh}
theorem aJ.at(r:aJ c g m h)(i:Nat)(e:(m.fU c g)[i]?=aA (aA o):=by rfl):h.ob (c.b+i)=aA o:=(r.X.st i o e).2.2
theorem aJ.lt(r:aJ c g m h)(i:Nat)(e:(m.fU c g)[i]?=aA (aA o):=by rfl):c.b+i<h.nx:=(r.X.st i o e).2.1
theorem aJ.bx(r:aJ c g m h):c.b<=h.nx:=mR (jz (rM ..)<|r.lt 0)
theorem aJ.jZ(r:aJ c g m h):h.ob g.sl=aA (.lst aB<|m.slots.map λs=>.ref s.a)/\g.sl<h.nx/\g.kd g.sl=15:=have z:=r.X.dy 15 g.sl _ (aV _) rfl;⟨z.2.2.2,z.2.2.1,z.1⟩
theorem uV{l:WX}(hs:s∈l)(hp:(l.map (·.tk)).Pairwise (·<·)):l.find? (λz=>decide (z.tk=s.tk))=aA s:=by
 induction l with
 |nil=>cases hs|cons z l a=>
  rw[hA,Ph]at hp;rw[nK];rcases List.mem_cons.mp hs with rfl|hs
  .simp
  .have:decide (z.tk=s.tk)=aG:=decide_eq_false λw=>by have:=hp.1 s.tk (List.mem_map.mpr ⟨s,hs,rfl⟩);lia
   rw[this];exact a hs hp.2
def jU(t:Int):Nat:=30+2*t.toNat
theorem pR{t:Int}(h:0<=t):(((jU t:Nat):Int)-30) / 2=t/\(((jU t+1:Nat):Int)-30) / 2=t/\jU t%2=0/\(jU t+1)%2=1/\30<=jU t:=by obtain⟨n,rfl⟩:=ax h;show((30+2*n:Nat)-30:Int) / 2=n/\((30+2*n+1:Nat)-30:Int) / 2=n/\(30+2*n)%2=0/\(30+2*n+1)%2=1/\30<=30+2*n;lia
theorem wh{t:Int}{k:Nat}(h:0<=t)(e:((k:Int)-30) / 2=t):k=jU t\/k=jU t+1:=by obtain⟨n,rfl⟩:=ax h;show k=30+2*n\/k=30+2*n+1;lia
theorem yS(w:Wf g m)(hs:s∈m.slots):m.dyn c g (jU s.tk)=aA (s.a,.ins 18 ((s.lt c.room).fs (s.a+2))):=by have z:=pR (w.t0 s hs);unfold Mo.dyn;rw[if_neg (by lia),if_neg (by lia),z.1,uV hs w.tk,xO,if_pos z.2.2.1]
theorem yT(w:Wf g m)(hs:s∈m.slots):m.dyn c g (jU s.tk+1)=aA (s.a+2,.lst aB (s.ws.map oI)):=by have z:=pR (w.t0 s hs);unfold Mo.dyn;rw[if_neg (by lia),if_neg (by lia),z.2.1,uV hs w.tk,xO,if_neg (by lia)]
theorem aJ.cK(r:aJ c g m h)(hs:s∈m.slots):h.ob s.a=aA (.ins 18<|(s.lt c.room).fs (s.a+2)):=(r.X.dy _ _ _ (by have:=pR (r.W.t0 s hs);lia)<|yS r.W hs).2.2.2
theorem aJ.jj(r:aJ c g m h)(hs:s∈m.slots):h.ob (s.a+2)=aA (.lst aB<|s.ws.map oI):=(r.X.dy _ _ _ (by have:=pR (r.W.t0 s hs);lia)<|yT r.W hs).2.2.2
theorem aJ.ET(r:aJ c g m h)(hs:s∈m.slots):s.a+2<h.nx:=(r.X.dy _ _ _ (by have:=pR (r.W.t0 s hs);omega)<|yT r.W hs).2.2.1
theorem aJ.wa(r:aJ c g m h):pK h (c.b+6) (c.b+7) c.tb m.wk:=⟨r.at 6,r.at 7,r.lt 6,r.lt 7,by have:=r.W.wl;lia,r.W.wn⟩
theorem aJ.shr(r:aJ c g m h):kZ h (c.b+8) (c.b+9) (c.b+10) m.kp m.bg:=⟨r.at 8,r.at 9,r.at 10,r.lt 8,r.lt 9,r.lt 10,(cC<|cM _),r.W.kl,r.W.bl,r.W.kn,r.W.bn⟩
theorem Zo(w:Wf g m):g.kf.length<=8:=by
 have:=Bs w.fn λx a=>by obtain⟨p,b,rfl⟩:=List.mem_map.mp a;have:=w.fk _ _ (mL w.fn b);obtain⟨n,e⟩:=ax this.1;rw[e]at this ⊢;exact(by decide +kernel:∀n:Nat,n<8->(n:Int)∈([0,1,2,3,4,5,6,7]:WK)) n<|Int.ofNat_lt.mp this.2
 rw[aR]at this;exact this
theorem wF{f:Nat}(w:Wf g m)(e:aW g.kf x=aA f):m.dyn c g (16+x.toNat)=aA (f,.lst aB ((m.fl x).map .int)):=by have:=w.fk x f e;unfold Mo.dyn;rw[if_neg (by lia),if_pos (by lia),show((16+x.toNat:Nat):Int)-16=x by lia,e];rfl
theorem aJ.Iz(r:aJ c g m h):kY h (c.b+4) (c.b+5) g.kf m.fl:=⟨r.at 4,r.at 5,r.lt 4,r.lt 5,r.W.fn,by have:=Zo r.W;lia,λx f e=>have z:=r.X.dy _ _ _ (by omega) (wF r.W e);⟨z.2.2.1,z.2.2.2⟩,r.W.fo,λx y f a b=>by have d:=(r.X.dy _ _ _ (by omega)<|wF r.W b).1;rw[<- Oq (r.W.fk x f a).1,Nat.add_left_cancel (((r.X.dy _ _ _ (by lia)<|wF r.W a).1).symm.trans d),Oq (r.W.fk y f b).1],λx=>by have:=r.W.ff x;lia⟩
theorem lP.low{L':Nat}{K:Nat->WS}(z:lP c L K h)(hl:L<=L')(e:∀n,n<c.b->h'.ob n=h.ob n):lP c L' K h':=⟨λn t f=>((z.T.le hl) n t f).imp λ_ y=>⟨(e n<|z.lt n t f).trans y.1,y.2⟩,z.g,z.n,z.lt,λp a=>have y:=z.lo p a;⟨y.1,y.2.1,(e _ y.2.1).trans y.2.2⟩⟩
theorem Kx.lowG(x:Kx S h h')(hb:c.b<=h.nx)(hs:∀n∈S,c.b<=n):∀n,n<c.b->h'.ob n=h.ob n:=λn hn=>x.ob n (bF hn hb) λz=>oH _ (bF hn<|hs n z)
theorem aJ.keep(r:aJ c g m h)(k:Kp h h'):aJ c g m h':=⟨r.X.keep k,r.G.imp λ_ z=>z.low (aV _) λn hn=>k.ob n (bF hn r.bx),r.W⟩
theorem aJ.wM(r:aJ c g m h)(i:Nat){o o':bC}(kx:Kx [c.b+i] h h')(e':h'.ob (c.b+i)=aA o')(w:Wf g m')(hs:m'.fU c g=(m.fU c g).set i (aA o'))(hd:m'.dyn c g=m.dyn c g)(hl:m.cB.length<=m'.cB.length)(hi:i<15:=by decide)(e:(m.fU c g)[i]?=aA (aA o):=by rfl):aJ c g m' h':=
 ⟨by rw[hs,hd];exact r.X.wM hi e kx e',r.G.imp λ_ z=>z.low (by lia) (kx.lowG r.bx λn hn=>by rw[List.mem_singleton.mp hn];exact rM ..),w⟩
theorem aJ.sN(r:aJ c g m h)(i:Nat)(w:Wf g m')(hs:m'.fU c g=(m.fU c g).set i (aA o'))(hd:m'.dyn c g=m.dyn c g)(hl:m.cB.length<=m'.cB.length)(hi:i<15:=by decide)(e:(m.fU c g)[i]?=aA (aA o):=by rfl):aJ c g m' (h.put (c.b+i) o'):=r.wM i (Kx.refl.put<|.head _) bP w hs hd hl hi e
end
section
variable {k:Nat}{g:Gh}
def Mo.slot(m:Mo)(t:Int):Option Sl:=m.slots.find? λs=>decide (s.tk=t)
def aO:Option Sl->AV
 |some s=>.ref s.a
 |none=>.aH
theorem Fl{α:Type}{l:List α}{x:α}(e:l[i]?=aA x):l.drop i=x::l.drop (i+1):=by rw[Ot ((List.getElem?_eq_some_iff.mp e).1),(List.getElem?_eq_some_iff.mp e).2]
theorem FE{t:Ft}(r:aJ c g m h)(q:R (aO<|t.bind m.slot) h):WC (run pg (k+1) 111 [.ref (c.b+1),oI t]) h R:=by
 have sn:=r.W.sn;refine aS rfl rfl<|WB.of<|kD<|kC<|aC.of (r.at 1)<|mB r.jZ.1 ?_;refine nV (λj a b=>b=h/\(∃v2,a=[aA (.ref<|c.b+1),aA (oI t),v2])/\t.bind m.slot=t.bind λt=>(m.slots.drop j).find? λs=>decide (s.tk=t)) (by rw[aR,eF];lia) ⟨rfl,⟨_,rfl⟩,rfl⟩ (λ_ _ _ y=>y.1▸r.jZ.1) (λj x a b d y=>?_)<|λa b y=>?_
 .obtain⟨rfl,⟨v2,rfl⟩,e⟩:=y;obtain⟨s,hr,rfl⟩:=iN d;rw[Fl hr]at e;cases t with
  |none=>exact gX _<|fE _<|aC.of (r.cK<|bM hr)<|WC.of<|Ba rfl ⟨rfl,⟨_,rfl⟩,rfl⟩|some t=>
   rw[jJ,jJ,nK]at e;refine gX _<|fE _<|aC.of (r.cK<|bM hr)<|aE.dc (λz=>?_) λz=>?_
   .rw[show(decide<|s.tk=t)=aB from decide_eq_true z]at e;rw[jJ,e]at q;exact q
   .rw[show(decide<|s.tk=t)=aG from decide_eq_false z]at e;exact⟨rfl,⟨_,rfl⟩,e⟩
 .obtain⟨rfl,⟨v2,rfl⟩,e⟩:=y;rw[aR,Bt]at e;rw[e]at q;cases t<;>exact q
theorem FF{t:Int}(r:aJ c g m h)(q:R (aO<|m.slot t) h):WC (run pg (k+1) 111 [.ref (c.b+1),.int t]) h R:=FE (t:=aA t) r q
def Mo.cut(m:Mo)(t:Int):Mo:={ m with slots:=m.slots.filter λs=>decide (s.tk<t),jF:=m.jF+((m.slots.length:Int)-((m.slots.filter λs=>decide (s.tk<t)).length:Int)),fl:=λx=>lU t (m.fl x),wk:=m.wk.filter λp=>!decide (t<=p.1),kp:=m.kp.filter λp=>!decide (t<=p.1),bg:=m.bg.filter λp=>!decide (t<=p.1) }
theorem e8{l l':WX}(hl:l'.Sublist l)(hp:(l.map (·.tk)).Pairwise (·<·))(e:l'.find? (λs=>decide (s.tk=u))=aA s):l.find? (λs=>decide (s.tk=u))=aA s:=by have a:=Bv e;simp only[decide_eq_true_eq]at a;subst a;exact uV (hl.subset<|xK e) hp
theorem CK{x y:bC}:(h.put n x).put n y=h.put n y:=by
 unfold AH.put;congr 1
 funext i
 dsimp only;split<;>rfl
theorem Wf.Ai{sl':WX}{th a1:Int}(w:Wf g m)(hs:sl'.Sublist m.slots)(eg:g'.kf=g.kf):Wf g' { m with slots:=sl',jF:=th,ah:=a1 }:=
 ⟨vE (hs.map _) w.tk,λs hm=>w.t0 s (hs.subset hm),jz hs.length_le w.sn,λs hm=>w.sw s (hs.subset hm),w.wn,w.wl,w.kn,w.kl,w.bn,w.bl,eg▸w.fn,eg▸w.fk,eg▸w.fo,w.ff⟩
theorem aJ.Ai{sl':WX}{n:Nat}{th:Int}(r:aJ c g m h)(k1:Kp h h')(hn:h.nx<=n)(hn':n<h'.nx)(on:h'.ob n=aA (.lst aB<|sl'.map λs=>.ref s.a))(hs:sl'.Sublist m.slots) :
  aJ c { g with sl:=n,kd:=λi=>if i=n then 15 else g.kd i } { m with slots:=sl',jF:=th } (h'.put (c.b+1)<|.ins 19<|{ m with slots:=sl',jF:=th }.wf c n):=by
 have a:=r.keep k1;have w:=r.W.Ai (th:=th) (a1:=m.ah) (g':={ g with sl:=n,kd:=λi=>if i=n then 15 else g.kd i }) hs rfl;have b:iY c.b (λi=>if i=n then 15 else g.kd i) (m.fU c g) ({ m with slots:=sl',jF:=th }.dyn c { g with sl:=n,kd:=λi=>if i=n then 15 else g.kd i }) h':=by
  refine r.X.newD (aV _) k1 hn hn' r.bx on rfl λj p k d e=>?_;unfold Mo.dyn at e ⊢;rw[if_neg d]at e ⊢;split
  .rename_i z;rw[if_pos z]at e;exact e
  .rename_i z;rw[if_neg z]at e;obtain⟨s,f,rfl⟩:=Option.map_eq_some_iff.mp e;rw[e8 hs r.W.tk f];rfl
 exact⟨b.sN (i:=1) (by decide) rfl,a.G.imp λ_ z=>z.low (aV _) ((Kx.refl.put (.head _):Kx [c.b+1] h' _).lowG a.bx λn hn=>by rw[List.mem_singleton.mp hn];exact rM ..),w⟩
end
section
variable {k:Nat}{g:Gh}
theorem aJ.nf(r:aJ c g m h){k:Nat}(hk:g.kd n=k)(hn:k<16\/24<=k):n∉g.kf.map (·.2):=λz=>by obtain⟨p,a,rfl⟩:=List.mem_map.mp z;have e:=mL r.W.fn a;have:=r.W.fk _ _ e;have:=(r.X.dy _ _ _ (by lia)<|wF r.W e).1;lia
theorem aJ.J8{fl':Int->WK}(r:aJ c g m h)(N:kY h' (c.b+4) (c.b+5) g.kf fl')(kx:Kx (g.kf.map (·.2)) h h')(hf:∀x,(fl' x).length<=(m.fl x).length):aJ c g { m with fl:=fl' } h':=by
 refine⟨⟨λi o e=>?_,λk n o d e=>?_⟩,r.G.imp λ_ z=>z.low (aV _) (kx.lowG r.bx λn hn=>?_),⟨r.W.tk,r.W.t0,r.W.sn,r.W.sw,r.W.wn,r.W.wl,r.W.kn,r.W.kl,r.W.bn,r.W.bl,r.W.fn,r.W.fk,N.no,λx=>jz (hf x) (r.W.ff x)⟩⟩
 .have z:=r.X.st i o e;have b:=(List.getElem?_eq_some_iff.mp e).1;have b:i<15:=b;exact⟨z.1,bF z.2.1 kx.nx,kx.get z.2.1 (r.nf z.1 (by lia)) z.2.2⟩
 .by_cases j:16<=k/\k<30
  .unfold Mo.dyn at e;rw[if_neg (by omega),if_pos j.2]at e;obtain⟨f,a,l⟩:=Option.map_eq_some_iff.mp e;cases l;have z:=r.X.dy _ _ _ (by omega) (wF r.W a);exact⟨by omega,z.2.1,(N.ls _ _ a).1,(N.ls _ _ a).2⟩
  .have q:m.dyn c g k=aA (n,o):=by
    unfold Mo.dyn at e ⊢;split
    .rename_i z;rw[if_pos z]at e;exact e
    .rename_i z;rw[if_neg z,if_neg (by omega)]at e;rw[if_neg (by omega)];exact e
   have z:=r.X.dy k n o d q;exact⟨z.1,z.2.1,bF z.2.2.1 kx.nx,kx.get z.2.2.1 (r.nf z.1 (by omega)) z.2.2.2⟩
 .obtain⟨p,s,rfl⟩:=List.mem_map.mp hn;exact(r.X.dy _ _ _ (by lia)<|wF r.W<|mL r.W.fn s).2.1
theorem aJ.sh2(r:aJ c g m h)(kx:Kx [c.b+9,c.b+10] h h')(e1:h'.ob (c.b+9)=aA (.aP<|dE lG kp'))(e2:h'.ob (c.b+10)=aA (.aP<|dE lQ bg'))(kn:(kp'.map (·.1)).Pairwise (·<·))(kl:kp'.length<64)(bn:(bg'.map (·.1)).Nodup)(bl:bg'.length<64):aJ c g { m with kp:=kp',bg:=bg' } h':=by
 refine⟨⟨λi o e=>?_,λk n o d e=>?_⟩,r.G.imp λ_ z=>z.low (aV _) (kx.lowG r.bx λn hn=>?_),⟨r.W.tk,r.W.t0,r.W.sn,r.W.sw,r.W.wn,r.W.wl,kn,kl,bn,bl,r.W.fn,r.W.fk,r.W.fo,r.W.ff⟩⟩
 .by_cases b:i=9
  .subst b;cases e;have z:=r.X.st 9 _ rfl;exact⟨z.1,bF z.2.1 kx.nx,e1⟩
  .by_cases a:i=10
   .subst a;cases e;have z:=r.X.st 10 _ rfl;exact⟨z.1,bF z.2.1 kx.nx,e2⟩
   .have f:(m.fU c g)[i]?=aA (aA o):=by rw[show Mo.fU { m with kp:=kp',bg:=bg' } c g=((m.fU c g).set 9 (aA<|.aP<|dE lG kp')).set 10 (aA<|.aP<|dE lQ bg') from rfl,jQ λw=>a w.symm,jQ λw=>b w.symm]at e;exact e
    have z:=r.X.st i o f;exact⟨z.1,bF z.2.1 kx.nx,kx.get z.2.1 (by simp;lia) z.2.2⟩
 .have z:=r.X.dy k n o d e;have j:=(r.X.st 9 _ rfl).1;refine⟨z.1,z.2.1,bF z.2.2.1 kx.nx,kx.get z.2.2.1 (λw=>?_) z.2.2.2⟩;rcases List.mem_cons.mp w with w|w
  .rw[w,j]at z;lia
  .rw[List.mem_singleton.mp w,((r.X.st 10 _ rfl).1)]at z;lia
 .rcases List.mem_cons.mp hn with w|w
  .rw[w];exact rM ..
  .rw[List.mem_singleton.mp w];exact rM ..
theorem yU{β:Type}{l:List β}{f:β->Bool}(h:l.length<n):(l.filter f).length<n:=jz (pF ..) h
theorem Ap{t:Int}(r:aJ c g m h)(q:∀v g' h',aJ c g' (m.cut t) h'->h.nx<=h'.nx->(∀n,n<h.nx->28<=g.kd n->h'.ob n=h.ob n/\g'.kd n=g.kd n)->R v h'):WC (run pg (k+2) 115 [.ref (c.b+1),.int t]) h R:=by
 have sn:=r.W.sn;have big:=jE;refine aS rfl rfl<|WC.of<|aOy<|kC<|aC.of (r.at 1)<|mB r.jZ.1 ?_;refine UM (n:=g.sl) (bb:=aB) (xs:=m.slots.map λs=>.ref s.a) (λj ys Z h'=>h'=h/\(∃v0,Z=[v0,aA (.int t)])/\ys=(((m.slots.take j).filter λs:Sl=>decide (s.tk<t)).map λs=>.ref s.a)) (by rw[aR,eF];omega) ⟨rfl,⟨_,rfl⟩,rfl⟩ (λ_ _ _ _ y=>y.1▸r.jZ.1) (λj x ys Z h' hx y=>?_)<|λys Z h' y=>?_
 .obtain⟨rfl,⟨v0,rfl⟩,rfl⟩:=y;obtain⟨s,hr,rfl⟩:=iN hx;have et:m.slots.take (j+1)=m.slots.take j++[s]:=by rw[pG,hr];rfl
  refine oE _<|aC.of (r.cK<|bM hr) ?_;show if decide (s.tk<t)=aB then _ else _
  split
  .rename_i z;refine⟨?_,rfl,⟨_,rfl⟩,?_⟩
   .have h1:((m.slots.take j).filter λs:Sl=>decide (s.tk<t)).length<=(m.slots.take j).length:=pF ..;have h2:(m.slots.take j).length<=m.slots.length:=by rw[kW];omega
    rw[aR];omega
   .rw[et,sX,gJ,gC,if_pos z];rfl
  .rename_i z;refine⟨rfl,⟨_,rfl⟩,?_⟩;rw[et,sX,gJ,gC,if_neg z];simp
 .obtain⟨rfl,⟨v0,rfl⟩,rfl⟩:=y;rw[aR,pH];have k1:∀{o:bC},Kp h' (h'.new o):=Kp.refl.new;have r1:=r.keep (k1 (o:=.lst aB (((m.slots.filter λs:Sl=>decide (s.tk<t)).map λs=>.ref s.a))));have key:∀{X Y:bC},Y = .ins 19 ({ m with slots:=m.slots.filter λs:Sl=>decide (s.tk<t),jF:=m.jF+(((m.slots.map λs:Sl=>AV.ref s.a).length:Int)-(((m.slots.filter λs:Sl=>decide (s.tk<t)).map λs:Sl=>AV.ref s.a).length:Int)) }.wf c h'.nx)->aJ c _ _ (((h'.new<|.lst aB<|((m.slots.filter λs:Sl=>decide (s.tk<t)).map λs=>.ref s.a)).put (c.b+1) X).put (c.b+1) Y):=λ{X Y} e=>by rw[CK,e];exact r.Ai k1 (aV _) (cM _) bJ List.filter_sublist
  refine aC.of (r1.at 1)<|aC.of (r1.at 1)<|WC.of<|kR (cH r1.jZ.1)<|WC.of<|kR (cH bJ)<|aC.of (r1.at 1)<|aC.of bP ?_;have r2:=key (X:=.ins 19 (gL "thrown" (.int<|m.jF+(((m.slots.map λs:Sl=>AV.ref s.a).length:Int)-(((m.slots.filter λs:Sl=>decide (s.tk<t)).map λs:Sl=>AV.ref s.a).length:Int)))<|m.wf c g.sl)) rfl;refine aC.of (r2.at 1)<|aC.of (r2.at 4)<|L7 (k:=k) r2.Iz λv3 h3 N3 kx3=>?_;have r3:=r2.J8 N3 kx3 λx=>CD _ _;refine aC.of (r3.at 1)<|aC.of (r3.at 6)<|SZ (k:=k) r3.wa λv4 h4 kx4 e4=>?_;have r4:=r3.wM (m':={ m with slots:=m.slots.filter λs:Sl=>decide (s.tk<t),jF:=m.jF+(((m.slots.map λs:Sl=>AV.ref s.a).length:Int)-(((m.slots.filter λs:Sl=>decide (s.tk<t)).map λs:Sl=>AV.ref s.a).length:Int)),fl:=λx=>lU t (m.fl x),wk:=m.wk.filter λp=>!decide (t<=p.1) }) 7 kx4 e4 ⟨r3.W.tk,r3.W.t0,r3.W.sn,r3.W.sw,nA r3.W.wn,yU r3.W.wl,r3.W.kn,r3.W.kl,r3.W.bn,r3.W.bl,r3.W.fn,r3.W.fk,r3.W.fo,r3.W.ff⟩ rfl rfl (aV _);refine aC.of (r4.at 1)<|aC.of (r4.at 8)<|aJl (k:=k) r4.shr λv5 h5 kx5 e5 e6=>?_;have r5:=r4.sh2 kx5 e5 e6 (vE (List.filter_sublist.map _) r4.W.kn) (yU r4.W.kl) (nA r4.W.bn) (yU r4.W.bl);rw[aR,aR]at r5;refine q _ _ _ r5 (dR (iJ _)<|dR kx3.nx<|dR kx4.nx kx5.nx) λn hn hk=>?_;have nb:∀i o,i<15->(m.fU c g)[i]?=aA (aA o)->n≠c.b+i:=λi o hi e w=>by rw[w,(r.X.st i o e).1]at hk;omega
  have n1:n<h'.nx+1:=kG hn;have n3:=bF n1 kx3.nx;have n4:=bF n3 kx4.nx;refine⟨?_,if_neg (cC hn)⟩;rw[kx5.ob n n4 (by simp only[uj,ba,or_false];exact λw=>w.elim (nb 9 _ (by decide) rfl) (nb 10 _ (by decide) rfl)),kx4.ob n n3 (by simp only[uj,ba,or_false];exact nb 7 _ (by decide) rfl),kx3.ob n n1 (r.nf rfl (by omega)),bL (nb 1 _ (by decide) rfl),bL (nb 1 _ (by decide) rfl),eA (cC hn)]
structure iL(c:Cf)(g:Gh)(h:AH)(g':Gh)(h':AH):Prop where
 nx:h.nx<=h'.nx
 ob:∀n,n<h.nx->28<=g.kd n->c.b<=n->h'.ob n=h.ob n/\g'.kd n=g.kd n
theorem iL.refl:iL c g h g h:=⟨aV _,λ_ _ _ _=>⟨rfl,rfl⟩⟩
theorem iL.trans{g2:Gh}{h2:AH}(x:iL c g h g' h')(y:iL c g' h' g2 h2):iL c g h g2 h2:=⟨dR x.nx y.nx,λn hn d hb=>by have a:=x.ob n hn d hb;have b:=y.ob n (bF hn x.nx) (a.2▸d) hb;exact⟨b.1.trans a.1,b.2.trans a.2⟩⟩
theorem iL.put{i:Nat}{o o':bC}(r:aJ c g m h)(hi:i<15)(e:(m.fU c g)[i]?=aA (aA o)):iL c g h g (h.put (c.b+i) o'):=⟨aV _,λn _ a _=>⟨bL λw=>by rw[w,(r.X.st i o e).1]at a;lia,rfl⟩⟩
end
section
variable {k:Nat}{g g2:Gh}
structure bN(c:Cf)(g:Gh)(h:AH)(g':Gh)(h':AH):Prop where
 nx:h.nx<=h'.nx
 ob:∀n,n<h.nx->g.kd n=28->c.b<=n->h'.ob n=h.ob n/\g'.kd n=28
theorem bN.refl:bN c g h g h:=⟨aV _,λ_ _ e _=>⟨rfl,e⟩⟩
theorem bN.trans(x:bN c g h g' h')(y:bN c g' h' g2 h2):bN c g h g2 h2:=⟨dR x.nx y.nx,λn hn d hb=>by have a:=x.ob n hn d hb;have b:=y.ob n (bF hn x.nx) a.2 hb;exact⟨b.1.trans a.1,b.2⟩⟩
theorem bN.keep(k:Kp h h'):bN c g h g h':=⟨k.nx,λn hn a _=>⟨k.ob n hn,a⟩⟩
theorem bN.put{n:Nat}{o:bC}(hk:g.kd n≠28):bN c g h g (h.put n o):=⟨aV _,λi _ e _=>⟨bL λz=>hk (z▸e),e⟩⟩
theorem bN.st{i:Nat}{o:bC}(r:aJ c g m h)(hi:i<15)(e:∃o,(m.fU c g)[i]?=aA (aA o)):bN c g h g (h.put (c.b+i) o):=bN.put (by obtain⟨o,e⟩:=e;rw[(r.X.st i o e).1];lia)
theorem bN.of(n:h.nx<=h'.nx)(f:∀n,n<h.nx->28<=g.kd n->h'.ob n=h.ob n/\g'.kd n=g.kd n):bN c g h g' h':=⟨n,λi a e _=>have z:=f i a (by lia);⟨z.1,z.2.trans e⟩⟩
theorem aJ.qf(r:aJ c g m h)(hs:s∈m.slots):g.kd s.a≠28/\g.kd (s.a+2)≠28:=by have z:=pR (r.W.t0 s hs);have a:=(r.X.dy _ _ _ (by lia)<|yS r.W hs).1;have b:=(r.X.dy _ _ _ (by lia)<|yT r.W hs).1;lia
theorem bN.i7(f:iL c g h g' h'):bN c g h g' h':=⟨f.nx,λn hn a hb=>have z:=f.ob n hn (by lia) hb;⟨z.1,z.2.trans a⟩⟩
theorem bN.kx{i:Nat}(r:aJ c g m h)(hi:i<15)(e:∃o,(m.fU c g)[i]?=aA (aA o))(kx:Kx [c.b+i] h h'):bN c g h g h':=⟨kx.nx,λn hn a _=>⟨kx.ob n hn λz=>by obtain⟨o,e⟩:=e;rw[List.mem_singleton.mp z,(r.X.st i o e).1]at a;lia,a⟩⟩
end
section
variable {k:Nat}{g:Gh}
theorem Xj{l:WX}(hs:l[i]?=aA s)(ht:s'.tk=s.tk)(hp:(l.map (·.tk)).Pairwise (·<·)):(l.set i s').find? (λz=>decide (z.tk=u))=if u=s.tk then aA s' else l.find? λz=>decide (z.tk=u):=by
 induction l generalizing i with
 |nil=>cases hs|cons z l b=>
  rw[hA,Ph]at hp;cases i with
  |zero=>
   cases hs;rw[Cg,nK,nK,ht];by_cases e:u=s.tk
   .rw[if_pos e,decide_eq_true e.symm]
   .rw[if_neg e,decide_eq_false λw=>e w.symm]
  |succ i=>
   have a:=hs;rw[Ce,nK,nK,b a hp.2];by_cases e:z.tk=u
   .have:=hp.1 s.tk (List.mem_map.mpr ⟨s,bM a,rfl⟩);rw[decide_eq_true e];show aA z=if u=s.tk then aA s' else aA z
    rw[if_neg (by lia)]
   .rw[decide_eq_false e]
theorem gj{α β:Type}{f:α->β}{l:List α}{s s':α}(hs:l[i]?=aA s)(e:f s'=f s):(l.set i s').map f=l.map f:=by
 rw[jx,e];refine JC λj=>?_;rw[JJ];split
 .rename_i z;subst z;rw[fR,hs,aR,if_pos (List.getElem?_eq_some_iff.mp hs).1];rfl
 .rfl
theorem Ig{l:WX}(hz:z∈l.set i s'):z∈l\/z=s':=by
 rcases Cd hz with h|h
 .exact .inl h
 .exact .inr h
theorem Wf.cQ(w:Wf g m)(hs:m.slots[i]?=aA s)(ht:s'.tk=s.tk)(hw:s'.ws.length=s.ws.length)(hn:s'.aX=s.aX)(hr:s'.row=s.row):Wf g { m with slots:=m.slots.set i s' }:=
 have hm:=bM hs
 ⟨by rw[gj hs ht];exact w.tk,λz a=>(Ig a).elim (w.t0 z) λe=>by rw[e,ht];exact w.t0 s hm,by rw[nL];exact w.sn,λz a=>(Ig a).elim (w.sw z) λe=>by rw[e,hw,hn,hr];exact w.sw s hm,w.wn,w.wl,w.kn,w.kl,w.bn,w.bl,w.fn,w.fk,w.fo,w.ff⟩
theorem Vv(hs:m.slots[i]?=aA s)(w:Wf g m)(ha:s'.a=s.a)(ht:s'.tk=s.tk){p:Nat×bC}(h1:15<=j)(e:({ m with slots:=m.slots.set i s' }:Mo).dyn c g j=aA p):m.dyn c g j=aA p\/((j:Int)-30) / 2=s.tk/\30<=j/\p=if j%2=0 then(s.a,.ins 18 ((s'.lt c.room).fs (s.a+2))) else(s.a+2,.lst aB (s'.ws.map oI)):=by
 unfold Mo.dyn at e ⊢;split
 .rename_i z;rw[if_pos z]at e;rw[<- e,gj hs (by rw[ha])];exact .inl rfl
 .rename_i z;rw[if_neg z]at e;split
  .rename_i a;rw[if_pos a]at e;exact .inl e
  .rename_i a;rw[if_neg a,Xj hs ht w.tk]at e;by_cases b:(j-30) / 2=s.tk
   .rw[if_pos b,xO,ha]at e;exact .inr ⟨b,by omega,(dJ e).symm⟩
   .rw[if_neg b]at e;exact .inl e
theorem aJ.Ic(r:aJ c g m h)(hs:s∈m.slots):c.b<=s.a:=(r.X.dy _ _ _ (by have:=pR (r.W.t0 s hs);lia)<|yS r.W hs).2.1
theorem aJ.Ib(r:aJ c g m h)(hb:c.b<=n):∃K,lP c (2*m.cB.length+10) K (h.put n o):=r.G.imp λ_ z=>z.low (aV _) ((Kx.refl.put (.head _):Kx [n] h _).lowG r.bx λn hn=>by rw[List.mem_singleton.mp hn];exact hb)
theorem aJ.aIk(r:aJ c g m h)(hs:m.slots[i]?=aA s)(ha:s'.a=s.a)(ht:s'.tk=s.tk)(hw:s'.ws=s.ws)(hn:s'.aX=s.aX)(hr:s'.row=s.row):aJ c g { m with slots:=m.slots.set i s' } (h.put s.a<|.ins 18<|(s'.lt c.room).fs (s.a+2)):=by
 have hm:=bM hs;have w:=r.W.cQ hs ht (by rw[hw]) hn hr;have z:=pR (r.W.t0 s hm);have a:s'∈m.slots.set i s':=bM (kE (List.getElem?_eq_some_iff.mp hs).1);have b:=yS (c:=c) w a;rw[ht,ha]at b;refine⟨r.X.Zt (by lia) (aV _) (yS r.W hm) (Kx.refl.put<|.head _) bP b λj p d f e=>?_,r.Ib (r.Ic hm),w⟩;rcases Vv hs r.W ha ht d e with e|⟨l,n,k⟩
 .exact e
 .have:j=jU s.tk+1:=(wh (r.W.t0 s hm) ‹_›).resolve_left f;subst this;rw[yT r.W hm,k,if_neg (by lia),hw]
theorem aJ.aOq{ws':WY}(r:aJ c g m h)(hs:m.slots[i]?=aA s)(hf:s.fi=aD)(hl:ws'.length=s.ws.length):aJ c g { m with slots:=m.slots.set i { s with ws:=ws' } } (h.put (s.a+2)<|.lst aB<|ws'.map oI):=by
 have hm:=bM hs;have w:=r.W.cQ (s':={ s with ws:=ws' }) hs rfl hl rfl rfl;have z:=pR (r.W.t0 s hm);have a:{ s with ws:=ws' }∈m.slots.set i { s with ws:=ws' }:=bM (kE (List.getElem?_eq_some_iff.mp hs).1);have b:=yT (c:=c) w a;refine⟨r.X.Zt (by lia) (aV _) (yT r.W hm) (Kx.refl.put<|.head _) bP b λj p d f e=>?_,r.Ib (by have:=r.Ic hm;lia),w⟩;rcases Vv (s':={ s with ws:=ws' }) hs r.W rfl rfl d e with e|⟨l,n,k⟩
 .exact e
 .have:j=jU s.tk:=(wh (r.W.t0 s hm) ‹_›).resolve_right f;subst this;rw[yS r.W hm,k,if_pos (by omega)];unfold Sl.lt Sl.dd;rw[hf]
end
section
variable {k:Nat}{g:Gh}
def aM.kn:aM->cW
 |.way w _ _ _=>w.nm | .set _ _=>"set" |.move _ _=>"move" |.load _ _ _=>"load" |.store _ _ _=>"store" |.fW _ _=>"jump" |.go _=>"go" |.fault _=>"fault"
def aM.tl:aM->Fu
 |.way _ x y z=>[.int x,.int y,.int z] | .set x v=>[.int x,.int v] | .move x y=>[.int x,.int y] | .load x y s=>[.int x,.int y,.int s] | .store x y s=>[.int x,.int y,.int s] | .fW x t=>[.int x,.int t] | .go t=>[.int t] | .fault v=>[.int v]
theorem mx:r.av = .tup (.str (aM.kn r)::aM.tl r):=by cases r<;>rfl
theorem gF{x:AV}:cJ (x::xs) 0=aA x:=by unfold cJ jM;rw[if_pos (by decide),if_pos (by rw[eK];lia)];rfl
def eP.fk(s:eP)(w:Nat):List (cW×AV):=[("ticket",.int s.tk),("at",.int s.pc),("row",.tup (.str (aM.kn s.row)::aM.tl s.row)),("names",.tup (s.aX.map oI)),("words",.ref w),("chosen",.int s.ch),("dares",.bl s.dr),("source",oI s.src),("held",oI s.dZ),("deed",s.dd),("put",.int s.put),("started",oI s.st),("finished",oI s.fi),("off",oI s.of)]
theorem Xr{s:eP}{w:Nat}:s.fs w=s.fk w:=by unfold eP.fs eP.fk;rw[mx]
theorem aJ.lL(r:aJ c g m h)(hs:s∈m.slots):h.ob s.a=aA (.ins 18<|(s.lt c.room).fk (s.a+2)):=by rw[<- Xr];exact r.cK hs
theorem gg:aM.kn r=("store":cW)↔∃x y d,r = .store x y d:=by
 constructor
 .intro e;cases r with
  |store x y d=>exact⟨x,y,d,rfl⟩|way w=>exact absurd e<|BD w|_=>simp only[aM.kn]at e;exact absurd e (by decide +kernel)
 .rintro ⟨x,y,d,rfl⟩;rfl
theorem gf:aM.kn r=("load":cW)↔∃x y d,r = .load x y d:=by
 constructor
 .intro e;cases r with
  |load x y d=>exact⟨x,y,d,rfl⟩|way w=>exact absurd e<|BC w|_=>simp only[aM.kn]at e;exact absurd e (by decide +kernel)
 .rintro ⟨x,y,d,rfl⟩;rfl
theorem qi:aM.kn r=("jump":cW)↔∃x t,r = .fW x t:=by
 constructor
 .intro e;cases r with
  |fW x t=>exact⟨x,t,rfl⟩|way w=>exact absurd e<|Iy w|_=>simp only[aM.kn]at e;exact absurd e (by decide +kernel)
 .rintro ⟨x,t,rfl⟩;rfl
def Mo.cQ(m:Mo)(i:Nat)(s:Sl):Mo:={ m with slots:=m.slots.set i s }
def zl:Option Sl->Int
 |some s=>s.pc
 |none=>0
def Mo.place(m:Mo)(t p:Int)(w:Ft):Mo:=match pQ m.bg t p with
 |none=>{ m with kp:=eR m.kp t (aA p,w) }
 |some b=>({ m with kp:=eR m.kp t (aA p,w),ah:=zl (m.slot b) }:Mo).cut b
def Mo.give(m:Mo)(i j:Nat)(w:Int):Mo:=match m.slots[i]? with
 |none=>m
 |some s=>match s.row,aW m.kp s.tk with
  |.store _ _ d,aA e=>if j=0 then { m.cQ i { s with ws:=s.ws.set j (aA w) }with kp:=eR m.kp s.tk (e.1,aA w) } else(m.cQ i { s with ws:=s.ws.set j (aA w) }).place s.tk (w+d) e.2
  |_,_=>m.cQ i { s with ws:=s.ws.set j (aA w) }
structure yA(m:Mo)(s:Sl)(j:Nat):Prop where
 fi:s.fi=aD
 jl:j<s.ws.length
 kp:∀x y d,s.row = .store x y d->∃e,aW m.kp s.tk=aA e/\(j=0->e.2=aD)/\(j=1->e.1=aD)
 bt:∀t p b,pQ m.bg t p=aA b->∃s,m.slot b=aA s
theorem aIx{w:Nat}{s:eP}{d:Int}(o:h.ob n=aA (.ins 18<|s.fs w))(er:s.row = .store x y d)(ow:h.ob w=aA (.lst aB [oI w0,.int w1]))(q:R (.int<|w1+d) h):WC (run pg (k+2) 107 [.ref n]) h R:=by obtain⟨tk,pc,r,aX,ch,dr,src,dZ,dd,pt,st,fi,of⟩:=s;cases er;exact aS rfl rfl<|aC.of o<|aC.of o<|WC.of<|xD (cH ow)<|aS rfl rfl q
theorem aJ.Zq(r:aJ c g m h)(kn:(kp'.map (·.1)).Pairwise (·<·))(kl:kp'.length<64):aJ c g { m with kp:=kp' } (h.put (c.b+9)<|.aP<|dE lG kp'):=
 r.sN 9 ⟨r.W.tk,r.W.t0,r.W.sn,r.W.sw,r.W.wn,r.W.wl,kn,kl,r.W.bn,r.W.bl,r.W.fn,r.W.fk,r.W.fo,r.W.ff⟩ rfl rfl (aV _)
theorem aJ.Zp{t:Int}{e v:Ft×Ft}(r:aJ c g m h)(hk:aW m.kp t=aA e):aJ c g { m with kp:=eR m.kp t v } (h.put (c.b+9)<|.aP<|dE lG<|eR m.kp t v):=
 r.Zq (by rw[zr hk];exact r.W.kn) (by rw[<- aR,zr hk,aR];exact r.W.kl)
theorem aJ.tJ(r:aJ c g m h):aJ c g { m with ah:=a } (h.put (c.b+1)<|.ins 19<|{ m with ah:=a }.wf c g.sl):=
 r.sN 1 ⟨r.W.tk,r.W.t0,r.W.sn,r.W.sw,r.W.wn,r.W.wl,r.W.kn,r.W.kl,r.W.bn,r.W.bl,r.W.fn,r.W.fk,r.W.fo,r.W.ff⟩ rfl rfl (aV _)
end
section
variable {k:Nat}{g:Gh}
theorem Y7{d:Int}{e2:Ft}(r:aJ c g m h)(hs:s∈m.slots)(er:s.row = .store x y d)(ew:s.ws=[w0,aA w1])(hk:aW m.kp s.tk=aA (aD,e2))(bt:∀b,pQ m.bg s.tk (w1+d)=aA b->∃s,m.slot b=aA s)(q:∀v g' h',aJ c g' (m.place s.tk (w1+d) e2) h'->bN c g h g' h'->R v h'):WC (run pg (k+3) 114 [.ref (c.b+1),.ref s.a]) h R:=by
 have n:h.ob (s.a+2)=aA (.lst aB [oI w0,.int w1]):=by rw[r.jj hs,ew];rfl
 refine aS rfl rfl<|aC.of (r.at 1)<|aC.of (r.at 8)<|aC.of (r.cK hs)<|aC.of (r.cK hs)<|aIx (r.cK hs) er n ?_;refine Y8 (t:=s.tk) r.shr hk λo k1=>?_;have f:=(r.Zp hk).keep k1;unfold Mo.place at q;have nx:=(bN.st r (by decide) ⟨_,rfl⟩).trans (bN.keep k1);cases i:pQ m.bg s.tk (w1+d) with
 |none=>rw[i]at q;exact q _ _ _ f nx
 |some b=>obtain⟨j,e⟩:=bt b i;rw[i]at q;dsimp only at q;rw[e]at q;refine aC.of (f.at 1)<|FF f ?_;rw[show Mo.slot { m with kp:=eR m.kp s.tk (aA (w1+d),e2) } b=m.slot b from rfl,e];have hb:=xK e;refine aC.of (f.cK hb)<|aC.of (f.at 1) ?_;have l:=f.tJ (a:=j.pc);exact aC.of (l.at 1)<|Ap l λv g' h' p u w=>q _ _ _ p ((nx.trans<|bN.st f (by decide) ⟨_,rfl⟩).trans (bN.of u w))
theorem l0{j:Int}{w:AV}(r:aJ c g m h)(hs:s∈m.slots)(cs:¬aM.kn s.row=("store":cW))(q:R .aH h):dU (run pg<|k+3) (bK Tb) [aA (.ref<|c.b+1),aA (.ref s.a),aA (.int j),aA w] h (λ_ h1=>R .aH h1) R (λ_ _=>False) λ_ _=>False:=
 aC.of (r.lL hs) (aC.of gF<|aE.df cs<|aC.of (r.lL hs)<|aC.of gF<|aE.df cs q)
theorem Yn(r:aJ c g m h)(hs:m.slots[i]?=aA s)(ea:s.a=n)(G:yA m s j)(q:∀v g' h',aJ c g' (m.give i j w) h'->bN c g h g' h'->R v h'):WC (run pg (k+4) 113 [.ref (c.b+1),.ref n,.int (j:Int),.int w]) h R:=by
 subst ea;have hm:=bM hs;have il:=(List.getElem?_eq_some_iff.mp hs).1;have jl:=G.jl;refine aS rfl rfl<|aC.of (r.cK hm)<|ue (r.jj hm) (by rw[aR];exact qc jl) ?_;rw[show((s.ws.map oI).set j (.int w))=(s.ws.set j<|aA w).map oI by rw[jx];rfl];have r1:=r.aOq (ws':=s.ws.set j (aA w)) hs G.fi (nL ..);have nx:bN c g h g (h.put (s.a+2)<|.lst aB<|(s.ws.set j<|aA w).map oI):=bN.put (r.qf hm).2;revert r1 nx
 generalize h.put (s.a+2) (.lst aB<|(s.ws.set j<|aA w).map oI)=h1;intro r1 nx;obtain⟨s1,e1⟩:∃s1:Sl,s1={ s with ws:=s.ws.set j (aA w) }:=⟨_,rfl⟩;have ha:s1.a=s.a:=by rw[e1]
 have ht:s1.tk=s.tk:=by rw[e1]
 have hr:s1.row=s.row:=by rw[e1]
 unfold Mo.give at q;rw[hs]at q;dsimp only at q;rw[<- e1]at r1 q;have hm':s1∈(m.cQ i s1).slots:=bM (kE il);rw[<- ha];by_cases cs:aM.kn s.row=("store":cW)
 .obtain⟨x,y,d,er⟩:=gg.mp cs;obtain⟨⟨p0,e2⟩,ek,z0,z1⟩:=G.kp x y d er;rw[er,ek]at q;dsimp only at q;rw[<- ht]at ek q;have cs':aM.kn s1.row=("store":cW):=by rw[hr];exact cs
  by_cases cj:j=0
  .subst cj;rw[if_pos rfl]at q;cases z0 rfl;refine aC.of (r1.lL hm')<|aC.of gF<|aE.dt cs'<|aC.of (r1.at 1)<|aC.of (r1.at 8)<|aC.of (r1.lL hm')<|aOr (k:=k+2) r1.shr ek λv=>?_;have r2:=r1.Zp (v:=(p0,aA w)) ek;exact aC.of (r2.lL hm')<|aC.of gF<|aE.dt cs'<|q _ _ _ r2<|nx.trans<|bN.st r1 (by decide) ⟨_,rfl⟩
  .rw[if_neg cj]at q;have nw:=(r.W.sw s hm).1;rw[er]at nw;have nw:s.ws.length=2:=nw;have j1:j=1:=by omega
   subst j1;cases z1 rfl;obtain⟨w0,w1,ew⟩:=jf nw;refine aC.of (r1.lL hm')<|aC.of gF<|aE.dt cs'<|aC.of (r1.lL hm')<|aC.of gF<|aE.dt cs'<|aC.of (r1.at 1)<|Y7 (k:=k) (w0:=w0) (w1:=w) r1 hm' (hr.trans er) (by rw[e1,ew];rfl) ek (λb eb=>?_) λv g' h' r2 n2=>q _ _ _ r2 (nx.trans n2);obtain⟨sb,e⟩:=G.bt _ _ _ eb;refine⟨if b=s.tk then s1 else sb,?_⟩;show(m.slots.set i _).find? _=_;rw[Xj hs ht r.W.tk];split
   .rfl
   .exact e
 .have nst:∀x y d,s.row ≠ .store x y d:=λx y d e=>cs (gg.mpr ⟨x,y,d,e⟩);have q':aJ c g (m.cQ i s1) h1->R .aH h1:=λz=>q _ _ _ (by
   split
   .exact absurd ‹s.row=_› (nst _ _ _)
   .exact z) nx
  exact l0 (k:=k) (R:=R) (j:=j) (w:=.int w) r1 hm' (by rw[hr];exact cs)<|q' r1
end
section
variable {k:Nat}{g:Gh}
theorem d9{l:WX}:(l++[s]).find? (λz=>decide (z.tk=u))=(l.find? λz=>decide (z.tk=u)).or (if s.tk=u then aA s else aD):=by
 rw[Bu,nK];by_cases e:s.tk=u
 .rw[decide_eq_true e,if_pos e]
 .rw[decide_eq_false e,if_neg e];rfl
theorem aJ.MR{o1:bC}(r:aJ c g m h)(k1:Kp h h')(en:n=s.a)(ha:h.nx<=n)(hl:n+2<h'.nx)(os:h'.ob n=aA (.ins 18<|(s.lt c.room).fs (n+2)))(ow:h'.ob (n+2)=aA (.lst aB<|s.ws.map oI))
  (ht:s.tk=m.bG)(h0:0<=m.bG)(hp:∀z∈m.slots,z.tk<m.bG)(hn:m.slots.length<63)(hw:s.ws.length=s.row.nw/\s.aX.length=s.row.nw) :
  ∃g',g'.sl=g.sl/\(∀n,n<h.nx->g'.kd n=g.kd n)/\aJ c g' { m with slots:=m.slots++[s],bG:=m.bG+1 } ((h'.put (c.b+1)<|.ins 19<|{ m with bG:=m.bG+1 }.wf c g.sl).put g.sl (.lst aB<|(m.slots.map λs=>AV.ref s.a)++[.ref n])):=by
 subst en;have z:=pR (ht▸h0:0<=s.tk);have A:=r.keep k1;obtain⟨C,u,f⟩:=r.jZ;have D:=r.X.st 1 _ rfl;refine⟨⟨g.sl,g.kf,λi=>if i=s.a then jU s.tk else if i=s.a+2 then jU s.tk+1 else g.kd i⟩,rfl,λn hn=>(if_neg (by lia)).trans (if_neg (by lia)),⟨λi o e=>?_,λk n o p e=>?_⟩,?_,?_⟩
 .have q:i=1\/i≠1/\(m.fU c g)[i]?=aA (aA o):=by
   by_cases t:i=1
   .exact .inl t
   .refine .inr ⟨t,?_⟩;rw[show Mo.fU { m with slots:=m.slots++[s],bG:=m.bG+1 } c ⟨g.sl,g.kf,λi=>if i=s.a then jU s.tk else if i=s.a+2 then jU s.tk+1 else g.kd i⟩=(m.fU c g).set 1 (aA<|.ins 19<|{ m with bG:=m.bG+1 }.wf c g.sl) from rfl,jQ λw=>t w.symm]at e;exact e
  have main:∀v,(m.fU c g)[i]?=aA (aA v)->(if c.b+i=s.a then jU s.tk else if c.b+i=s.a+2 then jU s.tk+1 else g.kd (c.b+i))=i/\c.b+i<h'.nx/\c.b+i≠g.sl:=λv B=>by have y:=r.X.st i v B;have H:i<15:=(List.getElem?_eq_some_iff.mp B).1;refine⟨?_,bF y.2.1 k1.nx,λw=>by rw[<- w,y.1]at f;lia⟩;rw[if_neg (by lia),if_neg (by lia)];exact y.1
  rcases q with rfl|⟨t,q⟩
  .cases e;have y:=main _ rfl;exact⟨y.1,y.2.1,(bL y.2.2).trans bP⟩
  .have y:=main _ q;exact⟨y.1,y.2.1,(bL y.2.2).trans ((bL (by lia)).trans (A.X.st i o q).2.2)⟩
 .have old:∀{k n o},15<=k->k≠15->m.dyn c g k=aA (n,o)->(if n=s.a then jU s.tk else if n=s.a+2 then jU s.tk+1 else g.kd n)=k/\c.b<=n/\n<h'.nx/\((h'.put (c.b+1)<|.ins 19<|{ m with bG:=m.bG+1 }.wf c g.sl).put g.sl (.lst aB<|(m.slots.map λs=>AV.ref s.a)++[.ref s.a])).ob n=aA o:=λ{k n o} p E e=>by
   have y:=r.X.dy k n o p e;refine⟨?_,y.2.1,bF y.2.2.1 k1.nx,?_⟩
   .rw[if_neg (by lia),if_neg (by lia)];exact y.1
   .rw[bL λw=>E (by rw[<- y.1,w,f]),bL λw=>by rw[w,D.1]at y;lia];exact k1.get y.2.2.1 y.2.2.2
  by_cases d:k=15
  .subst d;cases e;refine⟨?_,(r.X.dy 15 _ _ (aV _) rfl).2.1,bF u k1.nx,?_⟩
   .show(if g.sl=s.a then _ else if g.sl=s.a+2 then _ else _)=_;rw[if_neg (by lia),if_neg (by omega)];exact f
   .rw[bP,gJ];rfl
  .by_cases j:k<30
   .exact old p d (by unfold Mo.dyn at e ⊢;rw[if_neg d,if_pos j]at e ⊢;exact e)
   .unfold Mo.dyn at e;rw[if_neg d,if_neg j,d9]at e;cases x:m.slots.find? (λz=>decide (z.tk=((k:Int)-30) / 2)) with
    |some I=>rw[x]at e;exact old p d (by unfold Mo.dyn;rw[if_neg d,if_neg j,x];exact e)
    |none=>
     rw[x,Option.none_or]at e;by_cases ct:s.tk=((k:Int)-30) / 2
     .rw[if_pos ct,xO]at e;have lo:=dR r.bx ha;have F:s.a≠g.sl:=by omega
      have G:s.a+2≠g.sl:=by omega
      by_cases l:k%2=0
      .rw[if_pos l]at e;cases e;refine⟨?_,lo,by show s.a<h'.nx;omega,?_⟩
       .show(if s.a=s.a then _ else _)=_;rw[if_pos rfl];exact((wh (ht▸h0) ct.symm).resolve_right λw=>by rw[w,z.2.2.2.1]at l;cases l).symm
       .rw[bL F,bL (by omega)];exact os
      .rw[if_neg l]at e;cases e;refine⟨?_,by omega,hl,?_⟩
       .show(if s.a+2=s.a then _ else if s.a+2=s.a+2 then _ else _)=_;rw[if_neg (by omega),if_pos rfl];exact((wh (ht▸h0) ct.symm).resolve_left λw=>l (w▸z.2.2.1)).symm
       .rw[bL G,bL (by omega)];exact ow
     .rw[if_neg ct]at e;cases e
 .have lb:=(r.X.dy 15 _ _ (aV _) rfl).2.1;refine A.G.imp λ_ z=>z.low (aV _) λn hn=>?_;rw[bL (by lia),bL (by lia)]
 .have w:=r.W;refine⟨?_,λz hz=>?_,by rw[dC];exact xM hn,λz hz=>?_,w.wn,w.wl,w.kn,w.kl,w.bn,w.bl,w.fn,w.fk,w.fo,w.ff⟩
  .rw[gJ,Pf];refine⟨w.tk,Pj ..,λa ha b hb=>?_⟩;obtain⟨z,hz,rfl⟩:=List.mem_map.mp ha;rw[List.mem_singleton.mp hb];show z.tk<s.tk;rw[ht];exact hp z hz
  .rcases List.mem_append.mp hz with hz|hz
   .exact w.t0 z hz
   .rw[List.mem_singleton.mp hz,ht];exact h0
  .rcases List.mem_append.mp hz with hz|hz
   .exact w.sw z hz
   .rw[List.mem_singleton.mp hz];exact hw
end
section
variable {k:Nat}{g:Gh}
theorem aJ.J7{kf':Dc Nat}(r:aJ c g m h)(N:kY h' (c.b+4) (c.b+5) kf' (kO m.fl x l))(F:Rv h h' (c.b+5) 0 g.kf kf' x)(hx:0<=x/\x<8)(hl:l.length<99999):∃g',bN c g h g' h'/\aJ c g' { m with fl:=kO m.fl x l } h':=by
 obtain⟨f,ef,en⟩:=F.new;have kx:=F.kx;have ke:∀{k:Nat},(k:Int)-16=x->16+x.toNat=k:=λe=>Int.ofNat.inj ((congrArg (λz=>(16:Int)+z)<|Oq hx.1).trans (Int.sub_eq_iff_eq_add'.mp e).symm);have bn:∀n∈(c.b+5)::(aW g.kf x).toList,n=c.b+5\/aW g.kf x=aA n:=λn hn=>by
  rcases List.mem_cons.mp hn with e|e
  .exact .inl e
  .exact .inr<|Option.mem_toList.mp e
 have fx:∀n,aW g.kf x=aA n->g.kd n=16+x.toNat/\c.b<=n:=λn e=>have y:=r.X.dy _ _ _ (by omega) (wF r.W e);⟨y.1,y.2.1⟩;have k5:=(r.X.st 5 _ rfl).1;have nin:∀{n k},g.kd n=k->k≠5->k≠16+x.toNat->n∉(c.b+5)::(aW g.kf x).toList:=λ{n k} e h1 h2 w=>by
  rcases bn n w with w|w
  .rw[w,k5]at e;exact h1 e.symm
  .rw[(fx n w).1]at e;exact h2 e.symm
 have kdf:∀{n},n<h.nx->(aW g.kf x=aD->h.nx<=f)->(if aW g.kf x=aD/\n=f then 16+x.toNat else g.kd n)=g.kd n:=λ{n} hn hf=>if_neg λw=>by have:=hf w.1;omega
 have hf:aW g.kf x=aD->h.nx<=f:=λe=>en.elim (λw=>by rw[e]at w;cases w) λw=>w.2;refine⟨⟨g.sl,kf',λi=>if aW g.kf x=aD/\i=f then 16+x.toNat else g.kd i⟩,⟨kx.nx,λn hn hk _=>⟨kx.ob n hn (nin hk (by decide) (by omega)),(kdf hn hf).trans hk⟩⟩,⟨λi o e=>?_,λk n o h1 e=>?_⟩,?_,?_⟩
 .by_cases c5:i=5
  .subst c5;cases e;have y:=r.X.st 5 _ rfl;exact⟨(kdf y.2.1 hf).trans y.1,N.hd,N.od⟩
  .have e0:(m.fU c g)[i]?=aA (aA o):=by rw[show Mo.fU { m with fl:=kO m.fl x l } c ⟨g.sl,kf',λi=>if aW g.kf x=aD/\i=f then 16+x.toNat else g.kd i⟩=(m.fU c g).set 5 (aA<|.aP<|dE AV.ref kf') from rfl,jQ λw=>c5 w.symm]at e;exact e
   have y:=r.X.st i o e0;have hi:i<15:=(List.getElem?_eq_some_iff.mp e0).1;exact⟨(kdf y.2.1 hf).trans y.1,bF y.2.1 kx.nx,kx.get y.2.1 (nin y.1 c5 (by omega)) y.2.2⟩
 .by_cases c1:16<=k/\k<30
  .unfold Mo.dyn at e;rw[if_neg (by omega),if_pos c1.2]at e;obtain⟨f',ef',e2⟩:=Option.map_eq_some_iff.mp e;cases e2;have y:=N.ls _ _ ef';by_cases cx:(k:Int)-16=x
   .have ff:f=n:=by rw[cx,ef]at ef';exact dJ ef'
    subst ff;rcases en with w|w
    .exact⟨(if_neg λz=>by rw[w]at z;cases z.1).trans ((fx f w).1.trans (ke cx)),(fx f w).2,y.1,y.2⟩
    .exact⟨(if_pos ⟨w.1,rfl⟩).trans (ke cx),dR r.bx w.2,y.1,y.2⟩
   .have eo:=ef';rw[F.old _ cx]at eo;have:=r.W.fk _ _ eo;have z:=r.X.dy _ _ _ (by omega) (wF r.W eo);exact⟨(kdf z.2.2.1 hf).trans (by omega),z.2.1,y.1,y.2⟩
  .have e0:m.dyn c g k=aA (n,o):=by
    unfold Mo.dyn at e ⊢;split
    .rename_i z;rw[if_pos z]at e;exact e
    .rename_i z;rw[if_neg z,if_neg (by omega)]at e;rw[if_neg (by omega)];exact e
   have z:=r.X.dy k n o h1 e0;exact⟨(kdf z.2.2.1 hf).trans z.1,z.2.1,bF z.2.2.1 kx.nx,kx.get z.2.2.1 (nin z.1 (by omega) (by omega)) z.2.2.2⟩
 .refine r.G.imp λ_ z=>z.low (aV _) (kx.lowG r.bx λn hn=>?_);rcases bn n hn with w|w
  .rw[w];exact rM ..
  .exact(fx n w).2
 .have w:=r.W;refine⟨w.tk,w.t0,w.sn,w.sw,w.wn,w.wl,w.kn,w.kl,w.bn,w.bl,N.nd,λy f' e=>?_,N.no,λy=>?_⟩
  .by_cases cy:y=x
   .rw[cy];exact hx
   .have e':=e;rw[F.old y cy]at e';exact w.fk y f' e'
  .show(kO m.fl x l y).length<99999;unfold kO;split
   .exact hl
   .exact w.ff y
end
section
variable {k:Nat}{g:Gh}
def aM.fx:aM->Ft
 |.way _ x _ _=>aA x | .set x _=>aA x | .move x _=>aA x | .load x _ _=>aA x
 |_=>aD
theorem Ga:r.fl=oI (aM.fx r):=by cases r<;>rfl
theorem Xs(hr:rC r)(e:aM.fx r=aA x):0<=x/\x<8:=by
 cases r<;>cases e
 .exact hr.1
 .exact hr.1
 .exact hr.1
 .exact hr.1
def Mo.wY(m:Mo)(row:aM)(a:Nat):Sl:=⟨a,m.bG,m.ah,row,row.fF.map λx=>(m.fl x).getLast?,eO row.nw aD,m.ah+1,aG,aD,aD,m.nw,aD,aD,aD⟩
def lC(fl:Int->WK)(row:aM)(t:Int):Int->WK:=match aM.fx row with
 |some x=>kO fl x (fl x++[t])
 |none=>fl
def gh(kp:Dc (Ft×Ft))(row:aM)(t:Int):Dc (Ft×Ft):=match row with
 |.store _ _ _=>kp++[(t,aD,aD)]
 |_=>kp
def Mo.enter(m:Mo)(row:aM)(a:Nat):Mo:={ m with slots:=m.slots++[m.wY row a],bG:=m.bG+1,fl:=lC m.fl row m.bG,kp:=gh m.kp row m.bG }
structure lh(c:Cf)(m:Mo)(row:aM):Prop where
 hr:c.rs[m.ah.toNat]?=aA row
 ah:0<=m.ah
 ok:rC row
 t0:0<=m.bG
 sl:∀s∈m.slots,s.tk<m.bG
 fl:∀y u,(m.fl y).getLast?=aA u->u<m.bG
 kp:∀p∈m.kp,p.1<m.bG
 bg:aW m.bg m.bG=aD
 sn:m.slots.length<63
 kl:m.kp.length<63
 ff:∀x,(m.fl x).length<99998
theorem aj{r:aM}:r.fF.length=r.nw:=by cases r<;>rfl
theorem zQ{r:aM}:r.nw<=2:=by cases r<;>exact JX rfl
theorem Vy(r:aJ c g m h)(hs:s∈m.slots)(er:s.row=row)(hk:∀p∈m.kp,p.1<s.tk)(hb:aW m.bg s.tk=aD)(kl:m.kp.length<63)(q:∀g' h',aJ c g' { m with kp:=gh m.kp row s.tk } h'->bN c g h g' h'->R (.ref s.a) h') :
  dU (run pg<|k+3) (bK<|bK<|bK<|bK<|bK vx) [aA (.ref<|c.b+1),aA row.av,aA (.ref s.a)] h (λ_ h1=>R .aH h1) R (λ_ _=>False) λ_ _=>False:=by
 have f:aJ c g m h->(∀x y d,row ≠ .store x y d)->R (.ref s.a) h:=λi hn=>q g h (by rw[show gh m.kp row s.tk=m.kp by unfold gh;split;exact absurd rfl<|hn _ _ _;rfl];exact i) bN.refl;by_cases cs:aM.kn row=("store":cW)
 .obtain⟨x,y,d,rfl⟩:=gg.mp cs;refine aC.of (r.at 1)<|aC.of (r.at 8)<|aC.of (r.cK hs)<|aJn r.shr hb hk λv j kx e=>?_;refine q g j (r.wM (m':={ m with kp:=m.kp++[(s.tk,aD,aD)] }) 9 kx e ⟨r.W.tk,r.W.t0,r.W.sn,r.W.sw,r.W.wn,r.W.wl,?_,by rw[dC];exact xM kl,r.W.bn,r.W.bl,r.W.fn,r.W.fk,r.W.fo,r.W.ff⟩ rfl rfl<|aV _)<|bN.kx r (by decide) ⟨_,rfl⟩ kx;rw[gJ,Pf];refine⟨r.W.kn,Pj ..,λa ha b hb=>?_⟩;obtain⟨z,l,rfl⟩:=List.mem_map.mp ha;rw[List.mem_singleton.mp hb];exact hk z l
 .have n:=f r λx y d e=>cs (gg.mpr ⟨x,y,d,e⟩);rw[mx];exact aC.of gF<|aE.df cs n
theorem WE(r:aJ c g m h)(et:s.tk=tk)(hs:s∈m.slots)(er:s.row=row)(ok:rC row)(hk:∀p∈m.kp,p.1<tk)(hb:aW m.bg tk=aD)(kl:m.kp.length<63)(hf:∀y u,(m.fl y).getLast?=aA u->u<tk)(ff:∀x,(m.fl x).length<99998)(q:∀g' h',aJ c g' { m with fl:=lC m.fl row tk,kp:=gh m.kp row tk } h'->bN c g h g' h'->R (.ref s.a) h') :
  dU (run pg<|k+3) (bK<|bK<|bK<|bK vx) [aA (.ref<|c.b+1),aA row.av,aA (.ref s.a)] h (λ_ h1=>R .aH h1) R (λ_ _=>False) λ_ _=>False:=by
 subst et;refine Fz ?_;rw[Ga];cases a:aM.fx row with
 |none=>refine Vy r hs er hk hb kl λg' h' b d=>q g' h' ?_ d;rw[show lC m.fl row s.tk=m.fl by unfold lC;rw[a]];exact b
 |some x=>refine aC.of (r.at 1)<|aC.of (r.at 4)<|aC.of (r.cK hs)<|Fz (k:=k+2) ?_;rw[Ga,a];refine d6 (k:=k+1) r.Iz (by have:=Zo r.W;lia) hf (by have:=ff x;lia) λv e l N F f=>?_;obtain⟨g',i,j⟩:=r.J7 N F (Xs ok a) (by rw[dC];exact xM<|ff x);refine Vy j hs er hk hb kl λg' h' b d=>q g' h' ?_ (i.trans d);rw[show lC m.fl row s.tk=kO m.fl x (m.fl x++[s.tk]) by unfold lC;rw[a]];exact b
theorem WG(r:aJ c g m h)(E:lh c m row)(q:∀a g' h',aJ c g' (m.enter row a) h'->bN c g h g' h'->R (.ref a) h'):WC (run pg (k+4) 112 [.ref (c.b+1)]) h R:=by
 have y:cJ (c.rs.map aM.av) m.ah=aA row.av:=by have hl:=(List.getElem?_eq_some_iff.mp E.hr).1;have:=E.ah;unfold cJ jM;rw[if_pos this,if_pos (by rw[aR];lia)];simp only[jJ,fR,E.hr,xO]
 refine aS rfl rfl<|aC.of (r.at 1)<|aC.of (r.at 1)<|WC.of<|eU (cH<|r.at 2) y ?_;refine aC.of (r.at 1)<|aC.of (r.at 1)<|aC.of (r.at 1)<|aC.of (r.at 4)<|HC ?_;refine n9 r.Iz (by have:=@aj row;have:=@zQ row;lia) λb k1=>?_;refine aC.of ((r.keep k1).at 1) ?_;have en:(row.fF.map λx=>oI (m.fl x).getLast?)=(row.fF.map λx=>(m.fl x).getLast?).map oI:=by rw[hB];rfl
 rw[en];have nl:(row.fF.map λx=>(m.fl x).getLast?).length=row.nw:=by rw[aR];exact aj
 refine aIl bJ (cM _) (by rw[nl];exact zQ) λl u z w2 f2=>⟨rfl,?_⟩;have k2:Kp h l:=⟨by have:=k1.nx;rw[u];show h.nx<=b.nx+1+2;lia,λi A=>by have:=k1.nx;rw[f2 i (by omega) (by show i<b.nx+1;lia),eA (by omega),k1.ob i A]⟩
 have o:=r.keep k2;refine aC.of (o.at 1)<|aC.of (o.at 1) ?_;obtain⟨s,d⟩:∃s,s=m.wY row b.nx:=⟨_,rfl⟩;rw[nl]at w2;obtain⟨B,_,p,t⟩:=r.MR (s:=s) (o1:=.lst aB []) (n:=b.nx) k2 (by rw[d];rfl) k1.nx (by rw[u];show b.nx+2<b.nx+1+2;lia) (by rw[z,d];rfl) (by rw[show b.nx+2=(b.new<|.ins 18 []).nx+1 from rfl,w2,d];unfold Mo.wY;rw[JR];rfl) (by rw[d];rfl) E.t0 E.sl E.sn (by rw[d];exact⟨ui ..,nl⟩);have f:(l.put (c.b+1)<|.ins 19<|{ m with bG:=m.bG+1 }.wf c g.sl).ob g.sl=aA (.lst aB<|m.slots.map λs=>.ref s.a):=(bL λw=>by have a:=r.jZ.2.2;rw[w,(r.X.st 1 _ rfl).1]at a;cases a).trans o.jZ.1
 refine aC.of bP<|aE.t rfl<|aC.of rfl<|aE.t (uA f)<|WC.of<|ai f (by rw[aR];have:=E.sn;have:=jE;lia) ?_;have e:bN c g h B ((l.put (c.b+1)<|.ins 19<|{ m with bG:=m.bG+1 }.wf c g.sl).put g.sl (.lst aB<|(m.slots.map λs=>AV.ref s.a)++[.ref b.nx])):=⟨k2.nx,λn hn j _=>⟨(bL λw=>by rw[w,r.jZ.2.2]at j;cases j).trans ((bL λw=>by rw[w,(r.X.st 1 _ rfl).1]at j;cases j).trans (k2.ob n hn)),(p n hn).trans j⟩⟩;change dU (run pg<|k+3) (bK<|bK<|bK<|bK vx) [aA (.ref<|c.b+1),aA row.av,aA (.ref b.nx)] ((l.put (c.b+1)<|.ins 19<|{ m with bG:=m.bG+1 }.wf c g.sl).put g.sl (.lst aB<|(m.slots.map λs=>AV.ref s.a)++[.ref b.nx])) (λ_ b=>R .aH b) R (λ_ _=>False) λ_ _=>False;revert t e
 intro t e;have:=WE (k:=k) (R:=R) (s:=s) (row:=row) t (by rw[d];rfl) (iH _<|List.mem_singleton.mpr rfl) (by rw[d];rfl) E.ok E.kp E.bg E.kl E.fl E.ff λg' h' v C=>by rw[d];refine q b.nx g' h' ?_<|e.trans C;rw[d]at v;exact v
 rw[d]at this;exact this
end
section
variable {k:Nat}{g:Gh}
def aM.Ej(ws:WK)(held:Ft):aM->Ft
 |.way w _ _ _=>aA (w.wk (cell ws 0)<|cell ws 1) | .set _ v=>aA v | .move _ _=>aA (cell ws 0) | .store _ _ _=>aA (cell ws 0) | .load _ _ _=>held
 |_=>aD
theorem SU{held:Ft}:r.br ws (oI held)=oI (aM.Ej ws held r):=by cases r<;>rfl
theorem Y5:r.pl ws=oI (r.CB ws):=by cases r<;>rfl
def nF(f:Ws)(o:Ft):Ft:=match f with
 |none=>o
 |some _=>aD
def Sl.d1(room:Int)(s:Sl):Ft:=nF (s.ft room) (aM.fx s.row)
def Sl.d2(room:Int)(s:Sl):Ft:=nF (s.ft room) (s.row.CB s.wi)
def Sl.d3(room:Int)(s:Sl):Ft:=nF (s.ft room) (aM.Ej s.wi s.dZ s.row)
def Sl.d4(room:Int)(s:Sl):Ft:=nF (s.ft room) (aA<|s.row.gs s.pc s.wi)
def Sl.dt(room:Int)(s:Sl):Fu:=[.int s.pc,oI (s.d1 room),oI (s.d2 room),oI (s.d3 room),oI (s.d4 room),(s.ft room).getD .aH]
theorem Vp:s.row.fg s.pc s.wi room (oI s.dZ) = .tup (s.dt room):=by
 unfold aM.fg Sl.dt Sl.d1 Sl.d2 Sl.d3 Sl.d4 Sl.ft;cases s.row.ft s.wi room with
 |none=>rw[Ga,Y5,SU];rfl
 |some f=>rfl
theorem nj(e:s.fi.isSome=aB):s.dd room = .tup (s.dt room):=by
 unfold Sl.dd;cases h:s.fi with
 |none=>rw[h]at e;cases e|some φ=>exact Vp
def eP.ff(s:eP)(w:Nat)(d:Fu):List (cW×AV):=[("ticket",.int s.tk),("at",.int s.pc),("row",.tup (.str (aM.kn s.row)::aM.tl s.row)),("names",.tup (s.aX.map oI)),("words",.ref w),("chosen",.int s.ch),("dares",.bl s.dr),("source",oI s.src),("held",oI s.dZ),("deed",.tup d),("put",.int s.put),("started",oI s.st),("finished",oI s.fi),("off",oI s.of)]
theorem aJ.Aj(r:aJ c g m h)(hs:s∈m.slots)(e:s.fi.isSome=aB):h.ob s.a=aA (.ins 18<|(s.lt c.room).ff (s.a+2) (s.dt c.room)):=by rw[r.lL hs];unfold eP.fk eP.ff;rw[show(s.lt c.room).dd=s.dd c.room from rfl,nj e]
def oV(room:Int)(o:Option Sl)(v:Int):Ft:=match o with
 |none=>aA v
 |some s=>if s.fi.isSome=aB then s.d3 room else aD
theorem B6{o:Option Sl}(r:aJ c g m h)(ho:∀s,o=aA s->s∈m.slots)(q:R (oI<|oV c.room o v) h):WC (run pg (k+1) 18 [aO o,.int v]) h R:=by
 cases o with
 |none=>exact aS rfl rfl q|some s=>
  have b:=ho s rfl;unfold oV at q;cases e:s.fi with
  |none=>
   dsimp only at q;rw[e]at q;have a:h.ob s.a=aA (.ins 18<|{ s.lt c.room with fi:=aD }.fk (s.a+2)):=by rw[r.lL b];unfold Sl.lt;rw[e]
   exact aS rfl rfl<|aC.of a q
  |some f=>
   have d:s.fi.isSome=aB:=by rw[e];rfl
   dsimp only at q;rw[if_pos d]at q;have a:h.ob s.a=aA (.ins 18<|{ s.lt c.room with fi:=aA f }.ff (s.a+2) (s.dt c.room)):=by rw[r.Aj b d];unfold Sl.lt;rw[e]
   exact aS rfl rfl<|aC.of a<|aC.of a q
end
section
variable {k:Nat}{g:Gh}
theorem Ln{i:Int}(h0:0<=i)(h1:i<ws.length)(hl:ws.length<=80)(q:R (.tup<|(ws.set i.toNat w).map .int) h):WC (run pg (k+1) 21 [.tup (ws.map .int),.int i,.int w]) h R:=by
 have big:=jE;obtain⟨n,rfl⟩:∃n:Nat,i=n:=⟨i.toNat,by lia⟩;have hn:n<ws.length:=by lia
 rw[oG,aQy,if_pos hn]at q;refine aS rfl rfl<|jm<|WC.of<|HK ?_ ?_
 .rw[HT.iu,aR];lia
 rw[UX];refine WC.of<|HE (by rw[kW,aR];show min n ws.length+1<=_;lia) ?_;refine jm<|WC.of<|HK (lo:=aA ((n+1:Nat):Int)) ?_ ?_
 .rw[HT.Lv,HT.iu,aR];lia
 rw[Vi];refine WC.of<|HE (by rw[dC,kW,uh,aR];rw[Ch (mR hn)];show n+1+(ws.length-(n+1))<=_;rw[Nat.add_sub_cancel' (hn)];exact dR hl<|dR (by decide)<|mR big) ?_;rw[<- Pc,<- Pb,IW];rw[gJ]at q;exact q
def Sd.du(sd:Sd)(d1 d2 d3 d4:Ft):Sd:=match d1,d2 with
 |some x,_=>⟨d4.getD 0,sd.bx.set x.toNat (d3.getD 0),sd.mem⟩
 |none,aA p=>⟨d4.getD 0,sd.bx,sd.mem.set p.toNat (d3.getD 0)⟩
 |none,aD=>⟨d4.getD 0,sd.bx,sd.mem⟩
theorem SJ{sd:Sd}(q:R sd.av h):WC (run pg (k+2) 22 [sd.av,.tup [.int pc,.aH,.aH,.aH,.aH,.tup xs]]) h R:=aS rfl rfl q
theorem SK{sd:Sd}{d1 d2 d3:Ft}(bl:sd.bx.length=8)(ml:sd.mem.length<=80)(h1:∀x,d1=aA x->(0<=x/\x<8)/\∃w,d3=aA w)(h2:∀p,d1=aD->d2=aA p->(0<=p/\p<sd.mem.length)/\∃w,d3=aA w)(q:R (sd.du d1 d2 d3<|aA a).av h):WC (run pg (k+2) 22 [sd.av,.tup [.int pc,oI d1,oI d2,oI d3,.int a,.aH]]) h R:=by
 cases d1 with
 |some x=>obtain⟨hx,w,rfl⟩:=h1 x rfl;exact aS rfl rfl<|Ln (k:=k) hx.1 (by omega) (by omega) q
 |none=>
  cases d2 with
  |some p=>obtain⟨hx,w,rfl⟩:=h2 p rfl rfl;exact aS rfl rfl<|Ln (k:=k) hx.1 hx.2 ml q
  |none=>exact aS rfl rfl q
def Mo.fL(m:Mo)(room:Int)(i:Nat):Nat->WK->Mo
 |_,[]=>m
 |j,x::l=>match m.slots[i]? with
  |none=>m
  |some s=>match oV room (((s.aX[j]?).join).bind m.slot) (cell m.sd.bx x) with
   |some w=>Mo.fL (m.give i j w) room i (j+1) l
   |none=>Mo.fL m room i (j+1) l
end
section
variable {k:Nat}{g:Gh}
theorem Sw{l:WY}(hj:j<l.length):cJ (l.map oI) (j:Int)=aA (oI (l[j]?).join):=by rw[L2.mq];rw[fR,eB hj];rfl
theorem e7{l:WX}(e:l.find? (λz=>decide (z.tk=u))=aA s):s∈l:=xK e
theorem SQ{o:Ft}(e:o.bind m.slot=aA s):s∈m.slots:=by obtain⟨t,_,e⟩:=Option.bind_eq_some_iff.mp e;exact e7 e
theorem m6(r:aJ c g m h)(hs:m.slots[i]?=aA s0)(bl:m.sd.bx.length=8)(P:Nat->Mo->Prop)(p0:P 0 m)
  (ps:∀j x m',s0.row.fF[j]?=aA x->P j m'->(0<=x/\x<8)/\∃s,m'.slots[i]?=aA s/\s.a=s0.a/\s.row=s0.row/\s.aX=s0.aX /\
   match oV c.room (((s0.aX[j]?).join).bind m'.slot) (cell m.sd.bx x) with
   |some w=>yA m' s j/\P (j+1) (m'.give i j w)
   |none=>P (j+1) m')
  (pe:∀m',P s0.row.fF.length m'->∃s,m'.slots[i]?=aA s/\s.a=s0.a)
  (q:∀m' g' h',P s0.row.fF.length m'->aJ c g' m' h'->bN c g h g' h'->R .aH h'):WC (run pg (k+5) 17 [.ref (c.b+1),.ref s0.a,.tup (m.sd.bx.map .int)]) h R:=by
 have hm:=bM hs;have nl:=(r.W.sw s0 hm).2;have wl:=@aj s0.row;have w2:=@zQ s0.row;refine aS rfl rfl<|WB.of<|kD<|aOg<|cF _<|aC.of (r.cK hm)<|HC (k:=k+3) ⟨_,rfl,?_⟩;refine i3 (xs:=s0.row.fF.map .int) (λj Z h'=>(∃v3 v4 v5,Z=[aA (.ref<|c.b+1),aA (.ref s0.a),aA (.tup<|m.sd.bx.map .int),v3,v4,v5])/\∃m' g',P j m'/\aJ c g' m' h'/\bN c g h g' h') (by rw[aR,eF];omega) ⟨⟨_,_,_,rfl⟩,m,g,p0,r,bN.refl⟩ (λj x Z h' hx y=>?_)<|λZ h' y=>?_
 .obtain⟨⟨v3,v4,v5,rfl⟩,m',g',pj,r',n'⟩:=y;obtain⟨x,hr,rfl⟩:=iN hx;have hj:=(List.getElem?_eq_some_iff.mp hr).1;obtain⟨hx8,s,es,ea,er,en,pk⟩:=ps j x m' hr pj;have hm':=bM es;have os:=r'.cK hm';rw[ea]at os;have e1:cJ (s.aX.map oI) (j:Int)=aA (oI (s.aX[j]?).join):=Sw (by rw[en];omega);refine gX _<|fE _<|aC.of (r'.at 1)<|aC.of os<|aC.of e1<|FE (k:=k+3) r' ?_;refine aC.of (mn hx8.1 (by rw[aR];omega))<|B6 (k:=k+3) r' (λs e=>SQ e) ?_;rw[en];cases ek:oV c.room (((s0.aX[j]?).join).bind m'.slot) (cell m.sd.bx x) with
  |none=>rw[ek]at pk;exact⟨⟨_,_,_,rfl⟩,m',g',pk,r',n'⟩
  |some w=>rw[ek]at pk;refine aC.of (r'.at 1)<|Yn (k:=k) r' es ea pk.1 λv g2 h2 r2 n2=>?_;exact⟨⟨_,_,_,rfl⟩,_,g2,pk.2,r2,n'.trans n2⟩
 .obtain⟨⟨v3,v4,v5,rfl⟩,m',g',pj,r',n'⟩:=y;rw[aR]at pj;exact q m' g' h' pj r' n'
end
section
variable {k:Nat}{g:Gh}
theorem c9{l:WX}(hp:(l.map (·.tk)).Pairwise (·<·))(e:l[i]?=aA s)(hb:s.tk<b):(l.filter λz=>decide (z.tk<b))[i]?=aA s:=by
 induction l generalizing i with
 |nil=>cases e|cons z l c=>
  rw[hA,Ph]at hp;cases i with
  |zero=>cases e;rw[gC,if_pos (by simpa)];rfl
  |succ i=>have a:l[i]?=aA s:=e;have:=hp.1 s.tk (List.mem_map.mpr ⟨s,bM a,rfl⟩);rw[gC,if_pos (by simp;omega)];exact c hp.2 a
theorem SR{t:Int}(e:pQ bg t p=aA b):t<b/\∃q∈bg,q.1=b:=by
 unfold pQ zb at e;split at e
 .cases e
 .rename_i z;have:=Ij (ns:=(bg.filter<|mF t p).map (·.1)) λw=>z (by rw[w];rfl);rw[dJ e]at this;obtain⟨q,a,rfl⟩:=List.mem_map.mp this;obtain⟨c,d⟩:=List.mem_filter.mp a;exact⟨of_decide_eq_true (Bool.and_eq_true_iff.mp d).1,q,c,rfl⟩
theorem Y6{w:Ft}(hp:(m.slots.map (·.tk)).Pairwise (·<·))(e:m.slots[i]?=aA s):(m.place s.tk p w).slots[i]?=aA s:=by
 unfold Mo.place;cases a:pQ m.bg s.tk p with
 |none=>exact e|some b=>exact c9 hp e (SR a).1
theorem Ym(hp:(m.slots.map (·.tk)).Pairwise (·<·))(e:m.slots[i]?=aA s):(m.give i j w).slots[i]?=aA { s with ws:=s.ws.set j (aA w) }/\(m.give i j w).sd=m.sd:=by
 have a:(m.cQ i { s with ws:=s.ws.set j (aA w) }).slots[i]?=aA { s with ws:=s.ws.set j (aA w) }:=kE ((List.getElem?_eq_some_iff.mp e).1);have b:((m.cQ i { s with ws:=s.ws.set j (aA w) }).slots.map (·.tk)).Pairwise (·<·):=by show((m.slots.set i _).map _).Pairwise _;rw[gj e (show({ s with ws:=s.ws.set j (aA w) }:Sl).tk=s.tk from rfl)];exact hp
 unfold Mo.give;rw[e];dsimp only;split
 .split
  .exact⟨a,rfl⟩
  .refine⟨Y6 b a,?_⟩;unfold Mo.place;split<;>rfl
 .exact⟨a,rfl⟩
theorem n7(hp:(m.slots.map (·.tk)).Pairwise (·<·)):((m.give i j w).slots.map (·.tk)).Pairwise (·<·):=by
 unfold Mo.give;split
 .exact hp
 .rename_i s e;have a:∀{b:Sl},b.tk=s.tk->((m.slots.set i b).map (·.tk)).Pairwise (·<·):=λ{b} z=>by rw[gj e z];exact hp
  split
  .split
   .exact a rfl
   .unfold Mo.place;split
    .exact a rfl
    .exact vE (List.filter_sublist.map _)<|a rfl
  .exact a rfl
def Mo.wH(m:Mo)(room:Int)(i:Nat):Nat->WK->Prop
 |_,[]=>True
 |j,x::l=>(0<=x/\x<8)/\∃s,m.slots[i]?=aA s/\(oV room (((s.aX[j]?).join).bind m.slot) (cell m.sd.bx x)=aD->Mo.wH m room i (j+1) l)/\∀w,oV room (((s.aX[j]?).join).bind m.slot) (cell m.sd.bx x)=aA w->yA m s j/\Mo.wH (m.give i j w) room i (j+1) l
theorem Gx(e:m.slots[i]?=aA s):m.fL room i j (x::l)=match oV room (((s.aX[j]?).join).bind m.slot) (cell m.sd.bx x)with|some w=>Mo.fL (m.give i j w) room i (j+1) l|none=>Mo.fL m room i (j+1) l:=by rw[Mo.fL,e]<;>rfl
theorem o9(r:aJ c g m h)(hs:m.slots[i]?=aA s0)(bl:m.sd.bx.length=8)(ok:m.wH c.room i 0 s0.row.fF)
  (q:∀g' h' s,aJ c g' (m.fL c.room i 0 s0.row.fF) h'->(m.fL c.room i 0 s0.row.fF).slots[i]?=aA s->s.a=s0.a->s.row=s0.row->s.pc=s0.pc->(m.fL c.room i 0 s0.row.fF).sd=m.sd->bN c g h g' h'->R .aH h'):WC (run pg (k+5) 17 [.ref (c.b+1),.ref s0.a,.tup (m.sd.bx.map .int)]) h R:=by
 refine m6 r hs bl (λj a=>a.wH c.room i j (s0.row.fF.drop j)/\m.fL c.room i 0 s0.row.fF=a.fL c.room i j (s0.row.fF.drop j)/\a.sd=m.sd/\(a.slots.map (·.tk)).Pairwise (·<·)/\∃s,a.slots[i]?=aA s/\s.a=s0.a/\s.row=s0.row/\s.aX=s0.aX/\s.pc=s0.pc) ⟨ok,rfl,rfl,r.W.tk,s0,hs,rfl,rfl,rfl,rfl⟩ (λj x a ex y=>?_) (λa y=>?_) λa g' h' y C D=>?_
 .obtain⟨f,b,sd,t,s,d,e,l,en,o⟩:=y;rw[Fl ex]at f b;obtain⟨E,G,n,A,B⟩:=f;rw[d]at n;cases n;rw[Gx d,en,sd]at b;rw[en,sd]at A B;refine⟨E,s,d,e,l,en,?_⟩;cases p:oV c.room (((s0.aX[j]?).join).bind a.slot) (cell m.sd.bx x) with
  |none=>rw[p]at b;exact⟨A p,b,sd,t,s,d,e,l,en,o⟩
  |some w=>rw[p]at b;obtain⟨gv,F⟩:=B w p;obtain⟨u,v⟩:=Ym t d;exact⟨gv,F,b,v.trans sd,n7 t,_,u,e,l,en,o⟩
 .obtain⟨_,_,_,_,s,d,e,_⟩:=y;exact⟨s,d,e⟩
 .obtain⟨_,b,sd,_,s,d,e,l,_,o⟩:=y;rw[Bt]at b;have z:m.fL c.room i 0 s0.row.fF=a:=b;rw[z]at q;exact q g' h' s C d e l o sd D
end
section
variable {k:Nat}{g:Gh}
theorem Yu(w:Sa L n a h R):∃c fs i,h.ob n=aA (.ins c fs)/\xi.lookup c=aA i/\(fs.lookup ("guess":cW)).isNone=aB/\WC (run pg L i [.ref n,.int a]) h R:=by obtain⟨n',c,fs,e,o,w⟩:=gY.ex w;cases e;obtain⟨i,l,w⟩:=aC.ex w;obtain⟨hn,w⟩:=aE.an w;exact⟨c,fs,i,o,l,hn,w⟩
theorem aJ.p7(r:aJ c g m h)(q:∀b h',Kp h h'->R (.bl b) h'):∃cl fs i,h.ob c.gu=aA (.ins cl fs)/\xi.lookup cl=aA i/\(fs.lookup ("guess":cW)).isNone=aB/\WC (run pg (k+3) i [.ref c.gu,.int a]) h R:=by obtain⟨K,z⟩:=r.G;exact Yu<|pd 1 z.T (z.kl r.bx) z.g (by omega) q
theorem aJ.L9(r:aJ c g m h)(q:∀b h',Kp h h'->R (.bl b) h'):∃cl fs i,h.ob c.nv=aA (.ins cl fs)/\xi.lookup cl=aA i/\(fs.lookup ("guess":cW)).isNone=aB/\WC (run pg (k+3) i [.ref c.nv,.int a]) h R:=by obtain⟨K,z⟩:=r.G;exact Yu<|pd 1 z.T (z.kl r.bx) z.n (by omega) q
def aM.oR(pc:Int)(b:Bool):aM->Int
 |.fW _ t=>if b=aB then t else pc+1
 |r=>r.gs pc []
theorem aHq(r:aJ c g m h)(hs:s∈m.slots)(q:∀b h',Kp h h'->R (.int<|aM.oR s.pc b s.row) h'):WC (run pg (k+4) 19 [.ref s.a,.ref c.gu]) h R:=by
 by_cases d:aM.kn s.row=("jump":cW)
 .obtain⟨x,t,f⟩:=qi.mp d;have p:∀b h',Kp h h'->R (.int<|if b=aB then t else s.pc+1) h':=λb h' k=>by have:=q b h' k;rw[f]at this;exact this
  have o:∀{h'},Kp h h'->h'.ob s.a=aA (.ins 18<|{ s.lt c.room with row:=.fW x t }.fs (s.a+2)):=λk=>by rw[(r.keep k).cK hs];unfold Sl.lt;rw[f]
  obtain⟨cl,fs,i,u,l,hn,w⟩:=r.p7 (a:=s.pc) (R:=λv h'=>∃b,v = .bl b/\Kp h h') λb h' k=>⟨b,rfl,k⟩;refine aS rfl rfl<|aC.of (o Kp.refl)<|aC.of u<|aC.of l<|aE.t hn<|aC.of (o Kp.refl)<|WC.of<|w.we.mono λv h' z=>?_;obtain⟨b,rfl,k1⟩:=z;have j:=p b h' k1;cases b with
  |true=>exact aC.of (o k1) j|false=>exact aC.of (o k1) j
 .have n:∀x t,s.row ≠ .fW x t:=λx t e=>d (qi.mpr ⟨x,t,e⟩);refine aHr (r.cK hs) n ?_;have:=q aB h Kp.refl;rw[show aM.oR s.pc aB s.row=s.row.gs s.pc [] by unfold aM.oR;split;exact absurd ‹s.row=_› (n _ _);rfl]at this;exact this
def mK:aM->Bool
 |.load _ _ _=>aB
 |_=>aG
def Mo.sA(m:Mo)(c:Cf)(row:aM)(a:Nat)(dr gs:Bool):Mo:=
 let m1:=(m.enter row a).fL c.room m.slots.length 0 row.fF
 match m1.slots[m.slots.length]? with
 |none=>m1
 |some s=>{ m1.cQ m.slots.length { s with dr:=if mK s.row=aB then dr else s.dr,ch:=aM.oR s.pc gs s.row }with ah:=aM.oR s.pc gs s.row }
theorem aJ.si(r:aJ c g m h)(hs:m.slots[i]?=aA s)(ha:s'.a=s.a)(ht:s'.tk=s.tk)(hw:s'.ws=s.ws)(hn:s'.aX=s.aX)(hr:s'.row=s.row):aJ c g (m.cQ i s') (h.put s.a<|.ins 18<|(s'.lt c.room).fs (s.a+2)):=r.aIk hs ha ht hw hn hr
theorem wX(hs:m.slots[i]?=aA s):(m.cQ i s').slots[i]?=aA s':=kE (List.getElem?_eq_some_iff.mp hs).1
theorem Lx:(m.cQ i s).cQ i s'=m.cQ i s':=by unfold Mo.cQ;simp only[uk]
theorem Xh(r:aJ c g m h)(hs:m.slots[i]?=aA s)(q:∀gs g' h',aJ c g' { m.cQ i { s with ch:=aM.oR s.pc gs s.row }with ah:=aM.oR s.pc gs s.row } h'->bN c g h g' h'->R .aH h') :
  dU (run pg<|k+5) (bK<|bK<|bK Td) [aA (.ref<|c.b+1),aA (.ref<|c.b+11),aA (.ref s.a)] h (λ_ h1=>R .aH h1) R (λ_ _=>False) λ_ _=>False:=by
 have hm:=bM hs;refine aC.of (r.at 11)<|aHq r hm λb h1 k1=>?_;have d:=r.keep k1;refine aC.of rfl<|aC.of rfl<|aC.of (d.cK hm) ?_;have a:=d.si (s':={ s with ch:=aM.oR s.pc b s.row }) hs rfl rfl rfl rfl rfl;refine aC.of bP<|aC.of (a.at 1) ?_;exact q b g _ (a.tJ)<|((bN.keep k1).trans (bN.put (r.qf hm).1)).trans (bN.st a (by decide) ⟨_,rfl⟩)
theorem c8(r:aJ c g m h)(E:lh c m row)(bl:m.sd.bx.length=8)(ok:∀a,(m.enter row a).wH c.room m.slots.length 0 row.fF)(q:∀a dr gs g' h',aJ c g' (m.sA c row a dr gs) h'->bN c g h g' h'->R .aH h'):WC (run pg (k+6) 16 [.ref (c.b+1),.ref (c.b+11)]) h R:=by
 refine aS rfl rfl<|aC.of (r.at 1)<|WG (k:=k+1) r E λa g1 h1 r1 n1=>?_;have e0:(m.enter row a).slots[m.slots.length]?=aA (m.wY row a):=JH;refine aC.of (r1.at 11)<|o9 (k:=k) (s0:=m.wY row a) r1 e0 bl (ok a) λg2 h2 s r2 es ea er ep esd n2=>?_;have q2:∀dr gs g' h',aJ c g' { ((m.enter row a).fL c.room m.slots.length 0 row.fF).cQ m.slots.length { s with dr:=if mK s.row=aB then dr else s.dr,ch:=aM.oR s.pc gs s.row }with ah:=aM.oR s.pc gs s.row } h'->bN c g2 h2 g' h'->R .aH h':=λdr gs g' h' z n3=>q a dr gs g' h' (by
  unfold Mo.sA;dsimp only;rw[show((m.enter row a).fL c.room m.slots.length 0 row.fF).slots[m.slots.length]?=aA s from es];exact z) (n1.trans<|n2.trans n3)
 have ea':a=s.a:=ea.symm;subst ea';revert es r2 q2
 show aJ c g2 ((m.enter row s.a).fL c.room m.slots.length 0 row.fF) h2->((m.enter row s.a).fL c.room m.slots.length 0 row.fF).slots[m.slots.length]?=aA s->_->_;generalize (m.enter row s.a).fL c.room m.slots.length 0 row.fF=m2;intro r2 es q2;have hm:=bM es;by_cases cl:aM.kn s.row=("load":cW)
 .obtain⟨x,y,d,el⟩:=gf.mp cl;obtain⟨cc,fs,i,o1,l,hn,w⟩:=r2.L9 (k:=k+2) (a:=s.pc) (R:=λv h'=>∃b,v = .bl b/\Kp h2 h') λb h' k=>⟨b,rfl,k⟩;refine aC.of (r2.lL hm)<|aC.of gF<|aE.dt cl<|aC.of (r2.at 11)<|aC.of o1<|aC.of l<|aE.t hn<|aC.of (r2.cK hm)<|WC.of<|w.we.mono λv h3 z=>?_;obtain⟨b,rfl,k3⟩:=z;have r3:=r2.keep k3;refine aC.of rfl<|aC.of rfl<|aC.of (r3.cK hm) ?_;have r4:=r3.si (s':={ s with dr:=b }) es rfl rfl rfl rfl rfl;refine Xh (k:=k) (s:={ s with dr:=b }) r4 (wX es) λgs g' h' r5 n5=>q2 b gs g' h' ?_ (((bN.keep k3).trans (bN.put (r2.qf hm).1)).trans n5);rw[show mK s.row=aB by rw[el];rfl,if_pos rfl];rw[Lx]at r5;exact r5
 .refine aC.of (r2.lL hm)<|aC.of gF<|aE.df cl ?_;refine Xh (k:=k) r2 es λgs g' h' r5 n5=>q2 aB gs g' h' ?_ n5;rw[if_neg (show¬mK s.row=aB from λz=>cl (gf.mpr (by cases hr:s.row<;>rw[hr]at z<;>first|exact⟨_,_,_,rfl⟩|cases z)))];exact r5
end
section
variable {k:Nat}{g:Gh}
def Mo.nY(m:Mo)(room:Int)(s:Sl):Option (Option<|Int×Ft×Int):=match s.row with
 |.load _ _ d=>if 0<=cell s.wi 0+d/\cell s.wi 0+d<room then match uD (cell s.wi 0+d) s.dr (m.kp.filter λq=>decide (q.1<s.tk)).reverse with
   |none=>aD
   |some aD=>aA (aA (cell s.wi 0+d,aW m.gR (cell s.wi 0+d),cell m.sd.mem (cell s.wi 0+d)))
   |some (aA (u,w))=>aA (aA (cell s.wi 0+d,aA u,w))
  else aA aD
 |_=>aA aD
def Sl.uC(s:Sl):Option (Int×Ft×Int)->Sl
 |none=>s
 |some (_,u,w)=>{ s with src:=u,dZ:=aA w }
def Ts(bg:Dc (Int×Ft))(t:Int):Option (Int×Ft×Int)->Dc (Int×Ft)
 |none=>bg
 |some (p,u,_)=>bg++[(t,p,u)]
structure vp(c:Cf)(m:Mo)(s:Sl):Prop where
 fi:s.fi=aD
 ws:s.ws=s.wi.map aA
 bg:aW m.bg s.tk=aD
 kp:∀x y d,s.row = .load x y d->aW m.kp s.tk=aD
 bl:m.bg.length<63
 ml:c.room=m.sd.mem.length
theorem Nr:(ws.map aA).map oI=ws.map AV.int:=by rw[hB];rfl
theorem aJ.Tv(r:aJ c g m h)(bn:(bg'.map (·.1)).Nodup)(bl:bg'.length<64):aJ c g { m with bg:=bg' } (h.put (c.b+10)<|.aP<|dE lQ bg'):=
 r.sN 10 ⟨r.W.tk,r.W.t0,r.W.sn,r.W.sw,r.W.wn,r.W.wl,r.W.kn,r.W.kl,bn,bl,r.W.fn,r.W.fk,r.W.fo,r.W.ff⟩ rfl rfl (aV _)
theorem zc{β:Type}{l:Dc β}{v:β}(nd:(l.map (·.1)).Nodup)(h:aW l x=aD):((l++[(x,v)]).map (·.1)).Nodup:=by rw[gJ,JT];refine⟨nd,by simp,λa ha b hb=>?_⟩;obtain⟨p,c,rfl⟩:=List.mem_map.mp ha;rw[List.mem_singleton.mp hb];intro w;have d:p.1=x:=w;have:=mL nd c;rw[d,h]at this;cases this
theorem aLg(r:aJ c g m h)(hs:m.slots[i]?=aA s)(hb:aW m.bg s.tk=aD)(hk:aW m.kp s.tk=aD)(bl:m.bg.length<63)(q:aJ c g { m with bg:=m.bg++[(s.tk,p,s.src)] } (h.put (c.b+10)<|.aP<|dE lQ<|m.bg++[(s.tk,p,s.src)])->R (.bl aB) (h.put (c.b+10)<|.aP<|dE lQ<|m.bg++[(s.tk,p,s.src)])) :
  dU (run pg<|k+3) (bK<|bK<|bK<|bK<|bK mz) [aA (.ref<|c.b+1),aA (.ref<|c.b+11),aA (.ref s.a),aA (.int p),aA fnd] h (λ_ h1=>R .aH h1) R (λ_ _=>False) λ_ _=>False:=by
 have hm:=bM hs;refine aC.of (r.at 1)<|aC.of (r.at 8)<|aC.of (r.cK hm)<|aC.of (r.cK hm)<|D6 r.shr hb hk λv=>?_;exact q<|r.Tv (zc r.W.bn hb) (by rw[dC];exact xM bl)
theorem EX{α:Type}{l:List α}{x:α}(e:l[i]?=aA x):l.set i x=l:=by
 refine JC λj=>?_;rw[JJ];split
 .rename_i z;subst z;rw[e,if_pos (List.getElem?_eq_some_iff.mp e).1]
 .rfl
theorem Tu{u:Ft}(r:aJ c g m h)(hs:m.slots[i]?=aA s)(hb:aW m.bg s.tk=aD)(hk:aW m.kp s.tk=aD)(bl:m.bg.length<63)(r2:aJ c g (m.cQ i { s with src:=u,dZ:=aA w }) h2)(nx:bN c g h g h2)(q:∀h',aJ c g { m.cQ i { s with src:=u,dZ:=aA w }with bg:=m.bg++[(s.tk,p,u)] } h'->bN c g h g h'->R (.bl aB) h') :
  dU (run pg<|k+3) (bK<|bK<|bK<|bK<|bK mz) [aA (.ref<|c.b+1),aA (.ref<|c.b+11),aA (.ref s.a),aA (.int p),aA fnd] h2 (λ_ h1=>R .aH h1) R (λ_ _=>False) λ_ _=>False:=
 aLg (s:={ s with src:=u,dZ:=aA w }) r2 (wX hs) hb hk bl λa=>q _ a (nx.trans<|bN.st r2 (by decide) ⟨_,rfl⟩)
theorem i8{f:cW}{v:AV}(r:aJ c g m h)(hs:m.slots[i]?=aA s)(ha:s'.a=s.a)(ht:s'.tk=s.tk)(hw:s'.ws=s.ws)(hn:s'.aX=s.aX)(hr:s'.row=s.row)(e:gL f v ((s.lt c.room).fs (s.a+2))=(s'.lt c.room).fs (s.a+2))(q:∀h',aJ c g (m.cQ i s') h'->h'.nx=h.nx->(∀n,n≠s.a->h'.ob n=h.ob n)->dU F ss Z h' N R B C):dU F ss Z (h.put s.a<|.ins 18<|gL f v<|(s.lt c.room).fs (s.a+2)) N R B C:=by rw[e];exact q _ (r.si hs ha ht hw hn hr) rfl λn hn=>bL hn
theorem oh{f:cW}{v:AV}(r:aJ c g m h)(hs:m.slots[i]?=aA s)(ha:s'.a=s.a)(ht:s'.tk=s.tk)(hw:s'.ws=s.ws)(hn:s'.aX=s.aX)(hr:s'.row=s.row)(e:gL f v ((s.lt c.room).fs (s.a+2))=(s'.lt c.room).fs (s.a+2))(q:∀h',aJ c g (m.cQ i s') h'->bN c g h g h'->dU F ss Z h' N R B C):dU F ss Z (h.put s.a<|.ins 18<|gL f v<|(s.lt c.room).fs (s.a+2)) N R B C:=by rw[e];exact q _ (r.si hs ha ht hw hn hr)<|bN.put (r.qf<|bM hs).1
theorem aLh(r:aJ c g m h)(hs:m.slots[i]?=aA s)(hb:aW m.bg s.tk=aD)(hk:aW m.kp s.tk=aD)(bl:m.bg.length<63)(hf:s.fi=aD)(h0:0<=p)(h1:p<m.sd.mem.length)(q:∀h',aJ c g { m.cQ i { s with src:=aW m.gR p,dZ:=aA (cell m.sd.mem p) }with bg:=m.bg++[(s.tk,p,aW m.gR p)] } h'->bN c g h g h'->R (.bl aB) h') :
  dU (run pg<|k+3) (bK<|bK<|bK mz) [aA (.ref<|c.b+1),aA (.ref<|c.b+11),aA (.ref s.a),aA (.int p),aA (.tup [.aH,.aH])] h (λ_ h1=>R .aH h1) R (λ_ _=>False) λ_ _=>False:=by
 have hm:=bM hs;have d:cJ (m.sd.mem.map AV.int) p=aA (.int<|cell m.sd.mem p):=mn h0 (by rw[aR];exact h1);refine aC.of (r.at 11)<|aE.t (B:=False) rfl<|aC.of rfl<|aE.t (qL<|r.at 13)<|WC.of<|Nh (r.at 13) rfl ?_;rw[iA,show((aW m.gR p).map AV.int).getD .aH=oI (aW m.gR p) by cases aW m.gR p<;>rfl];refine aC.of rfl<|aC.of rfl<|aC.of (r.cK hm) ?_;refine oh (s':={ s with src:=aW m.gR p }) r hs rfl rfl rfl rfl rfl rfl λh1 a e=>?_;refine aC.of (a.at 11)<|aC.of d<|aC.of rfl<|aC.of rfl<|aC.of (a.cK<|bM<|wX (m:=m) (s':={ s with src:=aW m.gR p }) hs) ?_;refine oh (s:={ s with src:=aW m.gR p }) (s':={ s with src:=aW m.gR p,dZ:=aA (cell m.sd.mem p) }) a (wX hs) rfl rfl rfl rfl rfl (by rw[hf];rfl) λj b f=>?_;rw[Lx]at b;exact Tu r hs hb hk bl b (e.trans f) q
theorem aLi(r:aJ c g m h)(hs:m.slots[i]?=aA s)(hb:aW m.bg s.tk=aD)(hk:aW m.kp s.tk=aD)(bl:m.bg.length<63)(hf:s.fi=aD)(q:∀h',aJ c g { m.cQ i { s with src:=aA u,dZ:=aA w }with bg:=m.bg++[(s.tk,p,aA u)] } h'->bN c g h g h'->R (.bl aB) h') :
  dU (run pg<|k+3) (bK<|bK<|bK mz) [aA (.ref<|c.b+1),aA (.ref<|c.b+11),aA (.ref s.a),aA (.int p),aA (.tup [.int u,.int w])] h (λ_ h1=>R .aH h1) R (λ_ _=>False) λ_ _=>False:=by
 refine aC.of (r.cK<|bM hs) ?_;refine oh (s':={ s with src:=aA u }) r hs rfl rfl rfl rfl rfl rfl λh1 a d=>?_;have e:=a.cK (bM<|wX (m:=m) (s':={ s with src:=aA u }) hs);refine aC.of e ?_;refine oh (s:={ s with src:=aA u }) (s':={ s with src:=aA u,dZ:=aA w }) a (wX hs) rfl rfl rfl rfl rfl (by rw[hf];rfl) λj b f=>?_;rw[Lx]at b;exact Tu r hs hb hk bl b (d.trans f) q
theorem aLm(r:aJ c g m h)(hs:m.slots[i]?=aA s)(O:vp c m s)(q0:m.nY c.room s=aD->∀h',Kp h h'->R (.bl aG) h')(q1:∀l h',m.nY c.room s=aA l->aJ c g { m.cQ i (s.uC l)with bg:=Ts m.bg s.tk l } h'->bN c g h g h'->R (.bl aB) h'):WC (run pg (k+4) 34 [.ref (c.b+1),.ref (c.b+11),.ref s.a]) h R:=by
 have hm:=bM hs;have ow:=r.jj hm;rw[O.ws,Nr]at ow;have same:m.cQ i s=m:=by unfold Mo.cQ;rw[EX hs]
 have qn:m.nY c.room s=aA aD->R (.bl aB) h:=λe=>q1 aD h e (by show aJ c g { m.cQ i s with bg:=m.bg } h;rw[same];exact r) bN.refl;have wl:s.wi.length=s.row.nw:=by rw[<- (r.W.sw s hm).1];exact aR ..
 by_cases cl:aM.kn s.row=("load":cW)
 .obtain⟨x,y,d,er⟩:=gf.mp cl;have hk:=O.kp x y d er;have ep:s.row.pl s.wi = .int (cell s.wi 0+d):=by rw[er];rfl
  have sp:∀{h'}{R:AV->AH->Prop},Kp h h'->R (.int<|cell s.wi 0+d) h'->WC (run pg (k+3) 107 [.ref s.a]) h' R:=λ{h' R} kk qq=>aIy (k:=k+1) (s:=s.lt c.room) (w:=s.a+2) ((r.keep kk).cK hm) (kk.get (r.ET hm) ow) wl (by rw[show(s.lt c.room).row=s.row from rfl,ep];exact qq);unfold Mo.nY at q0 q1 qn;rw[er]at q0 q1 qn;dsimp only at q0 q1 qn;refine aS rfl rfl<|aC.of (r.lL hm)<|aC.of gF<|aE.nt cl<|aC.of (r.cK hm)<|sp Kp.refl<|aC.of (r.at 11)<|Yz (k:=k+2) ?_;rw[show((m.sd.mem.length:Nat):Int)=c.room from O.ml.symm];by_cases cm:0<=cell s.wi 0+d/\cell s.wi 0+d<c.room
  .rw[if_pos cm]at q0 q1 qn;refine aE.nt cm<|aC.of (r.cK hm)<|sp Kp.refl<|aC.of (r.at 1)<|aC.of (r.at 8)<|aC.of (r.cK hm)<|aC.of (r.cK hm)<|E2 (t:=s.tk) (dr:=s.dr) (k:=k+2) r.shr λh1 k1=>?_;have r1:=r.keep k1;cases el:uD (cell s.wi 0+d) s.dr (m.kp.filter λq=>decide (q.1<s.tk)).reverse with
   |none=>rw[el]at q0;exact q0 rfl h1 k1
   |some o=>
    rw[el]at q1;cases o with
    |none=>exact aLh (k:=k) r1 hs O.bg hk O.bl O.fi cm.1 (by have:=O.ml;omega) λh' r' n'=>q1 _ h' rfl r' ((bN.keep k1).trans n')|some uw=>exact aLi (k:=k) r1 hs O.bg hk O.bl O.fi λh' r' n'=>q1 _ h' rfl r' ((bN.keep k1).trans n')
  .rw[if_neg cm]at qn;exact aE.nf cm<|qn rfl
 .refine aS rfl rfl<|aC.of (r.lL hm)<|aC.of gF<|aE.nf cl<|qn ?_;unfold Mo.nY;split
  .exact absurd (gf.mpr ⟨_,_,_,‹s.row=_›⟩) cl
  .rfl
end
section
variable {k:Nat}{g:Gh}
def Mo.start(m:Mo)(c:Cf)(t:Int×Int)(i:Nat)(s:Sl):Mo:=if 0<t.1-lT m.wk s.row.cA then match m.nY c.room s with
  |none=>m
  |some l=>{ m.cQ i { s.uC l with st:=aA m.nw }with bg:=Ts m.bg s.tk l,wk:=m.wk++[(s.tk,s.row.cA,m.nw+t.2)] }
 else m
theorem Hv{s:Sl}{l:Option (Int×Ft×Int)}:(s.uC l).a=s.a/\(s.uC l).tk=s.tk/\(s.uC l).ws=s.ws/\(s.uC l).aX=s.aX/\(s.uC l).row=s.row/\(s.uC l).fi=s.fi:=by
 cases l with
 |none=>exact⟨rfl,rfl,rfl,rfl,rfl,rfl⟩|some p=>exact⟨rfl,rfl,rfl,rfl,rfl,rfl⟩
theorem aJg{t:Int×Int}{r0:AV}(r:aJ c g m h)(hs:m.slots[i]?=aA s)(hg:cJ (c.tb.map cX) s.row.cA=aA (cX t))(hn:aW m.wk s.tk=aD)(hf:lT m.wk s.row.cA<t.1)(wl:m.wk.length<63)(q:∀h',aJ c g { m.cQ i { s with st:=aA m.nw }with wk:=m.wk++[(s.tk,s.row.cA,m.nw+t.2)] } h'->bN c g h g h'->R .aH h') :
  dU (run pg<|k+4) (.cons (.expr<|.qX "start" [(15,85)] (.lD [19] "benches"<|.var 0)<|.cons (.lD [18] "ticket"<|.var 2)<|.cons (.var 3)<|.cons (.lD [19] "now"<|.var 0) .nil)<|.cons (.fu [18] "started" (.var 2)<|.lD [19] "now"<|.var 0) .nil) [aA (.ref<|c.b+1),aA r0,aA (.ref s.a),aA (.int s.row.cA)] h (λZ h1=>dU (run pg<|k+4) .nil Z h1 (λ_ h1=>R .aH h1) R (λ_ _=>False) λ_ _=>False) R (λ_ _=>False) λ_ _=>False:=by
 have hm:=bM hs;refine aC.of (r.at 1)<|aC.of (r.at 6)<|aC.of (r.cK hm)<|aC.of (r.at 1)<|aJj r.wa hg hn hf λv h1 kx e=>?_;have a:=r.wM (m':={ m with wk:=m.wk++[(s.tk,s.row.cA,m.nw+t.2)] }) 7 kx e ⟨r.W.tk,r.W.t0,r.W.sn,r.W.sw,zc r.W.wn hn,by rw[dC];exact xM wl,r.W.kn,r.W.kl,r.W.bn,r.W.bl,r.W.fn,r.W.fk,r.W.fo,r.W.ff⟩ rfl rfl (aV _);refine aC.of (a.at 1)<|aC.of (a.cK hm) ?_;exact oh (s':={ s with st:=aA m.nw }) a hs rfl rfl rfl rfl rfl rfl λb d f=>q b d ((bN.kx r (by decide) ⟨_,rfl⟩ kx).trans f)
theorem G3{t:Int×Int}(r:aJ c g m h)(hs:m.slots[i]?=aA s)(O:vp c m s)(hg:cJ (c.tb.map cX) s.row.cA=aA (cX t))(hn:aW m.wk s.tk=aD)(wl:m.wk.length<63)(q:∀h',aJ c g (m.start c t i s) h'->bN c g h g h'->R .aH h'):WC (run pg (k+5) 33 [.ref (c.b+1),.ref (c.b+11),.ref s.a]) h R:=by
 unfold Mo.start at q;refine aS rfl rfl<|aC.of (r.cK<|bM hs)<|p5<|aC.of (r.at 1)<|aC.of (r.at 6)<|Xp r.wa hg λu k1=>?_;have d:=r.keep k1;by_cases a:0<t.1-lT m.wk s.row.cA
 .rw[if_pos a]at q;refine aE.dt a (aLm d hs O (λe j k2=>?_) λl j e n o=>?_)
  .rw[e]at q;exact q _ (d.keep k2)<|(bN.keep k1).trans (bN.keep k2)
  .rw[e]at q;obtain⟨l1,l2,v,w,b,x⟩:=@Hv s l;have:=aJg (k:=k) (r0:=.ref (c.b+11)) n (wX hs) (b▸hg) (l2▸hn) (by rw[b];show lT m.wk _<_;omega) wl λh' f p=>q h' (by
    simp only[Mo.cQ,uk,l2,b]at f ⊢;exact f) ((bN.keep k1).trans (o.trans p))
   rw[l1,b]at this;exact this
 .rw[if_neg a]at q;exact aE.df a<|q _ d<|bN.keep k1
end
section
variable {k:Nat}{g:Gh}
def Mo.jmp(m:Mo)(room:Int)(s:Sl):Mo:=match s.row with
 |.fW _ _=>if s.d4 room=aA s.ch then m else({ m with ah:=(s.d4 room).getD 0 }:Mo).cut (s.tk+1)
 |_=>m
theorem e9{v2:AV}(r:aJ c g m h)(hs:s∈m.slots)(hf:s.fi.isSome=aB)(q:∀g' h',aJ c g' (m.jmp c.room s) h'->iL c g h g' h'->R .aH h') :
  dU (run pg<|k+3) (bK<|bK<|bK Te) [aA (.ref<|c.b+1),aA (.ref s.a),aA v2] h (λ_ h1=>R .aH h1) R (λ_ _=>False) λ_ _=>False:=by
 have o:=r.Aj hs hf;by_cases d:aM.kn s.row=("jump":cW)
 .obtain⟨x,t,l⟩:=qi.mp d;have p:s.d4 c.room=aA (s.row.gs s.pc s.wi):=by unfold Sl.d4 Sl.ft;rw[l];rfl
  have dt:s.dt c.room=[.int s.pc,oI (s.d1 c.room),oI (s.d2 c.room),oI (s.d3 c.room),.int (s.row.gs s.pc s.wi),(s.ft c.room).getD .aH]:=by unfold Sl.dt;rw[p];rfl
  unfold Mo.jmp at q;rw[l]at q;dsimp only at q;rw[p]at q;rw[dt]at o;refine aC.of o<|aC.of gF<|aE.dt d<|aC.of o<|aC.of o ?_;refine aE.nd (c:=s.row.gs s.pc s.wi=s.ch) (λf=>?_) λf=>?_
  .rw[if_neg λz=>f (dJ z)]at q;refine aC.of o<|aC.of (r.at 1) ?_;have j:=r.tJ (a:=s.row.gs s.pc s.wi);exact aC.of (j.at 1)<|aC.of (j.cK hs)<|Ap (k:=k+1) j λv g' h' u w fr=>q g' h' u (.trans (.put r (i:=1) (by decide) rfl) ⟨w,λn a b _=>fr n a b⟩)
  .rw[if_pos (congrArg aA f)]at q;exact q g h r .refl
 .have e:m.jmp c.room s=m:=by
   unfold Mo.jmp;split
   .exact absurd (qi.mpr ⟨_,_,‹s.row=_›⟩) d
   .rfl
  rw[e]at q;exact aC.of o<|aC.of gF<|aE.df d<|q g h r .refl
end
section
variable {k:Nat}{g:Gh}
structure nQ(c:Cf)(g:Gh)(s:Sl)(h:AH):Prop where
 o:h.ob s.a=aA (.ins 18<|(s.lt c.room).ff (s.a+2) (s.dt c.room))
 w:h.ob (s.a+2)=aA (.lst aB<|s.wi.map .int)
 l:s.a+2<h.nx
 lo:c.b<=s.a
 k1:28<=g.kd s.a
 k2:28<=g.kd (s.a+2)
theorem nQ.fr(L:nQ c g s h)(f:iL c g h g' h'):nQ c g' s h':=
 have l:=L.l;have a:=f.ob s.a (by omega) L.k1 L.lo;have b:=f.ob (s.a+2) l L.k2 (by have:=L.lo;omega)
 ⟨a.1.trans L.o,b.1.trans L.w,bF l f.nx,L.lo,a.2▸L.k1,b.2▸L.k2⟩
theorem Zx{b:Bool}(w:Du L n a b h R):∃c fs i,h.ob n=aA (.ins c fs)/\xj.lookup c=aA i/\(fs.lookup ("learn":cW)).isNone=aB/\WC (run pg L i [.ref n,.int a,.bl b]) h R:=by obtain⟨n',c,fs,e,o,w⟩:=gY.ex w;cases e;obtain⟨i,l,w⟩:=aC.ex w;obtain⟨hn,w⟩:=aE.an w;exact⟨c,fs,i,o,l,hn,w⟩
theorem aMy(r:aJ c g m h)(L:nQ c g s h)(hg:∀u,s.src=aA u->(aW m.dQ u).isSome)(q:∀b,R (.bl b) h):WC (run pg (k+1) 28 [.ref (c.b+11),.ref s.a]) h R:=by
 cases a:s.src with
 |none=>
  have o:h.ob s.a=aA (.ins 18<|{ s.lt c.room with src:=aD }.ff (s.a+2) (s.dt c.room)):=by rw[L.o];unfold Sl.lt;rw[a]
  exact aS rfl rfl<|aC.of o<|q _
 |some u=>
  have o:h.ob s.a=aA (.ins 18<|{ s.lt c.room with src:=aA u }.ff (s.a+2) (s.dt c.room)):=by rw[L.o];unfold Sl.lt;rw[a]
  obtain⟨v,d⟩:=Option.isSome_iff_exists.mp (hg u a);exact aS rfl rfl<|aC.of o<|aC.of (r.at 11)<|aC.of o<|WC.of<|ua (r.at 14) rfl (by rw[iA,d];rfl)<|aC.of o<|q _
theorem AE{K:Nat->WS}(r:aJ c g m h)(G:lP c n K h)(hn:n+2<=2*m.cB.length+10)(kk:Kk K 5 h h')(T:TH K (n+2) h'):aJ c g m h'/\iL c g h g h':=
 have e:∀i,i<h.nx->c.b<=i->h'.ob i=h.ob i:=λi a hb=>kk.ob i a λt z=>absurd (G.lt i t z) (Nat.not_lt.mpr hb)
 ⟨⟨r.X.low kk.nx e,⟨K,⟨T.le hn,G.g,G.n,G.lt,λp b=>have y:=G.lo p b;⟨y.1,y.2.1,(kk.ob _ (bF y.2.1 r.bx) λt z=>by rw[y.1]at z;cases z).trans y.2.2⟩⟩⟩,r.W⟩,⟨kk.nx,λi a _ hb=>⟨e i a hb,rfl⟩⟩⟩
theorem aLp{K:Nat->WS}(r:aJ c g m h)(L:nQ c g s h)(G:lP c n K h)(hn:n+2<=2*m.cB.length+10)(hn2:n+2<=2000)(hw:s.wi.length=s.row.nw)(hg:∀u,s.src=aA u->(aW m.dQ u).isSome)(q:∀h',aJ c g m h'->iL c g h g h'->R .aH h'):WC (run pg (k+6) 27 [.ref (c.b+11),.ref s.a]) h R:=by
 by_cases cj:aM.kn s.row=("jump":cW)
 .obtain⟨x,t,er⟩:=qi.mp cj;have cl:¬aM.kn s.row=("load":cW):=by rw[er];show¬("jump":cW)="load";decide +kernel
  obtain⟨w0,ew⟩:=qo (by rw[hw,er];rfl:s.wi.length=1);have ow:=L.w;rw[ew]at ow;obtain⟨cc,fs,i,o1,l,hm,w⟩:=Zx (ql (Hd 1) (L:=k+5) (a:=s.pc) (b:=!decide (w0=0)) (R:=λv h'=>aJ c g m h'/\iL c g h g h') G.T (G.kl r.bx) G.g hn2 (by omega) λh' kk T=>AE r G hn kk T);refine aS rfl rfl<|aC.of L.o<|aC.of gF<|aE.dt cj<|aC.of (r.at 11)<|aC.of o1<|aC.of l<|aE.t hm<|aC.of L.o<|aC.of L.o<|WC.of<|eU (cH ow) rfl<|WC.of<|w.we.mono λv h1 z=>?_;exact aC.of (L.fr z.2).o (aC.of gF<|aE.df cl<|q h1 z.1 z.2)
 .refine aS rfl rfl<|aC.of L.o<|aC.of gF<|aE.df cj ?_;by_cases cl:aM.kn s.row=("load":cW)
  .have lw:=λb=>Zx (ql (Hd 1) (L:=k+5) (a:=s.pc) (b:=b) (R:=λv h'=>aJ c g m h'/\iL c g h g h') G.T (G.kl r.bx) G.n hn2 (by omega) λh' kk T=>AE r G hn kk T);obtain⟨cc,fs,i,o1,l,hm,_⟩:=lw aB;refine aC.of L.o<|aC.of gF<|aE.dt cl<|aC.of (r.at 11)<|aC.of o1<|aC.of l<|aE.t hm<|aC.of L.o<|aMy (k:=k+4) r L hg λb=>?_;obtain⟨cc',fs',i',o1',l',hm',w⟩:=lw (!b);rw[o1]at o1';cases o1';rw[l]at l';cases l';exact WC.of<|w.we.mono λv h1 z=>q h1 z.1 z.2
  .exact aC.of L.o<|aC.of gF<|aE.df cl<|q h r .refl
end
section
variable {k:Nat}{g:Gh}
def Mo.note(m:Mo)(room:Int)(s:Sl):Mo:=match s.row with
 |.store _ _ _=>{ m with gR:=eR m.gR ((s.d2 room).getD 0) s.tk,dQ:=eR m.dQ s.tk (s.of.getD 0),kp:=mX m.kp s.tk }
 |.load _ _ _=>{ m with bg:=mX m.bg s.tk }
 |_=>m
structure Dv(c:Cf)(m:Mo)(s:Sl):Prop where
 st:∀x y d,s.row = .store x y d->(∃p,s.d2 c.room=aA p)/\(∃e,aW m.kp s.tk=aA e)/\m.gR.length<1000/\m.dQ.length<1000
 ld:∀x y d,s.row = .load x y d->aW m.kp s.tk=aD/\∃e,aW m.bg s.tk=aA e
theorem aJ.FN(r:aJ c g m h):aJ c g { m with gR:=sto' } (h.put (c.b+13)<|.aP<|dE AV.int sto'):=
 r.sN 13 ⟨r.W.tk,r.W.t0,r.W.sn,r.W.sw,r.W.wn,r.W.wl,r.W.kn,r.W.kl,r.W.bn,r.W.bl,r.W.fn,r.W.fk,r.W.fo,r.W.ff⟩ rfl rfl (aV _)
theorem aJ.p4(r:aJ c g m h):aJ c g { m with dQ:=gon' } (h.put (c.b+14)<|.aP<|dE AV.int gon'):=
 r.sN 14 ⟨r.W.tk,r.W.t0,r.W.sn,r.W.sw,r.W.wn,r.W.wl,r.W.kn,r.W.kl,r.W.bn,r.W.bl,r.W.fn,r.W.fk,r.W.fo,r.W.ff⟩ rfl rfl (aV _)
theorem aBe{β:Type}{l:Dc β}{f:Int×β->Bool}(nd:(l.map (·.1)).Pairwise (·<·)):((l.filter f).map (·.1)).Pairwise (·<·):=vE (List.filter_sublist.map _) nd
theorem L6(r:aJ c g m h)(L:nQ c g s h)(N:Dv c m s)(ho:∃o,s.of=aA o)(q:∀h',aJ c g (m.note c.room s) h'->iL c g h g h'->(∀n,n<c.b->h'.ob n=h.ob n)->R .aH h'):WC (run pg (k+2) 26 [.ref (c.b+1),.ref (c.b+11),.ref s.a]) h R:=by
 have big:=jE;have lo:∀{h:AH}{i:Nat}{o:bC}{n:Nat},n<c.b->(h.put (c.b+i) o).ob n=h.ob n:=λhn=>bL (by omega);by_cases cs:aM.kn s.row=("store":cW)
 .obtain⟨x,y,d,er⟩:=gg.mp cs;obtain⟨⟨p,ep⟩,⟨e,ek⟩,l1,l2⟩:=N.st x y d er;obtain⟨off,eo⟩:=ho;have o:∀{h},nQ c g s h->h.ob s.a=aA (.ins 18<|{ s.lt c.room with of:=aA off }.ff (s.a+2) [.int s.pc,oI (s.d1 c.room),.int p,oI (s.d3 c.room),oI (s.d4 c.room),(s.ft c.room).getD .aH]):=λL=>by rw[L.o];unfold Sl.lt Sl.dt;rw[eo,ep];rfl
  unfold Mo.note at q;rw[er]at q;dsimp only at q;rw[ep,eo]at q;refine aS rfl rfl<|aC.of (o L)<|aC.of gF<|aE.dt cs<|aC.of (o L)<|aC.of (r.at 11)<|aC.of (o L)<|vB (k:=.inl p) (r.at 13) rfl (by rw[mG];omega) ?_;rw[uI];have r1:=r.FN (sto':=eR m.gR p s.tk);have f1:iL c g h g _:=.put (o':=.aP (dE AV.int<|eR m.gR p s.tk)) r (i:=13) (by decide) rfl;have L1:=L.fr f1;refine aC.of (o L1)<|aC.of (r1.at 11)<|aC.of (o L1)<|vB (k:=.inl s.tk) (v:=.int off) (kvs:=dE AV.int m.dQ) (r1.at 14) rfl (by rw[mG];show m.dQ.length<_;omega) ?_;rw[uI];have r2:=r1.p4 (gon':=eR m.dQ s.tk off);have f2:=f1.trans (.put (o':=.aP (dE AV.int<|eR m.dQ s.tk off)) r1 (i:=14) (by decide) rfl);have L2:=L.fr f2;refine aC.of (o L2)<|aC.of gF<|aE.dt cs<|aC.of (r2.at 1)<|aC.of (r2.at 8)<|aC.of (o L2)<|C9 (k:=k) (t:=s.tk) r2.shr ek λv=>?_;exact q _ (r2.Zq (aBe r2.W.kn)<|yU r2.W.kl) (f2.trans<|.put r2 (i:=9) (by decide) rfl) λn hn=>by rw[lo hn,lo hn,lo hn]
 .refine aS rfl rfl<|aC.of L.o<|aC.of gF<|aE.df cs<|aC.of L.o<|aC.of gF<|aE.df cs<|aC.of L.o<|aC.of gF ?_;by_cases cl:aM.kn s.row=("load":cW)
  .obtain⟨x,y,d,er⟩:=gf.mp cl;obtain⟨ek,e,eb⟩:=N.ld x y d er;unfold Mo.note at q;rw[er]at q;refine aE.dt cl<|aC.of (r.at 1)<|aC.of (r.at 8)<|aC.of L.o<|C8 (k:=k) (t:=s.tk) r.shr ek eb λv=>?_;exact q _ (r.Tv (nA r.W.bn)<|yU r.W.bl) (.put r (i:=10) (by decide) rfl) λn hn=>lo hn
  .have e:m.note c.room s=m:=by
    unfold Mo.note;split
    .exact absurd (gg.mpr ⟨_,_,_,‹s.row=_›⟩) cs
    .exact absurd (gf.mpr ⟨_,_,_,‹s.row=_›⟩) cl
    .rfl
   rw[e]at q;exact aE.df cl<|q h r .refl λ_ _=>rfl
end
section
variable {k:Nat}{g:Gh}
structure vr(c:Cf)(m:Mo)(s:Sl):Prop where
 fi:s.fi.isSome=aB
 ws:s.ws=s.wi.map aA
 nw:s.wi.length=s.row.nw
 b1:∀x,s.d1 c.room=aA x->(0<=x/\x<8)/\∃w,s.d3 c.room=aA w
 b2:∀p,s.d1 c.room=aD->s.d2 c.room=aA p->(0<=p/\p<m.sd.mem.length)/\∃w,s.d3 c.room=aA w
 bl:m.sd.bx.length=8
 ml:m.sd.mem.length<=80
 nt:s.ft c.room=aD->Dv c m s
 gn:s.ft c.room=aD->∀u,s.src=aA u->∃v,aW (m.note c.room s).dQ u=aA v
 sl:m.cB.length<900
def Mo.Ar(m:Mo)(room:Int)(s:Sl)(rest:WX):Mo:={ m with slots:=rest,cB:=m.cB++[(s.lt room).gB],sd:=match s.ft room with|some _=>m.sd|none=>m.sd.du (s.d1 room) (s.d2 room) (s.d3 room) (s.d4 room) }
def Mo.take(m:Mo)(room:Int)(s:Sl)(rest:WX):Mo:=match s.ft room with
 |some _=>({ m.Ar room s rest with brk:=aB }:Mo).cut s.tk
 |none=>(m.Ar room s rest).note room s
theorem nQ.os(L:nQ c g s h)(hf:s.fi.isSome=aB):h.ob s.a=aA (.ins 18<|(s.lt c.room).fs (s.a+2)):=by rw[L.o,Xr];unfold eP.fk eP.ff;rw[show(s.lt c.room).dd=s.dd c.room from rfl,nj hf]
theorem aJ.snU{x:AV}(r:aJ c g m h):aJ c g { m with cB:=m.cB++[x] } (h.put (c.b+12)<|.lst aB<|m.cB++[x]):=
 r.sN 12 ⟨r.W.tk,r.W.t0,r.W.sn,r.W.sw,r.W.wn,r.W.wl,r.W.kn,r.W.kl,r.W.bn,r.W.bl,r.W.fn,r.W.fk,r.W.fo,r.W.ff⟩ rfl rfl (by simp)
theorem aJ.Hu{b':Bool}(r:aJ c g m h):aJ c g { m with sd:=sd',brk:=b' } (h.put (c.b+11)<|.ins 20<|{ m with sd:=sd',brk:=b' }.lf c):=
 r.sN 11 ⟨r.W.tk,r.W.t0,r.W.sn,r.W.sw,r.W.wn,r.W.wl,r.W.kn,r.W.kl,r.W.bn,r.W.bl,r.W.fn,r.W.fk,r.W.fo,r.W.ff⟩ rfl rfl (aV _)
theorem aLf{K:Nat->WS}(r:aJ c g m h)(L:nQ c g s h)(G:lP c n K h)(hn:n+2<=2*m.cB.length+10)(hn2:n+2<=2000)(nw:s.wi.length=s.row.nw)(nt:s.ft c.room=aD->Dv c m s)(ho:∃o,s.of=aA o)(gn:s.ft c.room=aD->∀u,s.src=aA u->∃v,aW (m.note c.room s).dQ u=aA v)
  (q:∀g' h',aJ c g' (match s.ft c.room with|some _=>({ m with brk:=aB }:Mo).cut s.tk|none=>m.note c.room s) h'->iL c g h g' h'->R .aH h') :
  dU (run pg<|k+6) (bK<|bK<|bK<|bK my) [aA (.ref<|c.b+1),aA (.ref<|c.b+11),aA (.ref s.a)] h (λ_ h1=>R .aH h1) R (λ_ _=>False) λ_ _=>False:=by
 cases d:s.ft c.room with
 |some f=>
  rw[d]at q;obtain⟨xs,rfl⟩:∃xs,f = .tup xs:=xt d;have o:h.ob s.a=aA (.ins 18<|(s.lt c.room).ff (s.a+2) [.int s.pc,oI (s.d1 c.room),oI (s.d2 c.room),oI (s.d3 c.room),oI (s.d4 c.room),.tup xs]):=by rw[L.o];unfold Sl.dt;rw[d];rfl
  refine aC.of o<|aC.of (r.at 11) ?_;have e:=r.Hu (sd':=m.sd) (b':=aB);have f1:iL c g h g (h.put (c.b+11)<|.ins 20<|{ m with sd:=m.sd,brk:=aB }.lf c):=.put r (by decide) rfl;refine aC.of (e.at 1)<|aC.of (L.fr f1).o (Ap e λv g' h' i j fr=>?_);exact q g' h' i<|f1.trans ⟨j,λn a b _=>fr n a b⟩
 |none=>
  rw[d]at q;have o:h.ob s.a=aA (.ins 18<|(s.lt c.room).ff (s.a+2) [.int s.pc,oI (s.d1 c.room),oI (s.d2 c.room),oI (s.d3 c.room),oI (s.d4 c.room),.aH]):=by rw[L.o];unfold Sl.dt;rw[d];rfl
  refine aC.of o<|L6 r L (nt d) ho λh1 e f1 lo=>?_;have ns:(m.note c.room s).cB=m.cB:=by unfold Mo.note;split<;>rfl
  exact aLp e (L.fr f1) (G.low (aV _) lo) (ns▸hn) hn2 nw (λu l=>by obtain⟨v,p⟩:=gn d u l;rw[p];rfl) λt i f2=>q g t i (f1.trans f2)
theorem aLj{K:Nat->WS}(r:aJ c g m h)(L:nQ c g s h)(G:lP c (2*m.cB.length+10) K h)(T:vr c m s)(ho:∃o,s.of=aA o)(q:∀g' h',aJ c g' (m.take c.room s m.slots) h'->iL c g h g' h'->R .aH h') :
  dU (run pg<|k+6) (bK<|bK my) [aA (.ref<|c.b+1),aA (.ref<|c.b+11),aA (.ref s.a)] h (λ_ h1=>R .aH h1) R (λ_ _=>False) λ_ _=>False:=by
 have sl:=T.sl;have big:=jE;refine aC.of (r.at 11) ?_;refine aE.t (B:=False) (b:=[20].contains 20) rfl<|aC.of rfl<|aE.t (B:=False) (uA<|r.at 12)<|aC.of (L.os T.fi)<|Lz (k:=k+5) (s:=s.lt c.room) (L.os T.fi)<|WC.of<|ai (r.at 12) (by omega) ?_;have r1:=r.snU (x:=(s.lt c.room).gB);have f1:iL c g h g (h.put (c.b+12)<|.lst aB<|m.cB++[(s.lt c.room).gB]):=.put r (i:=12) (by decide) rfl;have G1:lP c (2*m.cB.length+10) K (h.put (c.b+12)<|.lst aB<|m.cB++[(s.lt c.room).gB]):=G.low (aV _) λn hn=>bL (by omega);revert r1 f1 G1
 generalize h.put (c.b+12) (.lst aB<|m.cB++[(s.lt c.room).gB])=h1;intro r1 f1 G1;have L1:=L.fr f1;have fin:∀sd',(m.take c.room s m.slots)=(match s.ft c.room with|some _=>({ m with cB:=m.cB++[(s.lt c.room).gB],sd:=sd',brk:=aB }:Mo).cut s.tk|none=>({ m with cB:=m.cB++[(s.lt c.room).gB],sd:=sd' }:Mo).note c.room s) ->
   dU (run pg<|k+6) (bK<|bK<|bK<|bK my) [aA (.ref<|c.b+1),aA (.ref<|c.b+11),aA (.ref s.a)] (h1.put (c.b+11)<|.ins 20<|{ m with cB:=m.cB++[(s.lt c.room).gB],sd:=sd' }.lf c) (λ_ h1=>R .aH h1) R (λ_ _=>False) λ_ _=>False:=λsd' em=>by
  have r2:=r1.Hu (sd':=sd') (b':=m.brk);have f2:=f1.trans (.put (o':=.ins 20 ({ m with cB:=m.cB++[(s.lt c.room).gB],sd:=sd' }.lf c)) r1 (i:=11) (by decide) rfl);have G2:lP c (2*m.cB.length+10) K (h1.put (c.b+11)<|.ins 20<|{ m with cB:=m.cB++[(s.lt c.room).gB],sd:=sd' }.lf c):=G1.low (aV _) λn hn=>bL (by omega);refine aLf (k:=k) r2 (L.fr f2) G2 (by show _<=2*(m.cB++[_]).length+10;rw[dC];show _<=2*(m.cB.length+1)+10;omega) (by omega) T.nw (λe=>⟨(T.nt e).st,(T.nt e).ld⟩) ho (λe u eu=>?_) λg' h' r3 f3=>q g' h' (by rw[em];exact r3) (f2.trans f3);obtain⟨v,hv⟩:=T.gn e u eu;refine⟨v,?_⟩;rw[<- hv];unfold Mo.note;split<;>rfl
 unfold Mo.take Mo.Ar at fin;refine aC.of (r1.at 11)<|aC.of L1.o ?_;cases ef:s.ft c.room with
 |some f=>
  rw[ef]at fin;obtain⟨xs,rfl⟩:∃xs,f = .tup xs:=xt (r:=s.row) (ws:=s.wi) (room:=c.room) ef;have ed:s.dt c.room=[.int s.pc,.aH,.aH,.aH,.aH,.tup xs]:=by unfold Sl.dt Sl.d1 Sl.d2 Sl.d3 Sl.d4;rw[ef];rfl
  rw[ed];refine SJ (k:=k+4) (sd:=m.sd) ?_;exact aC.of rfl<|aC.of rfl<|aC.of (r1.at 11)<|fin m.sd rfl
 |none=>
  rw[ef]at fin;have e4:s.d4 c.room=aA (s.row.gs s.pc s.wi):=by unfold Sl.d4;rw[ef];rfl
  have ed:s.dt c.room=[.int s.pc,oI (s.d1 c.room),oI (s.d2 c.room),oI (s.d3 c.room),.int (s.row.gs s.pc s.wi),.aH]:=by unfold Sl.dt;rw[ef,e4];rfl
  rw[ed];refine SK (k:=k+4) (sd:=m.sd) T.bl T.ml T.b1 T.b2 ?_;exact aC.of rfl<|aC.of rfl<|aC.of (r1.at 11)<|fin (m.sd.du (s.d1 c.room) (s.d2 c.room) (s.d3 c.room)<|aA<|s.row.gs s.pc s.wi) (by rw[e4])
theorem aLl{rest:WX}(r:aJ c g m h)(hs:m.slots=s::rest)(T:vr c m { s with of:=aA m.nw })(q:∀g' h',aJ c g' (m.take c.room { s with of:=aA m.nw } rest) h'->nQ c g' { s with of:=aA m.nw } h'->h.nx<=h'.nx->(∀n,n<h.nx->28<=g.kd n->c.b<=n->n≠s.a->h'.ob n=h.ob n/\g'.kd n=g.kd n)->R .aH h'):WC (run pg (k+7) 25 [.ref (c.b+1),.ref (c.b+11),.ref s.a]) h R:=by
 have h0:m.slots[0]?=aA s:=by rw[hs];rfl
 have hm:=bM h0;refine aS rfl rfl<|aC.of (r.at 1)<|aC.of (r.cK hm) ?_;obtain⟨s1,e1⟩:∃s1:Sl,s1={ s with of:=aA m.nw }:=⟨_,rfl⟩;rw[<- e1]at T q;have ea:s1.a=s.a:=by rw[e1]
 refine i8 (s':=s1) r h0 ea (by rw[e1]) (by rw[e1]) (by rw[e1]) (by rw[e1]) (by rw[e1];rfl) λh1 r1 n1 e1'=>?_;have es1:(m.cQ 0 s1).slots=s1::rest:=by unfold Mo.cQ;rw[hs];rfl
 have hm1:s1∈(m.cQ 0 s1).slots:=by rw[es1];exact fS
 have zk:=pR (r1.W.t0 s1 hm1);have L1:nQ c g s1 h1:=⟨r1.Aj hm1 T.fi,by have:=r1.jj hm1;rw[T.ws,Nr]at this;exact this,r1.ET hm1,r1.Ic hm1,by rw[(r1.X.dy _ _ _ (by omega)<|yS r1.W hm1).1];omega,by rw[(r1.X.dy _ _ _ (by omega)<|yT r1.W hm1).1];omega⟩;obtain⟨K,G1⟩:=r1.G;have k2:∀{o:bC},Kp h1 (h1.new o):=Kp.refl.new;have sl1:=r1.jZ.1;refine jm<|aC.of (r1.at 1)<|WC.of<|Bd (lo:=aA ((1:Nat):Int)) (hi:=aD) sl1 ?_;rw[Vi,show((m.cQ 0 s1).slots.map λs:Sl=>AV.ref s.a).drop 1=rest.map λs=>.ref s.a by rw[es1];rfl];have r2:=r1.Ai (sl':=rest) (th:=m.jF) (k2 (o:=.lst aB (rest.map λs=>.ref s.a))) (aV _) (cM _) bJ (by rw[es1];exact List.sublist_cons_self ..);refine aC.of rfl<|aC.of rfl<|aC.of (k2.get (r1.lt 1)<|r1.at 1) ?_;have f2:iL c g h1 { g with sl:=h1.nx,kd:=λi=>if i=h1.nx then 15 else g.kd i } ((h1.new<|.lst aB<|rest.map λs=>AV.ref s.a).put (c.b+1) (.ins 19<|{ m.cQ 0 s1 with slots:=rest,jF:=m.jF }.wf c h1.nx)):=⟨iJ _,λn hn hk _=>⟨by rw[bL λw=>by rw[w,(r1.X.st 1 _ rfl).1]at hk;omega,eA (cC hn)],if_neg (cC hn)⟩⟩;have G2:lP c (2*m.cB.length+10) K ((h1.new<|.lst aB<|rest.map λs=>AV.ref s.a).put (c.b+1) (.ins 19<|{ m.cQ 0 s1 with slots:=rest,jF:=m.jF }.wf c h1.nx)):=G1.low (aV _) λn hn=>by have:=r1.bx;rw[bL (by omega),eA (by omega)]
 revert r2 f2 G2
 change _->_->_->dU (run pg<|k+6) (bK<|bK my) [aA (.ref<|c.b+1),aA (.ref<|c.b+11),aA (.ref s.a)] ((h1.new<|.lst aB<|rest.map λs=>AV.ref s.a).put (c.b+1) (.ins 19<|{ m.cQ 0 s1 with slots:=rest,jF:=m.jF }.wf c h1.nx)) (λ_ h1=>R .aH h1) R (λ_ _=>False) λ_ _=>False;generalize (h1.new<|.lst aB<|rest.map λs=>AV.ref s.a).put (c.b+1) (.ins 19<|{ m.cQ 0 s1 with slots:=rest,jF:=m.jF }.wf c h1.nx)=h2;generalize ({ g with sl:=h1.nx,kd:=λi=>if i=h1.nx then 15 else g.kd i }:Gh)=g2;intro r2 f2 G2;rw[<- ea];exact aLj (k:=k) (m:={ m with slots:=rest }) r2 (L1.fr f2) G2 ⟨T.fi,T.ws,T.nw,T.b1,T.b2,T.bl,T.ml,λe=>⟨(T.nt e).st,(T.nt e).ld⟩,λe u eu=>by
  obtain⟨v,hv⟩:=T.gn e u eu;refine⟨v,?_⟩;rw[<- hv];unfold Mo.note;split<;>rfl,T.sl⟩ ⟨m.nw,by rw[e1]⟩ λg' h' r3 f3=>q g' h' r3 (L1.fr<|f2.trans f3) (by have:=(f2.trans f3).nx;omega) λn hn hk hb na=>by
  have z:=(f2.trans f3).ob n (by omega) hk hb;exact⟨z.1.trans (e1' n na),z.2⟩
end
section
variable {k:Nat}{g:Gh}
theorem sj{V:AV->AH->Prop}(r:aJ c g m h)(z:V (.int m.slots.length) h):WC (Bi.g .len [.ref g.sl]) h V:=WC.of (kR (cH r.jZ.1) (by rw[aR];exact z))
theorem aJ.fresh(r:aJ c g m h)(k1:Kp h h')(hn:h.nx<=n):aJ c { g with kd:=λi=>if i=n then 28 else g.kd i } m h':=by
 have a:=r.keep k1;refine⟨⟨λi o e=>?_,λk j o b e=>?_⟩,a.G,⟨r.W.tk,r.W.t0,r.W.sn,r.W.sw,r.W.wn,r.W.wl,r.W.kn,r.W.kl,r.W.bn,r.W.bl,r.W.fn,r.W.fk,r.W.fo,r.W.ff⟩⟩
 .have z:=r.X.st i o e;have d:=a.X.st i o e;exact⟨(if_neg (by omega)).trans z.1,d.2⟩
 .have z:=r.X.dy k j o b e;exact⟨(if_neg (by omega)).trans z.1,(a.X.dy k j o b e).2⟩
theorem aJ.aBb(r:aJ c g m h)(hb:c.b<=n)(hk:g.kd n=28):aJ c g m (h.put n o'):=by
 refine⟨⟨λi o e=>?_,λk j o a e=>?_⟩,r.Ib hb,r.W⟩
 .have z:=r.X.st i o e;have d:i<15:=(List.getElem?_eq_some_iff.mp e).1;exact⟨z.1,z.2.1,(bL λw=>by rw[w,hk]at z;omega).trans z.2.2⟩
 .have z:=r.X.dy k j o a e;refine⟨z.1,z.2.1,z.2.2.1,(bL λw=>?_).trans z.2.2.2⟩;rw[w,hk]at z;rw[<- z.1]at e;obtain⟨f,b,_⟩:=Option.map_eq_some_iff.mp e;have:=r.W.fk _ _ b;omega
end
section
variable {k:Nat}{g:Gh}
theorem aJ.wkU{wk':Dc (Int×Int)}(r:aJ c g m h)(kx:Kx [c.b+7] h h')(e:h'.ob (c.b+7)=aA (.aP<|dE cX wk'))(wn:(wk'.map (·.1)).Nodup)(wl:wk'.length<64):aJ c g { m with wk:=wk' } h':=
 r.wM 7 kx e ⟨r.W.tk,r.W.t0,r.W.sn,r.W.sw,wn,wl,r.W.kn,r.W.kl,r.W.bn,r.W.bl,r.W.fn,r.W.fk,r.W.fo,r.W.ff⟩ rfl rfl (aV _)
end
section
variable {k:Nat}{g:Gh}
theorem aJ.Vw(r:aJ c g m h)(q:R (.bl<|decide<|(c.rs.length:Int)<=m.ah) h):WC (run pg (k+1) 110 [.ref (c.b+1)]) h R:=MY (r.at 1) rfl rfl (r.at 2) (by rw[aR];exact q)
def Mo.dX(m:Mo)(c:Cf):AV:=if m.brk=aB then .str "fault" else if m.slots=[]/\(c.rs.length:Int)<=m.ah then .str "end" else .aH
theorem yf(r:aJ c g m h)(q:R (m.dX c) h):WC (run pg (k+2) 124 [.ref c.b]) h R:=by
 have o0:h.ob c.b=aA (.ins 21 [("window",.ref (c.b+1)),("ledger",.ref (c.b+11))]):=r.at 0;unfold Mo.dX at q;refine aS rfl rfl<|aC.of o0<|aC.of (r.at 11)<|aE.by (b:=m.brk) (λa=>?_) λa=>?_
 .rw[if_pos a]at q;exact q
 .rw[if_neg (a▸gS)]at q;refine aC.of o0 (aC.of (r.at 1)<|sj r<|aE.dc (λf=>?_) λf=>?_)
  .have e:m.slots=[]:=List.length_eq_zero_iff.mp (by omega);refine aC.of o0 (aC.of (r.at 1)<|r.Vw<|aE.dc (λd=>?_) λd=>?_)
   .rw[if_pos ⟨e,d⟩]at q;exact q
   .rw[if_neg λz=>d z.2]at q;exact q
  .rw[if_neg λz=>f (by rw[z.1];rfl)]at q;exact q
theorem EH(r:aJ c g m h)(hh:m.dX c = .aH)(q:R .aH h):WC (run pg (k+3) 125 [.ref c.b]) h R:=by have o0:h.ob c.b=aA (.ins 21 [("window",.ref (c.b+1)),("ledger",.ref (c.b+11))]):=r.at 0;refine aS rfl rfl<|aC.of o0<|yf r ?_;rw[hh];exact q
theorem aJ.Jj(r:aJ c g m h):aJ c g { m with nw:=m.nw+1 } (h.put (c.b+1)<|.ins 19<|{ m with nw:=m.nw+1 }.wf c g.sl):=
 r.sN 1 ⟨r.W.tk,r.W.t0,r.W.sn,r.W.sw,r.W.wn,r.W.wl,r.W.kn,r.W.kl,r.W.bn,r.W.bl,r.W.fn,r.W.fk,r.W.fo,r.W.ff⟩ rfl rfl (aV _)
theorem aMb(r:aJ c g m h)(hh:m.dX c = .aH)
  (q:∀h1,aJ c g { m with nw:=m.nw+1 } h1->h1.nx=h.nx->WC (run pg (k+9) 24 [.ref (c.b+1),.ref (c.b+11)]) h1 λv h2=>∃g2 m2,aJ c g2 m2 h2/\(m2.dX c ≠ .aH->R v h2)/\(m2.dX c = .aH->WC (run pg (k+9) 29 [.ref (c.b+1),.ref (c.b+11)]) h2 λ_ h3=>(∃g3 m3,aJ c g3 m3 h3)/\WC (run pg (k+9) 32 [.ref (c.b+1),.ref (c.b+11)]) h3 λ_ h4=>(∃g4 m4,aJ c g4 m4 h4)/\WC (run pg (k+9) 15 [.ref (c.b+1),.ref (c.b+11)]) h4 λ_ h5=>R v h5)):WC (run pg (k+10) 119 [.ref c.b]) h R:=by
 have o0:∀{h m g},aJ c g m h->h.ob c.b=aA (.ins 21 [("window",.ref (c.b+1)),("ledger",.ref (c.b+11))]):=λr=>r.at 0;refine aS rfl rfl<|aC.of (o0 r)<|EH (k:=k+6) r hh<|aC.of (o0 r)<|aC.of (r.at 1)<|aC.of (r.at 1) ?_;have r1:=r.Jj;refine aC.of (o0 r1)<|WC.of<|(q _ r1 rfl).we.mono λv h2 z=>?_;obtain⟨g2,m2,r2,q1,q2⟩:=z;refine aC.of (o0 r2)<|yf (k:=k+7) r2 ?_;by_cases cn:m2.dX c = .aH
 .rw[cn];refine aC.of (o0 r2)<|WC.of<|(q2 cn).we.mono λv3 h3 z=>?_;obtain⟨⟨g3,m3,r3⟩,w3⟩:=z;refine aC.of (o0 r3)<|WC.of<|w3.we.mono λv4 h4 z=>?_;obtain⟨⟨g4,m4,r4⟩,w4⟩:=z;exact aC.of (o0 r4)<|WC.of<|w4.we.mono λv5 h5 z=>z
 .have q3:=q1 cn;have:lF (m2.dX c)=aG:=by
   unfold Mo.dX at cn ⊢;split
   .rfl
   .split
    .rfl
    .rename_i a b;rw[if_neg a,if_neg b]at cn;exact absurd rfl cn
  exact aE.f (b:=lF (m2.dX c)) this q3
end
section
variable {k:Nat}
theorem J4(q:∀h',h'.nx=h.nx+2->Kp h h'->h'.ob h.nx=aA (.ins 16 [("filled",.ref (h.nx+1))])->h'.ob (h.nx+1)=aA (.aP [])->R .aH h'):WC (run pg (k+1) 89 [.ref h.nx]) (h.new<|.ins 16 []) R:=by have k1:∀{a b:bC},Kp h ((h.new a).new b):=Kp.refl.new.new;exact aS rfl rfl<|aC.of ((eA<|cC<|cM _).trans bJ)<|q _ rfl (k1.put<|aV _) bP<|(bL<|tB<|cM _).trans bJ
theorem SM(q:∀h',h'.nx=h.nx+2->Kp h h'->h'.ob h.nx=aA (.ins 15<|dw tb<|h.nx+1)->h'.ob (h.nx+1)=aA (.aP [])->R .aH h'):WC (run pg (k+1) 83 [.ref h.nx,.tup (tb.map cX)]) (h.new<|.ins 15 []) R:=by exact aS rfl rfl<|aC.of bJ<|aC.of ((eA<|cC<|cM _).trans bP)<|q _ rfl (((Kp.refl.new.put<|aV _).new).put (aV _)) bP<|(bL<|tB<|cM _).trans bJ
theorem aIb(q:∀h',h'.nx=h.nx+3->Kp h h'->h'.ob h.nx=aA (.ins 17 [("kept",.ref (h.nx+1)),("begun",.ref (h.nx+2))])->h'.ob (h.nx+1)=aA (.aP [])->h'.ob (h.nx+2)=aA (.aP [])->R .aH h'):WC (run pg (k+1) 94 [.ref h.nx]) (h.new<|.ins 17 []) R:=by
 have a:h.nx≠h.nx+1:=by lia
 have b:h.nx≠h.nx+2:=by lia
 have c:h.nx+1≠h.nx+2:=by lia
 exact aS rfl rfl<|aC.of ((eA a).trans bJ)<|aC.of ((eA b).trans bP)<|q _ rfl (((((Kp.refl.new).new).put (aV _)).new).put (aV _)) bP ((bL a.symm).trans ((eA c).trans ((bL a.symm).trans bJ)))<|(bL b.symm).trans bJ
theorem D0{sd:Sd}(q:∀h',h'.nx=h.nx+4->Kp h h'->h'.ob h.nx=aA (.ins 20 [("state",sd.av),("guesser",.ref gu),("nerve",.ref nv),("slips",.ref (h.nx+1)),("storers",.ref (h.nx+2)),("gone",.ref (h.nx+3)),("broken",.bl aG)])->h'.ob (h.nx+1)=aA (.lst aB [])->h'.ob (h.nx+2)=aA (.aP [])->h'.ob (h.nx+3)=aA (.aP [])->R .aH h'):WC (run pg (k+1) 116 [.ref h.nx,sd.av,.ref gu,.ref nv]) (h.new<|.ins 20 []) R:=by
 have n1:h.nx≠h.nx+1:=by omega
 have n2:h.nx≠h.nx+2:=by omega
 have n3:h.nx≠h.nx+3:=by omega
 have n4:h.nx+1≠h.nx+2:=by omega
 have n5:h.nx+1≠h.nx+3:=by omega
 have n6:h.nx+2≠h.nx+3:=by omega
 have le:=aV h.nx;refine aS rfl rfl<|aC.of bJ<|aC.of bP<|aC.of bP<|aC.of ((eA n1).trans bP)<|aC.of ((eA n2).trans bP)<|aC.of ((eA n3).trans bP)<|aC.of bP ?_;refine q _ rfl ((((((((((Kp.refl.new).put le).put le).put le).new).put le).new).put le).new).put le |>.put le) bP ?_ ?_ ?_
 .exact(bL n1.symm).trans ((bL n1.symm).trans ((eA n5).trans ((bL n1.symm).trans ((eA n4).trans ((bL n1.symm).trans bJ)))))
 .exact(bL n2.symm).trans ((bL n2.symm).trans ((eA n6).trans ((bL n2.symm).trans bJ)))
 .exact(bL n3.symm).trans ((bL n3.symm).trans bJ)
def gk(sd:Sd):Mo:=⟨[],sd.pc,0,0,0,λ_=>[],[],[],[],sd,[],[],[],aG⟩
def wf5(n:Nat)(pc sz wd:Int):List (cW×AV):=[("program",.ref (n+1)),("ahead",.int pc),("size",.int sz),("wide",.int wd),("slots",.ref (n+2))]
theorem aOn{sz wd:Int}(nx:h.nx=n+3)(ow:h.ob n=aA (.ins 19<|wf5 n pc sz wd))
  (q:∀h',h'.nx=n+10->(∀i,i<n+3->i≠n->h'.ob i=h.ob i)->h'.ob n=aA (.ins 19 [("program",.ref (n+1)),("ahead",.int pc),("size",.int sz),("wide",.int wd),("slots",.ref (n+2)),("names",.ref (n+3)),("benches",.ref (n+5)),("shelf",.ref (n+7)),("tickets",.int 0),("thrown",.int 0),("now",.int 0)]) ->
   h'.ob (n+3)=aA (.ins 16 [("filled",.ref (n+4))])->h'.ob (n+4)=aA (.aP [])->h'.ob (n+5)=aA (.ins 15<|dw tb<|n+6)->h'.ob (n+6)=aA (.aP [])->h'.ob (n+7)=aA (.ins 17 [("kept",.ref (n+8)),("begun",.ref (n+9))])->h'.ob (n+8)=aA (.aP [])->h'.ob (n+9)=aA (.aP [])->R .aH h') :
  dU (run pg<|k+1) (bK<|bK<|bK<|bK<|bK Ta) [aA (.ref n),aA (.ref np),aA (.int pc),aA (.int sz),aA (.int wd),aA (.tup<|tb.map cX)] h (λ_ h1=>R .aH h1) R (λ_ _=>False) λ_ _=>False:=by
 have po:∀{h:AH}{o:bC}{i j:Nat},i≠j->(h.put j o).ob i=h.ob i:=λe=>bL e;refine J4 (k:=k) λh1 x1 k1 a1 a2=>⟨rfl,?_⟩;rw[nx]at x1 a1 a2 ⊢;refine aC.of rfl<|aC.of rfl<|aC.of (k1.get (by omega) ow) ?_;refine SM (k:=k) (h:=h1.put n _) λh2 x2 k2 b1 b2=>⟨rfl,?_⟩;have y1:∀{o:bC},(h1.put n o).nx=n+5:=x1;rw[y1]at x2 b1 b2 ⊢;refine aC.of rfl<|aC.of rfl<|aC.of (k2.get (by show n<h1.nx;omega) bP) ?_;refine aIb (k:=k) (h:=h2.put n _) λh3 x3 k3 c1 c2 c3=>⟨rfl,?_⟩;have y2:∀{o:bC},(h2.put n o).nx=n+7:=x2;rw[y2]at x3 c1 c2 c3 ⊢;refine aC.of rfl<|aC.of rfl<|aC.of (k3.get (by show n<h2.nx;omega) bP)<|aC.of bP<|aC.of bP<|aC.of bP ?_;have l1:h1.nx=n+5:=x1;have l2:h2.nx=n+7:=x2;have e3:∀{i},i≠n->i<n+7->h3.ob i=h2.ob i:=λ{i} ni li=>(k3.ob i (by show i<h2.nx;omega)).trans (bL ni);have e2:∀{i},i≠n->i<n+5->h2.ob i=h1.ob i:=λ{i} ni li=>(k2.ob i (by show i<h1.nx;omega)).trans (bL ni);have e4:∀{i:Nat}{o1 o2 o3 o4:bC},i≠n->((((h3.put n o1).put n o2).put n o3).put n o4).ob i=h3.ob i:=λni=>by rw[bL ni,bL ni,bL ni,bL ni]
 refine q _ x3 (λi li ni=>?_) bP ?_ ?_ ?_ ?_ ?_ ?_ ?_
 .rw[e4 ni,e3 ni (by omega),e2 ni (by omega)];exact k1.ob i (by omega)
 .rw[e4 (by omega),e3 (by omega) (by omega),e2 (by omega) (by omega)];exact a1
 .rw[e4 (by omega),e3 (by omega) (by omega),e2 (by omega) (by omega)];exact a2
 .rw[e4 (by omega),e3 (by omega) (by omega)];exact b1
 .rw[e4 (by omega),e3 (by omega) (by omega)];exact b2
 .rw[e4 (by omega)];exact c1
 .rw[e4 (by omega)];exact c2
 .rw[e4 (by omega)];exact c3
theorem aOo{sz wd:Int}{sd:Sd}(op:h.ob np=aA (.lst aB<|rs.map aM.av))(lp:np<h.nx)
  (q:∀h',h'.nx=h.nx+10->Kp h h'->h'.ob h.nx=aA (.ins 19 [("program",.ref (h.nx+1)),("ahead",.int sd.pc),("size",.int sz),("wide",.int wd),("slots",.ref (h.nx+2)),("names",.ref (h.nx+3)),("benches",.ref (h.nx+5)),("shelf",.ref (h.nx+7)),("tickets",.int 0),("thrown",.int 0),("now",.int 0)]) ->
   h'.ob (h.nx+1)=aA (.lst aB<|rs.map aM.av)->h'.ob (h.nx+2)=aA (.lst aB [])->h'.ob (h.nx+3)=aA (.ins 16 [("filled",.ref (h.nx+4))])->h'.ob (h.nx+4)=aA (.aP [])->h'.ob (h.nx+5)=aA (.ins 15<|dw tb<|h.nx+6)->h'.ob (h.nx+6)=aA (.aP [])->h'.ob (h.nx+7)=aA (.ins 17 [("kept",.ref (h.nx+8)),("begun",.ref (h.nx+9))])->h'.ob (h.nx+8)=aA (.aP [])->h'.ob (h.nx+9)=aA (.aP [])->R .aH h') :
  WC (run pg (k+2) 109 [.ref h.nx,.ref np,.int sd.pc,.int sz,.int wd,.tup (tb.map cX)]) (h.new<|.ins 19 []) R:=by
 have le:=aV h.nx;have n1:h.nx≠h.nx+1:=by omega
 have n2:h.nx≠h.nx+2:=by omega
 have n12:h.nx+1≠h.nx+2:=by omega
 refine aS rfl rfl<|WC.of<|Bc (cH<|(eA<|cC lp).trans op)<|aC.of rfl<|aC.of rfl<|aC.of ((eA n1).trans bJ)<|aC.of bP<|aC.of bP<|aC.of bP<|aC.of ((eA n2).trans bP) ?_;have kA:∀{o1 o2 o3 o4 o5 o6 o7 o8:bC},Kp h ((((((((h.new o1).new o2).put h.nx o3).put h.nx o4).put h.nx o5).put h.nx o6).new o7).put h.nx o8):=λ{o1 o2 o3 o4 o5 o6 o7 o8}=>(((((((Kp.refl.new).new).put le).put le).put le).put le).new).put le;refine aOn (k:=k) (n:=h.nx) (tb:=tb) rfl bP λh' nx fr w a b c d e f g'=>q h' nx ⟨by omega,λi hi=>(fr i (by omega) (by omega)).trans (kA.ob i hi)⟩ w ?_ ?_ a b c d e f g'
 .exact(fr _ (by omega) (by omega)).trans ((bL n1.symm).trans ((eA n12).trans ((bL n1.symm).trans ((bL n1.symm).trans ((bL n1.symm).trans ((bL n1.symm).trans bJ))))))
 .exact(fr _ (by omega) (by omega)).trans ((bL n2.symm).trans bJ)
theorem BR(q:R (.ref n) h):WC (run pg (k+1) 35 [.ref n]) h R:=aS rfl rfl q
def vg(P:Nat->bC->Prop):Nat->List (Option bC)->Prop
 |_,[]=>True
 |i,aD::l=>vg P (i+1) l
 |i,aA o::l=>P i o/\vg P (i+1) l
theorem So{P:Nat->bC->Prop}:∀{l:List (Option bC)}{n:Nat},vg P n l->∀i o,l[i]?=aA (aA o)->P (n+i) o
 |[],_,_,i,o,e=>by cases e
 |x::l,n,a,0,o,e=>by cases e;exact a.1
 |x::l,n,a,i+1,o,e=>by
  have b:vg P (n+1) l:=by
   cases x with
   |none=>exact a|some y=>exact a.2
  have:=So b i o e;rw[Nat.add_assoc,JW 1 i]at this;exact this
theorem wf0{sd:Sd}:Wf ⟨n,[],kd⟩ (gk sd):=by refine⟨jw,λ_ h=>(ba h).elim,(by decide:0<64),λ_ h=>(ba h).elim,jw,(by decide:0<64),jw,(by decide:0<64),jw,(by decide:0<64),jw,λx f h=>?_,λ_ _=>rfl,λ_=>(by decide:0<99999)⟩;cases h
theorem F3{lo:List (Nat×bC)}{b:Nat}{sz wd:Int}{sd:Sd}{K:Nat->WS}(hb:h.nx=b)(op:h.ob np=aA (.lst aB<|rs.map aM.av))(lp:np<h.nx)(G:lP ⟨b,rs,sz,wd,tb,gu,nv,sd.mem.length,lo⟩ 10 K h)
  (q:∀g h',aJ ⟨b,rs,sz,wd,tb,gu,nv,sd.mem.length,lo⟩ g (gk sd) h'->Kp h h'->R .aH h'):WC (run pg (k+3) 118 [.ref b,.ref np,sd.av,.int sz,.int wd,.tup (tb.map cX),.ref gu,.ref nv]) (h.new<|.ins 21 []) R:=by
 subst hb;have k0:Kp h (h.new<|.ins 21 []):=Kp.refl.new;refine aS rfl rfl<|aOo (k:=k) (h:=h.new (.ins 21 [])) (sd:=sd) (tb:=tb) (k0.get lp op) (kG lp) λh1 x1 k1 w1 w2 w3 w4 w5 w6 w7 w8 w9 w10=>⟨rfl,aC.of rfl (aC.of rfl<|aC.of (k1.get (cM _) bJ) ?_)⟩;refine BR (k:=k+1)<|BR (k:=k+1) ?_;have x1:h1.nx=h.nx+11:=x1;refine D0 (k:=k+1) (h:=h1.put h.nx _) (sd:=sd) λh2 x2 k2 l1 l2 l3 l4=>⟨rfl,?_⟩;have y1:∀{o:bC},(h1.put h.nx o).nx=h.nx+11:=x1;rw[y1]at x2 l1 l2 l3 l4 ⊢;refine aC.of rfl<|aC.of rfl<|aC.of (k2.get (by show h.nx<h1.nx;omega) bP) ?_;have e2:∀{i}{o:bC},i≠h.nx->i<h.nx+11->(h2.put h.nx o).ob i=h1.ob i:=λ{i o} ni li=>(bL ni).trans ((k2.ob i (by show i<h1.nx;omega)).trans (bL ni));have e3:∀{i}{o:bC},i≠h.nx->(h2.put h.nx o).ob i=h2.ob i:=λni=>bL ni;have kF:∀{o:bC},Kp h (h2.put h.nx o):=λ{o}=>⟨by show h.nx<=h2.nx;omega,λi hi=>(e2 (by omega) (by omega)).trans ((k1.ob i (by show i<h.nx+1;omega)).trans (k0.ob i hi))⟩;have rF:aJ ⟨h.nx,rs,sz,wd,tb,gu,nv,sd.mem.length,lo⟩ ⟨h.nx+3,[],λn=>if n=h.nx+3 then 15 else n-h.nx⟩ (gk sd) (h2.put h.nx<|.ins 21 [("window",.ref (h.nx+1)),("ledger",.ref (h.nx+11))]):=?_
 .exact q _ _ rF kF
 refine⟨⟨λi o e=>?_,λj n o hj e=>?_⟩,⟨K,G.low (aV _) λn hn=>kF.ob n hn⟩,wf0⟩
 .have fin:∀{i o},i<15->i≠3->(h2.put h.nx<|.ins 21 [("window",.ref (h.nx+1)),("ledger",.ref (h.nx+11))]).ob (h.nx+i)=aA o->(if h.nx+i=h.nx+3 then 15 else h.nx+i-h.nx)=i/\h.nx+i<h2.nx/\(h2.put h.nx<|.ins 21 [("window",.ref (h.nx+1)),("ledger",.ref (h.nx+11))]).ob (h.nx+i)=aA o:=λ{i o} a b z=>⟨by rw[if_neg (by omega)];omega,by omega,z⟩;have m1:∀{i o},i<11->i≠3->i≠0->h1.ob (h.nx+i)=aA o->_:=λ{i o} a b c z=>fin (i:=i) (o:=o) (by omega) b ((e2 (by omega) (by omega)).trans z);have m2:∀{i o},i<15->i≠3->i≠0->h2.ob (h.nx+i)=aA o->_:=λ{i o} a b c z=>fin (i:=i) (o:=o) a b ((e3 (by omega)).trans z);have key:=So (P:=λi o=>(if h.nx+i=h.nx+3 then 15 else h.nx+i-h.nx)=i/\h.nx+i<h2.nx/\(h2.put h.nx<|.ins 21 [("window",.ref (h.nx+1)),("ledger",.ref (h.nx+11))]).ob (h.nx+i)=aA o) (n:=0) (l:=(gk sd).fU ⟨h.nx,rs,sz,wd,tb,gu,nv,sd.mem.length,lo⟩ ⟨h.nx+3,[],λn=>if n=h.nx+3 then 15 else n-h.nx⟩) ⟨fin (by decide) (by decide) bP,m1 (by decide) (by decide) (by decide) w1,m1 (by decide) (by decide) (by decide) w2,m1 (by decide) (by decide) (by decide) w4,m1 (by decide) (by decide) (by decide) w5,m1 (by decide) (by decide) (by decide) w6,m1 (by decide) (by decide) (by decide) w7,m1 (by decide) (by decide) (by decide) w8,m1 (by decide) (by decide) (by decide) w9,m1 (by decide) (by decide) (by decide) w10,m2 (by decide) (by decide) (by decide) l1,m2 (by decide) (by decide) (by decide) l2,m2 (by decide) (by decide) (by decide) l3,m2 (by decide) (by decide) (by decide) l4,trivial⟩ i o e;rw[KI]at key;exact key
 .unfold Mo.dyn at e;split at e
  .rename_i z;subst z;cases e;exact⟨if_pos rfl,rM ..,by show h.nx+3<h2.nx;omega,(e2 (i:=h.nx+3) (by omega) (by omega)).trans w3⟩
  .split at e
   .cases e
   .cases e
end
section
variable {k:Nat}{g:Gh}
theorem c7(r:aJ c g m h)(w0:0<=c.wd)(w8:c.wd<=8)(P:Nat->Mo->Prop)(p0:P 0 m)
  (stp:∀i m,P i m->(i:Int)<c.wd->(m.slots.length:Int)<c.sz->m.ah<c.rs.length->∃row,lh c m row/\m.sd.bx.length=8/\(∀a,(m.enter row a).wH c.room m.slots.length 0 row.fF)/\∀a dr gs,P (i+1) (m.sA c row a dr gs))
  (q:∀i m' g' h',P i m'->(i:Int)<=c.wd->aJ c g' m' h'->bN c g h g' h'->R .aH h'):WC (run pg (k+7) 15 [.ref (c.b+1),.ref (c.b+11)]) h R:=by
 refine aS rfl rfl<|WB.of<|Bl ?_;refine ub (λi d h'=>i<=c.wd/\d=[aA (.ref<|c.b+1),aA (.ref<|c.b+11),aA (.int i)]/\∃g' m',aJ c g' m' h'/\P i m'/\bN c g h g' h') 8 (λi d h' y=>by lia) (λi d h' y=>?_) FU 0 _ _ (by rw[eF];omega) ⟨w0,rfl,g,m,r,p0,bN.refl⟩;obtain⟨o,rfl,g',m',b,e,f⟩:=y;have fin:=q i m' g' h' e o b f;refine oE _<|aC.of (b.at 1)<|aE.dc (λj=>?_) λj=>?_;rotate_left
 .exact fin
 refine aC.of (b.at 1)<|sj b<|aC.of (b.at 1)<|aE.dc (λl=>?_) λl=>?_;rotate_left
 .exact fin
 refine aC.of (b.at 1)<|b.Vw ?_;by_cases n:(c.rs.length:Int)<=m'.ah
 .rw[decide_eq_true n];exact fin
 .rw[decide_eq_false n];obtain⟨row,E,bl,ok,p⟩:=stp i m' e j l (by omega);refine(fE _ ?_:Wt (jA (run pg<|k+6) _ _) _ _ _ _ _);refine c8 b E bl ok λa dr gs g2 u s t=>?_;exact⟨‹_›,rfl,g2,_,s,p a dr gs,f.trans t⟩
theorem FP{t:Int×Int}(hs:m.slots[i]?=aA s):((m.start c t i s).slots.map (·.a))=m.slots.map (·.a):=by
 unfold Mo.start;split
 .split
  .rfl
  .exact gj hs Hv.1
 .rfl
theorem aJc(r:aJ c g m h)(P:Nat->Mo->Prop)(p0:P 0 m)
  (stp:∀i m s,P i m->m.slots[i]?=aA s->(s.put<m.nw->s.st=aD->s.ws.all xN=aB->∃t,vp c m s/\cJ (c.tb.map cX) s.row.cA=aA (cX t)/\aW m.wk s.tk=aD/\m.wk.length<63/\P (i+1) (m.start c t i s))/\(¬(s.put<m.nw/\s.st=aD/\s.ws.all xN=aB)->P (i+1) m))
  (q:∀m' h',P m.slots.length m'->aJ c g m' h'->bN c g h g h'->R .aH h'):WC (run pg (k+6) 32 [.ref (c.b+1),.ref (c.b+11)]) h R:=by
 have sn:=r.W.sn;refine aS rfl rfl<|WB.of<|kD<|kC<|aC.of (r.at 1)<|mB r.jZ.1 ?_;refine nV (bb:=aB) (xs:=m.slots.map λs=>.ref s.a) (λj Z h'=>∃m' v2,Z=[aA (.ref<|c.b+1),aA (.ref<|c.b+11),v2]/\aJ c g m' h'/\P j m'/\m'.slots.map (·.a)=m.slots.map (·.a)/\bN c g h g h') (by rw[aR,eF];omega) ⟨m,_,rfl,r,p0,rfl,bN.refl⟩ (λj Z h' y=>?_) (λj x Z h' hx y=>?_)<|λZ h' y=>?_
 .obtain⟨m',v2,_,r',_,ea,_⟩:=y;rw[r'.jZ.1];have:=congrArg (Pa AV.ref) ea;rw[hB,hB]at this;exact congrArg (λz=>aA (bC.lst aB z)) this
 .obtain⟨m',v2,rfl,r',p',ea,n'⟩:=y;obtain⟨s0,h0,rfl⟩:=iN hx;have e1:(m'.slots.map (·.a))[j]?=aA s0.a:=by rw[ea,fR,h0];rfl
  rw[fR]at e1;obtain⟨s,hs,e2⟩:=Option.map_eq_some_iff.mp e1;have hm:=bM hs;obtain⟨y1,y2⟩:=stp j m' s p' hs;rw[<- e2];have no:=λz=>(⟨m',aA (.ref s.a),rfl,r',y2 z,ea,n'⟩:∃m' v2,[aA (AV.ref<|c.b+1),aA (.ref<|c.b+11),aA (.ref s.a)]=[aA (.ref<|c.b+1),aA (.ref<|c.b+11),v2]/\aJ c g m' h'/\P (j+1) m'/\m'.slots.map (·.a)=m.slots.map (·.a)/\bN c g h g h');refine gX _<|fE _<|aC.of (r'.cK hm)<|aC.of (r'.at 1)<|aE.dc (λcp=>?_) λcp=>no λz=>cp z.1;cases ht:s.st with
  |some τ=>
   have o:h'.ob s.a=aA (.ins 18<|{ s.lt c.room with st:=aA τ }.fk (s.a+2)):=by rw[r'.lL hm];unfold Sl.lt;rw[ht]
   exact aC.of o (no λz=>by rw[ht]at z;cases z.2.1)
  |none=>
   have o:h'.ob s.a=aA (.ins 18<|{ s.lt c.room with st:=aD }.fk (s.a+2)):=by rw[r'.lL hm];unfold Sl.lt;rw[ht]
   refine aC.of o<|aC.of o<|aHg (r'.cK hm) (r'.jj hm) ?_;cases ew:s.ws.all xN with
   |false=>exact no λz=>by rw[ew]at z;cases z.2.2
   |true=>obtain⟨t,O,hg,hn,wl,p2⟩:=y1 cp ht ew;exact G3 r' hs O hg hn wl λh2 r2 n2=>⟨_,_,rfl,r2,p2,(FP hs).trans ea,n'.trans n2⟩
 .obtain⟨m',v2,rfl,r',p',ea,n'⟩:=y;rw[aR]at p';exact q m' h' p' r' n'
theorem aLk(r:aJ c g m h)(w0:0<=c.wd)(w8:c.wd<=8)(P:Fu->Mo->Prop)(p0:P [] m)
  (stp:∀l m s rest,P l m->(l.length:Int)<c.wd->m.slots=s::rest->s.fi.isSome=aB->vr c m { s with of:=aA m.nw }/\P (l++[(({ s with of:=aA m.nw }:Sl).lt c.room).gB]) (m.take c.room { s with of:=aA m.nw } rest))
  (q:∀l m' n g' h',P l m'->((l.length:Int)=c.wd\/∀s,m'.slots[0]?=aA s->s.fi=aD)->aJ c g' m' h'->h.nx<=n->n<h'.nx->h'.ob n=aA (.lst aB l)->g'.kd n=28->R (.ref n) h'):WC (run pg (k+8) 24 [.ref (c.b+1),.ref (c.b+11)]) h R:=by
 have k1:Kp h (h.new<|.lst aB []):=Kp.refl.new;refine aS rfl rfl<|WB.of<|Bl ?_;refine ub (λi f h'=>(i:Int)<=c.wd/\(∃j,f=[aA (.ref<|c.b+1),aA (.ref<|c.b+11),aA (.ref h.nx),j])/\∃g' m' l,aJ c g' m' h'/\P l m'/\l.length=i/\g'.kd h.nx=28/\h.nx<h'.nx/\h'.ob h.nx=aA (.lst aB l)) 8 (λi f h' y=>by lia) (λi f h' y=>?_) FU 0 _ _ (by rw[eF];lia) ⟨w0,⟨_,rfl⟩,_,m,[],(r.fresh (n:=h.nx) k1<|aV _),p0,rfl,if_pos rfl,cM _,bJ⟩;obtain⟨D,⟨j,rfl⟩,g',m',l,a,p,v,kd,lt,ol⟩:=y;have fin:=λz=>q l m' h.nx g' h' p z a (aV _) lt ol kd;refine oE _<|WC.of<|kR (cH ol)<|aC.of (a.at 1)<|aE.dc (λw=>?_) λw=>?_;rotate_left
 .exact fin<|.inl (by omega)
 refine aC.of (a.at 1)<|sj a ?_;cases b:m'.slots with
 |nil=>exact fin (.inr λs e=>by rw[b]at e;cases e)|cons s rest=>
  have h0:m'.slots[0]?=aA s:=by rw[b];rfl
  have hm:=bM h0;have t:cJ (m'.slots.map λs=>AV.ref s.a) 0=aA (.ref s.a):=b▸gF;refine aE.dt (by simp only[eK];omega)<|aC.of (a.at 1)<|WC.of<|eU (cH a.jZ.1) t ?_;cases d:s.fi with
  |none=>
   have o:h'.ob s.a=aA (.ins 18<|{ s.lt c.room with fi:=aD }.fk (s.a+2)):=by rw[a.lL hm];unfold Sl.lt;rw[d]
   exact aC.of o<|fin (.inr λz e=>by rw[h0]at e;cases e;exact d)
  |some x=>
   have o:h'.ob s.a=aA (.ins 18<|{ s.lt c.room with fi:=aA x }.fk (s.a+2)):=by rw[a.lL hm];unfold Sl.lt;rw[d]
   obtain⟨T,A⟩:=stp l m' s rest p (by omega) b (by rw[d];rfl);refine aC.of o ?_;refine(fE _ ?_:Wt (jA (run pg<|k+7) _ _) _ _ _ _ _);refine(aC.of (a.at 1)<|WC.of<|eU (cH a.jZ.1) t<|aLl a b T λg2 E B u C fr=>?_);have ne:=(rA ol (a.cK hm) nofun);have fn:=fr h.nx lt (by rw[kd];exact aV _) r.bx ne;have on:=fn.1.trans ol;refine aE.t (uA on)<|aC.of (u.os T.fi)<|Lz (u.os T.fi)<|WC.of<|ai on (by have:=jE;omega) ?_;exact⟨by omega,⟨_,rfl⟩,_,_,_,B.aBb r.bx (fn.2.trans kd),A,by rw[dC,v];rfl,fn.2.trans kd,bF lt C,bP⟩
end
section
variable {k:Nat}{g:Gh}
theorem l9{t:Int}(r:aJ c g m h)(P:Nat->Nat->Mo->Prop)(p0:P 0 0 m)
  (stp:∀i j m s,P i j m->m.slots[i]?=aA s->j<s.aX.length->(s.aX[j]?=aA (aA t)->yA m s j/\P i (j+1) (m.give i j w))/\(s.aX[j]?≠aA (aA t)->P i (j+1) m))
  (nxt:∀i m s,P i s.aX.length m->m.slots[i]?=aA s->P (i+1) 0 m)
  (q:∀i m' g' h',P i 0 m'->m'.slots.length<=i->aJ c g' m' h'->bN c g h g' h'->R .aH h'):WC (run pg (k+5) 31 [.ref (c.b+1),.int t,.int w]) h R:=by
 refine aS rfl rfl<|WB.of<|Bl ?_;refine ub (λi Z h'=>i<=64/\(∃v4 v5,Z=[aA (.ref<|c.b+1),aA (.int t),aA (.int w),aA (.int i),v4,v5])/\∃g' m',aJ c g' m' h'/\P i 0 m'/\bN c g h g' h') 64 (λi Z h' y=>y.1) (λi Z h' y=>?_) FU 0 _ h (by rw[eF];omega) ⟨jR _,⟨_,_,rfl⟩,g,m,r,p0,bN.refl⟩;obtain⟨_,⟨v4,v5,rfl⟩,g',m',r',p',f'⟩:=y;refine oE _<|aC.of (r'.at 1)<|sj r' ?_;show if decide (i<(m'.slots.length:Int))=aB then _ else _
 by_cases ci:i<m'.slots.length
 .rw[if_pos (by simpa)];have sn:=r'.W.sn;obtain⟨s,es⟩:∃s,m'.slots[i]?=aA s:=⟨_,eB ci⟩;have hm:=bM es;have e1:cJ (m'.slots.map λs=>AV.ref s.a) i=aA (.ref s.a):=mq (by rw[fR,es];rfl);have nl:s.aX.length<=2:=by rw[(r'.W.sw _ hm).2];exact zQ
  have nl':((s.lt c.room).aX.map oI).length=s.aX.length:=aR ..;refine fE _<|aC.of (r'.at 1)<|WC.of<|eU (cH r'.jZ.1) e1<|WB.of<|kD<|Bf ?_;refine aC.of (r'.cK hm) ⟨sf (by omega) (by omega),?_⟩;refine Gg (λj Z h''=>(∃v5,Z=[aA (.ref<|c.b+1),aA (.int t),aA (.int w),aA (.int i),aA (.ref s.a),v5])/\∃g2 m2 s2,aJ c g2 m2 h''/\P i j m2/\bN c g h g2 h''/\m2.slots[i]?=aA s2/\s2.a=s.a/\s2.aX=s.aX) (by rw[eF,oG];omega) ⟨⟨_,rfl⟩,g',m',s,r',p',f',es,rfl,rfl⟩ (λj Z h'' hj y=>?_)<|λZ h'' y=>?_
  .obtain⟨⟨v5,rfl⟩,g2,m2,s2,r2,p2,f2,es2,ea,en⟩:=y;rw[nl',<- en]at hj;have e2:cJ (s2.aX.map oI) (j:Int)=aA (oI ((s2.aX)[j]?).join):=Sw hj;obtain⟨y1,y2⟩:=stp i j m2 s2 p2 es2 hj;rw[<- ea,Int.zero_add];refine gX _<|fE _<|aC.of (r2.cK<|bM es2)<|aC.of e2 ?_;cases eo:(s2.aX[j]?).join with
   |none=>exact WC.of<|Ba rfl ⟨⟨_,rfl⟩,g2,m2,s2,r2,y2 (λz=>by rw[z]at eo;cases eo),f2,es2,rfl,en⟩|some u=>
    refine aE.dc (λz=>?_) λz=>?_
    .have e3:s2.aX[j]?=aA (aA t):=by rw[eB hj]at eo ⊢;rw[show s2.aX[j]=aA u from eo,show u=t from z]
     obtain⟨G,p3⟩:=y1 e3;refine aC.of (r2.at 1)<|Yn r2 es2 rfl G λv g3 h3 r3 f3=>?_;exact⟨⟨_,rfl⟩,g3,_,_,r3,p3,f2.trans f3,(Ym r2.W.tk es2).1,rfl,en⟩
    .exact⟨⟨_,rfl⟩,g2,m2,s2,r2,y2 (λw=>z (by rw[w]at eo;exact(dJ eo).symm)),f2,es2,rfl,en⟩
  .obtain⟨⟨v5,rfl⟩,g2,m2,s2,r2,p2,f2,es2,ea,en⟩:=y;rw[nl',<- en]at p2;exact⟨by omega,⟨_,_,rfl⟩,g2,m2,r2,nxt i m2 s2 p2 es2,f2⟩
 .rw[if_neg (by simpa using ci)];exact q i m' g' h' p' (by omega) r' f'
end
section
variable {k:Nat}{g:Gh}
theorem f6(ev:v=c.room)(es:s'={ s with fi:=aA m.nw })(r:aJ c g m h)(hs:m.slots[i]?=aA s)(ews:s.ws=s.wi.map aA)(hw:kT s.wi)(hf:s.fi=aD)
  (P:Nat->Nat->Mo->Prop)(Q:Mo->Prop)(qm:∀m,Q m->s'∈m.slots)(q0:s'.d1 c.room=aD->Q (m.cQ i s'))
  (q1:∀x,s'.d1 c.room=aA x->∃w,s'.d3 c.room=aA w/\P 0 0 (m.cQ i s')/\∀i j m s,P i j m->m.slots[i]?=aA s->j<s.aX.length->(s.aX[j]?=aA (aA s'.tk)->yA m s j/\P i (j+1) (m.give i j w))/\(s.aX[j]?≠aA (aA s'.tk)->P i (j+1) m))
  (nxt:∀i m s,P i s.aX.length m->m.slots[i]?=aA s->P (i+1) 0 m)(q2:∀n m2,P n 0 m2->m2.slots.length<=n->Q m2)
  (q:∀m2 g' h',Q m2->aJ c g' (m2.jmp c.room s') h'->bN c g h g' h'->R .aH h'):WC (run pg (k+7) 30 [.ref (c.b+1),.ref s.a,.int v]) h R:=by
 subst ev;have hm:=bM hs;have t:=r.jj hm;rw[ews,Nr]at t;have wl:s.wi.length=s.row.nw:=by rw[<- (r.W.sw s hm).1];exact aR ..
 refine aS rfl rfl<|aC.of (r.cK hm)<|aC.of (r.cK hm)<|aC.of (r.cK hm)<|WC.of<|xD (cH t)<|aC.of (r.cK hm)<|E5 wl hw ?_;rw[show(s.lt c.room).row.fg (s.lt c.room).pc s.wi c.room (oI (s.lt c.room).dZ) = .tup (s.dt c.room) from Vp];refine aC.of rfl<|aC.of rfl<|aC.of (r.cK hm) ?_;have nb:c.b+1≠s.a:=(rA (r.at 1) (r.cK hm) (λz=>by cases z));refine aC.of ((bL nb).trans (r.at 1))<|aC.of bP ?_;have A:gL "finished" (.int m.nw) (gL "deed" (.tup<|s.dt c.room)<|(s.lt c.room).fs (s.a+2))=(s'.lt c.room).fs (s.a+2):=by rw[es];unfold Sl.lt;rw[show({ s with fi:=aA m.nw }:Sl).dd c.room = .tup (s.dt c.room) from nj rfl];rfl
 have d:s'.a=s.a:=by rw[es]
 have u:s'.fi.isSome=aB:=by rw[es];rfl
 have a:=r.si hs d (by rw[es]) (by rw[es]) (by rw[es]) (by rw[es]);rw[<- A,<- CK]at a;have kd:=(r.qf hm).1;have fr:∀{B C:bC},bN c g h g ((h.put s.a B).put s.a C):=(bN.put kd).trans (bN.put kd);have o:=a.Aj (bM<|wX (m:=m) (s':=s') hs) u;rw[d]at o;refine aC.of o ?_;have fin:=λm2 g2 f v2 l (f2:bN c g h g2 f) (y:Q m2)=>e9 (k:=k+3) (v2:=v2) l (qm m2 y) u λg' h' D E=>q m2 g' h' y D (f2.trans<|bN.i7 E);rw[d]at fin;have e:s'.dt c.room=[.int s'.pc,oI (s'.d1 c.room),oI (s'.d2 c.room),oI (s'.d3 c.room),oI (s'.d4 c.room),(s'.ft c.room).getD .aH]:=rfl;cases b:s'.d1 c.room with
 |none=>rw[b]at e;rw[e];exact fin _ _ _ _ a fr<|q0 b
 |some x=>obtain⟨w,F,p0,p⟩:=q1 x b;rw[b,F]at e;rw[e]at o ⊢;exact aC.of o<|aC.of o<|l9 a P p0 p nxt λn m2 g2 f G l2 l f2=>fin m2 g2 f _ l (fr.trans f2) (q2 n m2 G l2)
end
section
variable {k:Nat}{g:Gh}
inductive Rx(c:Cf)(m:Mo)(i:Nat)(s s':Sl)(Z:Mo->Prop):Prop
 |mk (P:Nat->Nat->Mo->Prop) (Q:Mo->Prop) (_:s'={ s with fi:=aA m.nw }) (_:s.ws=s.wi.map aA) (_:kT s.wi) (_:s.fi=aD) (_:∀m,Q m->s'∈m.slots) (_:s'.d1 c.room=aD->Q (m.cQ i s'))
  (_:∀x,s'.d1 c.room=aA x->∃w,s'.d3 c.room=aA w/\P 0 0 (m.cQ i s')/\∀i j m s,P i j m->m.slots[i]?=aA s->j<s.aX.length->(s.aX[j]?=aA (aA s'.tk)->yA m s j/\P i (j+1) (m.give i j w))/\(s.aX[j]?≠aA (aA s'.tk)->P i (j+1) m))
  (_:∀i m s,P i s.aX.length m->m.slots[i]?=aA s->P (i+1) 0 m) (_:∀n m2,P n 0 m2->m2.slots.length<=n->Q m2) (_:∀m2,Q m2->Z (m2.jmp c.room s'))
theorem d8(r:aJ c g m h)(et:ts=kM aG (pW m.wk m.nw))(P:WK->Mo->Prop)(p0:P ts { m with wk:=m.wk.filter λp=>!decide (p.2.2<=m.nw) })
  (stp:∀t ts m,P (t::ts) m->c.room=m.sd.mem.length/\(m.slot t=aD->P ts m)/\∀i s,m.slots[i]?=aA s->s.tk=t->∃s',Rx c m i s s' (P ts))
  (q:∀m' g' h',P [] m'->aJ c g' m' h'->bN c g h g' h'->R .aH h'):WC (run pg (k+8) 29 [.ref (c.b+1),.ref (c.b+11)]) h R:=by
 have tl:ts.length<64:=by rw[et,(Md aG<|pW m.wk m.nw).length_eq];unfold pW;rw[aR];exact yU r.W.wl
 refine aS rfl rfl<|WB.of<|kD<|kC ?_;refine aC.of (r.at 1)<|aC.of (r.at 6)<|aC.of (r.at 1)<|VN r.wa r.W.wl λn C kx e hn f on=>?_;have D:=(r.fresh Kp.refl hn).wkU kx e (nA r.W.wn) (yU r.W.wl);have f1:bN c g h ⟨g.sl,g.kf,λi=>if i=n then 28 else g.kd i⟩ C:=⟨kx.nx,λi d A hb=>⟨((bN.kx r (by decide) ⟨_,rfl⟩ kx).ob i d A hb).1,(if_neg (by omega)).trans A⟩⟩;rw[<- et]at on;refine mB on ?_;refine nV (λj l h'=>h'.ob n=aA (.lst aB<|ts.map .int)/\(∃v2 B,l=[aA (.ref<|c.b+1),aA (.ref<|c.b+11),v2,B])/\∃g' m',aJ c g' m' h'/\P (ts.drop j) m'/\g'.kd n=28/\n<h'.nx/\bN c g h g' h') (by rw[aR,eF];omega) ⟨on,⟨_,_,rfl⟩,_,_,D,p0,if_pos rfl,f,f1⟩ (λ_ _ _ y=>y.1) (λj x l h' E y=>?_)<|λl h' y=>?_
 .obtain⟨on,⟨v2,B,rfl⟩,g',m',a,b,kd,lt,nx⟩:=y;obtain⟨t,ht,rfl⟩:=iN E;rw[Fl ht]at b;obtain⟨rm,F,G⟩:=stp t _ m' b;refine gX _<|fE _<|aC.of (a.at 1)<|FF a ?_;cases o:m'.slot t with
  |none=>exact⟨on,⟨_,_,rfl⟩,g',m',a,F o,kd,lt,nx⟩|some s=>have hm:s∈m'.slots:=xK o;obtain⟨i,d⟩:=xI hm;have et:s.tk=t:=of_decide_eq_true (Bv (p:=λs:Sl=>decide (s.tk=t)) o);obtain⟨s',⟨H,Q,I,u,hw,J,K,L,M,w,N,z⟩⟩:=G i s d et;refine aC.of (a.at 11)<|f6 (v:=((m'.sd.mem.map AV.int).length:Int)) (by rw[aR,rm]) I a d u hw J H Q K L M w N λO g2 U S T f2=>?_;have fn:=f2.ob n lt kd (dR r.bx hn);exact⟨fn.1.trans on,⟨_,_,rfl⟩,g2,_,T,z O S,fn.2,bF lt f2.nx,nx.trans f2⟩
 .obtain⟨_,_,g',m',a,b,_,_,nx⟩:=y;rw[aR,Bt]at b;exact q m' g' h' b a nx
end
section
variable {l:WX}
def Sl.dn(room:Int)(s:Sl):Prop:=s.fi.isSome=aB/\s.ft room=aD
def dN(s:Sl):Option (Int×Ft×Ft):=match s.row with
 |.store _ _ d=>aA (s.tk,((s.ws[1]?).join).map (·+d),(s.ws[0]?).join)
 |_=>aD
theorem wL{p:Int×Ft×Ft}(h:dN s=aA p):p.1=s.tk:=by unfold dN at h;split at h<;>cases h;rfl
abbrev mV(l:WX):Prop:=(l.map (·.tk)).Pairwise (·<·)
theorem mV.eq(h:mV l)(hs:s∈l)(hz:z∈l)(e:z.tk=s.tk):z=s:=by have b:=uV hz h;rw[e]at b;exact dJ<|b.symm.trans<|uV hs h
theorem mV.ix{k:Nat}(h:mV l)(hk:l[k]?=aA z)(hs:l[i]?=aA s)(e:z.tk=s.tk):k=i:=by
 have nd:(l.map (·.tk)).Nodup:=h.imp ay;have a:(l.map (·.tk))[k]?=aA z.tk:=by rw[fR,hk];rfl
 have b:(l.map (·.tk))[i]?=aA z.tk:=by rw[fR,hs,e];rfl
 obtain⟨ha,a⟩:=List.getElem?_eq_some_iff.mp a;obtain⟨hb,b⟩:=List.getElem?_eq_some_iff.mp b;exact(Bz nd).mp (a.trans b.symm)
theorem ab(hs:l[i]?=aA s):s'∈l.set i s':=bM (kE (List.getElem?_eq_some_iff.mp hs).1)
theorem Af{k:Nat}(hs:l[i]?=aA s)(hk:(l.set i s')[k]?=aA z):(k=i/\z=s')\/(k≠i/\l[k]?=aA z):=by
 by_cases w:i=k
 .subst w;rw[kE (List.getElem?_eq_some_iff.mp hs).1]at hk;exact .inl ⟨rfl,(dJ hk).symm⟩
 .rw[jQ w]at hk;exact .inr ⟨λe=>w e.symm,hk⟩
theorem EV(h:mV l)(hs:l[i]?=aA s)(hz:z∈l.set i s'):z=s'\/(z∈l/\z.tk≠s.tk):=by
 obtain⟨k,a⟩:=xI hz;rcases Af hs a with⟨_,e⟩|⟨ne,e⟩
 .exact .inl e
 .exact .inr ⟨bM e,λw=>ne (h.ix e hs w)⟩
theorem Ag(hs:l[i]?=aA s)(hz:z∈l)(e:z.tk≠s.tk):z∈l.set i s':=by obtain⟨k,a⟩:=xI hz;refine bM<|(jQ λw=>?_).trans a;subst w;rw[hs]at a;cases a;exact e rfl
theorem Zr:((l.filterMap dN).map (·.1)).Sublist (l.map (·.tk)):=by
 induction l with
 |nil=>exact .slnil|cons z l a=>
  rw[mD];split
  .exact a.cons _
  .rw[hA,wL ‹_›];exact a.cons_cons _
theorem B8{f:Int->Bool}:(l.filterMap dN).filter (λp=>f p.1)=(l.filter λs=>f s.tk).filterMap dN:=by
 induction l with
 |nil=>rfl|cons z l a=>
  rw[mD,gC];cases e:dN z with
  |none=>
   rw[a];split
   .rw[mD,e]
   .rfl
  |some p=>
   rw[gC,wL e];split
   .rw[mD,e,a]
   .exact a
theorem yq(hs:l[i]?=aA s)(ek:dN s'=dN s):(l.set i s').filterMap dN=l.filterMap dN:=by
 induction l generalizing i with
 |nil=>rfl|cons z l a=>
  cases i with
  |zero=>cases hs;rw[Cg,mD,mD,ek]|succ i=>rw[Ce,mD,mD,a hs]
theorem yr{v w:Ft×Ft}(h:mV l)(hs:l[i]?=aA s)(e1:dN s=aA (s.tk,w))(e2:dN s'=aA (s.tk,v)):(l.set i s').filterMap dN=eR (l.filterMap dN) s.tk v/\aW (l.filterMap dN) s.tk=aA w:=by
 have hm:(s.tk,w)∈l.filterMap dN:=List.mem_filterMap.mpr ⟨s,bM hs,e1⟩;refine⟨?_,mL ((vE Zr h).imp ay) hm⟩;unfold eR;rw[if_pos (List.any_eq_true.mpr ⟨_,hm,decide_eq_true rfl⟩)];clear hm;induction l generalizing i with
 |nil=>cases hs|cons z l c=>
  have a:=List.pairwise_cons.mp h;cases i with
  |zero=>cases hs;rw[Cg,mD,mD,e1,e2,hA,if_pos rfl];refine congrArg _ ((Cb λp b=>?_).trans (JQ _)).symm;refine if_neg λw=>?_;have:=a.1 p.1 (Zr.subset<|List.mem_map.mpr ⟨p,b,rfl⟩);rw[w]at this;exact xF _ this
  |succ i=>
   rw[Ce,mD,mD,c a.2 hs];cases e:dN z with
   |none=>rfl|some p=>rw[hA,if_neg (by rw[wL e];exact ay<|a.1 s.tk<|List.mem_map.mpr ⟨s,bM hs,rfl⟩)]
theorem d5{t:Int}(h:mV l):∃n,l.filter (λs=>decide (s.tk<t))=l.take n:=by
 induction l with
 |nil=>exact⟨0,rfl⟩|cons z l b=>
  have a:=List.pairwise_cons.mp h;rw[gC];split
  .obtain⟨n,e⟩:=b a.2;exact⟨n+1,by rw[e,JV]⟩
  .rename_i w;refine⟨0,List.filter_eq_nil_iff.mpr λs c y=>w ?_⟩;have:=a.1 s.tk (List.mem_map.mpr ⟨s,c,rfl⟩);exact decide_eq_true<|vD this<|of_decide_eq_true y
theorem Xi{t:Int}{k:Nat}(h:mV l)(e:(l.filter<|λs=>decide (s.tk<t))[k]?=aA s):l[k]?=aA s:=by
 obtain⟨n,en⟩:=d5 h;rw[en,Ow]at e;split at e
 .exact e
 .cases e
theorem Jq{t:Int}{l:WK}:(lU t l).Sublist l:=by have:=List.reverse_sublist.mpr (JA (λu=>decide (t<=u)) (l:=l.reverse));rw[List.reverse_reverse]at this;exact this
theorem Ys{wk:Dc (Int×Int)}{f:Int×Int×Int->Bool}{g:Int}:lT (wk.filter f) g<=lT wk g:=Int.ofNat_le.mpr (List.filter_sublist.filter _).length_le
theorem AZ{β:Type}{d:Dc β}(h:mV l)(nd:(d.map (·.1)).Nodup)(hd:∀p∈d,∃s∈l,s.tk=p.1):d.length<=l.length:=by
 have:=Bs nd λx a=>by obtain⟨p,b,rfl⟩:=List.mem_map.mp a;obtain⟨s,hs,e⟩:=hd p b;exact List.mem_map.mpr ⟨s,hs,e⟩
 rwa [aR,aR]at this
theorem Ei{t:Int}(h:pQ bg t p=aA b):(∃q∈bg,q.1=b)/\t<b:=by
 unfold pQ zb at h;split at h
 .cases h
 .rename_i w;cases h;obtain⟨q,a,e⟩:=List.mem_map.mp (Ij λz=>w (by rw[z];rfl));rw[Cc]at a;refine⟨⟨q,a.1,e⟩,?_⟩;have:=a.2;unfold mF at this;rw[bT,decide_eq_true_eq]at this;rw[<- e];exact this.1
theorem D9{l:List (Int×Ft×Ft)}(h:uD p dr l=aA (aA (u,w))):∃q∈l,q.1=u/\q.2.2=aA w:=by
 induction l with
 |nil=>cases h|cons q l a=>
  obtain⟨t,sp,v⟩:=q;unfold uD at h;split at h
  .cases h
  .split at h
   .cases v with
    |none=>cases h|some v=>cases h;exact⟨_,fS,rfl,rfl⟩
   .obtain⟨q,b,e⟩:=a h;exact⟨q,iI _ b,e⟩
end
section
variable {nw nw' tks':Int}{K K':Int->Prop}
def kN(c:Cf)(g:Int):Int:=(c.tb.getD g.toNat (1,1)).1
def Mo.wZ(m:Mo)(u:Int):Prop:=∃z∈m.slots,z.tk=u/\(dN z).isSome=aB
structure nS(c:Cf)(nw bG:Int)(K:Int->Prop)(dQ:Dc Int)(bg:Dc (Int×Ft))(s:Sl):Prop where
 t0:0<=s.tk
 t1:s.tk<bG
 p0:0<=s.pc
 hr:c.rs[s.pc.toNat]?=aA s.row
 wl:s.ws.length=s.row.nw
 nl:s.aX.length=s.row.nw
 wo:∀w,aA w∈s.ws->wd w
 nm:∀u,aA u∈s.aX->u<s.tk
 hw:∀w,s.dZ=aA w->wd w
 pu:s.put<=nw
 s0:s.st=aD->s.fi=aD/\s.src=aD
 s1:∀τ,s.st=aA τ->s.put<τ/\τ<=nw/\aD∉s.ws
 f1:∀φ,s.fi=aA φ->φ<=nw/\∃τ,s.st=aA τ/\φ=τ+mP c.tb s.row
 sr:∀u,s.src=aA u->(u<s.tk/\K u)\/(aW dQ u).isSome=aB
 ld:∀x y d,s.row = .load x y d->s.st.isSome=aB->0<=cell s.wi 0+d/\cell s.wi 0+d<c.room->s.dZ.isSome=aB/\∃e,(s.tk,e)∈bg
 of:s.of=aD
theorem nS.go(i:nS c nw bG K dQ bg s)(hn:nw<=nw')(ht:bG<=tks')(hs:∀u,(u<s.tk/\K u)\/(aW dQ u).isSome=aB->(u<s.tk/\K' u)\/(aW gon' u).isSome=aB)(hb:∀e,(s.tk,e)∈bg->(s.tk,e)∈bg'):nS c nw' tks' K' gon' bg' s:=
 ⟨i.t0,Om i.t1 ht,i.p0,i.hr,i.wl,i.nl,i.wo,i.nm,i.hw,rJ i.pu hn,i.s0,λb e=>have z:=i.s1 b e;⟨z.1,rJ z.2.1 hn,z.2.2⟩,λf e=>have z:=i.f1 f e;⟨rJ z.1 hn,z.2⟩,λu e=>hs u (i.sr u e),λx y d e a p=>have z:=i.ld x y d e a p;⟨z.1,z.2.imp λ_=>hb _⟩,i.of⟩
structure MI(c:Cf)(ts:WK)(G:Nat->Nat->Int->Prop)(e:Int)(m:Mo):Prop where
 so:mV m.slots
 sl:∀s∈m.slots,nS c e m.bG m.wZ m.dQ m.bg s
 sz:(m.slots.length:Int)<=c.sz
 wn:(m.wk.map (·.1)).Nodup
 w1:∀p∈m.wk,e<p.2.2/\∃s∈m.slots,s.tk=p.1/\s.fi=aD/\p.2.1=s.row.cA/\∃τ,s.st=aA τ/\p.2.2=τ+mP c.tb s.row
 w2:∀s∈m.slots,s.st.isSome=aB->s.fi=aD->s.tk∈ts\/∃p∈m.wk,p.1=s.tk
 w3:∀g,lT m.wk g<=kN c g
 tn:ts.Nodup
 td:∀s∈m.slots,s.tk∈ts->s.fi=aD/\∃τ,s.st=aA τ/\τ+mP c.tb s.row=m.nw
 kp:m.kp=m.slots.filterMap dN
 bn:(m.bg.map (·.1)).Nodup
 b1:∀p∈m.bg,∃s∈m.slots,s.tk=p.1/\mK s.row=aB/\s.st.isSome=aB
 fl:∀x,(∀u∈m.fl x,u<m.bG)/\((m.fl x).length:Int)<=m.bG
 sd:m.sd.ok
 rm:c.room=m.sd.mem.length
 st:∀p∈m.gR,(aW m.dQ p.2).isSome=aB
 l1:m.gR.length<=m.cB.length
 l2:m.dQ.length<=m.cB.length
 ah:0<=m.ah
 t0:0<=m.bG
 nb:∀k s l u,m.slots[k]?=aA s->s.aX[l]?=aA (aA u)->(∃z∈m.slots,z.tk=u/\¬z.dn c.room)\/G k l u->s.ws[l]?=aA aD
 nf:∀s∈m.slots,∀u,aA u∈s.aX->∀z∈m.slots,z.tk=u->(aM.fx z.row).isSome=aB
 ff:∀x,∀u∈m.fl x,∀z∈m.slots,z.tk=u->(aM.fx z.row).isSome=aB
 na:∀k s l,m.slots[k]?=aA s->s.ws[l]?=aA aD->(∃z∈m.slots,s.aX[l]?=aA (aA z.tk)/\¬z.dn c.room)\/∃u,G k l u/\(s.aX[l]?=aA (aA u)\/u = -1)
theorem MI.weak(I:MI c ts G e m)(h:∀k l u,G' k l u->G k l u)(h2:∀k s l u,m.slots[k]?=aA s->s.ws[l]?=aA aD->G k l u->s.aX[l]?=aA (aA u)\/u = -1->(∃z∈m.slots,s.aX[l]?=aA (aA z.tk)/\¬z.dn c.room)\/∃u,G' k l u/\(s.aX[l]?=aA (aA u)\/u = -1)):MI c ts G' e m:={ I with nb:=λk s l u a b w=>I.nb k s l u a b (w.imp id<|h k l u),na:=λk s l a b=>(I.na k s l a b).elim .inl λ⟨u,g,w⟩=>h2 k s l u a b g w }
theorem MI.tJ(I:MI c ts G e m)(h:0<=a):MI c ts G e { m with ah:=a }:=⟨I.so,I.sl,I.sz,I.wn,I.w1,I.w2,I.w3,I.tn,I.td,I.kp,I.bn,I.b1,I.fl,I.sd,I.rm,I.st,I.l1,I.l2,h,I.t0,I.nb,I.nf,I.ff,I.na⟩
theorem MI.cut{t:Int}(I:MI c ts G e m):MI c ts G e (m.cut t):=by
 have kf:∀{β:Type}{d:Dc β}{p:Int×β},p∈d->p.1<t->p∈d.filter λp=>!decide (t<=p.1):=λj hl=>List.mem_filter.mpr ⟨j,by rw[decide_eq_false (Int.not_le.mpr hl)];rfl⟩;have v:∀{β:Type}{d:Dc β}{p:Int×β},(p∈d.filter λp=>!decide (t<=p.1))->p∈d/\p.1<t:=λj=>by rw[Cc]at j;exact⟨j.1,by simpa using j.2⟩
 have r:∀{s},s∈m.slots->s.tk<t->s∈(m.cut t).slots:=λi hl=>List.mem_filter.mpr ⟨i,decide_eq_true hl⟩;have o:∀{s},s∈(m.cut t).slots->s∈m.slots/\s.tk<t:=λi=>by have:=List.mem_filter.mp i;exact⟨this.1,of_decide_eq_true this.2⟩
 refine⟨vE (List.filter_sublist.map _) I.so,λs i=>?_,rJ (Int.ofNat_le.mpr (pF ..)) I.sz,nA I.wn,λp j=>?_,λs i a b=>?_,λg=>rJ Ys (I.w3 g),I.tn,λs i=>I.td s (o i).1,?_,nA I.bn,λp j=>?_,λx=>⟨λu q=>(I.fl x).1 u (Jq.subset q),rJ (Int.ofNat_le.mpr Jq.length_le) (I.fl x).2⟩,I.sd,I.rm,I.st,I.l1,I.l2,I.ah,I.t0,λk s l u a b w=>I.nb k s l u (Xi I.so a) b (w.imp (λ⟨z,n,w⟩=>⟨z,(o n).1,w⟩) id),λs i u q z n=>I.nf s (o i).1 u q z (o n).1,λx u q z n=>I.ff x u (Jq.subset q) z (o n).1,λk s l a b=>(I.na k s l (Xi I.so a) b).imp (λ⟨z,n,w⟩=>⟨z,r n ?_,w⟩) id⟩
 .obtain⟨i,hl⟩:=o i;refine(I.sl s i).go (jH _) (jH _) (λu q=>q.imp (λ⟨a,b⟩=>⟨a,?_⟩) id) λe he=>kf he hl;obtain⟨z,n,e,b⟩:=b;exact⟨z,r n (by rw[e];exact vD a hl),e,b⟩
 .obtain⟨j,hl⟩:=v j;obtain⟨a,s,i,e,b⟩:=I.w1 p j;exact⟨a,s,r i (e▸hl),e,b⟩
 .obtain⟨i,hl⟩:=o i;exact(I.w2 s i a b).imp id λ⟨p,j,e⟩=>⟨p,kf j (e▸hl),e⟩
 .show m.kp.filter _=(m.slots.filter _).filterMap dN;rw[I.kp,B8 (f:=λx=>!decide (t<=x))];refine congrArg _<|Ou λs _=>?_;by_cases h:s.tk<t
  .rw[decide_eq_true h,decide_eq_false (Int.not_le.mpr h)];rfl
  .rw[decide_eq_false h,decide_eq_true (Int.not_lt.mp h)];rfl
 .obtain⟨j,hl⟩:=v j;obtain⟨s,i,e,b⟩:=I.b1 p j;exact⟨s,r i (e▸hl),e,b⟩
 .have i:=o (bM a);exact vD ((I.sl s i.1).nm _ (bM w.1)) i.2
theorem B7(er:s'.row=s.row):(dN s').isSome=(dN s).isSome:=by unfold dN;rw[er];split<;>rfl
theorem MI.set{ts':WK}{wk':Dc (Int×Int)}{kp':Dc (Ft×Ft)}{a:Int}(I:MI c ts G e m)(hs:m.slots[i]?=aA s)(et:s'.tk=s.tk)(er:s'.row=s.row)(en:s'.aX=s.aX)(S:nS c e m.bG m.wZ m.dQ bg' s')
  (wn:(wk'.map (·.1)).Nodup) (w1:∀p∈wk',(p∈m.wk/\p.1≠s.tk)\/(e<p.2.2/\s.tk=p.1/\s'.fi=aD/\p.2.1=s.row.cA/\∃τ,s'.st=aA τ/\p.2.2=τ+mP c.tb s.row)) (w2:∀p∈m.wk,p∈wk') (w3:∀g,lT wk' g<=kN c g) (w4:s'.st.isSome=aB->s'.fi=aD->∃p∈wk',p.1=s.tk)
  (tn:ts'.Nodup) (t1:∀t∈ts,t≠s.tk->t∈ts') (td:∀t∈ts',t∈ts/\t≠s.tk) (kp:kp'=(m.slots.set i s').filterMap dN)
  (bn:(bg'.map (·.1)).Nodup) (b1:∀p∈bg',p∈m.bg\/(p.1=s.tk/\mK s.row=aB/\s'.st.isSome=aB)) (b2:∀p∈m.bg,p∈bg') (b3:s.st.isSome=aB->s'.st.isSome=aB) (ha:0<=a)
  (nd:¬s'.dn c.room->¬s.dn c.room) (hG:∀k l u,G' k l u->(∃z∈m.slots,z.tk=u/\¬z.dn c.room)\/G k l u) (hw:∀l u,s.aX[l]?=aA (aA u)->s.ws[l]?=aA aD->(∃z∈m.slots,z.tk=u/\¬z.dn c.room)\/G' i l u->s'.ws[l]?=aA aD)
  (nd2:¬s.dn c.room->¬s'.dn c.room\/∀k l,G' k l s.tk) (hG2:∀k l u,(k=i->s'.ws[l]?=aA aD)->G k l u->G' k l u) (hw2:∀l:Nat,s'.ws[l]?=aA aD->s.ws[l]?=aA aD) :
  MI c ts' G' e { m with slots:=m.slots.set i s',wk:=wk',kp:=kp',bg:=bg',ah:=a }:=by
 have hm:=bM hs;have old:∀{z},z∈m.slots->z≠s->z∈m.slots.set i s':=λf h=>Ag hs f λw=>h (I.so.eq hm f w);have cs:∀{z},z∈m.slots.set i s'->z=s'\/(z∈m.slots/\z.tk≠s.tk):=λf=>EV I.so hs f;have st:∀u,m.wZ u->({ m with slots:=m.slots.set i s',wk:=wk',kp:=kp',bg:=bg',ah:=a }:Mo).wZ u:=λu ⟨z,f,e,b⟩=>by
  by_cases w:z=s
  .exact⟨s',ab hs,by rw[et,<- w];exact e,by rw[B7 er,<- w];exact b⟩
  .exact⟨z,old f w,e,b⟩
 refine⟨by show(Pa _<|m.slots.set i s').Pairwise _;rw[gj hs et];exact I.so,λz f=>?_,by show((m.slots.set i s').length:Int)<=_;rw[nL];exact I.sz,wn,λp r=>?_,λz f a b=>?_,w3,tn,λz f ht=>?_,kp,bn,λp r=>?_,I.fl,I.sd,I.rm,I.st,I.l1,I.l2,ha,I.t0,λk z l u A hn w=>?_,λz f u v y o e=>?_,λx u v y o e=>?_,λk z l A f=>?_⟩
 .have go:∀{z},nS c e m.bG m.wZ m.dQ bg' z->nS c e m.bG ({ m with slots:=m.slots.set i s',wk:=wk',kp:=kp',bg:=bg',ah:=a }:Mo).wZ m.dQ bg' z:=λS=>S.go (jH _) (jH _) (λu v=>v.imp (λw=>⟨w.1,st u w.2⟩) id) λ_=>id;rcases cs f with rfl|⟨f,_⟩
  .exact go S
  .exact go<|(I.sl z f).go (jH _) (jH _) (λ_=>id) λe=>b2 _
 .rcases w1 p r with⟨r,ne⟩|⟨j,n,q,L,M⟩
  .obtain⟨j,z,f,n,q⟩:=I.w1 p r;exact⟨j,z,Ag hs f (n▸ne),n,q⟩
  .exact⟨j,s',ab hs,et.trans n,q,er▸L,er▸M⟩
 .rcases cs f with rfl|⟨f,ne⟩
  .rw[et];exact .inr<|w4 a b
  .exact(I.w2 z f a b).imp (λh=>t1 _ h ne) λ⟨p,r,e⟩=>⟨p,w2 p r,e⟩
 .obtain⟨j,n⟩:=td _ ht;rcases cs f with rfl|⟨f,ne⟩
  .exact absurd et n
  .exact I.td z f j
 .rcases b1 p r with r|⟨j,n,q⟩
  .obtain⟨z,f,j,n,q⟩:=I.b1 p r;by_cases w:z=s
   .subst w;exact⟨s',ab hs,et.trans j,er▸n,b3 q⟩
   .exact⟨z,old f w,j,n,q⟩
  .exact⟨s',ab hs,et.trans j.symm,er▸n,q⟩
 .have J:(∃z∈m.slots,z.tk=u/\¬z.dn c.room)\/G' k l u:=w.imp (λ⟨y,o,e,d⟩=>by
   rcases cs o with rfl|⟨o,_⟩
   .exact⟨s,hm,et.symm.trans e,nd d⟩
   .exact⟨y,o,e,d⟩) id
  have K:=J.elim .inl (hG k l u);rcases Af hs A with⟨rfl,rfl⟩|⟨ne,A⟩
  .rw[en]at hn;exact hw l u hn (I.nb k s l u hs hn K) J
  .exact I.nb k z l u A hn K
 .have D:∃C∈m.slots,aA u∈C.aX:=(cs f).elim (λw=>⟨s,hm,by rw[w,en]at v;exact v⟩) λw=>⟨z,w.1,v⟩;obtain⟨C,j,n⟩:=D;rcases cs o with rfl|⟨o,_⟩
  .rw[er];exact I.nf C j u n s hm<|et.symm.trans e
  .exact I.nf C j u n y o e
 .rcases cs o with rfl|⟨o,_⟩
  .rw[er];exact I.ff x u v s hm<|et.symm.trans e
  .exact I.ff x u v y o e
 .have key:∀B:Sl,m.slots[k]?=aA B->B.aX=z.aX->B.ws[l]?=aA aD->(k=i->s'.ws[l]?=aA aD)->(∃y∈m.slots.set i s',z.aX[l]?=aA (aA y.tk)/\¬y.dn c.room)\/∃u,G' k l u/\(z.aX[l]?=aA (aA u)\/u = -1):=λB h0 E F H=>by
   rw[<- E];rcases I.na k B l h0 F with⟨y,o,j,n⟩|⟨u,j,n⟩
   .by_cases w:y=s
    .subst w;exact(nd2 n).elim (λq=>.inl ⟨s',ab hs,et▸j,q⟩) λq=>.inr ⟨_,q k l,.inl j⟩
    .exact .inl ⟨y,old o w,j,n⟩
   .exact .inr ⟨u,hG2 k l u H j,n⟩
  rcases Af hs A with⟨rfl,rfl⟩|⟨ne,A⟩
  .exact key s hs en.symm (hw2 l f) λ_=>f
  .exact key z A rfl f λe=>absurd e ne
end
theorem MI.FL(I:MI c ts G e m)(hm:s∈m.slots)(ni:aD∈s.ws):s.st=aD/\s.fi=aD/\s.src=aD:=by
 have S:=I.sl s hm;have st:s.st=aD:=by
  cases e:s.st with
  |none=>rfl|some a=>exact absurd ni (S.s1 a e).2.2
 exact⟨st,S.s0 st⟩
theorem MI.Ji(I:MI c ts G e m)(hm:s∈m.slots)(st:s.st=aD):s.tk∉ts/\∀p∈m.wk,p.1≠s.tk:=by
 refine⟨λh=>?_,λp b w=>?_⟩
 .obtain⟨_,d,e,_⟩:=I.td s hm h;rw[st]at e;cases e
 .obtain⟨_,z,f,g,_,_,d,a,_⟩:=I.w1 p b;rw[I.so.eq hm f (g.trans w),st]at a;cases a
theorem MI.zl{b:Int}(I:MI c ts G e m):0<=zl (m.slot b):=by
 cases h:m.slot b with
 |none=>exact jH _|some z=>exact(I.sl z<|xK h).p0
theorem qP{d:Int}(er:s.row = .store x y d):dN s=aA (s.tk,((s.ws[1]?).join).map (·+d),(s.ws[0]?).join):=by unfold dN;rw[er]
theorem MI.gv(I:MI c ts G e m)(hs:m.slots[i]?=aA s)(hj:s.ws[j]?=aA aD):yA m s j:=by
 refine⟨(I.FL (bM hs)<|bM hj).2.1,(List.getElem?_eq_some_iff.mp hj).1,λx y d a=>?_,λt p b f=>?_⟩
 .refine⟨_,by rw[I.kp];exact(yr I.so hs (qP a)<|qP a).2,λe=>?_,λe=>?_⟩
  .subst e;rw[hj];rfl
  .subst e;rw[hj];rfl
 .obtain⟨⟨q,g,e⟩,_⟩:=Ei f;obtain⟨s,hs,h,_⟩:=I.b1 q g;exact⟨s,by rw[<- e,<- h];exact uV hs I.so⟩
theorem MI.word(I:MI c ts G e m)(hs:m.slots[i]?=aA s)(hj:s.ws[j]?=aA aD)(hw:wd w)(hg:∀k l u,G' k l u->G k l u)(hn:∀u,s.aX[j]?=aA (aA u)->(∀z∈m.slots,z.tk=u->z.dn c.room)/\¬G' i j u)(hg2:∀k l u,G k l u->¬(k=i/\l=j)->G' k l u):MI c ts G' e { m with slots:=m.slots.set i { s with ws:=s.ws.set j (aA w) },kp:=(m.slots.set i { s with ws:=s.ws.set j (aA w) }).filterMap dN }:=by
 have hm:=bM hs;have S:=I.sl s hm;obtain⟨st,fi,sr⟩:=I.FL hm (bM hj);obtain⟨n1,n2⟩:=I.Ji hm st;have ns:∀{p:Prop},s.st.isSome=aB->p:=λh=>by rw[st]at h;cases h
 refine I.set hs rfl rfl rfl ⟨S.t0,S.t1,S.p0,S.hr,by show(s.ws.set j<|aA w).length=_;rw[nL];exact S.wl,S.nl,λv hv=>?_,S.nm,S.hw,S.pu,S.s0,λτ e=>ns (by rw[show s.st=aA τ from e];rfl),S.f1,S.sr,λx y d _ h=>ns h,S.of⟩ I.wn (λp hp=>.inl ⟨hp,n2 p hp⟩) (λ_=>id) I.w3 (λh=>ns h) I.tn (λ_ h _=>h) (λt h=>⟨h,λw=>n1 (w▸h)⟩) rfl I.bn (λ_=>.inl) (λ_=>id) id I.ah (λ_ h=>by have:=h.1;rw[fi]at this;cases this) (λk l u h=>.inr (hg k l u h)) (λl u a b w'=>?_) (λ_=>.inl λh=>by have:=h.1;rw[show s.fi=aD from fi]at this;cases this) (λk l u a b=>hg2 k l u b λ⟨e1,e2⟩=>?_) λl a=>?_
 .rcases Cd hv with h|h
  .exact S.wo v h
  .cases h;exact hw
 .by_cases h:j=l
  .subst h;obtain⟨h1,h2⟩:=hn u a;exact(w'.elim (λ⟨z,hz,e,d⟩=>d (h1 z hz e)) h2).elim
  .exact(jQ h).trans b
 .subst e2;have a:=a e1;rw[kE (List.getElem?_eq_some_iff.mp hj).1]at a;cases a
 .by_cases h:j=l
  .subst h;exact hj
  .exact(jQ h).symm.trans a
theorem MI.give(I:MI c ts G e m)(hs:m.slots[i]?=aA s)(hj:s.ws[j]?=aA aD)(hw:wd w)(hg:∀k l u,G' k l u->G k l u)(hn:∀u,s.aX[j]?=aA (aA u)->(∀z∈m.slots,z.tk=u->z.dn c.room)/\¬G' i j u)(hg2:∀k l u,G k l u->¬(k=i/\l=j)->G' k l u):MI c ts G' e (m.give i j w):=by
 have W:=I.word hs hj hw hg hn hg2;have jl:=(List.getElem?_eq_some_iff.mp hj).1;unfold Mo.give;rw[hs];dsimp only;split
 .rename_i x y d ev a b;have nl:s.ws.length=2:=by rw[(I.sl s<|bM hs).wl,a];rfl
  have key:∀v,dN { s with ws:=s.ws.set j (aA w) }=aA (s.tk,v)->(MI c ts G' e { m.cQ i { s with ws:=s.ws.set j (aA w) }with kp:=eR m.kp s.tk v }/\ev=(((s.ws[1]?).join).map (·+d),(s.ws[0]?).join)):=λv g=>by obtain⟨k1,k2⟩:=yr I.so hs (qP a) g;rw[k1,<- I.kp]at W;rw[<- I.kp,b]at k2;exact⟨W,dJ k2⟩
  split
  .rename_i h;subst h;obtain⟨K,rfl⟩:=key _ ((qP (s:={ s with ws:=s.ws.set 0 (aA w) }) a).trans (by show aA (s.tk,((s.ws.set 0<|aA w)[1]?).join.map (·+d),((s.ws.set 0<|aA w)[0]?).join)=_;rw[jQ (by decide),kE jl]));exact K
  .rename_i h;have:j=1:=by omega
   subst this;obtain⟨K,rfl⟩:=key _ ((qP (s:={ s with ws:=s.ws.set 1 (aA w) }) a).trans (by show aA (s.tk,((s.ws.set 1<|aA w)[1]?).join.map (·+d),((s.ws.set 1<|aA w)[0]?).join)=_;rw[kE jl,jQ (by decide)]));unfold Mo.place;split
   .exact K
   .exact(K.tJ W.zl).cut
 .rename_i f;have b:(m.slots.set i { s with ws:=s.ws.set j (aA w) }).filterMap dN=m.kp:=(yq hs (by
   unfold dN;split
   .rename_i x y d a;exact absurd (by rw[I.kp];exact(yr I.so hs (qP a)<|qP a).2)<|f x y d _ a
   .rfl)).trans I.kp.symm
  rw[b]at W;exact W
theorem m8(hp:mV m.slots)(hs:m.slots[i]?=aA s)(hz:z∈m.slots)(hl:z.tk<s.tk):z∈(m.give i j w).slots:=by
 have a:z∈m.slots.set i { s with ws:=s.ws.set j (aA w) }:=Ag hs hz (ay hl);unfold Mo.give;rw[hs];dsimp only;split
 .split
  .exact a
  .unfold Mo.place;split
   .exact a
   .exact List.mem_filter.mpr ⟨a,decide_eq_true (vD hl (Ei ‹_›).2)⟩
 .exact a
def Mo.ct(m:Mo):Int×Int×Fu×Bool:=(m.nw,m.bG,m.cB,m.brk)
theorem Gw:(m.give i j w).ct=m.ct:=by
 unfold Mo.give;split
 .rfl
 .split
  .split
   .rfl
   .unfold Mo.place;split<;>rfl
  .rfl
section
variable {nw:Int}{K:Int->Prop}
structure kI(c:Cf):Prop where
 rs:∀r∈c.rs,rC r
 tb:Sm c.tb
 sz:c.sz<=32
 w0:1<=c.wd
 w8:c.wd<=8
 rm:c.room<=80
theorem HM(S:nS c nw bG K dQ bg s):kT s.wi:=λx a=>by
 obtain⟨o,b,rfl⟩:=List.mem_map.mp a;cases o with
 |none=>exact⟨by decide,by decide⟩|some v=>exact S.wo v b
theorem Nt(h:aD∉s.ws):s.ws=s.wi.map aA:=by
 unfold Sl.wi;rw[hB];refine((Cb λo a=>?_).trans (JQ _)).symm;cases o with
 |none=>exact absurd a h|some v=>rfl
theorem nS.ok(S:nS c nw bG K dQ bg s)(X:kI c):rC s.row:=X.rs _ (bM S.hr)
theorem Ff(S:nS c nw bG K dQ bg s)(X:kI c)(h:s.d3 c.room=aA w):wd w:=by
 have ww:=HM S;have key:∀r,rC r->aM.ft s.wi c.room r=aD->aM.Ej s.wi s.dZ r=aA w->wd w:=λr ok f h=>by
  cases r with
  |way v x y z=>
   cases h;have a:=ec ww (i:=0);have b:=ec ww (i:=1);exact aOp a.1 a.2 b.1 b.2 λe=>by have f:cond v.sr (if cell s.wi 1=0 then aA (AV.tup [.str "nought",.int (cell s.wi 0)]) else aD) aD=aD:=f;rw[e.1,if_pos e.2]at f;cases f
  |set x v=>cases h;exact ok.2|move x y=>cases h;exact ec ww|load x y d=>exact S.hw w h|store x y d=>cases h;exact ec ww|_=>cases h
 unfold Sl.d3 nF Sl.ft at h;split at h
 .exact key _ (S.ok X) ‹_› h
 .cases h
theorem Yt(ok:rC r)(h:0<=p):0<=r.gs p ws:=by
 cases r with
 |go t=>exact ok|fW x t=>show 0<=ite _ _ _;split;exact ok.2;omega|_=>show 0<=p+1;omega
end
section
variable {k:Nat}
def jS(m m':Mo):Prop:=∀z∈m'.slots,∃y∈m.slots,y.st=z.st
theorem jS.refl:jS m m:=λz a=>⟨z,a,rfl⟩
theorem jS.trans{m2:Mo}(a:jS m m')(b:jS m' m2):jS m m2:=λz c=>by obtain⟨y,d,e⟩:=b z c;obtain⟨x,f,g⟩:=a y d;exact⟨x,f,g.trans e⟩
theorem jS.set(hs:m.slots[i]?=aA s)(e:s'.st=s.st):jS m (m.cQ i s'):=λz a=>(Ig a).elim (λh=>⟨z,h,rfl⟩) λh=>⟨s,bM hs,by rw[h,e]⟩
theorem jS.cut{t:Int}:jS m (m.cut t):=λz a=>⟨z,(List.mem_filter.mp a).1,rfl⟩
theorem m9:jS m (m.give i j w):=by
 unfold Mo.give;split
 .exact .refl
 .rename_i s b;have a:jS m (m.cQ i { s with ws:=s.ws.set j (aA w) }):=.set b rfl;split
  .split
   .exact a
   .unfold Mo.place;split
    .exact a
    .exact a.trans jS.cut
  .exact a
theorem A7:jS m (m.jmp c.room s):=by
 unfold Mo.jmp;split
 .split
  .exact .refl
  .exact jS.cut
 .exact .refl
end
section
variable {t nw:Int}{K:Int->Prop}
abbrev nG:Nat->Nat->Int->Prop:=λ_ _ _=>False
theorem Zh(h:s.d1 c.room=aA w):s.ft c.room=aD/\aM.fx s.row=aA w:=by
 unfold Sl.d1 nF at h;split at h
 .exact⟨‹_›,h⟩
 .cases h
theorem wx(S:nS c nw bG K dQ bg s)(st:s.st.isSome=aB)(f:s.ft c.room=aD)(h:(aM.fx s.row).isSome=aB\/(dN s).isSome=aB):∃w,s.d3 c.room=aA w:=by
 have ld:=S.ld;unfold Sl.d3;rw[f];unfold Sl.ft at f;unfold dN at h;revert h f ld
 cases s.row with
 |load x y d=>
  intro f _ ld;have f:(if 0<=cell s.wi 0+d/\cell s.wi 0+d<c.room then aD else aA (AV.tup [.str "place",.int (cell s.wi 0+d)]))=aD:=f;by_cases a:0<=cell s.wi 0+d/\cell s.wi 0+d<c.room
  .exact Option.isSome_iff_exists.mp (ld x y d rfl st a).1
  .rw[if_neg a]at f;cases f
 |fW x t=>intro _ h _;rcases h with h|h<;>cases h
 |go t=>intro _ h _;rcases h with h|h<;>cases h
 |fault v=>intro f;cases f|_=>exact λ_ _ _=>⟨_,rfl⟩
theorem MI.fin(I:MI c (t::ts) nG m.nw m)(hs:m.slots[i]?=aA s)(et:s.tk=t):MI c ts (λ_ _ u=>u=s.tk) m.nw (m.cQ i { s with fi:=aA m.nw }):=by
 have hm:=bM hs;have S:=I.sl s hm;obtain⟨fi,o,st,f⟩:=I.td s hm (et▸fS);have tn:=List.nodup_cons.mp I.tn;have nd:¬s.dn c.room:=λh=>by have:=h.1;rw[fi]at this;cases this
 refine I.set hs rfl rfl rfl ⟨S.t0,S.t1,S.p0,S.hr,S.wl,S.nl,S.wo,S.nm,S.hw,S.pu,λh=>(by rw[show s.st=aD from h]at st;cases st),S.s1,λx h=>?_,S.sr,S.ld,S.of⟩ I.wn (λp g=>.inl ⟨g,λw=>?_⟩) (λ_=>id) I.w3 (λ_ h=>nomatch h) tn.2 (λu d ne=>(List.mem_cons.mp d).resolve_left λw=>ne (w.trans et.symm)) (λu d=>⟨iI _ d,λw=>tn.1 (by rw[<- et,<- w];exact d)⟩) (I.kp.trans (yq (s':={ s with fi:=aA m.nw }) hs rfl).symm) I.bn (λ_=>.inl) (λ_=>id) id I.ah (λ_=>nd) (λk l u h=>.inl ⟨s,hm,h.symm,nd⟩) (λl u a b y=>b) (λ_=>.inr λ_ _=>rfl) (λ_ _ _ _ h=>h.elim) λ_ a=>a
 .cases h;exact⟨jH _,o,st,f.symm⟩
 .obtain⟨j,z,q,r,_,_,v,e,n⟩:=I.w1 p g;rw[I.so.eq hm q (r.trans w)]at e n;rw[st]at e;cases e;rw[n,f]at j;exact xF _ j
theorem A6:(m.jmp c.room s).ct=m.ct:=by
 unfold Mo.jmp;split
 .split<;>rfl
 .rfl
theorem d7{Z:Mo->Prop}(X:kI c)(I:MI c (t::ts) nG m.nw m)(hs:m.slots[i]?=aA s)(et:s.tk=t)(hZ:∀m',MI c ts nG m'.nw m'->m'.ct=m.ct->jS m m'->Z m'):∃s',Rx c m i s s' Z:=by
 have hm:=bM hs;have S:=I.sl s hm;obtain⟨fi,K,st,P⟩:=I.td s hm (et▸fS);have F:=I.fin hs et;obtain⟨s',v⟩:∃s':Sl,s'={ s with fi:=aA m.nw }:=⟨_,rfl⟩;rw[<- v]at F;have tk:s'.tk=s.tk:=by rw[v]
 have q:s'∈(m.cQ i s').slots:=ab hs;have C:=F.sl s' q;have ss:jS m (m.cQ i s'):=.set hs (by rw[v]);refine⟨s',⟨λA E j=>MI c ts (λk l u=>u=s.tk/\(A<k\/(A=k/\E<=l))) m.nw j/\s'∈j.slots/\j.ct=m.ct/\jS m j,λj=>MI c ts nG m.nw j/\s'∈j.slots/\j.ct=m.ct/\jS m j,v,Nt (S.s1 K st).2.2,HM S,fi,λj h=>h.2.1,λhd=>⟨F.weak (λ_ _ _=>kU) λk z l u o _ g w=>.inl ?_,q,rfl,ss⟩,λx L=>?_,λA j z h o=>⟨h.1.weak (λk l u ⟨a,b⟩=>⟨a,.inl (by omega)⟩) λk M l u r _ g w=>.inr ⟨u,⟨g.1,?_⟩,w⟩,h.2⟩,λn j h hl=>⟨h.1.weak (λ_ _ _=>kU) λk z l u o _ g _=>?_,h.2⟩,λj h=>?_⟩⟩
 .have w:=w.resolve_right λe=>by have:=S.t0;have g:u=s.tk:=g;omega
  refine⟨s',q,by rw[tk,<- g];exact w,λd=>?_⟩;have:=F.nf z (bM o) u (bM w) s' q (tk.trans g.symm);unfold Sl.d1 nF at hd;rw[d.2]at hd;rw[show aM.fx s'.row=aD from hd]at this;cases this
 .obtain⟨f,fx⟩:=Zh L;obtain⟨w,hw⟩:=wx C (by rw[v];rw[st];rfl) f (.inl (by rw[fx];rfl));refine⟨w,hw,⟨F.weak (λk l u h=>h.1) λk z l u _ _ g w=>.inr ⟨u,⟨g,by omega⟩,w⟩,q,rfl,ss⟩,λA E j z h o Q=>⟨λhn=>?_,λhn=>⟨h.1.weak (λk l u ⟨a,b⟩=>⟨a,by omega⟩) λk M l u r _ g w=>.inr ⟨u,⟨g.1,?_⟩,w⟩,h.2⟩⟩⟩;rotate_left
  .rcases g.2 with g2|⟨g2,g3⟩
   .exact .inl g2
   .refine .inr ⟨g2,Nat.succ_le_of_lt (Nat.lt_of_le_of_ne g3 λe=>hn ?_)⟩;subst g2;subst e;rw[o]at r;cases r;have:=S.t0;rw[tk,<- g.1];exact w.resolve_right λe=>by have:=g.1;omega
  obtain⟨p,G,D,H⟩:=h;rw[tk]at hn;have B:=p.nb A z E s.tk o hn (.inr ⟨rfl,.inr ⟨rfl,aV _⟩⟩);refine⟨p.gv o B,p.give o B (Ff C X hw) (λk l u ⟨a,b⟩=>⟨a,by omega⟩) (λu J=>?_) (λk l u ⟨a,b⟩ ne=>⟨a,by omega⟩),m8 p.so o G (by rw[tk];exact(p.sl z<|bM o).nm _ (bM hn)),Gw.trans D,H.trans m9⟩;rw[hn]at J;cases J;refine⟨λy N e=>?_,λh=>by omega⟩;rw[p.so.eq G N (e.trans tk.symm)];exact⟨by rw[v];rfl,f⟩
 .rcases g.2 with g2|⟨g2,g3⟩
  .omega
  .subst g2;rw[o]at r;cases r;have t0:=S.t0;have w:=w.resolve_right λe=>by have:=g.1;omega
   have:=(List.getElem?_eq_some_iff.mp w).1;omega
 .have:=(List.getElem?_eq_some_iff.mp o).1;omega
 .obtain⟨p,G,D,H⟩:=h;have O:j.nw=m.nw:=congrArg (·.1) D;have p:MI c ts nG j.nw j:=O▸p;refine hZ _ ?_ (A6.trans D)<|H.trans A7;unfold Mo.jmp;split
  .split
   .exact p
   .have:0<=(s'.d4 c.room).getD 0:=by
     unfold Sl.d4 nF;split
     .exact Yt (C.ok X) C.p0
     .exact jH _
    exact(p.tJ this).cut
  .exact p
end
section
variable {t:Int}
theorem MI.WA(I:MI c [] nG (m.nw-1) m):MI c (kM aG<|pW m.wk m.nw) nG m.nw { m with wk:=m.wk.filter λp=>!decide (p.2.2<=m.nw) }:=by
 have pm:=Md aG (pW m.wk m.nw);have i:∀{p:Int×Int×Int},(p∈m.wk.filter λp=>!decide (p.2.2<=m.nw))↔p∈m.wk/\m.nw<p.2.2:=λ{p}=>by simp
 refine⟨I.so,λs f=>(I.sl s f).go (by omega) (jH _) (λ_=>id) λ_=>id,I.sz,nA I.wn,λp d=>⟨(i.mp d).2,(I.w1 p (i.mp d).1).2⟩,λs f a b=>?_,λg=>rJ Ys (I.w3 g),pm.nodup_iff.mpr (nA I.wn),λs f ht=>?_,I.kp,I.bn,I.b1,I.fl,I.sd,I.rm,I.st,I.l1,I.l2,I.ah,I.t0,I.nb,I.nf,I.ff,I.na⟩
 .rcases I.w2 s f a b with h|⟨p,d,e⟩
  .cases h
  .by_cases w:p.2.2<=m.nw
   .exact .inl<|pm.mem_iff.mpr<|List.mem_map.mpr ⟨p,List.mem_filter.mpr ⟨d,decide_eq_true w⟩,e⟩
   .exact .inr ⟨p,i.mpr ⟨d,Int.not_le.mp w⟩,e⟩
 .obtain⟨p,d,e⟩:=List.mem_map.mp (pm.mem_iff.mp ht);obtain⟨d,w⟩:=List.mem_filter.mp d;obtain⟨r,z,l,n,j,_,o,k,q⟩:=I.w1 p d;have w:=of_decide_eq_true w;rw[I.so.eq f l (n.trans e)]at j k q;exact⟨j,o,k,by show _=m.nw;omega⟩
theorem wO{β:Type}{l:Dc β}(h:∀p∈l,p.1≠x):aW l x=aD:=by unfold aW;rw[List.find?_eq_none.mpr λp a z=>h p a (of_decide_eq_true z)];rfl
theorem oy{r:aM}:∃n:Nat,n<5/\r.cA=n:=by
 cases r with
 |way w=>cases w<;>first|exact⟨0,by decide,rfl⟩|exact⟨1,by decide,rfl⟩|exact⟨2,by decide,rfl⟩
 |load=>exact⟨3,by decide,rfl⟩|store=>exact⟨3,by decide,rfl⟩|set=>exact⟨0,by decide,rfl⟩|move=>exact⟨0,by decide,rfl⟩|_=>exact⟨4,by decide,rfl⟩
theorem GH(X:kI c):cJ (c.tb.map cX) r.cA=aA (cX (kN c r.cA,mP c.tb r))/\1<=mP c.tb r:=by
 obtain⟨h1,a⟩:=X.tb;obtain⟨n,hn,e⟩:=@oy r;have hl:n<c.tb.length:=by omega
 have b:c.tb.getD n (1,1)=c.tb[n]:=by rw[vF,eB hl];rfl
 unfold kN mP;rw[e,oG,b];exact⟨L2.mq (by rw[fR,eB hl];rfl),(a _<|JN hl).2.1⟩
theorem p6{wk:Dc (Int×Int)}{p:Int×Int×Int}{g:Int}:lT (wk++[p]) g=lT wk g+if p.2.1=g then 1 else 0:=by
 unfold lT;rw[sX,dC];congr 1
 by_cases h:p.2.1=g
 .rw[if_pos h,gC,decide_eq_true h];rfl
 .rw[if_neg h,gC,decide_eq_false h];rfl
theorem MI.nY{l:Option (Int×Ft×Int)}(I:MI c ts G e m)(h:m.nY c.room s=aA l):(l=aD/\∀x y d,s.row = .load x y d->¬(0<=cell s.wi 0+d/\cell s.wi 0+d<c.room))\/∃p u w,l=aA (p,u,w)/\mK s.row=aB/\wd w/\∀v,u=aA v->(v<s.tk/\m.wZ v)\/(aW m.dQ v).isSome=aB:=by
 unfold Mo.nY at h;split at h
 .rename_i x y d g;have j:mK s.row=aB:=by rw[g];rfl
  split at h
  .split at h
   .cases h
   .cases h;exact .inr ⟨_,_,_,rfl,j,ec I.sd.mw,λv b=>.inr (I.st _<|gi b)⟩
   .rename_i u w hl;cases h;obtain⟨q,f,k,o⟩:=D9 hl;rw[List.mem_reverse,Cc,I.kp]at f;obtain⟨z,n,a⟩:=List.mem_filterMap.mp f.1;refine .inr ⟨_,_,_,rfl,j,?_,λv b=>.inl ⟨?_,z,n,?_,by rw[a];rfl⟩⟩
    .unfold dN at a;split at a
     .cases a;exact(I.sl z n).wo w (bM (i:=0)<|Option.join_eq_some_iff.mp o)
     .cases a
    .cases b;rw[<- k];exact of_decide_eq_true f.2
    .cases b;rw[<- (wL a),k]
  .rename_i r;cases h;exact .inl ⟨rfl,λt A B e=>by rw[g]at e;cases e;exact r⟩
 .rename_i nl;cases h;exact .inl ⟨rfl,λx y d e=>absurd e (nl x y d)⟩
theorem aJh{t:Int×Int}:(m.start c t i s).ct=m.ct:=by
 unfold Mo.start;split
 .split<;>rfl
 .rfl
theorem MI.start(X:kI c)(I:MI c [] nG m.nw m)(hs:m.slots[i]?=aA s)(hp:s.put<m.nw)(st:s.st=aD)(hw:s.ws.all xN=aB) :
  vp c m s/\cJ (c.tb.map cX) s.row.cA=aA (cX (kN c s.row.cA,mP c.tb s.row))/\aW m.wk s.tk=aD/\m.wk.length<63/\MI c [] nG m.nw (m.start c (kN c s.row.cA,mP c.tb s.row) i s):=by
 have hm:=bM hs;have S:=I.sl s hm;obtain⟨fi,sr⟩:=S.s0 st;obtain⟨_,n⟩:=I.Ji hm st;have nn:aD∉s.ws:=λh=>nomatch List.all_eq_true.mp hw aD h;have bg:∀p∈m.bg,p.1≠s.tk:=λp hp w=>by obtain⟨z,o,B,_,A⟩:=I.b1 p hp;rw[I.so.eq hm o (B.trans w),st]at A;cases A
 obtain⟨C,tl⟩:=GH X;have sz:=I.sz;have:=X.sz;have bl:=AZ I.so I.bn λp hp=>(I.b1 p hp).imp λ_ z=>⟨z.1,z.2.1⟩;have wl:=AZ I.so I.wn λp hp=>(I.w1 p hp).2.imp λ_ z=>⟨z.1,z.2.1⟩;refine⟨⟨fi,Nt nn,wO bg,λx y d j=>wO λp hp w=>?_,by omega,I.rm⟩,C,wO n,by omega,?_⟩
 .rw[I.kp]at hp;obtain⟨z,o,k⟩:=List.mem_filterMap.mp hp;rw[I.so.eq hm o ((wL k).symm.trans w)]at k;unfold dN at k;rw[j]at k;cases k
 unfold Mo.start;split
 .rename_i D;have key:∀(src dZ:Ft) (f:Dc (Int×Ft)),(∀u,src=aA u->(u<s.tk/\m.wZ u)\/(aW m.dQ u).isSome=aB)->(∀w,dZ=aA w->wd w)->(∀x y d,s.row = .load x y d->0<=cell s.wi 0+d/\cell s.wi 0+d<c.room->dZ.isSome=aB/\∃e,(s.tk,e)∈f)->(f.map (·.1)).Nodup->(∀p∈f,p∈m.bg\/(p.1=s.tk/\mK s.row=aB))->(∀p∈m.bg,p∈f) ->
    MI c [] nG m.nw { m.cQ i { s with src:=src,dZ:=dZ,st:=aA m.nw }with bg:=f,wk:=m.wk++[(s.tk,s.row.cA,m.nw+mP c.tb s.row)] }:=λsrc dZ f q r t E F G=>by
   refine I.set hs rfl rfl rfl ⟨S.t0,S.t1,S.p0,S.hr,S.wl,S.nl,S.wo,S.nm,r,S.pu,(nofun),λK h=>(by cases h;exact⟨hp,jH _,nn⟩),(λH h=>by rw[show s.fi=aA H from h]at fi;cases fi),q,λx y d j _=>t x y d j,S.of⟩ (zc I.wn<|wO n) (λp hp=>?_) (λp hp=>xJ _ hp) (λg=>?_) (λ_ _=>⟨_,iH _ (List.mem_singleton.mpr rfl),rfl⟩) I.tn (λ_ h=>nomatch h) (λ_ h=>nomatch h) (I.kp.trans (yq (s':={ s with src:=src,dZ:=dZ,st:=aA m.nw }) hs rfl).symm) E (λp hp=>(F p hp).imp id λw=>⟨w.1,w.2,rfl⟩) G (λ_=>rfl) I.ah (λ_ h=>by have:=h.1;rw[fi]at this;cases this) (λ_ _ _ h=>h.elim) (λl u a b L=>b) (λ_=>.inl λh=>by have:=h.1;rw[show s.fi=aD from fi]at this;cases this) (λ_ _ _ _ h=>h.elim) λ_ a=>a
   .rcases List.mem_append.mp hp with hp|hp
    .exact .inl ⟨hp,n p hp⟩
    .cases List.mem_singleton.mp hp;exact .inr ⟨by show m.nw<m.nw+mP c.tb s.row;omega,rfl,fi,rfl,_,rfl,rfl⟩
   .rw[p6];split
    .rename_i h;have h:s.row.cA=g:=h;rw[h]at D;omega
    .have:=I.w3 g;omega
  split
  .exact I
  .rename_i l hl;rcases I.nY hl with⟨rfl,h⟩|⟨p,u,w,rfl,q,r,t⟩
   .exact key s.src s.dZ m.bg S.sr S.hw (λx y d j J=>absurd J (h x y d j)) I.bn (λ_=>.inl) λ_=>id
   .exact key u (aA w) (m.bg++[(s.tk,p,u)]) t (λv e=>by cases e;exact r) (λx y d j _=>⟨rfl,_,iH _ (List.mem_singleton.mpr rfl)⟩) (zc I.bn<|wO bg) (λp hp=>(List.mem_append.mp hp).imp id λh=>by rw[List.mem_singleton.mp h];exact⟨rfl,q⟩) λp hp=>xJ _ hp
 .exact I
end
section
variable {a:Nat}
theorem aQj(h:rC r):∀x∈r.fF,0<=x/\x<8:=by
 cases r with
 |way w x y z=>intro v hv;rcases List.mem_cons.mp hv with rfl|hv;exact h.2.1;rw[List.mem_singleton.mp hv];exact h.2.2
 |store x y d=>intro v hv;rcases List.mem_cons.mp hv with rfl|hv;exact h.1;rw[List.mem_singleton.mp hv];exact h.2
 |move x y=>intro v hv;rw[List.mem_singleton.mp hv];exact h.2|load x y d=>intro v hv;rw[List.mem_singleton.mp hv];exact h.2|fW x t=>intro v hv;rw[List.mem_singleton.mp hv];exact h.1|_=>exact λ_ h=>nomatch h
theorem MI.en(X:kI c)(I:MI c [] nG e m)(hl:(m.slots.length:Int)<c.sz)(hr:c.rs[m.ah.toNat]?=aA row)(ht:m.bG<9000):lh c m row:=by
 have:=X.sz;refine⟨hr,I.ah,X.rs _ (bM hr),I.t0,λs d=>(I.sl s d).t1,λy u h=>(I.fl y).1 u (Pd h),λp a=>?_,wO λp a w=>?_,by omega,?_,λx=>?_⟩
 .rw[I.kp]at a;obtain⟨z,b,f⟩:=List.mem_filterMap.mp a;rw[wL f];exact(I.sl z b).t1
 .obtain⟨z,b,g,_⟩:=I.b1 p a;have:=(I.sl z b).t1;rw[g,w]at this;exact xF _ this
 .have:=aQw dN m.slots;rw[I.kp];omega
 .have:=(I.fl x).2;omega
theorem MI.enter(I:MI c [] nG m.nw m)(hl:(m.slots.length:Int)<c.sz)(hr:c.rs[m.ah.toNat]?=aA row):MI c [] (λk l u=>u = -1/\k=m.slots.length) m.nw (m.enter row a):=by
 obtain⟨s0,f⟩:∃s0,s0=m.wY row a:=⟨_,rfl⟩;have ml:∀{z},z∈m.slots->z∈m.slots++[s0]:=λh=>xJ _ h;have cs:∀{z},z∈m.slots++[s0]->z∈m.slots\/z=s0:=λh=>(List.mem_append.mp h).imp id List.mem_singleton.mp;have lt:=λz b=>(I.sl z b).t1;unfold Mo.enter;rw[<- f];have le:m.bG<=m.bG+1:=by omega
 refine⟨?_,λz b=>?_,?_,I.wn,λp q=>?_,λz b h=>?_,I.w3,I.tn,(λ_ _ h=>nomatch h),?_,I.bn,λp q=>(I.b1 p q).imp λz h=>⟨ml h.1,h.2⟩,λx=>?_,I.sd,I.rm,I.st,I.l1,I.l2,I.ah,rJ I.t0 le,λk z l u e hn w=>?_,λz b u hu y d i=>?_,λx u hu y d i=>?_,λk z l e hw=>?_⟩
 .show(Pa _<|m.slots++[s0]).Pairwise _;rw[gJ,Pf];refine⟨I.so,Pj ..,λx s y d=>?_⟩;obtain⟨z,b,rfl⟩:=List.mem_map.mp s;rw[List.mem_singleton.mp d,f];exact lt z b
 .rcases cs b with b|rfl
  .exact(I.sl z b).go (jH _) le (λu hu=>hu.imp (λh=>⟨h.1,h.2.imp λ_ y=>⟨ml y.1,y.2⟩⟩) id) λ_=>id
  .subst f;refine⟨I.t0,IK _,I.ah,hr,ui ..,(aR ..).trans aj,(λw h=>nomatch aQp h),λu h=>?_,(nofun),jH _,λ_=>⟨rfl,rfl⟩,(nofun),(nofun),(nofun),(λ_ _ _ _ h=>nomatch h),rfl⟩;obtain⟨x,_,h⟩:=List.mem_map.mp h;exact(I.fl x).1 u (Pd h)
 .show((m.slots++[s0]).length:Int)<=_;rw[dC];exact hl
 .obtain⟨r,z,b,h⟩:=I.w1 p q;exact⟨r,z,ml b,h⟩
 .rcases cs b with b|rfl
  .exact I.w2 z b h
  .rw[f]at h;cases h
 .show gh m.kp row m.bG=(m.slots++[s0]).filterMap dN;rw[List.filterMap_append,<- I.kp];subst f;cases row<;>first|rfl|exact(pE _).symm
 .show(∀u∈lC m.fl row m.bG x,u<m.bG+1)/\((lC m.fl row m.bG x).length:Int)<=m.bG+1;have old:(∀u∈m.fl x,u<m.bG+1)/\((m.fl x).length:Int)<=m.bG+1:=⟨λu hu=>Om ((I.fl x).1 u hu) le,rJ (I.fl x).2 le⟩;cases j:aM.fx row with
  |some y=>
   rw[show lC m.fl row m.bG=kO m.fl y (m.fl y++[m.bG]) by unfold lC;rw[j]];unfold kO;by_cases h:x=y
   .subst h;rw[if_pos rfl];refine⟨λu hu=>?_,by rw[dC];exact Int.add_le_add_right (I.fl x).2 1⟩;rcases List.mem_append.mp hu with hu|hu
    .exact old.1 u hu
    .rw[List.mem_singleton.mp hu];exact IK _
   .rw[if_neg h];exact old
  |none=>rw[show lC m.fl row m.bG=m.fl by unfold lC;rw[j]];exact old
 .have e:(m.slots++[s0])[k]?=aA z:=e;by_cases h:k<m.slots.length
  .rw[sY h]at e;have b:=bM e;refine I.nb k z l u e hn<|.inl ?_;obtain⟨y,d,o,t⟩:=w.resolve_right λw=>cC h w.2;rcases cs d with d|rfl
   .exact⟨y,d,o,t⟩
   .have:=(I.sl z b).nm u (bM hn);have:=lt z b;rw[f]at o;have o:m.bG=u:=o;omega
  .rw[Bx (Po h)]at e;have:=List.mem_singleton.mp (bM e);subst this;subst f;have hl:=(List.getElem?_eq_some_iff.mp hn).1;show(eO row.nw aD)[l]?=_;rw[By,if_pos];rw[show(m.wY row a).aX=row.fF.map λx=>(m.fl x).getLast? from rfl,aR,aj]at hl;exact hl
 .have n:u<m.bG/\∀y∈m.slots,y.tk=u->(aM.fx y.row).isSome=aB:=by
   rcases cs b with b|rfl
   .exact⟨vD ((I.sl z b).nm u hu) (lt z b),I.nf z b u hu⟩
   .rw[f]at hu;obtain⟨x,_,h⟩:=List.mem_map.mp hu;have:=Pd h;exact⟨(I.fl x).1 u this,I.ff x u this⟩
  rcases cs d with d|rfl
  .exact n.2 y d i
  .rw[f]at i;exact absurd i<|Bq n.1
 .have hu:u∈lC m.fl row m.bG x:=hu;have g:u∈m.fl x\/(u=m.bG/\(aM.fx row).isSome=aB):=by
   cases j:aM.fx row with
   |none=>rw[show lC m.fl row m.bG=m.fl by unfold lC;rw[j]]at hu;exact .inl hu
   |some y=>
    rw[show lC m.fl row m.bG=kO m.fl y (m.fl y++[m.bG]) by unfold lC;rw[j]]at hu;unfold kO at hu;split at hu
    .rename_i w;rcases List.mem_append.mp hu with hu|hu
     .rw[w];exact .inl hu
     .exact .inr ⟨List.mem_singleton.mp hu,rfl⟩
    .exact .inl hu
  rcases cs d with d|rfl
  .rcases g with g|⟨g,_⟩
   .exact I.ff x u g y d i
   .have:=lt y d;omega
  .rcases g with g|⟨_,g⟩
   .have r:=(I.fl x).1 u g;rw[f]at i;exact absurd i<|Bq r
   .rw[f];exact g
 .have e:(m.slots++[s0])[k]?=aA z:=e;by_cases h:k<m.slots.length
  .rw[sY h]at e;exact .inl<|((I.na k z l e hw).resolve_right λ⟨_,h,_⟩=>h).imp λy h=>⟨ml h.1,h.2⟩
  .have:=(List.getElem?_eq_some_iff.mp e).1;rw[dC]at this;exact .inr ⟨-1,⟨rfl,by have:k<m.slots.length+1:=this;omega⟩,.inr rfl⟩
theorem m7(hs:m.slots[i]?=aA s)(h:∀b,(∃q∈m.bg,q.1=b)->b<=s.tk):(m.give i j w).slots=m.slots.set i { s with ws:=s.ws.set j (aA w) }:=by
 unfold Mo.give;rw[hs];dsimp only;split
 .split
  .rfl
  .unfold Mo.place;split
   .rfl
   .obtain⟨a,c⟩:=Ei ‹_›;exact absurd (h _ a)<|Int.not_le.mpr c
 .rfl
theorem MI.fL(X:kI c):∀(l:WK) (j:Nat) (m:Mo) (s:Sl),MI c [] (λk l u=>u = -1/\k=i/\j<=l) e m->m.slots[i]?=aA s->s.tk+1=m.bG->s.ws.length=j+l.length->(∀x∈l,0<=x/\x<8)->(∀k,j<=k->k<j+l.length->s.ws[k]?=aA aD) ->
  m.wH c.room i j l/\MI c [] nG e (m.fL c.room i j l)/\(m.fL c.room i j l).ct=m.ct/\∃s',(m.fL c.room i j l).slots=m.slots.set i s'/\s'.st=s.st/\s'.put=s.put/\s'.tk=s.tk
 |[],j,m,s,I,o,_,sl,_,_=>⟨trivial,I.weak (λ_ _ _=>kU) λk z l u r hw g _=>by obtain⟨_,rfl,h⟩:=g;rw[o]at r;cases r;have B:=(List.getElem?_eq_some_iff.mp hw).1;have sl:s.ws.length=j:=sl;omega,rfl,s,(EX o).symm,rfl,rfl,rfl⟩
 |x::l,j,m,s,I,o,tk,sl,E,hw=>by
  have t:=λy C=>E y (iI _ C);have K:=hw j (aV _) (by rw[eK];omega);cases f:oV c.room (((s.aX[j]?).join).bind m.slot) (cell m.sd.bx x) with
  |none=>
   have J:MI c [] (λk l u=>u = -1/\k=i/\j+1<=l) e m:=I.weak (λk l u h=>⟨h.1,h.2.1,by omega⟩) λk z l u r _ g w=>by
    obtain⟨g1,g2,g3⟩:=g;by_cases L:l=j
    .refine .inl ?_;subst g2;subst L;rw[o]at r;cases r;unfold oV at f;split at f
     .cases f
     .rename_i y n;obtain⟨v,F,C⟩:=Option.bind_eq_some_iff.mp n;have hm:=xK C;have M:y.tk=v:=of_decide_eq_true (Bv (p:=λs:Sl=>decide (s.tk=v)) C);have en:s.aX[l]?=aA (aA y.tk):=by rw[M];exact Option.join_eq_some_iff.mp F
      refine⟨y,hm,en,λd=>?_⟩;rw[if_pos d.1]at f;obtain⟨N,O⟩:=Option.isSome_iff_exists.mp d.1;obtain⟨_,U,D,_⟩:=(I.sl y hm).f1 N O;obtain⟨w,hw⟩:=wx (I.sl y hm) (by rw[D];rfl) d.2 (.inl<|I.nf s (bM o) _ (bM en) y hm rfl);rw[hw]at f;cases f
    .exact .inr ⟨u,⟨g1,g2,by omega⟩,w⟩
   obtain⟨B,G,H⟩:=MI.fL X l (j+1) m s J o tk (by rw[sl,eK];omega) t λk a b=>hw k (mR ‹_›) (by rw[eK];omega);have e:m.fL c.room i j (x::l)=m.fL c.room i (j+1) l:=by rw[Gx o,f]
   rw[e];exact⟨⟨E x fS,s,o,λ_=>B,λw h=>by rw[f]at h;cases h⟩,G,H⟩
  |some w=>
   have key:(∀u,s.aX[j]?=aA (aA u)->∀z∈m.slots,z.tk=u->z.dn c.room)/\wd w:=by
    cases n:((s.aX[j]?).join).bind m.slot with
    |none=>rw[n]at f;cases f;refine⟨λu A z r e=>?_,ec I.sd.bw⟩;rw[A]at n;have n:m.slot u=aD:=n;unfold Mo.slot at n;rw[<- e,uV r I.so]at n;cases n
    |some y=>
     rw[n]at f;unfold oV at f;dsimp only at f;split at f
     .rename_i P;obtain⟨v,_,F⟩:=Option.bind_eq_some_iff.mp n;refine⟨λu A z r e=>?_,Ff (I.sl y<|xK F) X f⟩;rw[A]at n;have n:m.slot u=aA y:=n;unfold Mo.slot at n;rw[<- e,uV r I.so]at n;cases n;refine⟨P,?_⟩;unfold Sl.d3 nF at f;split at f
      .assumption
      .cases f
     .cases f
   have Q:=I.give (G':=λk l u=>u = -1/\k=i/\j+1<=l) o K key.2 (λk l u h=>⟨h.1,h.2.1,by omega⟩) (λu A=>⟨key.1 u A,λh=>by omega⟩) λk l u h ne=>⟨h.1,h.2.1,by have:=h.2;omega⟩;have D:(m.give i j w).slots=m.slots.set i { s with ws:=s.ws.set j (aA w) }:=m7 o λb hb=>by obtain⟨q,R,e⟩:=hb;obtain⟨z,r,V,_⟩:=I.b1 q R;have:=(I.sl z r).t1;omega
   have gs:(m.give i j w).slots[i]?=aA { s with ws:=s.ws.set j (aA w) }:=by rw[D];exact kE (List.getElem?_eq_some_iff.mp o).1
   have gt:(m.give i j w).bG=m.bG:=congrArg (·.2.1) Gw;obtain⟨B,G,H,s',S,T⟩:=MI.fL X l (j+1) (m.give i j w) _ Q gs (gt▸tk) (by show(s.ws.set j<|aA w).length=_;rw[nL,sl,eK];omega) t λk a b=>(jQ<|cC ‹_›).trans (hw k (mR ‹_›) (by rw[eK];omega));have e:m.fL c.room i j (x::l)=(m.give i j w).fL c.room i (j+1) l:=by rw[Gx o,f]
   rw[e];exact⟨⟨E x fS,s,o,(λh=>by rw[f]at h;cases h),λW h=>by rw[f]at h;cases h;exact⟨I.gv o K,B⟩⟩,G,H.trans Gw,s',by rw[S,D,uk],T⟩
theorem MI.sA(X:kI c)(I:MI c [] nG m.nw m)(hl:(m.slots.length:Int)<c.sz)(ha:m.ah<c.rs.length)(ht:m.bG<9000) :
  ∃row,lh c m row/\m.sd.bx.length=8/\(∀a,(m.enter row a).wH c.room m.slots.length 0 row.fF)/\∀a dr gs,MI c [] nG m.nw (m.sA c row a dr gs)/\(m.sA c row a dr gs).ct=(m.nw,m.bG+1,m.cB,m.brk)/\∃s,(m.sA c row a dr gs).slots=m.slots++[s]/\s.put=m.nw/\s.st=aD/\s.tk=m.bG:=by
 have h0:=I.ah;obtain⟨row,hr⟩:∃row,c.rs[m.ah.toNat]?=aA row:=⟨_,eB (by omega)⟩;have ok:=X.rs _ (bM hr);have key:=λa=>MI.fL X row.fF 0 (m.enter row a) (m.wY row a) ((I.enter hl hr).weak (λk l u h=>⟨h.1,h.2.1⟩) λk z l u _ _ g w=>.inr ⟨u,⟨g.1,g.2,jR _⟩,w⟩) JH rfl (by rw[KI,aj];exact ui ..) (aQj ok) λk _ i=>by show(eO row.nw aD)[k]?=_;rw[By,if_pos (by rw[<- aj];omega)]
 refine⟨row,I.en X hl hr ht,I.sd.bl,λa=>(key a).1,λa dr gs=>?_⟩;obtain⟨_,J,ct,s',d,st,pu,tk⟩:=key a;have hl:m.slots.length<(m.enter row a).slots.length:=by show _<(m.slots++[_]).length;rw[dC];exact cM _
 have e:((m.enter row a).fL c.room m.slots.length 0 row.fF).slots[m.slots.length]?=aA s':=by rw[d];exact kE hl
 unfold Mo.sA;dsimp only;rw[e];have hm:=bM e;have S:=J.sl s' hm;obtain⟨fi,_⟩:=S.s0 st;refine⟨J.set (ts':=[]) e rfl rfl rfl ⟨S.t0,S.t1,S.p0,S.hr,S.wl,S.nl,S.wo,S.nm,S.hw,S.pu,S.s0,S.s1,S.f1,S.sr,S.ld,S.of⟩ J.wn (λp f=>.inl ⟨f,((J.Ji hm st).2) p f⟩) (λ_=>id) J.w3 (λh=>by rw[show s'.st=aD from st]at h;cases h) J.tn (λ_ h=>nomatch h) (λ_ h=>nomatch h) (J.kp.trans (yq (s':={ s' with dr:=if mK s'.row=aB then dr else s'.dr,ch:=aM.oR s'.pc gs s'.row }) e rfl).symm) J.bn (λ_=>.inl) (λ_=>id) id ?_ (λ_ h=>by have:=h.1;rw[fi]at this;cases this) (λ_ _ _ h=>h.elim) (λl u a b j=>b) (λ_=>.inl λh=>by have:=h.1;rw[show s'.fi=aD from fi]at this;cases this) (λ_ _ _ _ h=>h.elim) λ_ a=>a,ct,{ s' with dr:=if mK s'.row=aB then dr else s'.dr,ch:=aM.oR s'.pc gs s'.row },?_,pu,st,tk⟩;rotate_left
 .show(eW _ _ _)=_;rw[d,uk];show(m.slots++[_]).set _ _=_;rw[List.set_append_right _ _ (aV _),Ps];rfl
 have p0:=S.p0;have ok:=S.ok X;revert ok
 cases s'.row with
 |fW x t=>intro ok;show 0<=ite _ _ _;split;exact ok.2;omega|go t=>exact id|_=>intro _;show 0<=s'.pc+1;omega
end
section
variable {rest:WX}{nw:Int}{K:Int->Prop}
theorem Hz{β:Type}{l:Dc β}{v:β}:aW (eR l x v) y=if x=y then aA v else aW l y:=by
 unfold aW eR;by_cases e:x=y
 .subst e;rw[if_pos rfl];split
  .rename_i z;induction l with
   |nil=>cases z|cons p l a=>
    rw[hA,nK];by_cases w:p.1=x
    .simp[w]
    .rw[rK,decide_eq_false w]at z;rw[if_neg w,decide_eq_false w];exact a z
  .rename_i z;rw[Bu,List.find?_eq_none.mpr (λp b w=>z (List.any_eq_true.mpr ⟨p,b,w⟩))];simp
 .rw[if_neg e];split
  .rename_i z;clear z;induction l with
   |nil=>rfl|cons p l a=>
    rw[hA,nK,nK];by_cases w:p.1=x
    .rw[if_pos w,show decide (p.1=y)=aG from decide_eq_false λz=>e (w.symm.trans z)];exact a
    .rw[if_neg w];split
     .rfl
     .exact a
  .rw[Bu];simp[e]
theorem Jr(h:(aW dQ y).isSome=aB):(aW (eR dQ x v) y).isSome=aB:=by
 rw[Hz];split
 .rfl
 .exact h
theorem F1{β:Type}{l:Dc β}{v:β}{p:Int×β}(h:p∈eR l x v):p∈l\/p.2=v:=by
 unfold eR at h;split at h
 .obtain⟨q,a,e⟩:=List.mem_map.mp h;split at e
  .exact .inr (by rw[<- e])
  .exact .inl<|e▸a
 .rcases List.mem_append.mp h with h|h
  .exact .inl h
  .exact .inr (by rw[List.mem_singleton.mp h])
theorem yx{β:Type}{l:Dc β}{p:Int×β}:p∈mX l x↔p∈l/\p.1≠x:=by unfold mX;rw[Cc,decide_eq_true_eq]
theorem MI.off{sl:Fu}(I:MI c [] nG e m)(es:m.slots=s::rest)(hf:s.fi.isSome=aB)(hd:s.dn c.room)(kp:kp'=rest.filterMap dN)(bn:(bg.map (·.1)).Nodup)(b1:∀p∈bg,p∈m.bg/\(mK s.row=aB->p.1≠s.tk))(b2:∀p∈m.bg,p.1≠s.tk->p∈bg)(g1:∀u,(aW m.dQ u).isSome=aB->(aW gon' u).isSome=aB)(g2:(dN s).isSome=aB->(aW gon' s.tk).isSome=aB)(st:∀p∈sto',(aW gon' p.2).isSome=aB)(l1:sto'.length<=sl.length)(l2:gon'.length<=sl.length)(sd:sd'.ok)(rm:c.room=sd'.mem.length) :
  MI c [] nG e { m with slots:=rest,cB:=sl,sd:=sd',kp:=kp',bg:=bg,gR:=sto',dQ:=gon' }:=by
 have so:=I.so;rw[es]at so;have i:=List.pairwise_cons.mp so;have j:∀{z},z∈rest->z∈m.slots:=λh=>by rw[es];exact iI _ h
 have ms:∀{z},z∈m.slots->z=s\/z∈rest:=λh=>by rw[es]at h;exact List.mem_cons.mp h
 have lt:∀z∈rest,s.tk<z.tk:=λz a=>i.1 _ (List.mem_map.mpr ⟨z,a,rfl⟩);have ne:∀{z},z∈m.slots->z.fi=aD->z∈rest:=λh f=>(ms h).resolve_left λw=>by rw[w]at f;rw[f]at hf;cases hf
 refine⟨i.2,λz a=>?_,?_,I.wn,λp i=>?_,λz a=>I.w2 z (j a),I.w3,I.tn,(λ_ _ h=>nomatch h),kp,bn,λp i=>?_,I.fl,sd,rm,st,l1,l2,I.ah,I.t0,λk z l u q hn w=>?_,λz a u n y hy=>I.nf z (j a) u n y (j hy),λx u n y hy=>I.ff x u n y (j hy),λk z l q hw=>.inl ?_⟩
 .refine(I.sl z<|j a).go (jH _) (jH _) (λu n=>?_) λe he=>b2 _ he (Bq<|lt z a);rcases n with⟨g,y,hy,b,d⟩|h
  .rcases ms hy with rfl|hy
   .rw[<- b];exact .inr<|g2 d
   .exact .inl ⟨g,y,hy,b,d⟩
  .exact .inr<|g1 u h
 .have:=I.sz;rw[es,eK]at this;show(rest.length:Int)<=_;omega
 .obtain⟨g,z,a,b,d,o⟩:=I.w1 p i;exact⟨g,z,ne a d,b,d,o⟩
 .obtain⟨g,b⟩:=b1 p i;obtain⟨z,a,d,o,r⟩:=I.b1 p g;refine⟨z,(ms a).resolve_left λw=>?_,d,o,r⟩;subst w;exact b o d.symm
 .refine I.nb (k+1) z l u (es▸q) hn<|.inl ?_;obtain⟨y,hy,h⟩:=w.resolve_right id;exact⟨y,j hy,h⟩
 .obtain⟨y,hy,g,b⟩:=(I.na (k+1) z l (es▸q) hw).resolve_right λ⟨_,h,_⟩=>h;exact⟨y,(ms hy).resolve_left λw=>b (w▸hd),g,b⟩
theorem qj(h:∀x y d,s.row ≠ .store x y d):dN s=aD:=by
 unfold dN;split
 .exact absurd ‹_› (h _ _ _)
 .rfl
theorem SI(S:nS c nw bG K dQ bg s)(X:kI c)(st:s.st.isSome=aB)(f:s.ft c.room=aD){sd:Sd}(h:sd.ok):(sd.du (s.d1 c.room) (s.d2 c.room) (s.d3 c.room)<|s.d4 c.room).ok/\(sd.du (s.d1 c.room) (s.d2 c.room) (s.d3 c.room)<|s.d4 c.room).mem.length=sd.mem.length:=by
 have p:0<=(s.d4 c.room).getD 0:=by unfold Sl.d4;rw[f];exact Yt (S.ok X) S.p0
 have w:wd ((s.d3 c.room).getD 0):=by
  cases e:s.d3 c.room with
  |none=>exact⟨by decide,by decide⟩|some v=>exact Ff S X e
 unfold Sd.du;split
 .exact⟨⟨p,(nL ..).trans h.bl,Nq h.bw w,h.mw⟩,rfl⟩
 .exact⟨⟨p,h.bl,h.bw,Nq h.mw w⟩,nL ..⟩
 .exact⟨⟨p,h.bl,h.bw,h.mw⟩,rfl⟩
theorem MI.take(X:kI c)(I:MI c [] nG e m)(es:m.slots=s::rest)(hf:s.fi.isSome=aB)(hl:m.cB.length<900) :
  vr c m { s with of:=aA m.nw }/\MI c [] nG e (m.take c.room { s with of:=aA m.nw } rest)/\(m.take c.room { s with of:=aA m.nw } rest).nw=m.nw/\(m.take c.room { s with of:=aA m.nw } rest).bG=m.bG/\(m.take c.room { s with of:=aA m.nw } rest).cB.length=m.cB.length+1/\((m.take c.room { s with of:=aA m.nw } rest).brk=m.brk\/(m.take c.room { s with of:=aA m.nw } rest).slots=[]):=by
 have hm:s∈m.slots:=es▸fS;have S:=I.sl s hm;obtain⟨C,D⟩:=Option.isSome_iff_exists.mp hf;obtain⟨_,E,l,_⟩:=S.f1 C D;have st:s.st.isSome=aB:=by rw[l];rfl
 have ww:=Nt (S.s1 E l).2.2;have so:=I.so;rw[es]at so;have b:=List.pairwise_cons.mp so;have r:(∀x y d,s.row ≠ .store x y d)->∀p∈m.kp,p.1≠s.tk:=λh p b w=>by rw[I.kp]at b;obtain⟨z,hz,o⟩:=List.mem_filterMap.mp b;rw[I.so.eq hm hz ((wL o).symm.trans w),qj h]at o;cases o
 have l1:=I.l1;have l2:=I.l2;have inr:∀x y d,s.row = .load x y d->s.ft c.room=aD->∃e,(s.tk,e)∈m.bg:=λx y d a f=>(S.ld x y d a st (by
  unfold Sl.ft at f;rw[a]at f;have f:(if 0<=cell s.wi 0+d/\cell s.wi 0+d<c.room then aD else aA (AV.tup [.str "place",.int (cell s.wi 0+d)]))=aD:=f;by_cases q:0<=cell s.wi 0+d/\cell s.wi 0+d<c.room
  .exact q
  .rw[if_neg q]at f;cases f)).2
 have ins:∀x y d,s.row = .store x y d->s.ft c.room=aD->s.d2 c.room=aA (cell s.wi 1+d)/\0<=cell s.wi 1+d/\cell s.wi 1+d<c.room:=λx y d a f=>by
  refine⟨by unfold Sl.d2;rw[f,a];rfl,?_⟩;unfold Sl.ft at f;rw[a]at f;have f:(if 0<=cell s.wi 1+d/\cell s.wi 1+d<c.room then aD else aA (AV.tup [.str "place",.int (cell s.wi 1+d)]))=aD:=f;by_cases q:0<=cell s.wi 1+d/\cell s.wi 1+d<c.room
  .exact q
  .rw[if_neg q]at f;cases f
 have gn:∀u,s.src=aA u->(aW m.dQ u).isSome=aB:=λu A=>(S.sr u A).resolve_left λ⟨j,z,hz,g,_⟩=>by
  rw[es]at hz;rcases List.mem_cons.mp hz with rfl|hz
  .exact ay j g.symm
  .have L:s.tk<z.tk:=b.1 _ (List.mem_map.mpr ⟨z,hz,rfl⟩);omega
 refine⟨⟨hf,ww,(aR ..).trans S.wl,λx F=>?_,λp j g=>?_,I.sd.bl,?_,λf=>⟨λx y d a=>⟨⟨_,(ins x y d a f).1⟩,?_,by omega,by omega⟩,λx y d a=>⟨wO (r λ_ _ _ h=>by rw[show s.row=_ from a]at h;cases h),?_⟩⟩,λf u A=>?_,hl⟩,?_⟩
 .obtain⟨f,fx⟩:=Zh F;exact⟨Xs (S.ok X) fx,wx (s:=s) S st f (.inl (by rw[show aM.fx s.row=_ from fx];rfl))⟩
 .have f:s.ft c.room=aD:=by
   cases f:s.ft c.room with
   |none=>rfl|some v=>have g:s.d2 c.room=aA p:=g;unfold Sl.d2 at g;rw[f]at g;cases g
  have j:s.d1 c.room=aD:=j;have g:s.d2 c.room=aA p:=g;have a:∃x y d,s.row = .store x y d:=by
   unfold Sl.d1 at j;unfold Sl.d2 at g;rw[f]at j g;revert j g
   cases s.row with
   |store x y d=>exact λ_ _=>⟨x,y,d,rfl⟩|load=>exact λh _=>nomatch h|_=>exact nofun
  obtain⟨x,y,d,a⟩:=a;obtain⟨G,H⟩:=ins x y d a f;rw[G]at g;cases g;rw[<- I.rm];exact⟨H,wx (s:=s) S st f (.inr (by rw[qP a];rfl))⟩
 .have:=X.rm;have:=I.rm;omega
 .have:=(yr (i:=0) (s:=s) I.so (by rw[es];rfl) (qP a)<|qP a).2;rw[<- I.kp]at this;exact⟨_,this⟩
 .obtain⟨e,he⟩:=inr x y d a f;exact⟨e,mL I.bn he⟩
 .have:=gn u A;unfold Mo.note;split
  .exact Option.isSome_iff_exists.mp<|Jr this
  .exact Option.isSome_iff_exists.mp this
  .exact Option.isSome_iff_exists.mp this
 unfold Mo.take Mo.Ar;cases f:s.ft c.room with
 |some v=>
  rw[show Sl.ft c.room { s with of:=aA m.nw }=aA v from f];have J:=I.cut (t:=s.tk);unfold Mo.cut at J;rw[es,gC,decide_eq_false (xF _)]at J;have k:∀x:AV,m.cB.length<=(m.cB++[x]).length:=λx=>by rw[dC];exact iJ _
  exact⟨⟨J.so,J.sl,J.sz,J.wn,J.w1,J.w2,J.w3,J.tn,J.td,J.kp,J.bn,J.b1,J.fl,J.sd,J.rm,J.st,dR J.l1 (k _),dR J.l2 (k _),J.ah,J.t0,J.nb,J.nf,J.ff,J.na⟩,rfl,rfl,dC,.inr (List.filter_eq_nil_iff.mpr λz hz h=>xF _ (vD (of_decide_eq_true h)<|b.1 _<|List.mem_map.mpr ⟨z,hz,rfl⟩))⟩
 |none=>
  rw[show Sl.ft c.room { s with of:=aA m.nw }=aD from f];obtain⟨B,K⟩:=SI S X st f I.sd;have rm:=I.rm.trans (congrArg _ K.symm);have kp:=I.kp;rw[es,mD]at kp;have k:∀{x:AV}{n:Nat},n<=m.cB.length->n<=(m.cB++[x]).length:=λh=>by rw[dC];exact JZ h
  have ne:∀{z},z∈rest->z.tk≠s.tk:=λhz=>Bq (b.1 _<|List.mem_map.mpr ⟨_,hz,rfl⟩);dsimp only;unfold Mo.note;split
  .rename_i x y d a;have a:s.row = .store x y d:=a;rw[qP a]at kp;refine⟨I.off es hf ⟨hf,f⟩ ?_ I.bn (λp b=>⟨b,λh=>by rw[a]at h;cases h⟩) (λp b _=>b) (λu=>Jr) (λ_=>by rw[Hz,if_pos rfl];rfl) (λp b=>?_) ?_ ?_ B rm,rfl,rfl,dC,.inl rfl⟩
   .show mX m.kp s.tk=_;rw[kp];unfold mX;rw[gC,decide_eq_false λh=>h rfl];refine List.filter_eq_self.mpr λp b=>decide_eq_true ?_;obtain⟨z,hz,o⟩:=List.mem_filterMap.mp b;rw[wL o];exact ne hz
   .rcases F1 b with h|h
    .exact Jr<|I.st p h
    .rw[h,Hz];exact(if_pos rfl).symm▸rfl
   .rw[dC];exact dR CJ<|KH l1
   .rw[dC];exact dR CJ<|KH l2
  .rename_i x y d a;rw[qj λ_ _ _ h=>by rw[a]at h;cases h]at kp;exact⟨I.off es hf ⟨hf,f⟩ kp (nA I.bn) (λp b=>⟨(yx.mp b).1,λ_=>(yx.mp b).2⟩) (λp b h=>yx.mpr ⟨b,h⟩) (λ_=>id) (λh=>by rw[qj λ_ _ _ h=>by rw[a]at h;cases h]at h;cases h) I.st (k l1) (k l2) B rm,rfl,rfl,dC,.inl rfl⟩
  .rename_i j g;have j:∀x y d,s.row ≠ .store x y d:=j;rw[qj j]at kp;exact⟨I.off es hf ⟨hf,f⟩ kp I.bn (λp b=>⟨b,λh=>by revert h g;cases s.row with|load x y d=>exact λh _=>absurd rfl (h x y d)|_=>exact λ_ h=>nomatch h⟩) (λp b _=>b) (λ_=>id) (λh=>by rw[qj j]at h;cases h) I.st (k l1) (k l2) B rm,rfl,rfl,dC,.inl rfl⟩
end
section
variable {e' t:Int}{sd:Sd}
theorem MI.skip(I:MI c (t::ts) nG e m)(h:m.slot t=aD):MI c ts nG e m:=by
 have ne:∀s∈m.slots,s.tk≠t:=λs d w=>by unfold Mo.slot at h;rw[<- w,uV d I.so]at h;cases h
 exact { I with w2:=λs d a b=>(I.w2 s d a b).imp (λh=>(List.mem_cons.mp h).resolve_left (ne s d)) id,tn:=(List.nodup_cons.mp I.tn).2,td:=λs d h=>I.td s d (iI _ h) }
theorem MI.Jj(I:MI c [] nG m.nw m):MI c [] nG m.nw { m with nw:=m.nw+1 }:=⟨I.so,I.sl,I.sz,I.wn,I.w1,I.w2,I.w3,I.tn,(λ_ _ h=>nomatch h),I.kp,I.bn,I.b1,I.fl,I.sd,I.rm,I.st,I.l1,I.l2,I.ah,I.t0,I.nb,I.nf,I.ff,I.na⟩
theorem MI.emp(I:MI c [] nG e m)(h:m.slots=[]):MI c [] nG e' m:=by
 have no:∀{p:Sl->Prop},¬ ∃s∈m.slots,p s:=λ⟨s,hs,_⟩=>by rw[h]at hs;cases hs
 exact { I with sl:=λs hs=>(no (p:=λ_=>True) ⟨s,hs,trivial⟩).elim,w1:=λp hp=>(no (I.w1 p hp).2).elim,w2:=I.w2,td:=I.td,nb:=I.nb,nf:=I.nf,ff:=I.ff,na:=I.na }
theorem F2(X:kI c)(s0:0<=c.sz)(ok:sd.ok)(rm:c.room=sd.mem.length):MI c [] nG 0 (gk sd):=by
 have w3:∀g,0<=kN c g:=λg=>by
  unfold kN;rw[vF];cases h:c.tb[g.toNat]? with
  |none=>exact(by decide:(0:Int)<=1)|some p=>have:=(X.tb.2 p<|bM h).1;show 0<=p.1;omega
 exact⟨.nil,(λ_ h=>nomatch h),s0,.nil,(λ_ h=>nomatch h),(λ_ h=>nomatch h),w3,.nil,(λ_ h=>nomatch h),rfl,.nil,(λ_ h=>nomatch h),λx=>⟨(λ_ h=>nomatch h),jH _⟩,ok,rm,(λ_ h=>nomatch h),aV _,aV _,ok.pc,jH _,(λ_ _ _ _ h=>nomatch h),(λ_ h=>nomatch h),(λ_ _ h=>nomatch h),(λ_ _ _ h=>nomatch h)⟩
def Mo.sM(m:Mo)(p w:Int):Mo:={ m with sd:=⟨m.sd.pc,m.sd.bx,m.sd.mem.set p.toNat w⟩,gR:=mX m.gR p }
def Mo.lI(m:Mo)(p w:Int):Mo:=match m.slots with
 |[]=>{ m.sM p w with ah:=m.sd.pc }
 |s::_=>{ (m.sM p w).cut s.tk with ah:=m.sd.pc }
theorem MI.lI{p w:Int}(I:MI c [] nG e m)(hw:wd w):MI c [] nG e (m.lI p w)/\(m.lI p w).slots=[]/\(m.lI p w).ct=m.ct:=by
 have J:MI c [] nG e (m.sM p w):=⟨I.so,I.sl,I.sz,I.wn,I.w1,I.w2,I.w3,I.tn,I.td,I.kp,I.bn,I.b1,I.fl,⟨I.sd.pc,I.sd.bl,I.sd.bw,Nq I.sd.mw hw⟩,by show _=((m.sd.mem.set p.toNat w).length:Int);rw[nL];exact I.rm,λq a=>I.st q (yx.mp a).1,dR (pF ..) I.l1,I.l2,I.ah,I.t0,I.nb,I.nf,I.ff,I.na⟩;unfold Mo.lI;split
 .exact⟨J.tJ I.sd.pc,‹_›,rfl⟩
 .rename_i s rest b;refine⟨J.cut.tJ I.sd.pc,?_,rfl⟩;show m.slots.filter _=[];have so:=I.so;rw[b]at so ⊢;refine List.filter_eq_nil_iff.mpr λz hz h=>?_;have h:=of_decide_eq_true h;rcases List.mem_cons.mp hz with rfl|hz
  .exact xF _ h
  .exact xF _<|vD h<|(List.pairwise_cons.mp so).1 _ (List.mem_map.mpr ⟨z,hz,rfl⟩)
structure TI(c:Cf)(n:Int)(m:Mo):Prop where
 I:MI c [] nG n m
 nw:m.nw=n
 tk:m.bG<=8*n
 sl:(m.cB.length:Int)<=8*n
 bk:m.brk=aB->m.slots=[]
theorem TI.lI{n p w:Int}(T:TI c n m)(hw:wd w):TI c n (m.lI p w)/\(m.lI p w).slots=[]:=by obtain⟨a,b,ct⟩:=T.I.lI hw;have d:(m.lI p w).nw=m.nw:=congrArg (·.1) ct;have e:(m.lI p w).bG=m.bG:=congrArg (·.2.1) ct;have f:(m.lI p w).cB=m.cB:=congrArg (·.2.2.1) ct;exact⟨⟨a,d.trans T.nw,e▸T.tk,f▸T.sl,λ_=>b⟩,b⟩
end
section
variable {k:Nat}{g:Int}
def lM(T g:Int)(s:Sl):Bool:=decide (s.fi=aD/\s.row.cA=g/\∃τ,s.st=aA τ/\τ<T)
def xE(T g:Int)(s:Sl):Bool:=decide (s.st=aA T/\s.row.cA=g)
def lR(T:Int)(ps:WX)(k:Nat)(g:Int):Int:=(ps.filter<|lM T g).length+((ps.take k).filter (xE T g)).length
def rR(room:Int)(ps:WX)(s:Sl):Prop:=∀u,aA u∈s.aX->∀z∈ps,z.tk=u->z.dn room
structure Dp(c:Cf)(T:Int)(ps:WX)(k:Nat)(s:Sl):Prop where
 a:s.st=aA T->lR T ps k s.row.cA<kN c s.row.cA/\rR c.room ps s
 b:s.st=aD->mK s.row=aB\/¬(lR T ps k s.row.cA<kN c s.row.cA/\rR c.room ps s)
def Gd(c:Cf)(T:Int)(ps:WX):Prop:=∀k s,ps[k]?=aA s->s.put<T->Dp c T ps k s
theorem d0{p:Sl->Bool}(hs:ps[i]?=aA s)(h1:p s=aG)(h2:p s'=aG):((ps.set i s').filter p)=ps.filter p:=by
 induction ps generalizing i with
 |nil=>rfl|cons z ps a=>
  cases i with
  |zero=>cases hs;rw[Cg,gC,gC,h1,h2];rfl|succ i=>rw[Ce,gC,gC,a hs]
theorem UJ(hs:ps[i]?=aA s)(hk:k<=i)(h1:lM T g s=aG)(h2:lM T g s'=aG):lR T (ps.set i s') k g=lR T ps k g:=by unfold lR;rw[d0 hs h1 h2,List.take_set_of_le hk]
theorem MI.cA(I:MI c [] nG T m)(hT:m.nw=T)(X:kI c)(hj:∀k s,j<=k->m.slots[k]?=aA s->s.st≠aA T):lT m.wk g=lR T m.slots j g:=by
 have e1:lT m.wk g=(m.slots.filter λs=>decide (s.st.isSome=aB/\s.fi=aD/\s.row.cA=g)).length:=by
  refine congrArg _<|Nat.le_antisymm ?_ ?_
  .have:=Bs (l₂:=(m.slots.filter λs=>decide (s.st.isSome=aB/\s.fi=aD/\s.row.cA=g)).map (·.tk)) (nA I.wn) λx hx=>by obtain⟨p,hp,rfl⟩:=List.mem_map.mp hx;obtain⟨hp,hg⟩:=List.mem_filter.mp hp;obtain⟨_,z,hz,a1,a2,a3,τ,a4,_⟩:=I.w1 p hp;exact List.mem_map.mpr ⟨z,List.mem_filter.mpr ⟨hz,decide_eq_true ⟨by rw[a4];rfl,a2,a3.symm.trans (of_decide_eq_true hg)⟩⟩,a1⟩
   rwa [aR,aR]at this
  .have:=Bs (l₁:=(m.slots.filter λs=>decide (s.st.isSome=aB/\s.fi=aD/\s.row.cA=g)).map (·.tk)) (vE (List.filter_sublist.map _)<|I.so.imp ay) λx hx=>by obtain⟨s,hs,rfl⟩:=List.mem_map.mp hx;obtain⟨hs,h⟩:=List.mem_filter.mp hs;obtain⟨h1,h2,h3⟩:=of_decide_eq_true h;obtain⟨p,hp,e⟩:=(I.w2 s hs h1 h2).resolve_left nofun;obtain⟨_,z,hz,a1,_,a3,_⟩:=I.w1 p hp;rw[I.so.eq hs hz (a1.trans e)]at a3;exact List.mem_map.mpr ⟨p,List.mem_filter.mpr ⟨hp,decide_eq_true (a3.trans h3)⟩,e⟩
   rwa [aR,aR]at this
 have e2:∀l:WX,(∀s∈l,s∈m.slots)->(l.filter λs=>decide (s.st.isSome=aB/\s.fi=aD/\s.row.cA=g)).length=(l.filter<|lM T g).length+(l.filter<|xE T g).length:=λl=>by
  induction l with
  |nil=>exact λ_=>rfl|cons s l ih=>
   intro hl;have ih:=ih λz hz=>hl z (iI _ hz);have S:=I.sl s (hl s fS);have L:=(GH X (r:=s.row)).2;simp only[gC];cases es:s.st with
   |none=>
    have b1:lM T g s=aG:=decide_eq_false λh=>by obtain⟨_,_,τ,h,_⟩:=h;rw[es]at h;cases h
    have b2:xE T g s=aG:=decide_eq_false λh=>by rw[es]at h;cases h.1
    rw[b1,b2];exact ih
   |some τ=>
    obtain⟨_,s2,_⟩:=S.s1 τ es;by_cases c1:s.row.cA=g
    .by_cases c2:τ=T
     .have fi:s.fi=aD:=by
       cases f:s.fi with
       |none=>rfl|some φ=>obtain⟨h1,τ',h2,h3⟩:=S.f1 φ f;rw[es]at h2;cases h2;omega
      have b1:lM T g s=aG:=decide_eq_false λh=>by obtain⟨_,_,τ',h,h'⟩:=h;rw[es]at h;cases h;omega
      have b2:xE T g s=aB:=decide_eq_true ⟨by rw[es,c2],c1⟩;rw[b1,b2,decide_eq_true ⟨rfl,fi,c1⟩];simp only[if_true,eK,jq,if_false];omega
     .have b2:xE T g s=aG:=decide_eq_false λh=>by rw[es]at h;exact c2 (dJ h.1)
      rw[b2];by_cases c3:s.fi=aD
      .have b1:lM T g s=aB:=decide_eq_true ⟨c3,c1,τ,es,by omega⟩;rw[b1,decide_eq_true ⟨rfl,c3,c1⟩];simp only[if_true,eK,jq,if_false];omega
      .have b1:lM T g s=aG:=decide_eq_false λh=>c3 h.1;rw[b1,decide_eq_false λh=>c3 h.2.1];exact ih
    .have b1:lM T g s=aG:=decide_eq_false λh=>c1 h.2.1;have b2:xE T g s=aG:=decide_eq_false λh=>c1 h.2;rw[b1,b2,decide_eq_false λh=>c1 h.2.2];exact ih
 have e3:((m.slots.drop j).filter (xE T g))=[]:=List.filter_eq_nil_iff.mpr λs hs h=>by obtain⟨i,hi⟩:=xI hs;rw[List.getElem?_drop]at hi;exact hj (j+i) s (rM ..) hi (of_decide_eq_true h).1
 rw[e1,e2 m.slots λ_=>id];refine congrArg _<|congrArg _ ?_;conv=>lhs;rw[<- List.take_append_drop j m.slots,sX,e3,pE]
end
section
variable {k:Nat}{g:Int}
theorem k9(hp:mV ps)(hs:ps[j]?=aA s)(et:s'.tk=s.tk)(f1:s.fi=aD)(f2:s'.fi=aD):rR room (ps.set j s') z↔rR room ps z:=by
 have nd:∀{y:Sl},y.fi=aD->¬y.dn room:=λe h=>by have:=h.1;rw[e]at this;cases this
 refine⟨λh u a y b e=>?_,λh u a y b e=>?_⟩
 .by_cases w:y.tk=s.tk
  .exact absurd (h u a s' (ab hs)<|et.trans<|w.symm.trans e)<|nd f2
  .exact h u a y (Ag hs b w) e
 .rcases EV hp hs b with rfl|⟨b,_⟩
  .exact absurd (h u a s (bM hs)<|et.symm.trans e)<|nd f1
  .exact h u a y b e
theorem C7(h:m.nY c.room s=aD):mK s.row=aB:=by
 unfold Mo.nY at h;split at h
 .rw[‹s.row=_›];rfl
 .cases h
structure Tr(c:Cf)(T:Int)(j:Nat)(ps:WX):Prop where
 l:∀k s,j<=k->ps[k]?=aA s->s.st≠aA T
 g:∀k s,k<j->ps[k]?=aA s->s.put<T->Dp c T ps k s
theorem Tr.same(t:Tr c T j ps)(h:∀s,ps[j]?=aA s->s.put<T->Dp c T ps j s):Tr c T (j+1) ps:=⟨λk s d=>t.l k s (by omega),λk s d a b=>by
 by_cases w:k=j
 .subst w;exact h s a b
 .exact t.g k s (by omega) a b⟩
theorem MI.tr0(I:MI c [] nG T m)(t:Tr c T j m.slots)(hs:m.slots[j]?=aA s)(hn:¬(s.put<T/\s.st=aD/\s.ws.all xN=aB)):Tr c T (j+1) m.slots:=by
 refine t.same λz a b=>?_;rw[hs]at a;cases a;refine⟨λh=>absurd h (t.l j s (aV _) hs),λh=>.inr λ⟨_,d⟩=>?_⟩;have:∃o∈s.ws,o.isSome=aG:=by have:=λw=>hn ⟨b,h,w⟩;simpa
 obtain⟨o,f,e⟩:=this;obtain⟨l,hl⟩:=xI f;obtain⟨y,g,i,k⟩:=(I.na j s l hs (by rw[hl];cases o with|none=>rfl|some v=>cases e)).resolve_right λ⟨_,h,_⟩=>h;exact k<|d _ (bM i) y g rfl
theorem MI.tr1(X:kI c)(I:MI c [] nG T m)(hT:m.nw=T)(t:Tr c T j m.slots)(hs:m.slots[j]?=aA s)(hp:s.put<T)(st:s.st=aD)(hw:s.ws.all xN=aB):Tr c T (j+1) (m.start c (kN c s.row.cA,mP c.tb s.row) j s).slots:=by
 have fi:=((I.sl s<|bM hs).s0 st).1;have p:=λg=>I.cA (g:=g) hT X t.l;have gv:rR c.room m.slots s:=λu i z a e=>by
  obtain⟨l,hl⟩:=xI i;by_cases w:z.dn c.room
  .exact w
  .have:=I.nb j s l u hs hl (.inl ⟨z,a,e,w⟩);exact nomatch List.all_eq_true.mp hw aD (bM this)
 have ns:∀{z},m.slots[j]?=aA z->z=s:=λh=>by rw[hs]at h;exact(dJ h).symm
 unfold Mo.start;by_cases f:0<kN c s.row.cA-lT m.wk s.row.cA
 .rw[if_pos f];rw[p]at f;cases e:m.nY c.room s with
  |none=>exact t.same λz a _=>by rw[ns a];exact⟨λh=>(by rw[st]at h;cases h),λ_=>.inl (C7 e)⟩
  |some l=>
   obtain⟨l1,l2,E,r,v,x⟩:=@Hv s l;obtain⟨b,d⟩:∃b:Sl,b={ s.uC l with st:=aA m.nw }:=⟨_,rfl⟩;have y:b.tk=s.tk:=d▸l2;have q:b.st=aA T:=by rw[d,hT]
   have A:b.fi=aD:=by rw[d];exact x.trans fi
   have B:b.row=s.row:=d▸v;have C:b.aX=s.aX:=d▸r;show Tr c T (j+1) (m.slots.set j _);rw[<- d];have b1:∀g,lM T g s=aG:=λg=>decide_eq_false λh=>by obtain⟨_,_,D,h,_⟩:=h;rw[st]at h;cases h
   have b2:∀g,lM T g b=aG:=λg=>decide_eq_false λh=>by obtain⟨_,_,D,h,F⟩:=h;rw[q]at h;cases h;omega
   have cn:∀{k g},k<=j->lR T (m.slots.set j b) k g=lR T m.slots k g:=λn=>UJ hs n (b1 _) (b2 _);have gs:∀{z},rR c.room (m.slots.set j b) z↔rR c.room m.slots z:=k9 I.so hs y fi A;refine⟨λk z n a=>?_,λk z n a hp=>?_⟩
   .rw[jQ (by omega)]at a;exact t.l k z (by omega) a
   .rcases Af hs a with⟨rfl,rfl⟩|⟨ne,a⟩
    .refine⟨λ_=>?_,λh=>by rw[q]at h;cases h⟩;rw[cn (aV _),B,gs];exact⟨by omega,λu i=>gv u (C▸i)⟩
    .have o:=t.g k z (by omega) a hp;refine⟨λh=>?_,λh=>?_⟩
     .rw[cn (by omega),gs];exact o.a h
     .rw[cn (by omega),gs];exact o.b h
 .rw[if_neg f];rw[p]at f;exact t.same λz a _=>by rw[ns a];exact⟨λh=>(by rw[st]at h;cases h),λ_=>.inr λh=>by have:=h.1;omega⟩
theorem Gd.app(G:Gd c T ps)(hp:s.put=T)(st:s.st=aD)(hn:∀z∈ps,∀u,aA u∈z.aX->u≠s.tk):Gd c T (ps++[s]):=λk z d a=>by
 by_cases h:k<ps.length
 .rw[sY h]at d;have o:=G k z d a;have cn:∀g,lR T (ps++[s]) k g=lR T ps k g:=λg=>by unfold lR;rw[aQz (mR h),sX,gC,show lM T g s=aG from decide_eq_false λh=>by obtain⟨_,_,i,h,_⟩:=h;rw[st]at h;cases h];simp
  have gs:rR c.room (ps++[s]) z↔rR c.room ps z:=⟨λh u f y b e=>h u f y (xJ _ b) e,λh u f y b e=>(List.mem_append.mp b).elim (λb=>h u f y b e) λb=>absurd (by rw[<- e,List.mem_singleton.mp b]) (hn z (bM d) u f)⟩;refine⟨λh=>?_,λh=>?_⟩
  .rw[cn,gs];exact o.a h
  .rw[cn,gs];exact o.b h
 .rw[Bx (Po h)]at d;rw[List.mem_singleton.mp (bM d),hp]at a;exact absurd a<|xF _
end
section
variable {k:Nat}{g:Gh}
theorem aNh{y z:AV}{k:aN}(e:h.ob n=aA (.aP kvs))(hk:fN y=aA k)(q1:∀v,bR kvs k=aA v->V1 v (h.put n<|.aP<|tO kvs k))(q2:bR kvs k=aD->V1 z h):We (Dm.g .pop (.ref n) [y,z]) h V1:=by
 show We (yY (.ref n) [y,z]) h V1;unfold We yY;simp only[tN e,hk];cases l:bR kvs k with
 |none=>exact q2 l|some v=>exact q1 v l
theorem aJ.o0(r:aJ c g m h):h.ob c.b=aA (.ins 21 [("window",.ref (c.b+1)),("ledger",.ref (c.b+11))]):=r.at 0
theorem Z5{sd:Sd}(h0:0<=p)(h1:p<sd.mem.length)(hl:sd.mem.length<=80)(q:R (Sd.av ⟨sd.pc,sd.bx,sd.mem.set p.toNat w⟩) h):WC (run pg (k+2) 23 [sd.av,.int p,.int w]) h R:=by refine aS rfl rfl<|Yz ?_;rw[decide_eq_true ⟨h0,h1⟩];exact Ln h0 h1 hl q
theorem E3(r:aJ c g m h)(h0:0<=p)(h1:p<m.sd.mem.length)(hl:m.sd.mem.length<=80)(q:∀v h',aJ c g (m.sM p w) h'->h.nx<=h'.nx->R v h'):WC (run pg (k+3) 117 [.ref (c.b+11),.int p,.int w]) h R:=by
 refine aS rfl rfl<|aC.of (r.at 11)<|Z5 h0 h1 hl<|aC.of rfl<|aC.of rfl<|aC.of (r.at 11) ?_;have a:=r.Hu (sd':=⟨m.sd.pc,m.sd.bx,m.sd.mem.set p.toNat w⟩) (b':=m.brk);refine aC.of (a.at 11)<|aE.t (B:=False) rfl<|aC.of rfl<|aE.t (qL<|a.at 13)<|WC.of<|aNh (a.at 13) rfl (λv e=>?_) λe=>?_
 .rw[xk];exact q _ _ (a.FN)<|aV _
 .rw[iA]at e;have e:aW m.gR p=aD:=by cases l:aW m.gR p with|none=>rfl|some v=>rw[l]at e;cases e
  refine q _ _ ?_<|aV _;unfold Mo.sM;rw[show mX m.gR p=m.gR from List.filter_eq_self.mpr λz b=>decide_eq_true λw=>by unfold aW at e;rw[KO,List.find?_eq_none]at e;exact e z b<|decide_eq_true w]
  exact a
theorem Z4(r:aJ c g m h)(hh:m.dX c = .aH)(h0:0<=p)(h1:p<m.sd.mem.length)(hl:m.sd.mem.length<=80)(q:∀v g' h',aJ c g' (m.lI p w) h'->h.nx<=h'.nx->R v h'):WC (run pg (k+4) 127 [.ref c.b,.int p,.int w]) h R:=by
 refine aS rfl rfl<|aC.of r.o0<|EH r hh<|aC.of r.o0<|aC.of (r.at 11)<|E3 r h0 h1 hl λv h1 b u=>aC.of b.o0 (aC.of (b.at 1)<|sj b ?_);have fin:∀{g2 f j},aJ c g2 j f->j.sd=(m.sM p w).sd->h.nx<=f.nx->{ j with ah:=m.sd.pc }=m.lI p w->_:=λ{g2 f j} i d n e=>(show dU (run pg<|k+3) (bK<|bK<|bK<|bK Sz) [aA (.ref c.b),aA (.int p),aA (.int w),aA (.ref<|c.b+1)] f (λ_ h1=>R .aH h1) R (λ_ _=>False) λ_ _=>False from by
  have o:f.ob (c.b+11)=aA (.ins 20<|{ j with sd:=⟨m.sd.pc,m.sd.bx,m.sd.mem.set p.toNat w⟩ }.lf c):=by rw[i.at 11];unfold Mo.lf;rw[d];rfl
  refine aC.of i.o0<|aC.of o<|aC.of (i.at 1) ?_;have l:=i.tJ (a:=m.sd.pc);exact aC.of l.o0<|aC.of (l.at 11)<|WC.of<|kR (cH<|l.at 12)<|q _ _ _ (by rw[<- e];exact l) n)
 cases d:m.slots with
 |nil=>
  have t:¬((m.sM p w).slots.length:Int) > 0:=by show¬((m.slots.length:Int) > 0);rw[d];decide
  exact aE.df t<|fin b rfl u (by unfold Mo.lI;rw[d])
 |cons s rest=>
  have t:((m.sM p w).slots.length:Int) > 0:=by show(m.slots.length:Int) > 0;rw[d,eK];omega
  have hm:s∈(m.sM p w).slots:=by show s∈m.slots;rw[d];exact fS
  have x:cJ ((m.sM p w).slots.map λs=>AV.ref s.a) 0=aA (.ref s.a):=by show cJ (m.slots.map _) 0=_;rw[d];exact gF
  refine aE.dt t<|aC.of (b.at 1)<|aC.of (b.at 1)<|WC.of<|eU (cH b.jZ.1) x<|aC.of (b.cK hm)<|Ap b λv g2 f i n _=>fin i rfl (dR u n) (by unfold Mo.lI;rw[d])
end
section
variable {k:Nat}{g:Gh}{n:Int}
structure Sg(c:Cf)(n:Int)(s:Sl):Prop where
 p0:0<=s.pc
 hr:c.rs[s.pc.toNat]?=aA s.row
 nl:s.aX.length<=2
 ti:∃τ φ,s.st=aA τ/\s.fi=aA φ/\s.put<τ/\φ=τ+mP c.tb s.row/\φ<n
 of:s.of=aA n
theorem t6(h:m.dX c ≠ .aH)(b:m.brk=aB->m.slots=[]):m.slots=[]:=by
 unfold Mo.dX at h;split at h
 .exact b ‹_›
 .split at h
  .exact(‹_/\_›:_/\_).1
  .exact absurd rfl h
theorem I0(X:kI c)(T:TI c n m)(n0:0<=n)(hn:n<100)(r:aJ c g m h)(hh:m.dX c = .aH)
  (q:∀(ss:WX) a g' m' h',aJ c g' m' h'->TI c (n+1) m'->(∀s∈ss,Sg c (n+1) s)->ss.length<=8->h'.ob a=aA (.lst aB<|ss.map λs=>(s.lt c.room).gB)->a<h'.nx->Gd c (n+1) m'.slots->R (.ref a) h'):WC (run pg (k+10) 119 [.ref c.b]) h R:=by
 obtain⟨I,rfl,tk,sl,bk⟩:=T;have w8:=X.w8;have w0:=X.w0;refine aMb (k:=k) r hh λh1 r1 _=>?_;refine aLk r1 (by omega) w8 (λl m2=>∃ss:WX,l=ss.map (λs=>(s.lt c.room).gB)/\(∀s∈ss,Sg c (m.nw+1) s)/\MI c [] nG m.nw m2/\m2.nw=m.nw+1/\m2.bG=m.bG/\m2.cB.length=m.cB.length+l.length/\(m2.brk=aB->m2.slots=[])/\(l.length:Int)<=c.wd) ⟨[],rfl,(λ_ h=>nomatch h),I.Jj,rfl,rfl,rfl,bk,by show(0:Int)<=_;omega⟩ (λl m2 s rest p hl es hf=>?_) λl m2 a g2 h2 p hc r2 ha ha2 oa kd=>?_
 .obtain⟨ss,rfl,h1,J,e1,e2,e3,h2,_⟩:=p;rw[aR]at hl e3;obtain⟨T1,J2,f1,f2,f3,f4⟩:=J.take X es hf (by omega);have S:=J.sl s (by rw[es];exact fS);obtain⟨φ,ef⟩:=Option.isSome_iff_exists.mp hf;obtain⟨a1,τ,a2,a3⟩:=S.f1 φ ef;refine⟨T1,ss++[{ s with of:=aA m2.nw }],by rw[gJ];rfl,λz hz=>?_,J2,f1.trans e1,f2.trans e2,by rw[f3,e3,dC,aR];rfl,λhb=>f4.elim (λw=>?_) id,by rw[dC,aR];exact hl⟩
  .rcases List.mem_append.mp hz with hz|hz
   .exact h1 z hz
   .rw[List.mem_singleton.mp hz];exact⟨S.p0,S.hr,by rw[S.nl];exact zQ,⟨τ,φ,a2,ef,(S.s1 τ a2).1,a3,by omega⟩,by rw[e1]⟩
  .have:=h2 (w▸hb);rw[es]at this;cases this
 obtain⟨ss,rfl,h1,J,e1,e2,e3,h3,l8⟩:=p;rw[aR]at e3 l8;have sl8:ss.length<=8:=by omega
 refine⟨g2,m2,r2,λhl=>?_,λhl=>?_⟩
 .have es:=t6 hl h3;exact q ss a g2 m2 h2 r2 ⟨J.emp es,e1,by omega,by omega,λ_=>es⟩ h1 sl8 oa ha2 (by rw[es];exact λ_ _ h=>nomatch h)
 have bf:m2.brk=aG:=by
  cases e:m2.brk with
  |false=>rfl|true=>unfold Mo.dX at hl;rw[if_pos e]at hl;cases hl
 have ct:∀m3:Mo,m3.ct=m2.ct->m3.nw=m.nw+1/\m3.bG=m.bG/\m3.cB=m2.cB/\m3.brk=aG:=λm3 e=>⟨(congrArg (·.1) e).trans e1,(congrArg (·.2.1) e).trans e2,congrArg (·.2.2.1) e,(congrArg (·.2.2.2) e).trans bf⟩;refine d8 r2 rfl (λts m3=>(MI c ts nG m3.nw m3/\m3.ct=m2.ct)/\∀s∈m3.slots,s.st≠aA (m.nw+1)) ⟨⟨MI.WA (by rw[e1,Int.add_sub_cancel];exact J),rfl⟩,λs hs e=>by have:=((J.sl s hs).s1 _ e).2.1;omega⟩ (λt ts m3 p=>⟨p.1.1.rm,λh=>⟨⟨p.1.1.skip h,p.1.2⟩,p.2⟩,λi s hs et=>d7 X p.1.1 hs et λm4 a b d=>⟨⟨a,b.trans p.1.2⟩,λs hs e=>by obtain⟨y,hy,e'⟩:=d s hs;exact p.2 y hy<|e'.trans e⟩⟩) λm3 g3 h3 p r3 f3=>⟨⟨g3,m3,r3⟩,?_⟩;refine aJc r3 (λi m4=>(MI c [] nG m4.nw m4/\m4.ct=m2.ct)/\Tr c (m.nw+1) i m4.slots/\m4.slots.length=m3.slots.length) ⟨p.1,⟨λk s _ h=>p.2 s (bM h),λk s h=>absurd h (kb _)⟩,rfl⟩ (λi m4 s p hs=>⟨λa b d=>?_,λhn=>⟨p.1,MI.tr0 (by rw[<- (ct m4 p.1.2).1];exact p.1.1) p.2.1 hs (by rw[<- (ct m4 p.1.2).1];exact hn),p.2.2⟩⟩) λm4 h4 p r4 f4=>⟨⟨g3,m4,r4⟩,?_⟩
 .obtain⟨a1,a2,a3,a4,a5⟩:=p.1.1.start X hs a b d;have sc:=aJh (m:=m4) (c:=c) (i:=i) (s:=s) (t:=(kN c s.row.cA,mP c.tb s.row));have e4:=(ct m4 p.1.2).1;have la:=congrArg JP (FP (c:=c) (t:=(kN c s.row.cA,mP c.tb s.row)) hs);rw[aR,aR]at la;exact⟨_,a1,a2,a3,a4,⟨by rw[show(m4.start c _ i s).nw=m4.nw from congrArg (·.1) sc];exact a5,sc.trans p.1.2⟩,MI.tr1 X (e4▸p.1.1) e4 p.2.1 hs (e4▸a) b d,la.trans p.2.2⟩
 obtain⟨d1,d2,d3,d4⟩:=ct m4 p.1.2;have G4:Gd c (m.nw+1) m4.slots:=λk s hs=>p.2.1.g k s (by have:=(List.getElem?_eq_some_iff.mp hs).1;have:=p.2.2;omega) hs;refine c7 r4 (by omega) w8 (λi m5=>MI c [] nG m5.nw m5/\m5.ct=(m.nw+1,m.bG+i,m2.cB,aG)/\Gd c (m.nw+1) m5.slots) ⟨p.1.1,by unfold Mo.ct;rw[d1,d2,d3,d4];exact congrArg _<|congrArg (·,_) (Oi _).symm,G4⟩ (λi m5 p hi hl ha=>?_) λi m5 g5 h5 p hi r5 f5=>?_
 .have et:m5.bG=m.bG+i:=congrArg (·.2.1) p.2.1;obtain⟨row,a1,a2,a3,a4⟩:=p.1.sA X hl ha (by omega);refine⟨row,a1,a2,a3,λa dr gs=>?_⟩;obtain⟨b1,b2,s,b4,b5,b6,b7⟩:=a4 a dr gs;have b3:(m5.sA c row a dr gs).nw=m5.nw:=congrArg (·.1) b2;have z1:m5.nw=m.nw+1:=congrArg (·.1) p.2.1;refine⟨by rw[b3];exact b1,b2.trans ?_,by rw[b4];exact p.2.2.app (b5.trans z1) b6 λz hz u hu=>by have S:=p.1.sl z hz;have:=S.nm u hu;have:=S.t1;omega⟩;have z2:m5.cB=m2.cB:=congrArg (·.2.2.1) p.2.1;have z3:m5.brk=aG:=congrArg (·.2.2.2) p.2.1;rw[z1,z2,z3,et,II];rfl
 .have z1:m5.nw=m.nw+1:=congrArg (·.1) p.2.1;have z2:m5.cB=m2.cB:=congrArg (·.2.2.1) p.2.1;have z3:m5.brk=aG:=congrArg (·.2.2.2) p.2.1;have z4:m5.bG=m.bG+i:=congrArg (·.2.1) p.2.1;have ob:=((f3.trans f4).trans f5).ob a ha2 kd (dR r1.bx ha);exact q ss a g5 m5 h5 r5 ⟨z1▸p.1,z1,by omega,by rw[z2];omega,λh=>by rw[z3]at h;cases h⟩ h1 sl8 (ob.1.trans oa) (bF ha2 ((f3.trans f4).trans f5).nx) p.2.2
end
section
variable {k:Nat}
theorem aIe{c:Int}(q:∀a b,1<=a->a<=32->1<=b->b<=8->R (.tup [.int a,.int b]) h):WC (run pg (k+2) 48 [.int c]) h R:=by refine aS rfl rfl<|oW (by omega) (by omega) λz f g=>?_;have d:∀a,1<=a->a<=32->dU (run pg<|k+1) (bK<|bK<|bK Tl) [aA (.int c),aA (.int z),aA (.int a),aD] h (λ_ e=>R .aH e) R (λ_ _=>False) λ_ _=>False:=λa a1 a2=>aE.dc (λ_=>q _ _ a1 a2 (by omega) (by omega)) λ_=>q _ _ a1 a2 (by omega) (by omega);exact aE.dc (λ_=>d _ (by omega) (by omega)) λ_=>d _ (by omega) (by omega)
theorem L8{os:WY}(o:h.ob n=aA (.lst aB<|os.map oI))(hl:os.length<1000)(q:R (.bl aB) h):WC (run pg (k+1) 49 [.ref n]) h R:=by
 refine aS rfl rfl<|WB.of<|kD<|kC<|mB o ?_;refine nV (λj a b=>b=h/\∃v1,a=[aA (.ref n),v1]) (by rw[aR,eF];omega) ⟨rfl,_,rfl⟩ (λ_ _ _ y=>y.1▸o) (λj x a b c y=>?_)<|λa b y=>y.1▸q;obtain⟨rfl,v1,rfl⟩:=y;obtain⟨w,_,rfl⟩:=iN c;cases w with
 |none=>exact gX _<|fE _ ⟨rfl,_,rfl⟩|some v=>exact gX _<|fE _ ⟨rfl,_,rfl⟩
structure Sk(size:Int)(s:eP):Prop where
 p0:0<=s.pc
 p1:s.pc<size
 nl:s.aX.length<=2
 dd:s.dd = .aH\/∃b c d e f,s.dd = .tup [.int s.pc,b,c,d,e,f]
def xr:aQ->aQ
 |.cons (.tS _ _ b) _=>b
 |_=>.nil
theorem SY{b:Bool}(e:h.ob n=aA (.lst b xs)):tK h (.ref n)=aA .lst:=by simp only[tK,e]
theorem aIa{size:Int}{ss:List eP}(o:h.ob n=aA (.lst aB<|ss.map eP.gB))(hn:n<h.nx)(hl:ss.length<1000)(hs:∀s∈ss,Sk size s)(q:∀h',Kp h h'->R (.bl aB) h'):WC (run pg (k+2) 50 [.ref n,.int size]) h R:=by
 have big:=jE;refine aS rfl rfl<|aC.of (SY o)<|WB.of<|kD<|kC<|mB o ?_;refine nV (λj σ h'=>Kp h h'/\∃v1,σ=[aA (.ref n),aA (.int size),v1]) (by rw[aR,eF];omega) ⟨Kp.refl,_,rfl⟩ (λ_ _ _ y=>y.1.get hn o) (λj x σ h' hx y=>?_)<|λσ h' y=>q h' y.1;obtain⟨kp,v1,rfl⟩:=y;obtain⟨s,hm,rfl⟩:=iN hx;obtain⟨p0,p1,nl,dd⟩:=hs s (bM hm);obtain⟨tk,pc,row,aX,ch,dr,src,dZ,d,pt,st,fi,of⟩:=s;dsimp only at p0 p1 nl dd;refine gX _<|fE _ ?_;have n1:h'.nx≠h'.nx+1:=by omega
 have n2:h'.nx+2≠h'.nx+3:=by omega
 have fin:∀{d:AV},dU (run pg<|k+1) (bK<|bK<|bK<|xr<|bK Tj) [aA (.ref n),aA (.int size),aA (eP.gB ⟨tk,pc,row,aX,ch,dr,src,dZ,d,pt,st,fi,of⟩)] h' (λσ1 h1=>Kp h h1/\∃v1,σ1=[aA (.ref n),aA (.int size),v1]) R (λσ1 h1=>R (.bl aB) h1) λσ1 h1=>Kp h h1/\∃v1,σ1=[aA (.ref n),aA (.int size),v1]:=λ{d}=>by refine WC.of<|Bc rfl<|WC.of<|Ng ((eA n1).trans bJ) bJ (by rw[aR];show 3+aX.length<=_;omega)<|WC.of<|Bc rfl<|WC.of<|Ng ((eA n2).trans bJ) bJ (by rw[dC,aR];show 3+aX.length+4<=_;omega)<|L8 (os:=[aA tk,aA pc,src]++aX++[aA pt,st,fi,of]) (bJ.trans (by rw[gJ];rfl)) (by rw[dC,dC];show 3+aX.length+4<_;omega) ?_;exact aE.df (c:=pc<0) (by omega)<|aE.df (c:=pc ≥ size) (by omega) ⟨kp.trans Kp.refl.new.new.new.new.new,_,rfl⟩
 rcases dd with rfl|⟨b,c,e,f,g,rfl⟩
 .exact fin
 .exact fin
end
section
variable {k:Nat}
theorem Yq(q:R (.int r.cA) h):WC (run pg (k+1) 51 [r.av]) h R:=by
 refine aS rfl rfl ?_;cases r with
 |way w x y z=>cases w<;>exact q|_=>exact q
theorem Ls(p0:0<=p)(hr:c.rs[p.toNat]?=aA r):cJ (c.rs.map aM.av) p=aA r.av:=by obtain⟨n,rfl⟩:=ax p0;rw[oG]at hr;exact L2.mq (by rw[fR,hr];rfl)
noncomputable abbrev jh:List cW:=["set","go","fault","jump","move","load"]
noncomputable abbrev ji:Fu:=[.int 0,.int 0,.int 0,.int 1,.int 1,.int 1]
theorem aNb:(bR (uG []<|sT jh ji)<|.inr<|aM.kn r).getD (.int 2) = .int r.nw:=by
 cases r with
 |way w x y z=>cases w<;>rfl|_=>rfl
theorem J3{ss:List eP}(o:h.ob n=aA (.lst aB<|ss.map eP.gB))(on:n<h.nx)(or:h.ob nr=aA (.lst aB<|c.rs.map aM.av))(ol:nr<h.nx)(hl:ss.length<1000)(hs:∀s∈ss,0<=s.pc/\c.rs[s.pc.toNat]?=aA s.row/\s.aX.length=s.row.nw)(q:∀h',Kp h h'->R (.bl aB) h'):WC (run pg (k+1) 55 [.ref n,.ref nr]) h R:=by refine aS rfl rfl<|WC.of<|aOz<|nJ _ ⟨bJ,rfl,by decide,?_⟩;have k1:Kp h ((h.new<|.aP []).put h.nx (.aP<|uG []<|sT jh ji)):=Kp.refl.new.put (aV _);have o1:((h.new<|.aP []).put h.nx (.aP<|uG []<|sT jh ji)).ob h.nx=aA (.aP<|uG []<|sT jh ji):=bP;change dU (run pg k) (bK Ti) [aA (.ref n),aA (.ref nr),aA (.ref h.nx),aD] ((h.new<|.aP []).put h.nx (.aP<|uG []<|sT jh ji)) (λ_ h1=>R .aH h1) R (λ_ _=>False) λ_ _=>False;generalize (h.new<|.aP []).put h.nx (.aP<|uG []<|sT jh ji)=h1 at k1 o1 ⊢;refine WB.of<|kD<|kC<|mB (k1.get on o) ?_;refine nV (n:=n) (bb:=aB) (xs:=ss.map eP.gB) (λj Z h'=>h'=h1/\∃v1,Z=[aA (.ref n),aA (.ref nr),aA (.ref h.nx),v1]) (by rw[aR,eF];omega) ⟨rfl,_,rfl⟩ (λ_ _ _ y=>y.1▸k1.get on o) (λj x Z h' hx y=>?_) (λZ h' y=>by rw[y.1];exact q _ k1);obtain⟨rfl,v1,rfl⟩:=y;obtain⟨s,hm,rfl⟩:=iN hx;obtain⟨p0,hr,nl⟩:=hs s (bM hm);obtain⟨tk,pc,row,aX,ch,dr,src,dZ,d,pt,st,fi,of⟩:=s;dsimp only at p0 hr nl;have ra:=Ls p0 hr;rw[mx]at ra;refine gX _<|fE _<|aE.t (B:=False) (qL o1)<|WC.of<|eU (cH<|k1.get ol or) ra<|aC.of gF<|WC.of<|Ni (k:=.inr (aM.kn row)) o1 rfl ?_;rw[aNb];exact aE.nt (c:=((aX.map oI).length:Int)=row.nw) (by rw[aR,nl]) ⟨rfl,_,rfl⟩
theorem aOh{j:Int}{ys:Fu}{Q:gT->AH->Prop}(e1:Z[i]?=aA (aA<|.tup xs))(e2:cJ xs j=aA (.tup ys))(q:Q (kQ ys) h):wE F (.op .ix (.var i)<|.val<|.int j) Z h λx h1=>We (qC x) h1 Q:=
 show aC Z[i]? (λo=>aC o λv=>Ax .ix v (.int j) h λx h1=>We (qC x) h1 Q) from aC.of e1 (aC.of rfl<|aC.of e2<|Nn q)
theorem n8(hp:mV ps)(od:h.ob d=aA (.aP<|dE eP.gB<|ps.map λz=>(z.tk,z.lt c.room)))(nl:s.aX.length<=2)(q:∀b:Bool,(b=aB↔rR c.room ps s)->R (.bl b) h):WC (run pg (k+1) 52 [(s.lt c.room).gB,.ref d]) h R:=by
 have nd:((ps.map λz=>(z.tk,z.lt c.room)).map (·.1)).Nodup:=by rw[hB];exact hp.imp ay
 refine aS rfl rfl<|WB.of<|kD<|kC<|aOh rfl rfl ?_;refine i4 (xs:=s.aX.map oI) (λj Z h'=>h'=h/\(∃v2 v3,Z=[aA (s.lt c.room).gB,aA (.ref d),v2,v3])/\∀k u,k<j->s.aX[k]?=aA (aA u)->∀z∈ps,z.tk=u->z.dn c.room) (by rw[aR,eF];omega) ⟨rfl,⟨_,_,rfl⟩,λk u hk=>absurd hk (kb _)⟩ (λj x Z h' hx y=>?_)<|λZ h' y=>?_
 .obtain⟨rfl,⟨v2,v3,rfl⟩,hG⟩:=y;obtain⟨o,ho,rfl⟩:=iN hx;have go:(∀u,o=aA u->∀z∈ps,z.tk=u->z.dn c.room)->∀k u,k<j+1->s.aX[k]?=aA (aA u)->∀z∈ps,z.tk=u->z.dn c.room:=λhz k u hk hu=>by
   by_cases w:k=j
   .subst w;rw[ho]at hu;exact hz u<|dJ hu
   .exact hG k u (by omega) hu
  cases o with
  |none=>exact gX _<|fE _ ⟨rfl,⟨_,_,rfl⟩,go nofun⟩|some u=>
   refine gX _<|fE _<|WC.of<|xC od rfl ?_;rw[iA];cases el:aW (ps.map λz=>(z.tk,z.lt c.room)) u with
   |none=>refine⟨rfl,⟨_,_,rfl⟩,go λv e z hz ez=>?_⟩;cases e;rw[mL nd (List.mem_map.mpr ⟨z,hz,by rw[ez]⟩)]at el;cases el
   |some sl=>
    obtain⟨z,hz,e⟩:=List.mem_map.mp (gi el);have e1:z.tk=u:=congrArg (·.1) e;have e2:z.lt c.room=sl:=congrArg (·.2) e;have ed:sl.dd=z.dd c.room:=by rw[<- e2];rfl
    obtain⟨tk,pc,row,aX,ch,dr,src,dZ,dd,pt,st,fi,of⟩:=sl;dsimp only at ed;have no:¬z.dn c.room->R (.bl aG) h':=λhn=>q aG ⟨(nofun),λg=>absurd (g u (bM ho) z hz e1) hn⟩;refine WC.of<|ua od rfl (by rw[iA,el];rfl) ?_;cases ef:z.fi with
    |none=>
     have ed:dd = .aH:=by rw[ed];unfold Sl.dd;rw[ef]
     subst ed;exact no λh=>by have:=h.1;rw[ef]at this;cases this
    |some φ=>
     have ed:dd = .tup (z.dt c.room):=ed.trans (nj (by rw[ef];rfl));subst ed;cases eft:z.ft c.room with
     |none=>
      have dt:z.dt c.room=[.int z.pc,oI (z.d1 c.room),oI (z.d2 c.room),oI (z.d3 c.room),oI (z.d4 c.room),.aH]:=by unfold Sl.dt;rw[eft];rfl
      rw[dt];refine⟨rfl,⟨_,_,rfl⟩,go λv e y hy ey=>?_⟩;cases e;rw[hp.eq hz hy (ey.trans e1.symm)];exact⟨by rw[ef];rfl,eft⟩
     |some f=>
      obtain⟨xs,rfl⟩:=xt eft;have dt:z.dt c.room=[.int z.pc,oI (z.d1 c.room),oI (z.d2 c.room),oI (z.d3 c.room),oI (z.d4 c.room),.tup xs]:=by unfold Sl.dt;rw[eft];rfl
      rw[dt];exact no λh=>by have:=h.2;rw[eft]at this;cases this
 .obtain⟨rfl,⟨v2,v3,rfl⟩,hG⟩:=y;rw[aR]at hG;refine q aB ⟨λ_ u hu=>?_,λ_=>rfl⟩;obtain⟨k,hk⟩:=xI hu;exact hG k u (List.getElem?_eq_some_iff.mp hk).1 hk
end
section
variable {k:Nat}
def nW(T:Int)(l:WK)(s:Sl):WK:=if s.fi=aD/\∃τ,s.st=aA τ/\τ<T then l.set s.row.cA.toNat (l.getD s.row.cA.toNat 0-1) else l
theorem Xo:(ps.foldl (nW T) l).length=l.length:=by
 induction ps generalizing l with
 |nil=>rfl|cons s ps a=>
  rw[Bw,a];unfold nW;split
  .exact nL ..
  .rfl
theorem EW{g:Nat}(hg:g<l.length):(l.set i v).getD g 0=if i=g then v else l.getD g 0:=by
 rw[vF,vF];split
 .rename_i e;subst e;rw[kE hg];rfl
 .rw[jQ ‹_›]
theorem ye{g:Nat}:r.cA.toNat=g↔r.cA=(g:Int):=by obtain⟨n,_,e⟩:=@oy r;rw[e,oG];omega
theorem i5{g:Nat}(hg:g<l.length):(ps.foldl (nW T) l).getD g 0=l.getD g 0-(ps.filter<|lM T g).length:=by
 induction ps generalizing l with
 |nil=>exact(Int.sub_zero _).symm|cons s ps c=>
  rw[Bw,gC];by_cases a:s.fi=aD/\∃d,s.st=aA d/\d<T
  .rw[show nW T l s=l.set s.row.cA.toNat (l.getD s.row.cA.toNat 0-1) from if_pos a,c (by rw[nL];exact hg),EW hg];by_cases b:s.row.cA.toNat=g
   .rw[if_pos b,show lM T g s=aB from decide_eq_true ⟨a.1,ye.mp b,a.2⟩,b,if_pos rfl,eK];omega
   .rw[if_neg b,show lM T g s=aG from decide_eq_false λh=>b (ye.mpr h.2.1)];rfl
  .rw[show nW T l s=l from if_neg a,c hg,show lM T g s=aG from decide_eq_false λh=>a ⟨h.1,h.2.2⟩];rfl
theorem aOm{Q:gT->AH->Prop}(e1:Z[i]?=aA (aA<|.tup xs))(q:Q (kQ xs) h):wE F (.var i) Z h λx h1=>We (qC x) h1 Q:=
 show aC Z[i]? (λo=>aC o λv=>We (qC v) h Q) from aC.of e1 (aC.of rfl<|Nn q)
theorem Sv{i:Int}{g:Nat}(e:i=(g:Int))(hg:g<l.length):cJ (l.map AV.int) i=aA (.int<|l.getD g 0):=by rw[e];exact L2.mq (by rw[fR,vF,eB hg];rfl)
theorem i6{t0:AV}{st fi:Ft}{v6:Ws}(ow:h.ob fa=aA (.lst aB<|l.map .int))(or:h.ob nr=aA (.lst aB<|c.rs.map aM.av))(ra:cJ (c.rs.map aM.av) pc=aA row.av)(l5:l.length=5)
  (q:∀v6 v7 v8,(¬(fi=aD/\∃τ,st=aA τ/\τ<T)->N [aA (.ref n),aA (.ref nr),aA (.tup<|c.tb.map cX),aA (.int T),aA (.ref fa),aA (.tup [a0,.int pc,a2,a3,a4,.tup [t0,oI st,oI fi,t3]]),v6,v7,v8] h)/\(fi=aD/\(∃τ,st=aA τ/\τ<T)->N [aA (.ref n),aA (.ref nr),aA (.tup<|c.tb.map cX),aA (.int T),aA (.ref fa),aA (.tup [a0,.int pc,a2,a3,a4,.tup [t0,oI st,oI fi,t3]]),v6,v7,v8] (h.put fa<|.lst aB<|(l.set row.cA.toNat<|l.getD row.cA.toNat 0-1).map .int))) :
  dU (run pg<|k+1) (xr<|bK Th) [aA (.ref n),aA (.ref nr),aA (.tup<|c.tb.map cX),aA (.int T),aA (.ref fa),aA (.tup [a0,.int pc,a2,a3,a4,.tup [t0,oI st,oI fi,t3]]),v6,v7,v8] h N R B N:=by
 cases st with
 |none=>exact(q _ _ _).1 λz=>by obtain⟨_,_,z,_⟩:=z;cases z
 |some τ=>
  refine aE.dc (λc1=>?_) λc1=>(q _ _ _).1 λz=>by obtain⟨_,_,z,w⟩:=z;cases z;exact c1 w
  cases fi with
  |some φ=>exact(q _ _ _).1 λz=>nomatch z.1|none=>
   obtain⟨g,g5,eg⟩:=@oy row;have gl:g<l.length:=by rw[l5];exact g5
   have q1:=λv6 v7 v8=>(q v6 v7 v8).2 ⟨rfl,τ,rfl,c1⟩;rw[eg,oG,jx]at q1;exact WC.of<|eU (cH or) ra<|Yq (k:=k)<|WC.of<|eU (cH ow) (Sv eg gl)<|ue ow (by rw[eg,aR];exact qc gl)<|q1 _ _ _
theorem D2(X:kI c)(o:h.ob n=aA (.lst aB<|ps.map λs=>(s.lt c.room).gB))(on:n<h.nx)(or:h.ob nr=aA (.lst aB<|c.rs.map aM.av))(ol:nr<h.nx)(hl:ps.length<1000)(hs:∀s∈ps,0<=s.pc/\c.rs[s.pc.toNat]?=aA s.row)
  (q:∀h' (l:WK),Kp h h'->h.nx<h'.nx->h'.ob h.nx=aA (.lst aB<|l.map .int)->l.length=5->(∀g:Nat,g<5->l.getD g 0=kN c g-(ps.filter<|lM T g).length)->R (.ref h.nx) h'):WC (run pg (k+2) 53 [.ref n,.ref nr,.tup (c.tb.map cX),.int T]) h R:=by
 have big:=jE;have l5:(c.tb.map λp=>p.1).length=5:=by rw[aR,X.tb.1]
 refine aS rfl rfl<|WC.of<|ak<|kC<|aOm rfl ?_;refine Ve (xs:=c.tb.map cX) (λj ys Z h'=>h'=h/\(∃v0,Z=[v0])/\ys=(c.tb.take j).map λp=>.int p.1) (by rw[aR,X.tb.1,eF];decide) ⟨rfl,⟨_,rfl⟩,rfl⟩ (λj x ys Z h' hx y=>?_)<|λys Z h' y=>?_
 .obtain⟨rfl,⟨v0,rfl⟩,rfl⟩:=y;obtain⟨p,hp,rfl⟩:=iN hx;have et:c.tb.take (j+1)=c.tb.take j++[p]:=by rw[pG,hp];rfl
  refine tw<|cF _ ⟨?_,rfl,⟨_,rfl⟩,by rw[et,gJ];rfl⟩;have:(c.tb.take j).length<=c.tb.length:=by rw[kW];omega
  rw[aR];have:=X.tb.1;omega
 obtain⟨rfl,⟨v0,rfl⟩,rfl⟩:=y;rw[aR,pH,show(c.tb.map λp=>AV.int p.1)=(c.tb.map λp=>p.1).map .int by rw[hB];rfl];have k1:Kp h' (h'.new<|.lst aB<|(c.tb.map λp=>p.1).map .int):=Kp.refl.new;refine WB.of<|kD<|kC<|mB (k1.get on o) ?_;refine nV (n:=n) (bb:=aB) (xs:=ps.map λs=>(s.lt c.room).gB) (λj Z h2=>Kp h' h2/\h'.nx<h2.nx/\h2.ob h'.nx=aA (.lst aB<|((ps.take j).foldl (nW T) (c.tb.map λp=>p.1)).map .int)/\∃v1 v2 v3 v4,Z=[aA (.ref n),aA (.ref nr),aA (.tup<|c.tb.map cX),aA (.int T),aA (.ref h'.nx),v1,v2,v3,v4]) (by rw[aR,eF];omega) ⟨k1,cM _,bJ,_,_,_,_,rfl⟩ (λ_ _ _ y=>y.1.get on o) (λj x Z h2 hx y=>?_)<|λZ h2 y=>?_
 .obtain⟨kp,lt,ow,v1,v2,v3,v4,rfl⟩:=y;obtain⟨s,hm,rfl⟩:=iN hx;obtain⟨p0,hr⟩:=hs s (bM hm);have et:(ps.take<|j+1).foldl (nW T) (c.tb.map λp=>p.1)=nW T ((ps.take j).foldl (nW T) (c.tb.map λp=>p.1)) s:=by rw[pG,hm];exact List.foldl_append
  refine gX _<|fE _<|i6 (k:=k) (st:=s.st) (fi:=s.fi) ow (kp.get ol or) (Ls p0 hr) (by rw[Xo,l5]) λv6 v7 v8=>⟨λhn=>⟨kp,lt,?_,_,_,_,_,rfl⟩,λhy=>⟨kp.put (aV _),lt,?_,_,_,_,_,rfl⟩⟩
  .rw[et,show nW T ((ps.take j).foldl (nW T) (c.tb.map λp=>p.1)) s=_ from if_neg hn];exact ow
  .rw[et,show nW T ((ps.take j).foldl (nW T) (c.tb.map λp=>p.1)) s=_ from if_pos hy];exact bP
 .obtain⟨kp,lt,ow,v1,v2,v3,v4,rfl⟩:=y;rw[aR,pH]at ow;refine q h2 _ kp lt ow (by rw[Xo,l5]) λg hg=>?_;rw[i5 (by rw[l5];exact hg)];refine congrArg (· - _) ?_;unfold kN;rw[oG,vF,vF,fR];rw[eB (by rw[X.tb.1];exact hg)];rfl
end
section
variable {k:Nat}
theorem Ux{g:Int}(hs:ps[j]?=aA s):lR T ps (j+1) g=lR T ps j g+if s.st=aA T/\s.row.cA=g then 1 else 0:=by
 unfold lR;rw[pG,hs,sX,dC,Int.natCast_add,II];refine congrArg _<|congrArg _ ?_;show(((([s]:WX).filter (xE T g)).length:Nat):Int)=_;rw[gC];split
 .rename_i e;rw[if_pos (of_decide_eq_true e)];rfl
 .rename_i e;rw[if_neg λw=>e (decide_eq_true w)];rfl
theorem Yr(q:R (.int r.cA) h):WC (run pg (k+1) 51 [.tup (.str (aM.kn r)::aM.tl r)]) h R:=by rw[<- mx];exact Yq q
theorem aJf{pt:Int}{t2:AV}{st:Ft}{v9:Ws}{GV:Prop}(ow:h.ob fa=aA (.lst aB<|l.map .int))(or:h.ob nr=aA (.lst aB<|c.rs.map aM.av))(ra:cJ (c.rs.map aM.av) pc=aA (.tup<|.str (aM.kn row)::aM.tl row))(l5:l.length=5)
  (gw:∀R,(∀b:Bool,(b=aB↔GV)->R (.bl b) h)->WC (run pg (k+2) 52 [.tup [a0,.int pc,a2,a3,a4,.tup [.int pt,oI st,t2,t3]],.ref d]) h R)(h1:pt<T->st=aA T->0<l.getD row.cA.toNat 0/\GV)(h2:pt<T->st=aD->mK row=aB\/¬(0<l.getD row.cA.toNat 0/\GV))
  (q:∀v7 v8 v9 v10,(¬(pt<T/\st=aA T)->N [aA (.ref n),aA (.ref nr),aA (.tup<|c.tb.map cX),aA (.int T),aA (.ref d),aA (.tup [a0,.int pc,a2,a3,a4,.tup [.int pt,oI st,t2,t3]]),aA (.ref fa),v7,v8,v9,v10] h)/\(pt<T/\st=aA T->N [aA (.ref n),aA (.ref nr),aA (.tup<|c.tb.map cX),aA (.int T),aA (.ref d),aA (.tup [a0,.int pc,a2,a3,a4,.tup [.int pt,oI st,t2,t3]]),aA (.ref fa),v7,v8,v9,v10] (h.put fa<|.lst aB<|(l.set row.cA.toNat<|l.getD row.cA.toNat 0-1).map .int))) :
  dU (run pg<|k+2) (xr<|bK<|bK<|bK To) [aA (.ref n),aA (.ref nr),aA (.tup<|c.tb.map cX),aA (.int T),aA (.ref d),aA (.tup [a0,.int pc,a2,a3,a4,.tup [.int pt,oI st,t2,t3]]),aA (.ref fa),v7,v8,v9,v10] h N R B N:=by
 obtain⟨g,g5,eg⟩:=@oy row;have gl:g<l.length:=by rw[l5];exact g5
 rw[eg,oG]at h1 h2 q;have ex:=Sv eg gl;refine aE.dc (c:=pt<T) (λc1=>?_) λc1=>(q _ _ _ _).1 λz=>c1 z.1;cases st with
 |none=>
  have nn:=λv7 v8 v9 v10=>(q v7 v8 v9 v10).1 λz=>nomatch z.2;refine WC.of<|eU (cH or) ra<|Yr (k:=k+1)<|WC.of<|eU (cH ow) ex ?_;refine aE.dc (c:=l.getD g 0 > 0) (λc2=>gw _ λb hb=>?_) λc2=>aE.df c2 (nn _ _ _ _);refine aE.by (b:=b) (λe=>aC.of gF (aE.nt (c:=aM.kn row=("load":cW)) ?_<|nn _ _ _ _)) λe=>nn _ _ _ _;have:=(h2 c1 rfl).resolve_right λw=>w ⟨c2,hb.mp e⟩;cases row with
  |load=>rfl|_=>cases this
 |some τ=>refine aE.dc (c:=τ=T) (λc2=>?_) λc2=>(q _ _ _ _).1 λz=>c2 (dJ z.2);subst c2;obtain⟨g1,g2⟩:=h1 c1 rfl;have q1:=λv7 v8 v9 v10=>(q v7 v8 v9 v10).2 ⟨c1,rfl⟩;rw[jx]at q1;refine WC.of<|eU (cH or) ra<|Yr (k:=k+1)<|WC.of<|eU (cH ow) ex<|aE.dt (c:=l.getD g 0 > 0) g1<|gw _ λb hb=>?_;have hb:=hb.mpr g2;subst hb;exact WC.of<|eU (cH ow) ex<|ue ow (by rw[eg,aR];exact qc gl)<|q1 _ _ _ _
theorem aJk(X:kI c)(hp:mV ps)(o:h.ob n=aA (.lst aB<|ps.map λs=>(s.lt c.room).gB))(on:n<h.nx)(or:h.ob nr=aA (.lst aB<|c.rs.map aM.av))(ol:nr<h.nx)(hl:ps.length<1000)(hs:∀s∈ps,(0<=s.pc/\c.rs[s.pc.toNat]?=aA s.row)/\s.aX.length<=2/\(s.st=aA T->s.put<T))(G:Gd c T ps)(q:∀h',Kp h h'->R (.bl aB) h'):WC (run pg (k+3) 54 [.ref n,.ref nr,.tup (c.tb.map cX),.int T]) h R:=by
 have big:=jE;have k1:Kp h (h.new<|.aP []):=Kp.refl.new;refine aS rfl rfl<|WB.of<|kD<|kC<|mB (k1.get on o) ?_;refine nV (λj Z h1=>Kp h h1/\h.nx<h1.nx/\h1.ob h.nx=aA (.aP<|dE eP.gB<|(ps.take j).map λz=>(z.tk,z.lt c.room))/\∃v5 v6 v7 v8 v9 v10,Z=[aA (.ref n),aA (.ref nr),aA (.tup<|c.tb.map cX),aA (.int T),aA (.ref h.nx),v5,v6,v7,v8,v9,v10]) (by rw[aR,eF];omega) ⟨k1,cM _,bJ,_,_,_,_,_,_,rfl⟩ (λ_ _ _ y=>y.1.get on o) (λj x Z h1 hx y=>?_)<|λZ h1 y=>?_
 .obtain⟨kp,lt,od,v5,v6,v7,v8,v9,v10,rfl⟩:=y;obtain⟨s,hm,rfl⟩:=iN hx;refine gX _<|fE _<|vB od rfl (by rw[mG,aR,kW];omega) ?_;refine⟨kp.put (aV _),lt,?_,_,_,_,_,_,_,rfl⟩;rw[bP,uI,rh (wO λp hp' w=>?_),pG,hm,gJ]
  .rfl
  .obtain⟨z,hz,rfl⟩:=List.mem_map.mp hp';obtain⟨i,hi⟩:=xI hz;rw[Ow]at hi;split at hi
   .have:=hp.ix hi hm w;omega
   .cases hi
 obtain⟨kp,lt,od,v5,v6,v7,v8,v9,v10,rfl⟩:=y;rw[aR,pH]at od;refine D2 X (kp.get on o) (bF on kp.nx) (kp.get ol or) (bF ol kp.nx) hl (λs hm=>(hs s hm).1) λh2 l k2 lt2 of2 l5 hf=>?_;refine WB.of<|kD<|kC<|mB ((kp.trans k2).get on o) ?_;refine nV (λj Z h3=>Kp h1 h3/\(∃v5 v7 v8 v9 v10,Z=[aA (.ref n),aA (.ref nr),aA (.tup<|c.tb.map cX),aA (.int T),aA (.ref h.nx),v5,aA (.ref h1.nx),v7,v8,v9,v10])/\∃l:WK,h3.ob h1.nx=aA (.lst aB<|l.map .int)/\l.length=5/\∀g:Nat,g<5->l.getD g 0=kN c g-lR T ps j g) (by rw[aR,eF];omega) ⟨k2,⟨_,_,_,_,_,rfl⟩,l,of2,l5,λg hg=>(hf g hg).trans (by rfl)⟩ (λ_ _ _ y=>(kp.trans y.1).get on o) (λj x Z h3 hx y=>?_)<|λZ h3 y=>q _ (kp.trans y.1);obtain⟨k3,⟨v5,v7,v8,v9,v10,rfl⟩,l,ow,l5,hf⟩:=y;obtain⟨s,hm,rfl⟩:=iN hx;obtain⟨⟨p0,hr⟩,nl,sp⟩:=hs s (bM hm);have Gs:=G j s hm;obtain⟨g,g5,eg⟩:=@oy s.row;have hc:l.getD s.row.cA.toNat 0=kN c s.row.cA-lR T ps j s.row.cA:=by rw[eg];exact hf g g5
 have ra:=Ls p0 hr;rw[mx]at ra;refine gX _<|fE _<|aJf ow ((kp.trans k3).get ol or) ra l5 (λR q=>n8 hp (k3.get lt od) nl q) (λc1 e=>?_) (λc1 e=>?_) λv7 v8 v9 v10=>⟨λhn=>⟨k3,⟨_,_,_,_,_,rfl⟩,l,ow,l5,λg hg=>?_⟩,λhy=>⟨k3.put (aV _),⟨_,_,_,_,_,rfl⟩,_,bP,by rw[nL];exact l5,λg' hg'=>?_⟩⟩
 .have:=(Gs c1).a e;rw[hc];exact⟨by omega,this.2⟩
 .rw[hc];exact((Gs c1).b e).imp id λw z=>w ⟨by omega,z.2⟩
 .rw[hf g hg,Ux hm,if_neg λw=>hn ⟨sp w.1,w.1⟩,Oi]
 .rw[EW (l5▸hg'),Ux hm,hf g' hg',hc];by_cases w:s.row.cA.toNat=g'
  .have w':=ye.mp w;rw[if_pos w,if_pos ⟨hy.2,w'⟩,w'];omega
  .rw[if_neg w,if_neg λz=>w (ye.mpr z.2),Oi]
end
section
variable {n:Int}
theorem VZ(h:s.fi.isSome=aB):∃b c d e f,(s.lt room).dd = .tup [.int (s.lt room).pc,b,c,d,e,f]:=⟨_,_,_,_,_,nj h⟩
theorem T9(p0:0<=p)(h:c.rs[p.toNat]?=aA r):p<c.rs.length:=by have:=(List.getElem?_eq_some_iff.mp h).1;omega
theorem MI.sh(I:MI c [] nG n m)(hs:s∈m.slots):Sk c.rs.length (s.lt c.room):=by
 have S:=I.sl s hs;refine⟨S.p0,T9 S.p0 S.hr,by show s.aX.length<=2;rw[S.nl];exact zQ,?_⟩;cases e:s.fi with
 |none=>exact .inl (by show s.dd c.room=_;unfold Sl.dd;rw[e])|some φ=>exact .inr<|VZ (by rw[e];rfl)
end
section
variable {k:Nat}{g:Gh}
theorem aJ.AN(r:aJ c g m h)(p:Nat×bC)(hp:p∈c.lo):p.1<h.nx/\h.ob p.1=aA p.2:=by obtain⟨K,G⟩:=r.G;have z:=G.lo p hp;exact⟨bF z.2.1 r.bx,z.2.2⟩
theorem Za(r:aJ c g m h)(q:∀h',Kp h h'->h'.ob h.nx=aA (.lst aB<|m.slots.map λs=>(s.lt c.room).gB)->h.nx<h'.nx->R (.ref h.nx) h'):WC (run pg (k+2) 122 [.ref c.b]) h R:=by
 have sn:=r.W.sn;have big:=jE;refine aS rfl rfl<|WC.of<|ak<|kC<|aC.of r.o0<|aC.of (r.at 1)<|mB r.jZ.1 ?_;refine Vb (λj a b h'=>h'=h/\(∃v0,b=[v0])/\a=((m.slots.take j).map λs=>(s.lt c.room).gB)) (by rw[aR,eF];omega) ⟨rfl,⟨_,rfl⟩,rfl⟩ (λ_ _ _ _ y=>y.1▸r.jZ.1) (λj x a b h' d y=>?_)<|λa b h' y=>?_
 .obtain⟨rfl,⟨v0,rfl⟩,rfl⟩:=y;obtain⟨s,hr,rfl⟩:=iN d;have e:m.slots.take (j+1)=m.slots.take j++[s]:=by rw[pG,hr];rfl
  refine tw<|cF _<|aC.of (r.cK<|bM hr)<|Lz (r.cK<|bM hr) ⟨?_,rfl,⟨_,rfl⟩,?_⟩
  .have f:(m.slots.take j).length<=m.slots.length:=by rw[kW];omega
   rw[aR];omega
  .rw[e,gJ];rfl
 .obtain⟨rfl,⟨v0,rfl⟩,rfl⟩:=y;rw[aR,pH];exact q _ Kp.refl.new bJ<|cM _
theorem Y1{u v:AV}{b:Bool}(e:h.ob n=aA (.lst aB [u,v]))(q:Q (if b=aB then v else u) h):WC (Op.g .ix (.ref n)<|.int<|if b=aB then 1 else 0) h Q:=by
 cases b with
 |true=>exact WC.of<|eU (cH e) rfl q|false=>exact WC.of<|eU (cH e) rfl q
theorem Zd(z:m.dX c ≠ .aH):lF (m.dX c)=aG:=by
 unfold Mo.dX at z ⊢;split
 .rfl
 .split
  .rfl
  .rename_i a b;rw[if_neg a,if_neg b]at z;exact absurd rfl z
end
section
variable {g:Gh}
noncomputable abbrev C4:aQ:=bK (bK<|bK<|bK<|bK<|bK<|bK Tf)
theorem C3{calm:Bool}{sd0:Sd}{sz wd:Int}{v11:Ws}(X:kI c)(hi:i<40)(lo0:(0,bC.lst aG (ns.map AV.int))∈c.lo)(lo1:(nr,bC.lst aB (c.rs.map aM.av))∈c.lo)(sm:0<sd0.mem.length)(rm:c.room=sd0.mem.length)(r:aJ c g m h)(T:TI c i m)
  (qn:∀v10 v11 g m h,aJ c g m h->TI c (i+1:Nat) m->N [aA (.ref 0),aA (.bl calm),aA (.ref nr),aA sd0.av,aA (.int sz),aA (.int wd),aA (.tup<|c.tb.map cX),aA (.ref gu),aA (.ref c.b),aA (.int<|1+(i:Int)),v10,v11] h)(qb:∀Z h,B Z h) :
  dU (run pg 23) (xr C4) [aA (.ref 0),aA (.bl calm),aA (.ref nr),aA sd0.av,aA (.int sz),aA (.int wd),aA (.tup<|c.tb.map cX),aA (.ref gu),aA (.ref c.b),aA (.int<|1+(i:Int)),v10,v11] h N R B N:=by
 refine aC.of r.o0<|yf (k:=21) r ?_;by_cases z:m.dX c = .aH
 rotate_left
 .exact aE.t (b:=!lF (m.dX c)) (by rw[Zd z];rfl)<|qb _ _
 rw[z];refine aC.of r.o0<|I0 (k:=13) X T (by omega) (by omega) r z λss a g1 m1 h1 r1 T1 os sl oa la G1=>?_;have eT:(i:Int)+1=1+i:=Int.add_comm ..;rw[eT]at T1 G1;refine aC.of r1.o0<|Za (k:=21) r1 λh3 k3 o3 l3=>?_;have r3:=r1.keep k3;obtain⟨ln3,on3⟩:=r3.AN _ lo1;have o3':h3.ob h1.nx=aA (.lst aB<|(m1.slots.map λs=>s.lt c.room).map eP.gB):=by rw[o3,hB];rfl
 have l2:(m1.slots.map λs=>s.lt c.room).length<1000:=by rw[aR];have:=r1.W.sn;omega
 refine WC.of<|kR (cH on3) ?_;rw[aR];refine aIa (k:=21) o3' l3 l2 (λs hs=>?_) λh4 k4=>?_
 .obtain⟨s,h1,rfl⟩:=List.mem_map.mp hs;exact T1.I.sh h1
 have l4:=bF l3 k4.nx;have ln4:=bF ln3 k4.nx;refine J3 (k:=22) (k4.get l3 o3') l4 (k4.get ln3 on3) ln4 l2 (λs hs=>?_) λh5 k5=>?_
 .obtain⟨s,h1,rfl⟩:=List.mem_map.mp hs;have S:=T1.I.sl s h1;exact⟨S.p0,S.hr,S.nl⟩
 refine aJk (k:=20) (ps:=m1.slots) X T1.I.so (k5.get l4<|k4.get l3 o3) (bF l4 k5.nx) (k5.get ln4<|k4.get ln3 on3) (bF ln4 k5.nx) (by rw[aR]at l2;exact l2) (λs hs=>?_) G1 λh6 k6=>?_
 .have S:=T1.I.sl s hs;exact⟨⟨S.p0,S.hr⟩,by rw[S.nl];exact zQ,λe=>(S.s1 _ e).1⟩
 have k5:=k5.trans k6;have r5:=r3.keep (k4.trans k5);have T5:TI c (i+1:Nat) m1:=by rw[show((i+1:Nat):Int)=1+i by omega];exact T1
 refine aC.of r5.o0<|yf (k:=21) r5 ?_;by_cases z5:m1.dX c = .aH
 rotate_left
 .exact aE.f (b:=lF (m1.dX c)) (Zd z5)<|qn _ _ _ _ _ r5 T5
 rw[z5];obtain⟨_,e0⟩:=r5.AN _ lo0;refine tM (k:=22) (by decide) e0 λc6=>oW (k:=22) (by omega) (by omega) λz6 _ _=>aE.dc (λ_=>?_) λ_=>qn _ _ _ _ _ r5 T5;refine tM (k:=22) (by decide) e0 λc5=>oW (k:=22) (by omega) (by omega) λz7 z70 z71=>?_;have ml:m1.sd.mem.length=sd0.mem.length:=by have:=T1.I.rm;omega
 have sm':(0:Int)<sd0.mem.length:=by omega
 have room:=X.rm;refine aC.of r5.o0<|aE.dt (by rw[aR];exact sm') ?_;rw[aR];refine Z4 (k:=19) r5 z5 (mC _ (by omega)) (by rw[ml];exact mQ _ sm') (by omega) λv g6 h6 r6 n6=>?_;obtain⟨T6,e6⟩:=T5.lI (p:=z7%sd0.mem.length) (w:=z7 / 900%8) ⟨by omega,by omega⟩;refine aC.of r6.o0<|Za (k:=21) r6 λh7 k7 o7 l7=>?_;rw[e6]at o7;have k8:Kp h7 (h7.new<|.lst aB []):=Kp.refl.new;refine WC.of<|Nl rfl (xl (k8.get l7 o7) bJ) ?_;exact qn _ _ _ _ _ (r6.keep<|k7.trans k8) T6
theorem aAb:∃ms:WK,iM (ns.map AV.int) (aA 7) (aA 63)=ms.map AV.int/\ms.length<=56:=by
 refine⟨(ns.drop<|HT.bZ ns.length 0<|aA 7).take (HT.bZ ns.length ns.length (aA 63)-HT.bZ ns.length 0 (aA 7)),?_,?_⟩
 .unfold iM;rw[aR,Pc,Pb]
 .rw[show(aA 7:Ft)=aA ((7:Nat):Int) from rfl,show(aA 63:Ft)=aA ((63:Nat):Int) from rfl,HT.iu,HT.iu,kW];refine dR (KB _ _) ?_;rcases Pp 7 ns.length with h|h
  .rw[Ch h];exact KG (KB 63 _) 7
  .rw[Pq h];exact dR (KG (KC 63 _) _) (by rw[Ps];exact jR _)
theorem keeps:Keeps pg 24 56:=by
 have big:sizeLine=16777216:=pI;refine Keeps.of λns hns=>WC.we (aS rfl rfl ?_);have e0:(h0 ns).ob 0=aA (.lst aG<|ns.map AV.int):=rfl;have z0:0<(h0 ns).nx:=KJ;generalize h0 ns=h at e0 z0 ⊢;refine tM (k:=22) (by decide) e0 λc0=>?_;obtain⟨ms,em,lm⟩:=aAb (ns:=ns);refine jm<|WC.of<|Bd e0 ?_;rw[em];have k1:Kp h (h.new<|.lst aB<|ms.map AV.int):=Kp.refl.new;refine aAc (k:=19) bJ (cM _) (by omega) λh2 nr rs k2 lr Rw rl=>?_;have k2:=k1.trans k2;have e2:=k2.get z0 e0;refine tM (k:=22) (by decide) e2 λc1=>tM (k:=22) (by decide) e2 λc2=>aJe (k:=21) λh3 bx mem k3 bw bl mw m0 ml=>?_;have e3:=(k2.trans k3).get z0 e0;refine tM (k:=22) (by decide) e3 λc3=>aIe (k:=21) λsz wd s1 s2 d1 d2=>?_;refine tM (k:=22) (by decide) e3 λc4=>aLe (k:=21) λh5 tb k5 tok=>?_;have k25:=(k2.trans k3).trans k5;have e5:=k25.get z0 e0;have z5:=bF z0 k25.nx;have orr:=(k3.trans k5).get lr Rw.1;have lr5:=bF lr (k3.trans k5).nx;refine tM (k:=22) (by decide) e5 λc5=>Zw (k:=19) (K:=λ_=>aD) (b:=10) e5 hns (λ_ _ e=>nomatch e) (λ_ _ e=>nomatch e) λh6 gu K6 k6 T6 l6 a6 g6=>?_;have e6:=k6.get z5 e5;have z6:=bF z5 k6.nx;refine tM (k:=22) (by decide) e6 λc6=>Zw (k:=19) e6 hns T6 l6 λh7 nv K7 k7 T7 l7 a7 g7=>?_;have k57:=k6.trans k7;have G:lP ⟨h7.nx,rs,sz,wd,tb,gu,nv,(mem.length:Int),[(0,.lst aG (ns.map AV.int)),(nr,.lst aB (rs.map aM.av))]⟩ 10 K7 h7:=by
  refine⟨T7,(a7 _<|l6 _ _ g6).trans g6,g7,l7,λp hp=>?_⟩;have low:∀{x:Nat}{o:bC},x<h5.nx->h5.ob x=aA o->K7 x=aD/\x<h7.nx/\h7.ob x=aA o:=λ{x o} hx ho=>⟨(a7 x<|bF hx k6.nx).trans (a6 x hx),bF hx k57.nx,k57.get hx ho⟩;rcases List.mem_cons.mp hp with rfl|hp
  .exact low z5 e5
  .rw[List.mem_singleton.mp hp];exact low lr5 orr
 refine F3 (k:=20) (sd:=⟨0,bx,mem⟩) rfl (k57.get lr5 orr) (bF lr5 k57.nx) G λg8 h8 r8 k8=>⟨rfl,?_⟩;have X:kI ⟨h7.nx,rs,sz,wd,tb,gu,nv,(mem.length:Int),[(0,.lst aG (ns.map AV.int)),(nr,.lst aB (rs.map aM.av))]⟩:=⟨Rw.2,tok,s2,d1,d2,by show(mem.length:Int)<=80;omega⟩;have I:=F2 (sd:=⟨0,bx,mem⟩) X (by show 0<=sz;omega) ⟨jH _,bl,bw,mw⟩ rfl;generalize hc:(⟨h7.nx,rs,sz,wd,tb,gu,nv,(mem.length:Int),[(0,.lst aG (ns.map AV.int)),(nr,.lst aB (rs.map aM.av))]⟩:Cf)=c at X I r8;have ecb:h7.nx=c.b:=by rw[<- hc]
 have ers:c.rs=rs:=by rw[<- hc]
 have etb:c.tb=tb:=by rw[<- hc]
 have erm:c.room=mem.length:=by rw[<- hc]
 have elo:c.lo=[(0,.lst aG (ns.map AV.int)),(nr,.lst aB (rs.map aM.av))]:=by rw[<- hc]
 clear hc;rw[ecb];subst ers;subst etb;have lo0:(0,bC.lst aG (ns.map AV.int))∈c.lo:=by rw[elo];exact fS
 have lo1:(nr,bC.lst aB (c.rs.map aM.av))∈c.lo:=by rw[elo];exact iI _ fS
 have T0:TI c (0:Nat) (gk ⟨0,bx,mem⟩):=⟨I,rfl,jH _,jH _,λh=>nomatch h⟩;refine WB.of<|kD<|aOi<|Y1 (b:=decide (sz > 12)) bJ ?_;obtain⟨j,ej,hj⟩:∃j:Int,(if decide (sz > 12)=aB then AV.int 17 else AV.int 37) = .int j/\1<=j/\j<=37:=by
  split
  .exact⟨17,rfl,by decide,by decide⟩
  .exact⟨37,rfl,by decide,by decide⟩
 rw[ej];refine aC.of rfl ⟨by rw[sf (j:=j) (by omega) (by omega)];rfl,?_⟩;refine Gg (lo:=1) (λi Z h'=>(∃v9 v10 v11,Z=[aA (.ref 0),aA (.bl<|!decide (c0%3=1)),aA (.ref nr),aA (Sd.av ⟨0,bx,mem⟩),aA (.int sz),aA (.int wd),aA (.tup<|c.tb.map cX),aA (.ref gu),aA (.ref c.b),v9,v10,v11])/\∃g m,aJ c g m h'/\TI c i m) (by rw[eF];omega) ⟨⟨_,_,_,rfl⟩,g8,_,r8.keep Kp.refl.new,T0⟩ (λi Z h' hi y=>?_)<|λZ h' y=>rfl;obtain⟨⟨v9,v10,v11,rfl⟩,g,m,r,T⟩:=y;exact gX _<|fE _<|C3 (ns:=ns) (sd0:=⟨0,bx,mem⟩) X (by omega) lo0 lo1 m0 erm r T (λv10 v11 g m h r T=>⟨⟨_,_,_,rfl⟩,g,m,r,T⟩) λZ h=>rfl
end
def fJ:S1:=[21,102,109,116,123,130,137,145,152,159,166,173,180,187,194,201,208,215,222,229,815,822,829,836,871,878,885,892,899,906,913,920,927,934,941,1037,1044,1051,1058,1065,1072,1079,1086,1093,1098,1103,1110,1115,1122,1129,1136,1143,1150,1155,1162,1169,1176,243,250,257,278,285,292,299,306,327,347,354,361,381,388,395,415,422,429,448,455,474,481,488,508,515,522,541,546,553,558,565,570,591,598,605,610,617,638,643,650,657,664,669,676,683,688,693,698,719,726,733,740,761,768,775,782,789,796,801,850,857,962,969,976,983,988,995,1002,1009,1016,1023]
def cs:Wm:=[(6,260),(7,309),(8,330),(9,364),(10,398),(11,432),(12,458),(13,491),(14,525),(15,573),(16,620),(17,701),(18,743),(19,804),(20,860),(21,1026)]
theorem yu{α:Type}{x:Str}{v:α}(h:([]:List (Str×α)).lookup x=aA v):False:=by cases h
theorem zN{α:Type}{x k:Str}{v u:α}{r:List (Str×α)}(h:((k,u)::r).lookup x=aA v):(x=k/\v=u)\/r.lookup x=aA v:=by
 rw[iU]at h;split at h
 .rename_i q;exact .inl ⟨eq_of_beq q,(dJ h).symm⟩
 .exact .inr h
theorem aTk{α:Type}{x:Nat}{v:α}(h:([]:List (Nat×α)).lookup x=aA v):False:=by cases h
theorem aTj{α:Type}{x k:Nat}{v u:α}{r:List (Nat×α)}(h:((k,u)::r).lookup x=aA v):(x=k/\v=u)\/r.lookup x=aA v:=by
 rw[iU]at h;split at h
 .rename_i q;exact .inl ⟨eq_of_beq q,(dJ h).symm⟩
 .exact .inr h
theorem Hx{α β:Type} [BEq α] {p:β->Bool}{k:α}{v:β}:∀{l:List (α×β)},l.lookup k=aA v->p v=aB->(l.filter λe=>p e.2).lookup k=aA v
 |[],h,_=>by cases h
 | (a,b)::l,h,hp=>by
  rw[iU]at h;by_cases e:(k==a)=aB
  .rw[e]at h;cases h;rw[JE (p:=λe:α×β=>p e.2) (a:=(a,v)) hp,iU,e]
  .rw[Bool.not_eq_true]at e;rw[e]at h;by_cases hb:p b=aB
   .rw[JE (p:=λe:α×β=>p e.2) (a:=(a,b)) hb,iU,e];exact Hx h hp
   .rw[aQs (p:=λe:α×β=>p e.2) (a:=(a,b)) hb];exact Hx h hp
theorem D4{α:Type}{x:Str×Nat}{v:α}(h:([]:List ((Str×Nat)×α)).lookup x=aA v):False:=by cases h
theorem Hy{α:Type}{x y:Str}{m:Nat}{v u:α}{r:List ((Str×Nat)×α)}(h:(((y,m),u)::r).lookup (x,n)=aA v):(x=y/\n=m/\v=u)\/r.lookup (x,n)=aA v:=by
 rw[iU]at h;split at h
 .rename_i q;have q:=eq_of_beq q;cases q;exact .inl ⟨rfl,rfl,(dJ h).symm⟩
 .exact .inr h
theorem all_mk{l:Qd}{w:bW}{K:bH}{h:bS}{mg:Str->WM}{fa:Addr} (X:K.In h) (G:h.Ns iW mg) (hfa:mg "law"=aA (.ref fa)) {fds:List eV} (D:iX K Fg fJ fds) (lb:∀v,bindArgs (fds.getD 56 default) ⟨[v],[]⟩=pure [(("_law_script":Str),v)]) (oN:qy K pr fJ=aB) (oF:BH K pr cs=aB) (oM:BJ K pr fJ cs=aB) (oK:BI K pr fJ cs=aB)
  {GI:Tok}{GJ:Tok}{aLc:Tok}{aLb:Tok}{Gu:Addr}{aJq aJr aJs aJt aJu aJv aJw aJx aJy aJz t10_WAYS t11_WAYS:Tok}{VF:Wr}{K8:Nat}{aJb:Wn}{zF:Addr}{Jk:Obj}{aLd:Tok}
  (Nz:vH K iW "Guesser"=aA (aA<|.ref 309))(Ee:Binds K (fds.getD 66 default) ["self","first"] [bp aG])(Ed:Binds K (fds.getD 69 default) ["self","many","begin"] [xR 1 GI])(Ef:Binds K (fds.getD 72 default) ["self","many","long"] [xR 4 GJ])(El:Cv K (.ref 309) "__getattribute__"=aA (aA<|.builtin "type.__getattribute__"))(Ek:Ql K 309 (.type "type")=aB)(Eg:Qg K (.ref 309) (.type "type") "__init__"=aA (.val<|.ref 278))(Nv:vH K iW "BITS"=aA (aA<|.int 64 aLc))(Nu:vH K iW "BEYOND"=aA (aA<|.int 18446744073709551616 aLb))(Ny:vH K iW "WAYS"=aA (aA<|.ref Gu))(Ht:K.lookup Gu=aA ⟨.type "tuple",VF,.seq #[nO "sum" aJq,nO "less" aJr,nO "times" aJs,nO "share" aJt,nO "rest" aJu,nO "both" aJv,nO "some" aJw,nO "odd" aJx,nO "up" aJy,nO "down" aJz,nO "below" t10_WAYS,nO "same" t11_WAYS] K8,aJb⟩)(Nx:vH K iW "GROUPS"=aA (aA<|.ref zF))(Hs:K.lookup zF=aA Jk)(Fo:Ck Px (λ_=>aA Jk) zF (([("times",1),("share",2),("rest",2),("load",3),("store",3),("jump",4),("go",4),("fault",4)]:WW).map λp=>(p.1,rO p.2))=aB)(Jt:Cj (λ_=>aA Jk) zF=(([("times",1),("share",2),("rest",2),("load",3),("store",3),("jump",4),("go",4),("fault",4)]:WW).map λp=>(p.1,rO p.2)).map λp=>(Qp l.prog w).hash p.1)(Nw:vH K iW "GREATEST_COUNT"=aA (aA<|.int 3 aLd)) :
  ∃fd:eV,(∀(s:aK) (v:Value),jn s fd ⟨[v],[]⟩ [("_law_script",v)])/\∀base:bS,K.In base->base.Ns iW mg->iK l.prog w K mg base (kH l.prog w) (2*24+2) fa fd ["_law_script"] (Me K):=by
 have e:=hfa.symm.trans (BK X G D oN 56 _ rfl);cases e;have O:Dy l.prog w pr ⟨K,λkvs a=>(kvs=([("times",1),("share",2),("rest",2),("load",3),("store",3),("jump",4),("go",4),("fault",4)]:WW)/\a=zF)\/False,λi=>cs.lookup i⟩ mg (λi=>fJ.getD i 0) (λi=>fds.getD i default):=by
  refine⟨λi d hd=>?_,λi d hd=>?_,λx v hx=>?_,λx hx=>?_,λkvs a ht=>?_,λf cs hx=>?_,λm dp hx c i hi=>?_,λx n c i dv hx=>?_,λy cs hx=>?_,λx m i hx=>?_⟩
  .exact iX.get D i d hd
  .exact BK X G D oN i d hd
  .rcases zN hx with⟨rfl,rfl⟩|hx
   .exact⟨_,.int 64,vG X G Nv,⟨_,rfl⟩,λ_ _=>.int _⟩
   rcases zN hx with⟨rfl,rfl⟩|hx
   .exact⟨_,.int 18446744073709551616,vG X G Nu,⟨_,rfl⟩,λ_ _=>.int _⟩
   rcases zN hx with⟨rfl,rfl⟩|hx
   .exact⟨_,.ref Gu,vG X G Ny,rfl,λ_ _=>.tup (ys:=[.str "sum",.str "less",.str "times",.str "share",.str "rest",.str "both",.str "some",.str "odd",.str "up",.str "down",.str "below",.str "same"]) (.inr ⟨_,_,_,Ht,rfl,rfl,(by decide:12<=sizeLine),(.cons ⟨_,rfl⟩<|.cons ⟨_,rfl⟩<|.cons ⟨_,rfl⟩<|.cons ⟨_,rfl⟩<|.cons ⟨_,rfl⟩<|.cons ⟨_,rfl⟩<|.cons ⟨_,rfl⟩<|.cons ⟨_,rfl⟩<|.cons ⟨_,rfl⟩<|.cons ⟨_,rfl⟩<|.cons ⟨_,rfl⟩<|.cons ⟨_,rfl⟩ .nil)⟩) (.cons (.str _)<|.cons (.str _)<|.cons (.str _)<|.cons (.str _)<|.cons (.str _)<|.cons (.str _)<|.cons (.str _)<|.cons (.str _)<|.cons (.str _)<|.cons (.str _)<|.cons (.str _)<|.cons (.str _) .nil)⟩
   rcases zN hx with⟨rfl,rfl⟩|hx
   .exact⟨_,.ref zF,vG X G Nx,rfl,λ_ _=>.lE (.inl ⟨rfl,rfl⟩)⟩
   rcases zN hx with⟨rfl,rfl⟩|hx
   .exact⟨_,.int 3,vG X G Nw,⟨_,rfl⟩,λ_ _=>.int _⟩
   exact(yu hx).elim
  .exact M5 X G oN x hx
  .rcases ht with⟨rfl,rfl⟩|ht
   .exact AM.C0 Hs Fo (by decide +kernel) Jt
   .exact ht.elim
  .exact M1 oF f cs hx
  .exact M4 D oM m dp hx c i hi
  .refine M3 X G D oK (λx n c i dv hx hv=>?_) x n c i dv hx;have hx:=Hx (p:=λv=>!v.2.2.isEmpty) hx (by cases dv with|nil=>exact absurd rfl hv|cons _ _=>rfl);replace hx:rL (x,n) [(("Paths",1),(11,72,[.int 4])),(("Last",0),(9,66,[.bl aG])),(("Counts",1),(10,69,[.int 1]))]=aA (c,i,dv):=hx
   rcases Hy hx with⟨rfl,rfl,e⟩|hx
   .cases e;exact⟨_,[xR 4 GJ],[.int 4],rfl,Ef,(.cons ⟨_,rfl⟩ .nil),λ_ _=>(.cons (.int _) .nil)⟩
   rcases Hy hx with⟨rfl,rfl,e⟩|hx
   .cases e;exact⟨_,[bp aG],[.bl aG],rfl,Ee,(.cons rfl .nil),λ_ _=>(.cons (.bl _) .nil)⟩
   rcases Hy hx with⟨rfl,rfl,e⟩|hx
   .cases e;exact⟨_,[xR 1 GI],[.int 1],rfl,Ed,(.cons ⟨_,rfl⟩ .nil),λ_ _=>(.cons (.int _) .nil)⟩
   exact(D4 hx).elim
  .exact(yu hx).elim
  .obtain⟨r,h1,h2⟩:=Option.bind_eq_some_iff.mp hx;clear hx;rcases zN h1 with⟨rfl,rfl⟩|h1
   .rcases zN h2 with⟨rfl,rfl⟩|h2
    .exact⟨_,309,rfl,vG X G Nz,(iX.get (f0:=default) D 60 _ rfl).fn.kp,El,Ek,Eg,rfl⟩
    exact(yu h2).elim
   exact(yu h1).elim
 have hk:Keeps pr.ir 24 56:=by rw[y6];exact keeps
 exact⟨_,λs v=>.of_eq (lb v),λbase _ _=>C6 (T:=⟨K,λkvs a=>(kvs=([("times",1),("share",2),("rest",2),("load",3),("store",3),("jump",4),("go",4),("fault",4)]:WW)/\a=zF)\/False,λi=>cs.lookup i⟩) O (i:=56) rfl hk⟩
end AMx
open PySem PySem.W PyProof.Rows
theorem PySem.Challenge.cw_aheadmill_k39_started_at_once_holds : PySem.Challenge.rw_aheadmill_k39_started_at_once.Holds := by
 refine PySem.W.Fast.te0 ?_;k_fill
 refine AM.walk (k:=2*24+2) (x:="_law_script") (l:=KU) rfl rfl ⟨rfl,by decide,by decide⟩ (λw h Y=>W.kIn_of Y) ?F
 case F=>
  intro w mg fa h KX G hmg;refine' AMx.all_mk KX G hmg ?D ?lb ?oN ?oF ?oM ?oK ?Nz ?Ee ?Ed ?Ef ?El ?Ek ?Eg ?Nv ?Nu ?Ny ?Ht ?Nx ?Hs ?Fo ?Jt ?Nw
  case D=>
   unfold AMx.Fg AMx.fJ;repeat' first
    |exact AM.iX.nil
    | (apply AM.iX.one (dV:=.none);(case l=>k_is);(case c=>k_is);(case k=>k_is);(case b=>first|exact L2.Binds.all λus hl=>by obtain⟨v0,rfl⟩:=AM.My hl;rfl|exact L2.Binds.all λus hl=>by obtain⟨v0,v1,rfl⟩:=AM.jf hl;rfl|exact L2.Binds.all λus hl=>by obtain⟨v0,v1,v2,rfl⟩:=AM.Mz hl;rfl|exact L2.Binds.all λus hl=>by obtain⟨v0,v1,v2,v3,rfl⟩:=AM.Na hl;rfl|exact L2.Binds.all λus hl=>by obtain⟨v0,v1,v2,v3,v4,rfl⟩:=AM.GW hl;rfl|exact L2.Binds.all λus hl=>by obtain⟨v0,v1,v2,v3,v4,v5,rfl⟩:=AM.GX hl;rfl);(case s=>exact⟨by kernel_rfl,by kernel_rfl,by kernel_rfl,by decide +kernel,by kernel_rfl,by decide +kernel,by decide +kernel⟩))
    | (apply AM.iX.one;(case l=>k_is);(case c=>k_is);(case k=>k_is);(case b=>apply AM.vy rfl;(case l=>k_is);(case hs=>rfl);(case h=>first|exact λus hl=>by rw[pE]at hl ⊢;obtain⟨v0,v1,rfl⟩:=AM.jf hl;exact⟨_,rfl,rfl⟩|exact λus hl=>by rw[pE]at hl ⊢;obtain⟨v0,v1,v2,rfl⟩:=AM.Mz hl;exact⟨_,rfl,rfl⟩|exact λus hl=>by rw[pE]at hl ⊢;obtain⟨v0,v1,v2,v3,rfl⟩:=AM.Na hl;exact⟨_,rfl,rfl⟩|exact λus hl=>by rw[pE]at hl ⊢;obtain⟨v0,v1,v2,v3,v4,v5,v6,v7,rfl⟩:=AM.GY hl;exact⟨_,rfl,rfl⟩));(case s=>exact⟨by kernel_rfl,by kernel_rfl,by kernel_rfl,by decide +kernel,by kernel_rfl,by decide +kernel,by decide +kernel⟩))
  (case lb=>exact λv=>rfl)
  (case Ee=>apply AM.vy rfl;(case l=>k_is);(case hs=>rfl);(case h=>exact λus hl=>by have hl:us.length=1:=(by simpa using hl);obtain⟨v0,rfl⟩:=AM.My hl;exact⟨_,rfl,rfl⟩))
  (case Ed=>apply AM.vy rfl;(case l=>k_is);(case hs=>rfl);(case h=>exact λus hl=>by have hl:us.length=2:=(by simpa using hl);obtain⟨v0,v1,rfl⟩:=AM.jf hl;exact⟨_,rfl,rfl⟩))
  (case Ef=>apply AM.vy rfl;(case l=>k_is);(case hs=>rfl);(case h=>exact λus hl=>by have hl:us.length=2:=(by simpa using hl);obtain⟨v0,v1,rfl⟩:=AM.jf hl;exact⟨_,rfl,rfl⟩))
  (case Nz|El|Ek|Eg|Nv|Nu|Ny|Ht|Nx|Hs=>k_is)
  (case Fo|Jt=>rfl)
  (case Nw=>k_is)
  (all_goals kernel_rfl)
