import PyProof.Rows.All
import OpenK.KLine
import Wide.FinOn
import KE.KTops
import KE.KItem
import KE.KIsAll
import KE.KDictSum
import KE.KBits
import KE.KPairTest
import PySem.Challenge.RW_aheadmill_k38_work_lasts
set_option Elab.async false
set_option linter.all false
set_option maxRecDepth 100000
set_option exponentiation.threshold 2000
set_option maxHeartbeats 0
set_option compiler.extract_closed false
set_option bootstrap.genMatcherCode false
set_option genSizeOf false
local macro_rules | `(tactic| omega)=>`(tactic| lia)
section
set_option hygiene false
local macro_rules | `(command| $d:definition) => `(command| noncomputable $d:definition)
open PySem PySem.W PyProof.Rows
namespace PySem.W.Fast
abbrev _root_.Hc:=Option Int
abbrev _root_.He:=List Value
abbrev _root_.Hf:=List (Addr×Obj)
abbrev _root_.Xj:=List Int
abbrev _root_.Xk:=List Addr
abbrev _root_.Xl:=Option Value
abbrev _root_.Xm:=List Stmt
abbrev _root_.Xn:=List Obj
abbrev _root_.Xo:=List Str
abbrev _root_.Xp:=List Nat
abbrev _root_.Xq:=Array Value
abbrev _root_.Xr:=List (Nat×Nat)
abbrev _root_.Xt:=List (Option Nat)
abbrev _root_.Xu:=List (Str×Int)
abbrev _root_.Xv:=List (Option Int)
abbrev _root_.Xx:=List (Str×Value)
abbrev _root_.Xy:=List (Str×Addr)
abbrev _root_.Xz:=Option (Option Value)
abbrev _root_.YG:=List Env
abbrev _root_.YH:=List (Int×Int)
abbrev _root_.YI:=List (Nat×Addr)
abbrev _root_.YJ:=Array (Option Value)
abbrev _root_.YK:=List (Nat×Bool)
abbrev _root_.YL:=List Bool
abbrev _root_.YM:=Option Addr
local macro_rules|`(!$x:ident)=>`($x=$x)|`(-$x:ident)=>`(λP=>Subtype.val (p:=λt=>t=qB 12 ($x P)) ⟨_,by dsimp only[Av,sk,ip,af,xE,uT,sW,rL,pG,oH,nI,mR,lX,lL,kX,kE,jV,jJ,iS,iF,hW,gU,gL,gH,gA,fR,fO,fB,eM,qH,qh,bN,dJ,eC,eP,eQ,eV,List.set,List.cons_append,List.nil_append,qB,qe,qg]⟩)|`(!($n:num,$a,*))=>do let r←(a.getElems.zipIdx n.getNat).mapM λ(x,i)=>`(.str $x $(Lean.quote i));`(#[$r,*])
def Kz:Xm->Nat->Stmt|a::_,0=>a|_::l,n+1=>Kz l n | [],_=>.Pass (.mk 0 0 0 0)
def Aw:Stmt->Xm | .FunctionDef _ _ b _ _ _ _ _ _ _=>b | .ClassDef _ _ _ b _ _ _ _ _ _ _=>b|_=>[]
def xG:Stmt->Arguments | .FunctionDef _ p _ _ _ _ _ _ _ _=>p|_=>default
def Ay:Stmt->Scope | .FunctionDef _ _ _ _ _ _ s _ _ _=>s | .ClassDef _ _ _ _ _ _ s _ _ _ _=>s|_=>default
def qb(s:String)(x:Data):Obj:=⟨.type s,.none,x,#[]⟩
def qd(P:Params)(n:Str)(i:Nat)(v:Value):DictEntry:=⟨PySem.PyData.keyHash P n,.str n i,v⟩
def qr(P:Params)(n:Str)(i v:Nat):DictEntry:=qd P n i (.ref v)
def qS(n:Nat):Stmt:=Kz PySem.Challenge.pw_aheadmill_k38_work_lasts.main.body n
def qe:Xn->Xn|x::_::l=>x::qe l|l=>l
def qg:Xn->Xn|_::y::l=>y::qg l|_=>[]
def qB:Nat->Xn->BT|0,_=>.nil|_+1,[]=>.nil|n+1,x::l=>.node x (qB n<|qe l) (qB n<|qg l)
def bT:String:=SL.s2766695959194262286x5
def Mn:String:=SL.s5856160107412720595x4
def qz2:String:=SL.s658472552662922059x5
def gC:String:=SL.s14018661285674007319x4
def qz4:String:=SL.s7097527257260152453x26
def EO:String:=SL.s7174869446012820540x8
def nK:String:=SL.s6070975301684473832x10
def ER:String:=SL.s11030030927630378310x26
def qz8:String:=SL.s10062305145149207511x16
def lM:String:=SL.s17162191345867700912x4
def ao:String:=SL.s5946037652744460706x9
def aq:String:=SL.s4278001404047624695x13
def hX:String:=SL.s2742458400755230247x6
def au:String:=SL.s4209523147560561109x18
def EN:String:=SL.s14755015743595814543x17
def aHt:String:=SL.s10220274742760427390x26
def aHu:String:=SL.s4290257624100764138x5
def aHv:String:=SL.s4860613602091757760x24
def vA:String:=SL.s11443829558043349243x14
def aHw:String:=SL.s6511155373996960695x17
def aHx:String:=SL.s12411053484034534018x21
def qn0:Str:="<module>"
def ag:Str:="/claim/cut.py"
def DW:Str:="__main__"
def gB:Str:="__name__"
def nJ:Str:="aheadmill.errors"
def mS:Str:="__doc__"
def qn6:Str:="__package__"
def qn7:Str:="__loader__"
def qn8:Str:="__spec__"
def qn9:Str:="__annotations__"
def aEa:Str:="__builtins__"
def aEc:Str:="__file__"
def aEe:Str:="__cached__"
def gM:Str:="MillError"
def gN:Str:="__module__"
def pH:Str:="__qualname__"
def gO:Str:="__firstlineno__"
def gP:Str:="__static_attributes__"
def rM:Str:="__weakref__"
def Lz:Str:="Nought"
def Ma:Str:="NoPlace"
def Mc:Str:="NoTicket"
def Md:Str:="Busy"
def ai:Str:="aheadmill.words"
def Mf:Str:="Halted"
def aFo:Str:="BITS"
def aFq:Str:="BEYOND"
def aFr:Str:="WAYS"
def aFs:Str:="sum"
def aFt:Str:="less"
def DY:Str:="times"
def DZ:Str:="share"
def EA:Str:="rest"
def aFu:Str:="both"
def aFv:Str:="some"
def aFw:Str:="odd"
def aFx:Str:="up"
def aFy:Str:="down"
def aFz:Str:="below"
def aGa:Str:="same"
def EB:Str:="one"
def aGb:Str:="other"
def uX:Str:="aheadmill.rows"
def aGc:Str:="GROUPS"
def aGd:Str:="load"
def aGe:Str:="store"
def aGf:Str:="jump"
def aGg:Str:="go"
def aGh:Str:="fault"
def aGi:Str:="row"
def aGj:Str:="words"
def aGk:Str:="at"
def cO:Str:="aheadmill.guessers"
def aGl:Str:="GREATEST_COUNT"
def aGm:Str:="held"
def aGn:Str:="window"
def aGo:Str:="ledger"
def aGp:Str:="put"
def su:Str:="aheadmill.fetching"
def aGq:Str:="guesser"
def Mh:Str:="Tally"
def sv:Str:="__init__"
def aGr:Str:="likely"
def aGs:Str:="move"
def aEb:Str:="levels"
def sX:Str:="__dict__"
def fE:Str:="Guesser"
def iq:Str:="guess"
def iu:Str:="heed"
def aEd:Str:="learned"
def Ll:Str:="Always"
def Lm:Str:="Last"
def aEf:Str:="first"
def aEg:Str:="lately"
def Lo:Str:="Counts"
def Lp:Str:="tally"
def Lq:Str:="Paths"
def aEh:Str:="length"
def aEi:Str:="trail"
def Lr:Str:="Listed"
def aEj:Str:="truths"
def Ls:Str:="Turned"
def sY:Str:="aheadmill.benches"
def Lu:Str:="Chosen"
def uW:Str:="aheadmill.names"
def Lv:Str:="Benches"
def aEk:Str:="table"
def aEm:Str:="ticket"
def aEn:Str:="working"
def lY:Str:="aheadmill.shelf"
def Lw:Str:="Names"
def aEo:Str:="tickets"
def aEp:Str:="thrown"
def aEq:Str:="filled"
def Lx:Str:="Shelf"
def aEr:Str:="begun"
def aEs:Str:="kept"
def kF:Str:="aheadmill.slots"
def Ly:Str:="Slot"
def DX:Str:="names"
def aEt:Str:="chosen"
def aEu:Str:="dares"
def aEv:Str:="deed"
def aEw:Str:="finished"
def aEx:Str:="off"
def aEy:Str:="source"
def aEz:Str:="started"
def Mb:Str:="Window"
def aFa:Str:="program"
def aFb:Str:="size"
def aFc:Str:="wide"
def aFd:Str:="ahead"
def aFe:Str:="benches"
def aFf:Str:="now"
def aFg:Str:="shelf"
def aFh:Str:="slots"
def pI:Str:="aheadmill.taking"
def Ax:Str:="aheadmill.plain"
def Me:Str:="Ledger"
def aFi:Str:="nerve"
def aFj:Str:="broken"
def aFk:Str:="gone"
def aFl:Str:="slips"
def aFm:Str:="state"
def aFn:Str:="storers"
def lZ:Str:="aheadmill.mill"
def aFp:Str:="TABLE"
def iw:Str:="aheadmill.working"
def Mg:Str:="Mill"
def iG:Str:="law_aheadmill_k38_work_lasts"
variable (P:Params)
def tw18134464744952530324:Program:={ PySem.Challenge.rw_aheadmill_k38_work_lasts.row.toRowW.1 with main:={ PySem.Challenge.rw_aheadmill_k38_work_lasts.row.toRowW.1.main with body:=[(qS 0),(qS 2),(qS 3),(qS 4),(qS 5),(qS 6),(qS 7),(qS 9),(qS 10),(qS 11),(qS 12),(qS 13),(qS 14),(qS 15),(qS 16),(qS 17),(qS 19),(qS 20),(qS 21),(qS 22),(qS 23),(qS 24),(qS 25),(qS 26),(qS 27),(qS 29),(qS 30),(qS 31),(qS 32),(qS 33),(qS 35),(qS 36),(qS 37),(qS 38),(qS 39),(qS 40),(qS 41),(qS 42),(qS 43),(qS 44),(qS 46),(qS 48),(qS 50),(qS 52),(qS 53),(qS 55),(qS 56),(qS 57),(qS 58),(qS 60),(qS 61),(qS 62),(qS 63),(qS 64),(qS 65),(qS 67),(qS 68),(qS 69),(qS 70),(qS 71),(qS 72),(qS 74),(qS 75),(qS 76),(qS 78),(qS 79),(qS 80),(qS 81),(qS 82),(qS 83),(qS 84),(qS 85),(qS 86),(qS 87),(qS 88),(qS 89),(qS 90),(qS 91),(qS 92),(qS 93),(qS 94),(qS 95),(qS 96),(qS 97),(qS 98)] } }
theorem te18134464744952530324:!tw18134464744952530324:=rfl
def tw11881303599141558809:Params->Frag:=λ_=>[]
theorem te11881303599141558809:!tw11881303599141558809:=rfl
def sZ:Stmt->Str | .FunctionDef n _ _ _ _ _ _ _ _ _=>n | .ClassDef n _ _ _ _ _ _ _ _ _ _=>n|_=>default
def iy:Stmt->Pos | .FunctionDef _ _ _ _ _ _ _ _ _ p=>p|_=>.mk 0 0 0 0
def aj(s:Stmt):Xo:=((Ay s).names.filter λx=>x.2 == .local||x.2 == .cell).map λx=>x.1
def EJ:Xo->Nat->He | [],_=>[] | x::l,n=>.str x n::EJ l (n+1)
def Ml(s:Stmt)(i:Nat):Obj:=qb bT (.seq (EJ (aj s) i).toArray 0)
def iT(c j:Nat):Stmt:=Kz (Aw<|qS c) j
def Mi(c j:Nat):Str:=sZ (qS c) ++ .ofString "."++sZ (iT c j)
def qR(P:Params)(s i v:Nat):DictEntry:=qr P (sZ<|qS s) i v
def qQ(P:Params)(c j i v:Nat):DictEntry:=qr P (sZ<|iT c j) i v
def qW(a b c:List DictEntry):Array DictEntry:=(a++b++c).toArray
def qV(P:Params)(c:Nat):Nat->Xr->List DictEntry|_,[]=>[] | j,(i,a)::l=>qQ P c j i a::qV P c (j+1) l
def qY(c:Nat):Nat->Xr->Xr|_,[]=>[] | j,(_,a)::l=>((iy<|iT c j).line,a-1)::qY c (j+1) l
def La:Xr:=[(579,278),(587,285),(596,292),(605,299),(612,306)]
def Lb:Xr:=[(924,541),(930,546),(941,553),(947,558),(954,565),(960,570)]
def Lc:Xr:=[(991,591),(1002,598),(1011,605),(1017,610),(1028,617)]
def Ld:Xr:=[(1058,638),(1064,643),(1074,650),(1086,657),(1096,664),(1102,669),(1112,676),(1120,683),(1126,688),(1132,693),(1138,698)]
def Le:Xr:=[(1174,719),(1181,726),(1188,733),(1196,740)]
def Lf:Xr:=[(1242,761),(1249,768),(1258,775),(1267,782),(1277,789),(1286,796),(1292,801)]
def Lh:Xr:=[(1547,962),(1556,969),(1564,976),(1571,983),(1577,988),(1584,995),(1591,1002),(1598,1009),(1605,1016),(1615,1023)]
def qE(P:Params):List DictEntry:=[(qd P mS 166 .none),(qd P qn6 167 .none),(qd P qn7 168<|.builtin qz4),(qd P qn8 169 .none),(qr P qn9 170 6),(qr P aEa 171 4),(qd P aEc 173<|.str ag 172),(qd P aEe 174 .none),(qR P 0 193 21),(qR P 2 213 31),(qR P 3 229 44),(qR P 4 245 56),(qR P 5 261 68),(qR P 6 277 80),(qR P 7 293 92),(qd P aFo 297<|.int 64 296),(qd P aFq 299<|.int 18446744073709551616 298),(qr P aFr 312 95),(qR P 12 319 102),(qR P 13 327 109),(qR P 14 334 116),(qR P 15 342 123),(qR P 16 350 130),(qR P 17 359 137),(qr P aGc 386 138),(qR P 20 394 145),(qR P 21 402 152),(qR P 22 409 159),(qR P 23 417 166),(qR P 24 426 173),(qR P 25 437 180),(qR P 26 447 187),(qR P 27 459 194),(qR P 29 470 201),(qR P 30 479 208),(qR P 31 491 215),(qR P 32 499 222),(qR P 33 507 229),(qd P aGl 511<|.int 3 510),(qR P 36 560 260),(qR P 37 621 309),(qR P 38 645 330),(qR P 39 688 364),(qR P 40 732 398),(qR P 41 779 432),(qR P 42 812 458),(qR P 43 854 491),(qR P 44 902 525),(qR P 46 970 573),(qR P 48 1037 620),(qR P 50 1148 701),(qR P 52 1218 743),(qR P 53 1311 804),(qR P 55 1321 815),(qR P 56 1330 822),(qR P 57 1342 829),(qR P 58 1351 836),(qR P 60 1399 860),(qR P 61 1409 871),(qR P 62 1418 878),(qR P 63 1427 885),(qR P 64 1435 892),(qR P 65 1443 899),(qR P 67 1455 906),(qR P 68 1464 913),(qR P 69 1476 920),(qR P 70 1485 927),(qR P 71 1495 934),(qR P 72 1506 941),(qr P aFp 1519 947),(qR P 75 1625 1026),(qR P 76 1632 1037),(qR P 78 1642 1044),(qR P 79 1650 1051),(qR P 80 1659 1058),(qR P 81 1673 1065),(qR P 82 1686 1072),(qR P 83 1703 1079),(qR P 84 1717 1086),(qR P 85 1726 1093),(qR P 86 1732 1098),(qR P 87 1738 1103),(qR P 88 1748 1110),(qR P 89 1759 1117),(qR P 90 1765 1122),(qR P 91 1775 1129),(qR P 92 1783 1136),(qR P 93 1792 1143),(qR P 94 1799 1150),(qR P 95 1810 1157),(qR P 96 1825 1164),(qR P 97 1837 1171),(qR P 98 1856 1178)]
def qM(P:Params)(e:DictEntry)(n m:Nat):Obj:=qb gC (.dict (e::(qE P).take n).toArray m)
def qJ:Xr->He | []=>[] | (a,b)::l=>.int a 0 :: .int 0 0 :: .ref b::qJ l
def qK:He:=qJ [(1,20),(5,27),(7,40),(9,52),(11,64),(13,76),(15,88),(21,101),(23,108),(27,115),(29,122),(31,129),(33,136),(59,144),(70,151),(75,158),(77,165),(83,172),(89,179),(99,186),(110,193),(116,200),(121,207),(128,214),(133,221),(137,228),(143,235),(155,270),(172,319),(176,338),(188,372),(199,406),(214,440),(224,466),(235,499),(255,533),(289,583),(317,630),(388,711),(415,753),(471,814),(473,821),(475,828),(487,835),(492,842),(506,870),(513,877),(524,884),(530,891),(535,898),(538,905),(543,912),(551,919),(559,926),(563,933),(568,940),(585,953),(636,1036),(639,1043),(643,1050),(645,1057),(653,1064),(666,1071),(675,1078),(690,1085),(708,1092),(717,1097),(724,1102),(733,1109),(753,1116),(762,1121),(781,1128),(790,1135),(795,1142),(810,1149),(818,1156),(829,1163),(841,1170),(847,1177)]
def qI(n:Nat):Obj:=.mk .none .none (.fields (qK.take n).toArray) #[]
def Mm(a0:Str)(a1:Str)(a2:Stmt)(a3:Stmt):Obj:=(.mk .none .none (.func<|.mk a0 a1 (xG a2) (.stmts<|Aw a2) (Ay a3) 0 [] .none .none .none .none .none .none .none 0) #[])
def EK(a0:Str)(a1:Str)(a2:Stmt)(a3:Stmt)(a4:Str)(a5:Nat)(a6:Nat):Obj:=qb EO (.func<|.mk a0 a1 (xG a2) (.stmts<|Aw a2) (Ay a3) 3 [] .none .none .none (.str a4 a5) .none (.ref a6) .none 0)
def EL(a0:Str)(a1:Nat)(a2:Str)(a3:Int)(a4:Int)(a5:Nat)(a6:Int)(a7:Nat):Obj:=qb Mn (.fields #[(.str a0 a1),(.str a2<|a1+1),(.str ag<|a1+2),(.int a3 0),(.int a4 0),(.int 0 0),(.int 0 0),(.int 3 0),(.ref a5),(.bool .true),(.int 181 0),(.ref<|a5+1),.none,(.ref<|a5+2),(.ref<|a5+3),(.ref<|a5+4),(.int a6 0),(.int a3 0),(.str ag a7)])
def Az(a0:Str)(a1:Nat)(a2:Str):Obj:=qb bT (.seq #[(.str a0 a1),(.str a2<|a1+1)] 0)
def EM(a0:Str)(a1:Nat)(a2:Str)(a3:Str):Obj:=qb bT (.seq #[(.str a0 a1),(.str a2<|a1+1),(.str a3<|a1+2)] 0)
def iH(a0:Str)(a1:Nat)(a2:Int)(a3:Nat)(a4:Int):Obj:=qb Mn (.fields #[(.str a0 a1),(.str a0<|a1+1),(.str ag<|a1+2),(.int a2 0),(.int 0 0),(.int 0 0),(.int 0 0),(.int 0 0),(.ref a3),(.bool .false),(.int 181 0),(.ref<|a3+1),.none,.none,.none,.none,(.int a4 0),(.int a2 0),(.str ag<|a1+4)])
def iI(a0:Nat)(a1:Nat)(a2:Str)(a3:Nat):Obj:=(.mk (.type qz2) .none .plain #[(.some<|.ref a0),(.some<|.ref 3),(.some<|.ref a1),.none,(.some<|.str a2 a3),.none,(.some<|.ref 0)])
def iV:Obj:=qb ER (.fields #[(.builtin qz8),(.type lM)])
def iW(a0:Nat):Obj:=qb aHu (.fields #[(.ref a0),(.ref a0),(.ref a0)])
def iX(a0:Nat):Obj:=qb ER (.fields #[(.builtin aHv),(.ref a0)])
def aHr(a0:Str)(a1:Nat)(a2:Str)(a3:Int)(a4:Int)(a5:Nat)(a6:Int):Obj:=qb Mn (.fields #[(.str a0 a1),(.str a2<|a1+1),(.str ag<|a1+2),(.int a3 0),(.int a4 0),(.int 0 0),(.int 0 0),(.int 3 0),(.ref a5),(.bool .true),(.int 181 0),(.ref<|a5+1),.none,.none,.none,(.ref<|a5+2),(.int a6 0),(.int a3 0),(.str ag<|a1+4)])
def tB(a0:Nat)(a1:Nat):Obj:=qb EN (.fields #[(.str rM a0),(.ref a1),(.builtin aHt),.none])
def uY(a0:Str)(a1:Nat)(a2:Nat)(a3:Nat):Obj:=(.mk (.type lM) .none (.cls<|.mk a0 [(.type hX)] [(.ref a1),(.type hX)] a2 a0 .true [] [] .false .none .false) #[.none,.none,(.some<|.str a0 a3),(.some<|.str a0<|a3+8),(.some<|.builtin vA),(.some<|.bool .true)])
def uZ(a0:Nat)(a1:Nat):Obj:=qb EN (.fields #[(.str sX a0),(.ref a1),(.builtin aHw),(.builtin aHx)])
def ak(a0:Str)(a1:Nat)(a2:Nat)(a3:Nat)(a4:Nat):Obj:=(.mk (.type lM) .none (.cls<|.mk a0 [(.ref 309)] [(.ref a1),(.ref 309),(.type hX)] a2 a0 .true [] [] .false .none .false) #[(.some<|.ref a3),.none,(.some<|.str a0 a4),(.some<|.str a0<|a4+8),(.some<|.builtin vA),(.some<|.bool .true)])
def iz(P:Params)(a0:Nat)(a1:Str)(a2:Int)(a3:Nat):Obj:=qb gC (.dict #[(qd P gN a0<|.str nJ 194),(qd P pH (a0+2)<|.str a1<|a0+1),(qd P gO (a0+4)<|.int a2<|a0+3),(qd P gP (a0+5)<|.ref a3)] 4)
def ja(P:Params)(a0:Nat)(a1:Str)(a2:Int)(a3:Nat)(a4:Nat)(a5:Str)(a6:Str)(a7:Nat)(a8:Nat):Obj:=qb gC (.dict #[(qd P gN a0<|.str cO 508),(qd P pH (a0+2)<|.str a1<|a0+1),(qd P gO (a0+4)<|.int a2<|a0+3),(qd P sv a3<|.ref a4),(qd P a5 (a3+8)<|.ref<|a4+7),(qd P a6 a7<|.ref<|a4+14),(qd P gP a8<|.ref<|a4+15)] 7)
def jb(a0:Int)(a1:Nat)(a2:Int)(a3:Int):Obj:=(.mk .none .none (.fields #[(.int a0 0),(.int 4 0),(.ref a1),(.int a2 0),(.int 4 0),(.ref<|a1+7),(.int a3 0),(.int 4 0),(.ref<|a1+14)]) #[])
def sx(P:Params)(a0:Nat)(a1:Int)(a2:Nat):Obj:=qb gC (.dict #[(qd P gN a0<|.str nJ 194),(qd P gO (a0+4)<|.int a1<|a0+3),(qd P gP (a0+5)<|.ref a2),(qd P mS (a0+6) .none)] 2)
def sy(a0:Str)(a1:Nat)(a2:Nat)(a3:Nat)(a4:Nat):Obj:=(.mk (.type lM) .none (.cls<|.mk a0 [(.ref 31)] [(.ref a1),(.ref 31),(.type nK),(.type ao),(.type aq),(.type hX)] a2 a0 .true [] [] .false .none .false) #[(.some<|.ref a3),.none,(.some<|.str a0 a4),(.some<|.str a0<|a4+8),(.some<|.builtin au),(.some<|.bool .true)])
def aHs(a0:Str)(a1:Stmt)(a2:Nat)(a3:Str)(a4:Nat):Obj:=qb EO (.func<|.mk sv a0 (xG a1) (.stmts<|Aw a1) (Ay a1) 3 [] (.ref a2) .none .none (.str a3 a4) .none (.ref<|a2+6) .none 0)
def tf(P:Params)(a0:Nat)(a1:Int)(a2:Nat)(a3:Nat)(a4:Nat)(a5:Nat):Obj:=qb gC (.dict #[(qd P gN a0<|.str cO 508),(qd P gO (a0+4)<|.int a1<|a0+3),(qd P sv a2<|.ref a3),(qd P iq (a2+8)<|.ref<|a3+7),(qd P iu a4<|.ref<|a3+14),(qd P gP a5<|.ref<|a3+15),(qd P mS (a5+1) .none)] 2)
def tj(a0:Int)(a1:Nat)(a2:Int):Obj:=qb bT (.seq #[(.int a0 a1),(.int a2<|a1+1)] 0)
def qU:Xr->He | []=>[] | (a,b)::l=>.int a 0 :: .int 4 0 :: .ref b::qU l
def qT(l:Xr):Obj:=.mk .none .none (.fields (qU l).toArray) #[]
def eP(a0:Obj)(a1:Str)(a2:Str)(a3:Stmt)(a4:Stmt)(a5:Nat)(a6:Int)(a7:Int)(a8:Nat)(a9:Int)(a10:Nat)(a11:Str)(a12:Nat):Xn:=[qb bT (.seq #[] 0),(.mk .none .none (.fields #[]) #[]),a0,qb bT (.seq #[] 0),Mm a1 a2 a3 a4,EL a1 a5 a2 a6 a7 a8 a9 a10,EK a1 a2 a3 a4 a11 a12 (a8+5)]
def eQ(a0:Str)(a1:Str)(a2:Stmt)(a3:Stmt)(a4:Nat)(a5:Int)(a6:Int)(a7:Nat)(a8:Int)(a9:Str)(a10:Nat):Xn:=[qb bT (.seq #[] 0),(.mk .none .none (.fields #[]) #[]),Mm a0 a1 a2 a3,aHr a0 a4 a1 a5 a6 a7 a8,EK a0 a1 a2 a3 a9 a10 (a7+3)]
def eV(a0:Obj)(a1:Str)(a2:Stmt)(a3:Nat)(a4:Int)(a5:Int)(a6:Nat)(a7:Int)(a8:Nat)(a9:Str)(a10:Nat):Xn:=[qb bT (.seq #[] 0),(.mk .none .none (.fields #[]) #[]),a0,qb bT (.seq #[] 0),Mm sv a1 a2 a2,EL sv a3 a1 a4 a5 a6 a7 a8,aHs a1 a2 (a6-1) a9 a10]
def qH(s i a:Nat)(m:Str)(k:Nat):Xn:=eP (Ml (qS s)<|i+3) (sZ<|qS s) (sZ<|qS s) (qS s) (qS s) i (iy<|qS s).line (xG<|qS s).args.length a (i+3+(aj<|qS s).length:Nat) (i+4+(aj<|qS s).length) m k
def qh(s i a:Nat)(m:Str)(k:Nat):Xn:=eQ (sZ<|qS s) (sZ<|qS s) (qS s) (qS s) i (iy<|qS s).line (xG<|qS s).args.length a (i+3:Nat) m k
def bN(c j i a:Nat)(m:Str)(k:Nat):Xn:=eP (Ml (iT c j)<|i+3) (sZ<|iT c j) (Mi c j) (iT c j) (iT c j) i (iy<|iT c j).line (xG<|iT c j).args.length a (i+3+(aj<|iT c j).length:Nat) (i+4+(aj<|iT c j).length) m k
def dJ(c j i a:Nat)(m:Str)(k:Nat):Xn:=eQ (sZ<|iT c j) (Mi c j) (iT c j) (iT c j) i (iy<|iT c j).line (xG<|iT c j).args.length a (i+3:Nat) m k
def eC(c j i a:Nat)(m:Str)(k:Nat):Xn:=eV (Ml (iT c j)<|i+3) (Mi c j) (iT c j) i (iy<|iT c j).line (xG<|iT c j).args.length a (i+3+(aj<|iT c j).length:Nat) (i+4+(aj<|iT c j).length) m k
def eM(P:Params):Xn:=[boot_o_0 P,boot_o_1 P,boot_o_2 P,boot_o_3 P,boot_o_4 P,boot_o_5 P,boot_o_6 P,boot_o_7 P,boot_o_8 P,boot_o_9 P,boot_o_10 P,qb bT (.seq #[] 0),qI 0,iH qn0 182 1 11 185,iI 13 3 DW 164]
def fB(P:Params):Xn:=((eM P).set 3 (qM P (qd P gB 165<|.str nJ 194) 10 11)).set 12 (qI 6)++(qH 0 187 15 DW 164++([qb bT (.seq #[(.type nK)] 0),iV,iz P 203 gM 5 29,qb bT (.seq #[] 0),(.mk .none .none (.fields #[]) #[]),iH gM 198 5 25 201,iI 27 24 nJ 194,qb bT (.seq #[] 0),qb gC (.dict #[(qd P gN 203<|.str nJ 194),(qd P gO 207<|.int 5 206),(qr P gP 208 29),(qr P rM 210 32),(qd P mS 211 .none)] 3),(.mk (.type lM) .none (.cls<|.mk gM [(.type nK)] [(.ref 31),(.type nK),(.type ao),(.type aq),(.type hX)] 30 gM .true [] [] .false .none .false) #[(.some<|.ref 22),.none,(.some<|.str gM 196),(.some<|.str gM 204),(.some<|.builtin au),(.some<|.bool .true)]),tB 209 31,iW 31,iX 31]))
def fO(P:Params):Xn:=(((fB P).set 3 (qM P (qd P gB 165<|.str nJ 194) 11 12)).set 12 (qI 9)).set 31 ((.mk (.type lM) .none (.cls<|.mk gM [(.type nK)] [(.ref 31),(.type nK),(.type ao),(.type aq),(.type hX)] 30 gM .true [] [(.ref 44)] .false .none .false) #[(.some<|.ref 22),.none,(.some<|.str gM 196),(.some<|.str gM 204),(.some<|.builtin au),(.some<|.bool .true)]))++([qb bT (.seq #[(.ref 31)] 0),iV,iz P 221 Lz 7 42,qb bT (.seq #[] 0),(.mk .none .none (.fields #[]) #[]),iH Lz 216 7 38 219,iI 40 37 nJ 194,qb bT (.seq #[] 0),sx P 221 7 42,sy Lz 44 43 35 214,iW 44,iX 44])
def fR(P:Params):Xn:=(((fO P).set 3 (qM P (qd P gB 165<|.str nJ 194) 12 13)).set 12 (qI 12)).set 31 ((.mk (.type lM) .none (.cls<|.mk gM [(.type nK)] [(.ref 31),(.type nK),(.type ao),(.type aq),(.type hX)] 30 gM .true [] [(.ref 44),(.ref 56)] .false .none .false) #[(.some<|.ref 22),.none,(.some<|.str gM 196),(.some<|.str gM 204),(.some<|.builtin au),(.some<|.bool .true)]))++([qb bT (.seq #[(.ref 31)] 0),iV,iz P 237 Ma 9 54,qb bT (.seq #[] 0),(.mk .none .none (.fields #[]) #[]),iH Ma 232 9 50 235,iI 52 49 nJ 194,qb bT (.seq #[] 0),sx P 237 9 54,sy Ma 56 55 47 230,iW 56,iX 56])
def gA(P:Params):Xn:=(((fR P).set 3 (qM P (qd P gB 165<|.str nJ 194) 13 14)).set 12 (qI 15)).set 31 ((.mk (.type lM) .none (.cls<|.mk gM [(.type nK)] [(.ref 31),(.type nK),(.type ao),(.type aq),(.type hX)] 30 gM .true [] [(.ref 44),(.ref 56),(.ref 68)] .false .none .false) #[(.some<|.ref 22),.none,(.some<|.str gM 196),(.some<|.str gM 204),(.some<|.builtin au),(.some<|.bool .true)]))++([qb bT (.seq #[(.ref 31)] 0),iV,iz P 253 Mc 11 66,qb bT (.seq #[] 0),(.mk .none .none (.fields #[]) #[]),iH Mc 248 11 62 251,iI 64 61 nJ 194,qb bT (.seq #[] 0),sx P 253 11 66,sy Mc 68 67 59 246,iW 68,iX 68])
def gH(P:Params):Xn:=(((gA P).set 3 (qM P (qd P gB 165<|.str nJ 194) 14 15)).set 12 (qI 18)).set 31 ((.mk (.type lM) .none (.cls<|.mk gM [(.type nK)] [(.ref 31),(.type nK),(.type ao),(.type aq),(.type hX)] 30 gM .true [] [(.ref 44),(.ref 56),(.ref 68),(.ref 80)] .false .none .false) #[(.some<|.ref 22),.none,(.some<|.str gM 196),(.some<|.str gM 204),(.some<|.builtin au),(.some<|.bool .true)]))++([qb bT (.seq #[(.ref 31)] 0),iV,iz P 269 Md 13 78,qb bT (.seq #[] 0),(.mk .none .none (.fields #[]) #[]),iH Md 264 13 74 267,iI 76 73 nJ 194,qb bT (.seq #[] 0),sx P 269 13 78,sy Md 80 79 71 262,iW 80,iX 80])
def gL(P:Params):Xn:=(((gH P).set 3 (qM P (qd P gB 165<|.str ai 294) 22 23)).set 12 (qI 33)).set 31 ((.mk (.type lM) .none (.cls<|.mk gM [(.type nK)] [(.ref 31),(.type nK),(.type ao),(.type aq),(.type hX)] 30 gM .true [] [(.ref 44),(.ref 56),(.ref 68),(.ref 80),(.ref 92)] .false .none .false) #[(.some<|.ref 22),.none,(.some<|.str gM 196),(.some<|.str gM 204),(.some<|.builtin au),(.some<|.bool .true)]))++([qb bT (.seq #[(.ref 31)] 0),iV,iz P 285 Mf 15 90,qb bT (.seq #[] 0),(.mk .none .none (.fields #[]) #[]),iH Mf 280 15 86 283,iI 88 85 nJ 194,qb bT (.seq #[] 0),sx P 285 15 90,sy Mf 92 91 83 278,iW 92,iX 92,qb bT (.seq (!(300,aFs,aFt,DY,DZ,EA,aFu,aFv,aFw,aFx,aFy,aFz,aGa)) 0)]++(qH 12 313 96 ai 294++(qH 13 320 103 ai 294++(qH 14 328 110 ai 294++(qH 15 335 117 ai 294)))))
def gU(P:Params):Xn:=((gL P).set 3 (qM P (qd P gB 165<|.str uX 360) 31 32)).set 12 (qI 57)++(qH 16 343 124 ai 294++(qH 17 351 131 ai 294++([qb gC (.dict #[(qd P DY 362<|.int 1 363),(qd P DZ 364<|.int 2 365),(qd P EA 366<|.int 2 367),(qd P aGd 368<|.int 3 369),(qd P aGe 370<|.int 3 371),(qd P aGf 372<|.int 4 373),(qd P aGg 374<|.int 4 375),(qd P aGh 376<|.int 4 377)] 8)]++(qH 20 387 139 uX 360++(qH 21 395 146 uX 360++(qH 22 403 153 uX 360++(qH 23 410 160 uX 360++(qH 24 418 167 uX 360++(qH 25 427 174 uX 360)))))))))
def hW(P:Params):Xn:=((gU P).set 3 (qM P (qd P gB 165<|.str cO 508) 39 40)).set 12 (qI 78)++(qH 26 438 181 uX 360++(qH 27 448 188 uX 360++(qH 29 462 195 su 460++(qH 30 471 202 su 460++(qH 31 480 209 su 460++(qH 32 492 216 su 460++(qH 33 500 223 su 460)))))))
def iF(P:Params):Xn:=((hW P).set 3 (qM P (qd P gB 165<|.str cO 508) 40 41)).set 12 (qI 81)++([qb bT (.seq #[] 0),iV,ja P 519 Mh 143 532 243 aGr aGs 551 553,qb bT (.seq #[] 0),jb 145 242 148 151,iH Mh 514 143 233 517,iI 235 232 cO 508]++(bN 36 0 524 237 cO 508++(bN 36 1 533 244 cO 508++(bN 36 2 541 251 cO 508++([qb bT (.seq (!(552,aEb)) 0),qb gC (.dict #[(qd P gN 519<|.str cO 508),(qd P gO 523<|.int 143 522),(qQ P 36 0 532 243),(qQ P 36 1 540 250),(qQ P 36 2 551 257),(qr P gP 553 258),(qr P sX 555 261),(qr P rM 557 262),(qd P mS 558 .none)] 4),uY Mh 260 259 512,uZ 554 260,tB 556 260,iW 260,iX 260])))))
def iS(P:Params):Xn:=((iF P).set 3 (qM P (qd P gB 165<|.str cO 508) 41 42)).set 12 (qI 84)++([qb bT (.seq #[] 0),iV,qb gC (.dict (qW [(qd P gN 568<|.str cO 508),(qd P pH 570<|.str fE 569),(qd P gO 572<|.int 155 571)] (qV P 37 0 La) [(qr P gP 614 307)]) 9),qb bT (.seq #[] 0),(qT<|qY 37 0 La),iH fE 563 155 268 566,iI 270 267 cO 508]++(bN 37 0 573 272 cO 508++(bN 37 1 580 279 cO 508++(bN 37 2 588 286 cO 508++(bN 37 3 597 293 cO 508++(bN 37 4 606 300 cO 508++([qb bT (.seq (!(613,aEd)) 0),qb gC (.dict (qW [(qd P gN 568<|.str cO 508),(qd P gO 572<|.int 155 571)] (qV P 37 0 La) [(qr P gP 614 307),(qr P sX 616 310),(qr P rM 618 311),(qd P mS 619 .none)]) 4),uY fE 309 308 561,uZ 615 309,tB 617 309,iW 309,iX 309])))))))
def jJ(P:Params):Xn:=(((iS P).set 3 (qM P (qd P gB 165<|.str cO 508) 42 43)).set 12 (qI 87)).set 309 ((.mk (.type lM) .none (.cls<|.mk fE [(.type hX)] [(.ref 309),(.type hX)] 308 fE .true [] [(.ref 330)] .false .none .false) #[.none,.none,(.some<|.str fE 561),(.some<|.str fE 569),(.some<|.builtin vA),(.some<|.bool .true)]))++([qb bT (.seq #[(.ref 309)] 0),iV,qb gC (.dict #[(qd P gN 629<|.str cO 508),(qd P pH 631<|.str Ll 630),(qd P gO 633<|.int 172 632),(qQ P 38 0 641 327),(qr P gP 642 328)] 5),qb bT (.seq #[] 0),(qT [(174,326)]),iH Ll 624 172 317 627,iI 319 316 cO 508]++(bN 38 0 634 321 cO 508++([qb bT (.seq #[] 0),qb gC (.dict #[(qd P gN 629<|.str cO 508),(qd P gO 633<|.int 172 632),(qQ P 38 0 641 327),(qr P gP 642 328),(qd P mS 643 .none)] 2),ak Ll 330 329 314 622,iW 330,iX 330])))
def jV(P:Params):Xn:=(((jJ P).set 3 (qM P (qd P gB 165<|.str cO 508) 43 44)).set 12 (qI 90)).set 309 ((.mk (.type lM) .none (.cls<|.mk fE [(.type hX)] [(.ref 309),(.type hX)] 308 fE .true [] [(.ref 330),(.ref 364)] .false .none .false) #[.none,.none,(.some<|.str fE 561),(.some<|.str fE 569),(.some<|.builtin vA),(.some<|.bool .true)]))++([qb bT (.seq #[(.ref 309)] 0),iV,ja P 653 Lm 176 665 347 iq iu 682 685,qb bT (.seq #[] 0),jb 178 346 183 186,iH Lm 648 176 336 651,iI 338 335 cO 508,qb bT (.seq #[(.bool .false)] 0)]++(eC 39 0 658 341 cO 508++(bN 39 1 666 348 cO 508++(bN 39 2 674 355 cO 508++([Az aEf 683 aEg,tf P 653 176 665 347 682 685,ak Lm 364 363 333 646,iW 364,iX 364])))))
def kE(P:Params):Xn:=(((jV P).set 3 (qM P (qd P gB 165<|.str cO 508) 44 45)).set 12 (qI 93)).set 309 ((.mk (.type lM) .none (.cls<|.mk fE [(.type hX)] [(.ref 309),(.type hX)] 308 fE .true [] [(.ref 330),(.ref 364),(.ref 398)] .false .none .false) #[.none,.none,(.some<|.str fE 561),(.some<|.str fE 569),(.some<|.builtin vA),(.some<|.bool .true)]))++([qb bT (.seq #[(.ref 309)] 0),iV,ja P 696 Lo 188 710 381 iq iu 727 729,qb bT (.seq #[] 0),jb 190 380 194 197,iH Lo 691 188 370 694,iI 372 369 cO 508,qb bT (.seq #[(.int 1 701)] 0)]++(eC 40 0 702 375 cO 508++(bN 40 1 711 382 cO 508++(bN 40 2 719 389 cO 508++([qb bT (.seq (!(728,Lp)) 0),tf P 696 188 710 381 727 729,ak Lo 398 397 367 689,iW 398,iX 398])))))
def kX(P:Params):Xn:=(((kE P).set 3 (qM P (qd P gB 165<|.str cO 508) 45 46)).set 12 (qI 96)).set 309 ((.mk (.type lM) .none (.cls<|.mk fE [(.type hX)] [(.ref 309),(.type hX)] 308 fE .true [] [(.ref 330),(.ref 364),(.ref 398),(.ref 432)] .false .none .false) #[.none,.none,(.some<|.str fE 561),(.some<|.str fE 569),(.some<|.builtin vA),(.some<|.bool .true)]))++([qb bT (.seq #[(.ref 309)] 0),iV,ja P 740 Lq 199 754 415 iq iu 772 776,qb bT (.seq #[] 0),jb 201 414 207 210,iH Lq 735 199 404 738,iI 406 403 cO 508,qb bT (.seq #[(.int 4 745)] 0)]++(eC 41 0 746 409 cO 508++(bN 41 1 755 416 cO 508++(bN 41 2 763 423 cO 508++([EM aEh 773 Lp aEi,tf P 740 199 754 415 772 776,ak Lq 432 431 401 733,iW 432,iX 432])))))
def lL(P:Params):Xn:=(((kX P).set 3 (qM P (qd P gB 165<|.str cO 508) 46 47)).set 12 (qI 99)).set 309 ((.mk (.type lM) .none (.cls<|.mk fE [(.type hX)] [(.ref 309),(.type hX)] 308 fE .true [] [(.ref 330),(.ref 364),(.ref 398),(.ref 432),(.ref 458)] .false .none .false) #[.none,.none,(.some<|.str fE 561),(.some<|.str fE 569),(.some<|.builtin vA),(.some<|.bool .true)]))++([qb bT (.seq #[(.ref 309)] 0),iV,qb gC (.dict #[(qd P gN 787<|.str cO 508),(qd P pH 789<|.str Lr 788),(qd P gO 791<|.int 214 790),(qQ P 42 0 799 448),(qQ P 42 1 807 455),(qr P gP 809 456)] 6),qb bT (.seq #[] 0),(qT [(216,447),(220,454)]),iH Lr 782 214 438 785,iI 440 437 cO 508]++(bN 42 0 792 442 cO 508++(bN 42 1 800 449 cO 508++([qb bT (.seq (!(808,aEj)) 0),qb gC (.dict #[(qd P gN 787<|.str cO 508),(qd P gO 791<|.int 214 790),(qQ P 42 0 799 448),(qQ P 42 1 807 455),(qr P gP 809 456),(qd P mS 810 .none)] 2),ak Lr 458 457 435 780,iW 458,iX 458]))))
def lX(P:Params):Xn:=(((lL P).set 3 (qM P (qd P gB 165<|.str cO 508) 47 48)).set 12 (qI 102)).set 309 ((.mk (.type lM) .none (.cls<|.mk fE [(.type hX)] [(.ref 309),(.type hX)] 308 fE .true [] [(.ref 330),(.ref 364),(.ref 398),(.ref 432),(.ref 458),(.ref 491)] .false .none .false) #[.none,.none,(.some<|.str fE 561),(.some<|.str fE 569),(.some<|.builtin vA),(.some<|.bool .true)]))++([qb bT (.seq #[(.ref 309)] 0),iV,ja P 820 Ls 224 832 474 iq iu 849 851,qb bT (.seq #[] 0),jb 226 473 230 233,iH Ls 815 224 464 818,iI 466 463 cO 508]++(bN 43 0 825 468 cO 508++(bN 43 1 833 475 cO 508++(bN 43 2 841 482 cO 508++([qb bT (.seq (!(850,EB)) 0),tf P 820 224 832 474 849 851,ak Ls 491 490 461 813,iW 491,iX 491])))))
def mR(P:Params):Xn:=(((lX P).set 3 (qM P (qd P gB 165<|.str sY 903) 48 49)).set 12 (qI 105)).set 309 ((.mk (.type lM) .none (.cls<|.mk fE [(.type hX)] [(.ref 309),(.type hX)] 308 fE .true [] [(.ref 330),(.ref 364),(.ref 398),(.ref 432),(.ref 458),(.ref 491),(.ref 525)] .false .none .false) #[.none,.none,(.some<|.str fE 561),(.some<|.str fE 569),(.some<|.builtin vA),(.some<|.bool .true)]))++([qb bT (.seq #[(.ref 309)] 0),iV,ja P 862 Lu 235 877 508 iq iu 895 899,qb bT (.seq #[] 0),jb 237 507 243 248,iH Lu 857 235 497 860,iI 499 496 cO 508,qb bT (.seq #[(.int 16 867)] 0)]++(eC 44 0 868 502 cO 508++(bN 44 1 878 509 cO 508++(bN 44 2 886 516 cO 508++([EM EB 896 aGb Lp,tf P 862 235 877 508 895 899,ak Lu 525 524 494 855,iW 525,iX 525])))))
def nI(P:Params):Xn:=((mR P).set 3 (qM P (qd P gB 165<|.str uW 971) 49 50)).set 12 (qI 108)++([qb bT (.seq #[] 0),iV,qb gC (.dict (qW [(qd P gN 912<|.str sY 903),(qd P pH 914<|.str Lv 913),(qd P gO 916<|.int 255 915)] (qV P 46 0 Lb) [(qr P gP 963 571)]) 10),qb bT (.seq #[] 0),(qT<|qY 46 0 Lb),iH Lv 907 255 531 910,iI 533 530 sY 903]++(bN 46 0 917 535 sY 903++(dJ 46 1 925 542 sY 903++(bN 46 2 931 547 sY 903++(dJ 46 3 942 554 sY 903++(bN 46 4 948 559 sY 903++(dJ 46 5 955 566 sY 903++([Az aEk 961 aEn,qb gC (.dict (qW [(qd P gN 912<|.str sY 903),(qd P gO 916<|.int 255 915)] (qV P 46 0 Lb) [(qr P gP 963 571),(qr P sX 965 574),(qr P rM 967 575),(qd P mS 968 .none)]) 4),uY Lv 573 572 905,uZ 964 573,tB 966 573,iW 573,iX 573]))))))))
def oH(P:Params):Xn:=((nI P).set 3 (qM P (qd P gB 165<|.str lY 1038) 50 51)).set 12 (qI 111)++([qb bT (.seq #[] 0),iV,qb gC (.dict (qW [(qd P gN 980<|.str uW 971),(qd P pH 982<|.str Lw 981),(qd P gO 984<|.int 289 983)] (qV P 48 0 Lc) [(qr P gP 1030 618)]) 9),qb bT (.seq #[] 0),(qT<|qY 48 0 Lc),iH Lw 975 289 581 978,iI 583 580 uW 971]++(bN 48 0 985 585 uW 971++(bN 48 1 992 592 uW 971++(bN 48 2 1003 599 uW 971++(dJ 48 3 1012 606 uW 971++(bN 48 4 1018 611 uW 971++([qb bT (.seq (!(1029,aEq)) 0),qb gC (.dict (qW [(qd P gN 980<|.str uW 971),(qd P gO 984<|.int 289 983)] (qV P 48 0 Lc) [(qr P gP 1030 618),(qr P sX 1032 621),(qr P rM 1034 622),(qd P mS 1035 .none)]) 4),uY Lw 620 619 973,uZ 1031 620,tB 1033 620,iW 620,iX 620])))))))
def pG(P:Params):Xn:=((oH P).set 3 (qM P (qd P gB 165<|.str lY 1038) 51 52)).set 12 (qI 114)++([qb bT (.seq #[] 0),iV,qb gC (.dict (qW [(qd P gN 1047<|.str lY 1038),(qd P pH 1049<|.str Lx 1048),(qd P gO 1051<|.int 317 1050)] (qV P 50 0 Ld) [(qr P gP 1141 699)]) 15),qb bT (.seq #[] 0),(qT<|qY 50 0 Ld),iH Lx 1042 317 628 1045,iI 630 627 lY 1038]++(bN 50 0 1052 632 lY 1038++(dJ 50 1 1059 639 lY 1038++(bN 50 2 1065 644 lY 1038++(bN 50 3 1075 651 lY 1038++(bN 50 4 1087 658 lY 1038++(dJ 50 5 1097 665 lY 1038++(bN 50 6 1103 670 lY 1038++(bN 50 7 1113 677 lY 1038++(dJ 50 8 1121 684 lY 1038++(dJ 50 9 1127 689 lY 1038++(dJ 50 10 1133 694 lY 1038++([Az aEr 1139 aEs,qb gC (.dict (qW [(qd P gN 1047<|.str lY 1038),(qd P gO 1051<|.int 317 1050)] (qV P 50 0 Ld) [(qr P gP 1141 699),(qr P sX 1143 702),(qr P rM 1145 703),(qd P mS 1146 .none)]) 4),uY Lx 701 700 1040,uZ 1142 701,tB 1144 701,iW 701,iX 701])))))))))))))
def rL(P:Params):Xn:=((pG P).set 3 (qM P (qd P gB 165<|.str kF 1149) 52 53)).set 12 (qI 117)++([qb bT (.seq #[] 0),iV,qb gC (.dict (qW [(qd P gN 1158<|.str kF 1149),(qd P pH 1160<|.str Ly 1159),(qd P gO 1162<|.int 388 1161)] (qV P 52 0 Le) [(qr P gP 1211 741)]) 8),qb bT (.seq #[] 0),(qT<|qY 52 0 Le),iH Ly 1153 388 709 1156,iI 711 708 kF 1149]++(bN 52 0 1163 713 kF 1149++(bN 52 1 1175 720 kF 1149++(bN 52 2 1182 727 kF 1149++(bN 52 3 1189 734 kF 1149++([qb bT (.seq (!(1197,aGk,aEt,aEu,aEv,aEw,aGm,DX,aEx,aGp,aGi,aEy,aEz,aEm,aGj)) 0),qb gC (.dict (qW [(qd P gN 1158<|.str kF 1149),(qd P gO 1162<|.int 388 1161)] (qV P 52 0 Le) [(qr P gP 1211 741),(qr P sX 1213 744),(qr P rM 1215 745),(qd P mS 1216 .none)]) 4),uY Ly 743 742 1151,uZ 1212 743,tB 1214 743,iW 743,iX 743]))))))
def sW(P:Params):Xn:=((rL P).set 3 (qM P (qd P gB 165<|.str kF 1149) 53 54)).set 12 (qI 120)++([qb bT (.seq #[] 0),iV,qb gC (.dict (qW [(qd P gN 1226<|.str kF 1149),(qd P pH 1228<|.str Mb 1227),(qd P gO 1230<|.int 415 1229)] (qV P 53 0 Lf) [(qr P gP 1304 802)]) 11),qb bT (.seq #[] 0),(qT<|qY 53 0 Lf),iH Mb 1221 415 751 1224,iI 753 750 kF 1149]++(bN 53 0 1231 755 kF 1149++(bN 53 1 1243 762 kF 1149++(bN 53 2 1250 769 kF 1149++(bN 53 3 1259 776 kF 1149++(bN 53 4 1268 783 kF 1149++(bN 53 5 1278 790 kF 1149++(dJ 53 6 1287 797 kF 1149++([qb bT (.seq (!(1293,aFd,aFe,DX,aFf,aFa,aFg,aFb,aFh,aEp,aEo,aFc)) 0),qb gC (.dict (qW [(qd P gN 1226<|.str kF 1149),(qd P gO 1230<|.int 415 1229)] (qV P 53 0 Lf) [(qr P gP 1304 802),(qr P sX 1306 805),(qr P rM 1308 806),(qd P mS 1309 .none)]) 4),uY Mb 804 803 1219,uZ 1305 804,tB 1307 804,iW 804,iX 804])))))))))
def uT(P:Params):Xn:=((sW P).set 3 (qM P (qd P gB 165<|.str pI 1352) 57 58)).set 12 (qI 132)++(qH 55 1314 809 Ax 1312++(qH 56 1322 816 Ax 1312++(qH 57 1331 823 Ax 1312++(qH 58 1343 830 Ax 1312))))
def xE(P:Params):Xn:=((uT P).set 3 (qM P (qd P gB 165<|.str pI 1352) 62 63)).set 12 (qI 147)++([qb bT (.seq #[] 0),iV,qb gC (.dict #[(qd P gN 1361<|.str pI 1352),(qd P pH 1363<|.str Me 1362),(qd P gO 1365<|.int 492 1364),(qQ P 60 0 1375 850),(qQ P 60 1 1384 857),(qr P gP 1392 858)] 6),qb bT (.seq #[] 0),(qT [(494,849),(503,856)]),iH Me 1356 492 840 1359,iI 842 839 pI 1352]++(bN 60 0 1366 844 pI 1352++(bN 60 1 1376 851 pI 1352++([qb bT (.seq (!(1385,aFj,aFk,aGq,aFi,aFl,aFm,aFn)) 0),qb gC (.dict #[(qd P gN 1361<|.str pI 1352),(qd P gO 1365<|.int 492 1364),(qQ P 60 0 1375 850),(qQ P 60 1 1384 857),(qr P gP 1392 858),(qr P sX 1394 861),(qr P rM 1396 862),(qd P mS 1397 .none)] 4),uY Me 860 859 1354,uZ 1393 860,tB 1395 860,iW 860,iX 860]++(qH 61 1400 865 pI 1352++(qH 62 1410 872 pI 1352++(qH 63 1419 879 pI 1352++(qH 64 1428 886 pI 1352))))))))
def af(P:Params):Xn:=((xE P).set 3 (qM P (qd P gB 165<|.str lZ 1507) 70 71)).set 12 (qI 168)++(qH 65 1436 893 pI 1352++(qH 67 1446 900 iw 1444++(qH 68 1456 907 iw 1444++(qH 69 1465 914 iw 1444++(qH 70 1477 921 iw 1444++(qH 71 1486 928 iw 1444++(qH 72 1496 935 iw 1444++([tj 2 1509 1,tj 1 1511 3,tj 1 1513 6,tj 1 1515 2,tj 1 1517 1,qb bT (.seq #[(.ref 942),(.ref 943),(.ref 944),(.ref 945),(.ref 946)] 0)]))))))))
def ip(P:Params):Xn:=((af P).set 3 (qM P (qd P gB 165<|.str lZ 1507) 71 72)).set 12 (qI 171)++([qb bT (.seq #[] 0),iV,qb gC (.dict (qW [(qd P gN 1527<|.str lZ 1507),(qd P pH 1529<|.str Mg 1528),(qd P gO 1531<|.int 585 1530)] (qV P 75 0 Lh) [(qr P gP 1618 1024)]) 14),qb bT (.seq #[] 0),(qT<|qY 75 0 Lh),iH Mg 1522 585 951 1525,iI 953 950 lZ 1507,qb bT (.seq #[(.int 8 1532),(.int 2 1533),.none,.none,.none] 0)]++(eC 75 0 1534 956 lZ 1507++(bN 75 1 1548 963 lZ 1507++(bN 75 2 1557 970 lZ 1507++(bN 75 3 1565 977 lZ 1507++(dJ 75 4 1572 984 lZ 1507++(bN 75 5 1578 989 lZ 1507++(bN 75 6 1585 996 lZ 1507++(bN 75 7 1592 1003 lZ 1507++(bN 75 8 1599 1010 lZ 1507++(bN 75 9 1606 1017 lZ 1507++([Az aGo 1616 aGn,qb gC (.dict (qW [(qd P gN 1527<|.str lZ 1507),(qd P gO 1531<|.int 585 1530)] (qV P 75 0 Lh) [(qr P gP 1618 1024),(qr P sX 1620 1027),(qr P rM 1622 1028),(qd P mS 1623 .none)]) 4),uY Mg 1026 1025 1520,uZ 1619 1026,tB 1621 1026,iW 1026,iX 1026]))))))))))))
def sk(P:Params):Xn:=((ip P).set 3 (qM P (qd P gB 165<|.str iG 1633) 83 84)).set 12 (qI 207)++(qH 76 1626 1031 lZ 1507++(qH 78 1635 1038 iG 1633++(qH 79 1643 1045 iG 1633++(qH 80 1651 1052 iG 1633++(qH 81 1660 1059 iG 1633++(qH 82 1674 1066 iG 1633++(qH 83 1687 1073 iG 1633++(qH 84 1704 1080 iG 1633++(qH 85 1718 1087 iG 1633++(qh 86 1727 1094 iG 1633++(qh 87 1733 1099 iG 1633++(qH 88 1739 1104 iG 1633))))))))))))
def Av(P:Params):Xn:=((sk P).set 3 (qM P (qd P gB 165<|.str iG 1633) 93 94)).set 12 (qI 237)++(qH 89 1749 1111 iG 1633++(qh 90 1760 1118 iG 1633++(qH 91 1766 1123 iG 1633++(qH 92 1776 1130 iG 1633++(qH 93 1784 1137 iG 1633++(qH 94 1793 1144 iG 1633++(qH 95 1800 1151 iG 1633++(qH 96 1811 1158 iG 1633++(qH 97 1826 1165 iG 1633++(qH 98 1838 1172 iG 1633))))))))))
def tw1123721790843070001:Params->Heap:=λP=>Subtype.val (p:=λt=>t=(.mk (eM P).toArray (.mk [] [] [] 0 [] [] .false #[] [] 0 .false .false .false 0 [2000,10,10] .false 0 .true [] [] 0 .false))) ⟨_,by dsimp only[eM,qH,qh,bN,dJ,eC,eP,eQ,eV,List.set,List.cons_append,List.nil_append]⟩
theorem te1123721790843070001:!tw1123721790843070001:=rfl
def tw657089752120002864:Xm:=[(qS 0),(qS 1),(qS 2)]
theorem te657089752120002864:!tw657089752120002864:=rfl
def tw929130376466005384:Xm:=[(qS 3)]
theorem te929130376466005384:!tw929130376466005384:=rfl
def tw11810535253968453653:Xm:=[(qS 4)]
theorem te11810535253968453653:!tw11810535253968453653:=rfl
def tw14140634292233146428:Xm:=[(qS 5)]
theorem te14140634292233146428:!tw14140634292233146428:=rfl
def tw7925768530908975378:Xm:=[(qS 6)]
theorem te7925768530908975378:!tw7925768530908975378:=rfl
def tw13762283091147397577:Xm:=[(qS 7),(qS 8),(qS 9),(qS 10),(qS 11),(qS 12),(qS 13),(qS 14),(qS 15)]
theorem te13762283091147397577:!tw13762283091147397577:=rfl
def tw11623181419287751862:Xm:=[(qS 16),(qS 17),(qS 18),(qS 19),(qS 20),(qS 21),(qS 22),(qS 23),(qS 24),(qS 25)]
theorem te11623181419287751862:!tw11623181419287751862:=rfl
def tw17964666031407411075:Xm:=[(qS 26),(qS 27),(qS 28),(qS 29),(qS 30),(qS 31),(qS 32),(qS 33),(qS 34),(qS 35)]
theorem te17964666031407411075:!tw17964666031407411075:=rfl
def tw2325742208511401927:Xm:=[(qS 36)]
theorem te2325742208511401927:!tw2325742208511401927:=rfl
def tw3433530700359904440:Xm:=[(qS 37)]
theorem te3433530700359904440:!tw3433530700359904440:=rfl
def tw4184992682202363624:Xm:=[(qS 38)]
theorem te4184992682202363624:!tw4184992682202363624:=rfl
def tw13721131866368090014:Xm:=[(qS 39)]
theorem te13721131866368090014:!tw13721131866368090014:=rfl
def tw10428989324264322126:Xm:=[(qS 40)]
theorem te10428989324264322126:!tw10428989324264322126:=rfl
def tw10313097412837007176:Xm:=[(qS 41)]
theorem te10313097412837007176:!tw10313097412837007176:=rfl
def tw10113057254548518066:Xm:=[(qS 42)]
theorem te10113057254548518066:!tw10113057254548518066:=rfl
def tw5799725777362454093:Xm:=[(qS 43)]
theorem te5799725777362454093:!tw5799725777362454093:=rfl
def tw11098166145956703272:Xm:=[(qS 44),(qS 45)]
theorem te11098166145956703272:!tw11098166145956703272:=rfl
def tw15524005063833697032:Xm:=[(qS 46),(qS 47)]
theorem te15524005063833697032:!tw15524005063833697032:=rfl
def tw4558138019573520965:Xm:=[(qS 48),(qS 49)]
theorem te4558138019573520965:!tw4558138019573520965:=rfl
def tw1740148790984425138:Xm:=[(qS 50)]
theorem te1740148790984425138:!tw1740148790984425138:=rfl
def tw3113246720011855518:Xm:=[(qS 51),(qS 52)]
theorem te3113246720011855518:!tw3113246720011855518:=rfl
def tw6267394051069220689:Xm:=[(qS 53)]
theorem te6267394051069220689:!tw6267394051069220689:=rfl
def tw7309668613286356284:Xm:=[(qS 54),(qS 55),(qS 56),(qS 57),(qS 58),(qS 59)]
theorem te7309668613286356284:!tw7309668613286356284:=rfl
def tw15996376414460464763:Xm:=[(qS 60),(qS 61),(qS 62),(qS 63),(qS 64)]
theorem te15996376414460464763:!tw15996376414460464763:=rfl
def tw1982973081196692083:Xm:=[(qS 65),(qS 66),(qS 67),(qS 68),(qS 69),(qS 70),(qS 71),(qS 72),(qS 73),(qS 74)]
theorem te1982973081196692083:!tw1982973081196692083:=rfl
def tw7832315712038560846:Xm:=[(qS 75)]
theorem te7832315712038560846:!tw7832315712038560846:=rfl
def tw8260312275438990889:Xm:=[(qS 76),(qS 77),(qS 78),(qS 79),(qS 80),(qS 81),(qS 82),(qS 83),(qS 84),(qS 85),(qS 86),(qS 87),(qS 88)]
theorem te8260312275438990889:!tw8260312275438990889:=rfl
def tw11943467866292926139:Xm:=[(qS 89),(qS 90),(qS 91),(qS 92),(qS 93),(qS 94),(qS 95),(qS 96),(qS 97),(qS 98)]
theorem te11943467866292926139:!tw11943467866292926139:=rfl
def tw8672639268309257988:Params->Heap:=λP=>Subtype.val (p:=λt=>t=(.mk (Av P).toArray (.mk [] [] [] 0 [] [] .false #[] [] 0 .false .false .false 0 [2000,10,10] .false 0 .true [] [] 0 .false))) ⟨_,by dsimp only[Av,sk,ip,af,xE,uT,sW,rL,pG,oH,nI,mR,lX,lL,kX,kE,jV,jJ,iS,iF,hW,gU,gL,gH,gA,fR,fO,fB,eM,qH,qh,bN,dJ,eC,eP,eQ,eV,List.set,List.cons_append,List.nil_append]⟩
theorem te8672639268309257988:!tw8672639268309257988:=rfl
def tw3066083107922881150:PySem.Program:=Challenge.pw_aheadmill_k38_work_lasts
theorem te3066083107922881150:!tw3066083107922881150:=rfl
def tw9897145914084891619:Params->BT:=-eM
def tw3625438346350112805:Params->BT:=-fB
def tw7833186716781247984:Params->BT:=-fO
def tw11636367393847043251:Params->BT:=-fR
def tw5453645423777692872:Params->BT:=-gA
def tw2523434151498518665:Params->BT:=-gH
def tw8267160958813171743:Params->BT:=-gL
def tw12884092330759081624:Params->BT:=-gU
def tw6073630230058002552:Params->BT:=-hW
def tw9209066621414513:Params->BT:=-iF
def tw14735895002192223445:Params->BT:=-iS
def tw12891843010003645656:Params->BT:=-jJ
def tw15368754417111880219:Params->BT:=-jV
def tw13180262169607854327:Params->BT:=-kE
def tw17590965263857191904:Params->BT:=-kX
def tw7520563699075837672:Params->BT:=-lL
def tw7301106571415008642:Params->BT:=-lX
def tw14066035843000100533:Params->BT:=-mR
def tw8337611998617186949:Params->BT:=-nI
def tw15967169022487550408:Params->BT:=-oH
def tw10445791536099306304:Params->BT:=-pG
def tw7816932269049616461:Params->BT:=-rL
def tw16744820628311873518:Params->BT:=-sW
def tw15251560284305898888:Params->BT:=-uT
def tw11309629246937363173:Params->BT:=-xE
def tw10633438578515096936:Params->BT:=-af
def tw16715004321684276803:Params->BT:=-ip
def tw17077258992159450689:Params->BT:=-sk
def tw15082007022669571476:Params->BT:=-Av
theorem te9897145914084891619:!tw9897145914084891619:=rfl
theorem te3625438346350112805:!tw3625438346350112805:=rfl
theorem te7833186716781247984:!tw7833186716781247984:=rfl
theorem te11636367393847043251:!tw11636367393847043251:=rfl
theorem te5453645423777692872:!tw5453645423777692872:=rfl
theorem te2523434151498518665:!tw2523434151498518665:=rfl
theorem te8267160958813171743:!tw8267160958813171743:=rfl
theorem te12884092330759081624:!tw12884092330759081624:=rfl
theorem te6073630230058002552:!tw6073630230058002552:=rfl
theorem te9209066621414513:!tw9209066621414513:=rfl
theorem te14735895002192223445:!tw14735895002192223445:=rfl
theorem te12891843010003645656:!tw12891843010003645656:=rfl
theorem te15368754417111880219:!tw15368754417111880219:=rfl
theorem te13180262169607854327:!tw13180262169607854327:=rfl
theorem te17590965263857191904:!tw17590965263857191904:=rfl
theorem te7520563699075837672:!tw7520563699075837672:=rfl
theorem te7301106571415008642:!tw7301106571415008642:=rfl
theorem te14066035843000100533:!tw14066035843000100533:=rfl
theorem te8337611998617186949:!tw8337611998617186949:=rfl
theorem te15967169022487550408:!tw15967169022487550408:=rfl
theorem te10445791536099306304:!tw10445791536099306304:=rfl
theorem te7816932269049616461:!tw7816932269049616461:=rfl
theorem te16744820628311873518:!tw16744820628311873518:=rfl
theorem te15251560284305898888:!tw15251560284305898888:=rfl
theorem te11309629246937363173:!tw11309629246937363173:=rfl
theorem te10633438578515096936:!tw10633438578515096936:=rfl
theorem te16715004321684276803:!tw16715004321684276803:=rfl
theorem te17077258992159450689:!tw17077258992159450689:=rfl
theorem te15082007022669571476:!tw15082007022669571476:=rfl
end PySem.W.Fast
end
open_top PySem.W.Fast.te0 for PySem.Challenge.rw_aheadmill_k38_work_lasts
local macro_rules | `(command| $d:definition) => `(command| noncomputable $d:definition)
open Array renaming length_toList->xO,toList->JA,getElem?_toList->Ph
open Bool renaming true->aB,false->aG,eq_iff_iff->jx,false_ne_true->gR,and_eq_true->bS,false_eq_true->Cr,or_eq_true->jy,not_eq_true'->JB
open Exists renaming imp->xP
open False renaming elim->lP
open Function renaming comp_def->ke
open Iff renaming rfl->Pm
open Int renaming fmod_eq_emod_of_nonneg->JL,fdiv_eq_ediv_of_nonneg->Po,toNat_natCast->oR,le_trans->pM,lt_trans->bu,lt_or_eq_of_le->Pq,emod_nonneg->mF,emod_lt_of_pos->mV,one_mul->JO,pow_pos->JP,lt_of_lt_of_le->Pp,ediv_nonneg->Pn,eq_ofNat_of_zero_le->bo,toNat_of_nonneg->Ps,ne_of_lt->kh,lt_irrefl->bp,le_refl->jX,lt_succ->JM,ne_of_gt->JN,add_zero->JK
open List renaming set->fJ,cons_append->fG,nil_append->fI,range->Qm,filterMap_cons->mH,mem_cons_self->fV,mem_cons_of_mem->jD,mem_append_left->cc,getElem_inj->Dj,getElem?_set_self->mI,getElem?_set_ne->kZ,mem_append_right->iJ,size_toArray->hU,any_eq_false->JT,length_cons->iB,lookup->tI,map_cons->jC,length_map->aU,append_nil->rS,of_mem_zip->Qi,replicate->eR,length->KW,length_take->mJ,getElem?_append_right->Qa,getElem?_replicate->Di,getElem?_append_left->xU,getElem?_map->fH,getElem?_take_of_lt->aRv,mem_of_getElem?->bX,length_append->dO,length_replicate->Dk,length_drop->ux,length_set->pO,all_cons->jY,any_cons->rR,eraseIdx_cons_succ->aRt,foldl->Py,replicate_succ->Qn,flatten_cons->KG,append_assoc->JW,foldl_cons->Dh,eraseIdxIfInBounds_toArray->aRs,length_nil->Qd,filter_cons->jA,length_filter_le->pN,forIn_cons->Pz,lookup_cons->jB,any_eq_true->JU,getElem?_eq_getElem->eN,getElem_mem->KS,getElem_of_mem->Qc,Pairwise->JQ,pairwise_mergeSort->aRy,mergeSort_perm->LD,getElem?_toArray->KP,eq_nil_of_length_eq_zero->De,mem_cons->kL,not_mem_nil->kM,getElem?_eq_none->KL,drop_eq_getElem_cons->Pu,take_succ_cons->LH,drop_zero->JZ,take_of_length_le->Qr,zipIdx_cons->LI,zipIdx_nil->LJ,forIn_nil->KI,getElem?_eq_none_iff->KM,getElem?_zip_eq_some->KQ,zip_cons_cons->Dq,length_zip->KY,not_any_eq_all_not->LG,dropLast_eq_take->JX,all_eq_true->JS,filterMap_cons_some->KB,exists_cons_of_length_eq_add_one->xT,map_map->iC,getElem?_take->KO,map_drop->Qg,map_take->Qh,take_length->tJ,getD_eq_getElem?_getD->tH,flatten_replicate_singleton->KH,map_set->uy,map_replicate->LA,mem_append->LB,map_append->hJ,mem_or_eq_of_mem_set->Dp,any_map->JV,map_congr_left->Dl,filter_map->KD,find?_some->Px,mem_of_find?_eq_some->cf,find?_cons->nP,take_add_one->vO,filter_append->bz,filter_congr->Pw,getElem_take->KU,set_set->Qq,length_reverse->Qe,drop_length->Dd,getLast?_eq_getElem?->aRw,find?_append->Dg,nodup_append->LF,dropWhile_sublist->JY,dropLast_concat_getLast->aRq,getElem_map->KR,pairwise_cons->Qk,set_cons_zero->Qp,set_cons_succ->Qo,ext_getElem?->KA,getElem?_set->KN,pairwise_append->Qj,pairwise_singleton->Ql,set_eq_take_append_cons_drop->aRz,getElem?_concat_length->KJ,map->Qf,getElem?_of_mem->Qb,map_id->KZ,mem_filter->Dn,mem_of_getLast?->LC,length_filterMap_le->aRx,eq_of_mem_replicate->aRr,filter_cons_of_pos->KC,filter_cons_of_neg->aRu
open List.Nodup renaming length_le_of_subset->Pt
open List.Pairwise renaming nil->ki,imp->JR,sublist->vN
open List.Perm renaming eq_of_pairwise->aRp
open Nat renaming lt_of_lt_of_le->bC,lt_irrefl->lA,ne_of_lt->cA,le_trans->dF,le_of_lt->xV,ne_of_gt->lQ,le_refl->aV,le_of_eq->LM,lt_succ_self->dA,zero_le->jZ,le_succ->jL,min_le_right->LQ,add_comm->LK,le_of_not_lt->LN,lt_succ_of_lt->kN,not_lt_zero->Ds,le_add_right->pP,zero_lt_one->LV,le_succ_of_le->LO,le_total->Qt,min_eq_left->Dr,min_eq_right->Qu,sub_self->LS,ble->Qs,le_of_ble_eq_true->LL,lt_of_le_of_lt->uz,succ_lt_succ->xW,succ_le_succ->LU,min_le_left->LP,sub_le_sub_right->LR
open Ne renaming symm->mK
open OfNat renaming ofNat->LY
open Option renaming some->aA,none->aD,getD_none->LZ,isSome_map->Qv,bind_some->jM,map_some->xX,isSome->km,map_map->MB,map_eq_none_iff->MA,or_none->cg
open Option.some renaming inj->dR
open Prod renaming ext->Qw
open PyProof renaming noPylong_of_log2->ME
open PyProof.Rows renaming AllBare->vL,assignInOrder_nil->NC,assignInOrder_cons->Se,callWith_type1->ve,envOfC->vU,callWith_builtin1->aSa,slicePart_none->NK,slot_tuple_getitem->MC,subscriptTail_builtinR->NL,IntsAre->vM,intBits_le->Eh
open PyProof.Rows.IsTup renaming new->Cz
open PyProof.Rows.KTD renaming tabLook->Dw,flatLooks->Qy,hashesOf->Dv
open PyProof.V.Flat renaming int->MD
open PySem renaming Arguments->Pe,Scope->gJ,Params->bU,Program->cC,Heap->bH,World->bV,Paired->ko,sysModules->tP,tupleKind->dg,Within->Rx,mainGlobals->iK,builtinsNs->Sf,bootBuiltins->mW,Around->cK,Shared->aI,wpAny->aS,storeName->Sw,Expr->aK,model->aZ,backTo->lR,starEach->eI,wpAny_mono->vp,wpAny_Name->Ta,wpAny_loadName_local->NU,wpAny_loadName_cell->NT,wpAny_execs_nil->Tb,swapsWith->vW,assign->cu,assignInOrder->NB,assignEach->rW,Operator->rT,inplaceOp->Sm,wpAny_assign_Name->NO,holding->lj,standAt->Ej,wpAny_bind->aM,wpAny_holding->oT,wpAny_standAt->mf,swapsWithSole->NM,swappedStores->lq,wpAny_pure->cB,wpAny_newObj_type->tQ,wpAny_rule->lz,wpAny_bindName->NQ,PassesOwn->vd,wpAny_passesOwn->dq,pyNext->tO,letOwnedTupleGo->So,pyIter->vn,rawInt->yF,wpAny_pyNext_list_item->NY,wpAny_pyNext_list_end->Te,foldedSetIterable->Eg,binaryOp->eY,unaryOp->Ek,compareOp->dG,CmpOp->pL,behindInMarks->vj,wpAny_truthy_bool->du,lastMarks->Ei,sizeLine_eq->rX,getMethod->Sk,codeAny->tM,attributeBase->lh,plainObj_wpAny_Assign_Attribute->aTz,FuncData->eW,BindsTo->jw,wpAny_call->vo,codeAny_mono->vk,wpAny_Call_Name_kw->dh,Keyword->tG,backToKw->yC,keywordEach->yE,NameKind->tK,bindL->cw,bindC->cv,cellsFrom->Sh,mem_of_lookup->vh,concat_meets->Sj,noFill_tuple_add->Sr,seq_tuple_add->Sv,IsPart->xS,wpAny_field->kO,getItem->cy,wpAny_callSpecial?_slot->di,wpAny_call_entry->yH,seqIndex_of->Su,subscripted->Sy,sliceBounds->da,call_list_seq->NG,typeIs_int->Sz,wpAny_Call_method_late->NN,call_meets->Ee,callerA->yD,call->Ry,valueAt->yG,atKey->yB,tupleKind_room_in1->lu,call_meetsIn->cx,closureFor->Si,wpAny_comprehension_free->NR,wpAny_specialOf->NZ,wpAny_pyIter_list->ly,Fin->Rg,seqItems?->cz,codeAny_call_builtin->NH,wpAny_newList->Tc,codeAny_builtin->Ef,wpAny_seqItems->nT,wpAny_tryCatch->vt,argBest->vT,wpAny_updateSeq->Tf,wpAny_letGo->dk,plainId_quiet->Ss,intItems->vm,numAt->vV,field->tN,wpAny_setField->Em,firstArgMember->NI,wpAny_of_eq->Td,wpAny_handled->NS,wpAny_pyIter_tuple->vq,callType_new->ND,wpAny_nextOf_list_end->NV,ZipApart->cq,IsZip->mG,IsPair->gZ,wpAny_setField_rec->md,wpAny_onRaise->El,wpAny_updateSeq_pair->Th,wpAny_attempt->NP,wpAny_pyIter_enum->NW,wpAny_pyIter_zip->NX,methodCallForm->Sq,methodCallPos->NJ,strKind->Rz,Str->cY
open PySem.Around renaming under_plainId->Pf
open PySem.AutoListH renaming list___mul___list_int_3->aRo
open PySem.AutoSeq1 renaming wpAny_loadPart'->Cq
open PySem.Builtin renaming bitAnd->rP,bitOr->jz,bitXor->kb
open PySem.Builtin.List renaming listTooLong->JC
open PySem.Builtin.Slice renaming sliceAdjust->Pj,slicePlaces->Cs
open PySem.Builtin.SmallTypes renaming nextOf->rO,ownedTupleIsFree->Ct,ownedTupleHandOut->JD
open PySem.Calls renaming Name_function_global->JE,callWith_builtin->Pk,evalArgs_plain->JF
open PySem.Challenge renaming pw_aheadmill_k38_work_lasts->aSb,rw_aheadmill_k38_work_lasts->MF
open PySem.Code renaming quiet_builtin->JG
open PySem.EqMixed renaming eq_bool_str->aSc,eq_int_str->aSd,eq_str_bool->aSe,eq_str_int->aSf,ne_bool_str->aSg,ne_int_str->aSh,ne_str_bool->aSi,ne_str_int->aSj
open PySem.EqNone renaming eq_none_none->aSo,eq_none_bool->aSm,eq_none_int->aSn,eq_none_str->aSp,eq_bool_none->aSk,eq_int_none->aSl,eq_str_none->aSq,ne_none_none->aSv,ne_none_bool->aSt,ne_none_int->aSu,ne_none_str->aSw,ne_bool_none->aSr,ne_int_none->aSs,ne_str_none->aSx
open PySem.F renaming slot_tuple_add->Rc,entry_tuple_add->Ra,args_tuple_add_2->Qz,slot_int_rmul->JJ,args_dict_pop_2->aSy,args_dict_pop_3->MJ,slot_dict_pop->Rb,entry_dict_pop->MK,slot_dict_get->ku,entry_dict_get->Dx,args_dict_get_2->MG,args_dict_get_3->MH,slot_dict_setdefault->MP,entry_dict_setdefault->aTa,args_dict_setdefault_3->aSz,plain_min->MO,entry_min->ML,entry_min_loop->Dy,plain_min_loop->kr,slot_tuple_iterator_next->xQ,entry_tuple_iterator_next->Cv,args_tuple_iterator_next_1->Cu,slot_zip_next->Cw,entry_zip_next->JI,args_zip_next_1->JH,plainAttrs_list->MN,slot_list_append->aTb,type_list_append->aTd,plainAttrs_dict->MM,type_dict_get->MQ,type_dict_setdefault->aTc
open PySem.Heap renaming lt_size->cW,SameBut->xR,get?_push_of_some->cT,get?_push_size->fU,size_push->rQ,get?_update_self->uv,get?_update_other->bj,DictAt->Pl,ExtBut->kg
open PySem.Heap.SameBut renaming update->Cy
open PySem.NameKind renaming free->jE,cell->kj
open PySem.Obj renaming mapSeq->vc,isFreed_of_fields->LX,data_mapFields->Dt,cls_mapFields->LW
open PySem.Paired renaming length->Du
open PySem.PyData renaming str->Qx,int->rV
open PySem.SeqAt.EqAt renaming int_str->MW,str_int->MX
open PySem.Shared renaming heap->Sa
open PySem.Spec renaming lookup->MR
open PySem.Str renaming ofString->vR
open PySem.Value renaming isStrOf->MZ,int->vS,str->nS,none->vi,bool->yA,ref->lB,type->Sb
open PySem.W renaming Frag->bI,instObj->xZ,methodObj->MV,lookIn->Ec,plainGet->vg,hasDictIn->Eb,findIn->nQ,handedIn->Ea,plainGet_of->Rr,isFn->vf,plainOver->Rt,takerIn->Rv,makesIn->Ro,emptyDict->xY,keepIn->tL,callWith_K->Dz,callWith_K0->Rj,cellsFrom_some->MT,fnOf->ky,codeIn->Rk,OpenLaw->Ri,WalkO->MS,kdl_dict->MU,kitOne->Rn,kia_one->cj,specialIn->Ed,readsIn->Ru,findCls->Rm,nsIn->vQ,mg_of->vP
open PySem.W.SL renaming s2766695959194262286x5->aTn,s5856160107412720595x4->aTs,s658472552662922059x5->aTw,s14018661285674007319x4->aTj,s7097527257260152453x26->aTx,s7174869446012820540x8->aTy,s6070975301684473832x10->aTu,s11030030927630378310x26->aTg,s10062305145149207511x16->aTe,s17162191345867700912x4->aTl,s5946037652744460706x9->aTt,s4278001404047624695x13->aTp,s2742458400755230247x6->aTm,s4209523147560561109x18->aTo,s14755015743595814543x17->aTk,s10220274742760427390x26->aTf,s4290257624100764138x5->aTq,s4860613602091757760x24->aTr,s11443829558043349243x14->aTh,s6511155373996960695x17->aTv,s12411053484034534018x21->aTi
open PySem.Walks renaming dictKeys->NA
open Subtype renaming val->eX
open Sum renaming inl->nR,inr->ck
open Sum.inl renaming inj->MY
open True renaming intro->oS
set_option hygiene false
namespace L2
open PySem PySem.Spec PyProof.Rows
variable {A:cK}{C a b dx it:Addr}{E Q:Value->aI->Prop}{N ps:Xo}{P prog:cC}{apos p pos pos':Pos}{base h h':bH}{body:Xm}{c e tg:aK}{d':Drawn}{es:List aK}{fd:eW}{fp:Xk}{g':Array GenState}{i j t':Nat}{kw:Xx}{m qual x:Str}{mA mg:Str->Xl}{op':pL}{outer:YG}{pins:Hf}{s s':aI}{scope:gJ}{u:Value}{us:He}{w:bV}
abbrev aP:=Sum Int Str
def zV:aP->Value->Bool
 |.inl k,v=>Value.isInt k v
 |.inr x,v=>MZ x v
def E9(w:bV):aP->Int
 |.inl k=>hashInt k
 |.inr x=>hashStr w x
theorem sN:∀{k:aP}{v:Value},zV k v=aB->(∃i t,k=nR i/\v=vS i t)\/(∃x t,k=ck x/\v=nS x t)
 |.inl i,v,h=>by obtain⟨t,e⟩:=Value.isInt_shape h;exact .inl ⟨i,t,rfl,e⟩
 |.inr x,v,h=>by obtain⟨t,e⟩:=Value.isStrOf_shape h;exact .inr ⟨x,t,rfl,e⟩
theorem F0(i:Int)(t:Tok):zV (.inl i) (.int i t)=aB:=by simp[zV,Value.isInt]
theorem F1(x:Str)(t:Tok):zV (.inr x) (.str x t)=aB:=by simp[zV,MZ]
theorem F2(a b:Int):decide ((nR a:aP)=nR b)=(a==b):=by
 by_cases e:a=b
 .subst e;simp
 .have h:¬(nR a:aP)=nR b:=λq=>e (MY q);rw[decide_eq_false h];exact(beq_eq_false_iff_ne.mpr e).symm
theorem F5(a b:Str):decide ((ck a:aP)=ck b)=decide (a=b):=by
 by_cases e:a=b
 .simp
 .have h:¬(ck a:aP)=ck b:=λq=>e (Sum.inr.inj q);rw[decide_eq_false h,decide_eq_false e]
theorem F3(a:Int)(b:Str):decide ((nR a:aP)=ck b)=aG:=decide_eq_false (nofun)
theorem F4(a:Str)(b:Int):decide ((ck a:aP)=nR b)=aG:=decide_eq_false (nofun)
def gK(prog:cC)(w:bV):PySem.KeyKind prog w aP where
 is:=zV
 hash:=E9 w
 inj:=λv a b ha hb=>by
  rcases sN ha with⟨i,t,rfl,rfl⟩|⟨x,t,rfl,rfl⟩
  .rcases sN hb with⟨j,u,rfl,e⟩|⟨y,u,rfl,e⟩
   .injection e with e1 _;rw[e1]
   .exact nomatch e
  .rcases sN hb with⟨j,u,rfl,e⟩|⟨y,u,rfl,e⟩
   .exact nomatch e
   .injection e with e1 _;rw[e1]
 byValue:=λk v h=>by rcases sN h with⟨i,t,rfl,rfl⟩|⟨x,t,rfl,rfl⟩<;>rfl
 pyHash:=λhv h=>by
  rcases sN hv with⟨i,t,rfl,rfl⟩|⟨x,t,rfl,rfl⟩
  .exact wpAny_pyHash_int h
  .exact wpAny_pyHash_str h
 eqBool:=λhu hv h=>by
  rcases sN hu with⟨i,t,rfl,rfl⟩|⟨x,t,rfl,rfl⟩
  .rcases sN hv with⟨j,u,rfl,rfl⟩|⟨y,u,rfl,rfl⟩
   .rw[F2]at h;exact wpAny_eqBool_int h
   .rw[F3]at h;exact MW i t y u _ _ _ _ h
  .rcases sN hv with⟨j,u,rfl,rfl⟩|⟨y,u,rfl,rfl⟩
   .rw[F4]at h;exact MX x t j u _ _ _ _ h
   .rw[F5]at h;exact wpAny_eqBool_str h
 «strs»:=λk x t v h=>by
  rcases sN h with⟨i,u,rfl,e⟩|⟨y,u,rfl,e⟩
  .exact nomatch e
  .injection e with e1 _;subst e1;cases v<;>rfl
theorem M1(prog:cC)(w:bV)(i:Int)(t:Tok):(gK prog w).is (.inl i) (.int i t)=aB:=F0 i t
theorem M3(prog:cC)(w:bV)(x:Str)(t:Tok):(gK prog w).is (.inr x) (.str x t)=aB:=F1 x t
inductive V where
 |aH|bl (b:Bool)|int (i:Int)|str (x:Str)|mY (b:Array UInt8)|yf (b:UInt64)|ref (a:Addr)|ty (n:String)
 deriving DecidableEq
abbrev _root_.Hg:=List V
abbrev _root_.Xw:=List (Str×V)
variable {v y:V}{vs xs:Hg}
def RelV:V->Value->Prop
 |.aH,u=>u=vi
 |.bl b,u=>u=yA b
 |.int i,u=>∃t,u=vS i t
 |.str x,u=>∃t,u=nS x t
 |.mY b,u=>∃t,u=Value.bytes b t
 |.yf b,u=>∃t,u=Value.float b t
 |.ref a,u=>u=lB a
 |.ty n,u=>u=Sb n
abbrev Vals:Hg->He->Prop:=ko RelV
theorem Vals.length{xs:Hg}{us:He}(r:Vals xs us):xs.length=us.length:=Du r
theorem Vals.get:∀{xs:Hg}{us:He}{i:Nat}{x:V},Vals xs us->xs[i]?=aA x->∃u,us[i]?=aA u/\RelV x u
 |_,_,_,_,.nil,e=>by simp at e
 |_,_,0,_,.cons r _,e=>by simp at e;subst e;exact⟨_,rfl,r⟩
 |_,_,i+1,x,.cons _ t,e=>by obtain⟨u,h1,h2⟩:=Vals.get t (by simpa);exact⟨u,by simpa using h1,h2⟩
theorem Vals.set{x:V}{u:Value}(r:RelV x u):∀{xs:Hg}{us:He} (i:Nat),Vals xs us->Vals (xs.set i x) (us.set i u)
 |_,_,_,.nil=>.nil
 |_,_,0,.cons _ t=>.cons r t
 |_,_,i+1,.cons q t=>.cons q (Vals.set r i t)
theorem Vals.append:∀{xs ys:Hg}{us ws:He},Vals xs us->Vals ys ws->Vals (xs++ys) (us++ws)
 |_,_,_,_,.nil,s=>s
 |_,_,_,_,.cons r t,s=>.cons r (Vals.append t s)
theorem Vals.take:∀{xs:Hg}{us:He} (n:Nat),Vals xs us->Vals (xs.take n) (us.take n)
 |_,_,0,_=>.nil
 |_,_,_+1,.nil=>.nil
 |_,_,n+1,.cons r t=>.cons r (Vals.take n t)
theorem Vals.drop:∀{xs:Hg}{us:He} (n:Nat),Vals xs us->Vals (xs.drop n) (us.drop n)
 |_,_,0,r=>r
 |_,_,_+1,.nil=>.nil
 |_,_,n+1,.cons _ t=>Vals.drop n t
theorem Vals.none_of:∀{xs:Hg}{us:He}{i:Nat},Vals xs us->xs[i]?=aD->us[i]?=aD:=λ{xs us i} r e=>by have h1:=r.length;have h2:xs.length<=i:=List.getElem?_eq_none_iff.mp e;exact List.getElem?_eq_none_iff.mpr (by omega)
def iE:Option V->Xl->Prop
 |some v,aA u=>RelV v u
 |none,aD=>True
 |_,_=>False
def KV{κ:Type}:List (κ×V)->List (κ×Value)->Prop:=ko λ(p:κ×V) (q:κ×Value)=>p.1=q.1/\RelV p.2 q.2
def kV:aP->V
 |.inl i=>.int i
 |.inr x=>.str x
inductive HO where
 |lst (xs:Hg)
 |tup (xs:Hg)
 |dK (kvs:List (aP×V))|dT (kvs:List (List aP×V))
 |set (S:Int->Bool) (n:Nat)
 |ins (C dx:Addr) (fs:Xw)
 |own (x:Addr)
 |xd (fs:Xw)
 |met (f x:Addr)
 |Mu (lo hi:Int)
 |dC (o:Obj) (u:HO)
 |ay (ps:Xq)
 |ext (φ:bH->Prop)
variable {o:HO}
abbrev Hp:=Addr->Option HO
variable {H H':Hp}
def bF(H:Hp)(a:Addr)(o:HO):Hp:=λb=>if b=a then aA o else H b
theorem gQ:bF H a o a=aA o:=by unfold bF;rw[if_pos rfl]
theorem bZ(h:b≠a):bF H a o b=H b:=by unfold bF;rw[if_neg h]
theorem rJ{u:HO}(h:H a=aA o)(h':H b=aA u)(d:o≠u):a≠b:=by intro e;subst e;rw[h]at h';exact d<|dR h'
theorem jS(h:H a=aA o)(h':H b=aD):a≠b:=by intro e;subst e;rw[h]at h';cases h'
section
variable (P:cC)(w:bV)
def hV(H:Hp)(h:bH)(a:Addr):HO->Prop
 |.lst xs=>xs.length<=sizeLine/\∃(its:He) (n:Nat),Vals xs its/\h.get? a=aA { cls:=.type "list",data:=.seq its.toArray n }
 |.tup xs=>xs.length<=sizeLine/\∃its:He,Vals xs its/\IsTup h a its.toArray
 |.dK kvs=>kvs.length<=sizeLine/\(a==tP)=aG/\∃vs,KV kvs vs/\h.DictOf (gK P w) a vs
 |.dT kvs=>kvs.length<=sizeLine/\(a==tP)=aG/\∃xs:List (List aP×Addr×Value),
  ko (λ(p:List aP×V) (q:List aP×Addr×Value)=>p.1=q.1/\H q.2.1=aA (.tup<|p.1.map kV)/\RelV p.2 q.2.2) kvs xs /\
  ∃o es ep,h.get? a=aA o/\o.ExactDict/\o.data = .dict es ep/\es.toList=xs.map (entryOfKey<|dg<|gK P w)/\(xs.map (·.1)).Nodup
 |.set S n=>h.SetOf (intKind P w) a S n
 |.ins C dx fs=>H dx=aA (.own a)/\fs.length<=1000/\dx≠a/\h.get? a=aA (xZ C dx) /\
  ∃mA,h.Ns1 dx mA/\(∀f,iE (fs.lookup f) (mA f))/\Rx mA (fs.map (·.1))
 |.own _=>∃o,h.get? a=aA o
 |.xd fs=>∃mA,h.Ns1 a mA/\∀f,iE (fs.lookup f) (mA f)
 |.Mu lo hi=>∃t u v,h.get? a=aA { cls:=.type "range",data:=.fields #[.int lo t,.int hi u,.int 1 v] }
 |.dC o u=>h.get? a=aA o/\hV H h a u
 |.ay ps=>h.get? a=aA { cls:=.none,data:=.fields ps }
 |.met f x=>h.get? a=aA (MV (.ref f)<|.ref x)
 |.ext φ=>φ h/\(∃o,h.get? a=aA o)/\∀h1 h2:bH,φ h1->(∀o,h1.get? a=aA o->h2.get? a=aA o)->φ h2
def fA(H:Hp)(h:bH):Prop:=∀a o,H a=aA o->hV P w H h a o
end
theorem hV.lt(x:hV P w H h a o):a<h.objs.size:=by
 cases o with
 |lst xs=>obtain⟨_,_,_,_,e⟩:=x;exact cW e|tup xs=>obtain⟨_,_,_,p⟩:=x;exact p.lt|dK kvs=>obtain⟨_,_,_,_,o,_,_,e,_⟩:=x;exact cW e|dT kvs=>obtain⟨_,_,_,_,o,_,_,e,_⟩:=x;exact cW e|set S n=>obtain⟨o,_,_,_,e,_⟩:=x;exact cW e|ins C dx fs=>obtain⟨_,_,_,e,_⟩:=x;exact cW e|own y=>obtain⟨_,e⟩:=x;exact cW e|xd fs=>obtain⟨_,⟨_,_,_,e,_⟩,_⟩:=x;exact cW e|Mu lo hi=>obtain⟨_,_,_,e⟩:=x;exact cW e|dC ob u=>obtain⟨e,_⟩:=x;exact cW e|ay ps=>exact cW<|x|met f y=>exact cW<|x|ext φ=>obtain⟨_,⟨_,e⟩,_⟩:=x;exact cW e
theorem Paired.Jq{α β:Type}{F G:α->β->Prop}:∀{l₁:List α}{l₂:List β},ko F l₁ l₂->(∀a b,F a b->G a b)->ko G l₁ l₂
 |_,_,.nil,_=>.nil
 |_,_,.cons r t,f=>.cons (f _ _ r) (Paired.Jq t f)
theorem hV.vC(x:hV P w H h a o)(k:∀b u,(b=a\/H b=aA (.own a))->h.get? b=aA u->h'.get? b=aA u)
  (ho:∀b,H b=aA (.own a)->H' b=aA (.own a)) (ht:∀b xs,H b=aA (.tup xs)->H' b=aA (.tup xs)):hV P w H' h' a o:=by
 induction o with
 |lst xs=>obtain⟨z,its,n,r,e⟩:=x;exact⟨z,its,n,r,k _ _ (.inl rfl) e⟩|tup xs=>obtain⟨z,its,r,ob,e,c⟩:=x;exact⟨z,its,r,ob,k _ _ (.inl rfl) e,c⟩|dK kvs=>obtain⟨z,y,vs,r,ob,es,ep,e,c⟩:=x;exact⟨z,y,vs,r,ob,es,ep,k _ _ (.inl rfl) e,c⟩|dT kvs=>obtain⟨z,y,xs,r,ob,es,ep,e,c⟩:=x;exact⟨z,y,xs,Paired.Jq r λp q z=>⟨z.1,ht _ _ z.2.1,z.2.2⟩,ob,es,ep,k _ _ (.inl rfl) e,c⟩
 |set S n=>obtain⟨ob,es,ep,t,e,c⟩:=x;exact⟨ob,es,ep,t,k _ _ (.inl rfl) e,c⟩|ins C dx fs=>obtain⟨d,z,ne,e,mA,⟨od,es,ep,e2,c⟩,r⟩:=x;exact⟨ho _ d,z,ne,k _ _ (.inl rfl) e,mA,⟨od,es,ep,k _ _ (.inr d) e2,c⟩,r⟩
 |own y=>obtain⟨ob,e⟩:=x;exact⟨ob,k _ _ (.inl rfl) e⟩|xd fs=>obtain⟨mA,⟨od,es,ep,e,c⟩,r⟩:=x;exact⟨mA,⟨od,es,ep,k _ _ (.inl rfl) e,c⟩,r⟩|Mu lo hi=>obtain⟨t,u,v,e⟩:=x;exact⟨t,u,v,k _ _ (.inl rfl) e⟩|dC ob u ih=>obtain⟨e,q⟩:=x;exact⟨k _ _ (.inl rfl) e,ih q⟩|ay ps=>have e:h.get? a=aA { cls:=.none,data:=.fields ps }:=x;exact k a _ (.inl rfl) e
 |met f y=>have e:h.get? a=aA (MV (.ref f)<|.ref y):=x;exact k a _ (.inl rfl) e
 |ext φ=>obtain⟨p,⟨o,e⟩,st⟩:=x;exact⟨st _ _ p λo q=>k _ _ (.inl rfl) q,⟨o,k _ _ (.inl rfl) e⟩,st⟩
theorem fA.lt(x:fA P w H h)(e:H a=aA o):a<h.objs.size:=(x a o e).lt
theorem fA.fresh(x:fA P w H h)(e:h.objs.size<=a):H a=aD:=by
 cases q:H a with
 |none=>rfl|some u=>exact absurd (bC (x.lt q) e)<|lA _
theorem fA.kept(x:fA P w H h)(k:∀b u,h.get? b=aA u->h'.get? b=aA u):fA P w H h':=λa o e=>
 (x a o e).vC (λb u _ q=>k b u q) (λ_ q=>q) λ_ _ q=>q
theorem fA.laid(x:fA P w H h)(k:∀b u,h.get? b=aA u->h'.get? b=aA u)(hp:h.objs.size<=a)(new:hV P w (bF H a o) h' a o):fA P w (bF H a o) h':=λb u e=>by
 have hn:=x.fresh hp;by_cases hb:b=a
 .subst hb;rw[gQ]at e;cases e;exact new
 .rw[bZ hb]at e;exact(x b u e).vC (λc v _ q=>k c v q) (λc q=>by rw[bZ (jS q hn)];exact q) λc xs q=>by rw[bZ (jS q hn)];exact q
def Rd(H:Hp)(a:Addr)(u:HO):Prop:=H a=aA u\/∃o,H a=aA (.dC o u)
theorem Rd.ok{u:HO}(r:Rd H a u)(x:fA P w H h):hV P w H h a u:=by
 rcases r with r|⟨o,r⟩
 .exact x a u r
 .obtain⟨_,q⟩:=x a _ r;exact q
def ee:Option HO->Prop
 |some (.lst _)=>True
 |some (.dK _)=>True
 |some (.dT _)=>True
 |some (.set _ _)=>True
 |some (.ins _ _ _)=>True
 |some (.ext _)=>True
 |_=>False
section
variable {x e:Addr}{o':HO}
theorem fA.write(ok:fA P w H h)(mu:ee (H x))(he:e=x\/H e=aA (.own x))(k:∀b u,b≠e->h.get? b=aA u->h'.get? b=aA u)(heo:∃u,h'.get? e=aA u)
  (new:hV P w (bF H x o') h' x o'):fA P w (bF H x o') h':=λb u q=>by
 have nown:∀c y,H c=aA (.own y)->c≠x:=λc y r z=>by subst z;rw[r]at mu;exact mu
 have ntup:∀c xs,H c=aA (.tup xs)->c≠x:=λc xs r z=>by subst z;rw[r]at mu;exact mu
 by_cases hb:b=x
 .subst hb;rw[gQ]at q;cases q;exact new
 .rw[bZ hb]at q;by_cases hbe:b=e
  .have q':H b=aA (.own x):=by
    rcases he with z|z
    .exact absurd (hbe.trans z) hb
    .rw[hbe];exact z
   rw[q]at q';cases q';obtain⟨v,hv⟩:=heo;exact⟨v,hbe▸hv⟩
  .refine(ok b u q).vC (λc v hc r=>k c v ?_ r) (λc r=>by rw[bZ (nown c b r)];exact r) λc xs r=>by rw[bZ (ntup c xs r)];exact r
   rcases hc with rfl|hc
   .exact hbe
   .rintro rfl
    rcases he with z|z
    .exact nown c b hc z
    .rw[hc]at z;cases z;exact hb rfl
end
structure Un(fs ex:Xk)(H H':Hp)(h h':bH):Prop where
 keep:∀b o,h.get? b=aA o->H b=aD->b∉fs->b∉ex->h'.get? b=aA o
 slot:∀b o,h.get? b=aA o->H b=aD->b∈fs->b∉ex->∃sl,h'.get? b=aA { o with slots:=sl }
 free:∀b o,h.get? b=aA o->H b=aD->b∉ex->H' b=aD
 there:∀b o,h.get? b=aA o->b∉ex->∃o',h'.get? b=aA o'
 vH:∀b xs,H b=aA (.tup xs)->H' b=aA (.tup xs)
 qX:∀b o u,H b=aA (.dC o u)->H' b=aA (.dC o u)
 vF:∀b ps,H b=aA (.ay ps)->∃more,H' b=aA (.ay<|ps++more)
section
variable {fs fs' ex ex':Xk}{H1 H2:Hp}{h1 h2:bH}{x e:Addr}
theorem Un.any(u:Un fs ex H H1 h h1){ob:Obj}(q:h.get? b=aA ob)(n:H b=aD)(hx:b∉ex):∃sl,h1.get? b=aA { ob with slots:=sl }:=by
 by_cases hb:b∈fs
 .exact u.slot b ob q n hb hx
 .exact⟨ob.slots,u.keep b ob q n hb hx⟩
theorem Un.kept(k:∀b u,h.get? b=aA u->h'.get? b=aA u):Un fs ex H H h h':=
 ⟨λb ob q _ _ _=>k b ob q,λb ob q _ _ _=>⟨ob.slots,k b ob q⟩,λ_ _ _ n _=>n,λb ob q _=>⟨ob,k b ob q⟩,λ_ _ q=>q,λ_ _ _ q=>q,λ_ ps q=>⟨#[],by rw[q];simp⟩⟩
theorem Un.refl:Un fs ex H H h h:=Un.kept λ_ _ q=>q
theorem Un.laid(k:∀b u,h.get? b=aA u->h'.get? b=aA u)(hp:h.objs.size<=a)(hn:H a=aD):Un fs ex H (bF H a o) h h' where
 keep:=λb u q _ _ _=>k b u q
 slot:=λb u q _ _ _=>⟨u.slots,k b u q⟩
 free:=λb u q n _=>by rw[bZ (cA<|bC (cW q) hp)];exact n
 there:=λb u q _=>⟨u,k b u q⟩
 vH:=λb xs q=>by rw[bZ (jS q hn)];exact q
 qX:=λb u xs q=>by rw[bZ (jS q hn)];exact q
 vF:=λb ps q=>⟨#[],by rw[bZ (jS q hn),q];simp⟩
theorem Un.write(mu:ee (H x))(he:e=x\/H e=aA (.own x))(k:∀b u,b≠e->h.get? b=aA u->h'.get? b=aA u)(heo:∃u,h'.get? e=aA u):Un fs ex H (bF H x o) h h':=by
 have hx:∀b,H b=aD->b≠x:=λb n z=>by subst z;rw[n]at mu;exact mu
 have hb:∀b,H b=aD->b≠e:=λb n z=>by
  subst z;rcases he with r|r
  .exact hx b n r
  .rw[n]at r;cases r
 have hm:∀b u,H b=aA u->¬ee (aA u)->b≠x:=λb u q nm z=>by subst z;rw[q]at mu;exact nm mu
 refine⟨λb u q n _ _=>k b u (hb b n) q,λb u q n _ _=>⟨u.slots,k b u (hb b n) q⟩,λb u q n _=>by rw[bZ (hx b n)];exact n,λb u q _=>?_,
  λb xs q=>by rw[bZ (hm b _ q λz=>z)];exact q,λb u xs q=>by rw[bZ (hm b _ q λz=>z)];exact q,λb ps q=>⟨#[],by rw[bZ (hm b _ q λz=>z),q];simp⟩⟩
 by_cases hbe:b=e
 .subst hbe;exact heo
 .exact⟨u,k b u hbe q⟩
end
def Bs(h:bH)(H:Hp):Xk:=(Qm h.objs.size).filter λa=>(H a).isSome
def uK(h:bH)(H:Hp):bH:=W.hideAll h (Bs h H)
theorem A7(h:bH)(H:Hp):(uK h H).objs.size=h.objs.size:=W.hideAll_size _ _
theorem A6{o:Obj}(e:h.get? b=aA o)(n:H b=aD):(uK h H).get? b=aA o:=
 W.hideAll_get _ e λhm=>by have q:(H b).isSome=aB:=(List.mem_filter.mp hm).2;rw[n]at q;simp at q
theorem P6{o:Obj}(e:(uK h H).get? b=aA o):h.get? b=aA o/\H b=aD:=by
 have e':h.get? b=aA o:=W.of_hideAll (Bs h H) e;refine⟨e',?_⟩;cases q:H b with
 |none=>rfl|some x=>have hm:b∈Bs h H:=List.mem_filter.mpr ⟨List.mem_range.mpr (cW e'),by simp[q]⟩;have z:(uK h H).get? b=aD:=W.hideAll_none (Bs h H) hm;rw[z]at e;cases e
structure Mod(K:bI)(mg:Str->Xl)(base:bH):Prop where
 gq:K.In base
 glob:base.Ns iK mg
 blt:∃mb,base.Ns Sf mb/\∀x:Str,x≠"__name__"->mb x=mW x
 nolimit:base.NoLimit
structure Cx where
 prog:cC
 w:bV
 K:bI
 mg:Str->Xl
 base:bH
 A:cK
 N:Xo
 s₀:aI
 H₀:Hp
 env:Env
 outer:YG
 stack:YG
 ex:Xk
 fn:Str->Bool
 calm:Bool
 pn:Hf
 xe:Value->aI->Prop
variable {X:Cx}
def qP(l:YG):Xk:=l.filterMap (·.frame)
noncomputable abbrev Cx.fs(X:Cx):Xk:=qP X.outer
def ng(sc:gJ)(x:Str):Prop:=sc.names.lookup x=aA .local\/sc.names.lookup x=aA .cell\/sc.names.lookup x=aA .free
def vY(sc:gJ)(x:Str):Prop:=sc.names.lookup x=aA .local\/sc.names.lookup x=aA .cell
def OA(env:Env)(h:bH)(m:Str->Xl)(x:Str)(u:Value):Prop:=
 (env.kindOf x=aA .local/\m x=aA u)\/((env.kindOf x=aA .cell\/env.kindOf x=aA .free)/\∃c,env.cells.lookup x=aA c/\h.IsCell c (aA u))
structure Cx.Ok(X:Cx):Prop where
 mod:Mod X.K X.mg X.base
 kind:X.env.scope.kind = .function
 glob:X.env.globals=iK
 blt:X.env.builtins=Sf
 above:X.s₀.heap.objs.size<=X.env.locals
 inj:∀x y c,X.env.cells.lookup x=aA c->X.env.cells.lookup y=aA c->x=y
 has:∀x,(X.env.kindOf x=aA .cell\/X.env.kindOf x=aA .free)->∃c,X.env.cells.lookup x=aA c
 xi:∀x c,X.fn x=aB->X.env.cells.lookup x=aA c->X.s₀.heap.objs.size<=c
 hd:X.calm=aB->X.A.handled=aD
 frames:X.A.frames=aA X.stack
 Nj:X.stack=X.outer\/(X.stack=X.env::X.outer/\X.env.frame=aA X.env.locals)
 yb:∀b∈X.ex,b≠X.env.locals/\∀x c,X.env.cells.lookup x=aA c->c≠b
 bs:∀b o,X.base.get? b=aA o->X.s₀.heap.get? b=aA o/\X.H₀ b=aD
 wI:X.base.objs.size<=X.s₀.heap.objs.size
 Ai:∀b o,X.base.get? b=aA o->b∉X.ex
 oq:∀b∈X.ex,b∉X.fs
 qZ:X.s₀.heap.FunFrames X.base X.outer
 gf:∀b∈X.fs,X.H₀ b=aD
structure Inv(X:Cx)(pins:Hf)(Z:List (Option V))(H:Hp)(s:aI):Prop where
 ok:X.Ok
 os:s.os=X.s₀.os
 bare:vL s.gens
 base:Un X.fs X.ex X.H₀ H X.s₀.heap s.heap
 loc:∃m,s.heap.Ns X.env.locals m/\∀(i:Nat) (x:Str) (v:V),X.N[i]?=aA x->Z[i]?=aA (aA v)->ng X.env.scope x->∃u,RelV v u/\OA X.env s.heap m x u
 cell:∀x c,X.env.cells.lookup x=aA c->∃v,s.heap.IsCell c v
 free:H X.env.locals=aD
 qO:∀x c,X.env.cells.lookup x=aA c->H c=aD
 pin:∀p∈X.pn++pins,s.heap.get? p.1=aA p.2/\H p.1=aD/\p.1≠X.env.locals/\p.1∉X.fs/\∀v,p.2.data ≠ .cell v
 bA:fA X.prog X.w H s.heap
 len:Z.length=X.N.length
section
variable {Z:List (Option V)}
theorem Cx.Ok.O5(ok:X.Ok){o:Obj}(e:X.base.get? b=aA o):b∉X.fs:=λhb=>by have:=(ok.qZ.mem hb).1;rw[e]at this;cases this
theorem Inv.bs(I:Inv X pins Z H s):∀b o,X.base.get? b=aA o->s.heap.get? b=aA o/\H b=aD:=λb o e=>
 ⟨I.base.keep b o (I.ok.bs b o e).1 (I.ok.bs b o e).2 (I.ok.O5 e) (I.ok.Ai b o e),I.base.free b o (I.ok.bs b o e).1 (I.ok.bs b o e).2 (I.ok.Ai b o e)⟩
theorem Inv.bk(I:Inv X pins Z H s):∀b o,X.base.get? b=aA o->s.heap.get? b=aA o:=λb o e=>(I.bs b o e).1
theorem Inv.mod(I:Inv X pins Z H s):Mod X.K X.mg X.base:=I.ok.mod
theorem Inv.fM(I:Inv X pins Z H s):X.K.In s.heap:=I.ok.mod.gq.keeps I.bk
theorem Inv.lt(I:Inv X pins Z H s):X.env.locals<s.heap.objs.size:=let ⟨_,hn,_⟩:=I.loc;hn.lt
theorem Inv.sz(I:Inv X pins Z H s):X.s₀.heap.objs.size<=s.heap.objs.size:=dF I.ok.above (xV I.lt)
theorem Inv.O7(I:Inv X pins Z H s)(h:s.heap.objs.size<=a):a∉X.fs:=λhb=>by obtain⟨_,o,ho,_⟩:=I.ok.qZ.mem hb;exact absurd (bC (cW ho)<|dF I.sz h)<|lA _
theorem Inv.yS(I:Inv X pins Z H s):∀x c,X.env.cells.lookup x=aA c->c≠X.env.locals:=λx c e z=>by obtain⟨v,o,ho,hd⟩:=I.cell x c e;obtain⟨m,⟨o',es,ep,ho',hd',_⟩,_⟩:=I.loc;rw[z,ho']at ho;cases ho;rw[hd']at hd;cases hd
theorem Inv.qZ(I:Inv X pins Z H s):s.heap.FunFrames X.base X.outer:=by
 have all:∀(l:YG),(∀b∈qP l,b∈X.fs)->X.s₀.heap.FunFrames X.base l->s.heap.FunFrames X.base l:=by
  intro l;induction l with
  |nil=>intro _ _;trivial|cons env r ih=>intro hs hl;obtain⟨hk,⟨L,o,hf,hn,ho,hd⟩,hr⟩:=hl;have hL:L∈X.fs:=hs L (by unfold qP;rw[mH,hf];exact fV);obtain⟨sl,e⟩:=I.base.slot L o ho (I.ok.gf L hL) hL λz=>I.ok.oq L z hL;exact⟨hk,⟨L,_,hf,hn,e,hd⟩,ih (λb hb=>hs b (by unfold qP;rw[mH,hf];exact jD _ hb)) hr⟩
 exact all X.outer (λ_ hb=>hb) I.ok.qZ
theorem Inv.stack(I:Inv X pins Z H s):s.heap.FunFrames X.base X.stack:=by
 rcases I.ok.Nj with e|⟨e,hf⟩
 .rw[e];exact I.qZ
 .rw[e];obtain⟨m,hn,_⟩:=I.loc;exact .cons (by rw[I.ok.kind];decide) hf hn (Heap.get?_none_of_le<|dF I.ok.wI I.ok.above) I.qZ
theorem Inv.Nk(I:Inv X pins Z H s):∀b∈qP X.stack,b∈X.env.locals::X.fs:=λb hb=>by
 rcases I.ok.Nj with e|⟨e,hf⟩
 .rw[e]at hb;exact jD _ hb
 .rw[e]at hb;unfold qP at hb;rw[mH,hf]at hb;exact hb
theorem Inv.GQ(I:Inv X pins Z H s):∀b∈qP X.stack,H b=aD:=λb hb=>by
 rcases List.mem_cons.mp (I.Nk b hb)with e|hb
 .rw[e];exact I.free
 .obtain⟨_,o,ho,_⟩:=I.ok.qZ.mem hb;exact I.base.free b o ho (I.ok.gf b hb) λz=>I.ok.oq b z hb
theorem Inv.step{ch:Xk}(I:Inv X pins Z H s)
  (hch:∀b∈ch,(b∈X.ex\/X.s₀.heap.objs.size<=b)/\b≠X.env.locals/\(∀x c,X.env.cells.lookup x=aA c->c≠b)/\∀p∈X.pn++pins,p.1≠b)
  (keep:∀b o,b≠X.env.locals->b∉X.fs->b∉ch->s.heap.get? b=aA o->H b=aD->h'.get? b=aA o)
  (slot:∀b o,b≠X.env.locals->b∈X.fs->b∉ch->s.heap.get? b=aA o->H b=aD->∃sl,h'.get? b=aA { o with slots:=sl })(free:∀b o,b∉ch->s.heap.get? b=aA o->H b=aD->H' b=aD)
  (there:∀b o,b∉ch->s.heap.get? b=aA o->∃o',h'.get? b=aA o')
  (vH:∀b xs,H b=aA (.tup xs)->H' b=aA (.tup xs))(qX:∀b o u,H b=aA (.dC o u)->H' b=aA (.dC o u))(vF:∀b ps,H b=aA (.ay ps)->∃more,H' b=aA (.ay<|ps++more))
  (ns:∀m,s.heap.Ns X.env.locals m->h'.Ns X.env.locals m)(bA:fA X.prog X.w H' h')(hg:vL g') :
  Inv X pins Z H' { s with heap:=h',gens:=g',drawn:=d',toks:=t' }:=by
 have neL:∀b o,X.s₀.heap.get? b=aA o->b≠X.env.locals:=λb o e=>cA (bC (cW e) I.ok.above);have neC:∀b o,X.s₀.heap.get? b=aA o->b∉X.ex->b∉ch:=λb o e hx hb=>by
  rcases(hch b hb).1 with z|z
  .exact hx z
  .exact absurd (bC (cW e) z)<|lA _
 have cellK:∀x c,X.env.cells.lookup x=aA c->∀v,s.heap.IsCell c v->h'.IsCell c v:=λx c e v ⟨o,ho,hd⟩=>by
  have nch:c∉ch:=λz=>(hch c z).2.2.1 x c e rfl;by_cases hc:c∈X.fs
  .obtain⟨sl,q⟩:=slot c o (I.yS x c e) hc nch ho (I.qO x c e);exact⟨_,q,hd⟩
  .exact⟨o,keep c o (I.yS x c e) hc nch ho (I.qO x c e),hd⟩
 refine⟨I.ok,I.os,hg,⟨λb o e n hb hx=>?_,λb o e n hb hx=>?_,λb o e n hx=>?_,λb o e hx=>?_,λb xs e=>vH b xs (I.base.vH b xs e),λb o xs e=>qX b o xs (I.base.qX b o xs e),λb ps e=>?_⟩,?_,λx c e=>?_,?_,λx c e=>?_,λp hp=>?_,bA,I.len⟩
 .exact keep b o (neL b o e) hb (neC b o e hx) (I.base.keep b o e n hb hx)<|I.base.free b o e n hx
 .obtain⟨sl,e1⟩:=I.base.slot b o e n hb hx;obtain⟨sl',e2⟩:=slot b _ (neL b o e) hb (neC b o e hx) e1 (I.base.free b o e n hx);exact⟨sl',e2⟩
 .obtain⟨o',e1⟩:=I.base.there b o e hx;exact free b o' (neC b o e hx) e1<|I.base.free b o e n hx
 .obtain⟨o',e1⟩:=I.base.there b o e hx;exact there b o' (neC b o e hx) e1
 .obtain⟨m1,e1⟩:=I.base.vF b ps e;obtain⟨m2,e2⟩:=vF b _ e1;exact⟨m1++m2,by rw[e2,Array.append_assoc]⟩
 .obtain⟨m,hn,hl⟩:=I.loc;refine⟨m,ns m hn,λi x v e1 e2 e3=>?_⟩;obtain⟨u,r,l⟩:=hl i x v e1 e2 e3;refine⟨u,r,?_⟩;rcases l with l|⟨k,c,e,z⟩
  .exact .inl l
  .exact .inr ⟨k,c,e,cellK x c e _ z⟩
 .obtain⟨v,z⟩:=I.cell x c e;exact⟨v,cellK x c e v z⟩
 .obtain⟨m,⟨o,_,_,ho,_⟩,_⟩:=I.loc;exact free _ o (λz=>(hch _ z).2.1 rfl) ho I.free
 .obtain⟨v,o,ho,hd⟩:=I.cell x c e;exact free c o (λz=>(hch c z).2.2.1 x c e rfl) ho<|I.qO x c e
 .obtain⟨e,n,ne,nf,d⟩:=I.pin p hp;have nch:p.1∉ch:=λz=>(hch p.1 z).2.2.2 p hp rfl;exact⟨keep p.1 p.2 ne nf nch e n,free p.1 p.2 nch e n,ne,nf,d⟩
theorem Inv.un(I:Inv X pins Z H s)(u:Un X.fs [] H H' s.heap h')(bA:fA X.prog X.w H' h'):Inv X pins Z H' { s with heap:=h',toks:=t' }:=by
 obtain⟨m,⟨o,es,ep,ho,r⟩,_⟩:=id I.loc;obtain⟨sl,hL⟩:=u.any ho I.free (by simp);exact I.step (ch:=[]) (nofun) (λb o _ hb _ e n=>u.keep b o e n hb (by simp)) (λb o _ hb _ e n=>u.slot b o e n hb (by simp)) (λb o _ e n=>u.free b o e n (by simp)) (λb o _ e=>u.there b o e (by simp)) u.vH u.qX u.vF (λm' hm=>by obtain⟨o',es',ep',ho',r'⟩:=hm;rw[ho]at ho';cases ho';exact⟨_,es',ep',hL,r'⟩) bA I.bare
theorem Inv.call{ch:Xk}(I:Inv X pins Z H s)(u:Un (qP X.stack) ch H H' s.heap h')(bA:fA X.prog X.w H' h')(hg:vL g')
  (hch:∀b∈ch,(b∈X.ex\/X.s₀.heap.objs.size<=b)/\b≠X.env.locals/\(∀x c,X.env.cells.lookup x=aA c->c≠b)/\∀p∈X.pn++pins,p.1≠b) :
  Inv X pins Z H' { s with heap:=h',gens:=g',drawn:=d',toks:=t' }:=by
 obtain⟨m,⟨o,es,ep,ho,r⟩,_⟩:=id I.loc;obtain⟨sl,hL⟩:=u.any ho I.free λz=>(hch _ z).2.1 rfl;exact I.step hch (λb o hL hb hc e n=>u.keep b o e n (λz=>(List.mem_cons.mp<|I.Nk b z).elim hL hb) hc) (λb o _ _ hc e n=>u.any e n hc) (λb o hc e n=>u.free b o e n hc) (λb o hc e=>u.there b o e hc) u.vH u.qX u.vF (λm' hm=>by obtain⟨o',es',ep',ho',r'⟩:=hm;rw[ho]at ho';cases ho';exact⟨_,es',ep',hL,r'⟩) bA hg
theorem Inv.turned(I:Inv X pins Z H s)(k:∀b o,b≠it->s.heap.get? b=aA o->h'.get? b=aA o)(hn:H it=aD)(hL:it≠X.env.locals)
  (h1:it∈X.ex\/X.s₀.heap.objs.size<=it)(h2:∀x c,X.env.cells.lookup x=aA c->c≠it)(h3:∀p∈X.pn++pins,p.1≠it):Inv X pins Z H { s with heap:=h',toks:=t' }:=by
 have nit:∀b u,H b=aA u->b≠it:=λb u e z=>by rw[z,hn]at e;cases e
 refine I.step (ch:=[it]) (λb hb=>?_) (λb o _ _ hc e _=>k b o (λz=>hc (by simp[z])) e) (λb o _ _ hc e _=>⟨o.slots,k b o (λz=>hc (by simp[z])) e⟩) (λ_ _ _ _ n=>n)
  (λb o hc e=>⟨o,k b o (λz=>hc (by simp[z])) e⟩) (λ_ _ e=>e) (λ_ _ _ e=>e) (λb ps e=>⟨#[],by rw[e];simp⟩) (λm hm=>?_) (λb u e=>?_) I.bare
 .have e:b=it:=by simpa using hb
  subst e;exact⟨h1,hL,h2,h3⟩
 .obtain⟨o,es,ep,ho,r⟩:=hm;exact⟨o,es,ep,k _ o (mK hL) ho,r⟩
 .refine(I.bA b u e).vC (λc v hc q=>k c v ?_ q) (λ_ q=>q) λ_ _ q=>q;rcases hc with z|z
  .rw[z];exact nit b u e
  .exact nit c _ z
theorem Inv.tok(I:Inv X pins Z H s)(t:Nat):Inv X pins Z H { s with toks:=t }:=I.un Un.refl I.bA
theorem Inv.kept{t':Nat}(I:Inv X pins Z H s)(k:∀b u,s.heap.get? b=aA u->h'.get? b=aA u):Inv X pins Z H { s with heap:=h',toks:=t' }:=I.un (Un.kept k) (I.bA.kept k)
theorem Inv.laid{a:Addr}{o:HO}{t':Nat}(I:Inv X pins Z H s)(k:∀b u,s.heap.get? b=aA u->h'.get? b=aA u)(hp:s.heap.objs.size<=a)(new:hV X.prog X.w (bF H a o) h' a o) :
 Inv X pins Z (bF H a o) { s with heap:=h',toks:=t' }:=I.un (Un.laid k hp<|I.bA.fresh hp) (I.bA.laid k hp new)
theorem Inv.write{x e:Addr}{o:HO}{t':Nat}(I:Inv X pins Z H s)(mu:ee (H x))(he:e=x\/H e=aA (.own x))(k:∀b u,b≠e->s.heap.get? b=aA u->h'.get? b=aA u)(heo:∃u,h'.get? e=aA u)
 (new:hV X.prog X.w (bF H x o) h' x o):Inv X pins Z (bF H x o) { s with heap:=h',toks:=t' }:=I.un (Un.write mu he k heo) (I.bA.write mu he k heo new)
theorem Inv.ik{pins':Hf}(I:Inv X pins Z H s)(h:∀p∈pins',s.heap.get? p.1=aA p.2/\H p.1=aD/\p.1≠X.env.locals/\p.1∉X.fs/\∀v,p.2.data ≠ .cell v):Inv X pins' Z H s:=
 ⟨I.ok,I.os,I.bare,I.base,I.loc,I.cell,I.free,I.qO,λp hp=>(List.mem_append.mp hp).elim (λz=>I.pin p (cc _ z)) (h p),I.bA,I.len⟩
theorem CC(hN:N.Nodup)(a:N[i]?=aA x)(b:N[j]?=aA x):i=j:=by obtain⟨h1,e1⟩:=List.getElem?_eq_some_iff.mp a;obtain⟨h2,e2⟩:=List.getElem?_eq_some_iff.mp b;exact(Dj hN).mp (e1.trans e2.symm)
theorem aKp{M:Model}{Q:Unit->aI->Prop}(I:Inv X pins Z H s)(hN:X.N.Nodup)(hi:X.N[i]?=aA x)(hx:vY X.env.scope x)(r:RelV v u)
  (h:∀s',Inv X pins (Z.set i<|aA v) H s'->(∃a,xR a s.heap s'.heap/\(a=X.env.locals\/X.env.cells.lookup x=aA a))->Q () s')(hf:X.fn x=aB\/X.env.scope.names.lookup x=aA .local:=by first|exact .inl rfl|exact .inr rfl|assumption):aS M A (Sw X.env x u) Q E s:=by
 obtain⟨m,hn,hl⟩:=id I.loc;have A3:(X.env.scope.kind == .class||(X.env.scope.kind == .module&&X.env.locals != X.env.globals))=aG:=by rw[I.ok.kind];rfl
 have hiσ:i<Z.length:=by rw[I.len];exact(List.getElem?_eq_some_iff.mp hi).1
 have yS:=I.yS;have tracked:∀{a:Addr} {h':bH},(∃o,s.heap.get? a=aA o/\H a=aD)->xR a s.heap h'->fA X.prog X.w H h':=λ{a h'} ha hs b ob e=>by
  obtain⟨_,_,Zr⟩:=ha;refine(I.bA b ob e).vC (λc w' hc q=>(hs.2 c ?_).trans q) (λ_ q=>q) λ_ _ q=>q;rintro rfl
  rcases hc with rfl|hc
  .rw[Zr]at e;cases e
  .rw[Zr]at hc;cases hc
 rcases hx with hk|hk
 .refine wpAny_storeName_local hk hn (λh' hn' hs=>?_) A3;obtain⟨oL,_,_,hoL,_⟩:=id hn;refine h _ ⟨I.ok,I.os,I.bare,⟨λb o e n hb hx=>?_,λb o e n hb hx=>?_,I.base.free,λb o e hx=>?_,I.base.vH,I.base.qX,I.base.vF⟩,⟨_,hn',λj y v' e1 e2 e3=>?_⟩,λy c e=>?_,I.free,I.qO,λp hp=>?_,tracked ⟨oL,hoL,I.free⟩ hs,by simpa using I.len⟩ ⟨_,hs,.inl rfl⟩
  .exact(hs.2 b<|cA<|bC (cW e) I.ok.above).trans (I.base.keep b o e n hb hx)
  .obtain⟨sl,e1⟩:=I.base.slot b o e n hb hx;exact⟨sl,(hs.2 b<|cA<|bC (cW e) I.ok.above).trans e1⟩
  .obtain⟨o',e1⟩:=I.base.there b o e hx;exact⟨o',(hs.2 b<|cA<|bC (cW e) I.ok.above).trans e1⟩
  .by_cases hj:j=i
   .subst hj;rw[hi]at e1;cases e1;rw[mI hiσ]at e2;cases e2;exact⟨u,r,.inl ⟨hk,by simp⟩⟩
   .rw[kZ (mK hj)]at e2;obtain⟨u',r',q⟩:=hl j y v' e1 e2 e3;refine⟨u',r',?_⟩;rcases q with⟨k,e⟩|⟨k,c,e,z⟩
    .refine .inl ⟨k,?_⟩;have:y≠x:=λe=>hj (CC hN e1<|e▸hi);simp[this,e]
    .exact .inr ⟨k,c,e,z.sameBut hs (yS y c e)⟩
  .obtain⟨w',z⟩:=I.cell y c e;exact⟨w',z.sameBut hs (yS y c e)⟩
  .obtain⟨e,n,ne,nf,d⟩:=I.pin p hp;exact⟨(hs.2 p.1 ne).trans e,n,ne,nf,d⟩
 .have hfn:X.fn x=aB:=by
   rcases hf with z|z
   .exact z
   .rw[z]at hk;cases hk
  obtain⟨c,hc⟩:=I.ok.has x (.inl hk);obtain⟨w',z⟩:=I.cell x c hc;refine wpAny_storeName_cell I.ok.kind hk hc z<|λh' hc' hs=>?_;obtain⟨oc,hoc,B5⟩:=id z;refine h { s with heap:=h' } ⟨I.ok,I.os,I.bare,⟨λb o e n hb hx=>?_,λb o e n hb hx=>?_,I.base.free,λb o e hx=>?_,I.base.vH,I.base.qX,I.base.vF⟩,⟨m,hn.sameBut hs (mK<|yS x c hc),λj y v' e1 e2 e3=>?_⟩,λy c' e=>?_,I.free,I.qO,λp hp=>?_,tracked ⟨oc,hoc,I.qO x c hc⟩ hs,by simpa using I.len⟩ ⟨c,hs,.inr hc⟩
  .exact(hs.2 b<|cA<|bC (cW e)<|I.ok.xi x c hfn hc).trans (I.base.keep b o e n hb hx)
  .obtain⟨sl,e1⟩:=I.base.slot b o e n hb hx;exact⟨sl,(hs.2 b<|cA<|bC (cW e)<|I.ok.xi x c hfn hc).trans e1⟩
  .obtain⟨o',e1⟩:=I.base.there b o e hx;exact⟨o',(hs.2 b<|cA<|bC (cW e)<|I.ok.xi x c hfn hc).trans e1⟩
  .by_cases hj:j=i
   .subst hj;rw[hi]at e1;cases e1;rw[mI hiσ]at e2;cases e2;exact⟨u,r,.inr ⟨.inl hk,c,hc,hc'⟩⟩
   .rw[kZ (mK hj)]at e2;obtain⟨u',r',q⟩:=hl j y v' e1 e2 e3;refine⟨u',r',?_⟩;rcases q with q|⟨k,c',e,z'⟩
    .exact .inl q
    .refine .inr ⟨k,c',e,z'.sameBut hs ?_⟩;rintro rfl
     exact hj<|CC hN e1<|I.ok.inj _ _ _ e hc▸hi
  .by_cases hcc:c'=c
   .subst hcc;exact⟨_,hc'⟩
   .obtain⟨w2,z2⟩:=I.cell y c' e;exact⟨w2,z2.sameBut hs hcc⟩
  .obtain⟨e,n,ne,nf,d⟩:=I.pin p hp;refine⟨(hs.2 p.1 ?_).trans e,n,ne,nf,d⟩;intro q;rw[q,hoc]at e;have q':oc=p.2:=dR e;exact d w'<|q'▸B5
theorem uh{M:Model}{Q:Unit->aI->Prop}(I:Inv X pins Z H s)(hN:X.N.Nodup)(hi:X.N[i]?=aA x)(hx:vY X.env.scope x)(r:RelV v u)
  (h:∀s',Inv X pins (Z.set i<|aA v) H s'->Q () s')(hf:X.fn x=aB\/X.env.scope.names.lookup x=aA .local:=by first|exact .inl rfl|exact .inr rfl|assumption):aS M A (Sw X.env x u) Q E s:=
 aKp I hN hi hx r (λs' I' _=>h s' I') hf
theorem Inv.VC{ch:Xk}(I:Inv X pins Z H s)(ho:s'.os=s.os)(u:Un (qP X.stack) ch H H' s.heap s'.heap)(bA:fA X.prog X.w H' s'.heap)(hg:vL s'.gens)
  (hch:∀b∈ch,(b∈X.ex\/X.s₀.heap.objs.size<=b)/\b≠X.env.locals/\(∀x c,X.env.cells.lookup x=aA c->c≠b)/\∀p∈X.pn++pins,p.1≠b):Inv X pins Z H' s':=by
 obtain⟨h',g',d',t',o'⟩:=s';have e:o'=s.os:=ho;subst e;exact I.call u bA hg hch
end
abbrev XK:=Value->YM->Hp->Prop
abbrev St:=List (Option V)
variable {Z:St}
abbrev VK:=V->Hp->Prop
abbrev TE:=St->Hp->VK->Prop
variable {ta tb te:TE}
abbrev TT:=St->Hp->(Bool->Hp->Prop)->Prop
variable {tc:TT}
abbrev TA:=St->Hp->(Hg->Hp->Prop)->Prop
structure Ends where
 nx:St->Hp->Prop
 rt:VK
 bk:St->Hp->Prop:=λ_ _=>False
 ct:St->Hp->Prop:=λ_ _=>False
abbrev TS:=Ends->St->Hp->Prop
def EP(X:Cx)(pins:Hf)(Z:St)(Q:VK)(u:Value)(s':aI):Prop:=∃v H',Inv X pins Z H' s'/\RelV v u/\Q v H'
def TP(X:Cx)(pins:Hf)(Z:St)(Q:Bool->Hp->Prop)(b:Bool)(s':aI):Prop:=∃H',Inv X pins Z H' s'/\Q b H'
def AP(X:Cx)(pins:Hf)(Z:St)(Q:Hg->Hp->Prop)(us:He)(s':aI):Prop:=∃vs H',Inv X pins Z H' s'/\Vals vs us/\Q vs H'
def SP(X:Cx)(pins:Hf)(D:Ends)(f:Flow)(s':aI):Prop:=
 match f with
 |.next=>∃Z' H',Inv X pins Z' H' s'/\D.nx Z' H'
 |.brk=>∃Z' H',Inv X pins Z' H' s'/\D.bk Z' H'
 |.cont=>∃Z' H',Inv X pins Z' H' s'/\D.ct Z' H'
 |.ret u=>∃v Z' H',Inv X pins Z' H' s'/\RelV v u/\D.rt v H'
def PE(X:Cx)(e:aK)(t:TE):Prop:=
 ∀(pins:Hf) (s:aI) (Z:St) (H:Hp) (Q:VK),Inv X pins Z H s->t Z H Q->aS (aZ X.prog X.w) X.A (eval e X.env) (EP X pins Z Q) X.xe s
def PT(X:Cx)(e:aK)(t:TT):Prop:=
 ∀(pins:Hf) (s:aI) (Z:St) (H:Hp) (Q:Bool->Hp->Prop),Inv X pins Z H s->t Z H Q->aS (aZ X.prog X.w) X.A (isTrue e X.env<|eval e X.env) (TP X pins Z Q) X.xe s
def PW(X:Cx)(e:aK)(t:TT):Prop:=
 ∀(whole:Sem Value) (pins:Hf) (s:aI) (Z:St) (H:Hp) (Q:Bool->Hp->Prop),Inv X pins Z H s->t Z H Q->aS (aZ X.prog X.w) X.A (isTrue e X.env whole) (TP X pins Z Q) X.xe s
theorem PW.pt{t:TT}(h:PW X e t):PT X e t:=h _
def PA(X:Cx)(es:List aK)(t:TA):Prop:=
 ∀(pos:Pos) (pins:Hf) (s:aI) (Z:St) (H:Hp) (Q:Hg->Hp->Prop),Inv X pins Z H s->t Z H Q->aS (aZ X.prog X.w) X.A (spliced<|lR pos<|eI es X.env) (AP X pins Z Q) X.xe s
def PS(X:Cx)(st:Stmt)(t:TS):Prop:=
 ∀(pins:Hf) (s:aI) (Z:St) (H:Hp) (D:Ends),Inv X pins Z H s->t D Z H->aS (aZ X.prog X.w) X.A (exec st X.env) (SP X pins D) X.xe s
def rY(X:Cx)(st:Xm)(t:TS):Prop:=
 ∀(pins:Hf) (s:aI) (Z:St) (H:Hp) (D:Ends),Inv X pins Z H s->t D Z H->aS (aZ X.prog X.w) X.A (execs st X.env) (SP X pins D) X.xe s
theorem bB{α:Type}{t:Sem α}{Q Q':α->aI->Prop}{M:Model}(h:aS M A t Q E s)(hQ:∀a s,Q a s->Q' a s):aS M A t Q' E s:=vp h hQ λ_ _ x=>x
section
def aMb(i:Nat):TE:=λZ H Q=>∃v,Z[i]?=aA (aA v)/\Q v H
def tC(v:V):TE:=λ_ H Q=>Q v H
theorem aAa(hN:X.N[i]?=aA x)(hv:ng X.env.scope x)(hd:(x==("__debug__":Str))=aG:=by decide)(hcd:(x==("__classdict__":Str))=aG:=by decide):PE X (.Name x pos) (aMb i):=by
 intro pins s Z H Q I h;obtain⟨v,e,h⟩:=h;obtain⟨m,hn,hl⟩:=I.loc;obtain⟨u,r,l⟩:=hl i x v hN e hv;have fin:EP X pins Z Q u s:=⟨v,H,I,r,h⟩;rcases l with⟨hk,hm⟩|⟨hk,c,hc,yu⟩
 .exact Ta (NU I.ok.kind hk hn hm fin) hd
 .rcases hk with hk|hk
  .exact Ta (NT I.ok.kind hk hc yu fin) hd
  .exact Ta (wpAny_loadName_free I.ok.kind hk hc yu fin hcd) hd
theorem DB{i j pos}:PE X (.Constant (.int i) j pos) (tC<|.int i):=λ_ _ _ H _ I h=>wpAny_Constant_int ⟨.int i,H,I.tok _,⟨_,rfl⟩,h⟩
theorem Kr{b j pos}:PE X (.Constant (.bool b) j pos) (tC<|.bl b):=λ_ _ _ H _ I h=>Constant_bool ⟨.bl b,H,I,rfl,h⟩
theorem Ks{j pos}:PE X (.Constant .none j pos) (tC .aH):=λ_ _ _ H _ I h=>Constant_none ⟨.aH,H,I,rfl,h⟩
theorem DC{x j pos}:PE X (.Constant (.str x) j pos) (tC<|.str x):=λ_ _ _ H _ I h=>Calls.Constant_str ⟨.str x,H,I.tok _,⟨_,rfl⟩,h⟩
def Gl(X:Cx)(x:Str):Prop:=X.env.kindOf x=aA .globalImplicit
theorem qw(I:Inv X pins Z H s)(hg:Gl X x)(hm:X.mg x=aA u)(h:Q u s)
  (hd:(x==("__debug__":Str))=aG:=by decide):aS (aZ X.prog X.w) X.A (eval (.Name x pos) X.env) Q E s:=
 JE I.ok.kind hg (Calls.loadGlobal_global (by rw[I.ok.glob];exact I.mod.glob.keeps I.bk) hm h) hd
theorem wY(I:Inv X pins Z H s)(hg:Gl X x)(hm:X.mg x=aD)(hv:mW x=aA u)(h:Q u s)
  (hn:x≠"__name__":=by decide)(hd:(x==("__debug__":Str))=aG:=by decide):aS (aZ X.prog X.w) X.A (eval (.Name x pos) X.env) Q E s:=by
 obtain⟨mb,h1,h2⟩:=I.mod.blt;exact JE I.ok.kind hg (Calls.loadGlobal_builtin (by rw[I.ok.glob];exact I.mod.glob.keeps I.bk) hm (by rw[I.ok.blt];exact h1.keeps I.bk) ((h2 x hn).trans hv) h) hd
theorem DA(hg:Gl X x)(hm:X.mg x=aA u)(r:RelV v u)(hd:(x==("__debug__":Str))=aG:=by decide):PE X (.Name x pos) (tC v):=
 λ_ _ _ H _ I h=>qw I hg hm ⟨v,H,I,r,h⟩ hd
theorem X4(hg:Gl X x)(hm:X.mg x=aD)(hv:mW x=aA u)(r:RelV v u)(hn:x≠"__name__":=by decide)(hd:(x==("__debug__":Str))=aG:=by decide):PE X (.Name x pos) (tC v):=
 λ_ _ _ H _ I h=>wY I hg hm hv ⟨v,H,I,r,h⟩ hn hd
variable {a b:aK}
variable {tA tB':TT}{rest:List aK}
def aLd(t u:TT):TT:=λZ H Q=>t Z H λc H1=>if c=aB then u Z H1 Q else Q aG H1
def tOr(t u:TT):TT:=λZ H Q=>t Z H λc H1=>if c=aB then Q aB H1 else u Z H1 Q
def aLs(t:TT):TT:=λZ H Q=>t Z H λc H1=>Q (!c) H1
theorem aCi(ha:PT X a tA):PW X (.BoolOp .And [a] pos) tA:=by
 intro wh pins s Z H Q I h;refine isTrue_and<|bB (ha pins s Z H Q I h) λc s1 e=>?_;cases c with
 |true=>exact isTrue_and_nil e|false=>exact e
theorem aCl(ha:PT X a tA):PW X (.BoolOp .Or [a] pos) tA:=by
 intro wh pins s Z H Q I h;refine isTrue_or<|bB (ha pins s Z H Q I h) λc s1 e=>?_;cases c with
 |false=>exact isTrue_or_nil e|true=>exact e
theorem aCh(ha:PT X a tA)(hb:PW X (.BoolOp .And (b::rest) pos) tB'):PW X (.BoolOp .And (a::b::rest) pos) (aLd tA tB'):=by
 intro wh pins s Z H Q I h;refine isTrue_and<|bB (ha pins s Z H _ I h) λc s1 ⟨H1,I1,q1⟩=>?_;cases c with
 |true=>exact hb wh pins s1 Z H1 Q I1 q1|false=>exact⟨H1,I1,q1⟩
theorem aCk(ha:PT X a tA)(hb:PW X (.BoolOp .Or (b::rest) pos) tB'):PW X (.BoolOp .Or (a::b::rest) pos) (tOr tA tB'):=by
 intro wh pins s Z H Q I h;refine isTrue_or<|bB (ha pins s Z H _ I h) λc s1 ⟨H1,I1,q1⟩=>?_;cases c with
 |true=>exact⟨H1,I1,q1⟩|false=>exact hb wh pins s1 Z H1 Q I1 q1
theorem aCb(ha:PT X a tA):PT X (.UnaryOp .Not a pos) (aLs tA):=by intro pins s Z H Q I h;exact isTrue_not<|ha pins s Z H (λc H1=>Q (!c) H1) I h
theorem Z3{op}{t:TE}(h:PE X a t):PE X (.BoolOp op [a] pos) t:=λpins s Z H Q I hw=>BoolOp_one (h pins s Z H Q I hw)
def tIf(t:TT)(ta tb:TE):TE:=λZ H Q=>t Z H λc H1=>if c=aB then ta Z H1 Q else tb Z H1 Q
theorem Y5(hc:PT X c tA)(ha:PE X a ta)(hb:PE X b tb):PE X (.IfExp c a b pos) (tIf tA ta tb):=by
 intro pins s Z H Q I h;refine wpAny_IfExp<|bB (hc pins s Z H _ I h) λd s1 ⟨H1,I1,q1⟩=>?_;cases d with
 |true=>exact ha pins s1 Z H1 Q I1 q1|false=>exact hb pins s1 Z H1 Q I1 q1
end
def dH(K:bI)(H:Hp)(a:Addr)(xs:Hg):Prop:=
 Rd H a (.lst xs) \/
  ∃(o:Obj) (its:Xq) (n:Nat),K.lookup a=aA o/\o.cls = .type "list"/\o.dict=aD/\o.data = .seq its n/\its.size<=sizeLine/\Vals xs its.toList
def eD(K:bI)(H:Hp)(a:Addr)(xs:Hg):Prop:=
 Rd H a (.tup xs) \/
  ∃(o:Obj) (its:Xq) (n:Nat),K.lookup a=aA o/\o.cls = .type "tuple"/\o.data = .seq its n/\its.size<=sizeLine/\Vals xs its.toList
def OD:Value->Option V
 |.none=>aA .aH
 |.bool b=>aA (.bl b)
 |.int i _=>aA (.int i)
 |.str x _=>aA (.str x)
 |.bytes b _=>aA (.mY b)
 |.float b _=>aA (.yf b)
 |.ref a=>aA (.ref a)
 |.type n=>aA (.ty n)
 |_=>aD
theorem RelV.abs{x:V}(r:RelV x u):OD u=aA x:=by
 cases x with
 |aH=>cases r;rfl|bl _=>cases r;rfl|int _=>obtain⟨t,rfl⟩:=r;rfl|str _=>obtain⟨t,rfl⟩:=r;rfl|mY _=>obtain⟨t,rfl⟩:=r;rfl|yf _=>obtain⟨t,rfl⟩:=r;rfl|ref _=>cases r;rfl|ty _=>cases r;rfl
theorem RelV.inj{x:V}(r:RelV x u)(q:RelV y u):x=y:=dR (r.abs.symm.trans q.abs)
theorem Vals.inj:∀{xs ys:Hg}{us:He},Vals xs us->Vals ys us->xs=ys
 |_,_,_,.nil,.nil=>rfl|_,_,_,.cons r t,.cons r' t'=>by rw[r.inj r',Vals.inj t t']
section
variable {ys:Hg}
theorem dH.of{K:bI}(h:H a=aA (.lst xs)):dH K H a xs:=.inl (.inl h)
theorem eD.of{K:bI}(h:H a=aA (.tup xs)):eD K H a xs:=.inl (.inl h)
theorem Inv.list(I:Inv X pins Z H s)(h:dH X.K H a xs):∃its:He,Vals xs its/\PlainL s.heap a its.toArray/\xs.length<=sizeLine:=by
 rcases h with h|⟨o,its,n,hk,hc,hd,hs,hz,r⟩
 .obtain⟨z,its,n,r,e⟩:=h.ok I.bA;exact⟨its,r,⟨_,n,e,rfl,rfl,rfl⟩,z⟩
 .refine⟨its.toList,r,⟨o,n,I.fM a o hk,hc,hd,by simpa using hs⟩,?_⟩;have e:=r.length;simp only[xO]at e;omega
theorem Inv.tuple(I:Inv X pins Z H s)(h:eD X.K H a xs):∃its:He,Vals xs its/\IsTup s.heap a its.toArray/\xs.length<=sizeLine:=by
 rcases h with h|⟨o,its,n,hk,hc,hs,hz,r⟩
 .obtain⟨z,its,r,p⟩:=h.ok I.bA;exact⟨its,r,p,z⟩
 .refine⟨its.toList,r,⟨o,I.fM a o hk,hc,n,by simpa using hs⟩,?_⟩;have e:=r.length;simp only[xO]at e;omega
theorem Inv.BG(I:Inv X pins Z H s)(h:dH X.K H a xs)(h':dH X.K H a ys):xs=ys:=by
 obtain⟨its,r,⟨o,n,e,_,_,d⟩,_⟩:=I.list h;obtain⟨its',r',⟨o',n',e',_,_,d'⟩,_⟩:=I.list h';rw[e]at e';cases e';rw[d]at d';injection d' with d1 _;have:its=its':=by simpa using congrArg JA d1
 subst this;exact r.inj r'
theorem Inv.HL(I:Inv X pins Z H s)(h:eD X.K H a xs)(h':eD X.K H a ys):xs=ys:=by
 obtain⟨its,r,⟨o,e,_,n,d⟩,_⟩:=I.tuple h;obtain⟨its',r',⟨o',e',_,n',d'⟩,_⟩:=I.tuple h';rw[e]at e';cases e';rw[d]at d';injection d' with d1 _;have:its=its':=by simpa using congrArg JA d1
 subst this;exact r.inj r'
end
section
variable {st:Stmt}{rest:Xm}{t u:TS}
def GZ:TS:=λD Z H=>D.nx Z H
def aLz(t u:TS):TS:=λD Z H=>t { D with nx:=u D } Z H
theorem aBy:rY X [] GZ:=λ_ _ Z H _ I h=>Tb ⟨Z,H,I,h⟩
theorem aBx(h1:PS X st t)(h2:rY X rest u):rY X (st::rest) (aLz t u):=by
 intro pins s Z H D I h;refine wpAny_execs_cons<|bB (h1 pins s Z H { D with nx:=u D } I h) λf s1 q=>?_;cases f with
 |next=>obtain⟨Z',H',I',q⟩:=q;exact h2 pins s1 Z' H' D I' q
 |ret v=>exact q|brk=>exact q|cont=>exact q
def aLh:TS:=λD Z H=>D.bk Z H
def aLi:TS:=λD Z H=>D.ct Z H
theorem aBr:PS X (.Pass pos) GZ:=λ_ _ Z H _ I h=>wpAny_Pass ⟨Z,H,I,h⟩
theorem aBi:PS X (.Break pos) aLh:=λ_ _ Z H _ I h=>wpAny_Break ⟨Z,H,I,h⟩
theorem aBj:PS X (.Continue pos) aLi:=λ_ _ Z H _ I h=>wpAny_Continue ⟨Z,H,I,h⟩
theorem Inv.quiet(I:Inv X pins Z H s):interactive X.env=aG:=by simp[interactive,I.ok.kind]
def aLk(te:TE):TS:=λD Z H=>te Z H λ_ H1=>D.nx Z H1
theorem aBk(he:PE X e te)(hs:vW e aD pos.line X.env=pure aG:=by rfl):PS X (.Expr e pos) (aLk te):=by intro pins s Z H D I h;exact wpAny_Expr_any (bB (he pins s Z H _ I h) λv s1 ⟨x,H1,I1,r1,q1⟩=>⟨Z,H1,I1,q1⟩) I.quiet hs
def aLx(te:TE):TS:=λD Z H=>te Z H D.rt
theorem aBs(he:PE X e te):PS X (.Return (aA e) pos) (aLx te):=by intro pins s Z H D I h;exact wpAny_Return_some<|bB (he pins s Z H _ I h) λv s1 ⟨x,H1,I1,r1,q1⟩=>⟨x,Z,H1,I1,r1,q1⟩
def aLy:TS:=λD _ H=>D.rt .aH H
theorem aBt:PS X (.Return aD pos) aLy:=λ_ _ Z H _ I h=>wpAny_Return_none ⟨.aH,Z,H,I,rfl,h⟩
def aLo(c:TT)(t u:TS):TS:=λD Z H=>c Z H λb H1=>if b=aB then t D Z H1 else u D Z H1
theorem aBo{a b:Xm}(hc:PT X c tc)(ha:rY X a t)(hb:rY X b u):PS X (.If c a b pos) (aLo tc t u):=by
 intro pins s Z H D I h;refine wpAny_If<|bB (hc pins s Z H _ I h) λd s1 ⟨H1,I1,q1⟩=>?_;cases d with
 |true=>exact ha pins s1 Z H1 D I1 q1|false=>exact hb pins s1 Z H1 D I1 q1
def aLq:TS:=λ_ _ _=>False
theorem aBp:PS X st aLq:=λ_ _ _ _ _ _ h=>h.elim
end
abbrev TG:=V->St->Hp->(St->Hp->Prop)->Prop
abbrev yN:=Hg->St->Hp->(St->Hp->Prop)->Prop
def PG(X:Cx)(target:aK)(t:TG):Prop:=
 ∀(pins:Hf) (s:aI) (Z:St) (H:Hp) (v:V) (u:Value) (Q:St->Hp->Prop),Inv X pins Z H s->RelV v u->t v Z H Q ->
  aS (aZ X.prog X.w) X.A (cu target X.env u) (λ_ s'=>∃Z' H',Inv X pins Z' H' s'/\Q Z' H') X.xe s
def my(X:Cx)(ts:List aK)(t:yN):Prop:=
 ∀(pins:Hf) (s:aI) (Z:St) (H:Hp) (vs:Hg) (us:He) (Q:St->Hp->Prop),Inv X pins Z H s->Vals vs us->t vs Z H Q ->
  aS (aZ X.prog X.w) X.A (NB ((rW ts X.env).map (·.2)) us) (λ_ s'=>∃Z' H',Inv X pins Z' H' s'/\Q Z' H') X.xe s
abbrev Fc:=V->V->V->Hp->(Hp->Prop)->Prop
def Ey(X:Cx)(t:Fc):Prop:=
 ∀(pins:Hf) (s:aI) (Z:St) (H:Hp) (o i v:V) (ov iv u:Value) (Q:Hp->Prop),Inv X pins Z H s->RelV o ov->RelV i iv->RelV v u->t o i v H Q ->
  aS (aZ X.prog X.w) X.A (setItem ov iv u) (λ_ s'=>∃H',Inv X pins Z H' s'/\Q H') X.xe s
abbrev wq:=V->V->Hp->VK->Prop
def wj(X:Cx)(op:rT)(t:wq):Prop:=
 ∀(pins:Hf) (s:aI) (Z:St) (H:Hp) (x y:V) (v u:Value) (Q:VK),Inv X pins Z H s->RelV x v->RelV y u->t x y H Q ->
  aS (aZ X.prog X.w) X.A (Sm op v u) (EP X pins Z Q) X.xe s
def Za(i:Nat):TG:=λv Z H Q=>Q (Z.set i<|aA v) H
theorem aAb(hN:X.N.Nodup)(hi:X.N[i]?=aA x)(hx:vY X.env.scope x)(hf:X.fn x=aB\/X.env.scope.names.lookup x=aA .local:=by first|exact .inl rfl|exact .inr rfl|assumption):PG X (.Name x pos) (Za i):=by intro pins s Z H v u Q I r h;exact NO<|uh I hN hi hx r (λs' I'=>⟨_,H,I',h⟩) hf
def u7:yN:=λvs Z H Q=>vs=[]/\Q Z H
def u5(t:TG)(u:yN):yN:=λvs Z H Q=>∃v r,vs=v::r/\t v Z H λZ' H'=>u r Z' H' Q
theorem aAf:my X [] u7:=by intro pins s Z H vs us Q I r h;obtain⟨e,h⟩:=h;subst e;exact NC ⟨Z,H,I,h⟩
theorem aAe{t:TG}{u:yN}(h1:PG X e t)(h2:my X es u)
  (hs:(rW (e::es) X.env).map (·.2)=cu e X.env::(rW es X.env).map (·.2):=by rfl):my X (e::es) (u5 t u):=by
 intro pins s Z H vs us Q I r h;obtain⟨v,vr,e1,h⟩:=h;subst e1;cases r with
 |cons r rr=>rw[hs];exact Se<|bB (h1 pins s Z H _ _ _ I r h) λ_ s1 ⟨Z1,H1,I1,q1⟩=>h2 pins s1 Z1 H1 _ _ Q I1 rr q1
def yn(to ti:TE)(t:Fc):TG:=λv Z H Q=>to Z H λo H1=>ti Z H1 λi H2=>t o i v H2 λH3=>Q Z H3
theorem aAd{o i:aK}{to ti:TE}{t:Fc}(ho:PE X o to)(hi:PE X i ti)(hs:Ey X t)
  (ha:∀v,cu (.Subscript o i pos) X.env v=(do
   let ov <- lj [v] (eval o X.env)
   let iv <- lj [v,ov] (eval i X.env)
   Ej pos
   lj [v,ov,iv] (setItem ov iv v)
   release [v,ov,iv] []):=by intro _;rfl):PG X (.Subscript o i pos) (yn to ti t):=by
 intro pins s Z H v u Q I r h;refine aM<|oT<|bB (ho pins s Z H _ I h) λov s1 zq=>?_;obtain⟨x,H1,I1,r1,q1⟩:=zq;refine aM<|oT<|bB (hi pins s1 Z H1 _ I1 q1) λiv s2 zq=>?_;obtain⟨y,H2,I2,r2,q2⟩:=zq;exact aM<|mf<|aM<|oT<|bB (hs pins s2 Z H2 x y v ov iv u _ I2 r1 r2 r q2) λ_ s3 ⟨H3,I3,q3⟩=>wpAny_release ⟨Z,H3,I3,q3⟩
def GU(te:TE)(g:TG):TS:=λD Z H=>te Z H λx H1=>g x Z H1 D.nx
theorem aBg{g:TG}(he:PE X e te)(hg:PG X tg g)(hs:NM [tg] e pos.line X.env=pure aG:=by rfl)(hw:lq [tg] e X.env=pure aD:=by rfl)
  (h1:(rW [tg] X.env).map (·.2)=[cu tg X.env]:=by rfl):PS X (.Assign [tg] e pos) (GU te g):=by
 intro pins s Z H D I h;refine wpAny_Assign_stores (bB (he pins s Z H _ I h) λv s1 ⟨x,H1,I1,r1,q1⟩=>?_) hs hw;rw[h1];exact bB (hg pins s1 Z H1 x v _ I1 r1 q1) λ_ s2 q=>q
def aLv(i j:Nat)(ta:TA):TS:=λD Z H=>ta Z H λvs H1=>∃v w,vs=[v,w]/\D.nx ((Z.set i<|aA v).set j (aA w)) H1
theorem aBq{y:Str}{a b:aK}{ta:TA}{px py pt:Pos}{kt k2 pt2}(hc:X.calm=aB)(hN:X.N.Nodup)(hi:X.N[i]?=aA x)(hj:X.N[j]?=aA y)(hij:i≠j)
  (hx:X.env.scope.names.lookup x=aA .local)(hy:X.env.scope.names.lookup y=aA .local)(ha:PA X [a,b] ta)
  (hw:lq [.Tuple [.Name x px,.Name y py] kt pt] (.Tuple [a,b] k2 pt2) X.env=pure (aA [x,y]))
  (hs:NM [.Tuple [.Name x px,.Name y py] kt pt] (.Tuple [a,b] k2 pt2) pos.line X.env=pure aG:=by rfl) :
  PS X (.Assign [.Tuple [.Name x px,.Name y py] kt pt] (.Tuple [a,b] k2 pt2) pos) (aLv i j ta):=by
 intro pins s Z H D I h;refine aM<|mf ?_;refine aM<|cB ?_;refine aM<|Tuple_<|bB (ha _ pins s Z H _ I h) λus s1 zq=>?_;obtain⟨vs,H1,I1,r1,q1⟩:=zq;obtain⟨v,w,e1,q1⟩:=q1;subst e1;obtain⟨u1,u2,rfl,rv,rw'⟩:∃u1 u2,us=[u1,u2]/\RelV v u1/\RelV w u2:=by
  cases r1 with
  |cons p q=>
   cases q with
   |cons p' q'=>cases q';exact⟨_,_,rfl,p,p'⟩
 refine tQ ?_ (by show 2<=sizeLine;decide);have I2:Inv X pins Z H1 { s1 with heap:=s1.heap.push { cls:=.type "tuple",data:=.seq [u1,u2].toArray } }:=I1.kept λb o e=>cT _ e;rw[hw];refine aM<|cB ?_;refine aM<|lz<|aM<|unpackItems_tuple (items:=#[u1,u2]) (I.ok.hd hc) (Cz s1.heap _) λh' hx'=>?_;have I3:=I2.kept (t':=s1.toks) λb o e=>hx' b o (cA<|cW e) e;refine aM<|Se<|NQ<|uh I3 hN hj (.inl hy) rw' (λs2 I4=>?_)<|.inr hy;refine Se<|NQ<|uh I4 hN hi (.inl hx) rv (λs3 I5=>NC (cB ?_))<|.inr hx;rw[List.set_comm _ _ (mK hij)]at I5;exact⟨_,H1,I5,q1⟩
def aLf(i:Nat)(te:TE)(ti:wq):TS:=λD Z H=>∃x,Z[i]?=aA (aA x)/\te Z H λy H1=>ti x y H1 λz H2=>D.nx (Z.set i<|aA z) H2
theorem aBh{op:rT}{ti:wq}(hN:X.N.Nodup)(hi:X.N[i]?=aA x)(hx:vY X.env.scope x)(he:PE X e te)(ho:wj X op ti)(hf:X.fn x=aB\/X.env.scope.names.lookup x=aA .local:=by first|exact .inl rfl|exact .inr rfl|assumption) :
  PS X (.AugAssign (.Name x pos') op e pos) (aLf i te ti):=by
 intro pins s Z H D I h;obtain⟨v,e1,h⟩:=h;obtain⟨m,hn,hl⟩:=I.loc;have vis:ng X.env.scope x:=by rcases hx with k|k;exact .inl k;exact .inr<|.inl k
 obtain⟨u,r,l⟩:=hl i x v hi e1 vis;refine wpAny_AugAssign_Name ?_;have go:aS (aZ X.prog X.w) X.A (eval e X.env) (λw s₂=>aS (aZ X.prog X.w) X.A (Sm op u w) (λr s₃=>aS (aZ X.prog X.w) X.A (Sw X.env x r) (λ_=>SP X pins D .next) X.xe s₃) X.xe s₂) X.xe s:=by refine bB (he pins s Z H _ I h) λw s1 zq=>?_;obtain⟨y,H1,I1,r1,q1⟩:=zq;refine bB (ho pins s1 Z H1 v y u w _ I1 r r1 q1) λz s2 zq=>?_;obtain⟨zv,H2,I2,r2,q2⟩:=zq;exact uh I2 hN hi hx r2 (λs3 I3=>⟨_,H2,I3,q2⟩) hf
 rcases l with⟨hk,hm⟩|⟨hk,c,hc,yu⟩
 .exact NU I.ok.kind hk hn hm go
 .rcases hk with hk|hk
  .exact NT I.ok.kind hk hc yu go
  .rcases hx with k|k
   .have:X.env.scope.names.lookup x=aA .free:=hk;rw[k]at this;cases this
   .have:X.env.scope.names.lookup x=aA .free:=hk;rw[k]at this;cases this
def Iu(f:Int->Int->Int):wq:=λx y H Q=>∃i j,x = .int i/\y = .int j/\Q (.int<|f i j) H
theorem D3:wj X .Add (Iu λi j=>i+j):=by intro pins s Z H x y v u Q I r1 r2 h;obtain⟨i,j,e1,e2,q⟩:=h;subst e1;subst e2;obtain⟨t,rfl⟩:=r1;obtain⟨t',rfl⟩:=r2;exact iadd_int ⟨.int _,H,I.tok _,⟨_,rfl⟩,q⟩
theorem D4:wj X .Sub (Iu λi j=>i-j):=by intro pins s Z H x y v u Q I r1 r2 h;obtain⟨i,j,e1,e2,q⟩:=h;subst e1;subst e2;obtain⟨t,rfl⟩:=r1;obtain⟨t',rfl⟩:=r2;exact isub_int ⟨.int _,H,I.tok _,⟨_,rfl⟩,q⟩
def aMc(c:TT)(tb:TS):TS:=λD Z H=>∃W:Nat->St->Hp->Prop,(∃m,W m Z H)/\∀m Z H,W m Z H ->
 c Z H λb H1=>if b=aB then∃N:St->Hp->Prop,(∀Z' H',N Z' H'->∃m',m'<m/\W m' Z' H')/\tb { D with nx:=N,ct:=N,bk:=D.nx } Z H1 else D.nx Z H1
theorem aBw{tb:TS}(hp:vd (aZ X.prog X.w) X.A X.env X.xe)(hc:PT X c tc)(hb:rY X body tb):PS X (.While c body [] pos) (aMc tc tb):=by
 intro pins s Z H D I h;obtain⟨W,⟨m0,w0⟩,turn⟩:=h;refine wpAny_While<|codeAny_whileLoop (λn s'=>∃Z' H',Inv X pins Z' H' s'/\W n Z' H') ?_ m0 ⟨Z,H,I,w0⟩;rintro n s1 ⟨Z1,H1,I1,w1⟩
 refine dq hp<|bB (hc pins s1 Z1 H1 _ I1<|turn n Z1 H1 w1) λb s2 ⟨H2,I2,q2⟩=>?_;cases b with
 |true=>
  obtain⟨N,hN,q2⟩:=q2;refine dq hp<|bB (hb pins s2 Z1 H2 _ I2 q2) λf s3 q3=>?_;cases f with
  |next=>obtain⟨Z3,H3,I3,n3⟩:=q3;obtain⟨m',hm,w3⟩:=hN Z3 H3 n3;exact⟨m',hm,Z3,H3,I3,w3⟩
  |cont=>obtain⟨Z3,H3,I3,n3⟩:=q3;obtain⟨m',hm,w3⟩:=hN Z3 H3 n3;exact⟨m',hm,Z3,H3,I3,w3⟩
  |brk=>exact q3|ret v=>exact q3
 |false=>exact Tb ⟨Z1,H2,I2,q2⟩
structure It where
 go:Nat->Hp->Prop
 uu:Nat->Hp->V->Hp->Prop
 stop:Nat->Hp->Prop
def kQ(X:Cx)(pins:Hf)(H:Hp)(b:Addr):Prop:=
 H b=aD/\b≠X.env.locals/\b∉X.fs/\(b∈X.ex\/X.s₀.heap.objs.size<=b)/\(∀x c,X.env.cells.lookup x=aA c->c≠b)/\∀p∈X.pn++pins,p.1≠b
theorem Inv.uE(I:Inv X pins Z H s)(hb:s.heap.objs.size<=b)(hn:H' b=aD):kQ X pins H' b:=by
 refine⟨hn,lQ (bC I.lt hb),I.O7 hb,.inr (dF I.sz hb),λx c e z=>?_,λp hp z=>?_⟩
 .obtain⟨v,q⟩:=I.cell x c e;exact absurd (bC q.lt<|z▸hb)<|lA _
 .exact absurd (bC (cW (I.pin p hp).1)<|z▸hb)<|lA _
structure Turn(P:cC)(w:bV)(K:bI)(tg:aK)(J:It)(fp:Xk)(it:Addr)(tn:Nat->bH->Prop):Prop where
 mem:it∈fp
 obj:∀i h,tn i h->∀b∈fp,∃o,h.get? b=aA o/\∀v,o.data ≠ .cell v
 keep:∀i h h',tn i h->(∀b∈fp,∀o,h.get? b=aA o->h'.get? b=aA o)->tn i h'
 item:∀(X:Cx),X.prog=P->X.w=w->X.K=K->X.calm=aB->∀(i:Nat) (pins:Hf) (s:aI) (Z:St) (H:Hp) (E:Value->aI->Prop),Inv X pins Z H s->(∀b∈fp,kQ X pins H b)->tn i s.heap->J.go i H ->
  aS (aZ P w) X.A (tO<|.ref it) (λr s1=>∃u,r=aA u /\
   aS (aZ P w) X.A (So tg (.ref it) u) (λ_ s2=>∃x H',Inv X pins Z H' s2/\RelV x u/\J.uu i H x H'/\tn (i+1) s2.heap/\∀b∈fp,H' b=aD) E s1) E s
 done:∀(X:Cx),X.prog=P->X.w=w->X.K=K->X.calm=aB->∀(i:Nat) (pins:Hf) (s:aI) (Z:St) (H:Hp) (E:Value->aI->Prop),Inv X pins Z H s->(∀b∈fp,kQ X pins H b)->tn i s.heap->J.stop i H ->
  aS (aZ P w) X.A (tO<|.ref it) (λr s1=>r=aD/\Inv X pins Z H s1) E s
 self:∀(A:cK) (i:Nat) (s:aI) (Q:Value->aI->Prop) (E:Value->aI->Prop),tn i s.heap->Q (.ref it) s->aS (aZ P w) A (vn<|.ref it) Q E s
abbrev TI:=St->Hp->(It->Hp->Prop)->Prop
def Tu(X:Cx)(pins:Hf)(Z:St)(tg:aK)(R:It->Hp->Prop)(itv:Value)(s2:aI):Prop:=
 ∃(it:Addr) (fp:Xk) (tn:Nat->bH->Prop) (J:It) (H':Hp),itv = .ref it/\Inv X pins Z H' s2/\Turn X.prog X.w X.K tg J fp it tn/\tn 0 s2.heap/\(∀b∈fp,kQ X pins H' b)/\R J H'
def PI(X:Cx)(tg cQ:aK)(wi:TI):Prop:=
 ∀(pins:Hf) (s:aI) (Z:St) (H:Hp) (R:It->Hp->Prop),Inv X pins Z H s->wi Z H R ->
  aS (aZ X.prog X.w) X.A (eval cQ X.env) (λv s1=>aS (aZ X.prog X.w) X.A (vn v) (Tu X pins Z tg R) X.xe s1) X.xe s
theorem yq{M:Model}{o:Obj}{n:String}{vs:Xq}{Q:Unit->aI->Prop}(ho:s.heap.get? it=aA o)(hc:o.cls = .type n)(hd:o.data = .fields vs)
    (hn:["enumerate","zip","dict_itemiterator","dict_reverseitemiterator","odict_iterator","itertools.zip_longest","itertools.pairwise"].contains n=aG)(hQ:Q () s):aS M A (So tg (.ref it) u) Q E s:=by
  cases tg<;>first
    |exact cB hQ
    | (cases u<;>first
        |exact cB hQ
        | (refine aM (wpAny_load ho ?_)
           rw[hc,hd];show aS M A (if(["enumerate","zip","dict_itemiterator","dict_reverseitemiterator","odict_iterator","itertools.zip_longest","itertools.pairwise"].contains n&&vs[0]?==aA (yF _))=aB then _ else _) Q E s;rw[if_neg (by intro h;rw[hn]at h;cases h)];exact cB hQ))
def Es(K:bI)(a:Addr):It:=
 ⟨λi H=>∃xs x,dH K H a xs/\xs[i]?=aA x,λi H x H'=>H'=H/\∀xs,dH K H a xs->xs[i]?=aA x,λi H=>∃xs,dH K H a xs/\xs.length<=i⟩
def Et(K:bI)(a:Addr):It:=
 ⟨λi H=>∃xs x,eD K H a xs/\xs[i]?=aA x,λi H x H'=>H'=H/\∀xs,eD K H a xs->xs[i]?=aA x,λi H=>∃xs,eD K H a xs/\xs.length<=i⟩
def mv(lo:Int)(n:Nat):It:=⟨λi _=>i<n,λi H x H'=>H'=H/\x = .int (lo+i),λi _=>n<=i⟩
theorem aMz{K:bI}(a it:Addr):Turn P w K tg (Es K a) [it] it (λi h=>h.IsListIter it a i) where
 mem:=by simp
 obj:=λi h st b hb=>by
  have e:b=it:=by simpa using hb
  subst e;obtain⟨o,e,c,d⟩:=st;exact⟨o,e,λv z=>by rw[d]at z;cases z⟩
 keep:=λi h h' st k=>st.at λo e=>k it (by simp) o e
 item:=by intro X hP hw hK hc i pins s Z H E I hf st hg;subst hP hw hK;obtain⟨xs,x,hq,hx⟩:=hg;obtain⟨its,rv,p,hz⟩:=I.list hq;obtain⟨u,hu,ru⟩:=rv.get hx;obtain⟨f0,f1,f2,f3,f4,f5⟩:=hf it (by simp);refine NY st p.isList (by simpa) λh' st' sb=>?_;have I1:Inv X pins Z H { s with heap:=h' }:=I.turned (λb o hb e=>(sb.2 b hb).trans e) f0 f1 f3 f4 f5;obtain⟨o,e,c,d⟩:=id st';exact⟨u,rfl,yq e c d (rfl) ⟨x,H,I1,ru,⟨rfl,λys hy=>by rw[I.BG hy hq];exact hx⟩,st',λb hb=>(hf b hb).1⟩⟩
 done:=by intro X hP hw hK hc i pins s Z H E I hf st hg;subst hP hw hK;obtain⟨xs,hq,hx⟩:=hg;obtain⟨its,rv,p,hz⟩:=I.list hq;obtain⟨f0,f1,f2,f3,f4,f5⟩:=hf it (by simp);have hl:=rv.length;exact Te (I.ok.hd hc) st p.isList (by simp;omega) λh' eb=>⟨rfl,I.turned (λb o hb e=>eb b o hb e) f0 f1 f3 f4 f5⟩
 self:=λ_ _ _ _ _ st h=>wpAny_pyIter_listiter st h
theorem aNc{K:bI}(a it:Addr):Turn P w K tg (Et K a) [it] it (λi h=>h.IsTupleIter it a i) where
 mem:=by simp
 obj:=λi h st b hb=>by
  have e:b=it:=by simpa using hb
  subst e;obtain⟨o,e,c,d⟩:=st;exact⟨o,e,λv z=>by rw[d]at z;cases z⟩
 keep:=λi h h' st k=>st.at λo e=>k it (by simp) o e
 item:=by intro X hP hw hK hc i pins s Z H E I hf st hg;subst hP hw hK;obtain⟨xs,x,hq,hx⟩:=hg;obtain⟨its,rv,p,hz⟩:=I.tuple hq;obtain⟨u,hu,ru⟩:=rv.get hx;obtain⟨f0,f1,f2,f3,f4,f5⟩:=hf it (by simp);refine wpAny_pyNext_tuple_item st (p) (by simpa) λh' st' sb=>?_;have I1:Inv X pins Z H { s with heap:=h' }:=I.turned (λb o hb e=>(sb.2 b hb).trans e) f0 f1 f3 f4 f5;obtain⟨o,e,c,d⟩:=id st';exact⟨u,rfl,yq e c d (rfl) ⟨x,H,I1,ru,⟨rfl,λys hy=>by rw[I.HL hy hq];exact hx⟩,st',λb hb=>(hf b hb).1⟩⟩
 done:=by intro X hP hw hK hc i pins s Z H E I hf st hg;subst hP hw hK;obtain⟨xs,hq,hx⟩:=hg;obtain⟨its,rv,p,hz⟩:=I.tuple hq;obtain⟨f0,f1,f2,f3,f4,f5⟩:=hf it (by simp);have hl:=rv.length;exact wpAny_pyNext_tuple_end (I.ok.hd hc) st (p) (by simp;omega) λh' eb=>⟨rfl,I.turned (λb o hb e=>eb b o hb e) f0 f1 f3 f4 f5⟩
 self:=λ_ _ _ _ _ st h=>wpAny_pyIter_tupleiter st h
theorem aNa{K:bI}(it:Addr)(lo:Int)(n:Nat):Turn P w K tg (mv lo n) [it] it (λi h=>IsRangeIter h it (lo+(i:Nat)*1) ((n:Int)-(i:Nat)) 1) where
 mem:=by simp
 obj:=λi h st b hb=>by
  have e:b=it:=by simpa using hb
  subst e;exact⟨_,st,λv z=>by have z':Data.fields _=Data.cell v:=z;cases z'⟩
 keep:=λi h h' st k=>k it (by simp) _ st
 item:=by intro X hP hw hK hc i pins s Z H E I hf st hg;subst hP hw hK;obtain⟨f0,f1,f2,f3,f4,f5⟩:=hf it (by simp);refine(Walks.range (prog:=X.prog) (w:=X.w) (I.ok.hd hc) it lo 1 n).item i s _ _ hg st λv h' tk hv st' kk=>?_;obtain⟨t,rfl⟩:=hv;have I1:Inv X pins Z H { s with heap:=h',toks:=tk }:=I.turned (λb o hb e=>kk b o (by simpa) e) f0 f1 f3 f4 f5;refine⟨_,rfl,yq st' rfl rfl (rfl) ⟨.int (lo+i),H,I1,⟨t,?_⟩,⟨rfl,rfl⟩,st',λb hb=>(hf b hb).1⟩⟩;rw[Int.mul_one]
 done:=by intro X hP hw hK hc i pins s Z H E I hf st hg;obtain⟨f0,f1,f2,f3,f4,f5⟩:=hf it (by simp);exact wpAny_pyNext_range_end (I.ok.hd hc) st (by have:n<=i:=hg;omega) λh' eb=>⟨rfl,I.turned (λb o hb e=>eb b o hb e) f0 f1 f3 f4 f5⟩
 self:=λ_ _ _ _ _ st h=>wpAny_pyIter_rangeiter st h
theorem FG{R:It->Hp->Prop}{lo hi:Int}{t u v:Tok}{tk:Nat}(I:Inv X pins Z H s)(h1:-(2 ^ 62)<=lo)(h2:lo<2 ^ 62)(h3:-(2 ^ 62)<=hi)(h4:hi<2 ^ 62)
  (q:R (mv lo (hi-lo).toNat) H):aS (aZ X.prog X.w) X.A (vn<|.ref s.heap.objs.size) (Tu X pins Z tg R) E { s with heap:=s.heap.push { cls:=.type "range",data:=.fields #[.int lo t,.int hi u,.int 1 v] },toks:=tk }:=by
 refine wpAny_pyIter_range (IsRange.new ..) (small_one h1 h2 h3 h4) ?_;have I1:Inv X pins Z H { s with heap:=s.heap.push { cls:=.type "range",data:=.fields #[.int lo t,.int hi u,.int 1 v] },toks:=tk }:=I.kept λb o e=>cT _ e;refine⟨(s.heap.push { cls:=.type "range",data:=.fields #[.int lo t,.int hi u,.int 1 v] }).objs.size,[(s.heap.push { cls:=.type "range",data:=.fields #[.int lo t,.int hi u,.int 1 v] }).objs.size],_,_,H,rfl,
  I1.kept λb o e=>cT _ e,aNa _ lo (hi-lo).toNat,?_,λb hb=>?_,q⟩
 .have e1:lo+((0:Nat):Int)*1=lo:=by simp
  have e2:(((hi-lo).toNat:Nat):Int)-((0:Nat):Int)=Builtin.Range.rangeSize lo hi 1:=by rw[rangeSize_one];split<;>omega
  rw[e1,e2];exact fU _ rfl
 .have e:b=(s.heap.push { cls:=.type "range",data:=.fields #[.int lo t,.int hi u,.int 1 v] }).objs.size:=by simpa using hb
  subst e;exact I1.uE (aV _)<|I1.bA.fresh<|aV _
def C3(ta:TA):TI:=λZ H R=>ta Z H λvs H1=>∃j:Int,vs=[.int j]/\-(2 ^ 62)<=j/\j<2 ^ 62/\R (mv 0 j.toNat) H1
def C4(ta:TA):TI:=λZ H R=>ta Z H λvs H1=>∃i j:Int,vs=[.int i,.int j]/\(-(2 ^ 62)<=i/\i<2 ^ 62/\-(2 ^ 62)<=j/\j<2 ^ 62)/\R (mv i (j-i).toNat) H1
theorem aAi{a:aK}{ta:TA}(hg:Gl X "range")(hm:X.mg "range"=aD)(ha:PA X [a] ta)(hs:eI [a] X.env=[(aG,eval a X.env)]:=by rfl):PI X tg (.Call (.Name "range" p) [a] [] pos) (C3 ta):=by
 intro pins s Z H R I h;refine Call_<|wY I hg hm boot_range<|ve (bB (ha pos pins s Z H _ I h) λus s1 ⟨vs,H1,I1,r1,q1⟩=>?_) hs rfl;obtain⟨j,e,q1,q2,q⟩:=q1;subst e;cases r1 with
 |cons r rr=>cases rr;obtain⟨t,rfl⟩:=r;exact call_range_1<|FG I1 (by omega) (by omega) q1 q2 (by simpa)
theorem aAj{a b:aK}{ta:TA}(hg:Gl X "range")(hm:X.mg "range"=aD)(ha:PA X [a,b] ta)(hs:eI [a,b] X.env=[(aG,eval a X.env),(aG,eval b X.env)]:=by rfl)(hs2:eI [b] X.env=[(aG,eval b X.env)]:=by rfl) :
  PI X tg (.Call (.Name "range" p) [a,b] [] pos) (C4 ta):=by
 intro pins s Z H R I h;refine Call_<|wY I hg hm boot_range<|ve (bB (ha pos pins s Z H _ I h) λus s1 ⟨vs,H1,I1,r1,q1⟩=>?_) (by rw[hs,hs2]) (by rw[hs2];rfl);obtain⟨i,j,e,⟨q1,q2,q3,q4⟩,q⟩:=q1;subst e;cases r1 with
 |cons r rr=>
  cases rr with
  |cons r' rr=>cases rr;obtain⟨t,rfl⟩:=r;obtain⟨t',rfl⟩:=r';exact call_range_2<|FG I1 q1 q2 q3 q4 q
def aLm(wi:TI)(g:TG)(tb:TS):TS:=λD Z H=>wi Z H λJ H1=>∃W:Nat->Nat->St->Hp->Prop,(∃m,W 0 m Z H1)/\∀i m Z H,W i m Z H ->
 (J.stop i H/\D.nx Z H)\/(J.go i H/\∃N:St->Hp->Prop,(∀Z' H',N Z' H'->∃m',m'<m/\W (i+1) m' Z' H')/\∀x H',J.uu i H x H'->g x Z H' λZ2 H2=>tb { D with nx:=N,ct:=N,bk:=D.nx } Z2 H2)
def Aq(fp:Xk)(h:bH):Hf:=fp.filterMap λb=>(h.get? b).map λo=>(b,o)
theorem Ac{o:Obj}(hb:b∈fp)(e:h.get? b=aA o):(b,o)∈Aq fp h:=List.mem_filterMap.mpr ⟨b,hb,by rw[e];rfl⟩
theorem CD{p:Addr×Obj}(hp:p∈Aq fp h):p.1∈fp/\h.get? p.1=aA p.2:=by
 obtain⟨b,hb,e⟩:=List.mem_filterMap.mp hp;cases q:h.get? b with
 |none=>rw[q]at e;cases e|some o=>rw[q]at e;have e':(b,o)=p:=dR e;subst e';exact⟨hb,q⟩
theorem Inv.pinned(I:Inv X pins Z H s)(hf:∀b∈fp,kQ X pins H b)(ho:∀b∈fp,∃o,s.heap.get? b=aA o/\∀v,o.data ≠ .cell v):Inv X (pins++Aq fp s.heap) Z H s:=
 I.ik λp hp=>(List.mem_append.mp hp).elim (λz=>I.pin p (iJ _ z)) λz=>by obtain⟨hb,e⟩:=CD z;obtain⟨f0,f1,f2,_⟩:=hf p.1 hb;obtain⟨o,e',d⟩:=ho p.1 hb;rw[e]at e';cases e';exact⟨e,f0,f1,f2,d⟩
theorem Inv.Bu{pl:Hf}(I:Inv X (pins++pl) Z H s):Inv X pins Z H s:=I.ik λp hp=>I.pin p (iJ _<|cc _ hp)
theorem aBn{cQ:aK}{wi:TI}{g:TG}{tb:TS}(hp:vd (aZ X.prog X.w) X.A X.env X.xe)(hc:X.calm=aB)(hi:PI X tg cQ wi)(hg:PG X tg g)(hb:rY X body tb)
  (hs:∀x,Eg cQ X.env x=pure x:=by intro _;rfl):PS X (.For tg cQ body [] pos) (aLm wi g tb):=by
 intro pins s Z H D I h;refine wpAny_For (bB (hi pins s Z H _ I h) λv s1 h1=>bB h1 λitv s2 h2=>?_) hs;obtain⟨it,fp,tn,J,H2,e,I2,T,st2,f2,W,⟨m0,w0⟩,turn⟩:=h2;subst e;have fS:∀{H':Hp},(∀b∈fp,H' b=aD)->∀b∈fp,kQ X pins H' b:=λhn b hb=>⟨hn b hb,(f2 b hb).2⟩;refine codeAny_forLoop_any (λn s'=>∃i Z' H',Inv X pins Z' H' s'/\tn i s'.heap/\(∀b∈fp,H' b=aD)/\W i n Z' H') ?_ m0 ⟨0,Z,H2,I2,st2,λb hb=>(f2 b hb).1,w0⟩;rintro n s3 ⟨i,Z3,H3,I3,st3,fr3,w3⟩
 rcases turn i n Z3 H3 w3 with⟨stop,qn⟩|⟨go,N,hN,step⟩
 .refine dq hp<|bB (T.done X rfl rfl rfl hc i pins s3 Z3 H3 X.xe I3 (fS fr3) st3 stop) λr s4 ⟨hr,I4⟩=>?_;subst hr;exact Tb ⟨Z3,H3,I4,qn⟩
 .refine dq hp<|bB (T.item X rfl rfl rfl hc i pins s3 Z3 H3 X.xe I3 (fS fr3) st3 go) λr s4 ⟨u,hr,h4⟩=>?_;subst hr;refine dq hp<|bB h4 λ_ s5 zq=>?_;obtain⟨x,H5,I5,r5,y5,st5,fr5⟩:=zq;refine dq hp<|bB (hg _ s5 Z3 H5 x u _ (I5.pinned (fS fr5)<|T.obj _ _ st5) r5<|step x H5 y5) λ_ s6 ⟨Z6,H6,I6,q6⟩=>?_;refine dq hp<|bB (hb _ s6 Z6 H6 _ I6 q6) λf s7 q7=>?_;have again:∀{Z7:St}{H7:Hp},Inv X (pins++Aq fp s5.heap) Z7 H7 s7->N Z7 H7->∃m,m<n/\∃i Z' H',Inv X pins Z' H' s7/\tn i s7.heap/\(∀b∈fp,H' b=aD)/\W i m Z' H':=λ{Z7 H7} I7 n7=>by obtain⟨m',hm,w7⟩:=hN Z7 H7 n7;refine⟨m',hm,i+1,Z7,H7,I7.Bu,T.keep _ _ _ st5 λb hb o e=>(I7.pin (b,o)<|iJ _<|iJ _<|Ac hb e).1,λb hb=>?_,w7⟩;obtain⟨o,e,d⟩:=T.obj _ _ st5 b hb;exact(I7.pin (b,o)<|iJ _<|iJ _<|Ac hb e).2.1
  cases f with
  |next=>obtain⟨Z7,H7,I7,n7⟩:=q7;exact again I7 n7|cont=>obtain⟨Z7,H7,I7,n7⟩:=q7;exact again I7 n7|brk=>obtain⟨Z7,H7,I7,q7⟩:=q7;exact⟨Z7,H7,I7.Bu,q7⟩|ret v=>obtain⟨x7,Z7,H7,I7,r7,q7⟩:=q7;exact⟨x7,Z7,H7,I7.Bu,r7,q7⟩
abbrev R2:=V->V->Hp->VK->Prop
variable {r r':R2}
def cU(X:Cx)(f:Value->Value->Sem Value)(r:R2):Prop:=
 ∀(pins:Hf) (s:aI) (Z:St) (H:Hp) (x y:V) (v u:Value) (Q:VK),Inv X pins Z H s->RelV x v->RelV y u->r x y H Q ->
  aS (aZ X.prog X.w) X.A (f v u) (EP X pins Z Q) X.xe s
def wx(X:Cx)(f:Value->Sem Value)(r:V->Hp->VK->Prop):Prop:=
 ∀(pins:Hf) (s:aI) (Z:St) (H:Hp) (x:V) (v:Value) (Q:VK),Inv X pins Z H s->RelV x v->r x H Q ->
  aS (aZ X.prog X.w) X.A (f v) (EP X pins Z Q) X.xe s
def iM(X:Cx)(f:Value)(r:Hg->Hp->VK->Prop):Prop:=
 ∀(pins:Hf) (s:aI) (Z:St) (H:Hp) (xs:Hg) (us:He) (Q:VK),Inv X pins Z H s->Vals xs us->r xs H Q ->
  aS (aZ X.prog X.w) X.A (call f us) (EP X pins Z Q) X.xe s
def OC(X:Cx)(r:V->Hp->(Bool->Hp->Prop)->Prop):Prop:=
 ∀(pins:Hf) (s:aI) (Z:St) (H:Hp) (x:V) (v:Value) (Q:Bool->Hp->Prop),Inv X pins Z H s->RelV x v->r x H Q ->
  aS (aZ X.prog X.w) X.A (truthy v) (TP X pins Z Q) X.xe s
def Bm(r:R2)(ta tb:TE):TE:=λZ H Q=>ta Z H λx H1=>tb Z H1 λy H2=>r x y H2 Q
def tUn(r:V->Hp->VK->Prop)(ta:TE):TE:=λZ H Q=>ta Z H λx H1=>r x H1 Q
def rI(C:Int->Int->Prop)(g:Int->Int->V):R2:=λx y H Q=>∃i j,x = .int i/\y = .int j/\C i j/\Q (g i j) H
def oJ(g:Int->Int->V):R2:=λx y H Q=>∃i j,x = .int i/\y = .int j/\Q (g i j) H
def rU(g:Int->V):V->Hp->VK->Prop:=λx H Q=>∃i,x = .int i/\Q (g i) H
section
variable {a b:aK}{tc:TE}
theorem Fl(ha:PE X a ta)(hb:PE X b tb){R:V->V->Hp->Prop}(I:Inv X pins Z H s)
  (h:ta Z H λx H1=>tb Z H1 λy H2=>R x y H2){f:Value->Value->Sem Value}
  (hf:∀v u s2 x y H2,Inv X pins Z H2 s2->RelV x v->RelV y u->R x y H2->aS (aZ X.prog X.w) X.A (f v u) Q X.xe s2) :
  aS (aZ X.prog X.w) X.A (eval a X.env) (λv s₁=>aS (aZ X.prog X.w) X.A (eval b X.env) (λu s₂=>aS (aZ X.prog X.w) X.A (f v u) Q X.xe s₂) X.xe s₁) X.xe s:=by
 refine bB (ha pins s Z H _ I h) λv s1 ⟨x,H1,I1,r1,q1⟩=>?_;exact bB (hb pins s1 Z H1 _ I1 q1) λu s2 ⟨y,H2,I2,r2,q2⟩=>hf v u s2 x y H2 I2 r1 r2 q2
theorem Z4{op:rT}(ho:cU X (eY op) r)(ha:PE X a ta)(hb:PE X b tb):PE X (.BinOp a op b pos) (Bm r ta tb):=by intro pins s Z H Q I h;exact wpAny_BinOp<|Fl ha hb I h λv u s2 x y H2 I2 rx ry q=>ho pins s2 Z H2 x y v u Q I2 rx ry q
theorem Z9{op:UnaryOp}{r:V->Hp->VK->Prop}(ho:wx X (Ek op) r)(ha:PE X a ta):PE X (.UnaryOp op a pos) (tUn r ta):=by intro pins s Z H Q I h;exact UnaryOp_<|bB (ha pins s Z H _ I h) λv s1 ⟨x,H1,I1,r1,q1⟩=>ho pins s1 Z H1 x v Q I1 r1 q1
theorem ig{f:Value->Value->Sem Value}{C:Int->Int->Prop}{g:Int->Int->Int}
  (rule:∀(i j:Int) (t u:Tok) (s:aI) (Q:Value->aI->Prop) (E:Value->aI->Prop),C i j->Q (.int (g i j) s.toks) { s with toks:=s.toks+1 }->aS (aZ X.prog X.w) X.A (f (.int i t)<|.int j u) Q E s) :
  cU X f (rI C λi j=>.int (g i j)):=by
 intro pins s Z H x y v u Q I rx ry h;obtain⟨i,j,rfl,rfl,hc,q⟩:=h;obtain⟨t,rfl⟩:=rx;obtain⟨t',rfl⟩:=ry;exact rule i j t t' s _ _ hc ⟨.int (g i j),H,I.tok _,⟨_,rfl⟩,q⟩
theorem rq{f:Value->Value->Sem Value}{g:Int->Int->Int}
  (rule:∀(i j:Int) (t u:Tok) (s:aI) (Q:Value->aI->Prop) (E:Value->aI->Prop),Q (.int (g i j) s.toks) { s with toks:=s.toks+1 }->aS (aZ X.prog X.w) X.A (f (.int i t)<|.int j u) Q E s) :
  cU X f (oJ λi j=>.int (g i j)):=by
 intro pins s Z H x y v u Q I rx ry h;obtain⟨i,j,rfl,rfl,q⟩:=h;obtain⟨t,rfl⟩:=rx;obtain⟨t',rfl⟩:=ry;exact rule i j t t' s _ _ ⟨.int (g i j),H,I.tok _,⟨_,rfl⟩,q⟩
theorem Ak{f:Value->Value->Sem Value}{g:Int->Int->Bool}
  (rule:∀(i j:Int) (t u:Tok) (s:aI) (Q:Value->aI->Prop) (E:Value->aI->Prop),Q (.bool<|g i j) s->aS (aZ X.prog X.w) X.A (f (.int i t)<|.int j u) Q E s) :
  cU X f (oJ λi j=>.bl (g i j)):=by
 intro pins s Z H x y v u Q I rx ry h;obtain⟨i,j,rfl,rfl,q⟩:=h;obtain⟨t,rfl⟩:=rx;obtain⟨t',rfl⟩:=ry;exact rule i j t t' s _ _ ⟨.bl (g i j),H,I,rfl,q⟩
def Eo(i j:Int):Prop:=0<=j/\j<=1000000/\i.natAbs<2 ^ 64
theorem aNg(k:Nat):(0:Int)<=2 ^ k:=by exact Int.natCast_nonneg _
theorem Q3:cU X (eY .Add) (oJ λi j=>.int (i+j)):=rq λ_ _ _ _ _ _ _ q=>add_int q
theorem U5:cU X (eY .Sub) (oJ λi j=>.int (i-j)):=rq λ_ _ _ _ _ _ _ q=>sub_int q
theorem S8:cU X (eY .Mod) (rI (λ_ j=>0<j) λi j=>.int (i%j)):=ig λi j _ _ _ _ _ hc q=>by have h1:(0:Int)<j:=hc;exact mod_int' (by omega) (by rw[JL i (by omega)];exact q)
theorem U1:cU X (eY .Pow) (rI Eo λi j=>.int (i ^ j.toNat)):=ig λ_ _ _ _ _ _ _ hc q=>pow_int_small hc.1 hc.2.1 hc.2.2 q
theorem U3:cU X (eY .LShift) (rI Eo λi j=>.int (i*2 ^ j.toNat)):=ig λ_ _ _ _ _ _ _ hc q=>lshift_int_small hc.1 hc.2.1 hc.2.2 q
theorem U4:cU X (eY .RShift) (rI (λ_ j=>0<=j) λi j=>.int (i / 2 ^ j.toNat)):=ig λi j _ _ _ _ _ hc q=>rshift_int hc (by rw[Po i (aNg _)];exact q)
theorem Q5:cU X (eY .BitAnd) (oJ λi j=>.int (rP i j)):=rq λ_ _ _ _ _ _ _ q=>and_int q
theorem U0:cU X (eY .BitOr) (oJ λi j=>.int (jz i j)):=rq λ_ _ _ _ _ _ _ q=>or_int q
theorem U6:cU X (eY .BitXor) (oJ λi j=>.int (kb i j)):=rq λ_ _ _ _ _ _ _ q=>xor_int q
theorem unI{f:Value->Sem Value}{g:Int->Int}
  (rule:∀(i:Int) (t:Tok) (s:aI) (Q:Value->aI->Prop) (E:Value->aI->Prop),Q (.int (g i) s.toks) { s with toks:=s.toks+1 }->aS (aZ X.prog X.w) X.A (f<|.int i t) Q E s) :
  wx X f (rU λi=>.int (g i)):=by
 intro pins s Z H x v Q I rx h;obtain⟨i,rfl,q⟩:=h;obtain⟨t,rfl⟩:=rx;exact rule i t s _ _ ⟨.int (g i),H,I.tok _,⟨_,rfl⟩,q⟩
theorem aNh:wx X (Ek .USub) (rU λi=>.int (-i)):=unI λ_ _ _ _ _ q=>neg_int q
end
def My:V->V->Bool
 |.aH,.aH=>aB | .aH,.int _=>aB | .int _,.aH=>aB | .aH,.bl _=>aB | .bl _,.aH=>aB | .aH,.str _=>aB | .str _,.aH=>aB
 |.int _,.int _=>aB | .bl _,.bl _=>aB | .str _,.str _=>aB | .mY _,.mY _=>aB
 |.int _,.str _=>aB | .str _,.int _=>aB | .bl _,.str _=>aB | .str _,.bl _=>aB
 |_,_=>aG
def EX:R2:=λx y H Q=>My x y=aB/\Q (.bl<|decide<|x=y) H
def FE:R2:=λx y H Q=>My x y=aB/\Q (.bl<|!decide (x=y)) H
theorem Wq{i j:Int}:decide (V.int i=V.int j)=(i==j):=by rw[jx];simp
theorem Wn{i j:Bool}:decide (V.bl i=V.bl j)=(i==j):=by rw[jx];simp
theorem Wr{i j:Str}:decide (V.str i=V.str j)=(i==j):=by rw[jx];simp
theorem Wo{i j:Array UInt8}:decide (V.mY i=V.mY j)=(i.toList==j.toList):=by rw[jx];cases i;cases j;simp
section
variable {a b:aK}{tc:TE}
theorem eS{Q:VK}{k k':Bool}(I:Inv X pins Z H s)(q:Q (.bl k) H)(e:k=k'):EP X pins Z Q (.bool k') s:=by subst e;exact⟨.bl k,H,I,rfl,q⟩
theorem Q9:cU X (dG .Eq) EX:=by
 intro pins s Z H x y v u Q I rx ry h;obtain⟨hs,q⟩:=h;cases x with
 |aH=>
  cases rx;cases y with
  |aH=>cases ry;exact aSo<|eS I q (by simp)|bl j=>cases ry;exact aSm<|eS I q (by simp)|int j=>obtain⟨t',rfl⟩:=ry;exact aSn<|eS I q (by simp)|str j=>obtain⟨t',rfl⟩:=ry;exact aSp<|eS I q (by simp)|_=>exact absurd (show aG=aB from hs) gR
 |bl i=>
  cases rx;cases y with
  |aH=>cases ry;exact aSk<|eS I q (by simp)|bl j=>cases ry;exact eq_bool<|eS I q Wn|str j=>obtain⟨t',rfl⟩:=ry;exact aSc<|eS I q (by simp)|_=>exact absurd (show aG=aB from hs) gR
 |int i=>
  obtain⟨t,rfl⟩:=rx;cases y with
  |aH=>cases ry;exact aSl<|eS I q (by simp)|int j=>obtain⟨t',rfl⟩:=ry;exact eq_int<|eS I q Wq|str j=>obtain⟨t',rfl⟩:=ry;exact aSd<|eS I q (by simp)|_=>exact absurd (show aG=aB from hs) gR
 |str i=>
  obtain⟨t,rfl⟩:=rx;cases y with
  |aH=>cases ry;exact aSq<|eS I q (by simp)|bl j=>cases ry;exact aSe<|eS I q (by simp)|int j=>obtain⟨t',rfl⟩:=ry;exact aSf<|eS I q (by simp)|str j=>obtain⟨t',rfl⟩:=ry;exact eq_str<|eS I q Wr|_=>exact absurd (show aG=aB from hs) gR
 |mY i=>
  obtain⟨t,rfl⟩:=rx;cases y with
  |mY j=>obtain⟨t',rfl⟩:=ry;exact W.eq_bytes<|eS I q Wo|_=>exact absurd (show aG=aB from hs) gR
 |_=>cases y<;>exact absurd (show aG=aB from hs) gR
theorem T2:cU X (dG .NotEq) FE:=by
 intro pins s Z H x y v u Q I rx ry h;obtain⟨hs,q⟩:=h;cases x with
 |aH=>
  cases rx;cases y with
  |aH=>cases ry;exact aSv<|eS I q (by simp)|bl j=>cases ry;exact aSt<|eS I q (by simp)|int j=>obtain⟨t',rfl⟩:=ry;exact aSu<|eS I q (by simp)|str j=>obtain⟨t',rfl⟩:=ry;exact aSw<|eS I q (by simp)|_=>exact absurd (show aG=aB from hs) gR
 |bl i=>
  cases rx;cases y with
  |aH=>cases ry;exact aSr<|eS I q (by simp)|bl j=>cases ry;exact ne_bool<|eS I q<|congrArg not Wn|str j=>obtain⟨t',rfl⟩:=ry;exact aSg<|eS I q (by simp)|_=>exact absurd (show aG=aB from hs) gR
 |int i=>
  obtain⟨t,rfl⟩:=rx;cases y with
  |aH=>cases ry;exact aSs<|eS I q (by simp)|int j=>obtain⟨t',rfl⟩:=ry;exact ne_int<|eS I q<|congrArg not Wq|str j=>obtain⟨t',rfl⟩:=ry;exact aSh<|eS I q (by simp)|_=>exact absurd (show aG=aB from hs) gR
 |str i=>
  obtain⟨t,rfl⟩:=rx;cases y with
  |aH=>cases ry;exact aSx<|eS I q (by simp)|bl j=>cases ry;exact aSi<|eS I q (by simp)|int j=>obtain⟨t',rfl⟩:=ry;exact aSj<|eS I q (by simp)|str j=>obtain⟨t',rfl⟩:=ry;exact ne_str<|eS I q<|congrArg not Wr|_=>exact absurd (show aG=aB from hs) gR
 |mY i=>
  obtain⟨t,rfl⟩:=rx;cases y with
  |mY j=>obtain⟨t',rfl⟩:=ry;exact W.ne_bytes<|eS I q<|congrArg not Wo|_=>exact absurd (show aG=aB from hs) gR
 |_=>cases y<;>exact absurd (show aG=aB from hs) gR
theorem S7:cU X (dG .Lt) (oJ λi j=>.bl (decide<|i<j)):=Ak λ_ _ _ _ _ _ _ q=>lt_int q
theorem S6:cU X (dG .LtE) (oJ λi j=>.bl (decide<|i<=j)):=Ak λ_ _ _ _ _ _ _ q=>le_int q
theorem R9:cU X (dG .Gt) (oJ λi j=>.bl (decide<|j<i)):=Ak λ_ _ _ _ _ _ _ q=>gt_int q
theorem R8:cU X (dG .GtE) (oJ λi j=>.bl (decide<|j<=i)):=Ak λ_ _ _ _ _ _ _ q=>ge_int q
theorem S5:cU X (dG .Is) (λx y H Q=>y = .aH/\Q (.bl<|decide<|x = .aH) H):=by
 intro pins s Z H x y v u Q I rx ry h;obtain⟨rfl,q⟩:=h;cases ry;refine is_none_gen<|eS I q ?_;cases x<;>first
  | (cases rx;rfl)
  | (obtain⟨t,rfl⟩:=rx;rfl)
theorem T9:cU X (dG .IsNot) (λx y H Q=>y = .aH/\Q (.bl<|!decide (x = .aH)) H):=by
 intro pins s Z H x y v u Q I rx ry h;obtain⟨rfl,q⟩:=h;cases ry;refine isnot_none_gen<|eS I q ?_;cases x<;>first
  | (cases rx;rfl)
  | (obtain⟨t,rfl⟩:=rx;rfl)
theorem cU.or{f:Value->Value->Sem Value}(h:cU X f r)(h':cU X f r'):cU X f (λx y H Q=>r x y H Q\/r' x y H Q):=by
 intro pins s Z H x y v u Q I rx ry q;rcases q with q|q
 .exact h pins s Z H x y v u Q I rx ry q
 .exact h' pins s Z H x y v u Q I rx ry q
theorem Y0{op:pL}(ho:cU X (dG op) r)(ha:PE X a ta)(hb:PE X b tb)(hm:vj op b=aG):PE X (.Compare a [op] [b] pos) (Bm r ta tb):=by intro pins s Z H Q I h;exact wpAny_Compare1 (Fl ha hb I h λv u s2 x y H2 I2 rx ry q=>ho pins s2 Z H2 x y v u Q I2 rx ry q) hm
def HD(t:TE):TT:=λZ H Q=>t Z H λx H'=>∃k,x = .bl k/\Q k H'
theorem aCa{op:pL}(ho:cU X (dG op) r)(ha:PE X a ta)(hb:PE X b tb)(hm:vj op b=aG):PT X (.Compare a [op] [b] pos) (HD<|Bm r ta tb):=by
 intro pins s Z H Q I h;refine wpAny_isTrue_Compare1 (bB (ha pins s Z H _ I h) λv s1 ⟨x,H1,I1,r1,q1⟩=>bB (hb pins s1 Z H1 _ I1 q1) λu s2 ⟨y,H2,I2,r2,q2⟩=>bB (ho pins s2 Z H2 x y v u _ I2 r1 r2 q2) λc s3 ⟨z,H3,I3,r3,k,e,q3⟩=>?_) hm
 subst e;cases r3;exact du ⟨H3,I3,q3⟩
def Nn(r r':R2)(ta tb tc:TE):TE:=λZ H Q=>ta Z H λx H1=>tb Z H1 λy H2=>r x y H2 λz H3=>∃k,z = .bl k /\
 (if k=aB then tc Z H3 λw' H4=>r' y w' H4 Q else Q (.bl aG) H3)
theorem X9{op:pL}(ho:cU X (dG op) r)(ho':cU X (dG op') r')(ha:PE X a ta)(hb:PE X b tb)(hc:PE X c tc)
  (hm:Ei [op,op'] [b,c]=aG:=by with_unfolding_all rfl):PE X (.Compare a [op,op'] [b,c] pos) (Nn r r' ta tb tc):=by
 intro pins s Z H Q I h;refine Compare_chain (bB (ha pins s Z H _ I h) λv s1 ⟨x,H1,I1,r1,q1⟩=>chain_link (bB (hb pins s1 Z H1 _ I1 q1) λu s2 ⟨y,H2,I2,r2,q2⟩=>bB (ho pins s2 Z H2 x y v u _ I2 r1 r2 q2) λd s3 ⟨z,H3,I3,r3,k,e,q3⟩=>?_)) hm
 subst e;cases r3;refine du ?_;cases k with
 |false=>exact ite_ff ⟨.bl aG,H3,I3,rfl,q3⟩|true=>exact ite_tt<|chain_last<|bB (hc pins s3 Z H3 _ I3 q3) λw' s4 ⟨z',H4,I4,r4,q4⟩=>ho' pins s4 Z H4 y z' u w' Q I4 r2 r4 q4
theorem aBz{op:pL}(ho:cU X (dG op) r)(ho':cU X (dG op') r')(ha:PE X a ta)(hb:PE X b tb)(hc:PE X c tc)
  (hm:Ei [op,op'] [b,c]=aG:=by with_unfolding_all rfl):PT X (.Compare a [op,op'] [b,c] pos) (HD<|Nn r r' ta tb tc):=by
 intro pins s Z H Q I h;refine isTrue_chain (bB (ha pins s Z H _ I h) λv s1 ⟨x,H1,I1,r1,q1⟩=>test_link (bB (hb pins s1 Z H1 _ I1 q1) λu s2 ⟨y,H2,I2,r2,q2⟩=>bB (ho pins s2 Z H2 x y v u _ I2 r1 r2 q2) λd s3 ⟨z,H3,I3,r3,k,e,q3⟩=>?_)) hm
 subst e;cases r3;refine du ?_;cases k with
 |false=>obtain⟨k',e',q'⟩:=q3;cases e';exact ite_ff ⟨H3,I3,q'⟩
 |true=>refine ite_tt<|test_last<|bB (hc pins s3 Z H3 _ I3 q3) λw' s4 ⟨z',H4,I4,r4,q4⟩=>bB (ho' pins s4 Z H4 y z' u w' _ I4 r2 r4 q4) λd' s5 ⟨z2,H5,I5,r5,k2,e2,q5⟩=>?_;subst e2;cases r5;exact du ⟨H5,I5,q5⟩
def yO(K:bI)(x:V)(H:Hp)(k:Bool):Prop:=
 match x with
 |.aH=>k=aG
 |.bl b=>k=b
 |.int i=>k=(i != 0)
 |.str y=>y.length<=sizeLine/\k=((y.length:Int) != 0)
 |.mY y=>y.size<=sizeLine/\k=((y.size:Int) != 0)
 |.ref p=>(∃xs,dH K H p xs/\k = !xs.isEmpty)\/(∃xs,eD K H p xs/\k = !xs.isEmpty)\/∃kvs,H p=aA (.dK kvs)/\k = !kvs.isEmpty
 |_=>False
theorem D8{κ:Type}{kvs:List (κ×V)}{vs:List (κ×Value)}(r:KV kvs vs):(!vs.isEmpty) = !kvs.isEmpty:=by cases r<;>rfl
theorem Zx{its:He}(r:Vals xs its):(!its.toArray.isEmpty) = !xs.isEmpty:=by cases r<;>simp
theorem zY:(sizeLine:Nat)<2 ^ 63:=by decide
theorem Bt:OC X (λx H Q=>∃k,yO X.K x H k/\Q k H):=by
 intro pins s Z H x v Q I rx h;obtain⟨k,e,q⟩:=h;have hl:=zY;have hs:sizeLine=16777216:=rX;cases x with
 |aH=>cases rx;have e':k=aG:=e;subst e';exact truthy_none ⟨H,I,q⟩
 |bl b=>cases rx;have e':k=b:=e;subst e';exact du ⟨H,I,q⟩
 |int i=>obtain⟨t,rfl⟩:=rx;have e':k=(i != 0):=e;subst e';exact PySem.P.truthy_int ⟨H,I,q⟩
 |str y=>obtain⟨t,rfl⟩:=rx;obtain⟨hy,e'⟩:y.length<=sizeLine/\k=((y.length:Int) != 0):=e;subst e';exact PySem.P.truthy_str (by omega) ⟨H,I.tok _,q⟩
 |mY y=>obtain⟨t,rfl⟩:=rx;obtain⟨hy,e'⟩:y.size<=sizeLine/\k=((y.size:Int) != 0):=e;subst e';exact W.truthy_bytes (by omega) ⟨H,I.tok _,q⟩
 |ref p=>
  cases rx;have e':(∃xs,dH X.K H p xs/\k = !xs.isEmpty)\/(∃xs,eD X.K H p xs/\k = !xs.isEmpty)\/∃kvs,H p=aA (.dK kvs)/\k = !kvs.isEmpty:=e;rcases e' with⟨xs,hx,e'⟩|⟨xs,hx,e'⟩|⟨kvs,hx,e'⟩
  .subst e';obtain⟨its,r,pl,hz⟩:=I.list hx;have hlen:=r.length;exact wpAny_truthy_list pl.isList (by simp only[hU];omega) ⟨H,I.tok _,by rw[Zx r];exact q⟩
  .subst e';obtain⟨its,r,pl,hz⟩:=I.tuple hx;have hlen:=r.length;exact truthy_tuple pl (by simp only[hU];omega) ⟨H,I.tok _,by rw[Zx r];exact q⟩
  .subst e';obtain⟨hz,hS,vs,r,m⟩:kvs.length<=sizeLine/\(p==tP)=aG/\∃vs,KV kvs vs/\s.heap.DictOf (gK X.prog X.w) p vs:=I.bA p _ hx;have hlen:kvs.length=vs.length:=Du r;exact wpAny_truthy_dict hS m (by omega) ⟨H,I.tok _,by rw[D8 r];exact q⟩
 |_=>exact(show False from e).elim
theorem aCc(ha:PE X a ta)(he:∀whole,isTrue a X.env whole=(do let v <- whole;Ej a.pos;lj [v] (truthy v))) :
  PT X a (λZ H Q=>ta Z H λx H'=>∃k,yO X.K x H' k/\Q k H'):=by
 intro pins s Z H Q I h;exact isTrue_plain (bB (ha pins s Z H _ I h) λv s1 ⟨x,H1,I1,r1,q1⟩=>Bt pins s1 Z H1 x v Q I1 r1 q1)<|he _
theorem Q4:cU X (eY .Add) (λx y H Q=>∃i j,x = .str i/\y = .str j/\i.length+j.length<=sizeLine/\Q (.str<|i++j) H):=by intro pins s Z H x y v u Q I rx ry h;obtain⟨i,j,rfl,rfl,hz,q⟩:=h;obtain⟨t,rfl⟩:=rx;obtain⟨t',rfl⟩:=ry;exact add_str (λt' tk=>⟨.str (i++j),H,I.tok _,⟨_,rfl⟩,q⟩) hz
theorem ji{x:V}(r:Vals [x] us):∃u,us=[u]/\RelV x u:=by
 cases r with
 |cons r1 r2=>cases r2;exact⟨_,rfl,r1⟩
theorem xJ{x:V}(r:Vals [x,y] us):∃u w',us=[u,w']/\RelV x u/\RelV y w':=by
 cases r with
 |cons r1 r2=>
  cases r2 with
  |cons r3 r4=>cases r4;exact⟨_,_,rfl,r1,r3⟩
theorem VO(hc:X.calm=aB):iM X (.builtin "max") (λxs H Q=>∃i j,xs=[.int i,.int j]/\Q (.int<|if j > i then j else i) H):=by
 intro pins s Z H xs us Q I r h;obtain⟨i,j,rfl,q⟩:=h;obtain⟨u,w',rfl,⟨t,rfl⟩,⟨t',rfl⟩⟩:=xJ r;refine max_two_ints (I.ok.hd hc) λh' tk k=>⟨_,H,I.kept k,?_,q⟩;by_cases hj:j > i
 .rw[if_pos hj,if_pos hj];exact⟨_,rfl⟩
 .rw[if_neg hj,if_neg hj];exact⟨_,rfl⟩
theorem VP(hc:X.calm=aB):iM X (.builtin "min") (λxs H Q=>∃i j,xs=[.int i,.int j]/\Q (.int<|if j<i then j else i) H):=by
 intro pins s Z H xs us Q I r h;obtain⟨i,j,rfl,q⟩:=h;obtain⟨u,w',rfl,⟨t,rfl⟩,⟨t',rfl⟩⟩:=xJ r;refine min_two_ints (I.ok.hd hc) λh' tk k=>⟨_,H,I.kept k,?_,q⟩;by_cases hj:j<i
 .rw[if_pos hj,if_pos hj];exact⟨_,rfl⟩
 .rw[if_neg hj,if_neg hj];exact⟨_,rfl⟩
theorem VH:iM X (.type "int") (λxs H Q=>(∃i,xs=[.int i]/\Q (.int i) H)\/∃k,xs=[.bl k]/\Q (.int<|if k then 1 else 0) H):=by
 intro pins s Z H xs us Q I r h;rcases h with⟨i,rfl,q⟩|⟨k,rfl,q⟩
 .obtain⟨u,rfl,t,rfl⟩:=ji r;exact call_int_int ⟨.int i,H,I,⟨_,rfl⟩,q⟩
 .obtain⟨u,rfl,r1⟩:=ji r;cases r1;exact call_int_bool ⟨.int (if k then 1 else 0),H,I.tok _,⟨_,rfl⟩,q⟩
end
structure yL(h:bH)(x dx C:Addr)(mA:Str->Xl):Prop where
 obj:h.get? x=aA (xZ C dx)
 ns:h.Ns1 dx mA
 ne:dx≠x
theorem J8(n:h.Ns1 dx mA):∃od,h.get? dx=aA od/\∀name,Ec name od=aA (mA name):=by
 obtain⟨o,es,ep,ho,hd,hk,_,hm⟩:=n;refine⟨o,ho,λname=>?_⟩;have e:=hm name;unfold nsFind findBy at e;rw[<- Array.find?_toList]at e;unfold Ec;rw[hd];dsimp only;split
 .rename_i y q;rw[q]at e;exact congrArg aA e
 .rename_i q;rw[q]at e;have a:es.toList.any (·.refKey)=aG:=by rw[JT];intro y hy;obtain⟨z,t,A8⟩:=hk y (Array.mem_toList_iff.mp hy);simp[DictEntry.refKey,A8]
  have a':¬es.toList.any (·.refKey)=aB:=a▸gR;rw[if_neg a'];exact congrArg aA e
theorem yL.look{x:Addr}(I:yL h x dx C mA):∃od,W.InstAt h x (xZ C dx) C (aA od)/\∀name,Ec name od=aA (mA name):=
 let ⟨od,ho,hl⟩:=J8 I.ns
 ⟨od,⟨I.obj,rfl,rfl,ho⟩,hl⟩
section
variable {K:bI}{x f:Addr}{name:Str}{v:Value}
theorem w9{expr:Bool}(X:K.In s.heap)(I:yL s.heap x dx C mA)(hg:vg K C name=aB)(hh:Eb K C=aB)
  (ha:nQ K (.ref C) name=aA aD)(hv:mA name=aA v)(hv':Ea v=aB)(h:Q v { s with toks:=s.toks+1 }) :
  aS (aZ prog w) A (getAttr (.ref x) name expr) Q E s:=by
 obtain⟨od,J,hl⟩:=I.look;exact W.get_value X J (Rr hg).1 (W.findObj_own hh ha rfl (by rw[hl,hv])) hv' h
theorem x4{pl:Sem Bool}{Q:Value×He->aI->Prop}(X:K.In s.heap)(I:yL s.heap x dx C mA)(hg:vg K C name=aB)
  (hf:nQ K (.ref C) name=aA (aA<|.ref f)) (ht:vf K (.ref f)=aB) (hv:mA name=aD) (h:Q (.ref f,[.ref x]) s) :
  aS (aZ prog w) A (Sk (.ref x) name pl) Q E s:=by
 obtain⟨od,J,hl⟩:=I.look;exact W.method_fn X J (Rr hg).1 (Rr hg).2 hf (beq_iff_eq.mp ht) (by show(Ec name od).map (·.isSome)=aA aG;rw[hl,hv];rfl) h
theorem aJf{ns:Xo}{Q:Unit->aI->Prop}(X:K.In s.heap)(I:yL s.heap x dx C mA)
  (hs:nQ K (.ref C) "__setattr__"=aA (aA<|.builtin "object.__setattr__")) (hp:Rt K C=aB) (ht:Rv K C name=aA aD) (hh:Eb K C=aB)
  (hw:Rx mA ns) (hsz:ns.length<=sizeLine)
  (h:∀h',yL h' x dx C (λy=>if y=name then aA v else mA y)->xR dx s.heap h'->Q () { s with heap:=h',toks:=s.toks+2 }) :
  aS (aZ prog w) A (setAttr (.ref x) name v) Q E s:=by
 obtain⟨od,J,hl⟩:=I.look;refine W.set_plain X J hs<|W.osa_open X J hp ht λb=>?_;obtain⟨cd,hc,hd'⟩:=W.any_some hh;have hx:s.heap.get? x=aA ⟨.ref C,aA dx,.plain,#[]⟩:=I.obj;refine aM<|cB<|aM<|aM<|wpAny_loadPart hx<|aM<|W.Looks.here (W.looks_clsIn X hc) ?_;rw[hd'];refine cB<|aM<|cB<|aM ?_;refine wpAny_nsSet1 I.ns λh' hn2 hs2=>?_;obtain⟨oD,esD,epD,hoD,hdD,hcD⟩:=hn2.count (PySem.Within.cons name v hw);exact aM<|wpAny_lookBehind hoD (by rw[hdD];exact pastItsLine_dict<|dF hcD (by rw[iB];omega))<|cB<|h _ ⟨(hs2.2 _<|mK I.ne).trans I.obj,hn2,I.ne⟩ hs2
theorem K7{R:Result->aI->Prop}{vs:He}(X:K.In s.heap)(hm:Ro K C=aB)
  (hi:nQ K (.ref C) "__init__"=aA (aA<|.ref f))(hf:W.typeIn K (.ref f)=aA (.type "function"))
  (h:tM (aZ prog w) (A.under<|.builtin "type.__call__" ⟨.ref C::vs,kw⟩) (.call (.ref f) ⟨.ref (s.heap.objs.size+1)::vs,kw⟩) (W.InitBack (s.heap.objs.size+1) R)
   { s with heap:=(s.heap.push xY).push (xZ C s.heap.objs.size) }) :
  tM (aZ prog w) A (.call (.ref C) ⟨vs,kw⟩) R s:=by
 exact W.make_core (W.makes_of X hm) (W.looks_findIn X hi) (λself=>W.bind_fn X self hf) (.inl rfl) h
end
def jU(f:Str)(v:V):Xw->Xw
 |[]=>[(f,v)]
 | (g,x)::r=>if g=f then(g,v)::r else(g,x)::jU f v r
theorem BK(f g:Str)(v:V):∀fs:Xw,(jU f v fs).lookup g=if g=f then aA v else fs.lookup g
 |[]=>by
  show tI g [(f,v)]=_;by_cases h:g=f
  .have hb:(g==f)=aB:=beq_iff_eq.mpr h;simp only[tI,hb,if_pos h]
  .have hb:(g==f)=aG:=beq_eq_false_iff_ne.mpr h;simp only[tI,hb,if_neg h]
 | (k,x)::r=>by
  rw[show jU f v ((k,x)::r)=(if k=f then(k,v)::r else(k,x)::jU f v r) from rfl];by_cases hk:k=f
  .rw[if_pos hk];by_cases h:g=k
   .have hb:(g==k)=aB:=beq_iff_eq.mpr h;simp only[tI,hb,if_pos (h.trans hk)]
   .have hb:(g==k)=aG:=beq_eq_false_iff_ne.mpr h;simp only[tI,hb,if_neg (λe:g=f=>h (e.trans hk.symm))]
  .rw[if_neg hk];by_cases h:g=k
   .have hb:(g==k)=aB:=beq_iff_eq.mpr h;simp only[tI,hb,if_neg (λe:g=f=>hk (h.symm.trans e))]
   .have hb:(g==k)=aG:=beq_eq_false_iff_ne.mpr h;simp only[tI,hb];exact(BK f g v r)
theorem Jc(f:Str)(v:V):∀fs:Xw,f∈(jU f v fs).map (·.1)/\∀g,g∈fs.map (·.1)->g∈(jU f v fs).map (·.1)
 |[]=>⟨by simp[jU],λg h=>by simp at h⟩
 | (k,x)::r=>by
  obtain⟨i1,i2⟩:=Jc f v r;rw[show jU f v ((k,x)::r)=(if k=f then(k,v)::r else(k,x)::jU f v r) from rfl];by_cases hk:k=f
  .rw[if_pos hk];subst hk;exact⟨by simp,λg h=>by simpa using h⟩
  .rw[if_neg hk];refine⟨?_,λg h=>?_⟩
   .rw[jC];exact jD _ i1
   .rw[jC]at h ⊢;rcases List.mem_cons.mp h with e|e
    .exact List.mem_cons.mpr<|.inl e
    .exact jD _<|i2 g e
theorem BF(f:Str)(v:V):∀fs:Xw,(jU f v fs).length<=fs.length+1
 |[]=>by simp[jU]
 | (k,x)::r=>by
  have ih:=BF f v r;rw[show jU f v ((k,x)::r)=(if k=f then(k,v)::r else(k,x)::jU f v r) from rfl];by_cases hk:k=f
  .rw[if_pos hk,iB,iB];omega
  .rw[if_neg hk,iB,iB];omega
theorem iE.some_of{o:Xl}(r:iE (aA v) o):∃u,o=aA u/\RelV v u:=by
 cases o with
 |none=>exact(r).elim|some u=>exact⟨u,rfl,r⟩
theorem iE.none_of{o:Xl}(r:iE aD o):o=aD:=by
 cases o with
 |none=>rfl|some u=>exact(r).elim
theorem A0(r:RelV v u):Ea u=aB:=by
 cases v with
 |aH=>cases(r);rfl|bl b=>cases(r);rfl|int i=>obtain⟨t,e⟩:=(r);cases e;rfl|str x=>obtain⟨t,e⟩:=(r);cases e;rfl|mY b=>obtain⟨t,e⟩:=(r);cases e;rfl|yf b=>obtain⟨t,e⟩:=(r);cases e;rfl|ref a=>cases(r);rfl|ty n=>cases(r);rfl
section
variable {fs fs':Xw}
theorem Iq(bA:fA P w H h)(e:H a=aA (.ins C dx fs)):∃mA,yL h a dx C mA/\(∀f,iE (fs.lookup f) (mA f))/\Rx mA (fs.map (·.1))/\fs.length<=1000/\H dx=aA (.own a):=by obtain⟨d,z,ne,ob,mA,n,r,q⟩:=(show hV P w H h a (.ins C dx fs) from bA a _ e);exact⟨mA,⟨ob,n,ne⟩,r,q,z,d⟩
end
structure mX(K:bI)(C:Addr):Prop where
 pg:vg K C Str.empty=aB
 hd:Eb K C=aB
 po:Rt K C=aB
 sa:nQ K (.ref C) "__setattr__"=aA (aA<|.builtin "object.__setattr__")
theorem mX.get{K:bI}(c:mX K C)(f:Str):vg K C f=aB:=c.pg
def wB(K:bI)(C:Addr)(f:Str):Prop:=nQ K (.ref C) f=aA aD
theorem wB.aMp{K:bI}{f:Str}(n:wB K C f):Rv K C f=aA aD:=by unfold Rv;rw[show nQ K (.ref C) f=aA aD from n];rfl
structure wc(K:bI)(C:Addr)(m:Str)(f:Addr):Prop where
 at_:nQ K (.ref C) m=aA (aA<|.ref f)
 fn:vf K (.ref f)=aB
 kp:tL K (.ref f)=aB
section
variable {fs:Xw}{f:Str}
theorem Zg{b:Bool}(I:Inv X pins Z H s)(e:H a=aA (.ins C dx fs))(c:mX X.K C)(n:wB X.K C f)(l:fs.lookup f=aA v)
  (h:∀u s',Inv X pins Z H s'->RelV v u->Q u s'):aS (aZ X.prog X.w) A (getAttr (.ref a) f b) Q E s:=by
 obtain⟨mA,O,r,_,_,_⟩:=Iq I.bA e;obtain⟨u,hu,ru⟩:=iE.some_of (by rw[<- l];exact r f);exact w9 I.fM O (c.get f) c.hd n hu (A0 ru)<|h u _ (I.tok _) ru
theorem Zh{g:Addr}{pl:Sem Bool}{Q:Value×He->aI->Prop}(I:Inv X pins Z H s)(e:H a=aA (.ins C dx fs))(c:mX X.K C)(k:wc X.K C m g)(l:fs.lookup m=aD)
  (h:Q (.ref g,[.ref a]) s):aS (aZ X.prog X.w) A (Sk (.ref a) m pl) Q E s:=by
 obtain⟨mA,O,r,_,_,_⟩:=Iq I.bA e;have hn:mA m=aD:=iE.none_of (by rw[<- l];exact r m);exact x4 I.fM O (c.get m) k.at_ k.fn hn h
theorem GA{Q:Unit->aI->Prop}(I:Inv X pins Z H s)(e:H a=aA (.ins C dx fs))(c:mX X.K C)(n:wB X.K C f)(hl:fs.length<1000)(ry:RelV y u)
  (h:∀s',Inv X pins Z (bF H a<|.ins C dx<|jU f y fs) s'->Q () s'):aS (aZ X.prog X.w) A (setAttr (.ref a) f u) Q E s:=by
 obtain⟨mA,O,r,wi,_,ho⟩:=Iq I.bA e;have hz:(fs.map (·.1)).length<=sizeLine:=by rw[aU,rX];omega
 refine aJf I.fM O c.sa c.po n.aMp c.hd wi hz λh' O' sb=>h _ ?_;have hd:∃o,h'.get? dx=aA o:=let ⟨o,_,_,e',_⟩:=O'.ns;⟨o,e'⟩;refine I.write (e▸oS) (.inr ho) (λb q hb z=>(sb.2 b hb).trans z) hd ?_;refine⟨by rw[bZ O.ne];exact ho,?_,O.ne,O'.obj,_,O'.ns,λg=>?_,λg hg=>?_⟩
 .have:=BF f y fs;omega
 .show iE ((jU f y fs).lookup g) (if g=f then aA u else mA g);rw[BK];by_cases q:g=f
  .rw[if_pos q,if_pos q];exact ry
  .rw[if_neg q,if_neg q];exact r g
 .by_cases q:g=f
  .rw[q];exact(Jc f y fs).1
  .refine(Jc f y fs).2 g (wi g λz=>hg ?_);show(if g=f then aA u else mA g)=aD;rw[if_neg q];exact z
theorem Inv.made(I:Inv X pins Z H s):Inv X pins Z (bF (bF H s.heap.objs.size<|.own<|s.heap.objs.size+1) (s.heap.objs.size+1)<|.ins C s.heap.objs.size [])
  { s with heap:=(s.heap.push xY).push (xZ C s.heap.objs.size) }:=by
 have e1:(s.heap.push xY).get? s.heap.objs.size=aA xY:=fU s.heap rfl;have e2:((s.heap.push xY).push (xZ C s.heap.objs.size)).get? (s.heap.objs.size+1)=aA (xZ C s.heap.objs.size):=by have:=fU (s.heap.push xY) (o:=xZ C s.heap.objs.size) rfl;rwa [rQ]at this
 have e3:(s.heap.push xY).Ns s.heap.objs.size (λ_=>aD):=⟨xY,#[],_,e1,rfl,(λe he=>absurd he (by simp)),λ_=>rfl⟩;have I1:=I.laid (o:=.own (s.heap.objs.size+1)) (t':=s.toks) (λb u q=>cT _ q) (aV _) ⟨_,e1⟩;refine I1.laid (λb u q=>cT _ q) (LM<|rQ _ _) ?_;have ne:s.heap.objs.size≠s.heap.objs.size+1:=cA (dA _);refine⟨by rw[bZ ne,gQ],jZ _,ne,e2,λ_=>aD,(Heap.Ns1.of_empty e3).at λo q=>cT _ q,λ_=>oS,λy hy=>absurd rfl hy⟩
theorem OO{env:Env}{f:Str}(hb:lh e f env (eval e env)=eval e env)
  (h:aS (aZ prog w) A (eval e env) (λo s₁=>aS (aZ prog w) A (getAttr o f aB) Q E s₁) E s):aS (aZ prog w) A (eval (.Attribute e f pos) env) Q E s:=
 Attribute_any_ h (by rw[arm_eval_Attribute,hb])
end
def aLl(K:bI)(ta:TE)(f:Str):TE:=λZ H Q=>ta Z H λx H1=>∃a C dx fs v,x = .ref a/\H1 a=aA (.ins C dx fs)/\mX K C/\wB K C f/\fs.lookup f=aA v/\Q v H1
def aIy(K:bI)(ta tv:TE)(f:Str):TS:=λD Z H=>tv Z H λy H1=>ta Z H1 λx H2=>∃a C dx fs,x = .ref a/\H2 a=aA (.ins C dx fs)/\mX K C/\wB K C f/\fs.length<1000 /\
 D.nx Z (bF H2 a<|.ins C dx<|jU f y fs)
def Tp(X:Cx)(op:rT)(rd:V->V->Hp->VK->Prop):Prop:=
 ∀(pins:Hf) (s:aI) (Z:St) (H:Hp) (x y:V) (u v:Value) (Q:VK),Inv X pins Z H s->RelV x u->RelV y v->rd x y H Q->aS (aZ X.prog X.w) X.A (Sm op u v) (EP X pins Z Q) X.xe s
def aIz(K:bI)(ta tv:TE)(rd:V->V->Hp->VK->Prop)(f:Str):TS:=λD Z H=>ta Z H λx H1=>∃a C dx fs v,x = .ref a/\H1 a=aA (.ins C dx fs)/\mX K C/\wB K C f/\fs.lookup f=aA v /\
 tv Z H1 λy H2=>rd v y H2 λz H3=>∃dx' fs',H3 a=aA (.ins C dx' fs')/\fs'.length<1000/\D.nx Z (bF H3 a<|.ins C dx'<|jU f z fs')
section
variable {o value:aK}{f:Str}{tpos:Pos}{tv:TE}
theorem Y3(he:PE X e ta)(hb:lh e f X.env (eval e X.env)=eval e X.env):PE X (.Attribute e f pos) (aLl X.K ta f):=by intro pins s Z H Q I h;refine OO hb<|bB (he pins s Z H _ I h) λu s1 zq=>?_;obtain⟨x,H1,I1,rx,a,C,dx,fs,v,ex,ea,c,n,l,q⟩:=zq;subst ex;obtain rfl:u=lB a:=rx;exact Zg I1 ea c n l λu' s2 I2 ru=>⟨v,H1,I2,ru,q⟩
theorem aBl(ha:PE X o ta)(hv:PE X value tv)(hs:vW value (aA<|.Attribute o f pos') pos.line X.env=pure aG):PS X (.Assign [.Attribute o f pos'] value pos) (aIy X.K ta tv f):=by intro pins s Z H D I h;refine aTz (bB (hv pins s Z H _ I h) λu s1 ⟨y,H1,I1,ry,q⟩=>bB (ha pins s1 Z H1 _ I1 q) λov s2 ⟨x,H2,I2,rx,a,C,dx,fs,ex,ea,c,n,l,q2⟩=>?_) hs;subst ex;obtain rfl:ov=lB a:=rx;exact GA I2 ea c n l ry λs3 I3=>⟨Z,_,I3,q2⟩
theorem aBm{op:rT}{rd:V->V->Hp->VK->Prop}(ha:PE X o ta)(hv:PE X value tv)(hop:Tp X op rd):PS X (.AugAssign (.Attribute o f tpos) op value pos) (aIz X.K ta tv rd f):=by intro pins s Z H D I h;refine wpAny_AugAssign_AttributeAny<|bB (ha pins s Z H _ I h) λov s1 zq=>?_;obtain⟨x,H1,I1,rx,a,C,dx,fs,v,ex,ea,c,n,l,q⟩:=zq;subst ex;obtain rfl:ov=lB a:=rx;refine Zg I1 ea c n l λu s2 I2 ru=>bB (hv pins s2 Z H1 _ I2 q) λw3 s3 ⟨y,H2,I3,ry,q3⟩=>bB (hop pins s3 Z H2 v y u w3 _ I3 ru ry q3) λw4 s4 zq=>?_;obtain⟨z,H3,I4,rz,dx',fs',ea',l',q4⟩:=zq;exact GA I4 ea' c n l' rz λs5 I5=>⟨Z,_,I5,q4⟩
def aHy:V->V->Hp->VK->Prop:=λx y H Q=>∃i j,x = .int i/\y = .int j/\Q (.int<|i+j) H
theorem C8:Tp X .Add aHy:=by
 rintro pins s Z H x y u v Q I rx ry ⟨i,j,rfl,rfl,q⟩
 obtain⟨t,rfl⟩:=(show∃t,u=vS i t from rx);obtain⟨t',rfl⟩:=(show∃t',v=vS j t' from ry);exact PyProof.Rows.iadd_int ⟨.int (i+j),H,I.tok _,⟨_,rfl⟩,q⟩
end
structure fK(k:Nat)(A:cK):Prop where
 hd:A.handled=aD
 dp:A.depth+3*k+5<recursionLimit
 un:A.units+16*k+200<cLine
theorem fK.mono{k:Nat}(r:fK k A)(h:j<=k):fK j A:=⟨r.hd,by have:=r.dp;omega,by have:=r.un;omega⟩
theorem fK.deeper{k:Nat}{A:cK}(r:fK (k+1) A)(env:Env):fK k (A.deeper env):=
 ⟨r.hd,by have:=r.dp;show A.depth+1+3*k+5<_;omega,by have:=r.un;show A.units+3+16*k+200<_;omega⟩
theorem K6:(A.under<|.builtin "type.__call__" ⟨.ref C::us,kw⟩).depth=A.depth+1:=by first|rfl|simp[Code.weight]
theorem K8:(A.under<|.builtin "type.__call__" ⟨.ref C::us,kw⟩).units=A.units+1:=by first|rfl|simp[Code.cUnits]
theorem fK.make{k:Nat}(r:fK (k+1) A)(C:Addr)(us:He)(kw:Xx):fK k (A.under<|.builtin "type.__call__" ⟨.ref C::us,kw⟩):=
 ⟨r.hd,by have:=r.dp;rw[K6];omega,by have:=r.un;rw[K8];omega⟩
theorem fK.depth{k:Nat}{A:cK}(r:fK k A):A.depth<recursionLimit:=by have:=r.dp;omega
theorem fK.units{k:Nat}{A:cK}(r:fK k A):A.units+64<cLine:=by have:=r.un;omega
def jf:TA:=λ_ H Q=>Q [] H
def Nq(ta:TE)(tr:TA):TA:=λZ H Q=>ta Z H λx H1=>tr Z H1 λxs H2=>Q (x::xs) H2
section
variable {t:TA}
theorem ae:PA X [] jf:=λ_ _ _ _ H Q I h=>Calls.spliced_nil ⟨[],H,I,.nil,h⟩
theorem xA(ha:PE X e te)(hr:PA X es t)(hs:eI (e::es) X.env=(aG,eval e X.env)::eI es X.env:=by rfl):PA X (e::es) (Nq te t):=by intro pos pins s Z H Q I h;rw[hs];show aS _ _ (spliced<|(aG,eval e X.env)::lR pos (eI es X.env)) _ _ s;refine Calls.spliced_cons<|bB (ha pins s Z H _ I h) λu s1 zq=>?_;obtain⟨x,H1,I1,r1,q1⟩:=zq;exact bB (hr pos pins s1 Z H1 _ I1 q1) λus s2 ⟨xs,H2,I2,r2,q2⟩=>⟨x::xs,H2,I2,.cons r1 r2,q2⟩
def aMa(t:TA):TE:=λZ H Q=>t Z H λxs H1=>xs.length<=sizeLine/\∀p,H1 p=aD->Q (.ref p) (bF H1 p<|.tup xs)
def aLp(t:TA):TE:=λZ H Q=>t Z H λxs H1=>xs.length<=sizeLine/\∀p,H1 p=aD->Q (.ref p) (bF H1 p<|.lst xs)
theorem Z8{x1}(h:PA X es t):PE X (.Tuple es x1 pos) (aMa t):=by intro pins s Z H Q I hq;refine wpAny_Tuple_spliced<|bB (h pos pins s Z H _ I hq) λus s1 ⟨xs,H1,I1,r,z,q⟩=>⟨r.length▸z,?_⟩;have hf:H1 s1.heap.objs.size=aD:=I1.bA.fresh (aV _);refine⟨.ref s1.heap.objs.size,bF H1 s1.heap.objs.size (.tup xs),I1.laid (λb u e=>cT _ e) (aV _) ?_,rfl,q _ hf⟩;exact⟨z,us,r,⟨_,fU _ rfl,rfl,_,rfl⟩⟩
theorem Y7(h:PA X es t):PE X (.List es pos) (aLp t):=by intro pins s Z H Q I hq;refine wpAny_List_spliced<|bB (h pos pins s Z H _ I hq) λus s1 ⟨xs,H1,I1,r,z,q⟩=>⟨r.length▸z,?_⟩;have hf:H1 s1.heap.objs.size=aD:=I1.bA.fresh (aV _);refine⟨.ref s1.heap.objs.size,bF H1 s1.heap.objs.size (.lst xs),I1.laid (λb u e=>cT _ e) (aV _) ?_,rfl,q _ hf⟩;exact⟨z,us,0,r,fU _ rfl⟩
end
abbrev Sp:=Hg->Hp->VK->XK->Prop
variable {sp:Sp}
abbrev nU:=YG->Hp->aI->XK->Value->aI->Prop
variable {CX:nU}
structure yI(P:cC)(w:bV)(K:bI)(mg:Str->Xl)(base:bH)(A:cK)(outer:YG)(s:aI)(H:Hp):Prop where
 frames:A.frames=aA outer
 mod:Mod K mg base
 bs:∀b o,base.get? b=aA o->s.heap.get? b=aA o/\H b=aD
 wI:base.objs.size<=s.heap.objs.size
 qZ:s.heap.FunFrames base outer
 gf:∀b∈qP outer,H b=aD
 bA:fA P w H s.heap
 bare:vL s.gens
def CE(outer:YG)(P:cC)(w:bV)(H:Hp)(s:aI)(Q:VK)(u:Value)(s':aI):Prop:=
 ∃v H',s'.os=s.os/\vL s'.gens/\Un (qP outer) [] H H' s.heap s'.heap/\fA P w H' s'.heap/\RelV v u/\Q v H'
def CR(CX:nU)(outer:YG)(P:cC)(w:bV)(H:Hp)(s:aI)(Q:VK)(E:XK)(r:Result)(s':aI):Prop:=
 match r with
 |.ok (.ret u)=>CE outer P w H s Q u s'
 |.ok _=>False
 |.error e=>CX outer H s E e s'
structure iN(P:cC)(w:bV)(K:bI)(mg:Str->Xl)(base:bH)(CX:nU)(k:Nat)(f:Addr)(fd:eW)(ps:Xo)(sp:Sp):Prop where
 len:∀vs H Q E,sp vs H Q E->vs.length=ps.length
 run:∀(A:cK) (outer:YG) (s:aI) (H:Hp) (args:Args) (us:He) (vs:Hg) (Q:VK) (E:XK),fK k A->yI P w K mg base A outer s H->jw s fd args (ps.zip us)->Vals vs us->sp vs H Q E ->
  tM (aZ P w) A (.call (.ref f) args) (CR CX outer P w H s Q E) s
theorem iN.imp{K:bI}{k:Nat}{f:Addr}{sp':Sp}(F:iN P w K mg base CX k f fd ps sp)
  (h:∀vs H Q E,sp' vs H Q E->sp vs H Q E):iN P w K mg base CX k f fd ps sp':=
 ⟨λvs H Q E q=>F.len vs H Q E (h _ _ _ _ q),λA outer s H args us vs Q E hr he hb hv hs=>F.run A outer s H args us vs Q E hr he hb hv (h _ _ _ _ hs)⟩
theorem yI.make{K:bI}(e:yI P w K mg base A outer s H)(C:Addr)(us:He)(kw:Xx) :
 yI P w K mg base (A.under<|.builtin "type.__call__" ⟨.ref C::us,kw⟩) outer s H:=⟨by first|exact e.frames|(simpa[Code.envs]),e.mod,e.bs,e.wI,e.qZ,e.gf,e.bA,e.bare⟩
theorem Inv.Ha(I:Inv X pins Z H s):yI X.prog X.w X.K X.mg X.base X.A X.stack s H:=
 ⟨I.ok.frames,I.ok.mod,I.bs,dF I.ok.wI I.sz,I.stack,I.GQ,I.bA,I.bare⟩
theorem Inv.after{Q:VK}(I:Inv X pins Z H s)(h:CE X.stack X.prog X.w H s Q u s'):EP X pins Z Q u s':=by obtain⟨v,H',os,bare,un,bA,r,q⟩:=h;obtain⟨hh,g,d,t,os'⟩:=s';obtain rfl:os'=s.os:=os;exact⟨v,H',I.call un bA bare (λb z=>absurd z (by simp)),r,q⟩
def GW(sp:Sp)(dvs:Hg)(E:XK)(t:TA):TE:=λZ H Q=>t Z H λvs H1=>sp (vs++dvs) H1 Q E
def GX(C:Addr)(sp:Sp)(dvs:Hg)(E:XK)(t:TA):TE:=λZ H Q=>t Z H λvs H1=>∀x dx,H1 x=aD->H1 dx=aD->dx≠x ->
 sp (.ref x::(vs++dvs)) (bF (bF H1 dx<|.own x) x<|.ins C dx []) (λv H2=>v = .aH/\Q (.ref x) H2) E
def Binds(K:bI)(fd:eW)(ps:Xo)(ds:He):Prop:=
 ∀(s:aI) (us:He),K.In s.heap->(us++ds).length=ps.length->jw s fd ⟨us,[]⟩ (ps.zip<|us++ds)
theorem Binds.all{K:bI}(h:∀us:He,us.length=ps.length->bindArgs fd ⟨us,[]⟩=pure (ps.zip us)):Binds K fd ps []:=λs us _ hl=>by rw[rS]at hl ⊢;exact .of_eq<|h us hl
def rZ(CX:nU)(X:Cx)(E:XK):Prop:=∀(pins:Hf) (Z:St) (H:Hp) (s:aI) (e:Value) (s':aI),Inv X pins Z H s->CX X.stack H s E e s'->X.xe e s'
section
variable {k:Nat}{f:Addr}{dvs:Hg}{ds:He}{E:XK}{o:aK}{t:TA}
theorem Mw{Q:VK}(F:iN X.prog X.w X.K X.mg X.base CX k f fd ps sp)(hr:fK k X.A)(hb:Binds X.K fd ps ds)(hd:Vals dvs ds)(hx:rZ CX X E)
  (I:Inv X pins Z H s)(r:Vals vs us)(h:sp (vs++dvs) H Q E):aS (aZ X.prog X.w) X.A (call (.ref f) us) (EP X pins Z Q) X.xe s:=by
 have r2:Vals (vs++dvs) (us++ds):=r.append hd;have hl:(us++ds).length=ps.length:=by rw[<- r2.length];exact F.len _ _ _ _ h
 refine vo<|vk (F.run X.A X.stack s H ⟨us,[]⟩ (us++ds) (vs++dvs) Q E hr I.Ha (hb s us I.fM hl) r2 h) λr s' hq=>?_;cases r with
 |error e=>exact hx pins Z H s e s' I hq|ok fl=>
  cases fl with
  |ret u=>exact I.after hq|next=>exact lP hq|brk=>exact lP hq|cont=>exact lP hq
theorem X6(F:iN X.prog X.w X.K X.mg X.base CX k f fd ps sp)(hr:fK k X.A)(hg:Gl X x)(hm:X.mg x=aA (.ref f))(hk:tL X.K (.ref f)=aB)(hb:Binds X.K fd ps ds)(hd:Vals dvs ds)(hx:rZ CX X E)
  (ha:PA X (e::es) t) (hdb:(x==("__debug__":Str))=aG:=by decide) (he:eI (e::es) X.env=(aG,eval e X.env)::eI es X.env:=by rfl) (hpl:(lR pos<|eI es X.env).any (·.1)=aG:=by rfl) :
  PE X (.Call (.Name x p) (e::es) [] pos) (GW sp dvs E t):=by
 intro pins s Z H Q I h;refine dh<|qw I hg hm ?_ hdb;refine Dz I.ok.mod.gq hk (bB (ha pos pins s Z H _ I h) λus s1 ⟨vs,H1,I1,r,q⟩=>⟨I1.fM,?_⟩) he hpl;exact Mw F hr hb hd hx I1 r q
theorem X7(F:iN X.prog X.w X.K X.mg X.base CX k f fd ps sp)(hr:fK k X.A)(hg:Gl X x)(hm:X.mg x=aA (.ref f))(hk:tL X.K (.ref f)=aB)(hb:Binds X.K fd ps ds)(hd:Vals dvs ds)(hx:rZ CX X E)
  (hdb:(x==("__debug__":Str))=aG:=by decide):PE X (.Call (.Name x p) [] [] pos) (GW sp dvs E jf):=by
 intro pins s Z H Q I h;refine dh<|qw I hg hm ?_ hdb;exact Rj I.fM hk<|Mw F hr hb hd hx I .nil h
structure Mk(K:bI)(C f:Addr):Prop where
 makes:Ro K C=aB
 init:nQ K (.ref C) "__init__"=aA (aA<|.ref f)
 fn:vf K (.ref f)=aB
 kp:tL K (.ref C)=aB
theorem FV{Q:VK}(M:Mk X.K C f)(F:iN X.prog X.w X.K X.mg X.base CX k f fd ps sp)(hr:fK (k+1) X.A)(hb:Binds X.K fd ps ds)(hd:Vals dvs ds)
  (hx:rZ CX X E)(I:Inv X pins Z H s)(r:Vals vs us)
  (h:∀x dx,H x=aD->H dx=aD->dx≠x->sp (.ref x::(vs++dvs)) (bF (bF H dx<|.own x) x<|.ins C dx []) (λv H2=>v = .aH/\Q (.ref x) H2) E) :
  aS (aZ X.prog X.w) X.A (call (.ref C) us) (EP X pins Z Q) X.xe s:=by
 have hq:=h (s.heap.objs.size+1) s.heap.objs.size (I.bA.fresh<|jL _) (I.bA.fresh<|aV _) (cA<|dA _);have I2:=Inv.made (C:=C) I;have r2:Vals (V.ref (s.heap.objs.size+1)::(vs++dvs)) (lB (s.heap.objs.size+1)::(us++ds)):=.cons rfl (r.append hd);have hl:(lB (s.heap.objs.size+1)::us++ds).length=ps.length:=by have e:=r2.length;rw[F.len _ _ _ _ hq]at e;exact e.symm
 refine vo (K7 I.fM M.makes M.init (beq_iff_eq.mp M.fn) (vk (F.run _ X.stack _ _ ⟨lB (s.heap.objs.size+1)::us,[]⟩ (lB (s.heap.objs.size+1)::(us++ds)) _ _ E (hr.make C us [])
  (I2.Ha.make C us []) (hb _ (lB (s.heap.objs.size+1)::us) I2.fM hl) r2 hq) λr s' hq'=>?_))
 cases r with
 |error e=>exact hx pins Z _ _ e s' I2 hq'|ok fl=>
  cases fl with
  |ret u=>obtain⟨v,H',I3,rv,ev,q3⟩:=I2.after hq';subst ev;exact⟨rv,⟨V.ref (s.heap.objs.size+1),H',I3,rfl,q3⟩⟩
  |next=>exact lP hq'|brk=>exact lP hq'|cont=>exact lP hq'
theorem Y8(M:Mk X.K C f)(F:iN X.prog X.w X.K X.mg X.base CX k f fd ps sp)(hr:fK (k+1) X.A)(hg:Gl X x)(hm:X.mg x=aA (.ref C))(hb:Binds X.K fd ps ds)(hd:Vals dvs ds)(hx:rZ CX X E)
  (ha:PA X (e::es) t) (hdb:(x==("__debug__":Str))=aG:=by decide) (he:eI (e::es) X.env=(aG,eval e X.env)::eI es X.env:=by rfl) (hpl:(lR pos<|eI es X.env).any (·.1)=aG:=by rfl) :
  PE X (.Call (.Name x p) (e::es) [] pos) (GX C sp dvs E t):=by
 intro pins s Z H Q I h;refine dh<|qw I hg hm ?_ hdb;refine Dz I.ok.mod.gq M.kp (bB (ha pos pins s Z H _ I h) λus s1 ⟨vs,H1,I1,r,q⟩=>⟨I1.fM,?_⟩) he hpl;exact FV M F hr hb hd hx I1 r q
theorem Y9(M:Mk X.K C f)(F:iN X.prog X.w X.K X.mg X.base CX k f fd ps sp)(hr:fK (k+1) X.A)(hg:Gl X x)(hm:X.mg x=aA (.ref C))(hb:Binds X.K fd ps ds)(hd:Vals dvs ds)(hx:rZ CX X E)
  (hdb:(x==("__debug__":Str))=aG:=by decide):PE X (.Call (.Name x p) [] [] pos) (GX C sp dvs E jf):=by
 intro pins s Z H Q I h;refine dh<|qw I hg hm ?_ hdb;exact Rj I.fM M.kp<|FV M F hr hb hd hx I .nil h
end
def PK(X:Cx)(kws:List tG)(t:TA):Prop:=
 ∀(pos:Pos) (pins:Hf) (s:aI) (Z:St) (H:Hp) (Q:Hg->Hp->Prop),Inv X pins Z H s->t Z H Q->aS (aZ X.prog X.w) X.A (evalAll<|(yC pos<|yE kws X.env).map (·.2)) (AP X pins Z Q) X.xe s
section
variable {k:Nat}{f:Addr}{ks:Xo}{E:XK}{F9:Pos}{o:aK}{kws:List tG}{t tk:TA}{nm:Option Str}
theorem aAp:PK X [] jf:=λ_ _ _ _ H Q I h=>wpAny_evalAll_nil ⟨[],H,I,.nil,h⟩
theorem aAo(ha:PE X e te)(hr:PK X kws t):PK X (⟨nm,e,F9⟩::kws) (Nq te t):=by intro pos pins s Z H Q I h;show aS _ _ (evalAll<|(do let v <- eval e X.env;Ej pos;pure v)::(yC pos<|yE kws X.env).map (·.2)) _ _ s;exact wpAny_evalAll_cons<|aM<|bB (ha pins s Z H _ I h) λu s1 ⟨x,H1,I1,r1,q1⟩=>aM (mf<|cB<|bB (hr pos pins s1 Z H1 _ I1 q1) λus s2 ⟨xs,H2,I2,r2,q2⟩=>⟨x::xs,H2,I2,.cons r1 r2,q2⟩)
variable {g:He->He->He}{gV:Hg->Hg->Hg}
end
structure mn(N P:Xo)(sc:gJ):Prop where
 kind:sc.kind = .function
 co:sc.isCoroutine=aG
 gen:sc.isGenerator=aG
 nd:N.Nodup
 pre:N.take P.length=P
 par:∀x∈P,sc.names.lookup x=aA .local\/sc.names.lookup x=aA .cell
 O6:∀y∈sc.names,y.2 ≠ .free
theorem Vf{kindOf:Str->Option tK}{x:Str}:∀{binds:Xx}{m:Str->Xl},(∀v,(x,v)∉binds)->cw kindOf binds m x=m x
 |[],_,_=>rfl
 | (n,v)::r,m,h=>by
  unfold cw;rw[Vf λw hw=>h w (jD _ hw)];split
  .have:x≠n:=by rintro rfl;exact h v fV
   simp[this]
  .rfl
theorem Vd{kindOf:Str->Option tK}{x:Str}:∀{binds:Xx}{m:Str->Xl},(∀v,(x,v)∉binds)->cv kindOf binds m x=m x
 |[],_,_=>rfl
 | (n,v)::r,m,h=>by
  unfold cv;rw[Vd λw hw=>h w (jD _ hw)];split
  .rfl
  .have:x≠n:=by rintro rfl;exact h v fV
   simp[this]
theorem Ve{kindOf:Str->Option tK}{x:Str}{v:Value}:∀{P:Xo}{vs:He}{i:Nat}{m:Str->Xl},P.Nodup->P[i]?=aA x->vs[i]?=aA v->kindOf x=aA .local ->
  cw kindOf (P.zip vs) m x=aA v
 |[],_,_,_,_,h,_,_=>by simp at h
 |_::_,[],_,_,_,_,h,_=>by simp at h
 |p::P,w::vs,0,m,nd,h1,h2,hk=>by simp at h1 h2;subst h1;subst h2;show cw kindOf ((p,w)::P.zip vs) m p=_;unfold cw;rw[Vf λv hv=>(List.nodup_cons.mp nd).1 (Qi hv).1,if_pos hk];simp
 |p::P,w::vs,i+1,m,nd,h1,h2,hk=>by unfold cw;exact Ve (List.nodup_cons.mp nd).2 (by simpa) (by simpa) hk
theorem Vc{kindOf:Str->Option tK}{x:Str}{v:Value}:∀{P:Xo}{vs:He}{i:Nat}{m:Str->Xl},P.Nodup->P[i]?=aA x->vs[i]?=aA v->kindOf x≠aA .local ->
  cv kindOf (P.zip vs) m x=aA v
 |[],_,_,_,_,h,_,_=>by simp at h
 |_::_,[],_,_,_,_,h,_=>by simp at h
 |p::P,w::vs,0,m,nd,h1,h2,hk=>by simp at h1 h2;subst h1;subst h2;show cv kindOf ((p,w)::P.zip vs) m p=_;unfold cv;rw[Vd λv hv=>(List.nodup_cons.mp nd).1 (Qi hv).1,if_neg hk];simp
 |p::P,w::vs,i+1,m,nd,h1,h2,hk=>by unfold cv;exact Vc (List.nodup_cons.mp nd).2 (by simpa) (by simpa) hk
def start(N:Xo)(vs:Hg):St:=vs.map aA++eR (N.length-vs.length) aD
def wN(CX:nU)(P:cC)(w:bV)(K:bI)(mg:Str->Xl)(base:bH)(N:Xo)(qual:Str)(scope:gJ)(f:Addr)(cd:Value)(A:cK)(outer:YG)(s:aI)(H:Hp)(E:XK):Cx where
 prog:=P
 w:=w
 K:=K
 mg:=mg
 base:=base
 A:=A.deeper (vU qual scope s.heap.objs.size f cd)
 N:=N
 s₀:=s
 H₀:=H
 env:=vU qual scope s.heap.objs.size f cd
 outer:=outer
 stack:=vU qual scope s.heap.objs.size f cd::outer
 ex:=[]
 calm:=aB
 fn:=λ_=>aB
 pn:=[]
 xe:=λe s'=>aS (aZ P w) (A.deeper<|vU qual scope s.heap.objs.size f cd) (leaving (vU qual scope s.heap.objs.size f cd) e) (λ_ s''=>CX outer H s E e s'') (λe' s''=>CX outer H s E e' s'') s'
theorem Vn{sc:gJ}{n:Nat}(h:sc.names.lookup x=aA .cell):∃c,(Sh n sc.names []).lookup x=aA c:=by exact Option.isSome_iff_exists.mp<|MT sc.names n []<|.inl h
theorem D2{K:bI}{f:Addr}{cd:Value}{s1:aI}{E:XK}
  (S:mn N ps scope)(hd:A.handled=aD)(e0:yI P w K mg base A outer s H)(hl:vs.length=ps.length)(r:Vals vs us)
  (x:InCallC s s.heap.objs.size (cw (vU qual scope s.heap.objs.size f cd).kindOf (ps.zip us) λ_=>aD) (Sh (s.heap.objs.size+1) scope.names []) (cv (vU qual scope s.heap.objs.size f cd).kindOf (ps.zip us) λ_=>aD) s1) :
  Inv (wN CX P w K mg base N qual scope f cd A outer s H E) [] (start N vs) H s1:=by
 have hpl:ps.length<=N.length:=by have:=congrArg KW S.pre;rw[mJ]at this;omega
 obtain⟨h1,tk,rfl,hk⟩:=x.done;have noA:∀b:Addr,b∉(wN CX P w K mg base N qual scope f cd A outer s H E).ex:=λb z=>absurd (show b∈([]:Xk) from z) (by simp);refine⟨⟨e0.mod,S.kind,rfl,rfl,aV _,λy z c h1 h2=>?_,λy hy=>?_,λy c _ h=>?_,λ_=>hd,Around.frames_deeper e0.frames,.inr ⟨rfl,rfl⟩,λb z=>absurd z (noA b),e0.bs,e0.wI,λb _ _=>noA b,λb z=>absurd z (noA b),e0.qZ,e0.gf⟩,
  rfl,e0.bare,Un.kept hk,⟨_,x.toInCall.ns,λi y v h1 h2 h3=>?_⟩,λy c h=>⟨_,x.cell y c h⟩,e0.bA.fresh (aV _),λy c h=>?_,λp hp=>absurd (show p∈([]:Hf) from hp) (by simp),e0.bA.kept hk,?_⟩
 .exact name_of_addr x.apart (vh h1)<|vh h2
 .have hy:scope.names.lookup y=aA .cell\/scope.names.lookup y=aA .free:=hy;rcases hy with hy|hy
  .exact Vn hy
  .exact absurd rfl<|S.O6 _<|vh hy
 .exact xV<|x.above y c<|vh h
 .have hi:i<vs.length:=by
   unfold start at h2;by_cases hi:i<vs.length
   .exact hi
   .rw[Qa (by simpa using hi)]at h2;rw[Di]at h2;split at h2<;>cases h2
  have ha:vs[i]?=aA v:=by
   unfold start at h2;rw[xU (by simpa),fH]at h2;cases e:vs[i]? with
   |none=>rw[e]at h2;cases h2|some a=>rw[e]at h2;cases h2;rfl
  obtain⟨u,hu,rv⟩:=r.get ha;have hp:ps[i]?=aA y:=by rw[<- S.pre,aRv (by omega)];exact h1
  have ndP:ps.Nodup:=by rw[<- S.pre];exact S.nd.sublist<|List.take_sublist _ _
  refine⟨u,rv,?_⟩;rcases S.par y (bX hp)with k|k
  .exact .inl ⟨k,Ve ndP hp hu k⟩
  .obtain⟨c,e⟩:=Vn k;refine .inr ⟨.inl k,c,e,?_⟩;have q:=x.cell y c e;rw[Vc ndP hp hu (by show scope.names.lookup y≠_;rw[k];decide)]at q;exact q
 .exact e0.bA.fresh<|xV<|x.above y c<|vh h
 .unfold start;show _=N.length;rw[dO,aU,Dk];omega
theorem r9{K:bI}{k:Nat}{f:Addr}{name:Str}{params:Pe}{dV kV doc pm cdv ct oc:Value}{an od:YM}
  {osl:YJ}(lk:K.lookup f=aA ⟨oc,od,.func (ky name qual params body scope dV kV doc pm an cdv ct),osl⟩)(hcd:Rk K cdv qual=aB)(S:mn N ps scope)
  (len:∀vs H Q E,sp vs H Q E->vs.length=ps.length)
  (Ig:∀(A:cK) (outer:YG) (s:aI) (H:Hp) (vs:Hg) (Q:VK) (E:XK),fK k (A.deeper<|vU qual scope s.heap.objs.size f cdv)->sp vs H Q E ->
   ∃t,rY (wN CX P w K mg base N qual scope f cdv A outer s H E) body t/\t { nx:=λ_ H'=>Q .aH H',rt:=Q } (start N vs) H) :
  iN P w K mg base CX (k+1) f (ky name qual params body scope dV kV doc pm an cdv ct) ps sp:=by
 refine⟨len,λA outer s H args us vs Q E hr e0 hb r hsp=>?_⟩;have KX:K.In s.heap:=e0.mod.gq.keeps λb o e=>(e0.bs b o e).1;have lim:s.heap.NoLimit:=e0.mod.nolimit.keeps λb o e=>(e0.bs b o e).1;have A9:∀y∈ps.zip us,scope.names.lookup y.1=aA .local\/(scope.names.lookup y.1=aA .cell/\((Sh (s.heap.objs.size+1) scope.names []).lookup y.1).isSome=aB):=λ⟨n,v⟩ hy=>by
  rcases S.par n (Qi hy).1 with q|q
  .exact .inl q
  .exact .inr ⟨q,MT _ _ _ (.inl q)⟩
 refine codeAny_call_function hr.depth (KX _ _ lk) rfl S.co S.gen rfl (W.codeRec_of KX hcd)<|hb _ _ _ _ ?_;refine wpAny_newFunctionEnv_cells S.kind A9 λenv he s1 x=>?_;subst he;refine⟨lim.keeps x.toInCall.keep,codeAny_func ?_⟩;obtain⟨t,ht,hq⟩:=Ig A outer s H vs Q E (hr.deeper _) hsp;have I:Inv (wN CX P w K mg base N qual scope f cdv A outer s H E) [] (start N vs) H s1:=D2 S hr.hd e0 (len _ _ _ _ hsp) r x;refine vp (ht [] s1 (start N vs) H _ I hq) (λfl s' hs=>?_) λe s' hs=>hs;have fin:∀{Z':St} {H':Hp}{v:V}{u:Value},Inv (wN CX P w K mg base N qual scope f cdv A outer s H E) [] Z' H' s'->RelV v u->Q v H'->CE outer P w H s Q u s':=
  λ{Z' H' v u} J rv q=>⟨v,H',J.os,J.bare,J.base,J.bA,rv,q⟩
 cases fl with
 |ret u=>obtain⟨v,Z',H',J,rv,q⟩:=hs;exact fin J rv q
 |next=>obtain⟨Z',H',J,q⟩:=hs;exact fin (v:=V.aH) J rfl q
 |brk=>obtain⟨_,_,_,q⟩:=hs;exact lP q
 |cont=>obtain⟨_,_,_,q⟩:=hs;exact lP q
section
variable {t:TA}{id T:String}{r:Hg->Hp->VK->Prop}
def GV(r:Hg->Hp->VK->Prop)(t:TA):TE:=λZ H Q=>t Z H λvs H1=>r vs H1 Q
theorem Ap(hc:iM X (.builtin id) r) (hg:Gl X x) (hm:X.mg x=aD) (hv:mW x=aA (.builtin id)) (ha:PA X (e::es) t) (hn:x≠"__name__":=by decide) (hdb:(x==("__debug__":Str))=aG:=by decide)
  (he:eI (e::es) X.env=(aG,eval e X.env)::eI es X.env:=by rfl) (hpl:(lR pos<|eI es X.env).any (·.1)=aG:=by rfl):PE X (.Call (.Name x p) (e::es) [] pos) (GV r t):=by
 intro pins s Z H Q I h;exact dh<|wY I hg hm hv (aSa (bB (ha pos pins s Z H _ I h) λus s1 ⟨vs,H1,I1,r1,q1⟩=>hc pins s1 Z H1 vs us Q I1 r1 q1) he hpl) hn hdb
theorem X8(hc:iM X (.type T) r) (hg:Gl X x) (hm:X.mg x=aD) (hv:mW x=aA (.type T)) (ha:PA X (e::es) t) (hn:x≠"__name__":=by decide) (hdb:(x==("__debug__":Str))=aG:=by decide)
  (he:eI (e::es) X.env=(aG,eval e X.env)::eI es X.env:=by rfl) (hpl:(lR pos<|eI es X.env).any (·.1)=aG:=by rfl):PE X (.Call (.Name x p) (e::es) [] pos) (GV r t):=by
 intro pins s Z H Q I h;exact dh<|wY I hg hm hv (ve (bB (ha pos pins s Z H _ I h) λus s1 ⟨vs,H1,I1,r1,q1⟩=>hc pins s1 Z H1 vs us Q I1 r1 q1) he hpl) hn hdb
end
end L2
namespace HT
open PySem PyProof.Rows
variable {Q:Value->aI->Prop}{hi:Hc}{sl:Addr}{vl vu:Value}
section
open PySem.SeqAt
open PySem.AutoSeq1 (wpAny_loadPart')
open PySem.MeetsSeq PySem.MeetsSeq2 PySem.MeetsSeq3
end
section
variable {prog:cC}{w:bV}{A:cK}{E:Value->aI->Prop}{s:aI}
theorem VX{t b:Addr}{vs ws:He}(ht:IsTup s.heap t vs.toArray)(hb:IsTup s.heap b ws.toArray)(hv:vs≠[])
  (h1:ws=[]->Q (.ref t) s)(h2:ws≠[]->Q (.ref s.heap.objs.size) { s with heap:=s.heap.push { cls:=.type "tuple",data:=.seq (vs++ws).toArray } })
  (hsz:vs.length+ws.length<=sizeLine):aS (aZ prog w) A (eY .Add (.ref t)<|.ref b) Q E s:=by
 obtain⟨⟨cls,dd,data,sl⟩,ho,hc,n,hd⟩:=id ht;obtain⟨⟨cls2,dd2,data2,sl2⟩,ho2,hc2,n2,hd2⟩:=id hb;simp only at hc hd hc2 hd2;subst hc hd hc2 hd2;have e:vs.toArray++ws.toArray=(vs++ws).toArray:=by simp
 by_cases hw:ws=[]
 .exact Sj ⟨_,ho,rfl⟩ ⟨_,ho2,rfl⟩ Sr Sv Rc Ra (Qz _ _)
   (tuple_addW1 t b vs.toArray ws.toArray n n2 dd dd2 sl sl2 (by simpa) (by simp[hw])) ⟨ho,ho2,h1 hw⟩
 .refine Sj ⟨_,ho,rfl⟩ ⟨_,ho2,rfl⟩ Sr Sv Rc Ra (Qz _ _)
   (tuple_addW2 t b vs.toArray ws.toArray n n2 dd dd2 sl sl2 (by simpa) (by simpa)<|hsz) ⟨ho,ho2,?_⟩
  rw[e];exact h2 hw
def bY(n d:Nat):Hc->Nat
 |none=>d
 |some v=>if v<0 then(v+(n:Int)).toNat else min v.toNat n
theorem Mx(n d:Nat):bY n d aD=d:=rfl
theorem jc(n d k:Nat):bY n d (aA (k:Int))=min k n:=by show(if k<0 then(k+(n:Int)).toNat else min (k:Int).toNat n)=min k n;rw[if_neg (by omega),oR]
theorem aUo(n d:Nat)(hd:d<=n)(o:Hc):bY n d o<=n:=by
 cases o with
 |none=>exact hd|some v=>
  show(if v<0 then(v+n).toNat else min v.toNat n)<=n;by_cases hv:v<0
  .rw[if_pos hv];omega
  .rw[if_neg hv];exact LQ _ _
theorem Vt(v:Int)(n d:Nat):(if v<0 then max (v+(n:Int)) 0 else min v (n:Int))=((bY n d (aA v):Nat):Int):=by
 show(if v<0 then max (v+n) 0 else min v n)=(((if v<0 then(v+n).toNat else min v.toNat n):Nat):Int);by_cases hv:v<0
 .simp only[if_pos hv];omega
 .simp only[if_neg hv];omega
theorem OF(lo hi:Hc)(n:Nat):Pj lo hi 1 (n:Int)=(((bY n 0 lo:Nat):Int),((bY n n hi:Nat):Int)):=by
 have h1:¬(1<0):=by omega
 unfold Pj;refine Qw ?_ ?_
 .cases lo with
  |none=>rfl|some v=>exact Vt v n 0
 .cases hi with
  |none=>rfl|some v=>exact Vt v n n
theorem aAu(i j:Nat):Cs (i:Int) (j:Int) 1=j-i:=by
 unfold Cs;have h1:(1:Int) > 0:=by omega
 simp only[h1,if_true,Int.ediv_one];split<;>omega
theorem GF{v:Value}{o:Hc}{Q:Hc->aI->Prop}(p:xS v o)(h:Q o s):aS (aZ prog w) A (Builtin.Slice.slicePartIndex v) Q E s:=by
 cases p with
 |none=>exact NK h|int i t=>exact slicePart_int h
theorem aJm{lo:Hc}{n:Nat}{Q:Int×Int×Nat->aI->Prop}(hs:s.heap.IsSliceOf sl vl vu .none)(pl:xS vl lo)(pu:xS vu hi)
  (h:Q (((bY n 0 lo:Nat):Int),1,bY n n hi-bY n 0 lo) s):aS (aZ prog w) A (Builtin.Slice.sliceApplied (.ref sl)<|pure (n:Int)) Q E s:=by
 obtain⟨os,hos,hcs,hds⟩:=id hs;refine aM<|aM<|kO hos hds (x:=vl) rfl<|aM<|kO hos hds (x:=vu) rfl<|aM<|kO hos hds rfl<|cB ?_;refine aM<|NK ?_;refine aM<|GF pl<|aM<|GF pu<|aM<|cB ?_;show aS _ _ (match Pj lo hi 1 n with|(lo,hi)=>pure (lo,(1:Int),Cs lo hi 1)) _ _ s;rw[OF lo hi n];show aS _ _ (pure (((bY n 0 lo:Nat):Int),1,Cs ((bY n 0 lo:Nat):Int) ((bY n n hi:Nat):Int) 1)) _ _ s;rw[aAu];exact cB h
theorem aAn(xs:Xq)(i k:Nat):((Qm k).filterMap λ(m:Nat)=>xs[((i:Int)+(m:Int)*1).toNat]?).toArray=((xs.toList.drop i).take k).toArray:=by
 have e:(λ(m:Nat)=>xs[(i+(m:Int)*1).toNat]?)=λm=>xs[i+m]?:=by
  funext m
  have:(i+(m:Int)*1).toNat=i+m:=by omega
  rw[this]
 rw[e];have:=pick_run xs i k;rw[List.filterMap_map]at this;have e2:((λx=>xs[x]?) ∘ λx=>i+x)=λm=>xs[i+m]?:=rfl;rw[e2]at this;rw[this]
theorem v8{t:Addr}{items:Xq}{lo:Hc}(ht:IsTup s.heap t items)(hs:s.heap.IsSliceOf sl vl vu .none)(pl:xS vl lo)(pu:xS vu hi)
  (hw:¬(bY items.size 0 lo=0/\bY items.size items.size hi=items.size))
  (h:Q (.ref s.heap.objs.size) { s with heap:=s.heap.push { cls:=.type "tuple",data:=.seq ((items.toList.drop<|bY items.size 0 lo).take (bY items.size items.size hi-bY items.size 0 lo)).toArray } })
  (hsz:items.size<=sizeLine):aS (aZ prog w) A (cy (.ref t)<|.ref sl) Q E s:=by
 have yx:sizeOk (.seq ((items.toList.drop<|bY items.size 0 lo).take (bY items.size items.size hi-bY items.size 0 lo)).toArray):=by show((items.toList.drop<|bY items.size 0 lo).take (bY items.size items.size hi-bY items.size 0 lo)).toArray.size<=sizeLine;rw[hU,mJ,ux,xO];omega
 obtain⟨os,hos,hcs,hds⟩:=id hs;have hTs:s.TypeIs (.ref sl) "slice":=⟨os,hos,hcs⟩;unfold cy;try with_reducible refine oT ?_
 first|refine aM<|cB ?_|skip
 refine aM<|wpAny_sequenceKey ht.typeIs (rfl) ?_;refine aM (di ht.typeIs MC
  (yH MC ht.typeIs entry_tuple_getitem ?_<|args_tuple_getitem _ _))
 show aS _ _ (Builtin.Tuple.tupleItemsOf (.ref t)>>=_) _ _ s;refine aM<|tupleItemsOf_ ht ?_;refine aM<|wpAny_typeOf hTs ?_;refine aM<|aJm hs pl pu ?_;have hno:¬((((bY items.size 0 lo:Nat):Int)==0&&(1:Int)==1&&(bY items.size items.size hi-bY items.size 0 lo)==items.size)=aB):=by intro q;rw[bS,bS]at q;have q1:((bY items.size 0 lo:Nat):Int)=0:=eq_of_beq q.1.1;have q2:bY items.size items.size hi-bY items.size 0 lo=items.size:=eq_of_beq q.2;exact hw ⟨by omega,by omega⟩
 show aS _ _ (if(((bY items.size 0 lo:Nat):Int)==0&&1==1&&(bY items.size items.size hi-bY items.size 0 lo)==items.size)=aB then _ else _) _ _ s;rw[if_neg hno,aAn];first
  |exact aM<|tQ (cB ⟨_,rfl,cB h⟩) yx|exact aM<|tQ (aM<|cB<|cB ⟨_,rfl,cB h⟩) yx|exact aM<|aM<|tQ (cB<|cB ⟨_,rfl,cB h⟩) yx|exact aM<|aM<|tQ (cB ⟨_,rfl,cB h⟩) yx
end
end HT
namespace L2
open PySem PySem.Spec PyProof.Rows
variable {H:Hp}{T:String}{X:Cx}{e:aK}{i:Int}{its its':He}{j n t':Nat}{p:Addr}{pins:Hf}{pos:Pos}{r:V->Hc->Hc->Hp->VK->Prop}{s:aI}{u v:Value}{x y:V}{xs ys:Hg}{Z:St}
abbrev TO:=St->Hp->(Hc->Hp->Prop)->Prop
def PO(X:Cx)(e:Option aK)(t:TO):Prop:=
 ∀(pins:Hf) (s:aI) (Z:St) (H:Hp) (Q:Hc->Hp->Prop),Inv X pins Z H s->t Z H Q ->
  aS (aZ X.prog X.w) X.A (evalPart e X.env) (λu s'=>∃o H',Inv X pins Z H' s'/\xS u o/\Q o H') X.xe s
def aLr:TO:=λ_ H Q=>Q aD H
def aLw(t:TE):TO:=λZ H Q=>t Z H λx H1=>∃i,x = .int i/\Q (aA i) H1
section
variable {te:TE}{lo hi:Option aK}{tl th:TO}{p2:Pos}
theorem aAx:PO X aD aLr:=by intro pins s Z H Q I h;exact cB ⟨aD,H,I,.none,h⟩
theorem aAy(h:PE X e te):PO X (aA e) (aLw te):=by intro pins s Z H Q I hw;refine bB (h pins s Z H _ I hw) λu s1 zq=>?_;obtain⟨x,H1,I1,r1,q1⟩:=zq;obtain⟨i,rfl,q⟩:=q1;obtain⟨t,rfl⟩:=r1;exact⟨aA i,H1,I1,.int i t,q⟩
def yM(X:Cx)(r:V->Hc->Hc->Hp->VK->Prop):Prop:=
 ∀(pins:Hf) (s:aI) (Z:St) (H:Hp) (x:V) (v vl vu:Value) (lo hi:Hc) (sl:Addr) (Q:VK),Inv X pins Z H s->RelV x v->s.heap.IsSliceOf sl vl vu .none->xS vl lo->xS vu hi->r x lo hi H Q ->
  ∃T id,typeLookup (.type T) "__getitem__"=pure (aA<|.builtin id)/\s.TypeIs v T/\aS (aZ X.prog X.w) X.A (cy v<|.ref sl) (EP X pins Z Q) X.xe s
theorem yM.or{r':V->Hc->Hc->Hp->VK->Prop}(h:yM X r)(h':yM X r'):yM X (λx lo hi H Q=>r x lo hi H Q\/r' x lo hi H Q):=by
 intro pins s Z H x v vl vu lo hi sl Q I rx hs pl pu q;rcases q with q|q
 .exact h pins s Z H x v vl vu lo hi sl Q I rx hs pl pu q
 .exact h' pins s Z H x v vl vu lo hi sl Q I rx hs pl pu q
def tSl(r:V->Hc->Hc->Hp->VK->Prop)(te:TE)(tl th:TO):TE:=λZ H Q=>te Z H λx H1=>tl Z H1 λl H2=>th Z H2 λu H3=>r x l u H3 Q
theorem Z6(hr:yM X r)(he:PE X e te)(hl:PO X lo tl)(hu:PO X hi th):PE X (.Subscript e (.Slice lo hi aD p2) pos) (tSl r te tl th):=by intro pins s Z H Q I h;refine Subscript_<|bB (he pins s Z H _ I h) λv s1 zq=>?_;obtain⟨x,H1,I1,r1,q1⟩:=zq;refine wpAny_Slice<|bB (hl pins s1 Z H1 _ I1 q1) λvl s2 ⟨l,H2,I2,pl,q2⟩=>bB (hu pins s2 Z H2 _ I2 q2) λvu s3 zq=>?_;obtain⟨u,H3,I3,pu,q3⟩:=zq;refine cB ?_;have I4:Inv X pins Z H3 { s3 with heap:=s3.heap.push { cls:=.type "slice",data:=.fields #[vl,vu,.none] } }:=I3.kept λb ob q=>cT _ q;obtain⟨T,id,hT,ht,hg⟩:=hr pins { s3 with heap:=s3.heap.push { cls:=.type "slice",data:=.fields #[vl,vu,.none] } } Z H3 x v vl vu l u s3.heap.objs.size Q I4 r1 (Heap.IsSliceOf.new ..) pl pu q3;exact tail_any ht hT hg (by with_unfolding_all rfl)
def fv(xs:Hg)(lo hi:Hc):Hg:=(xs.drop<|HT.bY xs.length 0 lo).take (HT.bY xs.length xs.length hi-HT.bY xs.length 0 lo)
theorem Wj(xs:Hg)(lo hi:Hc):(fv xs lo hi).length<=xs.length:=by unfold fv;rw[mJ,ux];omega
def aIj(K:bI):V->Hc->Hc->Hp->VK->Prop:=λx lo hi H Q=>∃a xs,x = .ref a/\eD K H a xs /\
 ¬(HT.bY xs.length 0 lo=0/\HT.bY xs.length xs.length hi=xs.length)/\∀p,H p=aD->Q (.ref p) (bF H p<|.tup<|fv xs lo hi)
theorem aJl:yM X (aIj X.K):=by intro pins s Z H x v vl vu lo hi sl Q I rx hs pl pu h;obtain⟨a,xs,rfl,hx,hw,q⟩:=h;cases rx;obtain⟨its,r,ht,hz⟩:=I.tuple hx;have hlen:its.toArray.size=xs.length:=r.length.symm;refine⟨"tuple",_,PyProof.Rows.slot_tuple_getitem.lookup,ht.typeIs,?_⟩;refine HT.v8 ht hs pl pu (hlen▸hw) ?_<|hlen▸hz;rw[hlen];refine⟨.ref s.heap.objs.size,_,I.laid (λb ob q=>cT _ q) (aV _) ?_,rfl,q _ (I.bA.fresh<|aV _)⟩;exact⟨dF (Wj xs lo hi) hz,_,(r.drop<|HT.bY xs.length 0 lo).take (HT.bY xs.length xs.length hi-HT.bY xs.length 0 lo),Cz _ _⟩
def aHz(K:bI):R2:=λx y H Q=>∃a b xs ys,x = .ref a/\y = .ref b/\eD K H a xs/\eD K H b ys/\xs≠[]/\xs.length+ys.length<=sizeLine /\
 (ys=[]->Q (.ref a) H)/\(ys≠[]->∀p,H p=aD->Q (.ref p) (bF H p<|.tup<|xs++ys))
theorem Vals.Ka{us:He}(r:Vals xs us):us=[]↔xs=[]:=by
 cases r with
 |nil=>simp|cons _ _=>simp
theorem Q7:cU X (eY .Add) (aHz X.K):=by intro pins s Z H x y v u Q I rx ry h;obtain⟨a,b,xs,ys,rfl,rfl,ha,hb,hx,hz,q1,q2⟩:=h;cases rx;cases ry;obtain⟨its,r1,p1,_⟩:=I.tuple ha;obtain⟨wV,r2,p2,_⟩:=I.tuple hb;refine HT.VX p1 p2 (λz=>hx (r1.Ka.mp z)) (λz=>⟨.ref a,H,I,rfl,q1 (r2.Ka.mp z)⟩) (λz=>?_) (by rw[<- r1.length,<- r2.length];exact hz);refine⟨.ref s.heap.objs.size,_,I.laid (λb ob q=>cT _ q) (aV _) ?_,rfl,q2 (λw=>z (r2.Ka.mpr w)) _ (I.bA.fresh<|aV _)⟩;exact⟨dO▸hz,_,r1.append r2,Cz _ _⟩
end
def jP(n:Nat)(i:Int):Option Nat:=if 0<=i then(if i<n then aA i.toNat else aD) else if -(n:Int)<=i then aA (i+n).toNat else aD
def cM{α:Type}(xs:List α)(i:Int):Option α:=(jP xs.length i).bind λj=>xs[j]?
theorem AG(h:jP n i=aA j):seqIndex? i n=aA j/\j<n/\-(n:Int)<=i/\i<n:=by
 unfold jP at h;by_cases h0:0<=i
 .rw[if_pos h0]at h;by_cases h1:i<n
  .rw[if_pos h1]at h;have e:i.toNat=j:=dR h;exact⟨by rw[Su h0 h1,e],by omega,by omega,h1⟩
  .rw[if_neg h1]at h;cases h
 .rw[if_neg h0]at h;by_cases h1:-n<=i
  .rw[if_pos h1]at h;have e:(i+n).toNat=j:=dR h;exact⟨by rw[seqIndex_neg (by omega) h1,e],by omega,h1,by omega⟩
  .rw[if_neg h1]at h;cases h
theorem Fe{α:Type}{xs:List α}{v:α}(h:cM xs i=aA v):∃j,seqIndex? i xs.length=aA j/\xs[j]?=aA v/\j<xs.length/\-(xs.length:Int)<=i/\i<xs.length:=by
 unfold cM at h;cases e:jP xs.length i with
 |none=>rw[e]at h;cases h|some j=>rw[e]at h;obtain⟨h1,h2,h3,h4⟩:=AG e;exact⟨j,h1,h,h2,h3,h4⟩
theorem nq{α:Type}{xs:List α}{v:α}(h:xs[j]?=aA v):cM xs (j:Int)=aA v:=by
 have hj:j<xs.length:=(List.getElem?_eq_some_iff.mp h).1;have e:jP xs.length j=aA j:=by unfold jP;rw[if_pos (by omega),if_pos (by omega)];simp
 unfold cM;rw[e];exact h
def Ez(b:aK):Prop:=∀o i,Sy b aG o i=operate [o,i] (cy o i)
def pS(X:Cx)(r:R2):Prop:=
 ∀(value slice:aK) (pins:Hf) (s:aI) (Z:St) (H:Hp) (x y:V) (v u:Value) (Q:VK),Inv X pins Z H s->RelV x v->RelV y u->r x y H Q ->
  Sy slice aG v u=operate [v,u] (cy v u)->aS (aZ X.prog X.w) X.A (subscriptTail value slice v u) (EP X pins Z Q) X.xe s
def Ts(X:Cx)(id:String)(r:V->Hg->Hp->VK->Prop):Prop:=
 ∀(pins:Hf) (s:aI) (Z:St) (H:Hp) (x:V) (xs:Hg) (v:Value) (us:He) (Q:VK),Inv X pins Z H s->RelV x v->Vals xs us->r x xs H Q ->
  aS (aZ X.prog X.w) X.A (call (.builtin id)<|v::us) (EP X pins Z Q) X.xe s
section
variable {a b:aK}{ta tb:TE}
theorem pS.or{r r':R2}(h:pS X r)(h':pS X r'):pS X (λx y H Q=>r x y H Q\/r' x y H Q):=by
 intro value slice pins s Z H x y v u Q I rx ry q hs;rcases q with q|q
 .exact h value slice pins s Z H x y v u Q I rx ry q hs
 .exact h' value slice pins s Z H x y v u Q I rx ry q hs
theorem Y6{r:R2}(hr:pS X r)(ha:PE X a ta)(hb:PE X b tb)(hs:Ez b):PE X (.Subscript a b pos) (Bm r ta tb):=by intro pins s Z H Q I h;exact Subscript_<|Fl ha hb I h λv u s2 x y H2 I2 rx ry q=>hr a b pins s2 Z H2 x y v u Q I2 rx ry q (hs _ _)
def FA(K:bI):R2:=λx y H Q=>∃p xs i v,x = .ref p/\y = .int i/\dH K H p xs/\cM xs i=aA v/\Q v H
def FD(K:bI):R2:=λx y H Q=>∃p xs i v,x = .ref p/\y = .int i/\eD K H p xs/\cM xs i=aA v/\Q v H
def FC:R2:=λx y H Q=>∃z i c,x = .str z/\y = .int i/\z.length<=sizeLine/\cM z.cps.toList i=aA c/\Q (.str ⟨#[c]⟩) H
theorem E2:pS X (FA X.K):=by
 intro value slice pins s Z H x y v u Q I rx ry h hs;obtain⟨p,xs,i,z,rfl,rfl,hq,he,q⟩:=h;cases rx;obtain⟨t,rfl⟩:=ry;obtain⟨its,r,pl,hz⟩:=I.list hq;obtain⟨j,h1,h2,h3,h4,h5⟩:=Fe he;obtain⟨w,ew,rw'⟩:=r.get h2;have hl:=r.length;have hn:=zY;have fin:EP X pins Z Q w s:=⟨z,H,I,rw',q⟩;by_cases h0:0<=i
 .have hj:i.toNat=j:=by rw[Su h0 h5]at h1;exact dR h1
  exact item_listR pl.isList h0 (by omega) (by rw[hj];simpa) fin hs
 .have hj:(i+(its.toArray.size:Int)).toNat=j:=by rw[seqIndex_neg (by omega) h4]at h1;rw[hU,<- hl];exact dR h1
  exact NL pl.isList.typeIs slot_list_getitem.lookup
   (wpAny_getItem_list_neg pl.isList (by omega) (by rw[hU]<;>omega) (by omega) (by rw[hj];simpa) ⟨rfl,fin⟩) hs
theorem E5:pS X (FD X.K):=by
 intro value slice pins s Z H x y v u Q I rx ry h hs;obtain⟨p,xs,i,z,rfl,rfl,hq,he,q⟩:=h;cases rx;obtain⟨t,rfl⟩:=ry;obtain⟨its,r,pl,hz⟩:=I.tuple hq;obtain⟨j,h1,h2,h3,h4,h5⟩:=Fe he;obtain⟨w,ew,rw'⟩:=r.get h2;have hl:=r.length;have hn:=zY;have fin:EP X pins Z Q w s:=⟨z,H,I,rw',q⟩;exact NL pl.typeIs slot_tuple_getitem.lookup
  (getItem_tuple pl (by omega) (by omega) (by rw[hU,<- hl];exact h1) (by simpa) ⟨rfl,fin⟩) hs
theorem E4:pS X FC:=by
 intro value slice pins s Z H x y v u Q I rx ry h hs;obtain⟨z,i,c,rfl,rfl,hz,he,q⟩:=h;obtain⟨t,rfl⟩:=rx;obtain⟨t',rfl⟩:=ry;obtain⟨j,h1,h2,h3,h4,h5⟩:=Fe he;have hl:z.cps.toList.length=z.length:=by simp[Str.length]
 rw[hl]at h1 h4 h5;have hn:=zY;exact tail_any (typeIs_str s z t) slot_str_getitem.lookup (getItem_str (c:=c) (by
  have e1:decide (i < -(2 ^ 63:Int))=aG:=decide_eq_false (by omega);have e2:decide (i ≥ 2 ^ 63)=aG:=decide_eq_false (by omega);rw[e1,e2,Bool.or_false]) (by rw[h1];simpa using h2) ⟨.str ⟨#[c]⟩,H,I.tok _,⟨_,rfl⟩,q⟩) hs
def Mp(K:bI):R2:=λx y H Q=>FA K x y H Q\/FD K x y H Q\/FC x y H Q
theorem E3:pS X (Mp X.K):=E2.or (E5.or E4)
theorem K9(its:He)(n j:Nat)(u:Value):vc (·.setIfInBounds j u) { cls:=.type "list",data:=.seq its.toArray n }={ cls:=.type "list",data:=.seq (its.set j u).toArray n }:=by simp[vc]
theorem Inv.lst(I:Inv X pins Z H s)(h:H p=aA (.lst xs)) :
  ∃(its:He) (n:Nat),Vals xs its/\s.heap.get? p=aA { cls:=.type "list",data:=.seq its.toArray n }/\xs.length<=sizeLine:=by
 obtain⟨z,its,n,r,e⟩:=I.bA p _ h;exact⟨its,n,r,e,z⟩
theorem Inv.K4{n':Nat}{f:Obj->Obj}(I:Inv X pins Z H s)(h:H p=aA (.lst xs))
  (ho:s.heap.get? p=aA { cls:=.type "list",data:=.seq its.toArray n })(hf:f { cls:=.type "list",data:=.seq its.toArray n }={ cls:=.type "list",data:=.seq its'.toArray n' })(r:Vals ys its')(hz:ys.length<=sizeLine)(t:Nat) :
  Inv X pins Z (bF H p<|.lst ys) { s with heap:=s.heap.update p f,toks:=t }:=by
 have e:(s.heap.update p f).get? p=aA { cls:=.type "list",data:=.seq its'.toArray n' }:=by rw[uv f ho (by rw[hf]<;>rfl),hf]
 refine I.write (by rw[h];trivial) (.inl rfl) (λb u hb q=>(bj _ _<|mK hb).trans q) ⟨_,e⟩ ?_;exact⟨hz,its',n',r,e⟩
def FF:V->V->V->Hp->(Hp->Prop)->Prop:=λo i v H Q=>∃p xs k j,o = .ref p/\i = .int k/\H p=aA (.lst xs)/\jP xs.length k=aA j/\Q (bF H p<|.lst<|xs.set j v)
theorem aJe:Ey X FF:=by
 intro pins s Z H o i v ov iv u Q I ro ri rv h;obtain⟨p,xs,k,j,rfl,rfl,hp,hj,q⟩:=h;cases ro;obtain⟨t,rfl⟩:=ri;obtain⟨its,n,r,ho,hz⟩:=I.lst hp;obtain⟨h1,h2,h3,h4⟩:=AG hj;have hl:=r.length;have hn:=zY;have I':Inv X pins Z (bF H p<|.lst<|xs.set j v) { s with heap:=s.heap.update p (vc (·.setIfInBounds j u)) }:=
  I.K4 hp ho (K9 its n j u) (r.set rv j) (by rw[pO];exact hz) s.toks
 by_cases h0:0<=k
 .have hk:k.toNat=j:=by rw[Su h0 h4]at h1;exact dR h1
  exact W.ki_setAt ho h0 (by omega) (by rw[hU,<- hl];exact h4) (by rw[hk];exact⟨_,I',q⟩)
 .have hk:(k+(its.toArray.size:Int)).toNat=j:=by rw[seqIndex_neg (by omega) h3]at h1;rw[hU,<- hl];exact dR h1
  exact W.ki_setBack ho (by omega) (by rw[hU,<- hl];exact h3) (by omega) (by rw[hk];exact⟨_,I',q⟩)
theorem aJo(lo hi:Hc)(n:Nat):(da lo hi aD n).1=((HT.bY n 0 lo:Nat):Int)/\(da lo hi aD n).2.1=((HT.bY n n hi:Nat):Int)/\(da lo hi aD n).2.2=1:=by
 refine⟨?_,?_,rfl⟩
 .cases lo with
  |none=>simp[da,HT.bY]|some i=>
   simp only[da,HT.bY,LZ,show(1:Int) > 0 by decide,if_true];by_cases h:i<0
   .simp only[h,if_true]<;>omega
   .simp only[h,if_false]<;>omega
 .cases hi with
  |none=>simp[da,HT.bY]|some i=>
   simp only[da,HT.bY,LZ,show(1:Int) > 0 by decide,if_true];by_cases h:i<0
   .simp only[h,if_true]<;>omega
   .simp only[h,if_false]<;>omega
theorem aJn(its:He)(lo hi:Hc):slicePick its.toArray lo hi aD=((its.drop<|HT.bY its.length 0 lo).take (HT.bY its.length its.length hi-HT.bY its.length 0 lo)).toArray:=by obtain⟨h1,h2,h3⟩:=aJo lo hi its.toArray.size;unfold slicePick;rw[h1,h2,h3];simp only[sliceRange_one,pick_run]<;>rfl
def aIi(K:bI):V->Hc->Hc->Hp->VK->Prop:=λx lo hi H Q=>∃a xs,x = .ref a/\dH K H a xs/\∀p,H p=aD->Q (.ref p) (bF H p<|.lst<|fv xs lo hi)
theorem aJk:yM X (aIi X.K):=by intro pins s Z H x v vl vu lo hi sl Q I rx hs pl pu h;obtain⟨a,xs,rfl,hx,q⟩:=h;cases rx;obtain⟨its,r,ht,hz⟩:=I.list hx;have hlen:=r.length;refine⟨"list",_,slot_list_getitem.lookup,ht.isList.typeIs,?_⟩;refine wpAny_getItem_list_slice ht.isList hs pl pu .none (by simp) ?_ (by rw[hU]<;>omega);rw[aJn,<- hlen];refine⟨.ref s.heap.objs.size,_,I.laid (λb ob q=>cT _ q) (aV _) ?_,rfl,q _ (I.bA.fresh<|aV _)⟩;exact⟨dF (Wj xs lo hi) hz,_,0,(r.drop<|HT.bY xs.length 0 lo).take (HT.bY xs.length xs.length hi-HT.bY xs.length 0 lo),fU _ rfl⟩
def sF:V->Bool
 |.aH=>aB
 |.bl _=>aB
 |.int _=>aB
 |.str _=>aB
 |_=>aG
def uA:V->V->Bool
 |.aH,.aH=>aB
 |.bl a,.bl b=>a==b
 |.bl a,.int b=>(if a then 1 else 0)==b
 |.int a,.bl b=>a==(if b then 1 else 0)
 |.int a,.int b=>a==b
 |.str a,.str b=>a==b
 |_,_=>aG
theorem YC{A:cK}(ry:RelV y u)(rx:RelV x v)(fy:sF y=aB)(fx:sF x=aB):SeqAt.EqAt A s u v (uA y x):=by
 cases y with
 |aH=>
  cases ry;cases x with
  |aH=>cases rx;exact SeqAt.EqAt.same _|bl b=>cases rx;exact SeqAt.EqAt.none_bool b|int b=>obtain⟨t,rfl⟩:=rx;exact SeqAt.EqAt.none_int b t|str b=>obtain⟨t,rfl⟩:=rx;exact SeqAt.EqAt.none_str b t|_=>exact absurd (show aG=aB from fx) gR
 |bl a=>
  cases ry;cases x with
  |aH=>cases rx;exact SeqAt.EqAt.bool_none a|bl b=>cases rx;exact SeqAt.EqAt.bool_bool a b|int b=>obtain⟨t,rfl⟩:=rx;exact SeqAt.EqAt.bool_int a b t|str b=>obtain⟨t,rfl⟩:=rx;exact SeqAt.EqAt.bool_str a b t|_=>exact absurd (show aG=aB from fx) gR
 |int a=>
  obtain⟨t',rfl⟩:=ry;cases x with
  |aH=>cases rx;exact SeqAt.EqAt.int_none a t'|bl b=>cases rx;exact SeqAt.EqAt.int_bool a t' b|int b=>obtain⟨t,rfl⟩:=rx;exact SeqAt.EqAt.int_int a t' b t|str b=>obtain⟨t,rfl⟩:=rx;exact MW a t' b t|_=>exact absurd (show aG=aB from fx) gR
 |str a=>
  obtain⟨t',rfl⟩:=ry;cases x with
  |aH=>cases rx;exact SeqAt.EqAt.str_none a t'|bl b=>cases rx;exact SeqAt.EqAt.str_bool a t' b|int b=>obtain⟨t,rfl⟩:=rx;exact MX a t' b t|str b=>obtain⟨t,rfl⟩:=rx;exact SeqAt.EqAt.str_str a t' b t|_=>exact absurd (show aG=aB from fx) gR
 |_=>exact absurd (show aG=aB from fy) gR
def mN(x:V)(u:Value):Bool:=match u with
 |.none=>uA .aH x
 |.bool b=>uA (.bl b) x
 |.int i _=>uA (.int i) x
 |.str z _=>uA (.str z) x
 |_=>aG
theorem Xh(r:RelV y u)(f:sF y=aB):mN x u=uA y x:=by
 cases y with
 |aH=>cases r;rfl|bl b=>cases r;rfl|int i=>obtain⟨t,rfl⟩:=r;rfl|str z=>obtain⟨t,rfl⟩:=r;rfl|_=>exact absurd (f) gR
theorem nh{x:V}:∀{xs:Hg}{us:He},Vals xs us->xs.all sF=aB->us.any (mN x)=xs.any λy=>uA y x
 |_,_,.nil,_=>rfl|y::xs,u::us,.cons r t,f=>by rw[jY,bS]at f;rw[rR,rR,Xh r f.1,nh t f.2]
theorem rk{A:cK}{s:aI}{x:V}{v:Value}(rx:RelV x v)(fx:sF x=aB):∀{xs:Hg}{us:He},Vals xs us->xs.all sF=aB->∀u∈us,SeqAt.EqAt A s u v (mN x u)
 |_,_,.nil,_=>λu hu=>by cases hu
 |y::xs,u::us,.cons r t,f=>λu' hu=>by
  rw[jY,bS]at f;rcases List.mem_cons.mp hu with rfl|hu
  .rw[Xh r f.1];exact YC r rx f.1 fx
  .exact rk rx fx t f.2 u' hu
def yz(x:V)(xs:Hg):Bool:=xs.any λy=>uA y x
def EY(K:bI)(neg:Bool):R2:=λx y H Q=>∃p xs,y = .ref p/\(dH K H p xs\/eD K H p xs)/\sF x=aB/\xs.all sF=aB/\Q (.bl<|if neg then !yz x xs else yz x xs) H
theorem S4:cU X (dG .In) (EY X.K aG):=by
 intro pins s Z H x y v u Q I rx ry h;obtain⟨p,xs,rfl,hq,fx,fs,q⟩:=h;cases ry;rcases hq with hq|hq
 .obtain⟨its,r,pl,hz⟩:=I.list hq;refine SeqAt.in_listAt (mN x) pl.isList (λw hw=>rk rx fx r fs w (by simpa using hw)) ⟨.bl _,H,I,rfl,?_⟩;rw[show its.toArray.any (mN x)=its.any (mN x) by simp,nh r fs];exact q
 .obtain⟨its,r,pl,hz⟩:=I.tuple hq;refine SeqAt.in_tupleAt (mN x) pl (λw hw=>rk rx fx r fs w (by simpa using hw)) ⟨.bl _,H,I,rfl,?_⟩;rw[show its.toArray.any (mN x)=its.any (mN x) by simp,nh r fs];exact q
theorem T8:cU X (dG .NotIn) (EY X.K aB):=by
 intro pins s Z H x y v u Q I rx ry h;obtain⟨p,xs,rfl,hq,fx,fs,q⟩:=h;cases ry;rcases hq with hq|hq
 .obtain⟨its,r,pl,hz⟩:=I.list hq;refine SeqAt.notIn_listAt (mN x) pl.isList (λw hw=>rk rx fx r fs w (by simpa using hw)) ⟨.bl _,H,I,rfl,?_⟩;rw[show its.toArray.any (mN x)=its.any (mN x) by simp,nh r fs];exact q
 .obtain⟨its,r,pl,hz⟩:=I.tuple hq;refine SeqAt.notIn_tupleAt (mN x) pl (λw hw=>rk rx fx r fs w (by simpa using hw)) ⟨.bl _,H,I,rfl,?_⟩;rw[show its.toArray.any (mN x)=its.any (mN x) by simp,nh r fs];exact q
theorem VJ:iM X (.builtin "len") (λxs H Q=>∃p ys,xs=[.ref p]/\(dH X.K H p ys\/eD X.K H p ys)/\Q (.int ys.length) H):=by
 intro pins s Z H xs us Q I r h;obtain⟨p,ys,rfl,hq,q⟩:=h;obtain⟨u,rfl,rx⟩:=ji r;cases rx;have hn:=zY;rcases hq with hq|hq
 .obtain⟨its,r',pl,hz⟩:=I.list hq;have hlen:=r'.length;exact Calls.call_len_list pl.isList (by simp only[hU]<;>omega) ⟨.int ys.length,H,I.tok _,⟨s.toks+1,by rw[hU,hlen]⟩,q⟩
 .obtain⟨its,r',pl,hz⟩:=I.tuple hq;have hlen:=r'.length;exact len_tuple pl (by simp only[hU]<;>omega) ⟨.int ys.length,H,I.tok _,⟨s.toks+1,by rw[hU,hlen]⟩,q⟩
theorem VL:iM X (.builtin "len") (λxs H Q=>∃z,xs=[.str z]/\z.length<=sizeLine/\Q (.int z.length) H):=by intro pins s Z H xs us Q I r h;obtain⟨z,rfl,hz,q⟩:=h;obtain⟨u,rfl,t,rfl⟩:=ji r;have hn:=zY;exact len_str (by omega) ⟨.int z.length,H,I.tok _,⟨_,rfl⟩,q⟩
theorem iM.or{f:Value}{r r':Hg->Hp->VK->Prop}(h:iM X f r)(h':iM X f r'):iM X f (λxs H Q=>r xs H Q\/r' xs H Q):=by
 intro pins s Z H xs us Q I rs q;rcases q with q|q
 .exact h pins s Z H xs us Q I rs q
 .exact h' pins s Z H xs us Q I rs q
theorem VN:iM X (.type "list") (λxs H Q=>∃p ys,xs=[.ref p]/\(dH X.K H p ys\/eD X.K H p ys)/\∀l,H l=aD->Q (.ref l) (bF H l<|.lst ys)):=by
 intro pins s Z H xs us Q I r h;obtain⟨p,ys,rfl,hq,q⟩:=h;obtain⟨u,rfl,rx⟩:=ji r;cases rx;have fin:∀(its:He),Vals ys its->ys.length<=sizeLine->∀(h':bH) (c':Nat),(∀b o',s.heap.get? b=aA o'->h'.get? b=aA o') ->
   h'.get? s.heap.objs.size=aA { cls:=.type "list",dict:=aD,data:=.seq its.toArray c',slots:=#[] }->EP X pins Z Q (.ref s.heap.objs.size) { s with heap:=h' }:=λits r' hz h' c' kp e=>
  ⟨.ref s.heap.objs.size,_,I.laid kp (aV _) (show hV X.prog X.w _ h' _ (.lst ys) from⟨hz,its,c',r',e⟩),rfl,q _ (I.bA.fresh<|aV _)⟩
 rcases hq with hq|hq
 .obtain⟨its,r',pl,hz⟩:=I.list hq;have hlen:=r'.length;obtain⟨o,ho,hc,n,hd⟩:=pl.isList;exact NG p (.inl rfl) ho hc hd (λh' c' kp e=>fin its r' hz h' c' kp e) (by simp only[hU]<;>omega)
 .obtain⟨its,r',pl,hz⟩:=I.tuple hq;have hlen:=r'.length;obtain⟨o,ho,hc,n,hd⟩:=pl;exact NG p (.inr rfl) ho hc hd (λh' c' kp e=>fin its r' hz h' c' kp e) (by simp only[hU]<;>omega)
theorem VV:iM X (.type "tuple") (λxs H Q=>∃p ys,xs=[.ref p]/\((dH X.K H p ys/\∀l,H l=aD->Q (.ref l) (bF H l<|.tup ys))\/(eD X.K H p ys/\Q (.ref p) H))):=by
 intro pins s Z H xs us Q I r h;obtain⟨p,ys,rfl,h⟩:=h;obtain⟨u,rfl,rx⟩:=ji r;cases rx;rcases h with⟨hq,q⟩|⟨hq,q⟩
 .obtain⟨its,r',pl,hz⟩:=I.list hq;have hlen:=r'.length;refine call_tuple_list pl.isList (λh' kp=>?_) (by simp only[hU]<;>omega);have I1:Inv X pins Z H { s with heap:=h' }:=I.kept kp;have I2:Inv X pins Z (bF H h'.objs.size<|.tup ys) { s with heap:=h'.push { cls:=.type "tuple",data:=.seq its.toArray } }:=
   I1.laid (λb o e=>cT _ e) (aV _) (show hV X.prog X.w _ _ _ (.tup ys) from⟨hz,its,r',Cz _ _⟩)
  exact⟨.ref h'.objs.size,_,I2,rfl,q _ (I1.bA.fresh<|aV _)⟩
 .obtain⟨its,r',pl,hz⟩:=I.tuple hq;exact call_tuple_same pl ⟨.ref p,H,I,rfl,q⟩
def Nx(K:bI)(T:String)(x:V)(H:Hp):Prop:=match x with
 |.str _=>T="str"
 |.int _=>T="int"
 |.ref p=>(T="list"/\∃xs,dH K H p xs)\/(T="tuple"/\∃o,K.lookup p=aA o/\o.cls = .type "tuple"/\o.dict=aD) \/
  (T="dict"/\((∃kvs,H p=aA (.dK kvs))\/∃kvs,H p=aA (.dT kvs)))\/(T="set"/\∃S n,H p=aA (.set S n))
 |_=>False
theorem HP(I:Inv X pins Z H s)(r:RelV x v)(ty:Nx X.K T x H) :
  s.TypeIs v T/\∀a,v = .ref a->∃ob,s.heap.get? a=aA ob/\ob.dict=aD:=by
 cases x with
 |str z=>obtain⟨t,rfl⟩:=r;cases(ty);exact⟨typeIs_str s z t,nofun⟩
 |int i=>obtain⟨t,rfl⟩:=r;cases(ty);exact⟨Sz s i t,nofun⟩
 |ref p=>
  cases r;rcases ty with⟨rfl,xs,hq⟩|⟨rfl,o,hk,hc,hd⟩|⟨rfl,hk⟩|⟨rfl,S,n,hk⟩
  .obtain⟨its,_,pl,_⟩:=I.list hq;refine⟨pl.isList.typeIs,λa e=>?_⟩;cases e;obtain⟨o,n,e,c,hd,_⟩:=pl;exact⟨o,e,hd⟩
  .refine⟨⟨o,I.fM p o hk,hc⟩,λa e=>?_⟩;cases e;exact⟨o,I.fM _ o hk,hd⟩
  .have z:∃o,s.heap.get? p=aA o/\o.ExactDict:=by
    rcases hk with⟨kvs,hk⟩|⟨kvs,hk⟩
    .obtain⟨_,_,_,_,o,_,_,e,ex,_⟩:=I.bA p _ hk;exact⟨o,e,ex⟩
    .obtain⟨_,_,_,_,o,_,_,e,ex,_⟩:=I.bA p _ hk;exact⟨o,e,ex⟩
   obtain⟨o,e,ex⟩:=z;refine⟨⟨o,e,ex.1⟩,λa e2=>?_⟩;cases e2;exact⟨o,e,ex.2.1⟩
  .obtain⟨o,_,_,_,e,ex,_⟩:=I.bA p _ hk;refine⟨⟨o,e,ex.1⟩,λa e2=>?_⟩;cases e2;exact⟨o,e,ex.2.1⟩
 |_=>exact lP ty
def aLg(K:bI)(T:String)(r:V->Hg->Hp->VK->Prop)(to:TE):TE:=λZ H Q=>to Z H λx H1=>Nx K T x H1/\r x [] H1 Q
def tBM(K:bI)(T:String)(r:V->Hg->Hp->VK->Prop)(to:TE)(t:TA):TE:=λZ H Q=>to Z H λx H1=>Nx K T x H1/\t Z H1 λxs H2=>r x xs H2 Q
variable {o:aK}{es:List aK}{to:TE}{t:TA}{name:Str}{apos sC:Pos}{id:String}{r:V->Hg->Hp->VK->Prop}
theorem X5(pa:PlainAttrs T) (slot:Slot T name id) (hty:typeOf (.builtin id)=pure (.type "method_descriptor")) (hm:Ts X id r) (ho:PE X o to)
  (Ie:lh o name X.env (eval o X.env)=eval o X.env:=by rfl) (Ij:(apos.endLine==sC.line)=aB:=by rfl):PE X (.Call (.Attribute o name apos) [] [] sC) (aLg X.K T r to):=by
 intro pins s Z H Q I h;refine wpAny_Call_method0_late Ie Ij<|bB (ho pins s Z H _ I h) λv s1 zq=>?_;obtain⟨x,H1,I1,r1,ty,q1⟩:=zq;obtain⟨h1,h2⟩:=HP I1 r1 ty;exact⟨T,id,pa,slot,hty,h1,h2,Pk rfl (PySem.evalArgs_none<|hm pins s1 Z H1 x [] v [] Q I1 r1 .nil q1)⟩
theorem CY(pa:PlainAttrs T) (slot:Slot T name id) (hty:typeOf (.builtin id)=pure (.type "method_descriptor")) (hm:Ts X id r) (ho:PE X o to) (ha:PA X (e::es) t)
  (Ie:lh o name X.env (eval o X.env)=eval o X.env:=by rfl)
  (A4:((lR sC<|eI (e::es) X.env).all (λx=>!x.1)&&(yC sC<|yE [] X.env).all (λx=>x.1.isSome)
  &&decide ((e::es).length+([]:List tG).length+(if([]:List tG).isEmpty then 0 else 1)<30))=aB:=by rfl)
  (Ij:(apos.endLine==sC.line)=aB:=by rfl) (hs:eI (e::es) X.env=(aG,eval e X.env)::eI es X.env:=by rfl) (B6:(lR sC<|eI es X.env).any (·.1)=aG:=by rfl) :
  PE X (.Call (.Attribute o name apos) (e::es) [] sC) (tBM X.K T r to t):=by
 intro pins s Z H Q I h;refine NN Ie A4 Ij rfl<|bB (ho pins s Z H _ I h) λv s1 zq=>?_;obtain⟨x,H1,I1,r1,ty,q1⟩:=zq;obtain⟨h1,h2⟩:=HP I1 r1 ty;refine⟨T,id,pa,slot,hty,h1,h2,?_⟩;have hA:=ha sC pins s1 Z H1 _ I1 q1;rw[hs]at hA ⊢;exact Pk (by show(aG||(lR sC<|eI es X.env).any (·.1))=aG;rw[B6]<;>rfl)<|JF<|bB hA λus s2 ⟨vs,H2,I2,r2,q2⟩=>hm pins s2 Z H2 x vs v us Q I2 r1 r2 q2
end
def dz(X:Cx)(id:String)(r:V->Hg->Hp->VK->Prop):Prop:=
 ∀(pins:Hf) (s:aI) (Z:St) (H:Hp) (x:V) (xs:Hg) (v:Value) (us:He) (Q:VK),Inv X pins Z H s->RelV x v->Vals xs us->r x xs H Q ->
  aS (aZ X.prog X.w) X.A (call (.builtin id)<|v::us) (EP X pins Z Q) X.xe s
theorem Vals.one:∀{x:V}{us:He},Vals [x] us->∃u,us=[u]/\RelV x u
 |_,_,.cons r .nil=>⟨_,rfl,r⟩
theorem Vals.zero:∀{us:He},Vals [] us->us=[]
 |_,.nil=>rfl
theorem Vals.dropLast{xs:Hg}{us:He}(h:Vals xs us):Vals xs.dropLast us.dropLast:=by
 induction h with
 |nil=>exact .nil|cons r t ih=>
  cases t with
  |nil=>exact .nil|cons q t'=>exact .cons r ih
theorem Vals.rep{xs:Hg}{us:He}(h:Vals xs us):∀k:Nat,Vals (eR k xs).flatten (eR k us).flatten
 |0=>.nil
 |k+1=>by exact Vals.append h<|Vals.rep h k
theorem YE{α:Type}(l:List α):l.eraseIdx (l.length-1)=l.dropLast:=by
 induction l with
 |nil=>rfl|cons a r ih=>
  cases r with
  |nil=>rfl|cons b r=>
   have e:(a::b::r).length-1=((b::r).length-1)+1:=by have h1:(a::b::r).length=r.length+2:=rfl;have h2:(b::r).length=r.length+1:=rfl;omega
   rw[e,aRt,ih];all_goals rfl
theorem Yi(its:He):∀(k:Nat) (acc:He),
  Py (λx1 x2=>x1++x2) acc.toArray (eR k its.toArray)=(acc++(eR k its).flatten).toArray
 |0,acc=>by simp
 |k+1,acc=>by
  have e:acc.toArray++its.toArray=(acc++its).toArray:=by simp
  have e2:(acc++its)++(eR k its).flatten=acc++(eR (k+1) its).flatten:=by rw[Qn,KG,JW]
  rw[<- e2,<- Yi its k (acc++its),<- e,Qn,Dh]
section
variable {l b:Addr}{zs:Hg}
theorem Inv.BN{f:Xq->Xq}(I:Inv X pins Z H s)(hH:H l=aA (.lst xs))
  (e:s.heap.get? l=aA { cls:=.type "list",data:=.seq its.toArray n })(hf:f its.toArray=its'.toArray)(hv:Vals ys its')(hz:ys.length<=sizeLine) :
  Inv X pins Z (bF H l<|.lst ys) { s with heap:=s.heap.update l (vc f),toks:=t' }:=by
 have q:=PySem.IsL.update e f;rw[hf]at q;refine I.write (hH▸trivial) (.inl rfl) (λb' u hb hu=>(bj s.heap (vc f)<|mK hb).trans hu) ⟨_,q⟩ ?_;exact⟨hz,its',_,hv,q⟩
theorem Inv.BI(I:Inv X pins Z H s)(hv:Vals ys its)(hz:ys.length<=sizeLine) :
  Inv X pins Z (bF H s.heap.objs.size<|.lst ys) { s with heap:=s.heap.push { cls:=.type "list",data:=.seq its.toArray },toks:=t' }:=
 I.laid (λ_ _ q=>cT _ q) (aV _) ⟨hz,its,0,hv,fU _ rfl⟩
theorem Inv.fresh(I:Inv X pins Z H s):H s.heap.objs.size=aD:=I.bA.fresh (aV _)
theorem Inv.uQ(I:Inv X pins Z H s)(hH:H l=aA (.lst xs)):xs.length<=sizeLine/\∃(its:He) (n:Nat),Vals xs its/\xs.length=its.length/\s.heap.get? l=aA { cls:=.type "list",data:=.seq its.toArray n }:=by obtain⟨z,its,n,r,e⟩:=I.bA l _ hH;exact⟨z,its,n,r,r.length,e⟩
theorem O8(h:n<=sizeLine):JC n=aG:=by exact decide_eq_false (by omega)
end
def ES:V->Hg->Hp->VK->Prop:=λx vs H Q=>∃l xs y,x = .ref l/\vs=[y]/\H l=aA (.lst xs)/\xs.length<sizeLine/\Q .aH (bF H l<|.lst<|xs++[y])
theorem M5:dz X "list.append" ES:=by intro pins s Z H x vs v us Q I rx rv h;obtain⟨l,xs,y,rfl,rfl,hH,hz,q⟩:=h;cases rx;obtain⟨u,rfl,ru⟩:=rv.one;obtain⟨z,its,n,r,hl,e⟩:=I.uQ hH;refine Ee F.slot_list_append ⟨_,e,rfl⟩ F.entry_list_append (F.args_list_append_2 _ _) (PySem.list_append l its.toArray n u (by rw[hU];omega)) ⟨e,?_⟩;refine⟨.aH,_,I.BN hH e (by simp) (r.append<|.cons ru .nil) ?_,rfl,q⟩;rw[dO,List.length_singleton];omega
def aIf:V->Hg->Hp->VK->Prop:=λx vs H Q=>∃l xs y,x = .ref l/\vs=[]/\H l=aA (.lst xs)/\xs[xs.length-1]?=aA y/\Q y (bF H l<|.lst xs.dropLast)
theorem M9:dz X "list.pop" aIf:=by
 intro pins s Z H x vs v us Q I rx rv h;obtain⟨l,xs,y,rfl,rfl,hH,hy,q⟩:=h;cases rx;have hus:=rv.zero;subst hus;obtain⟨z,its,n,r,hl,e⟩:=I.uQ hH;obtain⟨u,hu,ru⟩:=r.get hy;have hy':its.toArray[its.toArray.size-1]?=aA u:=by show its.toArray[its.length-1]?=aA u;rw[<- Ph,<- hl];exact hu
 refine Ee F.slot_list_pop ⟨_,e,rfl⟩ F.entry_list_pop (F.args_list_pop_1 _) (MeetsSeq.list_pop_last l its.toArray n u hy' (by rw[hU];omega)) ⟨e,?_⟩;refine⟨y,_,I.BN hH e ?_ r.dropLast ?_,ru,q⟩
 .show its.toArray.eraseIdxIfInBounds (its.toArray.size-1)=its.dropLast.toArray;rw[hU,aRs,YE]
 .rw[List.length_dropLast];omega
def ET:R2:=λx y H Q=>∃l b xs zs,x = .ref l/\y = .ref b/\H l=aA (.lst xs)/\H b=aA (.lst zs)/\xs.length+zs.length<=sizeLine/\∀p,H p=aD->Q (.ref p) (bF H p<|.lst<|xs++zs)
theorem Q6:cU X (eY .Add) ET:=by
 intro pins s Z H x y v u Q I rx ry h;obtain⟨l,b,xs,zs,rfl,rfl,hH,hB,hz,q⟩:=h;cases rx;cases ry;obtain⟨z,its,n,r,hl,e⟩:=I.uQ hH;obtain⟨z2,wV,n2,r2,hl2,e2⟩:=I.uQ hB;refine PySem.P.add_list e e2 ?_ (by rw[hU,hU];omega);have ea:its.toArray++wV.toArray=(its++wV).toArray:=by simp
 rw[ea];exact⟨.ref _,_,I.BI (r.append r2) (by rw[dO];omega),rfl,q _ I.fresh⟩
def aIg:R2:=λx y H Q=>∃l k xs,x = .ref l/\y = .int k/\H l=aA (.lst xs)/\-(2 ^ 63)<=k/\k<2 ^ 63/\xs.length*k.toNat<=sizeLine /\
 ∀p,H p=aD->Q (.ref p) (bF H p<|.lst (eR k.toNat xs).flatten)
theorem J3{α:Type}(xs:List α)(k:Nat):(eR k xs).flatten.length=k*xs.length:=by
 induction k with
 |zero=>simp|succ k ih=>rw[Qn,KG,dO,ih,Nat.succ_mul,LK]
theorem U2:cU X (eY .Mult) aIg:=by
 intro pins s Z H x y v u Q I rx ry h;obtain⟨l,k,xs,rfl,rfl,hH,h1,h2,hz,q⟩:=h;cases rx;obtain⟨t,rfl⟩:=ry;obtain⟨z,its,n,r,hl,e⟩:=I.uQ hH;have hlen:its.toArray.size*k.toNat<=sizeLine:=by rw[hU,<- hl];exact hz
 have A2:¬its.toArray.size*k.toNat > (2 ^ 63-1) / 8:=by
  have:sizeLine<=(2 ^ 63-1) / 8:=by decide
  omega
 have A5:¬(!Builtin.List.listFitsIndex k)=aB:=by rw[fitsIndex_both h1 h2];exact gR
 have B2:¬JC (its.toArray.size*k.toNat)=aB:=by rw[O8 hlen];exact gR
 have B4:Py (λx1 x2=>x1++x2) #[] (eR (if its.toArray.isEmpty=aB then 0 else k.toNat) its.toArray)=(eR k.toNat its).flatten.toArray:=by
  have f0:∀m:Nat,Py (λx1 x2=>x1++x2) #[] (eR m its.toArray)=(eR m its).flatten.toArray:=λm=>by have:=Yi its m [];exact this
  rw[f0];cases its with
  |nil=>simp|cons a r'=>rw[if_neg (by simp)]
 refine wpAny_binaryOp_repeat_ref (rfl) ⟨_,e,rfl⟩ (λs'=>Sz s' k t) noFill_list_mul F.fills_int_mul JJ repeat_list F.slot_int_index.lookup
  (Ee JJ (Sz s k t) F.entry_int_rmul (F.args_int_rmul_2 _ _) (int___rmul___int_list k t l its.toArray n)
   ⟨e,rfl,⟨_,e,rfl⟩,Ee F.slot_list_mul ⟨_,e,rfl⟩ F.entry_list_mul (F.args_list_mul_2 _ _) (aRo l its.toArray n k t A5 A2 B2) ⟨e,?_⟩⟩)
 rw[B4];exact⟨.ref _,_,I.BI (r.rep k.toNat) (by rw[J3,Nat.mul_comm];exact hz),rfl,q _ I.fresh⟩
end L2
namespace Att
open PySem PySem.W PySem.Calls PyProof.Rows
variable {P:bU}{h:bH}{l:OpenLaw}{n:Nat}
theorem D0:∀(ns:Xj) (vs:He),WellAll P h vs (ns.map WData.int)->vM vs ns:=by
 intro ns;induction ns with
 |nil=>intro vs w;cases w;exact .nil
 |cons n ns ih=>
  intro vs w;cases w with
  |cons a b=>cases a;exact .cons _ _<|ih _ b
theorem aJa(hn:l.most=aA n){args:List WData}{vals:He}
  (yw:l.row.toRowW.claim.pre args=aB)(hwl:WellAll P h vals args) :
  ∃a vs ns,vals=[lB a]/\args=[WData.list (ns.map WData.int)]/\h.get? a=aA { cls:=.type "list",data:=.seq vs.toArray }/\vM vs ns/\ns.length<=n:=by
 have hsh:WShape.hasAll [] args [.list .int]=aB:=(pre_splitW yw).1;have hc:l.pre.holds [] { args:=args }=aB:=(pre_splitW yw).2;obtain⟨d,r,rfl,h1,h2⟩:=hasAllW_cons hsh;obtain rfl:=hasAllW_nil h2;obtain⟨xs,rfl,h3⟩:=hasW_list h1;obtain⟨ns,rfl⟩:=items_int h3;have hlen:ns.length<=n:=by
  have h4:(WTm.not<|.lt (.lit<|.int n)<|.len<|.arg 0).holds [] { args:=[.list (ns.map .int)] }=aB:=by have h4:=(holds_andW hc).1;rw[hn]at h4;exact h4
  have h5:=condW_of h4 (w_not<|w_lt w_lit<|w_len_list<|w_arg rfl);refine LN λq=>?_;first
   | (exact absurd h5<|rfl)
   | (simp at h5;omega)
 cases hwl with
 |cons w1 w2=>
  cases w2;cases w1 with
  |list ho pB=>exact⟨_,_,ns,rfl,rfl,ho,D0 ns _ pB,hlen⟩
theorem aBc(l:OpenLaw)(args:List WData):l.row.toRowW.claim.post args (.bool aB) args=aB:=
 postW_of
  (show WShape.has [] (.bool aB) .bool=aB by first|rfl|decide|simp[WShape.has])
  (show(WTm.eq .res<|.lit<|.bool aB).value [] { args:=args,res:=aA (.bool aB),after:=args }=aA (.bool<|aB==aB) from w_eq_bool (w_res rfl) w_lit) rfl
theorem ON{q:cC}{loose:Xo}{XP:(Str->Xl)->bH->Prop}{YP:bV->bH->Prop}{d:DefRec}
  (hn:l.most=aA n)(hdf:d.params.defaults=[])
  (call:∀(w:bV) (s₀ s₁:aI) (mg mb:Str->Xl) (fa:Addr) (o:Obj) (pm cd doc:Value) (a:Addr) (vs:He) (ns:Xj),
   Ground q loose [] XP w s₀ mg mb s₁.heap->YP w s₁.heap ->
   s₁.heap.get? fa=aA o->o.data = .func (docDef d.name d.params d.body d.scope pm cd doc)->s₁.heap.CodeRec cd d.name->mg d.name=aA (.ref fa) ->
   s₁.heap.get? a=aA { cls:=.type "list",data:=.seq vs.toArray }->vM vs ns->ns.length<=n->s₁.gens=#[] ->
   tM (aZ l.prog w) yD (.call (.ref fa) ⟨[.ref a],[]⟩) (λr s'=>r = .ok (.ret<|.bool aB)/\OldK s₁.heap s'.heap/\s'.os=s₁.os/\vL s'.gens) s₁) :
  WalkO q loose XP YP l.row.toRowW d [] (λf vs=>Ry f vs):=by
 intro w s₀ s₁ mg mb G Y fa o pm cd doc dV kV ho hd hcd hD hmg hg args vals as yw aUj hrd hwl hlo;obtain rfl:dV = .none:=Dflts.none hD hdf;obtain rfl:kV = .none:=Dflts.noKw hD;obtain⟨a,vs,ns,rfl,rfl,Ik,hints,hlen⟩:=aJa hn yw hwl;refine enter_call<|vk (call w s₀ s₁ mg mb fa o pm cd doc a vs ns G Y ho (fd_plain hd) hcd hmg Ik hints hlen hg) λr s' hq=>?_;obtain⟨rfl,h2,h3,h4⟩:=hq;exact⟨.inl ⟨.bool aB,.bool aB,[],rfl,λ_=>rfl,.bool aB,aBc l _,λ_=>⟨ki,λ_ hm=>(nomatch hm)⟩⟩,h2,h3,h4⟩
end Att
namespace L2
open PySem PySem.Spec PyProof.Rows
variable {A:cK}{CX:nU}{E Q:Value->aI->Prop}{H H':Hp}{N':Xo}{P:cC}{X:Cx}{a:Addr}{fd:eW}{fp:Xk}{h':bH}{kvs:List (List aP×V)}{mg:Str->Xl}{o:Option V}{outer:YG}{pins:Hf}{pos:Pos}{r u:Value}{s:aI}{scope:gJ}{sp:Sp}{tc:TT}{te:TE}{us:He}{v y:V}{w:bV}{x:Str}{xs:List (List aP×Addr×Value)}{Z Z':St}
theorem HR:∀{vs:He}{ns:Xj},vM vs ns->Vals (ns.map V.int) vs
 |_,_,.nil=>.nil
 |_,_,.cons n t h=>.cons ⟨t,rfl⟩ (HR h)
def wg(H:Hp):Prop:=∀b,H b=aD\/∃o xs,H b=aA (.dC o<|.lst xs)
theorem H9{K:bI}{mb:Str->Xl}{k:Nat}{fa:Addr}{s₁:aI}{vs:He}{ns:Xj}
  (KX:K.In s₁.heap)(hns:s₁.heap.Ns iK mg)(hb:s₁.heap.Ns Sf mb)(hbb:∀x:Str,x≠"__name__"->mb x=mW x)(B0:s₁.heap.NoLimit)(hg:s₁.gens=#[])
  (ha:s₁.heap.get? a=aA { cls:=.type "list",data:=.seq vs.toArray })(hi:vM vs ns)(hl:ns.length<=sizeLine)(hr:fK k yD)
  (F:∀base:bH,K.In base->base.Ns iK mg->iN P w K mg base CX k fa fd [x] sp)(A1:∀(s:aI) (u:Value),jw s fd ⟨[u],[]⟩ [(x,u)])
  (hsp:∀H:Hp,wg H->dH K H a (ns.map V.int)->sp [.ref a] H (λv _=>v = .bl aB) λ_ _ _=>False)
  (hCX:∀H e s',CX [] H s₁ (λ_ _ _=>False) e s'->False) :
  tM (aZ P w) yD (.call (.ref fa) ⟨[.ref a],[]⟩) (λr s'=>r = .ok (.ret<|.bool aB)/\OldK s₁.heap s'.heap/\s'.os=s₁.os/\vL s'.gens) s₁:=by
 have rv:=HR hi;have lenV:=hi.length;have core:∀H:Hp,wg H->dH K H a (ns.map V.int)->fA P w H s₁.heap->(∀b,H b≠aD->b=a)->(H a≠aD->K.lookup a=aD) ->
   tM (aZ P w) yD (.call (.ref fa) ⟨[.ref a],[]⟩) (λr s'=>r = .ok (.ret<|.bool aB)/\OldK s₁.heap s'.heap/\s'.os=s₁.os/\vL s'.gens) s₁:=by
  intro H hO hS bA hA hK;have base_of:∀{b:Addr}{o:Obj},s₁.heap.get? b=aA o->H b=aD->(uK s₁.heap H).get? b=aA o:=λe n=>A6 e n;have noA:∀{b:Addr}{o:Obj}{es:Array DictEntry}{ep:Nat},s₁.heap.get? b=aA o->o.data = .dict es ep->H b=aD:=λ{b o es ep} e d=>by
   cases q:H b with
   |none=>rfl|some u=>have e':b=a:=hA b (by rw[q];simp);subst e';rw[ha]at e;cases e;have d':Data.seq vs.toArray _=Data.dict es ep:=d;cases d'
  have nsK:∀{b:Addr}{m:Str->Xl},s₁.heap.Ns b m->(uK s₁.heap H).Ns b m:=λ{b m} ⟨o,es,ep,e,d,r⟩=>⟨o,es,ep,base_of e (noA e d),d,r⟩;have hKb:K.In (uK s₁.heap H):=λb o e=>base_of (KX b o e) (by
   cases q:H b with
   |none=>rfl|some u=>have e':b=a:=hA b (by rw[q];simp);subst e';rw[hK (by rw[q];simp)]at e;cases e)
  have hM:Mod K mg (uK s₁.heap H):=⟨hKb,nsK hns,⟨mb,nsK hb,hbb⟩,let ⟨mc,h1,h2⟩:=B0;⟨mc,nsK h1,h2⟩⟩;have e0:yI P w K mg (uK s₁.heap H) yD [] s₁ H:=⟨rfl,hM,λb o e=>P6 e,LM (A7 _ _),trivial,λb hb=>absurd (show b∈([]:Xk) from hb) (by simp),bA,.of_eq hg⟩;refine vk ((F _ hKb<|nsK hns).run yD [] s₁ H ⟨[.ref a],[]⟩ [.ref a] [.ref a] _ _ hr e0 (A1 s₁<|.ref a) (.cons rfl .nil) (hsp H hO hS)) λr s' h=>?_;cases r with
  |error e=>exact(hCX H e s' h).elim|ok fl=>
   cases fl with
   |next=>exact lP h|brk=>exact lP h|cont=>exact lP h|ret u=>
    obtain⟨v,H',os,bare,un,hok',r',q⟩:=h;have q':v = .bl aB:=q;subst q';obtain rfl:u=yA aB:=r';refine⟨rfl,OldK.of_keep λb o e=>?_,os,bare⟩;cases q:H b with
    |none=>exact un.keep b o e q (by intro z;exact absurd (show b∈([]:Xk) from z) (by simp)) (by simp)|some u=>
     rcases hO b with z|⟨ob,xs,z⟩
     .rw[q]at z;cases z
     .have z2:=un.qX b ob _ z;obtain⟨e1,_⟩:=bA b _ z;obtain⟨e2,_⟩:=hok' b _ z2;rw[e]at e1;cases e1;exact e2
 cases hk:K.lookup a with
 |some o=>have e:=KX a o hk;rw[ha]at e;cases e;refine core (λ_=>aD) (λ_=>.inl rfl) (.inr ⟨_,vs.toArray,_,hk,rfl,rfl,rfl,by rw[hU,lenV];exact hl,by simpa using rv⟩) (λb u z=>by have z':(aD:Option HO)=aA u:=z;cases z') (λb z=>absurd rfl z) λz=>absurd rfl z
 |none=>
  refine core (λb=>if b=a then aA (.dC { cls:=.type "list",data:=.seq vs.toArray } (.lst<|ns.map V.int)) else aD) (λb=>?_) (.inl<|.inr ⟨{ cls:=.type "list",data:=.seq vs.toArray },if_pos rfl⟩) (λb u z=>?_) (λb z=>?_) λ_=>hk
  .by_cases hb:b=a
   .exact .inr ⟨_,_,if_pos hb⟩
   .exact .inl<|if_neg hb
  .by_cases hb:b=a
   .have z':=(if_pos hb).symm.trans z;cases z';subst hb;exact⟨ha,by rw[aU];exact hl,vs,_,rv,ha⟩
   .have z':=(if_neg hb).symm.trans z;cases z'
  .by_cases hb:b=a
   .exact hb
   .exact absurd (if_neg hb) z
theorem aNy{l:Ri}{n k:Nat}{q:cC}{loose:Xo}{XP:(Str->Xl)->bH->Prop}{YP:bV->bH->Prop}{d:DefRec}{K:bU->bI}{CX:bV->nU}{sp:bV->Sp}
  (hn:l.most=aA n)(hn2:n<=sizeLine)(hdf:d.params.defaults=[])(hr:fK k yD)
  (hY:∀(w:bV) (h:bH),YP w h->(K w.params).In h)
  (F:∀(w:bV) (mg:Str->Xl) (fa:Addr) (h:bH),(K w.params).In h->h.Ns iK mg->mg d.name=aA (.ref fa) ->
   ∃fd:eW,(∀(s:aI) (u:Value),jw s fd ⟨[u],[]⟩ [(x,u)]) /\
    ∀base:bH,(K w.params).In base->base.Ns iK mg->iN l.prog w (K w.params) mg base (CX w) k fa fd [x] (sp w))
  (hsp:∀(w:bV) (H:Hp) (a:Addr) (ns:Xj),ns.length<=n->wg H->dH (K w.params) H a (ns.map V.int)->sp w [.ref a] H (λv _=>v = .bl aB) λ_ _ _=>False)
  (hCX:∀(w:bV) (H:Hp) (s:aI) (e:Value) (s':aI),CX w [] H s (λ_ _ _=>False) e s'->False) :
  MS q loose XP YP l.row.toRowW d [] (λf vs=>Ry f vs):=by
 refine Att.ON hn hdf λw s₀ s₁ mg mb fa o pm cd doc a vs ns G Y ho hd hcd hmg Ik hints hlen hg=>?_;have KX:=hY w _ Y;obtain⟨fd,hb,hF⟩:=F w mg fa _ KX G.T.g hmg;exact H9 KX G.T.g G.T.b G.T.builtins G.T.nolimit hg Ik hints (dF hlen hn2) hr hF hb (λH hO hS=>hsp w H a ns hlen hO hS) λH e s'=>hCX w H s₁ e s'
def xr(s:Stmt):Pe:=match s with
 |.FunctionDef _ a _ _ _ _ _ _ _ _=>a
 |_=>{ posonlyargs:=[],args:=[],vararg:=aD,kwonlyargs:=[],kw_defaults:=[],kwarg:=aD,defaults:=[] }
def fz(s:Stmt):Xm:=match s with
 |.FunctionDef _ _ b _ _ _ _ _ _ _=>b
 |_=>[]
def qD(s:Stmt):gJ:=match s with
 |.FunctionDef _ _ _ _ _ _ sc _ _ _=>sc
 |_=>{ kind:=.function,names:=[],isGenerator:=aG,isCoroutine:=aG }
abbrev E0:XK:=λ_ _ _=>False
section
variable {κ:Type} [DecidableEq κ]
def fP(kvs:List (κ×V))(k:κ):Option V:=(kvs.find? λkv=>decide (kv.1=k)).map (·.2)
def putK(kvs:List (κ×V))(k:κ)(v:V):List (κ×V):=
 if(kvs.any λkv=>decide (kv.1=k))=aB then kvs.map (λkv=>if kv.1=k then(kv.1,v) else kv) else kvs++[(k,v)]
def sD(kvs:List (κ×V))(k:κ):List (κ×V):=kvs.filter λkv=>decide (kv.1≠k)
theorem Nz{p:κ×V}{r:List (κ×V)}{k:κ}(e:p.1=k):fP (p::r) k=aA p.2:=by simp[fP,e]
theorem Ny{p:κ×V}{r:List (κ×V)}{k:κ}(e:¬p.1=k):fP (p::r) k=fP r k:=by simp[fP,e]
theorem HQ(k:κ):∀kvs:List (κ×V),(kvs.any λkv=>decide (kv.1=k))=(fP kvs k).isSome
 |[]=>rfl|p::r=>by
  rw[rR];by_cases e:p.1=k
  .simp only[Nz e,decide_eq_true e,Bool.true_or,Option.isSome_some]
  .rw[Ny e,decide_eq_false e];exact HQ k r
theorem Jh(kvs:List (κ×V))(k:κ)(v:V):(putK kvs k v).length<=kvs.length+1:=by
 unfold putK;split
 .rw[aU];omega
 .rw[dO,iB,Qd];omega
theorem iE.qk{u:Xl}(r:iE o u):o.isSome=u.isSome:=by
 cases o with
 |none=>cases u with
  |none=>rfl|some _=>exact(r).elim
 |some _=>cases u with
  |none=>exact(r).elim|some _=>rfl
theorem iE.getD{o:Option V}{u:Xl}{d:V}{d':Value}(r:iE o u)(rd:RelV d d'):RelV (o.getD d) (u.getD d'):=by
 cases o with
 |none=>cases u with
  |none=>exact rd|some _=>exact(r).elim
 |some _=>cases u with
  |none=>exact(r).elim|some _=>exact r
theorem KV.val{kvs:List (κ×V)}{vs:List (κ×Value)}(r:KV kvs vs)(k:κ):iE (fP kvs k) (yG vs k):=by
 induction r with
 |nil=>exact oS|@cons p q ps qs h t ih=>
  obtain⟨h1,h2⟩:=h;by_cases e:p.1=k
  .have e':q.1=k:=h1.symm.trans e;have b:yG (q::qs) k=aA q.2:=by simp[yG,e']
   rw[Nz e,b];exact h2
  .have e':¬q.1=k:=λz=>e (h1.trans z);have b:yG (q::qs) k=yG qs k:=by simp[yG,e']
   rw[Ny e,b];exact ih
theorem KV.any{kvs:List (κ×V)}{vs:List (κ×Value)}(r:KV kvs vs)(k:κ):(kvs.any λkv=>decide (kv.1=k))=vs.any λkv=>decide (kv.1=k):=by
 induction r with
 |nil=>rfl|cons h t ih=>rw[rR,rR,ih,h.1]
theorem KV.Mr{kvs:List (κ×V)}{vs:List (κ×Value)}(r:KV kvs vs)(k:κ)(ry:RelV y u) :
  KV (kvs.map λkv=>if kv.1=k then(kv.1,y) else kv) (vs.map λkv=>if kv.1=k then(kv.1,u) else kv):=by
 induction r with
 |nil=>exact .nil|@cons p q ps qs h t ih=>
  rw[jC,jC];refine .cons ?_ ih;obtain⟨h1,h2⟩:=h;by_cases e:p.1=k
  .rw[if_pos e,if_pos (h1.symm.trans e)];exact⟨h1,ry⟩
  .rw[if_neg e,if_neg (λz=>e (h1.trans z))];exact⟨h1,h2⟩
theorem KV.put{kvs:List (κ×V)}{vs:List (κ×Value)}(r:KV kvs vs)(k:κ)(ry:RelV y u):KV (putK kvs k y) (stored vs k u):=by
 unfold putK stored;rw[r.any k];by_cases e:(vs.any λkv=>decide (kv.1=k))=aB
 .rw[if_pos e,if_pos e];exact r.Mr k ry
 .rw[if_neg e,if_neg e];exact Paired.snoc r ⟨rfl,ry⟩
theorem KV.drop{kvs:List (κ×V)}{vs:List (κ×Value)}(r:KV kvs vs)(k:κ):KV (sD kvs k) (without vs k):=by
 unfold sD without;induction r with
 |nil=>exact .nil|@cons p q ps qs h t ih=>
  obtain⟨h1,h2⟩:=h;rw[jA,jA];by_cases e:p.1=k
  .have a:¬decide (p.1≠k)=aB:=by simp[e]
   have b:¬decide (q.1≠k)=aB:=by simp[h1.symm.trans e]
   rw[if_neg a,if_neg b];exact ih
  .have e':¬q.1=k:=λz=>e (h1.trans z);have a:decide (p.1≠k)=aB:=by simp[e]
   have b:decide (q.1≠k)=aB:=by simp[e']
   rw[if_pos a,if_pos b];exact .cons ⟨h1,h2⟩ ih
theorem KV.length{kvs:List (κ×V)}{vs:List (κ×Value)}(r:KV kvs vs):kvs.length=vs.length:=Du r
theorem XU(kvs:List (κ×V))(k:κ):(sD kvs k).length<=kvs.length:=pN _ _
end
theorem sM{k:aP}(r:RelV (kV k) u):(gK P w).is k u=aB:=by
 cases k with
 |inl i=>obtain⟨t,e⟩:=(r);subst e;exact M1 P w i t|inr x=>obtain⟨t,e⟩:=(r);subst e;exact M3 P w x t
theorem AD{P:cC}{w:bV}:∀{ks:List aP}{us:He},Vals (ks.map kV) us->ItemsAre (gK P w) ks us
 |[],_,r=>by cases r;exact .nil
 |k::ks,_,r=>by
  cases r with
  |cons h t=>exact .cons (sM h)<|AD t
abbrev KT(H:Hp):List (List aP×V)->List (List aP×Addr×Value)->Prop:=ko λp q=>p.1=q.1/\H q.2.1=aA (.tup<|p.1.map kV)/\RelV p.2 q.2.2
theorem KT.val(r:KT H kvs xs)(k:List aP):iE (fP kvs k) ((yB xs k).map (·.2)):=by
 induction r with
 |nil=>exact oS|@cons p q ps qs h t ih=>
  obtain⟨h1,_,h2⟩:=h;by_cases e:p.1=k
  .have e':q.1=k:=h1.symm.trans e;have b:yB (q::qs) k=aA q.2:=by simp[yB,e']
   rw[Nz e,b];exact h2
  .have e':¬q.1=k:=λz=>e (h1.trans z);have b:yB (q::qs) k=yB qs k:=by simp[yB,e']
   rw[Ny e,b];exact ih
theorem KT.Mr(r:KT H kvs xs)(k:List aP)(ry:RelV y u) :
  KT H (kvs.map λkv=>if kv.1=k then(kv.1,y) else kv) (xs.map<|putAt k u):=by
 induction r with
 |nil=>exact .nil|@cons p q ps qs h t ih=>
  rw[jC];refine .cons ?_ ih;obtain⟨h1,h2,h3⟩:=h;unfold putAt;by_cases e:p.1=k
  .rw[if_pos e,if_pos (h1.symm.trans e)];exact⟨h1,h2,ry⟩
  .rw[if_neg e,if_neg (λz=>e (h1.trans z))];exact⟨h1,h2,h3⟩
theorem KT.put(r:KT H kvs xs)(k:List aP){b:Addr}(hb:H b=aA (.tup<|k.map kV))(ry:RelV y u) :
  KT H (putK kvs k y) (storedH xs k b u):=by
 have e:(kvs.any λkv=>decide (kv.1=k))=(yB xs k).isSome:=by rw[HQ,(r.val k).qk,Qv]
 unfold putK storedH;rw[e];by_cases q:(yB xs k).isSome=aB
 .rw[if_pos q,if_pos q];exact r.Mr k ry
 .rw[if_neg q,if_neg q];exact Paired.snoc r ⟨rfl,hb,ry⟩
theorem KT.keeps(r:KT H kvs xs)(ht:∀b ys,H b=aA (.tup ys)->H' b=aA (.tup ys)):KT H' kvs xs:=
 Paired.Jq r λ_ _ z=>⟨z.1,ht _ _ z.2.1,z.2.2⟩
section
variable {h:bH}
theorem FH{u:HO}(ok:fA P w H h)(e:Rd H a u):hV P w H h a u:=e.ok ok
theorem yX{kvs:List (aP×V)}(ok:fA P w H h)(e:Rd H a (.dK kvs)):kvs.length<=sizeLine/\(a==tP)=aG/\∃vs,KV kvs vs/\h.DictOf (gK P w) a vs:=
 show hV P w H h a (.dK kvs) from FH ok e
theorem xt{kvs:List (aP×V)}(ok:fA P w H h)(e:H a=aA (.dK kvs)):kvs.length<=sizeLine/\(a==tP)=aG/\∃vs,KV kvs vs/\h.DictOf (gK P w) a vs:=yX ok (.inl e)
theorem zW{ks:List aP}(ok:fA P w H h)(e:H a=aA (.tup<|ks.map kV)):(dg<|gK P w).is h ks a:=by obtain⟨_,its,r,o,h1,h2,n,h3⟩:=(show hV P w H h a (.tup<|ks.map kV) from ok a _ e);exact⟨o,its.toArray,n,h1,h2,h3,by simpa using AD r⟩
theorem yY(ok:fA P w H h)(e:Rd H a (.dT kvs)):kvs.length<=sizeLine/\(a==tP)=aG /\
  ∃xs,KT H kvs xs/\h.DictOfH (dg<|gK P w) a xs:=by
 obtain⟨z,y,xs,r,o,es,ep,h1,h2,h3,h4,h5⟩:=(show hV P w H h a (.dT kvs) from FH ok e);refine⟨z,y,xs,r,o,es,ep,h1,h2,h3,h4,λx hx=>?_,h5⟩;have all:∀{l:List (List aP×V)}{m:List (List aP×Addr×Value)},KT H l m->∀x∈m,(dg<|gK P w).is h x.1 x.2.1:=by
  intro l m q;induction q with
  |nil=>intro x hx;exact nomatch hx|@cons p q ps qs hq t ih=>
   intro x hx;rcases List.mem_cons.mp hx with e|hx
   .subst e;exact zW ok<|hq.1▸hq.2.1
   .exact ih x hx
 exact all r x hx
theorem XW(ok:fA P w H h)(e:H a=aA (.dT kvs)):kvs.length<=sizeLine/\(a==tP)=aG /\
 ∃xs,KT H kvs xs/\h.DictOfH (dg<|gK P w) a xs:=yY ok (.inl e)
end
def lS(H:Hp)(a:Addr)(y:V)(r:Option V):Prop:=
 (∃kvs k,Rd H a (.dK kvs)/\y=kV k/\r=fP kvs k)\/∃kvs k b,Rd H a (.dT kvs)/\y = .ref b/\H b=aA (.tup<|k.map kV)/\r=fP kvs k
def mj(H:Hp)(a:Addr)(y v:V)(H':Hp):Prop:=
 (∃kvs k,H a=aA (.dK kvs)/\y=kV k/\kvs.length<sizeLine/\H'=bF H a (.dK<|putK kvs k v)) \/
 ∃kvs k b,H a=aA (.dT kvs)/\y = .ref b/\H b=aA (.tup<|k.map kV)/\kvs.length<sizeLine/\H'=bF H a (.dT<|putK kvs k v)
theorem lS.k{H:Hp}{a:Addr}{kvs:List (aP×V)}{k:aP}(e:H a=aA (.dK kvs)):lS H a (kV k) (fP kvs k):=.inl ⟨kvs,k,.inl e,rfl,rfl⟩
theorem mj.k{H:Hp}{a:Addr}{kvs:List (aP×V)}{k:aP}{v:V}(e:H a=aA (.dK kvs))(hl:kvs.length<sizeLine):mj H a (kV k) v (bF H a<|.dK<|putK kvs k v):=.inl ⟨kvs,k,e,rfl,hl,rfl⟩
theorem Inv.big(I:Inv X pins Z H s):tP<s.heap.objs.size:=by have h:iK<s.heap.objs.size:=(I.mod.glob.keeps I.bk).lt;exact Nat.lt_trans (by decide) h
theorem WW(hu:A.units+1<cLine)(I:Inv X pins Z H s)(g:lS H a y (aA v))(ry:RelV y u)(h:∀w' s',Inv X pins Z H s'->RelV v w'->Q w' s') :
  aS (aZ X.prog X.w) A (cy (.ref a) u) Q E s:=by
 rcases g with⟨kvs,k,e,ey,l⟩|⟨kvs,k,b,e,ey,eb,l⟩
 .subst ey;obtain⟨z,hd,vs,rel,dd⟩:=yX I.bA e;obtain⟨w',hw,rw'⟩:=iE.some_of (by rw[l];exact rel.val k);exact wpAny_getItem_of (sM ry) dd.mapOf hw<|h w' _ (I.tok _) rw'
 .subst ey;cases(ry);obtain⟨z,hd,xs,rel,dd⟩:=yY I.bA e;obtain⟨w',hw,rw'⟩:=iE.some_of (by rw[l];exact rel.val k);obtain⟨p,hp,hp2⟩:=Option.map_eq_some_iff.mp hw;refine wpAny_getItem_heap (lu hu) (zW I.bA eb) dd hp ?_;rw[hp2];exact h w' _ (I.tok _) rw'
theorem WX(hu:A.units+1<cLine)(I:Inv X pins Z H s)(g:lS H a y o)(ry:RelV y u)(h:∀s',Inv X pins Z H s'->Q (.bool o.isSome) s') :
  aS (aZ X.prog X.w) A (dG .In u<|.ref a) Q E s:=by
 rcases g with⟨kvs,k,e,ey,l⟩|⟨kvs,k,b,e,ey,eb,l⟩
 .subst ey;obtain⟨z,hd,vs,rel,dd⟩:=yX I.bA e;refine wpAny_in_of (sM ry) hd dd.mapOf ?_;rw[<- (rel.val k).qk,<- l];exact h _<|I.tok _
 .subst ey;cases(ry);obtain⟨z,hd,xs,rel,dd⟩:=yY I.bA e;refine wpAny_in_heap (lu hu) (zW I.bA eb) hd dd ?_;have q:=(rel.val k).qk;rw[Qv]at q;rw[<- q,<- l];exact h _<|I.tok _
theorem WY(hu:A.units+1<cLine)(I:Inv X pins Z H s)(g:lS H a y o)(ry:RelV y u)(h:∀s',Inv X pins Z H s'->Q (.bool<|!o.isSome) s') :
  aS (aZ X.prog X.w) A (dG .NotIn u<|.ref a) Q E s:=by
 rcases g with⟨kvs,k,e,ey,l⟩|⟨kvs,k,b,e,ey,eb,l⟩
 .subst ey;obtain⟨z,hd,vs,rel,dd⟩:=yX I.bA e;refine wpAny_notIn_of (sM ry) hd dd.mapOf ?_;rw[<- (rel.val k).qk,<- l];exact h _<|I.tok _
 .subst ey;cases(ry);obtain⟨z,hd,xs,rel,dd⟩:=yY I.bA e;refine wpAny_notIn_heap (lu hu) (zW I.bA eb) hd dd ?_;have q:=(rel.val k).qk;rw[Qv]at q;rw[<- q,<- l];exact h _<|I.tok _
theorem xp{t':Nat}{ob:HO}(I:Inv X pins Z H s)(mu:ee (H a))(hs:xR a s.heap h')(he:∃q,h'.get? a=aA q)(new:hV X.prog X.w (bF H a ob) h' a ob) :
  Inv X pins Z (bF H a ob) { s with heap:=h',toks:=t' }:=
 I.write mu (.inl rfl) (λb q hb z=>(hs.2 b hb).trans z) he new
theorem Gr{kvs:List (aP×V)}{vs:List (aP×Value)}(z:kvs.length<=sizeLine)(hd:(a==tP)=aG)(rel:KV kvs vs)(dd:h'.DictOf (gK P w) a vs) :
 hV P w H' h' a (.dK kvs):=⟨z,hd,vs,rel,dd⟩
theorem XA{Q:Unit->aI->Prop}(hu:A.units+1<cLine)(I:Inv X pins Z H s)(g:mj H a y v H')(ry:RelV y u)(rv:RelV v r)(h:∀s',Inv X pins Z H' s'->Q () s') :
  aS (aZ X.prog X.w) A (setItem (.ref a) u r) Q E s:=by
 rcases g with⟨kvs,k,e,ey,l,eH⟩|⟨kvs,k,b,e,ey,eb,l,eH⟩
 .subst ey eH;obtain⟨z,hd,vs,rel,dd⟩:=xt I.bA e;have hz:vs.length<=sizeLine:=rel.length▸z;have hl:(putK kvs k v).length<=sizeLine:=by have:=Jh kvs k v;omega
  refine wpAny_setItem_pairs (hsz:=hz) (sM ry) dd λh' dd' hs=>h _ ?_;have he:∃q,h'.get? a=aA q:=let ⟨q,_,_,hq,_⟩:=dd';⟨q,hq⟩;exact xp I (e▸oS) hs he<|Gr hl hd (rel.put k rv) dd'
 .subst ey eH;cases(ry);obtain⟨z,hd,xs,rel,dd⟩:=XW I.bA e;have hz:xs.length<=sizeLine:=by rw[<- Du rel];exact z
  have hl:(putK kvs k v).length<=sizeLine:=by have:=Jh kvs k v;omega
  refine wpAny_setItem_heap (hsz:=hz) (lu hu) (zW I.bA eb) dd λh' dd' hs=>h _ ?_;obtain⟨q,es,ep,hq,h2,h3,h4,_,h5⟩:=dd';refine xp I (e▸oS) hs ⟨q,hq⟩ ⟨hl,hd,_,(rel.put k eb rv).keeps λc ys ec=>?_,q,es,ep,hq,h2,h3,h4,h5⟩;rw[bZ (rJ ec e<|nofun)];exact ec
section
variable {kvs:List (aP×V)}{k:aP}
theorem Wm{more:He}(I:Inv X pins Z H s)(e:H a=aA (.dK kvs))(ry:RelV (kV k) u)(l:fP kvs k=aA v)(hm:more=[]\/∃x,more=[x])
  (h:∀w' s',Inv X pins Z (bF H a<|.dK<|sD kvs k) s'->RelV v w'->Q w' s'):aS (aZ X.prog X.w) A (call (.builtin "dict.pop")<|.ref a::u::more) Q E s:=by
 obtain⟨z,hd,vs,rel,dd⟩:=xt I.bA e;obtain⟨w',hw,rw'⟩:=iE.some_of (by rw[<- l];exact rel.val k);have hp:(keyPart u).isSome=aB:=by
  cases k with
  |inl i=>obtain⟨t,q⟩:=(ry);subst q;rfl|inr x=>obtain⟨t,q⟩:=(ry);subst q;rfl
 have ha:argsOk "dict.pop" ⟨.ref a::u::more,[]⟩:=by
  rcases hm with q|⟨x,q⟩
  .subst q;exact aSy _ _
  .subst q;exact MJ _ _ _
 refine cx Rb dd.typeIs MK ha (meets_dict_pop_there (gK X.prog X.w) a (sM ry) more hm hp)
  ⟨vs,w',dd,rel.length▸z,hw,λh' dd' hs=>h w' _ ?_ rw'⟩
 have he:∃q,h'.get? a=aA q:=let ⟨q,_,_,hq,_⟩:=dd';⟨q,hq⟩;exact xp I (e▸oS) hs he<|Gr (dF (XU kvs k) z) hd (rel.drop k) dd'
theorem WZ(I:Inv X pins Z H s)(e:H a=aA (.dK kvs))(ry:RelV (kV k) u)(l:fP kvs k=aD)(h:∀s',Inv X pins Z H s'->Q r s') :
  aS (aZ X.prog X.w) A (call (.builtin "dict.pop") [.ref a,u,r]) Q E s:=by
 obtain⟨z,hd,vs,rel,dd⟩:=xt I.bA e;have hn:yG vs k=aD:=iE.none_of (by rw[<- l];exact rel.val k);have hp:(keyPart u).isSome=aB:=by
  cases k with
  |inl i=>obtain⟨t,q⟩:=(ry);subst q;rfl|inr x=>obtain⟨t,q⟩:=(ry);subst q;rfl
 exact cx Rb dd.typeIs MK (MJ _ _ _) (meets_dict_pop_default (gK X.prog X.w) a (sM ry) hd hp r) ⟨vs,dd,hn,h _ (I.tok _)⟩
end
theorem XF(I:Inv X pins Z H s)(g:lS H a y o):s.TypeIs (.ref a) "dict":=by
 rcases g with⟨kvs,k,e,_,_⟩|⟨kvs,k,b,e,_,_,_⟩
 .obtain⟨_,_,vs,_,dd⟩:=yX I.bA e;exact dd.typeIs
 .obtain⟨_,_,xs,_,dd⟩:=yY I.bA e;exact dd.typeIs
theorem XH(h:bH)(hb:tP<h.objs.size):hV P w H (h.push { cls:=.type "dict",data:=.dict #[] }) h.objs.size (.dK []):=
 ⟨jZ _,beq_eq_false_iff_ne.mpr (mK<|cA hb),[],.nil,Heap.DictOf.new h⟩
def aLj:TE:=λ_ H Q=>∀p,H p=aD->Q (.ref p) (bF H p<|.dK [])
theorem Y2:PE X (.Dict [] [] pos) aLj:=λpins s Z H Q I h=>wpAny_Dict_empty ⟨.ref s.heap.objs.size,_,I.laid (λ_ _ q=>cT _ q) (aV _) (XH s.heap I.big),rfl,h _ (I.bA.fresh<|aV _)⟩
section
variable {d:V}
theorem WU(hu:A.units+1<cLine)(I:Inv X pins Z H s)(g:lS H a y o)(ry:RelV y u)(h:∀w' s',Inv X pins Z H s'->RelV (o.getD .aH) w'->Q w' s') :
  aS (aZ X.prog X.w) A (call (.builtin "dict.get") [.ref a,u]) Q E s:=by
 rcases g with⟨kvs,k,e,ey,l⟩|⟨kvs,k,b,e,ey,eb,l⟩
 .subst ey;obtain⟨z,hd,vs,rel,dd⟩:=yX I.bA e;refine cx ku dd.typeIs Dx (MG _ _) (meets_dict_get (gK X.prog X.w) a (sM ry) hd) ⟨_,dd.mapOf,h _ _ (I.tok _) ?_⟩;rw[l];exact(rel.val k).getD rfl
 .subst ey;cases(show u=lB b from ry);obtain⟨z,hd,xs,rel,dd⟩:=yY I.bA e;refine cx ku dd.typeIs Dx (MG _ _) (meetsH_dict_get (dg<|gK X.prog X.w) a b hd) ⟨lu hu,k,xs,zW I.bA eb,dd,h _ _ (I.tok _) ?_⟩;rw[l];exact(rel.val k).getD rfl
theorem WV(hu:A.units+1<cLine)(I:Inv X pins Z H s)(g:lS H a y o)(ry:RelV y u)(rd:RelV d r)(h:∀w' s',Inv X pins Z H s'->RelV (o.getD d) w'->Q w' s') :
  aS (aZ X.prog X.w) A (call (.builtin "dict.get") [.ref a,u,r]) Q E s:=by
 rcases g with⟨kvs,k,e,ey,l⟩|⟨kvs,k,b,e,ey,eb,l⟩
 .subst ey;obtain⟨z,hd,vs,rel,dd⟩:=yX I.bA e;refine cx ku dd.typeIs Dx (MH _ _ _) (meets_dict_get_default (gK X.prog X.w) a (sM ry) hd r) ⟨_,dd.mapOf,h _ _ (I.tok _) ?_⟩;rw[l];exact(rel.val k).getD rd
 .subst ey;cases(ry);obtain⟨z,hd,xs,rel,dd⟩:=yY I.bA e;refine cx ku dd.typeIs Dx (MH _ _ _) (meetsH_dict_get_default (dg<|gK X.prog X.w) a b hd r) ⟨lu hu,k,xs,zW I.bA eb,dd,h _ _ (I.tok _) ?_⟩;rw[l];exact(rel.val k).getD rd
end
inductive kP(P:cC)(w:bV)(outer:YG)(H:Hp)(s:aI)(E:XK)(e:Value)(s':aI):Prop
theorem oj{s':aI}{e:Value}(h:kP P w outer H s (λ_ _ _=>False) e s'):False:=nomatch h
theorem An{K:bI}{base:bH}{N:Xo}{qual:Str}{f:Addr}{cd:Value}{E:XK} :
 rZ (kP P w) (wN (kP P w) P w K mg base N qual scope f cd A outer s H E) E:=λ_ _ _ _ _ _ _ h=>nomatch h
def Tv(CX:nU)(X:Cx)(EE:St->XK):Prop:=∀(pins:Hf) (Z:St) (H:Hp) (s:aI) (e:Value) (s':aI),Inv X pins Z H s->CX X.stack H s (EE Z) e s'->X.xe e s'
section
variable {k:Nat}{f:Addr}{ps:Xo}{EE:St->XK}{p:Pos}{e:aK}{es:List aK}{t:TA}
theorem FT{Q:VK}{vs:Hg}(F:iN X.prog X.w X.K X.mg X.base CX k f fd ps sp)(hr:fK k X.A)(hb:Binds X.K fd ps [])(hx:Tv CX X EE)
  (I:Inv X pins Z H s)(r:Vals vs us)(h:sp vs H Q (EE Z)):aS (aZ X.prog X.w) X.A (call (.ref f) us) (EP X pins Z Q) X.xe s:=by
 have hl:(us++[]).length=ps.length:=by rw[rS,<- r.length];exact F.len _ _ _ _ h
 have a:=hb s us I.fM hl;rw[rS]at a;refine vo<|vk (F.run X.A X.stack s H ⟨us,[]⟩ us vs Q (EE Z) hr I.Ha a r h) λr c b=>?_;cases r with
 |error e=>exact hx pins Z H s e c I b|ok fl=>
  cases fl with
  |ret u=>exact I.after b|next=>exact lP b|brk=>exact lP b|cont=>exact lP b
end
def qC(cells:Xy)(x:Str×tK)(cs:Xy):Xy:=if(x.2==jE)=aB then(match cells.lookup x.1 with
 |some c=>(x.1,c)::cs
 |none=>cs) else cs
def wJ(scope:gJ)(env:Env):Xy:=scope.names.foldl (λcs x=>qC env.cells x cs) []
theorem Yk{α β:Type}{st:α->β->β}:∀{l:List α}{f:α->β->Sem (ForInStep β)} (c:β),(∀x∈l,∀c,f x c=pure (.yield<|st x c))->forIn l c f=pure (l.foldl (λc x=>st x c) c)
 |[],f,c,h=>rfl|x::l,f,c,h=>by rw[Pz,h x fV];exact Yk (st x c) λy a=>h y (jD _ a)
theorem VZ{env:Env}(h:∀x∈scope.names,x.2 = .free->∃c,env.cells.lookup x.1=aA c):Si scope env=pure (wJ scope env):=by
 simp only[Si];rw[Yk (st:=qC env.cells) [] (λx d c=>by
  obtain⟨n,kind⟩:=x;by_cases b:kind = .free
  .obtain⟨a,ha⟩:=h _ d b;subst b;simp[qC,cellOf,ha]
  .have:(kind==jE)=aG:=by simpa
   simp[qC,this])]
 rfl
theorem Vs{cells:Xy}:∀(l:List (Str×tK)) (cs:Xy),(∀x c,cs.lookup x=aA c->cells.lookup x=aA c)->∀x c,(l.foldl (λcs x=>qC cells x cs) cs).lookup x=aA c->cells.lookup x=aA c
 |[],cs,h=>h
 |y::l,cs,h=>Vs l _ (by
  intro x c e;change (qC cells y cs).lookup x=aA c at e;unfold qC at e;split at e
  .split at e
   .rename_i b a;rw[jB]at e;split at e
    .rename_i q;have:=eq_of_beq q;subst this;rw[a];exact e
    .exact h x c e
   .exact h x c e
  .exact h x c e)
theorem Vr{cells:Xy}:∀(l:List (Str×tK)) (cs:Xy) (x:Str),((∃c,cs.lookup x=aA c)\/((x,jE)∈l/\∃c,cells.lookup x=aA c))->∃c,(l.foldl (λcs x=>qC cells x cs) cs).lookup x=aA c
 |[],cs,x,h=>by
  rcases h with h|⟨h,_⟩
  .exact h
  .cases h
 |y::l,cs,x,h=>by
  refine Vr l _ x ?_;rcases h with⟨c,e⟩|⟨hm,c,e⟩
  .left;change ∃c,(qC cells y cs).lookup x=aA c;unfold qC;split
   .split
    .rename_i a _;rw[jB];split
     .exact⟨a,rfl⟩
     .exact⟨c,e⟩
    .exact⟨c,e⟩
   .exact⟨c,e⟩
  .rcases List.mem_cons.mp hm with q|q
   .left;subst q;simp[qC,e]
   .exact .inr ⟨q,c,e⟩
theorem BL{env:Env}(hk:env.scope.kind = .function):∀{names:List (Str×tK)}{x:Str},names.lookup x=aA .free->env.kindOf x=aA .cell ->
  (names.map λ(n,k)=>if(k==jE&&env.scope.kind == .function&&env.kindOf n==aA .cell) then(n,kj) else(n,k)).lookup x=aA .cell
 |[],_,h,_=>by simp at h
 | (n,k)::r,x,h,b=>by
  have c:=@BL env hk r x;show tI x ((if(k==jE&&env.scope.kind == .function&&env.kindOf n==aA .cell)=aB then(n,kj) else(n,k))::_)=_;cases a:x==n with
  |true=>simp only[jB,a]at h;cases h;have:=eq_of_beq a;subst this;simp[hk,b]
  |false=>
   simp only[jB,a]at h;by_cases d:(k==jE&&env.scope.kind == .function&&env.kindOf n==aA .cell)=aB
   .rw[if_pos d];simp only[jB,a];exact c h b
   .rw[if_neg d];simp only[jB,a];exact c h b
theorem Jm{env:Env}:∀{names:List (Str×tK)}{x:Str}{k:tK},(∀y∈names,y.2 ≠ .cell) ->
  (names.map λ(n,k)=>if(k==jE&&env.scope.kind == .function&&env.kindOf n==aA .cell) then(n,kj) else(n,k)).lookup x=aA k->k = .cell\/k = .free->(x,jE)∈names
 |[],_,_,_,h,_=>by simp at h
 | (n,k)::r,x,d,hn,h,hk=>by
  have f:=@Jm env r x d λy g=>hn y (jD _ g);have a:tI x ((if(k==jE&&env.scope.kind == .function&&env.kindOf n==aA .cell)=aB then(n,kj) else(n,k))::(r.map λ(n,k)=>if(k==jE&&env.scope.kind == .function&&env.kindOf n==aA .cell) then(n,kj) else(n,k)))=aA d:=h;cases c:x==n with
  |true=>
   have e:=eq_of_beq c;subst e;by_cases b:(k==jE&&env.scope.kind == .function&&env.kindOf x==aA .cell)=aB
   .have:k = .free:=by simp only[bS]at b;exact eq_of_beq b.1.1
    subst this;exact fV
   .rw[if_neg b]at a;simp only[jB,c]at a;cases a;rcases hk with hk|hk
    .exact absurd hk<|hn _ fV
    .have hk:=hk;subst hk;exact fV
  |false=>
   have i:(r.map λ(n,k)=>if(k==jE&&env.scope.kind == .function&&env.kindOf n==aA .cell) then(n,kj) else(n,k)).lookup x=aA d:=by
    by_cases b:(k==jE&&env.scope.kind == .function&&env.kindOf n==aA .cell)=aB
    .rw[if_pos b]at a;simpa only[jB,c]using a
    .rw[if_neg b]at a;simpa only[jB,c]using a
   exact jD _<|f i hk
def Cx.comp(X:Cx)(N':Xo)(scope:gJ)(s3:aI)(H3:Hp)(C:Addr)(fp:Xk):Cx:=
 { X with N:=N',s₀:=s3,H₀:=H3,env:=compEnvC scope (wJ scope X.env) C X.env,outer:=X.stack,ex:=fp,fn:=λ_=>aG,pn:=[],xe:=λ_ _=>False }
structure oV(X:Cx)(N':Xo)(scope:gJ):Prop where
 kind:scope.kind = .function
 Km:∀y∈scope.names,y.2 ≠ .cell
 BJ:∀y∈scope.names,y.2 = .local->scope.names.lookup y.1=aA .local
 free:∀y∈scope.names,y.2 = .free->X.env.scope.names.lookup y.1=aA .cell
section
variable {C:Addr}
theorem oV.Vu(hs:oV X N' scope)(ok:X.Ok):Si scope X.env=pure (wJ scope X.env):=
 VZ λx a b=>ok.has x.1 (.inl<|hs.free x a b)
theorem fm{c:Addr}(h:(wJ scope X.env).lookup x=aA c):X.env.cells.lookup x=aA c:=Vs _ [] (λx c e=>by simp at e) x c h
theorem oV.has(hs:oV X N' scope)(ok:X.Ok){x:Str}(h:(x,jE)∈scope.names):∃c,(wJ scope X.env).lookup x=aA c:=
 Vr _ [] x (.inr ⟨h,ok.has x (.inl<|hs.free _ h rfl)⟩)
theorem Inv.yV(I:Inv X pins Z H s)(hs:oV X N' scope)(hf:∀b∈fp,kQ X pins H b/\b≠C)(hC:s.heap.objs.size<=C):(X.comp N' scope s H C fp).Ok where
 mod:=I.ok.mod
 kind:=hs.kind
 glob:=I.ok.glob
 blt:=I.ok.blt
 above:=hC
 inj:=λx y c a d=>I.ok.inj x y c (fm a) (fm d)
 has:=λx hx=>by
  rcases hx with hx|hx
  .exact hs.has I.ok<|Jm hs.Km hx<|.inl rfl
  .exact hs.has I.ok<|Jm hs.Km hx<|.inr rfl
 xi:=λx c h=>by cases h
 hd:=I.ok.hd
 frames:=I.ok.frames
 Nj:=.inl rfl
 yb:=λb hb=>⟨(hf b hb).2,λx c e=>(hf b hb).1.2.2.2.2.1 x c (fm e)⟩
 bs:=λb o e=>I.bs b o e
 wI:=dF I.ok.wI I.sz
 Ai:=λb o e hb=>by
  rcases(hf b hb).1.2.2.2.1 with z|z
  .exact I.ok.Ai b o e z
  .exact absurd (bC (bC (cW e) I.ok.wI) z)<|lA _
 oq:=λb hb f=>by
  rcases List.mem_cons.mp (I.Nk b f)with e|e
  .exact(hf b hb).1.2.1 e
  .exact(hf b hb).1.2.2.1 e
 qZ:=I.stack
 gf:=I.GQ
theorem Inv.comp{h4:bH}{t:Nat}{m0:Str->Xl}(I:Inv X pins Z H s)(hs:oV X N' scope)(hf:∀b∈fp,kQ X pins H b/\b≠C)(hC:s.heap.objs.size<=C)
  (k:∀b o,s.heap.get? b=aA o->h4.get? b=aA o) (hn:h4.Ns C m0) (hl:Z'.length=N'.length)
  (hσ:∀(i:Nat) x v,N'[i]?=aA x->Z'[i]?=aA (aA v)->scope.names.lookup x=aA .free/\(x,jE)∈scope.names/\∃j:Nat,X.N[j]?=aA x/\Z[j]?=aA (aA v)) :
  Inv (X.comp N' scope s H C fp) [] Z' H { s with heap:=h4,toks:=t } where
 ok:=I.yV hs hf hC
 os:=rfl
 bare:=I.bare
 base:=Un.kept k
 loc:=⟨m0,hn,λi x v g h _=>by
  obtain⟨l,hm,j,n,q⟩:=hσ i x v g h;obtain⟨m,_,hl⟩:=I.loc;have a:=hs.free _ hm rfl;obtain⟨u,r,lk⟩:=hl j x v n q (.inr<|.inl a);refine⟨u,r,.inr ⟨.inl (BL I.ok.kind l a),?_⟩⟩;rcases lk with⟨z,_⟩|⟨_,c,w,y⟩
  .rw[show X.env.kindOf x=aA .cell from a]at z;cases z
  .obtain⟨B,f⟩:=hs.has I.ok hm;have:=fm f;rw[w]at this;cases this;obtain⟨o,d,hd⟩:=y;exact⟨c,f,o,k _ _ d,hd⟩⟩
 cell:=λx c e=>by obtain⟨v,o,d,hd⟩:=I.cell x c (fm e);exact⟨v,o,k _ _ d,hd⟩
 free:=I.bA.fresh hC
 qO:=λx c e=>I.qO x c (fm e)
 pin:=λp A=>by cases A
 bA:=I.bA.kept k
 len:=hl
end
noncomputable abbrev nE(us:He)(k:Nat):Obj:={ cls:=.type "list",data:=.seq us.toArray k }
theorem Br{α:Type}{M:Model}{t:Sem α}{Q:α->aI->Prop}(h:aS M A t Q (λ_ _=>False) s):aS M A t Q E s:=vp h (λ_ _ q=>q) λ_ _ z=>z.elim
section
variable {H2:Hp}{s2:aI}{it:Addr}{tn:Nat->bH->Prop}{J:It}{elt tg cQ:aK}
theorem Inv.aMv{D:Addr}{ys:Hg}{k:Nat}(I:Inv X pins Z H s)(hD:kQ X pins H D)(ho:s.heap.get? D=aA (nE us k))(r:Vals ys us)(hz:ys.length<=sizeLine):Inv X pins Z (bF H D<|.lst ys) s:=by
 have hn:=hD.1;refine I.step (ch:=[D]) (λb hb=>?_) (λb o _ _ _ e _=>e) (λb o _ _ _ e _=>⟨o.slots,e⟩) (λb o a e n=>?_) (λb o _ e=>⟨o,e⟩) (λb xs e=>by rw[bZ (jS e hn)];exact e) (λb o u e=>by rw[bZ (jS e hn)];exact e) (λb ps e=>⟨#[],by rw[bZ (jS e hn),e];simp⟩) (λm hm=>hm) (λb u e=>?_) I.bare
 .have e:b=D:=by simpa using hb
  subst e;exact⟨hD.2.2.2.1,hD.2.1,hD.2.2.2.2.1,hD.2.2.2.2.2⟩
 .rw[bZ (λz=>a (by simp[z]))];exact n
 .by_cases hb:b=D
  .subst hb;rw[gQ]at e;cases e;exact⟨hz,us,k,r,ho⟩
  .rw[bZ hb]at e;exact(I.bA b u e).vC (λc v a q=>q) (λc q=>by rw[bZ (jS q hn)];exact q) λc xs q=>by rw[bZ (jS q hn)];exact q
theorem Vz{ct:Option aK}{g:TG}{R:Hg->Hp->Prop}{W:Nat->Nat->Hg->St->Hp->Prop}{m0:Nat}{RR:Value->Addr->Result->aI->Prop}
  (hsc:oV X N' scope)(sG:X.calm=aB)(I2:Inv X pins Z H2 s2)(T:Turn X.prog X.w X.K tg J fp it tn)(st2:tn 0 s2.heap)(f2:∀b∈fp,kQ X pins H2 b)
  (hg:∀s H C fp,PG (X.comp N' scope s H C fp) tg g)(hct:∀c,ct=aA c->∀s H C fp,PT (X.comp N' scope s H C fp) c tc)(hct0:ct=aD->∀Z H Q,tc Z H Q->Q aB H)(he:∀s H C fp,PE (X.comp N' scope s H C fp) elt te)
  (hl:Z'.length=N'.length)(hσ:∀(i:Nat) x v,N'[i]?=aA x->Z'[i]?=aA (aA v)->scope.names.lookup x=aA .free/\(x,jE)∈scope.names/\∃j:Nat,X.N[j]?=aA x/\Z[j]?=aA (aA v))
  (w0:W 0 m0 [] Z' H2)
  (turn:∀i m ys Z H,W i m ys Z H->(J.stop i H/\R ys H)\/(J.go i H/\∀x H',J.uu i H x H'->g x Z H' λZ2 H2=>tc Z2 H2 λb H3=>if b=aB then te Z2 H3 λy H4=>ys.length<sizeLine/\∃m',m'<m/\W (i+1) m' (ys++[y]) Z2 H4 else∃m',m'<m/\W (i+1) m' ys Z2 H3))
  (hRR:∀D C s' H' m ys,Inv X pins Z (bF H' D<|.lst ys) s'->H' D=aD->s'.heap.Ns C m->kQ X pins (bF H' D<|.lst ys) C->R ys H'->RR (.ref D) C (.ok .next) s') :
  aS (aZ X.prog X.w) X.A (newList []) (λacc s₃=>aS (aZ X.prog X.w) X.A (newFunctionEnv scope X.env.globals (wJ scope X.env) [] X.env.qual aD .none<|aA X.env) (λVo s₄=>tM (aZ X.prog X.w) X.A (.compStart (.ListComp elt [⟨tg,cQ,ct.toList,0⟩] scope pos) 0 (.ref it) acc { Vo with scope:=relabel scope X.env }) (RR acc Vo.locals) s₄) E s₃) E s2:=by
 refine tQ<|wpAny_newFunctionEnv hsc.Km (by intro y hy;simp at hy) (λh₁ hns₁ hsb₁=>?_) hsc.kind;dsimp only at hns₁ hsb₁ ⊢;generalize hH2:s2.heap.push { cls:=.type "list",dict:=aD,data:=.seq ([]:He).toArray }=hp2 at hns₁ hsb₁ ⊢;have hC:hp2.objs.size=s2.heap.objs.size+1:=by rw[<- hH2,rQ]
 have hDC:s2.heap.objs.size≠hp2.objs.size:=by rw[hC];exact cA<|dA _
 have hCle:s2.heap.objs.size<=hp2.objs.size:=by rw[hC];exact jL _
 have below:∀b,b<s2.heap.objs.size->b≠hp2.objs.size/\b≠s2.heap.objs.size:=λb hb=>⟨by rw[hC];exact cA<|kN hb,cA hb⟩;have old:∀b o,s2.heap.get? b=aA o->h₁.get? b=aA o:=λb o e=>hsb₁.extBut b o (below b<|cW e).1 (cT _<|hH2▸cT _ e);have z9:h₁.get? s2.heap.objs.size=aA (nE [] 0):=hsb₁.extBut _ _ hDC (cT _<|hH2▸fU _ rfl);have fD:kQ X pins H2 s2.heap.objs.size:=I2.uE (aV _) (I2.bA.fresh<|aV _);have lfp:∀b∈fp,b<s2.heap.objs.size:=λb hb=>by obtain⟨o,e,_⟩:=T.obj 0 _ st2 b hb;exact cW e
 have hf':∀b∈s2.heap.objs.size::fp,kQ X pins H2 b/\b≠hp2.objs.size:=λb hb=>by
  rcases List.mem_cons.mp hb with rfl|hb
  .exact⟨fD,hDC⟩
  .exact⟨f2 b hb,(below b<|lfp b hb).1⟩
 have IY:=I2.comp (t:=s2.toks+([]:Xx).length) hsc hf' hCle old hns₁ hl hσ;generalize hDd:s2.heap.objs.size=D at *;generalize hCd:hp2.objs.size=C at *;have fnD:∀b∈fp,b≠D:=λb hb=>(below b<|lfp b hb).2;have ok:=IY.ok;have hg':=hg s2 H2 C (D::fp);have hct':=λc e=>hct c e s2 H2 C (D::fp);have he':=he s2 H2 C (D::fp);have fY:∀{pl:Hf} {H':Hp}{b:Addr},b∈D::fp->H' b=aD->(∀p∈pl,p.1≠b)->kQ (X.comp N' scope s2 H2 C<|D::fp) pl H' b:=λ{pl H' b} hb hn hp=>
  ⟨hn,(ok.yb b hb).1,ok.oq b hb,.inl hb,(ok.yb b hb).2,λp h=>hp p (by simpa[Cx.comp]using h)⟩
 let Iv:Nat->aI->Prop:=λn s'=>∃(i:Nat) (ys:Hg) (us:He) (k:Nat) (Z':St) (H':Hp),Inv (X.comp N' scope s2 H2 C<|D::fp) [] Z' H' s'/\tn i s'.heap/\(∀b∈D::fp,H' b=aD)/\s'.heap.get? D=aA (nE us k)/\Vals ys us/\ys.length<=sizeLine/\W i n ys Z' H'
 have turnA:∀(n:Nat) (s':aI),Iv n s'->∀(K:aI->Prop) (E':Value->aI->Prop),
   (∀(i:Nat) (ys:Hg) (us:He) (k:Nat) (pl:Hf) (Z6:St) (H6:Hp) (s6:aI),Inv (X.comp N' scope s2 H2 C<|D::fp) ([(D,nE us k)]++pl) Z6 H6 s6 ->
    (∀h7:bH,(∀p∈pl,h7.get? p.1=aA p.2)->tn (i+1) h7)->(∀b∈fp,∃o,(b,o)∈pl)->(∀p∈pl,p.1∈fp)->Vals ys us->ys.length<=sizeLine ->
    (tc Z6 H6 λb H3=>if b=aB then te Z6 H3 λy H4=>ys.length<sizeLine/\∃m',m'<n/\W (i+1) m' (ys++[y]) Z6 H4 else∃m',m'<n/\W (i+1) m' ys Z6 H3)->K s6) ->
   aS (aZ X.prog X.w) X.A (tO<|.ref it) (λr s1=>match r with
    |none=>RR (.ref D) C (.ok .next) s1
    |some v=>aS (aZ X.prog X.w) X.A (So tg (.ref it) v) (λ_ s0=>aS (aZ X.prog X.w) X.A (cu tg (compEnvC scope (wJ scope X.env) C X.env) v) (λ_ s2=>K s2) E' s0) E' s1) E' s':=by
  rintro n s' ⟨i,ys,us,k,Z3,H3,I3,st3,fr3,hD3,rv3,hz3,w3⟩ K E' hK
  have I3':Inv (X.comp N' scope s2 H2 C<|D::fp) [(D,nE us k)] Z3 H3 s':=I3.ik λp hp=>by
   have e:p=(D,nE us k):=by simpa using hp
   subst e;exact⟨hD3,fr3 D fV,(ok.yb D fV).1,ok.oq D fV,λv z=>by cases z⟩
  have fp3:∀{H':Hp},(∀b∈fp,H' b=aD)->∀b∈fp,kQ (X.comp N' scope s2 H2 C<|D::fp) [(D,nE us k)] H' b:=λhn b hb=>fY (jD _ hb) (hn b hb) λp hp=>by
   have e:p=(D,nE us k):=by simpa using hp
   subst e;exact mK<|fnD b hb
  have fr3':∀b∈fp,H3 b=aD:=λb hb=>fr3 b (jD _ hb);rcases turn i n ys Z3 H3 w3 with⟨stop,hR⟩|⟨go,step⟩
  .refine bB (T.done (X.comp N' scope s2 H2 C<|D::fp) rfl rfl rfl sG i _ s' Z3 H3 E' I3' (fp3 fr3') st3 stop) λr s4 ⟨hr,I4⟩=>?_;subst hr;obtain⟨gD,nD,_⟩:=I4.pin (D,nE us k) (iJ _ fV);obtain⟨m,hn,_⟩:=id I4.loc;have IX:Inv X pins Z H3 s4:=I2.VC (ch:=D::fp) I4.os I4.base I4.bA I4.bare λb hb=>⟨(hf' b hb).1.2.2.2.1,(hf' b hb).1.2.1,(hf' b hb).1.2.2.2.2.1,(hf' b hb).1.2.2.2.2.2⟩;refine hRR D C s4 H3 m ys (IX.aMv ⟨nD,fD.2⟩ gD rv3 hz3) nD hn ⟨by rw[bZ (mK hDC)];exact I4.free,?_⟩ hR;have fC:kQ X pins H3 C:=I2.uE (by rw[hDd];exact hCle) I4.free;exact fC.2
  .refine bB (T.item (X.comp N' scope s2 H2 C<|D::fp) rfl rfl rfl sG i _ s' Z3 H3 E' I3' (fp3 fr3') st3 go) λr s4 ⟨u,hr,h4⟩=>?_;subst hr;refine bB h4 λ_ s5 zq=>?_;obtain⟨x,H5,I5,r5,y5,st5,fr5⟩:=zq;have I5':=I5.pinned (fp3 fr5) (T.obj _ _ st5);refine Br<|bB (hg' _ s5 Z3 H5 x u _ I5' r5<|step x H5 y5) λ_ s6 ⟨Z6,H6,I6,q6⟩=>?_;refine hK i ys us k _ Z6 H6 s6 I6 (λh7 h=>T.keep _ _ _ st5 λb hb o e=>h (b,o) (Ac hb e)) (λb hb=>?_) (λp hp=>(CD hp).1) rv3 hz3 q6;obtain⟨o,e,_⟩:=T.obj _ _ st5 b hb;exact⟨o,Ac hb e⟩
 have back:∀{n i:Nat}{ys:Hg}{us:He}{k:Nat}{pl:Hf}{Z6:St}{H6:Hp}{s6:aI},Inv (X.comp N' scope s2 H2 C<|D::fp) ([(D,nE us k)]++pl) Z6 H6 s6 ->
   (∀h7:bH,(∀p∈pl,h7.get? p.1=aA p.2)->tn (i+1) h7)->(∀b∈fp,∃o,(b,o)∈pl)->Vals ys us->ys.length<=sizeLine->(∃m',m'<n/\W (i+1) m' ys Z6 H6)->∃m',m'<n/\Iv m' s6:=by
  intro n i ys us k pl Z6 H6 s6 I6 ht pB rv hz ⟨m',hm,w⟩;obtain⟨gD,nD,_⟩:=I6.pin (D,nE us k) (iJ _<|cc _ fV);refine⟨m',hm,i+1,ys,us,k,Z6,H6,I6.ik λp hp=>(by cases hp),ht _ λp hp=>(I6.pin p<|iJ _<|iJ _ hp).1,λb hb=>?_,gD,rv,hz,w⟩;rcases List.mem_cons.mp hb with rfl|hb
  .exact nD
  .obtain⟨o,ho⟩:=pB b hb;exact(I6.pin _<|iJ _<|iJ _ ho).2.1
 have app:∀{n i:Nat}{ys:Hg}{us:He}{k:Nat}{pl:Hf}{Z6:St}{H7:Hp}{s7:aI}{y:V}{v:Value} {E':Value->aI->Prop},Inv (X.comp N' scope s2 H2 C<|D::fp) ([(D,nE us k)]++pl) Z6 H7 s7 ->
   (∀h7:bH,(∀p∈pl,h7.get? p.1=aA p.2)->tn (i+1) h7)->(∀b∈fp,∃o,(b,o)∈pl)->(∀p∈pl,p.1∈fp)->Vals ys us->RelV y v->ys.length<sizeLine->(∃m',m'<n/\W (i+1) m' (ys++[y]) Z6 H7) ->
   aS (aZ X.prog X.w) X.A (call (.builtin "list.append") [.ref D,v]) (λ_ s8=>∃m',m'<n/\Iv m' s8) E' s7:=by
  intro n i ys us k pl Z6 H7 s7 y v E' I7 ht pB hpl rv ry hz ⟨m',hm,w⟩;obtain⟨gD,nD,_⟩:=I7.pin (D,nE us k) (iJ _<|cc _ fV);have hus:us.length<sizeLine:=by rw[<- rv.length];exact hz
  refine append_at (hsz:=by rw[hU];exact xV hus) gD λh8 hs8 g8=>?_;have nb:∀b∈D::fp,H7 b=aD:=λb hb=>by
   rcases List.mem_cons.mp hb with rfl|hb
   .exact nD
   .obtain⟨o,ho⟩:=pB b hb;exact(I7.pin _<|iJ _<|iJ _ ho).2.1
  have f8:=fY (pl:=[]) (H':=H7) (b:=D) fV nD (λp hp=>by cases hp);refine⟨m',hm,i+1,ys++[y],us++[v],k+1,Z6,H7,(I7.ik (pins':=[]) λp hp=>(by cases hp)).turned (t':=s7.toks) (it:=D) (λb o hb e=>hs8.extBut b o hb e) nD f8.2.1 f8.2.2.2.1 f8.2.2.2.2.1 f8.2.2.2.2.2,
   ht _ λp hp=>?_,nb,?_,rv.append (.cons ry .nil),?_,w⟩
  .exact hs8.extBut _ _ (fnD _<|hpl p hp) (I7.pin p<|iJ _<|iJ _ hp).1
  .show h8.get? D=_;rw[g8];simp[nE]
  .rw[dO];exact hz
 have i0:Iv m0 { s2 with heap:=h₁,toks:=s2.toks+([]:Xx).length }:=⟨0,[],[],0,Z',H2,IY,T.keep _ _ _ st2 λb _ o e=>old b o e,λb hb=>(hf' b hb).1.1,z9,.nil,jZ _,w0⟩;have loop:tM (aZ X.prog X.w) X.A (.compLoop (.ListComp elt [⟨tg,cQ,ct.toList,0⟩] scope pos) 0 (.ref it) (.ref D)<|compEnvC scope (wJ scope X.env) C X.env) (RR (.ref D) C) { s2 with heap:=h₁,toks:=s2.toks+([]:Xx).length }:=by
  cases ct with
  |none=>refine PySem.W.kcp_loop Iv (λn s' hI=>turnA n s' hI _ _ ?_) m0 i0;intro i ys us k pl Z6 H6 s6 I6 ht pB hpl rv hz q6;have q7:=hct0 rfl Z6 H6 _ q6;rw[if_pos rfl]at q7;refine Br<|bB (he' _ s6 Z6 H6 _ I6 q7) λv s7 ⟨y,H7,I7,r7,hz7,w7⟩=>?_;exact app I7 ht pB hpl rv r7 hz7 w7
  |some c=>
   refine PySem.W.kct_loop Iv (λn s' hI=>turnA n s' hI _ _ ?_) m0 i0;intro i ys us k pl Z6 H6 s6 I6 ht pB hpl rv hz q6;refine Br<|bB (hct' c rfl _ s6 Z6 H6 _ I6 q6) λb s7 ⟨H7,I7,q7⟩=>?_;cases b with
   |true=>rw[if_pos rfl]at q7 ⊢;refine Br<|bB (he' _ s7 Z6 H7 _ I7 q7) λv s8 ⟨y,H8,I8,r8,hz8,w8⟩=>?_;exact app I8 ht pB hpl rv r8 hz8 w8
   |false=>rw[if_neg gR]at q7 ⊢;exact back I7 ht pB rv hz q7
 exact codeAny_compStart_list loop<|T.self _ 0 _ _ _ (T.keep _ _ _ st2 λb _ o e=>old b o e) loop
def Np(wi:TI)(imp:St->St)(g:TG)(tc:TT)(te:TE):TE:=λZ H Q=>wi Z H λJ H1=>∃(W:Nat->Nat->Hg->St->Hp->Prop) (m0:Nat),W 0 m0 [] (imp Z) H1/\∀i m ys Z' H',W i m ys Z' H' ->
 (J.stop i H'/\∀D,H' D=aD->Q (.ref D) (bF H' D<|.lst ys))\/(J.go i H'/\∀x H2,J.uu i H' x H2->g x Z' H2 λZ3 H3=>tc Z3 H3 λb H4=>if b=aB then te Z3 H4 λy H5=>ys.length<sizeLine/\∃m',m'<m/\W (i+1) m' (ys++[y]) Z3 H5 else∃m',m'<m/\W (i+1) m' ys Z3 H4)
variable {ct:Option aK}{wi:TI}{imp:St->St}{g:TG}
theorem Y1(hsc:oV X N' scope)(sG:X.calm=aB)(hi:PI X tg cQ wi)
  (hg:∀s H C fp,PG (X.comp N' scope s H C fp) tg g) (hct:∀c,ct=aA c->∀s H C fp,PT (X.comp N' scope s H C fp) c tc) (hct0:ct=aD->∀Z H Q,tc Z H Q->Q aB H) (he:∀s H C fp,PE (X.comp N' scope s H C fp) elt te)
  (himp:∀Z:St,(imp Z).length=N'.length)
  (hσ:∀(Z:St) (i:Nat) x v,N'[i]?=aA x->(imp Z)[i]?=aA (aA v)->scope.names.lookup x=aA .free/\(x,jE)∈scope.names/\∃j:Nat,X.N[j]?=aA x/\Z[j]?=aA (aA v))
  (Il:∀x,Eg cQ X.env x=pure x):PE X (.ListComp elt [⟨tg,cQ,ct.toList,0⟩] scope pos) (Np wi imp g tc te):=by
 intro pins s Z H Q I h;refine NR rfl Il (hsc.Vu I.ok) hsc.kind hsc.BJ ?_;refine bB (hi pins s Z H _ I h) λv s1 h1=>bB h1 λk s2 l=>?_;obtain⟨it,fp,u,J,w,e,n,T,d,f2,W,m0,p,turn⟩:=l;subst e;refine Vz hsc sG n T d f2 hg hct hct0 he (himp Z) (hσ Z) p turn ?_;intro D C y z m A q r hn a t;exact⟨m,hn,λB f=>⟨.ref D,_,q.turned (λb o hb e=>f.extBut b o hb e) a.1 a.2.1 a.2.2.2.1 a.2.2.2.2.1 a.2.2.2.2.2,rfl,t D r⟩⟩
theorem aBu{i:Nat}{y:Str}{py pJ:Pos}(hN:X.N.Nodup)(hi':X.N[i]?=aA y)(hy:X.env.scope.names.lookup y=aA .local)
  (hsw:vW (.ListComp elt [⟨tg,cQ,ct.toList,0⟩] scope pos) (aA<|.Name y py) pJ.line X.env=pure aB) (hsc:oV X N' scope) (sG:X.calm=aB) (hi:PI X tg cQ wi)
  (hg:∀s H C fp,PG (X.comp N' scope s H C fp) tg g) (hct:∀c,ct=aA c->∀s H C fp,PT (X.comp N' scope s H C fp) c tc) (hct0:ct=aD->∀Z H Q,tc Z H Q->Q aB H) (he:∀s H C fp,PE (X.comp N' scope s H C fp) elt te)
  (himp:∀Z:St,(imp Z).length=N'.length)
  (hσ:∀(Z:St) (i:Nat) x v,N'[i]?=aA x->(imp Z)[i]?=aA (aA v)->scope.names.lookup x=aA .free/\(x,jE)∈scope.names/\∃j:Nat,X.N[j]?=aA x/\Z[j]?=aA (aA v))
  (Il:∀x,Eg cQ X.env x=pure x):PS X (.Assign [.Name y py] (.ListComp elt [⟨tg,cQ,ct.toList,0⟩] scope pos) pJ) (GU (Np wi imp g tc te)<|Za i):=by
 intro pins s Z H D I h;rw[exec_Assign_Name_used _ _ _ _ hsw];refine aM<|mf<|aM ?_;refine aM (vp (NR rfl Il (hsc.Vu I.ok) hsc.kind hsc.BJ ?_)
  (λ_ t A=>cB (cB A)) λ_ _ e=>e)
 refine bB (hi pins s Z H _ I h) λv s1 h1=>bB h1 λB s2 E=>?_;obtain⟨it,fp,U,J,V,e,F,T,l,f2,W,m0,G,turn⟩:=E;subst e;refine Vz hsc sG F T l f2 hg hct hct0 he (himp Z) (hσ Z) G turn ?_;intro d C t K m L u M hn a N;obtain⟨k,O,P,n,f,R⟩:=id hn;have q:Inv X (pins++[(C,k)]) Z (bF K d<|.lst L) t:=u.ik λp S=>(List.mem_append.mp S).elim (λz=>u.pin p (iJ _ z)) λz=>by
  have e:p=(C,k):=by simpa using z
  subst e;exact⟨n,a.1,a.2.1,a.2.2.1,λv z=>by rw[f]at z;cases z⟩
 refine NO<|uh q hN hi' (.inl hy) (v:=.ref d) rfl (λY w=>?_)<|.inr hy;exact⟨m,⟨k,O,P,((w.pin (C,k)<|iJ _<|iJ _ fV).1),f,R⟩,λYN r=>⟨_,_,w.Bu.turned (λb o hb e=>r.extBut b o hb e) a.1 a.2.1 a.2.2.2.1 a.2.2.2.2.1 a.2.2.2.2.2,N d M⟩⟩
end
end L2
namespace AM
open PySem PySem.Spec PyProof.Rows L2
variable {A:cK}{E:XK}{H H':Hp}{O O':HO}{P prog:cC}{Q:VK}{S1 S2:Nat->bH->Prop}{X:Cx}{a i1 i2 it l l1 l2 z:Addr}{apos kq p p2 pos py tp:Pos}{args elts es ts:List aK}{b bb:Bool}{c e tg:aK}{dU ys:Hg}{env:Env}{ep n tk:Nat}{fd:eW}{h':bH}{i j:Int}{items:Xq}{ns:Xj}{op':pL}{pins:Hf}{ps:Xo}{s:aI}{scope:gJ}{sp:Sp}{sts:Xm}{ta tb:TE}{us:List (aP×V)}{w:bV}{x' y':V}{Y Y':Xk}{Z':L2.St}
def yJ(K:bI)(H:Hp)(_:Nat)(x y:V)(b:Bool):Prop:=∃(a c:Addr) (xs:Hg),x = .ref a/\y = .ref c/\dH K H a xs/\dH K H c []/\b=xs.isEmpty
section
variable {Z:L2.St}
theorem BP(I:Inv X pins Z H s){xs:Hg}(h:dH X.K H a xs):∃its:He,Vals xs its/\s.heap.IsList a its.toArray:=by obtain⟨its,r,p,_⟩:=I.list h;exact⟨its,r,p.isList⟩
theorem yJ.rc(I:Inv X pins Z H s){c:Addr}(hu:A.units+n<cLine)(h:yJ X.K H n (.ref a) (.ref c) b):SeqAt.RcAt A s (.ref a) (.ref c) b/\SeqAt.RcNeAt A s (.ref a) (.ref c) (!b):=by
 obtain⟨_,_,xs,e1,e2,h1,h2,rfl⟩:=h;cases e1;cases e2;have h0:A.units<cLine:=by omega
 obtain⟨us,r1,p1⟩:=BP I h1;obtain⟨vs,r2,p2⟩:=BP I h2;cases r2;cases r1 with
 |nil=>exact⟨SeqAt.RcAt.lists (e:=λ_=>aB) p1 p2 rfl h0 λj z=>absurd z (Ds j),SeqAt.RcNeAt.lists (e:=λ_=>aB) p1 p2 rfl h0 λj z=>absurd z (Ds j)⟩|cons _ _=>exact⟨SeqAt.RcAt.lists_lengths p1 p2 rfl h0,SeqAt.RcNeAt.lists_lengths p1 p2 rfl h0⟩
def aIb(K:bI):R2:=λx y H Q=>EX x y H Q\/∃b a c,x = .ref a/\y = .ref c/\yJ K H 12 x y b/\Q (.bl b) H
def aIe(K:bI):R2:=λx y H Q=>FE x y H Q\/∃b a c,x = .ref a/\y = .ref c/\yJ K H 12 x y b/\Q (.bl<|!b) H
theorem R6(hu:X.A.units+12<cLine):cU X (dG .Eq) (aIb X.K):=by
 intro pins s Z H x y v u Q I d e h;rcases h with h|⟨b,a,c,rfl,rfl,h,q⟩
 .exact Q9 pins s Z H x y v u Q I d e h
 .cases d;cases e;exact(yJ.rc I hu h).1 _ _ _ _ ⟨.bl b,H,I,rfl,q⟩
theorem T4(hu:X.A.units+12<cLine):cU X (dG .NotEq) (aIe X.K):=by
 intro pins s Z H x y v u Q I d e h;rcases h with h|⟨b,a,c,rfl,rfl,h,q⟩
 .exact T2 pins s Z H x y v u Q I d e h
 .cases d;cases e;exact(yJ.rc I hu h).2 _ _ _ _ ⟨.bl (!b),H,I,rfl,q⟩
end
def aIc:R2:=λx y H Q=>∃a v,x = .ref a/\lS H a y (aA v)/\Q v H
theorem E1(hu:X.A.units+1<cLine):pS X aIc:=by
 intro value slice pins s Z H x y o i Q I e f h hs;obtain⟨a,v,rfl,g,q⟩:=h;cases e;have j:=XF I g;have hl:=PySem.F.slot_dict_getitem.lookup;have k:aS (aZ X.prog X.w) X.A (cy (.ref a) i) (EP X pins Z Q) X.xe s:=WW hu I g f λm s3 l d=>⟨v,H,l,d,q⟩;refine aM ?_;refine aM<|NZ j hl ?_;have fin:aS (aZ X.prog X.w) X.A (Sy slice aG (.ref a) i) (λr b=>aS (aZ X.prog X.w) X.A (letTemporaryGo value (.ref a) r>>=λ_=>pure r) (EP X pins Z Q) X.xe b) X.xe s:=by rw[hs];exact wpAny_operating<|vp k (λr b c=>aM (wpAny_letTemporaryGo<|cB c)) λ_ _ x=>x
 first
  |exact cB<|aM fin|exact aM<|cB<|aM fin|exact aM fin
def EZ(neg:Bool):R2:=λy x H Q=>∃a o,x = .ref a/\lS H a y o/\Q (.bl<|if neg then !o.isSome else o.isSome) H
theorem S0(hu:X.A.units+1<cLine):cU X (dG .In) (EZ aG):=by intro pins s Z H x y v u Q I b c h;obtain⟨a,o,rfl,g,q⟩:=h;cases c;exact WX hu I g b λs3 d=>⟨.bl o.isSome,H,d,rfl,q⟩
theorem T7(hu:X.A.units+1<cLine):cU X (dG .NotIn) (EZ aB):=by intro pins s Z H x y v u Q I b c h;obtain⟨a,o,rfl,g,q⟩:=h;cases c;exact WY hu I g b λs3 d=>⟨.bl (!o.isSome),H,d,rfl,q⟩
def aIh:V->V->V->Hp->(Hp->Prop)->Prop:=λo i v H Q=>∃a H',o = .ref a/\mj H a i v H'/\Q H'
theorem aJd(hu:X.A.units+1<cLine):Ey X (λo i v H Q=>FF o i v H Q\/aIh o i v H Q):=by
 intro pins s Z H o i v e f u Q I b c d h;rcases h with h|⟨a,k,rfl,g,q⟩
 .exact aJe pins s Z H o i v e f u Q I b c d h
 .cases b;exact XA hu I g c d λs4 j=>⟨_,j,q⟩
def EU:V->Hg->Hp->VK->Prop:=λx vs H Q=>∃a y o,x = .ref a/\lS H a y o/\((vs=[y]/\Q (o.getD .aH) H)\/∃z,vs=[y,z]/\Q (o.getD z) H)
theorem M6(hu:X.A.units+1<cLine):dz X "dict.get" EU:=by
 intro pins s Z H x l v us Q I e d h;obtain⟨a,y,o,rfl,g,h⟩:=h;cases e;rcases h with⟨rfl,q⟩|⟨z,rfl,q⟩
 .obtain⟨u,rfl,f⟩:=d.one;exact WU hu I g f λi s3 c b=>⟨_,H,c,b,q⟩
 .obtain⟨m,n,rfl,j,k⟩:=xJ d;exact WV hu I g j k λi s3 c b=>⟨_,H,c,b,q⟩
def EV:V->Hg->Hp->VK->Prop:=λx vs H Q=>∃a kvs k,x = .ref a/\H a=aA (.dK kvs) /\
 ((vs=[kV k]/\∃v,fP kvs k=aA v/\Q v (bF H a<|.dK<|sD kvs k))\/∃z,vs=[kV k,z]/\(∀v,fP kvs k=aA v->Q v (bF H a<|.dK<|sD kvs k))/\(fP kvs k=aD->Q z H))
theorem M7:dz X "dict.pop" EV:=by
 intro pins s Z H x r v us Q I i f h;obtain⟨a,d,k,rfl,e,h⟩:=h;cases i;rcases h with⟨rfl,v,l,q⟩|⟨z,rfl,j,m⟩
 .obtain⟨u,rfl,n⟩:=f.one;exact Wm I e n l (.inl rfl) λo s3 c b=>⟨v,_,c,b,q⟩
 .obtain⟨t,w,rfl,g,p⟩:=xJ f;cases l:fP d k with
  |some v=>exact Wm I e g l (.inr ⟨_,rfl⟩) λo s3 c b=>⟨v,_,c,b,j v l⟩|none=>exact WZ I e g l λs3 c=>⟨z,H,c,p,m l⟩
def EW:V->Hg->Hp->VK->Prop:=λx vs H Q=>∃a kvs k z,x = .ref a/\H a=aA (.dK kvs)/\vs=[kV k,z]/\kvs.length<sizeLine/\(∀v,fP kvs k=aA v->Q v H)/\(fP kvs k=aD->Q z (bF H a<|.dK<|putK kvs k z))
theorem M8:dz X "dict.setdefault" EW:=by
 intro pins s Z H x y v us Q I i j h;obtain⟨a,b,k,z,rfl,e,rfl,A,m,n⟩:=h;cases i;obtain⟨B,o,rfl,p,f⟩:=xJ j;obtain⟨r,hd,ws,rel,dd⟩:=xt I.bA e;refine cx MP dd.typeIs aTa (aSz _ _ _) (kt_meets_setdefault (gK X.prog X.w) a (sM p) hd o)
  ⟨ws,dd,rel.length▸r,λC hw=>?_,λhn t c hs=>?_⟩
 .cases l:fP b k with
  |none=>have:yG ws k=aD:=iE.none_of (by rw[<- l];exact rel.val k);rw[this]at hw;cases hw
  |some v=>obtain⟨u,d,g⟩:=iE.some_of (by rw[<- l];exact rel.val k);rw[d]at hw;cases hw;exact⟨v,H,I.tok _,g,m v l⟩
 .have l:fP b k=aD:=by
   cases l:fP b k with
   |none=>rfl|some v=>obtain⟨u,d,g⟩:=iE.some_of (by rw[<- l];exact rel.val k);rw[d]at hn;cases hn
  have he:∃q,t.get? a=aA q:=let ⟨q,_,_,w,_⟩:=c;⟨q,w⟩;refine⟨z,_,xp I (e▸oS) hs he (Gr ?_ hd (rel.put k f) c),f,n l⟩;have:=Jh b k z;lia
theorem Ja{k:aP}{v:Value}(h:zV k v=aB):RelV (kV k) v:=by
 rcases sN h with⟨i,t,rfl,rfl⟩|⟨x,t,rfl,rfl⟩
 .exact⟨t,rfl⟩
 .exact⟨t,rfl⟩
theorem Jd{kvs:List (aP×V)}{vs:List (aP×Value)}(r:KV kvs vs):∀{i:Nat}{k:aP}{x:Value},vs[i]?=aA (k,x)->∃v,kvs[i]?=aA (k,v):=by
 induction r with
 |nil=>intro i k x e;simp at e|@cons p q ps b h t a=>
  intro i k x e;cases i with
  |zero=>simp at e;subst e;exact⟨p.2,by simp;exact Qw h.1 rfl⟩
  |succ i=>simpa using a (by simpa)
def NF(X:Cx)(a:Addr):Prop:=∀o u,X.H₀ a≠aA (.dC o u)
section
variable {Z:L2.St}{kvs:List (aP×V)}{o:Obj}
theorem qc(I:Inv X pins Z H s)(e:H a=aA (.dK kvs)):NF X a:=λo u z=>by have:=I.base.qX a o u z;rw[e]at this;cases this
theorem D1(I:Inv X pins Z H s)(e:H a=aA (.dK kvs)):∃o,s.heap.get? a=aA o/\Inv X pins Z (bF H a<|.dC o<|.dK kvs) s:=by obtain⟨z,y,d,r,ob,f,g,b,c⟩:=id (I.bA a _ e);have mu:ee (H a):=e▸oS;have ob':hV X.prog X.w (bF H a<|.dC ob<|.dK kvs) s.heap a (.dC ob<|.dK kvs):=⟨b,z,y,d,r,ob,f,g,b,c⟩;have:=I.un (t':=s.toks) (Un.write mu (.inl rfl) (λ_ _ _ q=>q) ⟨ob,b⟩) (fA.write I.bA mu (.inl rfl) (λ_ _ _ q=>q) ⟨ob,b⟩ ob');exact⟨ob,b,this⟩
theorem qf(I:Inv X pins Z H s)(e:H a=aA (.dC o<|.dK kvs))(nf:NF X a):Inv X pins Z (bF H a<|.dK kvs) s:=by
 have d:∀b,H b=aD->b≠a:=λb n z=>by rw[z,e]at n;cases n
 refine⟨I.ok,I.os,I.bare,⟨I.base.keep,I.base.slot,λb u q n g=>?_,I.base.there,λb xs q=>?_,λb x u q=>?_,λb ps q=>?_⟩,I.loc,I.cell,?_,λx c q=>?_,λp h=>?_,λb u q=>?_,I.len⟩
 .have:=I.base.free b u q n g;rw[bZ (d b this)];exact this
 .have h1:=I.base.vH b xs q;rw[bZ (λz=>by rw[z,e]at h1;cases h1)];exact h1
 .rw[bZ (λz=>by rw[z]at q;exact nf x u q)];exact I.base.qX b x u q
 .obtain⟨m,h1⟩:=I.base.vF b ps q;exact⟨m,by rw[bZ (λz=>by rw[z,e]at h1;cases h1)];exact h1⟩
 .rw[bZ (d _ I.free)];exact I.free
 .rw[bZ (d _<|I.qO x c q)];exact I.qO x c q
 .obtain⟨h1,f,i⟩:=I.pin p h;exact⟨h1,by rw[bZ (d _ f)];exact f,i⟩
 .by_cases hb:b=a
  .subst hb;rw[gQ]at q;cases q;exact(I.bA b _ e).2
  .rw[bZ hb]at q;exact(I.bA b u q).vC (λ_ _ _ r=>r) (λc r=>by rw[bZ (λz=>by rw[z,e]at r;cases r)];exact r) λc xs r=>by rw[bZ (λz=>by rw[z,e]at r;cases r)];exact r
def Er(a:Addr)(o:Obj)(kvs:List (aP×V)):It:=
 ⟨λi H=>H a=aA (.dC o<|.dK kvs)/\i<kvs.length,λi H x H'=>H'=H/\∃k v,kvs[i]?=aA (k,v)/\x=kV k,λi H=>H a=aA (.dC o<|.dK kvs)/\kvs.length=i⟩
theorem Ym(I:Inv X pins Z H s)(e:H a=aA (.dC o<|.dK kvs)){es:Array DictEntry}(hd:o.data = .dict es ep):∃vs,KV kvs vs/\Pl (gK X.prog X.w) s.heap a vs ep:=by obtain⟨c,z,y,vs,r,ob,f,g,b,h,d,i⟩:=I.bA a _ e;rw[c]at b;cases b;rw[hd]at d;cases d;exact⟨vs,r,o,es,c,h,hd,i⟩
theorem aMx{K:bI}(a it:Addr)(hai:a≠it){es:Array DictEntry}(hd:o.data = .dict es ep):Turn P w K tg (Er a o kvs) [it] it (λi h=>h.IsKeyIter it a i kvs.length ep) where
 mem:=by simp
 obj:=λi h st b hb=>by
  have e:b=it:=by simpa using hb
  subst e;obtain⟨o,e,c,d⟩:=st;exact⟨o,e,λv z=>by rw[d]at z;cases z⟩
 keep:=λi h j st k=>by obtain⟨o,e,c,d⟩:=st;exact⟨o,k it (by simp) o e,c,d⟩
 item:=by intro X l hw m n i pins s Z H E I hf st p;subst l hw m;obtain⟨e,F⟩:=p;obtain⟨g,r,q⟩:=Ym I e hd;have hl:=r.length;obtain⟨f0,f1,f2,t,f4,u⟩:=hf it (by simp);have W:=NA (knd:=gK X.prog X.w) (I.ok.hd n) it a hai g ep;refine W.item i s _ _ (by lia) ⟨hl▸st,q⟩ λv j tk B C D=>?_;obtain⟨k,x,G,B⟩:=B;obtain⟨y,J⟩:=Jd r G;have L:Inv X pins Z H { s with heap:=j,toks:=tk }:=I.turned (λb o hb e=>D b o (by simpa) e) f0 f1 t f4 u;obtain⟨f,_⟩:=C;rw[<- hl]at f;obtain⟨O,M,ci,N⟩:=id f;exact⟨v,rfl,yq M ci N (rfl) ⟨kV k,H,L,Ja B,⟨rfl,k,y,J,rfl⟩,f,λb hb=>(hf b hb).1⟩⟩
 done:=by intro X l hw m n i pins s Z H E I hf st p;subst l hw m;obtain⟨e,F⟩:=p;obtain⟨g,r,q⟩:=Ym I e hd;have hl:=r.length;obtain⟨f0,f1,f2,t,f4,u⟩:=hf it (by simp);have W:=NA (knd:=gK X.prog X.w) (I.ok.hd n) it a hai g ep;exact W.done s _ _ ⟨by rw[<- hl];rw[<- F]at st;exact st,q⟩ λj tk D=>⟨rfl,I.turned (λb o hb e=>D b o (by simpa using hb) e) f0 f1 t f4 u⟩
 self:=λA i s Q E st h=>by obtain⟨o,e,c,d⟩:=st;exact wpAny_pyIter_keyiter ⟨o,e,c,d⟩ h
def C0(tl:TE):TI:=λZ H R=>tl Z H λx H1=>∃a kvs,x = .ref a/\H1 a=aA (.dK kvs)/\∀o,R (Er a o kvs) (bF H1 a<|.dC o<|.dK kvs)
theorem aAg{l:aK}{tl:TE}(hl:PE X l tl):PI X tg l (C0 tl):=by
 intro pins s Z H R I h;refine bB (hl pins s Z H _ I h) λv s1 k=>?_;obtain⟨x,H1,i,m,n⟩:=k;obtain⟨a,d,e,ha,q⟩:=n;subst e;cases m;obtain⟨o,f,g⟩:=D1 i ha;obtain⟨z,y,p,r,ob,t,A,c,u,j,w⟩:=i.bA a _ ha;rw[f]at c;cases c;have hl:=r.length;refine wpAny_pyIter_dict y ⟨o,t,f,u,j,w⟩ ?_;have eB:=cW f;refine⟨s1.heap.objs.size,[s1.heap.objs.size],_,_,_,rfl,g.kept λb o e=>cT _ e,aMx a _ (cA eB) j,⟨_,fU _ rfl,rfl,by rw[hl];rfl⟩,λb hb=>?_,q o⟩;have e:b=s1.heap.objs.size:=by simpa using hb
 subst e;exact g.uE (aV _)<|g.bA.fresh<|aV _
def Tw(H0:Hp)(Q:Hp->Prop)(H:Hp):Prop:=∃a k0 o kvs,H0 a=aA (.dK k0)/\H a=aA (.dC o<|.dK kvs)/\Q (bF H a<|.dK kvs)
theorem Z7{t:TE}(h:PE X e t):PE X e (λZ H Q=>t Z H λx=>Tw H (Q x)):=by intro pins s Z H Q I q;refine bB (h pins s Z H _ I q) λv s1 b=>?_;obtain⟨x,H1,c,d,a,k,o,f,g,i,j⟩:=b;exact⟨x,_,qf c i (qc I g),d,j⟩
def Xa(H:Hp)(D:Ends):Ends:=⟨λZ=>Tw H (D.nx Z),λv=>Tw H (D.rt v),λZ=>Tw H (D.bk Z),λZ=>Tw H (D.ct Z)⟩
theorem aBv{st:Stmt}{t:TS}(h:PS X st t):PS X st (λD Z H=>t (Xa H D) Z H):=by
 intro pins s Z H D I q;refine bB (h pins s Z H _ I q) λf s1 h1=>?_;cases f with
 |next=>obtain⟨b,H1,c,a,j,o,d,e,g,i⟩:=h1;exact⟨b,_,qf c g (qc I e),i⟩|brk=>obtain⟨b,H1,c,a,j,o,d,e,g,i⟩:=h1;exact⟨b,_,qf c g (qc I e),i⟩|cont=>obtain⟨b,H1,c,a,j,o,d,e,g,i⟩:=h1;exact⟨b,_,qf c g (qc I e),i⟩|ret u=>obtain⟨v,b,H1,c,k,a,j,o,d,e,g,i⟩:=h1;exact⟨v,b,_,qf c g (qc I e),k,i⟩
end
theorem aNo{bs:YL}:∀{us:He},Vals (bs.map V.bl) us->us=bs.map yA:=by
 induction bs with
 |nil=>intro us r;cases r;rfl|cons b bs a=>
  intro us r;cases r with
  |cons h t=>have c:=h;subst c;rw[a t];rfl
theorem Oa:∀{us:He},Vals (ns.map V.int) us->vM us ns:=by
 induction ns with
 |nil=>intro us r;cases r;exact .nil|cons n ns a=>
  intro us r;cases r with
  |cons h t=>obtain⟨k,rfl⟩:=(h);exact .cons n k<|a t
theorem zl:∀{us:He}{ns:Xj},vM us ns->Vals (ns.map V.int) us
 |_,_,.nil=>.nil
 |_,_,.cons n t r=>.cons ⟨t,rfl⟩ (zl r)
theorem aIk(bs:YL):(Qm bs.length).any (λi=>(bs[i]?).getD aG)=bs.any id:=by
 rw[jx,JU,JU];constructor
 .rintro ⟨i,c,h⟩
  have a:=List.mem_range.mp c;rw[eN a]at h;exact⟨bs[i],KS a,h⟩
 .rintro ⟨b,hb,h⟩
  obtain⟨i,c,e⟩:=Qc hb;exact⟨i,List.mem_range.mpr c,by rw[eN c,e];exact h⟩
def jW(rev:Bool)(ns:Xj):Xj:=ns.mergeSort (λa b=>if rev then decide (b<=a) else decide (a<=b))
theorem Bl{rev:Bool}{ns':Xj}(hp:ns'.Perm ns)(ho:Ordered rev ns'):ns'=jW rev ns:=by
 have hs:JQ (λa b=>(if rev then decide (b<=a) else decide (a<=b))=aB) (jW rev ns):=by
  refine aRy ?_ ?_ ns
  .intro a b c;cases rev<;>simp<;>lia
  .intro a b;cases rev<;>simp<;>lia
 refine aRp ?_ ?_ hs<|hp.trans (LD _ _).symm
 .intro a b _ _;cases rev<;>simp<;>lia
 .unfold Ordered at ho;cases rev with
  |true=>exact JR (λh=>by simpa) (by simpa)|false=>exact JR (λh=>by simpa) (by simpa)
section
variable {Z:L2.St}
theorem VD(hc:X.calm=aB):iM X (.builtin "any") (λxs H Q=>∃(a:Addr) (bs:YL),xs=[.ref a]/\dH X.K H a (bs.map V.bl)/\Q (.bl<|bs.any id) H):=by
 intro pins s Z H xs us Q I r h;obtain⟨a,bs,rfl,g,q⟩:=h;obtain⟨u,rfl,j⟩:=r.one;cases j;obtain⟨l,m,p,z⟩:=I.list g;have e:=aNo m;subst e;have t:X.A.in1.handled=aD:=I.ok.hd hc;obtain⟨ob,h1,w,n,x⟩:=p.isList;refine call_any_walk<|ly p.isList ?_;refine⟨s.heap.objs.size,_,_,_,_,_,λi=>(bs[i]?).getD aG,rfl,Walks.list t s.heap.objs.size a (cA<|cW h1) (bs.map yA).toArray,⟨⟨_,fU _ rfl,rfl,rfl⟩,⟨ob,cT _ h1,w,n,x⟩⟩,λi v A B C c d=>?_,λD tk k=>?_⟩
 .dsimp only at c d;rw[KP,fH]at c;cases e:bs[i]? with
  |none=>rw[e]at c;cases c|some b=>rw[e]at c d;have f:=dR c;subst f;exact du d
 .have hl:(bs.map yA).toArray.size=bs.length:=by simp
  rw[hl,aIk];refine⟨.bl _,H,I.kept λb o e=>k b o ?_ (cT _ e),rfl,q⟩;intro hb;have y:b=s.heap.objs.size:=by simpa using hb
  subst y;exact absurd (cW e)<|lA _
theorem VT(b:Bool)(I:Inv X pins Z H s)(hq:dH X.K H l (ns.map V.int))(hn:ns.length<64)(q:∀D,H D=aD->Q (.ref D) (bF H D<|.lst<|(jW b ns).map V.int)) :
  aS (aZ X.prog X.w) X.A (call (.builtin "sorted") [.ref l] [(vR "reverse",.bool b)]) (EP X pins Z Q) X.xe s:=by
 obtain⟨a,c,p,k⟩:=I.list hq;have hl:a.length=ns.length:=by have:=c.length;simpa using this.symm
 refine sorted_ints_rev p.isList (Oa c) (by lia) λout f g d h=>?_;have e:=Bl d h;subst e;obtain⟨i,j⟩:=sortedAll_at s.heap a out;refine⟨.ref _,_,I.laid (o:=.lst ((jW b ns).map V.int)) (λb u z=>sortedAll_old z) (jL _) ⟨?_,out.toList,i,zl g,by rw[j]⟩,rfl,q _ (I.bA.fresh<|jL _)⟩;have:=d.length_eq;rw[aU];have:64<=sizeLine:=by decide
 lia
theorem BU(l:Addr)(d:Value):Builtin.min { pos:=[.ref l],kw:=[(vR "default",d)] }=(do
   let it <- vn (.ref l)
   let S <- newList []
   again (.builtin "min.loop" { pos:=[it,.none,S],kw:=[(vR "default",d)] })):=by
  with_unfolding_all rfl
theorem Vq(a d:Value):checkBuiltinCall "min" { pos:=[a],kw:=[(vR "default",d)] }=pure ():=by with_unfolding_all rfl
theorem M0(I S:Addr)(d:Value)(n:Str):∃k:Option (Array Value)->Sem Rg,Builtin.«min.loop» { pos:=[.ref I,.none,.ref S],kw:=[(n,d)] }=(cz (.ref S)>>=k) /\
  ∃(h:Value->Sem Xl) (k2:Xl->Sem Rg),k (aA #[])=((tryCatch (tO<|.ref I) h)>>=k2)/\k2 aD=(rule "min.default">>=λ_=>ret d):=by
 refine⟨_,by with_unfolding_all rfl,_,_,by with_unfolding_all rfl,by with_unfolding_all rfl⟩
theorem VQ(hc:X.calm=aB){d:Value}{v:V}(I:Inv X pins Z H s)(hq:dH X.K H l [])(rd:RelV v d)(q:Q v H) :
  aS (aZ X.prog X.w) X.A (call (.builtin "min") [.ref l] [(vR "default",d)]) (EP X pins Z Q) X.xe s:=by
 obtain⟨its,rv,p,hz⟩:=I.list hq;cases rv;have hh:=I.ok.hd hc;obtain⟨ob,h1,h2,n,h3⟩:=p.isList;refine vo<|NH MO ML ?_;rw[Vq];refine cB ?_;rw[BU];refine aM<|ly p.isList<|aM<|Tc ?_;refine cB ⟨JG _ (by decide +kernel),Ef Dy ?_⟩;obtain⟨k,e1,hd,k2,e2,e3⟩:=M0 s.heap.objs.size (s.heap.push { cls:=.type "list_iterator",data:=.fields #[.ref l,.int 0 0] }).objs.size d (vR "default");rw[e1];refine aM<|nT (fU _ rfl) rfl ?_;show aS _ _ (k<|aA #[]) _ _ _;rw[e2];refine aM<|vt<|Te (items:=#[]) (l:=l) (i:=0) hh ?_ ?_ rfl λh' eb=>?_
 .exact⟨_,cT _ (fU _ rfl),rfl,rfl⟩
 .exact⟨ob,cT _ (cT _ h1),h2,n,h3⟩
 .rw[e3];refine aM<|lz<|cB ?_;refine⟨v,H,I.kept (t':=s.toks) λb o e=>eb b o ?_ (cT _<|cT _ e),rd,q⟩;intro hb;subst hb;exact absurd (cW e)<|lA _
theorem CZ{x nm:Str}{id:String}{kp:Pos}{kc:aK}{t:TE}{z:V}{r:V->Hp->VK->Prop}(hc:∀pins s Z H v u zu Q,Inv X pins Z H s->RelV v u->RelV z zu->r v H Q->aS (aZ X.prog X.w) X.A (call (.builtin id) [u] [(nm,zu)]) (EP X pins Z Q) X.xe s)
  (hg:Gl X x)(hm:X.mg x=aD)(hv:mW x=aA (.builtin id))(ha:PE X e t)(hk:PE X kc (tC z))(hs:eI [e] X.env=[(aG,eval e X.env)])(hn:x≠"__name__":=by decide)(hdb:(x==("__debug__":Str))=aG:=by decide) :
  PE X (.Call (.Name x p) [e] [⟨aA nm,kc,kp⟩] pos) (λZ H Q=>t Z H λv H1=>r v H1 Q):=by
 intro pins s Z H Q I h;refine dh<|wY I hg hm hv ?_ hn hdb;have pa:=xA ha ae hs;have j:PK X [⟨aA nm,kc,kp⟩] (Nq (tC z) jf):=aAo hk aAp;obtain⟨y,rest,b⟩:∃y rest,lR pos (eI [e] X.env)=(aG,y)::rest:=by rw[hs];exact⟨_,_,rfl⟩
 have c:(lR pos<|eI [e] X.env).any (·.1)=aG:=by rw[hs];rfl
 refine callWith_builtin_kwB c rfl ?_;have h1:=pa pos pins s Z H (λa H1=>match a with
  |[v]=>r v H1 Q
  |_=>False) I h
 rw[b]at h1 ⊢;refine evalArgs_kw rfl ?_;refine bB h1 λus s1 d=>?_;obtain⟨a,H1,k,l,i⟩:=d;obtain⟨v,rfl⟩:∃v,a=[v]:=by
  match a,i with
  |[v],_=>exact⟨v,rfl⟩
 obtain⟨u,rfl,m⟩:=l.one;refine bB (j pos pins s1 Z H1 (λzs f=>zs=[z]/\f=H1) k ⟨rfl,rfl⟩) λws s2 d=>?_;obtain⟨zs,f,n,o,q,w⟩:=d;subst q w;obtain⟨zu,rfl,g⟩:=o.one;exact hc pins s2 Z f v u zu Q n m g i
end
def sR:Xj->Int
 |[]=>0
 |n::r=>r.foldl (λm x=>if x<m then x else m) n
theorem Js:∀(r:Xj) (n:Int),(r.foldl (λm x=>if x<m then x else m) n∈n::r)/\∀a∈n::r,r.foldl (λm x=>if x<m then x else m) n<=a
 |[],n=>by simp
 |x::r,n=>by
  obtain⟨h1,b⟩:=Js r (if x<n then x else n);rw[Dh];refine⟨?_,λa ha=>?_⟩
  .rcases List.mem_cons.mp h1 with e|e
   .rw[e];split<;>simp
   .exact jD _<|jD _ e
  .have c:=b _ (fV ..);have d:(if x<n then x else n)<=x/\(if x<n then x else n)<=n:=by split<;>lia
   rcases List.mem_cons.mp ha with rfl|ha
   .exact pM c d.2
   .rcases List.mem_cons.mp ha with rfl|ha
    .exact pM c d.1
    .exact b a<|jD _ ha
theorem Jt(h:ns≠[]):sR ns∈ns:=by
 cases ns with
 |nil=>exact absurd rfl h|cons n r=>exact(Js r n).1
theorem L7{a:Int}(h:a∈ns):sR ns<=a:=by
 cases ns with
 |nil=>cases h|cons n r=>exact(Js r n).2 a h
theorem L6{M:Int}(h1:M∈ns)(h2:∀a∈ns,M<=a):M=sR ns:=by have b:=L7 h1;have c:=h2 _ (Jt<|List.ne_nil_of_mem h1);lia
section
variable {R:Result->aI->Prop}{I:Addr}{fp wr:Xk}{P:Nat->Value->Prop}{St:Nat->bH->Prop}
theorem L8(nm:Str)(d:Value)(W:Walks prog w A.in1 I fp wr n P St)(bt:Nat->Nat->Bool)(Ih:CmpOf prog w A.in1 .Lt P bt)(S:Addr)(hSf:S∉fp) :
  ∀(k j:Nat) (s:aI) (vb:Value) (c:Nat),n-(j+1)=k->j+1<=n->St (j+1) s.heap->P (vT bt j) vb->s.heap.get? S=aA { cls:=.type "list",dict:=aD,data:=.seq #[vb,vb] c,slots:=#[] } ->
  (∀v h' tk,P (vT bt<|n-1) v->(∀b o,b∉wr->b≠S->s.heap.get? b=aA o->h'.get? b=aA o)->R (.ok<|.ret v) { s with heap:=h',toks:=tk }) ->
  tM (aZ prog w) A (.builtin "min.loop" ⟨[.ref I,.none,.ref S],[(nm,d)]⟩) R s:=by
 have hSw:S∉wr:=λh=>hSf (W.sub _ h);have yv:(toString "min"++toString ".loop":String)="min.loop":=by decide
 intro k;induction k with
 |zero=>
  intro j s vb c hk hj hst hPb hS hR;have hin:j+1=n:=by omega
  refine Ef Dy ?_;rw[Pf kr _];show aS _ A.in1 (cz (.ref S)>>=_) _ _ s;refine aM<|nT hS rfl ?_;show aS _ A.in1 (tryCatch (tO<|.ref I) _>>=_) _ _ s;refine aM<|vt<|W.done s _ _ (hin▸hst) λh' tk hk'=>?_;have hS':=hk' S _ hSw hS;show aS _ A.in1 (updateSeq S (λ_=>#[])>>=_) _ _ _;refine aM ?_;refine Tf hS' rfl<|aM<|dk<|cB ?_;exact hR vb _ tk (by rw[<- hin];exact hPb) λb o hbw hbS e=>(bj _ _<|mK hbS).trans (hk' b o hbw e)
 |succ k ih=>
  intro j s vb c hk hj hst hPb hS hR;have eB:j+1<n:=by omega
  refine Ef Dy ?_;rw[Pf kr _];show aS _ A.in1 (cz (.ref S)>>=_) _ _ s;refine aM<|nT hS rfl ?_;show aS _ A.in1 (tryCatch (tO<|.ref I) _>>=_) _ _ s;refine aM<|vt<|W.item (j+1) s _ _ eB hst λv h' tk hP hst' hk'=>?_;have hS':=hk' S _ hSw hS;show aS _ A.in1 (tryCatch (lj [v,v]<|richCompare .Lt v vb>>=_) _>>=_) _ _ _;refine aM<|vt<|oT<|aM<|Ih (j+1) (vT bt j) v vb _ _ _ hP hPb ?_;refine aM<|oT<|du ?_;refine aM<|dk<|cB ?_;cases hb:bt (j+1) (vT bt j) with
  |true=>
   simp only[if_true];refine aM ?_;refine Tf hS' rfl<|aM<|dk ?_;rw[yv];refine cB ⟨Ss kr _,ih (j+1) _ v _ (by omega) eB (W.frame _ _ _ hst' λb hbf o e=>?_) (by simp only[vT,hb,if_true];exact hP) (uv _ hS' rfl) λv' h'' tk'' hP' hk''=>?_⟩
   .exact(bj _ _ (λh:S=b=>hSf (by rw[h];exact hbf))).trans e
   .exact hR v' h'' tk'' hP' λb o hbw hbS e=>hk'' b o hbw hbS ((bj _ _<|mK hbS).trans (hk' b o hbw e))
  |false=>simp only[Cr,if_false];refine aM<|dk ?_;rw[yv];refine cB ⟨Ss kr _,ih (j+1) _ vb c (by omega) eB hst' (by simp only[vT,hb,Cr,if_false];exact hPb) hS' λv' h'' tk'' hP' hk''=>?_⟩;exact hR v' h'' tk'' hP' λb o hbw hbS e=>hk'' b o hbw hbS (hk' b o hbw e)
theorem L9(nm:Str)(d:Value)(W:Walks prog w A.in1 I fp wr n P St)(bt:Nat->Nat->Bool)(Ih:CmpOf prog w A.in1 .Lt P bt)(S:Addr)(hSf:S∉fp)(hn:0<n){c:Nat}(hst:St 0 s.heap)
  (hS:s.heap.get? S=aA { cls:=.type "list",dict:=aD,data:=.seq #[] c,slots:=#[] })
  (hR:∀v h' tk,P (vT bt<|n-1) v->(∀b o,b∉wr->b≠S->s.heap.get? b=aA o->h'.get? b=aA o)->R (.ok<|.ret v) { s with heap:=h',toks:=tk }) :
  tM (aZ prog w) A (.builtin "min.loop" ⟨[.ref I,.none,.ref S],[(nm,d)]⟩) R s:=by
 have hSw:S∉wr:=λh=>hSf (W.sub _ h);have yv:(toString "min"++toString ".loop":String)="min.loop":=by decide
 refine Ef Dy ?_;rw[Pf kr _];show aS _ A.in1 (cz (.ref S)>>=_) _ _ s;refine aM<|nT hS rfl ?_;show aS _ A.in1 (tryCatch (tO<|.ref I) _>>=_) _ _ s;refine aM<|vt<|W.item 0 s _ _ hn hst λv h' tk hP hst' hk'=>?_;have hS':=hk' S _ hSw hS;show aS _ A.in1 (updateSeq S (λ_=>#[v,v])>>=_) _ _ _;refine aM ?_;refine Tf hS' rfl ?_;rw[yv];refine cB ⟨Ss kr _,L8 nm d W bt Ih S hSf _ 0 _ v _ rfl hn (W.frame _ _ _ hst' λb hbf o e=>?_) hP (uv _ hS' rfl) λv' h'' tk'' hP' hk''=>?_⟩
 .exact(bj _ _ (λh:S=b=>hSf (by rw[h];exact hbf))).trans e
 .exact hR v' h'' tk'' hP' λb o hbw hbS e=>hk'' b o hbw hbS ((bj _ _<|mK hbS).trans (hk' b o hbw e))
end
section
variable {Z:L2.St}
theorem VR(hc:X.calm=aB){d:Value}(I:Inv X pins Z H s)(hq:dH X.K H l (ns.map V.int))(hne:ns≠[])(q:Q (.int<|sR ns) H) :
  aS (aZ X.prog X.w) X.A (call (.builtin "min") [.ref l] [(vR "default",d)]) (EP X pins Z Q) X.xe s:=by
 obtain⟨its,rv,p,hz⟩:=I.list hq;have hi:=Oa rv;have hh:=I.ok.hd hc;obtain⟨xs,e⟩:=hi.allInts.items;have hns:ns=xs.toList.map (·.1):=by rw[<- hi.numsOf,<- nums_intItems,<- e]
 have hsz:0<xs.size:=by have:ns.length≠0:=λz=>hne (De z);rw[hns,aU,xO]at this;lia
 have hl:s.heap.IsList l (vm xs):=by rw[<- e];exact p.isList
 obtain⟨ob,h1,h2,n,h3⟩:=id hl;refine vo<|NH MO ML ?_;rw[Vq];refine cB ?_;rw[BU];refine aM<|ly hl<|aM<|Tc ?_;have eB:=cW h1;refine cB ⟨JG _ (by decide +kernel),?_⟩;refine L9 (vR "default") d (Walks.list (A:=X.A.in1) hh s.heap.objs.size l (cA eB)<|vm xs) (λi j=>decide (vV xs i<vV xs j)) (CmpOf.ints_lt (vV xs)<|λ_ _=>intItems_at) _ ?_ (by simpa[vm]using hsz) ?_ (fU _ rfl) λv h' tk hP hk=>?_
 .intro hm;have hs2:(s.heap.push { cls:=.type "list_iterator",data:=.fields #[.ref l,.int 0 0] }).objs.size=s.heap.objs.size+1:=rQ ..;rw[hs2]at hm;simp only[kL,kM,or_false]at hm;rcases hm with hm|hm
  .exact absurd hm<|lQ<|dA _
  .exact absurd hm<|lQ<|kN eB
 .exact⟨⟨_,cT _ (fU _ rfl),rfl,rfl⟩,ob,cT _ (cT _ h1),h2,n,h3⟩
 .have hP':(vm xs)[vT (λi j=>decide (vV xs i<vV xs j)) (xs.size-1)]?=aA v:=by simpa[vm]using hP
  obtain⟨t,rfl⟩:=intItems_at hP';obtain⟨b1,b2⟩:=argBest_lt (vV xs) (xs.size-1);have em:vV xs (vT (λi j=>decide (vV xs i<vV xs j))<|xs.size-1)=sR ns:=by
   refine L6 ?_ λa ha=>?_
   .rw[hns,numAt_eq];exact getD_mem (by rw[aU,xO];lia)
   .rw[hns]at ha;obtain⟨j,hj,rfl⟩:=mem_getD ha;rw[aU,xO]at hj;rw[<- numAt_eq];exact b2 j (by omega)
  rw[em];refine⟨.int (sR ns),H,I.kept (t':=tk) λb o e=>hk b o ?_ ?_ (cT _<|cT _ e),⟨t,rfl⟩,q⟩
  .intro hm;simp only[kL,kM,or_false]at hm;exact absurd hm<|cA<|cW e
  .have:=cW e;have hs2:(s.heap.push { cls:=.type "list_iterator",data:=.fields #[.ref l,.int 0 0] }).objs.size=s.heap.objs.size+1:=rQ ..;rw[hs2];exact cA<|kN this
theorem Zw:∀{us:He}{ns:Xj},us.length=ns.length->(∀(j:Nat) v n,us[j]?=aA v->ns[j]?=aA n->∃t,v=vS n t)->vM us ns
 |[],[],_,_=>.nil
 |u::us,n::ns,hl,h=>by obtain⟨t,rfl⟩:=h 0 u n rfl rfl;exact .cons n t<|Zw (by simpa using hl) λj v m a b=>h (j+1) v m (by simpa) (by simpa)
 |[],_::_,hl,_=>by simp at hl
 |_::_,[],hl,_=>by simp at hl
theorem VS(hc:X.calm=aB):iM X (.builtin "sorted") (λxs H Q=>∃(a:Addr) (kvs:List (aP×V)) (ns:Xj),xs=[.ref a]/\H a=aA (.dK kvs)/\kvs.map (·.1)=ns.map nR/\ns.length<64/\∀D,H D=aD->Q (.ref D) (bF H D<|.lst<|(jW aG ns).map V.int)):=by
 intro pins s Z H xs us Q I r h;obtain⟨a,kvs,ns,rfl,ha,f,hn,q⟩:=h;obtain⟨u,rfl,B⟩:=r.one;cases B;obtain⟨z,y,m,p,ob,C,E,F,G,J,K⟩:=I.bA a _ ha;have L:Pl (gK X.prog X.w) s.heap a m E:=⟨ob,C,F,G,J,K⟩;have M:kvs.length=ns.length:=by simpa using congrArg KW f
 have N:=p.length;have O:=I.ok.hd hc;refine Calls.call_function_entry kind_sorted plain_sorted entry_sorted (args_sorted1 _) ?_;refine aM<|cB ?_;refine aM<|W.kdu_collect (MU y) O L (by lia) λg tk acc P c=>?_;have t:vM acc.toList ns:=Zw (by rw[xO,c.1];lia) λj v n R i=>by
  obtain⟨k,x,S,T⟩:=c.2 j v (by rw[<- Ph];exact R);obtain⟨YO,U⟩:=Jd p S;have w:(kvs.map (·.1))[j]?=aA k:=by rw[fH,U];rfl
  rw[f,fH,i]at w;have W:=(dR w).symm;subst W;exact Ja (k:=nR n) T
 have hlen:=t.length;refine aM<|Tc ?_ (by lia);have d:(g.push<|seqObj "list" acc.toList.toArray 0).get? g.objs.size=aA (seqObj "list" acc.toList.toArray 0):=fU _ rfl;refine aM<|oT<|yH slot_list_sort ⟨_,d,rfl⟩ entry_list_sort (list_sort_tree d t (by lia) λout Y a1 a2 a3=>⟨_,rfl,?_⟩)<|args_list_sort _;have e:=Bl (rev:=aG) a2 (by unfold Ordered;simpa);subst e;obtain⟨i,l⟩:=sortedHeap_at d;have A:Inv X pins Z H { s with heap:=g,toks:=tk }:=I.kept P;refine cB ⟨_,rfl,.ref _,_,A.laid (o:=.lst ((jW aG ns).map V.int)) (λb u h1=>?_) (aV _) ⟨?_,out.toList,i,zl a1,by rw[l]⟩,rfl,q _ (A.bA.fresh<|aV _)⟩
 .have h1:=h1;rw[sortedHeap_old (cA<|cW h1) (by rw[size_push'];exact kN<|cW h1),cT _ h1]
 .have:=a2.length_eq;rw[aU];lia
theorem VU:iM X (.builtin "sorted") (λxs H Q=>∃(a:Addr) (ns:Xj),xs=[.ref a]/\dH X.K H a (ns.map V.int)/\ns.length<64/\∀D,H D=aD->Q (.ref D) (bF H D<|.lst<|(jW aG ns).map V.int)):=by
 intro pins s Z H xs us Q I r h;obtain⟨l,ns,rfl,g,hn,q⟩:=h;obtain⟨u,rfl,i⟩:=r.one;cases i;obtain⟨c,d,p,t⟩:=I.list g;have hl:c.length=ns.length:=by have:=d.length;simpa using this.symm
 refine sorted_ints p.isList (Oa d) (by lia) λout j k f v=>?_;have e:=Bl (rev:=aG) f (by unfold Ordered;simpa);subst e;obtain⟨m,n⟩:=sortedAll_at s.heap c out;refine⟨.ref _,_,I.laid (o:=.lst ((jW aG ns).map V.int)) (λb u z=>sortedAll_old z) (jL _) ⟨?_,out.toList,m,zl k,by rw[n]⟩,rfl,q _ (I.bA.fresh<|jL _)⟩;have:=f.length_eq;rw[aU];have:64<=sizeLine:=by decide
 lia
variable {k:Nat}{f:Addr}
variable {kS:Addr}{us:He}{ks:Xj}{keys:Xq}{e e1:Nat}{E:Value->aI->Prop}{P:Rg->aI->Prop}
end
theorem aNn{us:He}:∀{ys:Hg},us.length=ys.length->(∀(j:Nat) v y,us[j]?=aA v->ys[j]?=aA y->RelV y v)->Vals ys us:=by
 induction us with
 |nil=>intro ys hl _;cases ys with
  |nil=>exact .nil|cons _ _=>simp at hl
 |cons u us a=>intro ys hl h;cases ys with
  |nil=>simp at hl|cons y ys=>exact .cons (h 0 u y rfl rfl)<|a (by simpa using hl) λj v z b c=>h (j+1) v z (by simpa) (by simpa)
theorem VM(hc:X.calm=aB):iM X (.type "list") (λxs H Q=>∃(a:Addr) (kvs:List (aP×V)),xs=[.ref a]/\H a=aA (.dK kvs)/\∀D,H D=aD->Q (.ref D) (bF H D<|.lst<|kvs.map λp=>kV p.1)):=by intro pins s Z H xs us Q I r h;obtain⟨a,kvs,rfl,ha,q⟩:=h;obtain⟨u,rfl,f⟩:=r.one;cases f;obtain⟨z,y,c,d,ob,g,i,l,m,n,t⟩:=I.bA a _ ha;have w:Pl (gK X.prog X.w) s.heap a c i:=⟨ob,g,l,m,n,t⟩;have A:=d.length;refine W.kdl_call (MU y) (I.ok.hd hc) w (by lia) λL tk acc B C E b=>?_;refine⟨.ref s.heap.objs.size,_,I.laid (o:=.lst (kvs.map λp=>kV p.1)) C (aV _) ⟨by rw[aU];exact z,acc.toList,B,aNn (by rw[xO,b.1,aU];lia) λj v y F e=>?_,E⟩,rfl,q _ (I.bA.fresh<|aV _)⟩;obtain⟨k,x,G,J⟩:=b.2 j v (by rw[<- Ph];exact F);obtain⟨M,K⟩:=Jd d G;rw[fH,K]at e;cases e;exact Ja J
section
variable {E:Value->aI->Prop}
theorem N5{t:Addr}{i:Nat}{x:Value}{Q:Value->aI->Prop}(u1:s.heap.IsTupleIter it t i)(u2:s.heap.IsTuple t items)(gx:items[i]?=aA x)
  (hQ:∀h',h'.IsTupleIter it t (i+1)->xR it s.heap h'->Q x { s with heap:=h' }):aS (aZ prog w) A (rO<|.ref it) Q E s:=by
 obtain⟨o,a,b,d1⟩:=id u1;obtain⟨d,c,_,e,d2⟩:=u2;refine aM<|di u1.typeIs xQ<|yH xQ u1.typeIs Cv ?_<|Cu _;show aS _ _ (tN (.ref it) 0>>=_) _ _ s;refine aM<|kO a d1 rfl ?_;show aS _ _ (if(lB t==vi)=aB then _ else _) _ _ s;rw[if_neg (show¬((lB t==vi)=aB) from gR)];show aS _ _ (tN (.ref it) 1>>=_) _ _ s;refine aM<|kO a d1 rfl ?_;show aS _ _ (cz (.ref t)>>=_) _ _ s;refine aM<|nT c d2 ?_;simp only[oR,gx];refine aM<|Em a d1 (by simp)<|cB ⟨x,rfl,cB (hQ _ ?_ (Cy ..))⟩;exact⟨_,uv _ a (LX<|Dt d1 _),(LW ..).trans b,by rw[Dt d1];simp[yF]⟩
theorem BX{t:Addr}{i:Nat}{Q:Value->aI->Prop}(hh:A.handled=aD)(u1:s.heap.IsTupleIter it t i)(u2:s.heap.IsTuple t items)(gx:items[i]?=aD)
  (hE:∀h' e,kg it s.heap h'->(∃o,h'.get? e=aA o/\o.cls = .type "StopIteration")->E (.ref e) { s with heap:=h' }):aS (aZ prog w) A (rO<|.ref it) Q E s:=by
 obtain⟨o,e1,c1,d1⟩:=id u1;obtain⟨p2,e2,_,n2,d2⟩:=u2;unfold rO;refine aM<|di (name:=vR "__next__") u1.typeIs xQ<|yH xQ u1.typeIs Cv ?_<|Cu _;show aS _ _ (tN (.ref it) 0>>=_) _ _ s;refine aM<|kO e1 d1 rfl ?_;show aS _ _ (if(lB t==vi)=aB then _ else _) _ _ s;rw[if_neg (show¬((lB t==vi)=aB) from gR)];show aS _ _ (tN (.ref it) 1>>=_) _ _ s;refine aM<|kO e1 d1 rfl ?_;show aS _ _ (cz (.ref t)>>=_) _ _ s;refine aM<|nT e2 d2 ?_;simp only[oR,gx];refine aM<|lz<|aM<|Em e1 d1 (by simp) ?_;show aS _ _ (newExc (.type "StopIteration") []>>=_) _ _ _;refine aM ?_;simp only[newExc];refine aM<|tQ ?_ (by size_fits);refine aM (m:=NI _ _)<|Td (by first|rfl|(simp only[NI];rfl)) ?_;refine tQ ?_ (by size_fits);simp only[raiseNew];refine aM<|NS ?_;(first|rw[show A.in1.handled=aD from hh] | rw[hh]);refine aM<|cB<|wpAny_throw ?_;exact hE _ _ (((Cy ..).extBut.push _).push _) ⟨_,fU _ rfl,rfl⟩
end
theorem XT(hh:A.handled=aD)(it l:Addr)(hne:l≠it)(items:Xq):Draws prog w A it [it,l] items.size (λi v=>items[i]?=aA v) (λi h=>h.IsTupleIter it l i/\h.IsTuple l items) where
 live:=λ_ _ u=>u.1.elim λo p=>⟨o,p.1⟩
 frame:=λ_ _ _ st c=>⟨st.1.at λo e=>c it (.head _) o e,let ⟨o,f,r⟩:=st.2;⟨o,c l (.tail _<|.head _) o f,r⟩⟩
 item:=λi s Q E d st g=>N5 st.1 st.2 (x:=items[i]) (by simp[d]) λj a b=>g _ j s.toks (by simp[d]) ⟨a,st.2.extBut b.extBut hne⟩ b
 done:=λs Q E st k=>BX hh st.1 st.2 (by simp) k
abbrev ql(l:Addr):Obj:={ cls:=.type "tuple_iterator",data:=.fields #[.ref l,.int 0 0] }
abbrev Gz(n:Addr):Obj:={ cls:=.type "enumerate",data:=.fields #[.none,.bool aG,.ref n,yF 0,.none,.none] }
theorem L0(l:Addr)(items:Xq)(n:Nat)(aR:YM)(sl:YJ) :
  Meets (Builtin.«enumerate.__new__» ⟨[.type "enumerate",.ref l],[]⟩) (λ_ R s=>s.heap.get? l=aA { cls:=.type "tuple",dict:=aR,data:=.seq items n,slots:=sl } /\
   R (.ok<|.ret<|.ref (s.heap.push<|ql l).objs.size)
    { s with heap:=(s.heap.push<|ql l).push (Gz s.heap.objs.size) }):=
 .of_wp λprog w A R s h=>by
  obtain⟨hp,g,d,tk,os⟩:=s;obtain⟨e1,h⟩:=h;have sb:=sub_enumerate;have v1:Heap.IsTuple (Sa ⟨hp,g,d,tk,os⟩) l items:=⟨_,e1,rfl,n,rfl⟩;wp_walk using Cq e1
  refine wpAny_stack_any λst=>cB ?_;split
  .rename_i c _ _ _ _ _;cases(c==Sb "enumerate")
   .wp_walk using Cq e1,vq v1
    exact⟨_,rfl,h⟩
   .wp_walk using Cq e1,vq v1
    exact⟨_,rfl,h⟩
  .wp_walk using Cq e1,vq v1
   exact⟨_,rfl,h⟩
theorem VG{E:Value->aI->Prop}{Q:Value->aI->Prop}(v1:s.heap.IsTuple l items)
  (h:∀h',IsEnum h' (s.heap.objs.size+1) s.heap.objs.size 0 .none->h'.IsTupleIter s.heap.objs.size l 0->h'.objs.size=s.heap.objs.size+2->(∀b o,s.heap.get? b=aA o->h'.get? b=aA o)->Q (.ref<|s.heap.objs.size+1) { s with heap:=h' }):aS (aZ prog w) A (call (.type "enumerate") [.ref l]) Q E s:=by
 obtain⟨⟨c,aR,dt,sl⟩,e1,c1,n,d1⟩:=v1;cases(c1);cases(d1);refine ND F.called_enumerate (rfl) (F.typeCall_enumerate_1 _) (F.newCall_enumerate_1 _) (λobj=>F.args_object_init_2 obj _) F.entry_enumerate_new (L0 l items n aR sl) ⟨e1,?_⟩;have z1:(s.heap.push<|ql l).objs.size=s.heap.objs.size+1:=rQ ..;rw[z1];have q1:IsEnum ((s.heap.push<|ql l).push
   (Gz s.heap.objs.size)) (s.heap.objs.size+1) s.heap.objs.size 0 .none:=by
  have:=fU (s.heap.push<|ql l)
   (o:=(Gz s.heap.objs.size)) rfl
  rw[z1]at this;exact this
 exact⟨⟨_,q1,rfl⟩,h _ q1 ⟨_,cT _ (fU _ rfl),rfl,rfl⟩ (by rw[rQ,z1]) λb o x=>cT _ (cT _ x)⟩
inductive AV where
 |aH|bl (b:Bool)|int (i:Int)|str (x:Str)|tup (xs:List AV)|ref (n:Nat)|lI (kvs:Xu)
 deriving Inhabited
abbrev _root_.Hd:=List AV
abbrev _root_.Xs:=List (Str×AV)
variable {dv xs:Hd}{kvs:List (aP×AV)}{v x y:AV}
inductive bG where
 |lst (mu:Bool) (xs:Hd)
 |aR (kvs:List (aP×AV))
 |dD (kvs:List (aP×AV))
 |ins (c:Nat) (fs:Xs)
variable {o:bG}
def bG.mu:bG->Bool
 |.lst m _=>m
 |_=>aB
structure AH where
 nx:Nat
 ob:Nat->Option bG
variable {R:AV->AH->Prop}{h:AH}
def AH.put(h:AH)(n:Nat)(o:bG):AH:=⟨h.nx,λm=>if m=n then aA o else h.ob m⟩
def AH.new(h:AH)(o:bG):AH:=⟨h.nx+1,λm=>if m=h.nx then aA o else h.ob m⟩
inductive Res(α:Type) where
 |ok (a:α) (h:AH)
 |bad
abbrev M(α:Type):=AH->Res α
variable {dp:Nat->Option (Hd->M AV)}{g':AV->AV->M AV}
def M.ret{α:Type}(a:α):M α:=λh=>.ok a h
def M.bad{α:Type}:M α:=λ_=>.bad
def M.bind{α β:Type}(m:M α)(k:α->M β):M β:=λh=>match m h with
 |.ok a h'=>k a h'
 |.bad=>.bad
def M.guard{α:Type}(p:Prop) [Decidable p] (m:M α):M α:=λh=>if p then m h else .bad
structure Tab where
 K:bI
 G:Xu->Addr->Prop
 C:Nat->YM
variable {T:Tab}
mutual
inductive aW(T:Tab)(Y:Xk)(H:Hp):AV->V->Prop where
 |aH:aW T Y H .aH .aH
 |bl (b:Bool):aW T Y H (.bl b) (.bl b)
 |int (i:Int):aW T Y H (.int i) (.int i)
 |str (x:Str):aW T Y H (.str x) (.str x)
 |tup {a:Addr}{xs:Hd}{ys:Hg} (hq:eD T.K H a ys) (hr:bE T Y H xs ys):aW T Y H (.tup xs) (.ref a)
 |ref {n:Nat}{a:Addr} (e:Y[n]?=aA a):aW T Y H (.ref n) (.ref a)
 |lI {kvs:Xu}{a:Addr} (e:T.G kvs a):aW T Y H (.lI kvs) (.ref a)
inductive bE(T:Tab)(Y:Xk)(H:Hp):Hd->Hg->Prop where
 |nil:bE T Y H [] []
 |cons {x:AV}{y:V}{xs:Hd}{ys:Hg} (h:aW T Y H x y) (hs:bE T Y H xs ys):bE T Y H (x::xs) (y::ys)
end
structure Ext(Y:Xk)(H:Hp)(Y':Xk)(H':Hp):Prop where
 pre:∀(n:Nat) a,Y[n]?=aA a->Y'[n]?=aA a
 tup:∀b xs,H b=aA (.tup xs)->H' b=aA (.tup xs)
 dC:∀b o u,H b=aA (.dC o u)->H' b=aA (.dC o u)
theorem Ext.refl:Ext Y H Y H:=⟨λ_ _ e=>e,λ_ _ e=>e,λ_ _ _ e=>e⟩
theorem Ext.trans{Y1 Y2:Xk}{H1 H2:Hp}(a:Ext Y H Y1 H1)(b:Ext Y1 H1 Y2 H2):Ext Y H Y2 H2:=
 ⟨λn x e=>b.pre n x (a.pre n x e),λn x e=>b.tup n x (a.tup n x e),λn x u e=>b.dC n x u (a.dC n x u e)⟩
theorem Ext.ug{K:bI}(e:Ext Y H Y' H'){xs:Hg}(h:eD K H a xs):eD K H' a xs:=by
 rcases h with(h|⟨o,h⟩)|h
 .exact .inl<|.inl<|e.tup _ _ h
 .exact .inl<|.inr ⟨o,e.dC _ _ _ h⟩
 .exact .inr h
mutual
theorem aW.ext{T:Tab}{Y Y':Xk}{H H':Hp}(e:Ext Y H Y' H'):∀{x:AV}{y:V},aW T Y H x y->aW T Y' H' x y
 |_,_,.aH=>.aH
 |_,_,.bl b=>.bl b
 |_,_,.int i=>.int i
 |_,_,.str x=>.str x
 |_,_,.tup a hr=>.tup (e.ug a) (bE.ext e hr)
 |_,_,.ref q=>.ref (e.pre _ _ q)
 |_,_,.lI q=>.lI q
theorem bE.ext{T:Tab}{Y Y':Xk}{H H':Hp}(e:Ext Y H Y' H'):∀{xs:Hd}{ys:Hg},bE T Y H xs ys->bE T Y' H' xs ys
 |_,_,.nil=>.nil
 |_,_,.cons h hs=>.cons (aW.ext e h) (bE.ext e hs)
end
theorem bE.length{T:Tab}{Y:Xk}{H:Hp}:∀{xs:Hd}{ys:Hg},bE T Y H xs ys->xs.length=ys.length
 |_,_,.nil=>rfl|_,_,.cons _ hs=>congrArg (·+1) hs.length
theorem bE.get{T:Tab}{Y:Xk}{H:Hp}:∀{xs:Hd}{ys:Hg}{i:Nat}{x:AV},bE T Y H xs ys->xs[i]?=aA x->∃y,ys[i]?=aA y/\aW T Y H x y
 |_,_,_,_,.nil,e=>by simp at e
 |_,_,0,_,.cons h _,e=>by simp at e;subst e;exact⟨_,rfl,h⟩
 |_,_,i+1,x,.cons _ hs,e=>by obtain⟨y,h1,a⟩:=bE.get hs (by simpa);exact⟨y,by simpa using h1,a⟩
theorem bE.append{T:Tab}{Y:Xk}{H:Hp}:∀{xs zs:Hd}{ys ws:Hg},bE T Y H xs ys->bE T Y H zs ws->bE T Y H (xs++zs) (ys++ws)
 |_,_,_,_,.nil,s=>s
 |_,_,_,_,.cons h hs,s=>.cons h (bE.append hs s)
theorem bE.set{T:Tab}{Y:Xk}{H:Hp}{x:AV}{y:V}(r:aW T Y H x y):∀{xs:Hd}{ys:Hg} (i:Nat),bE T Y H xs ys->bE T Y H (xs.set i x) (ys.set i y)
 |_,_,_,.nil=>.nil
 |_,_,0,.cons _ t=>.cons r t
 |_,_,i+1,.cons q t=>.cons q (bE.set r i t)
theorem bE.take{T:Tab}{Y:Xk}{H:Hp}:∀{xs:Hd}{ys:Hg} (n:Nat),bE T Y H xs ys->bE T Y H (xs.take n) (ys.take n)
 |_,_,0,_=>.nil
 |_,_,_+1,.nil=>.nil
 |_,_,n+1,.cons r t=>.cons r (bE.take n t)
theorem bE.drop{T:Tab}{Y:Xk}{H:Hp}:∀{xs:Hd}{ys:Hg} (n:Nat),bE T Y H xs ys->bE T Y H (xs.drop n) (ys.drop n)
 |_,_,0,r=>r
 |_,_,_+1,.nil=>.nil
 |_,_,n+1,.cons _ t=>bE.drop n t
theorem bE.ints{T:Tab}{Y:Xk}{H:Hp}:∀(ns:Xj),bE T Y H (ns.map AV.int) (ns.map V.int)
 |[]=>.nil
 |n::ns=>.cons (.int n) (bE.ints ns)
def pR(K:bI)(H:Hp)(a:Addr)(xs:Hg):Prop:=
 (∃o,H a=aA (.dC o<|.lst xs)) \/
  ∃(o:Obj) (its:Xq) (n:Nat),K.lookup a=aA o/\o.cls = .type "list"/\o.dict=aD/\o.data = .seq its n/\its.size<=sizeLine/\Vals xs its.toList
theorem pR.sq{K:bI}{xs:Hg}(h:pR K H a xs):dH K H a xs:=by
 rcases h with h|h
 .exact .inl<|.inr h
 .exact .inr h
theorem pR.ext{K:bI}{xs:Hg}(e:Ext Y H Y' H')(h:pR K H a xs):pR K H' a xs:=by
 rcases h with⟨o,h⟩|h
 .exact .inl ⟨o,e.dC _ _ _ h⟩
 .exact .inr h
def nX(T:Tab)(Y:Xk)(H:Hp)(a:Addr):bG->Prop
 |.lst aB xs=>∃ys,H a=aA (.lst ys)/\bE T Y H xs ys
 |.lst aG xs=>∃ys,pR T.K H a ys/\bE T Y H xs ys
 |.aR kvs=>∃ks ys,H a=aA (.dK<|ks.zip ys)/\ks=kvs.map (·.1)/\bE T Y H (kvs.map (·.2)) ys
 |.dD kvs=>∃o ks ys,H a=aA (.dC o<|.dK<|ks.zip ys)/\ks=kvs.map (·.1)/\bE T Y H (kvs.map (·.2)) ys
 |.ins c fs=>∃C dx ks ys,T.C c=aA C/\H a=aA (.ins C dx<|ks.zip ys)/\ks=fs.map (·.1)/\bE T Y H (fs.map (·.2)) ys
theorem nX.ext{T:Tab}{Y Y':Xk}{H H':Hp}{a:Addr}{o:bG}(r:nX T Y H a o)(e:Ext Y H Y' H')(k:o.mu=aB->H' a=H a):nX T Y' H' a o:=by
 cases o with
 |lst m xs=>
  cases m with
  |true=>obtain⟨b,h,r⟩:=r;exact⟨b,by rw[k rfl];exact h,r.ext e⟩|false=>obtain⟨b,h,r⟩:=r;exact⟨b,h.ext e,r.ext e⟩
 |aR g=>obtain⟨d,b,h,f,r⟩:=r;exact⟨d,b,by rw[k rfl];exact h,f,r.ext e⟩|dD g=>obtain⟨o,d,b,h,f,r⟩:=r;exact⟨o,d,b,by rw[k rfl];exact h,f,r.ext e⟩|ins c fs=>obtain⟨C,i,d,b,j,h,f,r⟩:=r;exact⟨C,i,d,b,j,by rw[k rfl];exact h,f,r.ext e⟩
structure bP(T:Tab)(Y:Xk)(h:AH)(H:Hp):Prop where
 len:Y.length=h.nx
 qG:∀(n:Nat) o,h.ob n=aA o->n<h.nx
 obj:∀(n:Nat) o a,h.ob n=aA o->Y[n]?=aA a->nX T Y H a o
 inj:∀(n m:Nat) a o u,h.ob n=aA o->h.ob m=aA u->o.mu=aB->u.mu=aB->Y[n]?=aA a->Y[m]?=aA a->n=m
theorem bP.at(R:bP T Y h H){n:Nat}{o:bG}(e:h.ob n=aA o):∃a,Y[n]?=aA a/\nX T Y H a o:=by have hn:=R.qG n o e;rw[<- R.len]at hn;exact⟨Y[n],by simp[hn],R.obj n o _ e (by simp[hn])⟩
theorem Jz(r:nX T Y H a o)(m:o.mu=aB):∃u,H a=aA u:=by
 cases o with
 |lst k xs=>
  cases k with
  |true=>obtain⟨b,h,_⟩:=r;exact⟨_,h⟩|false=>cases m
 |aR d=>obtain⟨e,b,h,_⟩:=r;exact⟨_,h⟩|dD d=>obtain⟨o,e,b,h,_⟩:=r;exact⟨_,h⟩|ins c fs=>obtain⟨C,f,e,b,_,h,_⟩:=r;exact⟨_,h⟩
theorem Ext.jK{o:HO}(hn:H a=aD):Ext Y H Y (bF H a o):=
 ⟨λ_ _ e=>e,λb xs e=>by rw[bZ (jS e hn)];exact e,λb u xs e=>by rw[bZ (jS e hn)];exact e⟩
theorem bP.keep(R:bP T Y h H){o:HO}(hn:H a=aD):bP T Y h (bF H a o):=
 ⟨R.len,R.qG,λn u b e q=>(R.obj n u b e q).ext (.jK hn) λm=>by obtain⟨w,hw⟩:=Jz (R.obj n u b e q) m;rw[bZ (jS hw hn)],R.inj⟩
theorem bP.alloc(R:bP T Y h H)(hn:H a=aD)(ho:nX T (Y++[a]) (bF H a O) a o):bP T (Y++[a]) (h.new o) (bF H a O)/\Ext Y H (Y++[a]) (bF H a O):=by
 have ex:Ext Y H (Y++[a]) (bF H a O):=⟨λn x e=>by have hl:=(List.getElem?_eq_some_iff.mp e).1;rw[xU hl];exact e,(Ext.jK (Y:=Y) hn).tup,(Ext.jK (Y:=Y) hn).dC⟩
 have old:∀{n:Nat}{b:Addr},n<h.nx->(Y++[a])[n]?=aA b->Y[n]?=aA b:=λ{n b} hl e=>by rw[xU (R.len▸hl)]at e;exact e
 have at_:∀{b:Addr},(Y++[a])[h.nx]?=aA b->b=a:=λ{b} e=>by rw[<- R.len]at e;simp at e;exact e.symm
 refine⟨⟨by simp[AH.new,R.len],λn u e=>?_,λn u b e q=>?_,λn m b u v f d l p i j=>?_⟩,ex⟩
 .simp only[AH.new]at e ⊢;by_cases c:n=h.nx
  .lia
  .rw[if_neg c]at e;have:=R.qG n u e;lia
 .simp only[AH.new]at e;by_cases c:n=h.nx
  .rw[if_pos c]at e;cases e;subst c;rw[at_ q];exact ho
  .rw[if_neg c]at e;have r:=old (R.qG n u e) q;refine(R.obj n u b e r).ext ex λm=>?_;obtain⟨w,hw⟩:=Jz (R.obj n u b e r) m;rw[bZ (jS hw hn)]
 .simp only[AH.new]at f d;have no:∀{k:Nat}{y:bG},h.ob k=aA y->y.mu=aB->(Y++[a])[k]?=aA b->b≠a:=λ{k y} e m q=>by obtain⟨w,hw⟩:=Jz (R.obj k y b e<|old (R.qG k y e) q) m;exact jS hw hn
  by_cases c:n=h.nx
  .subst c;by_cases g:m=h.nx
   .exact g.symm
   .rw[if_neg g]at d;exact absurd (at_ i)<|no d p j
  .rw[if_neg c]at f;by_cases g:m=h.nx
   .subst g;exact absurd (at_ j)<|no f l i
   .rw[if_neg g]at d;exact R.inj n m b u v f d l p (old (R.qG n u f) i)<|old (R.qG m v d) j
theorem bP.write(R:bP T Y h H){o':bG}(e:h.ob n=aA o)(m:o.mu=aB)(m':o'.mu=aB)(q:Y[n]?=aA a)(hO:H a=aA O)(nt:∀xs,O ≠ .tup xs)(nf:∀x u,O ≠ .dC x u)
  (ho:nX T Y (bF H a O') a o'):bP T Y (h.put n o') (bF H a O')/\Ext Y H Y (bF H a O'):=by
 have ex:Ext Y H Y (bF H a O'):=⟨λ_ _ z=>z,λb xs z=>by
   rw[bZ (rJ z hO λw=>nt xs w.symm)];exact z,λb x u z=>by
   rw[bZ (rJ z hO λw=>nf x u w.symm)];exact z⟩
 refine⟨⟨R.len,λk u z=>?_,λk u b z w=>?_,λk l b u v d f i p r s=>?_⟩,ex⟩
 .simp only[AH.put]at z;by_cases c:k=n
  .subst c;exact R.qG _ _ e
  .rw[if_neg c]at z;exact R.qG k u z
 .simp only[AH.put]at z;by_cases c:k=n
  .rw[if_pos c]at z;cases z;subst c;rw[q]at w;cases w;exact ho
  .rw[if_neg c]at z;refine(R.obj k u b z w).ext ex λmu=>?_;rw[bZ];rintro rfl
   exact c<|R.inj k n b u o z e mu m w q
 .simp only[AH.put]at d f;have back:∀{j:Nat}{y:bG},(if j=n then aA o' else h.ob j)=aA y->y.mu=aB->∃g,h.ob j=aA g/\g.mu=aB:=λ{j y} z mu=>by
   by_cases c:j=n
   .subst c;exact⟨o,e,m⟩
   .rw[if_neg c]at z;exact⟨y,z,mu⟩
  obtain⟨t,g1,k1⟩:=back d i;obtain⟨A,g2,k2⟩:=back f p;exact R.inj k l b t A g1 g2 k1 k2 r s
structure vX(Y:Xk)(H H':Hp):Prop where
 ug:∀K b xs,eD K H b xs->eD K H' b xs
 xd:∀b o fs,H b=aA (.dC o<|.xd fs)->H' b=aA (.dC o<|.xd fs)
 u3:∀K b xs,pR K H b xs->pR K H' b xs
mutual
theorem aW.ext2{T:Tab}{Y:Xk}{H H':Hp}(e:vX Y H H'):∀{x:AV}{y:V},aW T Y H x y->aW T Y H' x y
 |_,_,.aH=>.aH
 |_,_,.bl b=>.bl b
 |_,_,.int i=>.int i
 |_,_,.str x=>.str x
 |_,_,.tup a hr=>.tup (e.ug _ _ _ a) (bE.ext2 e hr)
 |_,_,.ref q=>.ref q
 |_,_,.lI q=>.lI q
theorem bE.ext2{T:Tab}{Y:Xk}{H H':Hp}(e:vX Y H H'):∀{xs:Hd}{ys:Hg},bE T Y H xs ys->bE T Y H' xs ys
 |_,_,.nil=>.nil
 |_,_,.cons h hs=>.cons (aW.ext2 e h) (bE.ext2 e hs)
end
theorem nX.ext2{T:Tab}{Y:Xk}{H H':Hp}{a:Addr}{o:bG}(r:nX T Y H a o)(e:vX Y H H')(k:o.mu=aB->H' a=H a):nX T Y H' a o:=by
 cases o with
 |lst m xs=>
  cases m with
  |true=>obtain⟨b,h,r⟩:=r;exact⟨b,by rw[k rfl];exact h,r.ext2 e⟩|false=>obtain⟨b,h,r⟩:=r;exact⟨b,e.u3 _ _ _ h,r.ext2 e⟩
 |aR g=>obtain⟨d,b,h,f,r⟩:=r;exact⟨d,b,by rw[k rfl];exact h,f,r.ext2 e⟩|dD g=>obtain⟨o,d,b,h,f,r⟩:=r;exact⟨o,d,b,by rw[k rfl];exact h,f,r.ext2 e⟩|ins c fs=>obtain⟨C,i,d,b,j,h,f,r⟩:=r;exact⟨C,i,d,b,j,by rw[k rfl];exact h,f,r.ext2 e⟩
theorem Xi{o:Obj}{kz:List (aP×V)}(hO:H a=aA (.dC o<|.dK kz)):vX Y H (bF H a<|.dK kz):=by
 have ne:∀b u,H b=aA u->(∀x y,u ≠ .dC x (.dK y))->b≠a:=λb u e n z=>by rw[z,hO]at e;cases e;exact n _ _ rfl
 refine⟨λK b xs h=>?_,λb x fs h=>by rw[bZ (ne b _ h λ_ _ z=>by cases z)];exact h,λK b xs h=>?_⟩
 .rcases h with(h|⟨x,h⟩)|h
  .exact .inl<|.inl (by rw[bZ (ne b _ h λ_ _ z=>by cases z)];exact h)
  .exact .inl<|.inr ⟨x,by rw[bZ (ne b _ h λ_ _ z=>by cases z)];exact h⟩
  .exact .inr h
 .rcases h with⟨x,h⟩|h
  .exact .inl ⟨x,by rw[bZ (ne b _ h λ_ _ z=>by cases z)];exact h⟩
  .exact .inr h
theorem bP.Nv(R:bP T Y h H)(e:h.ob n=aA (.dD kvs))(q:Y[n]?=aA a) :
  ∃o kz,H a=aA (.dC o<|.dK kz)/\bP T Y (h.put n<|.aR kvs) (bF H a<|.dK kz):=by
 obtain⟨o,m,p,d,r,s⟩:=R.obj n _ a e q;have ex:=Xi (Y:=Y) d;refine⟨o,_,d,⟨R.len,λk u z=>?_,λk u b z w=>?_,λk l b u v f g t x A B=>?_⟩⟩
 .simp only[AH.put]at z;by_cases c:k=n
  .subst c;exact R.qG _ _ e
  .rw[if_neg c]at z;exact R.qG k u z
 .simp only[AH.put]at z;by_cases c:k=n
  .rw[if_pos c]at z;cases z;subst c;rw[q]at w;cases w;exact⟨m,p,gQ,r,s.ext2 ex⟩
  .rw[if_neg c]at z;refine(R.obj k u b z w).ext2 ex λmu=>?_;rw[bZ];rintro rfl
   exact c<|R.inj k n b u _ z e mu rfl w q
 .simp only[AH.put]at f g;have back:∀{j:Nat}{y:bG},(if j=n then aA (.aR kvs) else h.ob j)=aA y->y.mu=aB->∃i,h.ob j=aA i/\i.mu=aB:=λ{j y} z mu=>by
   by_cases c:j=n
   .subst c;exact⟨_,e,rfl⟩
   .rw[if_neg c]at z;exact⟨y,z,mu⟩
  obtain⟨C,g1,k1⟩:=back f t;obtain⟨D,g2,k2⟩:=back g x;exact R.inj k l b C D g1 g2 k1 k2 A B
abbrev Rl(α β:Type):=Xk->Hp->α->β->Prop
def W{α β:Type}(T:Tab)(Rp:Rl α β)(r:Res α)(Y:Xk)(H:Hp)(Q:β->Hp->Prop)(E:XK):Prop:=match r with
 |.ok a h=>∀Y' b H',Ext Y H Y' H'->bP T Y' h H'->Rp Y' H' a b->Q b H'
 |.bad=>False
section
variable {α β γ δ:Type}{Rp:Rl α β}{Rq:Rl γ δ}{Q:β->Hp->Prop}
theorem W.ext{r:Res α}(w:W T Rp r Y H Q E)(e:Ext Y H Y' H'):W T Rp r Y' H' Q E:=by
 cases r with
 |ok a h=>exact λc b d x R q=>w c b d (e.trans x) R q|bad=>exact w
theorem W.bind{m:M α}{k:α->M γ}{Q2:δ->Hp->Prop}(w:W T Rq (M.bind m k h) Y H Q2 E)
  (f:∀Y1 x y h1 H1,Ext Y H Y1 H1->bP T Y1 h1 H1->Rp Y1 H1 x y->W T Rq (k x h1) Y1 H1 Q2 E->Q y H1):W T Rp (m h) Y H Q E:=by
 unfold M.bind at w;cases e:m h with
 |ok a h1=>rw[e]at w;exact λY1 y H1 x R q=>f Y1 a y h1 H1 x R q (w.ext x)
 |bad=>rw[e]at w;exact w
theorem W.ok{a:α}{b:β}(w:W T Rp (.ok a h) Y H Q E)(e:Ext Y H Y' H')(R:bP T Y' h H')(q:Rp Y' H' a b):Q b H':=w Y' b H' e R q
theorem W.here{a:α}{b:β}(w:W T Rp (.ok a h) Y H Q E)(R:bP T Y h H)(q:Rp Y H a b):Q b H:=w Y b H .refl R q
end
abbrev aF:=List (Option AV)
variable {B C N:aF->AH->Prop}{m m0 ma mb mc:aF->M AV}{mr:aF->M Hd}{Z:aF}
def cV(T:Tab)(Y:Xk)(H:Hp)(Z:aF)(Z':L2.St):Prop:=Z.length=Z'.length/\∀(i:Nat) v,Z[i]?=aA (aA v)->∃v',Z'[i]?=aA (aA v')/\aW T Y H v v'
theorem cV.ext{T:Tab}{Y Y':Xk}{H H':Hp}{Z:aF}{Z':L2.St}(S:cV T Y H Z Z')(e:Ext Y H Y' H'):cV T Y' H' Z Z':=
 ⟨S.1,λi v q=>let ⟨c,a,b⟩:=S.2 i v q;⟨c,a,b.ext e⟩⟩
theorem cV.set{T:Tab}{Y:Xk}{H:Hp}{Z:aF}{Z':L2.St}(S:cV T Y H Z Z'){v:AV}{v':V}(r:aW T Y H v v')(i:Nat):cV T Y H (Z.set i<|aA v) (Z'.set i<|aA v'):=by
 refine⟨by simp[S.1],λj u q=>?_⟩;by_cases c:i=j
 .subst c;by_cases hl:i<Z.length
  .rw[mI hl]at q;cases q;exact⟨v',mI (S.1▸hl),r⟩
  .rw[KL (by simpa using hl)]at q;cases q
 .rw[kZ c]at q;obtain⟨w,a,b⟩:=S.2 j u q;exact⟨w,by rw[kZ c];exact a,b⟩
def QE(X:Cx)(T:Tab)(E:XK)(e:aK)(m:aF->M AV):Prop:=
 ∃t,PE X e t/\∀Y Z Z' h H Q,bP T Y h H->cV T Y H Z Z'->W T (aW T) (m Z h) Y H Q E->t Z' H Q
def QA(X:Cx)(T:Tab)(E:XK)(es:List aK)(m:aF->M Hd):Prop:=
 ∃t,PA X es t/\∀Y Z Z' h H Q,bP T Y h H->cV T Y H Z Z'->W T (bE T) (m Z h) Y H Q E->t Z' H Q
abbrev RB:Rl Bool Bool:=λ_ _ a b=>a=b
def QT(X:Cx)(T:Tab)(E:XK)(e:aK)(m:aF->M Bool):Prop:=
 ∃t,PT X e t/\∀Y Z Z' h H Q,bP T Y h H->cV T Y H Z Z'->W T RB (m Z h) Y H Q E->t Z' H Q
def QW(X:Cx)(T:Tab)(E:XK)(e:aK)(m:aF->M Bool):Prop:=
 ∃t,PW X e t/\∀Y Z Z' h H Q,bP T Y h H->cV T Y H Z Z'->W T RB (m Z h) Y H Q E->t Z' H Q
theorem QW.qt{m:aF->M Bool}(h:QW X T E e m):QT X T E e m:=let ⟨t,a,b⟩:=h;⟨t,a.pt,b⟩
def dY(X:Cx)(T:Tab)(E:XK)(f:Value->Value->Sem Value)(g:AV->AV->M AV):Prop:=
 ∃r,cU X f r/\∀Y h H x y x' y' Q,bP T Y h H->aW T Y H x x'->aW T Y H y y'->W T (aW T) (g x y h) Y H Q E->r x' y' H Q
def Ua(X:Cx)(T:Tab)(E:XK)(f:Value->Sem Value)(g:AV->M AV):Prop:=
 ∃r,wx X f r/\∀Y h H x x' Q,bP T Y h H->aW T Y H x x'->W T (aW T) (g x h) Y H Q E->r x' H Q
def vz(X:Cx)(T:Tab)(E:XK)(g:AV->AV->M AV):Prop:=
 ∃r,pS X r/\∀Y h H x y x' y' Q,bP T Y h H->aW T Y H x x'->aW T Y H y y'->W T (aW T) (g x y h) Y H Q E->r x' y' H Q
def oU(X:Cx)(T:Tab)(E:XK)(f:Value)(g:Hd->M AV):Prop:=
 ∃r,iM X f r/\∀Y h H xs dU Q,bP T Y h H->bE T Y H xs dU->W T (aW T) (g xs h) Y H Q E->r dU H Q
def rG(i j:Int):Bool:=decide (i.natAbs<2 ^ 64)||decide (j.natAbs<2 ^ 64)||(decide (i.natAbs<2 ^ 1000)&&decide (j.natAbs<2 ^ 1000))
def qF(j:Int):Bool:=decide (0<j)&&decide (j<2 ^ 1000)
def xB(i j:Int):Bool:=decide (0<=j)&&decide (j<=1000000)&&decide (i.natAbs<2 ^ 64)
def ab(h:AH)(n:Nat):Option (List AV):=match h.ob n with
 |some (.lst aB xs)=>aA xs
 |_=>aD
theorem BO(e:ab h n=aA xs):h.ob n=aA (.lst aB xs):=by
 unfold ab at e;split at e
 .rename_i q;cases e;exact q
 .cases e
def oy(n m:Nat):M AV:=λh=>match ab h n with
 |some xs=>(match ab h m with
  |some ys=>if xs.length+ys.length<=sizeLine then .ok (.ref h.nx) (h.new<|.lst aB<|xs++ys) else .bad
  |none=>.bad)
 |none=>.bad
def Yp:AV->AV->M AV
 |.int i,.int j=>M.ret (.int<|i+j)
 |.str i,.str j=>M.guard (i.length+j.length<=sizeLine) (M.ret<|.str<|i++j)
 |.tup xs,.tup ys=>M.guard (xs.length+ys.length<=sizeLine) (M.ret<|.tup<|xs++ys)
 |.ref n,.ref m=>oy n m
 |_,_=>M.bad
def mO(p:Int->Int->Bool)(f:Int->Int->Int):AV->AV->M AV
 |.int i,.int j=>λh=>if p i j=aB then .ok (.int<|f i j) h else .bad
 |_,_=>M.bad
def yn:AV->AV->M AV:=mO (λ_ _=>aB) HSub.hSub
def pq(x y:AV):M AV:=match x with
 |.ref n=>match y with
  |.int k=>λh=>match h.ob n with
   |some (.lst aB xs)=>if 0<=k/\xs.length*k.toNat<=sizeLine/\k<2 ^ 63 then .ok (.ref h.nx) (h.new<|.lst aB (eR k.toNat xs).flatten) else .bad
   |_=>.bad
  |_=>M.bad
 |_=>mO rG HMul.hMul x y
def Yr:AV->AV->M AV:=mO (λ_ j=>qF j) HDiv.hDiv
def Yz:AV->AV->M AV:=mO (λ_ j=>decide (0<j)) HMod.hMod
def Zc:AV->AV->M AV:=mO xB λi j=>i ^ j.toNat
def Zd:AV->AV->M AV:=mO xB λi j=>i*2 ^ j.toNat
def Ze:AV->AV->M AV:=mO (λ_ j=>decide (0<=j)) λi j=>i / 2 ^ j.toNat
def Yq:AV->AV->M AV:=mO (λ_ _=>aB) rP
def Zb:AV->AV->M AV:=mO (λ_ _=>aB) jz
def Zf:AV->AV->M AV:=mO (λ_ _=>aB) kb
def pf(f:Int->Int->Bool):AV->AV->M AV
 |.int i,.int j=>M.ret (.bl<|f i j)
 |_,_=>M.bad
def Yw:AV->AV->M AV:=pf λi j=>decide (i<j)
def Yv:AV->AV->M AV:=pf λi j=>decide (i<=j)
def Yt:AV->AV->M AV:=pf λi j=>decide (j<i)
def Ys:AV->AV->M AV:=pf λi j=>decide (j<=i)
def tZ:AV->AV->Option Bool
 |.aH,.aH=>aA aB | .aH,.int _=>aA aG | .int _,.aH=>aA aG | .aH,.bl _=>aA aG | .bl _,.aH=>aA aG | .aH,.str _=>aA aG | .str _,.aH=>aA aG
 |.int i,.int j=>aA (decide<|i=j) | .bl i,.bl j=>aA (decide<|i=j) | .str i,.str j=>aA (decide<|i=j)
 |.int _,.str _=>aA aG | .str _,.int _=>aA aG | .bl _,.str _=>aA aG | .str _,.bl _=>aA aG
 |_,_=>aD
def jI:AV->Bool
 |.aH=>aB | .bl _=>aB | .int _=>aB | .str _=>aB
 |_=>aG
def Hb:AV->AV->Bool
 |.aH,.aH=>aB
 |.bl a,.bl b=>a==b
 |.bl a,.int b=>(if a then 1 else 0)==b
 |.int a,.bl b=>a==(if b then 1 else 0)
 |.int a,.int b=>a==b
 |.str a,.str b=>a==b
 |_,_=>aG
def uf(h:AH):AV->Option (Bool×Hd)
 |.tup xs=>aA (aG,xs)
 |.ref n=>match h.ob n with
  |some (.lst _ xs)=>aA (aB,xs)
  |_=>aD
 |_=>aD
def sE(h:AH)(x y:AV):Option Bool:=match uf h x,uf h y with
 |some (aB,xs),aA (aB,[])=>aA xs.isEmpty
 |_,_=>aD
def zL(x y:AV):M AV:=λh=>match tZ x y with
 |some b=>.ok (.bl b) h
 |none=>match sE h x y with
  |some b=>.ok (.bl b) h
  |none=>.bad
def zP(x y:AV):M AV:=λh=>match tZ x y with
 |some b=>.ok (.bl<|!b) h
 |none=>match sE h x y with
  |some b=>.ok (.bl<|!b) h
  |none=>.bad
def lV:AV->Bool
 |.aH=>aB
 |_=>aG
def Hs(x y:AV):M AV:=if lV y=aB then M.ret (.bl<|lV x) else M.bad
def Ht(x y:AV):M AV:=if lV y=aB then M.ret (.bl<|!lV x) else M.bad
def gT(x:AV)(xs:Hd):Bool:=xs.any λy=>Hb y x
def dX(h:AH):AV->Option (List AV)
 |.tup xs=>aA xs
 |.ref n=>match h.ob n with
  |some (.lst _ xs)=>aA xs
  |_=>aD
 |_=>aD
def fN:AV->Option aP
 |.int i=>aA (.inl i)
 |.str s=>aA (.inr s)
 |_=>aD
def fQ(h:AH):AV->Option (List<|aP×AV)
 |.ref n=>match h.ob n with
  |some (.aR kvs)=>aA kvs
  |_=>aD
 |_=>aD
def bR(kvs:List (aP×AV))(k:aP):Option AV:=(kvs.find? λkv=>decide (kv.1=k)).map (·.2)
def jT(kvs:List (aP×AV))(k:aP)(v:AV):List (aP×AV):=
 if(kvs.any λkv=>decide (kv.1=k))=aB then kvs.map (λkv=>if kv.1=k then(kv.1,v) else kv) else kvs++[(k,v)]
def tY(kvs:List (aP×AV))(k:aP):List (aP×AV):=kvs.filter λkv=>decide (kv.1≠k)
def uH(neg:Bool)(x y:AV):M AV:=λh=>match dX h y with
 |some xs=>if(jI x&&xs.all jI)=aB then .ok (.bl<|if neg then !gT x xs else gT x xs) h else
  .bad
 |none=>.bad
def pA(neg:Bool)(x y:AV):M AV:=λh=>match fQ h y with
 |some kvs=>match fN x with
  |some k=>.ok (.bl<|if neg then !(bR kvs k).isSome else(bR kvs k).isSome) h
  |none=>.bad
 |none=>uH neg x y h
def pv:AV->M AV
 |.int i=>M.ret (.int<|-i)
 |_=>M.bad
def gh(x y:AV):M AV:=λh=>match y with
 |.int i=>match x with
  |.str z=>if z.length<=sizeLine then match cM z.cps.toList i with
   |some c=>.ok (.str ⟨#[c]⟩) h
   |none=>.bad
   else .bad
  |x=>match (dX h x).bind λxs=>cM xs i with
   |some v=>.ok v h
   |none=>.bad
 |_=>.bad
def yW(h:AH):AV->Option (List<|aP×AV)
 |.ref n=>match h.ob n with
  |some (.dD kvs)=>aA kvs
  |_=>aD
 |_=>aD
def yj(x y:AV):M AV:=λh=>match yW h x with
 |some kvs=>match (fN y).bind (bR kvs) with
  |some v=>.ok v h
  |none=>.bad
 |none=>gh x y h
def uI(x y:AV):M AV:=λh=>match fQ h x with
 |some kvs=>match (fN y).bind (bR kvs) with
  |some v=>.ok v h
  |none=>.bad
 |none=>yj x y h
def jg(h:AH):AV->Option Bool
 |.aH=>aA aG
 |.bl b=>aA b
 |.int i=>aA (i != 0)
 |.str y=>if y.length<=sizeLine then aA ((y.length:Int) != 0) else aD
 |.tup xs=>aA (!xs.isEmpty)
 |.ref n=>match h.ob n with
  |some (.lst _ xs)=>aA (!xs.isEmpty)
  |some (.aR kvs)=>aA (!kvs.isEmpty)
  |_=>aD
 |_=>aD
def cZ(x:AV):M Bool:=λh=>match jg h x with
 |some b=>.ok b h
 |none=>.bad
section
variable (hK:X.K=T.K)
theorem zT{α β:Type}{Rp:Rl α β}{p:Prop}[Decidable p]{m:M α}{Q:β->Hp->Prop}(w:W T Rp (M.guard p m h) Y H Q E):p/\W T Rp (m h) Y H Q E:=by
 unfold M.guard at w;by_cases a:p
 .rw[if_pos a]at w;exact⟨a,w⟩
 .rw[if_neg a]at w;exact w.elim
theorem sT{f:Value->Value->Sem Value}{C:Int->Int->Prop}{p:Int->Int->Bool}{g:Int->Int->Int}(ho:cU X f (rI C λi j=>.int (g i j)))(hc:∀i j,p i j=aB->C i j):dY X T E f (mO p g):=by
 refine⟨_,ho,λd h H x y e k Q R b c w=>?_⟩;cases x with
 |int i=>
  cases y with
  |int j=>
   cases b;cases c;simp only[mO]at w;by_cases a:p i j=aB
   .rw[if_pos a]at w;exact⟨i,j,rfl,rfl,hc i j a,w.here R (.int _)⟩
   .rw[if_neg a]at w;cases w
  |_=>exact w.elim
 |_=>exact w.elim
theorem Al{f:Value->Value->Sem Value}{g:Int->Int->Bool}(ho:cU X f (oJ λi j=>.bl (g i j))):dY X T E f (pf g):=by
 refine⟨_,ho,λc h H x y d e Q R a b w=>?_⟩;cases x with
 |int i=>
  cases y with
  |int j=>cases a;cases b;exact⟨i,j,rfl,rfl,W.here w R (.bl _)⟩
  |_=>exact w.elim
 |_=>exact w.elim
theorem Ba{f:Value->Value->Sem Value}{g:Int->Int->V}(h:cU X f (oJ g)):cU X f (rI (λ_ _=>True) g):=
 λpins s Z H x y v u Q I c d ⟨i,j,a,b,_,q⟩=>h pins s Z H x y v u Q I c d ⟨i,j,a,b,q⟩
theorem X1:dY X T E (eY .Sub) yn:=sT (Ba U5) λ_ _ _=>trivial
theorem U8:dY X T E (eY .BitAnd) Yq:=sT (Ba Q5) λ_ _ _=>trivial
theorem W7:dY X T E (eY .BitOr) Zb:=sT (Ba U0) λ_ _ _=>trivial
theorem X2:dY X T E (eY .BitXor) Zf:=sT (Ba U6) λ_ _ _=>trivial
theorem W2:dY X T E (eY .Mod) Yz:=sT S8 λ_ _ h=>of_decide_eq_true h
theorem DI(h:xB i j=aB):Eo i j:=by simp only[xB,bS,decide_eq_true_eq]at h;exact⟨h.1.1,h.1.2,h.2⟩
theorem W8:dY X T E (eY .Pow) Zc:=sT U1 λ_ _ h=>DI h
theorem W9:dY X T E (eY .LShift) Zd:=sT U3 λ_ _ h=>DI h
theorem X0:dY X T E (eY .RShift) Ze:=sT U4 λ_ _ h=>of_decide_eq_true h
theorem N1(h:rG i j=aB):IntMulOk i j:=by
 simp only[rG,jy,bS,decide_eq_true_eq]at h;rcases h with(h|h)|⟨h1,a⟩
 .exact .of_left<|Eh h
 .exact .of_right<|Eh h
 .exact .of_bits (dF (Eh h1) (by decide))<|dF (Eh a) (by decide)
theorem S9:cU X (eY .Mult) (rI IntMulOk λi j=>.int (i*j)):=ig λ_ _ _ _ _ _ _ hc q=>mul_int q hc
theorem log2_lt{j:Int}(h:j<2 ^ 1000)(h0:0<j):j.natAbs.log2<9000:=by
 have hn:j.natAbs<2 ^ 1000:=by omega
 have:j.natAbs.log2<1000:=(Nat.log2_lt (by lia)).mpr hn;lia
theorem R7:cU X (eY .FloorDiv) (rI (λ_ j=>0<j/\j<2 ^ 1000) λi j=>.int (i / j)):=ig λi j _ _ _ _ _ hc q=>by have h1:(0:Int)<j:=hc.1;exact floordiv_int (by omega) (by rw[Po i (by omega)];exact q)<|.inl<|ME<|log2_lt hc.2 hc.1
theorem Ww(h:qF j=aB):0<j/\j<2 ^ 1000:=by simp only[qF,bS,decide_eq_true_eq]at h;exact h
theorem V2:dY X T E (eY .FloorDiv) Yr:=sT R7 λ_ _ h=>Ww h
theorem W0:dY X T E (dG .Lt) Yw:=Al S7
theorem V9:dY X T E (dG .LtE) Yv:=Al S6
theorem V4:dY X T E (dG .Gt) Yt:=Al R9
theorem V3:dY X T E (dG .GtE) Ys:=Al R8
theorem Xf(rx:aW T Y H x x')(ry:aW T Y H y y')(e:tZ x y=aA b):My x' y'=aB/\decide (x'=y')=b:=by
 cases rx<;>cases ry<;>first
  | (cases e;done)
  |exact⟨rfl,(decide_eq_false nofun).trans (dR e)⟩
  | (obtain rfl:=dR e;exact⟨rfl,by simp⟩)
theorem Hk(r:aW T Y H x x')(f:jI x=aB):sF x'=aB:=by cases r<;>first|rfl|cases f
theorem Hl{Y:Xk}{H:Hp}:∀{xs:Hd}{ys:Hg},bE T Y H xs ys->xs.all jI=aB->ys.all sF=aB
 |_,_,.nil,_=>rfl|_,_,.cons h hs,f=>by rw[jY,bS]at f ⊢;exact⟨Hk h f.1,Hl hs f.2⟩
theorem YD(rx:aW T Y H x x')(ry:aW T Y H y y')(fx:jI x=aB)(fy:jI y=aB):uA x' y'=Hb x y:=by
 cases rx<;>first|cases fx;done|skip
 all_goals (cases ry<;>first|rfl|cases fy)
theorem GL(hK:X.K=T.K){k:Bool}(R:bP T Y h H)(r:aW T Y H x x')(e:uf h x=aA (k,xs)):∃a ys,x' = .ref a/\bE T Y H xs ys/\(k=aB->dH X.K H a ys)/\(k=aG->eD X.K H a ys):=by
 cases r with
 |tup c hr=>cases e;exact⟨_,_,rfl,hr,(nofun),λ_=>hK▸c⟩
 |@ref n a q=>
  simp only[uf]at e;cases o:h.ob n with
  |none=>rw[o]at e;cases e|some u=>
   rw[o]at e;cases u with
   |lst m ys=>
    cases e;cases m with
    |true=>obtain⟨zs,h1,b⟩:=R.obj n _ a o q;exact⟨_,_,rfl,b,λ_=>.inl (.inl h1),nofun⟩|false=>obtain⟨zs,h1,b⟩:=R.obj n _ a o q;exact⟨_,_,rfl,b,λ_=>hK▸h1.sq,nofun⟩
   |_=>cases e
 |_=>cases e
theorem Xg(hK:X.K=T.K)(R:bP T Y h H)(rx:aW T Y H x x')(ry:aW T Y H y y')(e:sE h x y=aA b):∃a c,x' = .ref a/\y' = .ref c/\yJ X.K H 12 x' y' b:=by
 unfold sE at e;split at e
 .rename_i xs h1 d;cases e;obtain⟨a,us,rfl,f,g,_⟩:=GL hK R rx h1;obtain⟨c,k,rfl,i,j,_⟩:=GL hK R ry d;cases i;exact⟨a,c,rfl,rfl,a,c,us,rfl,rfl,g rfl,j rfl,by cases f<;>rfl⟩
 .cases e
theorem V0(hK:X.K=T.K)(hu:X.A.units+12<cLine):dY X T E (dG .Eq) zL:=by
 refine⟨_,R6 hu,λl h H x y m n Q R f g w=>?_⟩;unfold zL at w;cases e:tZ x y with
 |none=>
  simp only[e]at w;cases d:sE h x y with
  |none=>simp only[d]at w;exact w.elim|some b=>simp only[d]at w;obtain⟨a,c,i,j,q⟩:=Xg hK R f g d;exact .inr ⟨b,a,c,i,j,q,W.here w R (.bl _)⟩
 |some b=>simp only[e]at w;obtain⟨h1,k⟩:=Xf f g e;exact .inl ⟨h1,by rw[k];exact W.here w R<|.bl _⟩
theorem W4(hK:X.K=T.K)(hu:X.A.units+12<cLine):dY X T E (dG .NotEq) zP:=by
 refine⟨_,T4 hu,λl h H x y m n Q R f g w=>?_⟩;unfold zP at w;cases e:tZ x y with
 |none=>
  simp only[e]at w;cases d:sE h x y with
  |none=>simp only[d]at w;exact w.elim|some b=>simp only[d]at w;obtain⟨a,c,i,j,q⟩:=Xg hK R f g d;exact .inr ⟨b,a,c,i,j,q,W.here w R (.bl _)⟩
 |some b=>simp only[e]at w;obtain⟨h1,k⟩:=Xf f g e;exact .inl ⟨h1,by rw[k];exact W.here w R<|.bl _⟩
theorem zo(r:aW T Y H x x'):decide (x' = .aH)=lV x:=by cases r<;>simp[lV]
theorem V7:dY X T E (dG .Is) Hs:=by
 refine⟨_,S5,λc h H x y d f Q R a b w=>?_⟩;unfold Hs at w;by_cases e:lV y=aB
 .rw[if_pos e]at w;rw[<- zo b]at e;exact⟨of_decide_eq_true e,by rw[zo a];exact W.here w R<|.bl _⟩
 .rw[if_neg e]at w;exact w.elim
theorem V8:dY X T E (dG .IsNot) Ht:=by
 refine⟨_,T9,λc h H x y d f Q R a b w=>?_⟩;unfold Ht at w;by_cases e:lV y=aB
 .rw[if_pos e]at w;rw[<- zo b]at e;exact⟨of_decide_eq_true e,by rw[zo a];exact W.here w R<|.bl _⟩
 .rw[if_neg e]at w;exact w.elim
theorem aNl:Ua X T E (Ek .USub) pv:=by
 refine⟨_,aNh,λb h H x c Q R a w=>?_⟩;cases x with
 |int i=>cases a;exact⟨i,rfl,W.here w R (.int _)⟩|_=>exact w.elim
theorem Ip{Y:Xk}{H:Hp}{x:AV}{x':V}(rx:aW T Y H x x')(fx:jI x=aB):∀{xs:Hd}{ys:Hg},bE T Y H xs ys->xs.all jI=aB->yz x' ys=gT x xs
 |_,_,.nil,_=>rfl|_,_,.cons h hs,f=>by rw[jY,bS]at f;have:=Ip rx fx hs f.2;unfold yz gT at this ⊢;rw[rR,rR,this,YD h rx f.1 fx]
theorem pD{m:Bool}(R:bP T Y h H)(e:h.ob n=aA (.lst m xs))(q:Y[n]?=aA a):∃ys,dH T.K H a ys/\bE T Y H xs ys:=by
 have r:=R.obj n _ a e q;cases m with
 |true=>obtain⟨ys,h1,b⟩:=r;exact⟨ys,.of h1,b⟩|false=>obtain⟨ys,h1,b⟩:=r;exact⟨ys,h1.sq,b⟩
theorem jd(R:bP T Y h H)(r:aW T Y H x x')(e:dX h x=aA xs):∃p ys,x' = .ref p/\(dH T.K H p ys\/eD T.K H p ys)/\bE T Y H xs ys:=by
 cases r with
 |tup b hr=>cases e;exact⟨_,_,rfl,.inr b,hr⟩|@ref n a q=>
  simp only[dX]at e;cases o:h.ob n with
  |none=>rw[o]at e;cases e|some u=>
   rw[o]at e;cases u with
   |lst m ys=>cases e;obtain⟨zs,h1,d⟩:=pD R o q;exact⟨_,zs,rfl,.inl h1,d⟩
   |aR f=>cases e|dD _=>cases e|ins c fs=>cases e
 |_=>cases e
inductive iD(T:Tab)(Y:Xk)(H:Hp):List (aP×AV)->List (aP×V)->Prop where
 |nil:iD T Y H [] []
 |cons {k:aP}{v:AV}{y:V}{xs:List (aP×AV)}{ys:List (aP×V)} (h:aW T Y H v y) (t:iD T Y H xs ys):iD T Y H ((k,v)::xs) ((k,y)::ys)
theorem Mt{Y:Xk}{H:Hp}:∀{kvs:List (aP×AV)}{ys:Hg},bE T Y H (kvs.map (·.2)) ys->iD T Y H kvs ((kvs.map (·.1)).zip ys)
 |[],_,.nil=>.nil
 | (k,v)::kvs,_,.cons h t=>.cons h (Mt t)
theorem aIr(r:iD T Y H kvs us):∃ys,us=(kvs.map (·.1)).zip ys/\bE T Y H (kvs.map (·.2)) ys:=by
 induction r with
 |nil=>exact⟨[],rfl,.nil⟩|cons h t a=>obtain⟨ys,e,r⟩:=a;exact⟨_::ys,by rw[e];rfl,.cons h r⟩
theorem FO(r:iD T Y H kvs us):kvs.length=us.length:=by
 induction r with
 |nil=>rfl|cons h t a=>rw[iB,iB,a]
theorem aw{k:aP}(r:iD T Y H kvs us):(∀v,bR kvs k=aA v->∃y,fP us k=aA y/\aW T Y H v y)/\(bR kvs k=aD->fP us k=aD):=by
 induction r with
 |nil=>exact⟨(λv h=>by cases h),λ_=>rfl⟩|@cons b v y xs c h t d=>
  by_cases e:b=k
  .subst e;refine⟨λi a=>?_,λa=>?_⟩
   .simp[bR]at a;subst a;exact⟨y,by simp[fP],h⟩
   .simp[bR]at a
  .have f:bR ((b,v)::xs) k=bR xs k:=by simp[bR,e]
   have g:fP ((b,y)::c) k=fP c k:=by simp[fP,e]
   rw[f,g];exact d
theorem FQ{k:aP}(r:iD T Y H kvs us):(fP us k).isSome=(bR kvs k).isSome:=by
 obtain⟨h1,a⟩:=aw r;cases e:bR kvs k with
 |none=>rw[a e];rfl|some v=>obtain⟨y,b,_⟩:=h1 v e;rw[b];rfl
theorem aIp{k:aP}(r:iD T Y H kvs us):(kvs.any λkv=>decide (kv.1=k))=us.any λkv=>decide (kv.1=k):=by
 induction r with
 |nil=>rfl|cons h t a=>rw[rR,rR,a]
theorem aIq{k:aP}{y:V}(r:iD T Y H kvs us)(h:aW T Y H v y):iD T Y H (kvs++[(k,v)]) (us++[(k,y)]):=by
 induction r with
 |nil=>exact .cons h .nil|cons a t b=>exact .cons a b
theorem aIt{k:aP}{y:V}(r:iD T Y H kvs us)(h:aW T Y H v y):iD T Y H (kvs.map λkv=>if kv.1=k then(kv.1,v) else kv) (us.map λkv=>if kv.1=k then(kv.1,y) else kv):=by
 induction r with
 |nil=>exact .nil|@cons b d f xs g c t a=>
  by_cases e:b=k
  .simp only[jC,e];exact .cons h a
  .simp only[jC,e];exact .cons c a
theorem FP{k:aP}{y:V}(r:iD T Y H kvs us)(h:aW T Y H v y):iD T Y H (jT kvs k v) (putK us k y):=by
 unfold jT putK;rw[aIp r];split
 .exact aIt r h
 .exact aIq r h
theorem aIs{k:aP}(r:iD T Y H kvs us):iD T Y H (tY kvs k) (sD us k):=by
 induction r with
 |nil=>exact .nil|@cons b d f xs g c t a=>
  unfold tY sD;by_cases e:b=k
  .simp only[jA,e,ne_eq];exact a
  .simp only[jA,e,ne_eq];exact .cons c a
theorem iD.ext{Y Y':Xk}{H H':Hp}{kvs:List (aP×AV)}{us:List (aP×V)}(r:iD T Y H kvs us)(e:Ext Y H Y' H'):iD T Y' H' kvs us:=by
 induction r with
 |nil=>exact .nil|cons h t a=>exact .cons (h.ext e) a
theorem wO(R:bP T Y h H)(r:aW T Y H x x')(e:fQ h x=aA kvs):∃n a us,x = .ref n/\Y[n]?=aA a/\h.ob n=aA (.aR kvs)/\x' = .ref a/\H a=aA (.dK us)/\iD T Y H kvs us:=by
 cases r with
 |@ref n a q=>
  simp only[fQ]at e;cases o:h.ob n with
  |none=>rw[o]at e;cases e|some u=>
   rw[o]at e;cases u with
   |aR b=>cases e;obtain⟨d,f,h1,rfl,c⟩:=R.obj n _ a o q;exact⟨n,a,_,rfl,q,o,rfl,h1,Mt c⟩
   |_=>cases e
 |_=>cases e
theorem XD(R:bP T Y h H)(r:aW T Y H x x')(e:yW h x=aA kvs):∃a us,x' = .ref a/\Rd H a (.dK us)/\iD T Y H kvs us:=by
 cases r with
 |@ref n a q=>
  simp only[yW]at e;cases o:h.ob n with
  |none=>rw[o]at e;cases e|some u=>
   rw[o]at e;cases u with
   |dD b=>cases e;obtain⟨ob,d,f,h1,rfl,c⟩:=R.obj n _ a o q;exact⟨a,_,rfl,.inr ⟨ob,h1⟩,Mt c⟩
   |_=>cases e
 |_=>cases e
theorem Go(e:H a=aA (.dK us))(r:iD T Y H kvs us):nX T Y H a (.aR kvs):=by obtain⟨b,c,d⟩:=aIr r;subst c;exact⟨_,b,e,rfl,d⟩
theorem sO{k:aP}(r:aW T Y H x x')(e:fN x=aA k):x'=kV k:=by cases r<;>simp[fN]at e<;>(subst e)<;>rfl
include hK in
theorem V6
   :dY X T E (dG .In) (uH aG):=by
  refine⟨_,S4,λY h H x y x' y' Q R a c w=>?_⟩;unfold uH at w;cases e:dX h y with
  |none=>rw[e]at w;cases w
  |some xs=>
    rw[e]at w;by_cases f:(jI x&&xs.all jI)=aB
    · simp only[if_pos f]at w
      rw[bS]at f;obtain⟨p,d,g,h1,b⟩:=jd R c e;refine⟨p,d,g,hK▸h1,Hk a f.1,Hl b f.2,?_⟩;rw[Ip a f.1 b f.2];exact w.here R<|.bl _
    · simp only[if_neg f]at w
      exact w.elim
include hK in
theorem W6:dY X T E (dG .NotIn) (uH aB):=by
 refine⟨_,T8,λY h H x y x' y' Q R a c w=>?_⟩;unfold uH at w;cases e:dX h y with
 |none=>rw[e]at w;cases w
 |some xs=>
  rw[e]at w;by_cases f:(jI x&&xs.all jI)=aB
  .simp only[if_pos f]at w;rw[bS]at f;obtain⟨p,d,g,h1,b⟩:=jd R c e;refine⟨p,d,g,hK▸h1,Hk a f.1,Hl b f.2,?_⟩;rw[Ip a f.1 b f.2];exact w.here R<|.bl _
  .simp only[if_neg f]at w;exact w.elim
theorem OL(r:bE T Y H xs ys)(e:cM xs i=aA v):∃v',cM ys i=aA v'/\aW T Y H v v':=by
 unfold cM at e ⊢;rw[<- r.length];cases q:jP xs.length i with
 |none=>rw[q]at e;cases e|some j=>rw[q]at e;exact r.get e
include hK in
theorem E7:vz X T E gh:=by
 refine⟨_,E3,λY h H x y f y' Q R g ry w=>?_⟩;cases y with
 |int i=>
  cases ry;have a:∀xs v,dX h x=aA xs->cM xs i=aA v->(W T (aW T) (.ok v h) Y H Q E)->Mp X.K f (.int i) H Q:=λxs v e1 e2 w=>by
   obtain⟨p,k,rfl,hq,hr⟩:=jd R g e1;obtain⟨l,m,rv⟩:=OL hr e2;rcases hq with hq|hq
   .exact .inl ⟨p,k,i,l,rfl,rfl,hK▸hq,m,w.here R rv⟩
   .exact .inr<|.inl ⟨p,k,i,l,rfl,rfl,hK▸hq,m,w.here R rv⟩
  have go:(match (dX h x).bind λxs=>cM xs i with
   |some v=>Res.ok v h
   |none=>Res.bad)=gh x (.int i) h->Mp X.K f (.int i) H Q:=λe=>by
    rw[<- e]at w;cases s:dX h x with
    |none=>rw[s]at w;cases w|some xs=>
     rw[s]at w;simp only[jM]at w;cases q:cM xs i with
     |none=>rw[q]at w;cases w|some v=>rw[q]at w;exact a xs v s q w
  cases x with
  |str z=>
   cases g;simp only[gh]at w;by_cases d:z.length<=sizeLine
   .rw[if_pos d]at w;cases q:cM z.cps.toList i with
    |none=>rw[q]at w;cases w|some c=>rw[q]at w;exact .inr<|.inr ⟨z,i,c,rfl,rfl,d,q,w.here R (.str _)⟩
   .rw[if_neg d]at w;cases w
  |aH=>exact go rfl|bl b=>exact go rfl|int j=>exact go rfl|tup xs=>exact go rfl|ref n=>exact go rfl|lI n=>exact go rfl
 |_=>exact w.elim
include hK in
theorem V5(hu:X.A.units+1<cLine):dY X T E (dG .In) (pA aG):=by
 obtain⟨r0,e,f⟩:=(V6 hK:dY X T E (dG .In) (uH aG));refine⟨_,e.or (S0 hu),λi h H x y x' y' Q R b c w=>?_⟩;unfold pA at w;cases d:fQ h y with
 |none=>simp only[d]at w;exact .inl<|f i h H _ _ _ _ Q R b c w|some j=>
  simp only[d]at w;cases k:fN x with
  |none=>simp only[k]at w;exact w.elim|some k'=>simp only[k]at w;obtain⟨n,a,us,rfl,_,_,rfl,g,r⟩:=wO R c d;refine .inr ⟨a,_,rfl,(sO b k)▸lS.k g,?_⟩;rw[FQ r];exact W.here w R<|.bl _
include hK in
theorem W5(hu:X.A.units+1<cLine):dY X T E (dG .NotIn) (pA aB):=by
 obtain⟨r0,e,f⟩:=(W6 hK:dY X T E (dG .NotIn) (uH aB));refine⟨_,e.or (T7 hu),λi h H x y x' y' Q R b c w=>?_⟩;unfold pA at w;cases d:fQ h y with
 |none=>simp only[d]at w;exact .inl<|f i h H _ _ _ _ Q R b c w|some j=>
  simp only[d]at w;cases k:fN x with
  |none=>simp only[k]at w;exact w.elim|some k'=>simp only[k]at w;obtain⟨n,a,us,rfl,_,_,rfl,g,r⟩:=wO R c d;refine .inr ⟨a,_,rfl,(sO b k)▸lS.k g,?_⟩;rw[FQ r];exact W.here w R<|.bl _
include hK in
theorem E6(hu:X.A.units+1<cLine):vz X T E uI:=by
 obtain⟨r0,p0,q0⟩:=(E7 hK:vz X T E gh);refine⟨_,p0.or (E1 hu),λY h H x y x' y' Q R f i w=>?_⟩;unfold uI at w;cases d:fQ h x with
 |none=>
  simp only[d]at w;unfold yj at w;cases d2:yW h x with
  |none=>simp only[d2]at w;exact .inl<|q0 Y h H _ _ _ _ Q R f i w|some b=>
   simp only[d2]at w;cases k:fN y with
   |none=>simp only[k]at w;exact w.elim|some e=>
    simp only[k,jM]at w;cases l:bR b e with
    |none=>simp only[l]at w;exact w.elim|some v=>simp only[l]at w;obtain⟨a,us,rfl,g,r⟩:=XD R f d2;obtain⟨j,m,c⟩:=(aw r).1 v l;refine .inr ⟨a,j,rfl,?_,W.here w R c⟩;rw[sO i k,<- m];exact .inl ⟨us,e,g,rfl,rfl⟩
 |some b=>
  simp only[d]at w;cases k:fN y with
  |none=>simp only[k]at w;exact w.elim|some e=>
   simp only[k,jM]at w;cases l:bR b e with
   |none=>simp only[l]at w;exact w.elim|some v=>simp only[l]at w;obtain⟨n,a,us,rfl,_,_,rfl,g,r⟩:=wO R f d;obtain⟨j,m,c⟩:=(aw r).1 v l;refine .inr ⟨a,j,rfl,?_,W.here w R c⟩;rw[sO i k,<- m];exact lS.k g
def aIa(K:bI):R2:=λx y H Q=>∃a b ys,x = .ref a/\y = .ref b/\eD K H a []/\eD K H b ys/\Q (.ref b) H
theorem Q8:cU X (eY .Add) (aIa X.K):=by
 intro pins s Z H x y v u Q I k l h;obtain⟨a,b,z,rfl,rfl,ha,hb,q⟩:=h;cases k;cases l;obtain⟨m,o,p,_⟩:=I.tuple ha;obtain⟨g,A,r,_⟩:=I.tuple hb;cases o;obtain⟨⟨cls,dd,data,sl⟩,i,t,n,hd⟩:=id p;obtain⟨⟨j,d,data2,e⟩,c,f,w,hd2⟩:=id r;subst t hd f hd2;exact Sj ⟨_,i,rfl⟩ ⟨_,c,rfl⟩ Sr Sv Rc Ra (Qz _ _)
  (tuple_addW0 a b _ _ n w dd d sl e<|rfl) ⟨i,c,⟨.ref b,H,I,rfl,q⟩⟩
include hK in
theorem U7:dY X T E (eY .Add) Yp:=by
 refine⟨_,Q3.or (Q4.or<|Q7.or<|Q8.or Q6),λY h H x y x' y' Q R u v w=>?_⟩;cases x with
 |int i=>
  cases y with
  |int j=>cases u;cases v;exact .inl ⟨i,j,rfl,rfl,W.here w R (.int _)⟩|_=>cases w
 |str i=>
  cases y with
  |str j=>cases u;cases v;obtain⟨A,w⟩:=zT w;exact .inr<|.inl ⟨i,j,rfl,rfl,A,W.here w R (.str _)⟩
  |_=>cases w
 |tup xs=>
  cases y with
  |tup c=>
   obtain⟨h2,w⟩:=zT w;cases u with
   |@tup a _ d hq hr=>
    cases v with
    |@tup b _ f g l=>
     have l1:=hr.length;have l2:=l.length;by_cases h1:xs.length=0
     .have s:=De h1;subst s;have s:=De l1.symm;subst s;exact .inr<|.inr<|.inr<|.inl ⟨a,b,f,rfl,rfl,hK▸hq,hK▸g,W.here w R (.tup g l)⟩
     refine .inr<|.inr<|.inl ⟨a,b,d,f,rfl,rfl,hK▸hq,hK▸g,λz=>?_,by omega,λz=>?_,λz p o=>?_⟩
     .rw[z]at l1;exact h1 l1
     .subst z;have s:c=[]:=by cases c with|nil=>rfl|cons _ _=>cases l2
      subst s;rw[rS]at w;exact W.here w R<|.tup hq hr
     .exact W.ok w (.jK o) (R.keep o)<|.tup (.of gQ)<|((hr.append l).ext (.jK o))
  |_=>cases w
 |ref n=>
  cases y with
  |ref m=>
   cases u with
   |@ref _ a q=>
    cases v with
    |@ref _ b q2=>
     have go:∀xs c,h.ob n=aA (.lst aB xs)->h.ob m=aA (.lst aB c)->W T (aW T) (if xs.length+c.length<=sizeLine then .ok (.ref h.nx) (h.new<|.lst aB<|xs++c) else .bad) Y H Q E->ET (.ref a) (.ref b) H Q:=λxs c r t w=>by
      by_cases A:xs.length+c.length<=sizeLine
      .rw[if_pos A]at w;obtain⟨d,g1,r1⟩:=R.obj n _ a r q;obtain⟨f,g2,r2⟩:=R.obj m _ b t q2;have l1:=r1.length;have l2:=r2.length;refine⟨a,b,d,f,rfl,rfl,g1,g2,by omega,λp o=>?_⟩;have ho:nX T (Y++[p]) (bF H p<|.lst<|d++f) p (.lst aB<|xs++c):=⟨_,gQ,(r1.append r2).ext ⟨λk z e=>by rw[xU ((List.getElem?_eq_some_iff.mp e).1)];exact e,(Ext.jK (Y:=Y) o).tup,(Ext.jK (Y:=Y) o).dC⟩⟩
       obtain⟨R',ex⟩:=R.alloc o ho;exact W.ok w ex R'<|.ref (by rw[<- R.len];simp)
      .rw[if_neg A]at w;cases w
     refine .inr<|.inr<|.inr<|.inr ?_;replace w:W T (aW T) (oy n m h) Y H Q E:=w
     unfold oy at w;cases r:ab h n with
     |none=>rw[r]at w;cases w|some xs=>
      cases t:ab h m with
      |none=>rw[r,t]at w;cases w|some c=>rw[r,t]at w;exact go xs c (BO r) (BO t) w
  |_=>cases w
 |_=>cases w
theorem HK(hK:X.K=T.K)(R:bP T Y h H)(r:aW T Y H x x')(e:jg h x=aA b):yO X.K x' H b:=by
 have emp:∀{xs:Hd}{d:Hg},bE T Y H xs d->(!xs.isEmpty) = !d.isEmpty:=λr=>by cases r<;>rfl
 cases r with
 |aH=>cases e;rfl|bl c=>cases e;rfl|int i=>cases e;rfl|str y=>
  simp only[jg]at e;by_cases f:y.length<=sizeLine
  .rw[if_pos f]at e;cases e;exact⟨f,rfl⟩
  .rw[if_neg f]at e;cases e
 |tup k hr=>cases e;exact .inr<|.inl ⟨_,hK▸k,emp hr⟩|@ref n a q=>
  simp only[jg]at e;cases o:h.ob n with
  |none=>rw[o]at e;cases e|some u=>
   rw[o]at e;cases u with
   |lst m d=>cases e;obtain⟨zs,h1,g⟩:=pD R o q;exact .inl ⟨zs,hK▸h1,emp g⟩
   |aR j=>
    cases e;obtain⟨s,d,h1,g,l⟩:=R.obj n _ a o q;refine .inr<|.inr ⟨_,h1,?_⟩;subst g;cases j with
    |nil=>rfl|cons p r=>cases l;rfl
   |dD _=>cases e|ins c fs=>cases e
 |lI q=>cases e
end
def uJ(i:Nat):aF->M AV:=λZ h=>match Z[i]? with
 |some (aA v)=>.ok v h
 |_=>.bad
def Ud(m k:M AV):M AV:=m.bind λx=>(cZ x).bind λb=>if b=aB then k else M.ret x
def CM(m k:M AV):M AV:=m.bind λx=>(cZ x).bind λb=>if b=aB then M.ret x else k
def Uc(m k:M Bool):M Bool:=m.bind λb=>if b=aB then k else M.ret aG
def CL(m k:M Bool):M Bool:=m.bind λb=>if b=aB then M.ret aB else k
def zp{α:Type}(c:M Bool)(a b:M α):M α:=c.bind λt=>if t=aB then a else b
def sA:AV->Option Bool
 |.bl b=>aA b
 |_=>aD
def fj(g g':AV->AV->M AV)(a b c:M AV):M AV:=a.bind λx=>b.bind λy=>(g x y).bind λz h=>match sA z with
 |some aB=>(c.bind λw=>g' y w) h
 |some aG=>.ok (.bl aG) h
 |none=>.bad
def Wg(a:M AV)(r:M Hd):M Hd:=a.bind λx=>r.bind λxs=>M.ret (x::xs)
def Nw(r:M Hd):M AV:=r.bind λxs=>M.guard (xs.length<=sizeLine) (M.ret<|.tup xs)
def kD(xs:Hd):M AV:=λh=>.ok (.ref h.nx) (h.new<|.lst aB xs)
def uQ(r:M Hd):M AV:=r.bind λxs=>M.guard (xs.length<=sizeLine) (kD xs)
def uS(g:AV->AV->M AV)(a b:M AV):M AV:=a.bind λx=>b.bind λy=>g x y
def bW:aK->Bool
 |.Name ..=>aB | .Constant ..=>aB | .BinOp ..=>aB | .UnaryOp ..=>aB | .Compare ..=>aB | .BoolOp ..=>aB | .IfExp ..=>aB
 |.Tuple ..=>aB | .List ..=>aB | .Subscript ..=>aB | .Call ..=>aB | .Attribute ..=>aB | .ListComp ..=>aB
 |.Dict ..=>aB
 |_=>aG
def uO:aK->Bool
 |.ListComp ..=>aB
 |_=>aG
def si:aK->Bool
 |.Name ..=>aB | .Constant ..=>aB | .BinOp ..=>aB | .Subscript ..=>aB | .Call ..=>aB | .Attribute ..=>aB | .Tuple ..=>aB | .List ..=>aB | .ListComp ..=>aB
 |.Dict ..=>aB
 |_=>aG
theorem fF(h:bW e=aB):eI (e::es) env=(aG,eval e env)::eI es env:=by cases e<;>first|rfl|cases h
theorem aJi(h:bW e=aB):Ez e:=λo i=>by cases e<;>first|rfl|cases h
theorem GD{t:Option aK}(h:bW e=aB)(hl:uO e=aG):vW e t n env=pure aG:=by cases e<;>first|rfl|(cases hl;done)|(cases h;done)
theorem Nb{x:Value}(h:bW e=aB):Eg e env x=pure x:=by cases e<;>first|rfl|cases h
theorem Bg{op:pL}(h:bW e=aB):vj op e=aG:=by cases e<;>first|rfl|cases h
theorem aAv(h:si e=aB):∀whole,isTrue e env whole=(do let v <- whole;Ej e.pos;lj [v] (truthy v)):=λ_=>by cases e<;>first|rfl|cases h
theorem tD(h:es.all bW=aB):(lR pos<|eI es env).any (·.1)=aG:=by
 induction es with
 |nil=>rfl|cons e es a=>rw[jY,bS]at h;rw[fF h.1];have:=a h.2;simp only[lR]at this ⊢;exact this
section
variable {a b:aK}{mt mu:aF->M Bool}
theorem aDt{i:Nat}{x:Str} (hN:X.N[i]?=aA x) (hv:ng X.env.scope x) (hd:(x==("__debug__":Str))=aG) (hcd:(x==("__classdict__":Str))=aG):QE X T E (.Name x pos) (uJ i):=by
 refine⟨_,aAa hN hv hd hcd,λd Z a h H Q R S w=>?_⟩;unfold uJ at w;cases q:Z[i]? with
 |none=>rw[q]at w;exact w.elim|some o=>
  cases o with
  |none=>rw[q]at w;exact w.elim|some v=>rw[q]at w;obtain⟨b,c,r⟩:=S.2 i v q;exact⟨b,c,w.here R r⟩
theorem uU{v':V}(hp:PE X e (tC v'))(r:∀Y H,aW T Y H v v'):QE X T E e (λ_=>M.ret v):=
 ⟨_,hp,λY _ _ h H Q R _ w=>W.here w R (r Y H)⟩
theorem DN:QE X T E e (λ_=>M.bad):=⟨λ_ _ _=>False,λ_ _ _ _ _ _ h=>h.elim,λ_ _ _ _ _ _ _ _ w=>w⟩
theorem Mj:QT X T E e (λ_=>M.bad):=⟨λ_ _ _=>False,λ_ _ _ _ _ _ h=>h.elim,λ_ _ _ _ _ _ _ _ w=>w⟩
theorem jh{α β:Type}{Rp:Rl α β}(ra:∀Y Z Z' h H Q,bP T Y h H->cV T Y H Z Z'->W T (aW T) (ma Z h) Y H Q E->ta Z' H Q)(rb:∀Y Z Z' h H Q,bP T Y h H->cV T Y H Z Z'->W T (aW T) (mb Z h) Y H Q E->tb Z' H Q){g:AV->AV->M α}{Q:β->Hp->Prop}{F:V->V->Hp->Prop}(R:bP T Y h H)(S:cV T Y H Z Z')(w:W T Rp ((ma Z).bind (λx=>(mb Z).bind λy=>g x y) h) Y H Q E)
  (f:∀Y2 x y x' y' h2 H2,Ext Y H Y2 H2->bP T Y2 h2 H2->aW T Y2 H2 x x'->aW T Y2 H2 y y'->cV T Y2 H2 Z Z'->W T Rp (g x y h2) Y2 H2 Q E->F x' y' H2):ta Z' H λx H1=>tb Z' H1 λy H2=>F x y H2:=
 ra Y Z Z' h H _ R S (W.bind w λa x x' h1 H1 b d e i=>rb a Z Z' h1 H1 _ d (S.ext b) (W.bind i λY2 y y' h2 H2 c R2 j k=>f Y2 x y x' y' h2 H2 (b.trans c) R2 (e.ext c) j ((S.ext b).ext c) k))
theorem aDl{op:rT}{g:AV->AV->M AV}(ho:dY X T E (eY op) g)(ha:QE X T E a ma)(hb:QE X T E b mb):QE X T E (.BinOp a op b pos) (λZ=>uS g (ma Z) (mb Z)):=by obtain⟨r,hr,d⟩:=ho;obtain⟨s,pa,e⟩:=ha;obtain⟨tb,f,i⟩:=hb;exact⟨_,Z4 hr pa f,λt Z j h H Q R S w=>jh e i R S w λc x y k l m n _ R2 o p _ q=>d c m n x y k l Q R2 o p q⟩
theorem aDd{g:AV->AV->M AV}(ho:vz X T E g)(ha:QE X T E a ma)(hb:QE X T E b mb)(hs:Ez b):QE X T E (.Subscript a b pos) (λZ=>uS g (ma Z) (mb Z)):=by obtain⟨r,hr,d⟩:=ho;obtain⟨s,pa,e⟩:=ha;obtain⟨tb,f,i⟩:=hb;exact⟨_,Y6 hr pa f hs,λt Z j h H Q R S w=>jh e i R S w λc x y k l m n _ R2 o p _ q=>d c m n x y k l Q R2 o p q⟩
theorem aCx{op:pL}{g:AV->AV->M AV}(ho:dY X T E (dG op) g)(ha:QE X T E a ma)(hb:QE X T E b mb)(hm:vj op b=aG):QE X T E (.Compare a [op] [b] pos) (λZ=>uS g (ma Z) (mb Z)):=by obtain⟨r,hr,d⟩:=ho;obtain⟨s,pa,e⟩:=ha;obtain⟨tb,f,i⟩:=hb;exact⟨_,Y0 hr pa f hm,λt Z j h H Q R S w=>jh e i R S w λc x y k l m n _ R2 o p _ q=>d c m n x y k l Q R2 o p q⟩
theorem aDs{op:PySem.UnaryOp}{g:AV->M AV}(ho:Ua X T E (Ek op) g)(ha:QE X T E a ma):QE X T E (.UnaryOp op a pos) (λZ=>(ma Z).bind g):=by obtain⟨r,hr,d⟩:=ho;obtain⟨m,pa,e⟩:=ha;exact⟨_,Z9 hr pa,λf Z b h H Q R S w=>e f Z b h H _ R S (W.bind w λc x i h1 H1 n j k l=>d c h1 H1 x i Q j k l)⟩
theorem Hv(hK:X.K=T.K){γ δ:Type}{Rq:Rl γ δ}{k:Bool->M γ}{Q:δ->Hp->Prop}(R:bP T Y h H)(r:aW T Y H x x')(w:W T Rq ((cZ x).bind k h) Y H Q E) :
  ∃d,yO X.K x' H d/\W T Rq (k d h) Y H Q E:=by
 unfold M.bind cZ at w;cases e:jg h x with
 |none=>rw[e]at w;cases w|some d=>rw[e]at w;exact⟨d,HK hK R r e,w⟩
theorem aDb(hc:QT X T E c mt)(ha:QE X T E a ma)(hb:QE X T E b mb):QE X T E (.IfExp c a b pos) (λZ=>zp (mt Z) (ma Z) (mb Z)):=by
 obtain⟨r,pc,rc⟩:=hc;obtain⟨s,pa,l⟩:=ha;obtain⟨tb,m,n⟩:=hb;refine⟨_,Y5 pc pa m,λo Z e h H Q R S w=>rc o Z e h H _ R S (W.bind w λf d p h1 H1 i j q k=>?_)⟩;have g:=q;subst g;cases d with
 |true=>exact l f Z e h1 H1 Q j (S.ext i) k|false=>exact n f Z e h1 H1 Q j (S.ext i) k
def aLe(K:bI)(ta tb:TE):TE:=λZ H Q=>ta Z H λx H1=>∃c,yO K x H1 c/\if c=aB then tb Z H1 Q else Q x H1
def aLu(K:bI)(ta tb:TE):TE:=λZ H Q=>ta Z H λx H1=>∃c,yO K x H1 c/\if c=aB then Q x H1 else tb Z H1 Q
def aLt(K:bI)(ta:TE):TE:=λZ H Q=>ta Z H λx H1=>∃c,yO K x H1 c/\Q (.bl<|!c) H1
variable {rest:List aK}
theorem X3(ha:PE X a ta)(hb:PE X (.BoolOp .And (b::rest) pos) tb):PE X (.BoolOp .And (a::b::rest) pos) (aLe X.K ta tb):=by
 intro pins s Z H Q I h;refine BoolOp_and<|bB (ha pins s Z H _ I h) λv s1 j=>?_;obtain⟨x,H1,k,f,c,ht,g⟩:=j;refine bB (Bt pins s1 Z H1 x v (λd e=>d=c/\e=H1) k f ⟨c,ht,rfl,rfl⟩) λd s2 ⟨e,i,l,m⟩=>?_;subst l;subst m;cases d with
 |true=>exact hb pins s2 Z e Q i g|false=>exact⟨x,e,i,f,g⟩
theorem Z5(ha:PE X a ta)(hb:PE X (.BoolOp .Or (b::rest) pos) tb):PE X (.BoolOp .Or (a::b::rest) pos) (aLu X.K ta tb):=by
 intro pins s Z H Q I h;refine BoolOp_or<|bB (ha pins s Z H _ I h) λv s1 j=>?_;obtain⟨x,H1,k,f,c,ht,g⟩:=j;refine bB (Bt pins s1 Z H1 x v (λd e=>d=c/\e=H1) k f ⟨c,ht,rfl,rfl⟩) λd s2 ⟨e,i,l,m⟩=>?_;subst l;subst m;cases d with
 |false=>exact hb pins s2 Z e Q i g|true=>exact⟨x,e,i,f,g⟩
theorem Z2(ha:PE X a ta):PE X (.UnaryOp .Not a pos) (aLt X.K ta):=by intro pins s Z H Q I h;refine UnaryOp_<|bB (ha pins s Z H _ I h) λv s1 e=>?_;obtain⟨x,H1,f,g,c,ht,i⟩:=e;refine not_of<|bB (Bt pins s1 Z H1 x v (λd b=>d=c/\b=H1) f g ⟨c,ht,rfl,rfl⟩) λd s2 ⟨b,j,k,l⟩=>?_;subst k;subst l;exact⟨.bl (!d),b,j,rfl,i⟩
theorem DQ{op:PySem.BoolOp}(ha:QE X T E a ma):QE X T E (.BoolOp op [a] pos) ma:=let ⟨t,p,r⟩:=ha;⟨t,Z3 p,r⟩
theorem aCo(hK:X.K=T.K)(ha:QE X T E a ma)(hb:QE X T E (.BoolOp .And (b::rest) pos) mb):QE X T E (.BoolOp .And (a::b::rest) pos) (λZ=>Ud (ma Z) (mb Z)):=by
 obtain⟨q,pa,j⟩:=ha;obtain⟨tb,k,l⟩:=hb;refine⟨_,X3 pa k,λm Z c h H Q R S w=>j m Z c h H _ R S (W.bind w λe x r h1 H1 n f g o=>?_)⟩;obtain⟨d,p,i⟩:=Hv hK f g o;refine⟨d,p,?_⟩;cases d with
 |true=>exact l e Z c h1 H1 Q f (S.ext n) i|false=>exact W.here i f g
theorem aDm(hK:X.K=T.K)(ha:QE X T E a ma)(hb:QE X T E (.BoolOp .Or (b::rest) pos) mb):QE X T E (.BoolOp .Or (a::b::rest) pos) (λZ=>CM (ma Z) (mb Z)):=by
 obtain⟨q,pa,j⟩:=ha;obtain⟨tb,k,l⟩:=hb;refine⟨_,Z5 pa k,λm Z c h H Q R S w=>j m Z c h H _ R S (W.bind w λe x r h1 H1 n f g o=>?_)⟩;obtain⟨d,p,i⟩:=Hv hK f g o;refine⟨d,p,?_⟩;cases d with
 |false=>exact l e Z c h1 H1 Q f (S.ext n) i|true=>exact W.here i f g
theorem aDk(hK:X.K=T.K)(ha:QE X T E a ma):QE X T E (.UnaryOp .Not a pos) (λZ=>(ma Z).bind λx=>(cZ x).bind λb=>M.ret (.bl<|!b)):=by obtain⟨n,pa,f⟩:=ha;refine⟨_,Z2 pa,λg Z c h H Q R S w=>f g Z c h H _ R S (W.bind w λi x o h1 H1 p e j k=>?_)⟩;obtain⟨d,l,m⟩:=Hv hK e j k;exact⟨d,l,W.here m e (.bl _)⟩
theorem Vp{r r':R2}{g:AV->AV->M AV}{tc:TE}
  (hg:∀Y h H x y x' y' Q,bP T Y h H->aW T Y H x x'->aW T Y H y y'->W T (aW T) (g x y h) Y H Q E->r x' y' H Q)
  (hg':∀Y h H x y x' y' Q,bP T Y h H->aW T Y H x x'->aW T Y H y y'->W T (aW T) (g' x y h) Y H Q E->r' x' y' H Q)
  (ra:∀Y Z Z' h H Q,bP T Y h H->cV T Y H Z Z'->W T (aW T) (ma Z h) Y H Q E->ta Z' H Q)(rb:∀Y Z Z' h H Q,bP T Y h H->cV T Y H Z Z'->W T (aW T) (mb Z h) Y H Q E->tb Z' H Q)
  (rc:∀Y Z Z' h H Q,bP T Y h H->cV T Y H Z Z'->W T (aW T) (mc Z h) Y H Q E->tc Z' H Q)(R:bP T Y h H)(S:cV T Y H Z Z')
  (w:W T (aW T) (fj g g' (ma Z) (mb Z) (mc Z) h) Y H Q E):Nn r r' ta tb tc Z' H Q:=by
 refine jh ra rb R S w λb x y x' y' m n _ R2 o i p q=>?_;refine hg b m n x y x' y' _ R2 o i<|W.bind q λa z I c j k l s t=>?_;have e:W T (aW T) (match sA z with
  |some aB=>((mc Z).bind λw=>g' y w) c
  |some aG=>Res.ok (.bl aG) c
  |none=>.bad) a j Q E:=t
 cases z with
 |bl d=>
  cases s;refine⟨d,rfl,?_⟩;cases d with
  |true=>exact rc a Z Z' c j _ l (p.ext k)<|W.bind e λf u v A B C D F G=>hg' f A B y u y' v Q D ((i.ext k).ext C) F G|false=>exact W.here e l<|.bl _
 |_=>exact e.elim
theorem aCv{op:pL}{g:AV->AV->M AV}(ho:dY X T E (dG op) g)(ho':dY X T E (dG op') g')(ha:QE X T E a ma)(hb:QE X T E b mb)(hc:QE X T E c mc)
  (hm:Ei [op,op'] [b,c]=aG):QE X T E (.Compare a [op,op'] [b,c] pos) (λZ=>fj g g' (ma Z) (mb Z) (mc Z)):=by
 obtain⟨r,hr,f⟩:=ho;obtain⟨m,d,e⟩:=ho';obtain⟨n,pa,i⟩:=ha;obtain⟨tb,j,k⟩:=hb;obtain⟨o,pc,rc⟩:=hc;exact⟨_,X9 hr d pa j pc hm,λp Z l h H Q R S w=>Vp f e i k rc R S w⟩
theorem rN(hK:X.K=T.K)(ha:QE X T E a ma)(he:si a=aB):QT X T E a (λZ=>(ma Z).bind cZ):=by
 obtain⟨l,pa,g⟩:=ha;refine⟨_,aCc pa (aAv he),λi Z c h H Q R S w=>g i Z c h H _ R S (W.bind w λj x m h1 H1 n f k b=>?_)⟩;unfold cZ at b;cases e:jg h1 x with
 |none=>rw[e]at b;cases b|some d=>rw[e]at b;exact⟨d,HK hK f k e,b.here f rfl⟩
theorem Vk{z:AV}{z':V}{Q:Bool->Hp->Prop}(R:bP T Y h H)(r:aW T Y H z z')(w:W T RB (match sA z with
  |some d=>Res.ok d h
  |none=>.bad) Y H Q E):∃k,z' = .bl k/\Q k H:=by
 cases z with
 |bl d=>cases r;exact⟨d,rfl,W.here w R rfl⟩|_=>exact w.elim
def yg(z:AV):M Bool:=λh=>match sA z with
 |some d=>.ok d h
 |none=>.bad
theorem aHl{op:pL}{g:AV->AV->M AV}(ho:dY X T E (dG op) g)(ha:QE X T E a ma)(hb:QE X T E b mb)(hm:vj op b=aG):QT X T E (.Compare a [op] [b] pos) (λZ=>(uS g (ma Z)<|mb Z).bind yg):=by obtain⟨r,hr,e⟩:=ho;obtain⟨D,pa,f⟩:=ha;obtain⟨tb,i,j⟩:=hb;refine⟨_,aCa hr pa i hm,λl Z m h H Q R S w=>?_⟩;have n:W T (aW T) (uS g (ma Z) (mb Z) h) l H (λx o=>∃k,x = .bl k/\Q k o) E:=W.bind w λp z F h1 H1 G q c s=>Vk q c s;exact jh f j R S n λd x y t u v A _ R2 c B _ C=>e d v A x y t u _ R2 c B C
theorem aHk{op:pL}{g:AV->AV->M AV}(ho:dY X T E (dG op) g)(ho':dY X T E (dG op') g')(ha:QE X T E a ma)(hb:QE X T E b mb)(hc:QE X T E c mc)
  (hm:Ei [op,op'] [b,c]=aG):QT X T E (.Compare a [op,op'] [b,c] pos) (λZ=>(fj g g' (ma Z) (mb Z)<|mc Z).bind yg):=by
 obtain⟨r,hr,f⟩:=ho;obtain⟨v,d,e⟩:=ho';obtain⟨y,pa,i⟩:=ha;obtain⟨tb,j,l⟩:=hb;obtain⟨A,pc,rc⟩:=hc;refine⟨_,aBz hr d pa j pc hm,λm Z n h H Q R S w=>?_⟩;have o:W T (aW T) (fj g g' (ma Z) (mb Z) (mc Z) h) m H (λx p=>∃k,x = .bl k/\Q k p) E:=W.bind w λq z B h1 H1 C s t u=>Vk s t u;exact Vp f e i l rc R S o
theorem aHm(ha:QT X T E a mt):QT X T E (.UnaryOp .Not a pos) (λZ=>(mt Z).bind λb=>M.ret (!b)):=by obtain⟨m,pa,e⟩:=ha;refine⟨_,aCb pa,λf Z c h H Q R S w=>e f Z c h H _ R S (W.bind w λg x i h1 H1 n j k l=>?_)⟩;have d:=k;subst d;exact W.here l j rfl
theorem aHo(ha:QT X T E a mt):QW X T E (.BoolOp .And [a] pos) mt:=let ⟨t,p,r⟩:=ha;⟨t,aCi p,r⟩
theorem aHq(ha:QT X T E a mt):QW X T E (.BoolOp .Or [a] pos) mt:=let ⟨t,p,r⟩:=ha;⟨t,aCl p,r⟩
theorem aHn(ha:QT X T E a mt)(hb:QW X T E (.BoolOp .And (b::rest) pos) mu):QW X T E (.BoolOp .And (a::b::rest) pos) (λZ=>Uc (mt Z) (mu Z)):=by
 obtain⟨p,pa,i⟩:=ha;obtain⟨tb,j,k⟩:=hb;refine⟨_,aCh pa j,λl Z c h H Q R S w=>i l Z c h H _ R S (W.bind w λd x m h1 H1 n f o g=>?_)⟩;have e:=o;subst e;cases x with
 |true=>exact k d Z c h1 H1 Q f (S.ext n) g|false=>exact W.here g f rfl
theorem aHp(ha:QT X T E a mt)(hb:QW X T E (.BoolOp .Or (b::rest) pos) mu):QW X T E (.BoolOp .Or (a::b::rest) pos) (λZ=>CL (mt Z) (mu Z)):=by
 obtain⟨p,pa,i⟩:=ha;obtain⟨tb,j,k⟩:=hb;refine⟨_,aCk pa j,λl Z c h H Q R S w=>i l Z c h H _ R S (W.bind w λd x m h1 H1 n f o g=>?_)⟩;have e:=o;subst e;cases x with
 |true=>exact W.here g f rfl|false=>exact k d Z c h1 H1 Q f (S.ext n) g
theorem aCn:QA X T E [] (λ_=>M.ret []):=⟨_,ae,λY _ _ h H Q R _ w=>W.here w R .nil⟩
theorem aCm(ha:QE X T E e m)(hr:QA X T E es mr)(hs:bW e=aB):QA X T E (e::es) (λZ=>Wg (m Z) (mr Z)):=by obtain⟨r,pa,c⟩:=ha;obtain⟨s,pr,d⟩:=hr;exact⟨_,xA pa pr (fF hs),λf Z a h H Q R S w=>c f Z a h H _ R S (W.bind w λb x t h1 H1 g i j k=>d b Z a h1 H1 _ i (S.ext g) (W.bind k λl xs n u v o R2 p q=>W.here q R2 (.cons (j.ext o) p)))⟩
theorem aBd{p:Addr}(hp:H p=aD):Ext Y H (Y++[p]) (bF H p O):=⟨λk z e=>by rw[xU ((List.getElem?_eq_some_iff.mp e).1)];exact e,(Ext.jK (Y:=Y) hp).tup,(Ext.jK (Y:=Y) hp).dC⟩
theorem uR{p:Addr}(R:bP T Y h H)(r:bE T Y H xs dU)(hp:H p=aD)(w:W T (aW T) (kD xs h) Y H Q E):Q (.ref p) (bF H p<|.lst dU):=by obtain⟨a,ex⟩:=R.alloc (o:=.lst aB xs) hp ⟨_,gQ,r.ext (aBd hp)⟩;exact W.ok w ex a<|.ref (by rw[<- R.len];simp)
theorem Ah{p:Addr}(R:bP T Y h H)(r:bE T Y H xs dU)(hp:H p=aD)(w:W T (aW T) (.ok (.tup xs) h) Y H Q E):Q (.ref p) (bF H p<|.tup dU):=
 W.ok w (.jK hp) (R.keep hp) (.tup (.of gQ)<|r.ext<|.jK hp)
theorem aDr{k:Nat}(h:QA X T E es mr):QE X T E (.Tuple es k pos) (λZ=>Nw (mr Z)):=by obtain⟨m,pr,d⟩:=h;refine⟨_,Z8 pr,λe Z a h H Q R S w=>d e Z a h H _ R S (W.bind w λf xs g h1 H1 n i c b=>?_)⟩;obtain⟨j,b⟩:=zT b;exact⟨c.length▸j,λp l=>Ah i c l b⟩
theorem aDe(h:QA X T E es mr):QE X T E (.List es pos) (λZ=>uQ (mr Z)):=by obtain⟨l,pr,d⟩:=h;refine⟨_,Y7 pr,λe Z a h H Q R S w=>d e Z a h H _ R S (W.bind w λf xs g h1 H1 m i c b=>?_)⟩;obtain⟨j,b⟩:=zT b;exact⟨c.length▸j,λp k=>uR i c k b⟩
def tE(T:Tab)(g:Hd->M AV):Sp:=λvs H Q E=>∃Y h args,bP T Y h H/\bE T Y H args vs/\W T (aW T) (g args h) Y H Q E
inductive Fn(X:Cx)(T:Tab)(E:XK)(x:Str)(g:Hd->M AV):Prop
 |mk (k:Nat) (f:Addr) (fd:eW) (ps:Xo) (_:iN X.prog X.w X.K X.mg X.base (kP X.prog X.w) k f fd ps (tE T g)) (_:fK (k+1) X.A) (_:X.mg x=aA (.ref f)) (_:tL X.K (.ref f)=aB) (_:Binds X.K fd ps []) (_:rZ (kP X.prog X.w) X E):Fn X T E x g
theorem aCs{x:Str}{g:Hd->M AV}(F:Fn X T E x g)(hg:Gl X x)(hd:(x==("__debug__":Str))=aG):QE X T E (.Call (.Name x p) [] [] pos) (λ_=>g []):=by obtain⟨k,f,fd,ps,F,hr,hm,a,hb,b⟩:=F;exact⟨_,X7 F (hr.mono<|jL _) hg hm a hb .nil b hd,λc Z d h H Q R S w=>⟨c,h,[],R,.nil,w⟩⟩
theorem aCr{x:Str}{g:Hd->M AV}(F:Fn X T E x g)(hg:Gl X x)(ha:QA X T E (e::es) mr)(hs:(e::es).all bW=aB)(hd:(x==("__debug__":Str))=aG):QE X T E (.Call (.Name x p) (e::es) [] pos) (λZ=>(mr Z).bind g):=by obtain⟨k,f,fd,ps,F,hr,hm,c,hb,d⟩:=F;obtain⟨q,pr,i⟩:=ha;rw[jY,bS]at hs;refine⟨_,X6 F (hr.mono<|jL _) hg hm c hb .nil d pr hd (fF hs.1) (tD hs.2),λj Z a h H Q R S w=>i j Z a h H _ R S (W.bind w λb xs l h1 H1 r m n o=>?_)⟩;rw[rS];exact⟨b,h1,xs,m,n,o⟩
theorem bE.flat{Y:Xk}{H:Hp}{xs:Hd}{ys:Hg}(r:bE T Y H xs ys):∀(k:Nat),bE T Y H (eR k xs).flatten (eR k ys).flatten
 |0=>.nil
 |k+1=>by exact r.append<|bE.flat r k
theorem W3:dY X T E (eY .Mult) pq:=by
 obtain⟨r,f,g⟩:=(sT S9 λ_ _ h=>N1 h:dY X T E (eY .Mult) (mO rG (·*·)));refine⟨_,f.or U2,λi h H x y s t Q R c d w=>?_⟩;cases x with
 |ref n=>
  refine .inr ?_;cases y with
  |int k=>
   cases d;cases c with
   |@ref _ a q=>
    simp only[pq]at w;cases o:h.ob n with
    |none=>simp only[o]at w;cases w|some u=>
     simp only[o]at w;cases u with
     |lst m xs=>
      cases m with
      |false=>cases w|true=>
       dsimp only at w;by_cases b:0<=k/\xs.length*k.toNat<=sizeLine/\k<2 ^ 63
       .rw[if_pos b]at w;obtain⟨j,h1,e⟩:=R.obj n _ a o q;exact⟨a,k,j,rfl,rfl,h1,by lia,b.2.2,by rw[<- e.length];exact b.2.1,λp l=>uR R (e.flat _) l w⟩
       .rw[if_neg b]at w;cases w
     |_=>cases w
  |_=>cases w
 |_=>exact .inl<|g i h H _ _ _ _ Q R c d w
end
inductive Out where
 |nx (Z:aF)|ret (v:AV)|brk (Z:aF)|cnt (Z:aF)
variable {body ms:aF->M Out}
inductive jN where
 |nx (Z:L2.St)|ret (v:V)|brk (Z:L2.St)|cnt (Z:L2.St)
def RO(T:Tab):Rl Out jN:=λY H a b=>match a,b with
 |.nx Z,.nx Z'=>cV T Y H Z Z'
 |.ret v,.ret v'=>aW T Y H v v'
 |.brk Z,.brk Z'=>cV T Y H Z Z'
 |.cnt Z,.cnt Z'=>cV T Y H Z Z'
 |_,_=>False
def nM(D:Ends):jN->Hp->Prop
 |.nx Z=>D.nx Z
 |.ret v=>D.rt v
 |.brk Z=>D.bk Z
 |.cnt Z=>D.ct Z
def QS(X:Cx)(T:Tab)(E:XK)(st:Stmt)(m:aF->M Out):Prop:=
 ∃t,PS X st t/\∀Y Z Z' h H D,bP T Y h H->cV T Y H Z Z'->W T (RO T) (m Z h) Y H (nM D) E->t D Z' H
def wC(X:Cx)(T:Tab)(E:XK)(st:Xm)(m:aF->M Out):Prop:=
 ∃t,rY X st t/\∀Y Z Z' h H D,bP T Y h H->cV T Y H Z Z'->W T (RO T) (m Z h) Y H (nM D) E->t D Z' H
def QG(X:Cx)(T:Tab)(E:XK)(tg:aK)(g:AV->aF->M aF):Prop:=
 ∃t,PG X tg t/\∀Y v v' Z Z' h H Q,bP T Y h H->cV T Y H Z Z'->aW T Y H v v'->W T (cV T) (g v Z h) Y H Q E->t v' Z' H Q
def ei(X:Cx)(T:Tab)(E:XK)(uj:List aK)(g:Hd->aF->M aF):Prop:=
 ∃t,my X uj t/\∀Y vs vs' Z Z' h H Q,bP T Y h H->cV T Y H Z Z'->bE T Y H vs vs'->W T (cV T) (g vs Z h) Y H Q E->t vs' Z' H Q
def FY(m:M Out)(k:aF->M Out):M Out:=m.bind λo=>match o with
 |.nx Z=>k Z
 |.ret v=>M.ret (.ret v)
 |.brk Z=>M.ret (.brk Z)
 |.cnt Z=>M.ret (.cnt Z)
section
variable {a b:aK}{mt:aF->M Bool}{mk:aF->M Out}{st:Stmt}{rest:Xm}{g:AV->aF->M aF}{gs:Hd->aF->M aF}
theorem iU:QS X T E st (λ_=>M.bad):=⟨_,aBp,λ_ _ _ _ _ _ _ _ w=>w⟩
theorem aHj:wC X T E [] (λZ=>M.ret (.nx Z)):=⟨_,aBy,λc Z a h H D R S w=>W.here (b:=jN.nx a) w R S⟩
theorem aHi(h1:QS X T E st ms)(h2:wC X T E rest mk):wC X T E (st::rest) (λZ=>FY (ms Z) mk):=by
 obtain⟨t,p,r⟩:=h1;obtain⟨u,q,s⟩:=h2;refine⟨_,aBx p q,λj Z g h H D R S w=>r j Z g h H _ R S (W.bind w λi o d h1 H1 l e b f=>?_)⟩;cases o with
 |nx c=>cases d with
  |nx a=>exact s i c a h1 H1 D e b f|_=>exact b.elim
 |ret v=>cases d with
  |ret k=>exact(W.here (Q:=nM D) f e b:D.rt k H1)|_=>exact b.elim
 |brk c=>cases d with
  |brk a=>exact(W.here (Q:=nM D) f e b:D.bk a H1)|_=>exact b.elim
 |cnt c=>cases d with
  |cnt a=>exact(W.here (Q:=nM D) f e b:D.ct a H1)|_=>exact b.elim
theorem aHd:QS X T E (.Pass pos) (λZ=>M.ret (.nx Z)):=⟨_,aBr,λc Z a h H D R S w=>W.here (b:=jN.nx a) w R S⟩
theorem aGv:QS X T E (.Break pos) (λZ=>M.ret (.brk Z)):=⟨_,aBi,λc Z a h H D R S w=>W.here (b:=jN.brk a) w R S⟩
theorem aGw:QS X T E (.Continue pos) (λZ=>M.ret (.cnt Z)):=⟨_,aBj,λc Z a h H D R S w=>W.here (b:=jN.cnt a) w R S⟩
theorem aGx(he:QE X T E e m)(hs:bW e=aB)(hlc:uO e=aG):QS X T E (.Expr e pos) (λZ=>(m Z).bind λ_=>M.ret (.nx Z)):=by obtain⟨t,p,r⟩:=he;exact⟨_,aBk p (GD hs hlc),λc Z a h H D R S w=>r c Z a h H _ R S (W.bind w λd x j h1 H1 f g k i=>W.here (b:=jN.nx a) i g (S.ext f))⟩
theorem aHe(he:QE X T E e m):QS X T E (.Return (aA e) pos) (λZ=>(m Z).bind λv=>M.ret (.ret v)):=by obtain⟨t,p,r⟩:=he;exact⟨_,aBs p,λc Z a h H D R S w=>r c Z a h H _ R S (W.bind w λd x f h1 H1 k g i j=>W.here (b:=jN.ret f) j g i)⟩
theorem aHf:QS X T E (.Return aD pos) (λ_=>M.ret (.ret .aH)):=⟨_,aBt,λc d a h H D R S w=>W.here (b:=jN.ret .aH) w R .aH⟩
theorem aHb(hc:QT X T E c mt)(ha:wC X T E sts ms)(hb:wC X T E rest mk):QS X T E (.If c sts rest pos) (λZ=>zp (mt Z) (ms Z) (mk Z)):=by
 obtain⟨p,pc,rc⟩:=hc;obtain⟨q,pa,j⟩:=ha;obtain⟨tb,k,l⟩:=hb;refine⟨_,aBo pc pa k,λm Z a h H D R S w=>rc m Z a h H _ R S (W.bind w λb d n h1 H1 f g o i=>?_)⟩;have e:=o;subst e;cases d with
 |true=>exact j b Z a h1 H1 D g (S.ext f) i|false=>exact l b Z a h1 H1 D g (S.ext f) i
theorem uV:QG X T E tg (λ_ _=>M.bad):=⟨λ_ _ _ _=>False,λ_ _ _ _ _ _ _ _ _ h=>h.elim,λ_ _ _ _ _ _ _ _ _ _ _ w=>w⟩
theorem Lj{i:Nat}{x:Str}(hN:X.N.Nodup)(hi:X.N[i]?=aA x)(hx:vY X.env.scope x)(hf:X.fn x=aB\/X.env.scope.names.lookup x=aA .local):QG X T E (.Name x pos) (λv Z=>M.ret (Z.set i<|aA v)):=
 ⟨_,aAb hN hi hx hf,λb v c Z a h H Q R S r w=>W.here w R (S.set r i)⟩
def Ic(vs:Hd)(Z:aF):M aF:=match vs with
 |[]=>M.ret Z
 |_=>M.bad
def Ib(g:AV->aF->M aF)(gs:Hd->aF->M aF)(vs:Hd)(Z:aF):M aF:=match vs with
 |v::r=>(g v Z).bind λZ1=>gs r Z1
 |[]=>M.bad
theorem DU:ei X T E [] Ic:=⟨_,aAf,λc d a e b h H Q R S r w=>by
 cases r with
 |nil=>exact⟨rfl,W.here w R S⟩|cons _ _=>exact w.elim⟩
def tF:aK->Bool
 |.Name ..=>aB | .Tuple ..=>aB | .Subscript ..=>aB | .Attribute ..=>aB
 |_=>aG
theorem Nt{t:aK}(h:tF t=aB):rW (t::ts) env=(aG,cu t env)::rW ts env:=by cases t<;>first|rfl|cases h
theorem DT(h1:QG X T E tg g)(h2:ei X T E es gs)(ht:tF tg=aB):ei X T E (tg::es) (Ib g gs):=by
 obtain⟨t,p,r⟩:=h1;obtain⟨u,q,s⟩:=h2;refine⟨_,aAe p q (by rw[Nt ht];rfl),λe v f i b h H Q R S j w=>?_⟩;cases j with
 |nil=>cases w|cons k rs=>exact⟨_,_,rfl,r e _ _ i b h H _ R S k (W.bind w λc d a h1 H1 l m n o=>s c _ _ d a h1 H1 Q m n (rs.ext l) o)⟩
theorem XY(h:ts.all tF=aB):(rW ts env).length=ts.length/\(rW ts env).findIdx? (·.1)=aD:=by
 induction ts with
 |nil=>exact⟨rfl,rfl⟩|cons t ts a=>rw[jY,bS]at h;rw[Nt h.1];obtain⟨h1,b⟩:=a h.2;refine⟨by rw[iB,iB,h1],?_⟩;rw[List.findIdx?_cons,b];rfl
end
section
variable {E:Value->aI->Prop}
theorem Wx{it l:Addr}{items:Xq}(hne:l≠it):∀(n i:Nat) (s:aI) (Q:He->aI->Prop),s.heap.IsListIter it l i->s.heap.IsList l items->i+n<=items.size ->
  (∀h',h'.IsListIter it l (i+n)->xR it s.heap h'->Q ((items.toList.drop i).take n) { s with heap:=h' })->aS (aZ prog w) A (draw (.ref it) n) Q E s
 |0,i,s,Q,hit,_,_,hQ=>by show aS _ _ (pure []) Q E s;exact cB (by simpa using hQ s.heap hit (Heap.SameBut.refl ..))
 |n+1,i,s,Q,hit,ht,hle,hQ=>by
  have eB:i<items.size:=by omega
  show aS _ _ (tO (.ref it)>>=_) Q E s;refine aM<|NY hit ht (x:=items[i]) (by simp[eB]) λh₁ hit₁ hs₁=>?_;refine aM<|oT<|Wx hne n (i+1) _ _ hit₁ (ht.extBut hs₁.extBut hne) (by omega) λh₂ hit₂ hs₂=>cB ?_;have hd:items.toList.drop i=items[i]::items.toList.drop (i+1):=by simp[Pu,eB]
  have:=hQ h₂ (by rw[show i+(n+1)=i+1+n by omega];exact hit₂) (hs₁.trans hs₂);rw[hd,LH]at this;exact this
theorem aNi{t:Addr}{Q:He->aI->Prop}(hh:A.handled=aD)(ht:s.heap.IsList t items)
  (hQ:∀h',kg s.heap.objs.size s.heap h'->Q items.toList { s with heap:=h' }):aS (aZ prog w) A (unpackItems (.ref t) items.size aD) Q E s:=by
 have eB:t≠s.heap.objs.size:=by obtain⟨o,ho,_⟩:=ht;exact cA<|cW ho
 unfold unpackItems;refine aM ?_
 .unfold notIterableAtAll;refine aM<|NZ ht.typeIs PySem.slot_list_iter.lookup ?_;refine cB ?_;simp only[Cr,if_false];refine aM<|oT<|ly ht ?_;have ht0:(s.heap.push { cls:=.type "list_iterator",data:=.fields #[.ref t,.int 0 0] }).IsList t items:=ht.at λo e=>cT _ e;refine aM<|oT<|Wx eB items.size 0 _ _ ⟨_,fU _ rfl,rfl,rfl⟩ ht0 (by omega) λh₁ hit₁ hs₁=>?_;have pB:List.take items.size (List.drop 0 items.toList)=items.toList:=by rw[JZ];exact Qr (by simp)
  rw[pB];rw[if_neg (by simp)];have ht₁:h₁.IsList t items:=ht0.extBut hs₁.extBut eB;refine aM<|oT<|Te hh hit₁ ht₁ (by simp) λh₂ he₂=>?_;simp only[Option.isSome_none,Cr,if_false];refine cB<|hQ h₂ λb o hb e=>he₂ b o hb (hs₁.extBut b o hb<|cT _ e)
theorem OI{x1}{t:Addr}{Q:Unit->aI->Prop}(hh:A.handled=aD)(ht:s.heap.IsList t items)
  (hn:(rW elts env).length=items.size)(B7:(rW elts env).findIdx? (·.1)=aD)
  (h:∀h',kg s.heap.objs.size s.heap h'->aS (aZ prog w) A (NB ((rW elts env).map (·.2)) items.toList) Q E { s with heap:=h' }) :
  aS (aZ prog w) A (cu (.Tuple elts x1 pos) env<|.ref t) Q E s:=by
 refine aM<|mf ?_;unfold unpack;rw[hn,B7];exact aM<|oT<|aNi hh ht h
end
section
variable {a b:aK}{mt:aF->M Bool}{mk:aF->M Out}{st:Stmt}{rest:Xm}{g:AV->aF->M aF}{gs:Hd->aF->M aF}
def u9(K:bI)(n:Nat)(t:yN):TG:=λv Z H Q=>∃a xs,v = .ref a/\(dH K H a xs\/eD K H a xs)/\xs.length=n/\t xs Z H Q
theorem aAc{k:Nat}{t:yN}(hc:X.calm=aB)(h:my X es t)(hs:es.all tF=aB):PG X (.Tuple es k pos) (u9 X.K es.length t):=by
 obtain⟨hn,hst⟩:=XY (env:=X.env) hs;intro pins s Z H v u Q I r hw;obtain⟨a,xs,e1,hq,hl,hw⟩:=hw;subst e1;cases r;rcases hq with hq|hq
 .obtain⟨its,rv,ht,hz⟩:=I.list hq;refine OI (I.ok.hd hc) ht.isList (by simp[hn,<- hl,rv.length]) hst λh' hx=>?_;have I1:Inv X pins Z H { s with heap:=h' }:=I.kept (t':=s.toks) λb o e=>hx b o (cA<|cW e) e;exact h pins _ Z H xs _ Q I1 (by simpa using rv) hw
 .obtain⟨its,rv,ht,hz⟩:=I.tuple hq;refine assign_Tuple_tuple (I.ok.hd hc) ht (by simp[hn,<- hl,rv.length]) hst λh' hx=>?_;have I1:Inv X pins Z H { s with heap:=h' }:=I.kept (t':=s.toks) λb o e=>hx b o (cA<|cW e) e;exact h pins _ Z H xs _ Q I1 (by simpa using rv) hw
def zR(n:Nat)(gs:Hd->aF->M aF)(v:AV)(Z:aF):M aF:=λh=>match dX h v with
 |some xs=>if xs.length=n then gs xs Z h else .bad
 |none=>.bad
theorem DS(hK:X.K=T.K)(hc:X.calm=aB){k:Nat}(h:ei X T E es gs)(hs:es.all tF=aB):QG X T E (.Tuple es k pos) (zR es.length gs):=by
 obtain⟨t,p,r⟩:=h;refine⟨_,aAc hc p hs,λc v g d a h H Q R S e w=>?_⟩;unfold zR at w;cases q:dX h v with
 |none=>rw[q]at w;cases w|some xs=>
  rw[q]at w;by_cases hl:xs.length=es.length
  .simp only[if_pos hl]at w;obtain⟨p,b,rfl,f,hr⟩:=jd R e q;exact⟨p,b,rfl,hK▸f,hr.length▸hl,r c xs b d a h H Q R S hr w⟩
  .simp only[if_neg hl]at w;exact w.elim
def rA(o i v:AV):M Unit:=λh=>match o,i with
 |.ref n,.int k=>match h.ob n with
  |some (.lst aB xs)=>match jP xs.length k with
   |some j=>.ok () (h.put n<|.lst aB<|xs.set j v)
   |none=>.bad
  |_=>.bad
 |_,_=>.bad
def oA(o i v:AV):M Unit:=λh=>match fQ h o with
 |some kvs=>match o,fN i with
  |.ref n,aA k=>if kvs.length<sizeLine then .ok () (h.put n<|.aR<|jT kvs k v) else .bad
  |_,_=>.bad
 |none=>rA o i v h
theorem aDu(hu:X.A.units+1<cLine)(ha:QE X T E a ma)(hb:QE X T E b mb)(hs:bW b=aB):QG X T E (.Subscript a b pos) (λv Z=>(ma Z).bind λo=>(mb Z).bind λi=>(oA o i v).bind λ_=>M.ret Z):=by
 obtain⟨ta,pa,N⟩:=ha;obtain⟨tb,O,P⟩:=hb;refine⟨_,aAd pa O (aJd hu) (by intro v;cases b<;>first|rfl|cases hs),λY v F Z U h H Q R S V w=>?_⟩;refine jh N P R S w λf x y x' y' l m YW R2 G I J c=>?_;have s:=V.ext YW;cases d:fQ l x with
 |some B=>
  refine .inr ?_;obtain⟨n,a,us,rfl,q,o,rfl,g,r⟩:=wO R2 G d;cases k:fN y with
  |none=>simp only[M.bind,oA,d,k]at c;cases c|some YQ=>
   by_cases C:B.length<sizeLine
   .simp only[M.bind,oA,d,k,if_pos C]at c;have ex:Ext f m f (bF m a<|.dK<|putK us YQ F):=⟨λ_ _ z=>z,λb xs z=>by
     rw[bZ (rJ z g nofun)];exact z,λb x u z=>by
     rw[bZ (rJ z g nofun)];exact z⟩
    obtain⟨D,t⟩:=R2.write o rfl rfl q g (nofun) (λ_ _ z=>by cases z) (Go gQ<|(FP r s).ext ex);refine⟨a,_,rfl,?_,W.ok c t D (J.ext t)⟩;rw[sO I k];exact mj.k g (by rw[<- FO r];exact C)
   .simp only[M.bind,oA,d,k,if_neg C]at c;cases c
 |none=>
 refine .inl ?_;have c:W T (cV T) (((rA x y v).bind λ_=>M.ret Z) l) f m Q E:=by
  have e:(oA x y v) l=rA x y v l:=by simp only[oA,d]
  simp only[M.bind,e]at c ⊢;exact c
 cases x with
 |ref n=>
  cases y with
  |int k=>
   cases I;cases G with
   |@ref _ p q=>
    cases o:l.ob n with
    |none=>simp only[M.bind,rA,o]at c;cases c|some u=>
     cases u with
     |lst mu xs=>
      cases mu with
      |true=>
       obtain⟨K,g1,L⟩:=R2.obj n _ p o q;cases j:jP xs.length k with
       |none=>simp only[M.bind,rA,o,j]at c;cases c|some A=>
        simp only[M.bind,rA,o,j]at c;obtain⟨D,t⟩:=R2.write (o':=.lst aB (xs.set A v)) o rfl rfl q g1 (nofun) (λ_ _ z=>by cases z) ⟨_,gQ,by
         have:Ext f m f (bF m p<|.lst<|K.set A F):=⟨λ_ _ z=>z,λb xs z=>by
          rw[bZ (rJ z g1 nofun)];exact z,λb x u z=>by
          rw[bZ (rJ z g1 nofun)];exact z⟩
         exact(bE.set s A L).ext this⟩
        exact⟨p,K,k,A,rfl,rfl,g1,L.length▸j,W.ok c t D (J.ext t)⟩
      |false=>simp only[M.bind,rA,o]at c;cases c
     |aR _=>simp only[M.bind,rA,o]at c;cases c|dD _=>simp only[M.bind,rA,o]at c;cases c|ins _ _=>simp only[M.bind,rA,o]at c;cases c
  |_=>cases c
 |_=>cases c
def swE(ts:List aK)(e:aK)(sc:gJ):Sem (Option<|Xo):=lq ts e { (default:Env)with scope:=sc }
def Nm{α:Type}:Sem α->Option α
 |.pure x=>aA x
 |_=>aD
theorem GS{α:Type}{s:Sem α}{x:α}(h:Nm s=aA x):s=pure x:=by
 cases s with
 |pure a=>cases h;rfl|_=>cases h
theorem aGu(he:QE X T E e m)(hg:QG X T E tg g)(hs:bW e=aB)(hlc:uO e=aG)(ht:tF tg=aB)(hw:lq [tg] e X.env=pure aD):QS X T E (.Assign [tg] e pos) (λZ=>(m Z).bind λv=>(g v Z).bind λZ1=>M.ret (.nx Z1)):=by obtain⟨A,p,r⟩:=he;obtain⟨t,q,s⟩:=hg;refine⟨_,aBg p q (GD hs hlc) hw (by rw[Nt ht];rfl),λf Z a h H D R S w=>r f Z a h H _ R S (W.bind w λd x i h1 H1 j k l n=>?_)⟩;exact s d x i Z a h1 H1 _ k (S.ext j) l<|W.bind n λo u c B C F R2 y z=>W.here (b:=jN.nx c) z R2 y
abbrev gF:=Nat->AH->Option (Option AV)
def RI(T:Tab):Rl gF It:=λY H it J=>∀Y' h' H' i,Ext Y H Y' H'->bP T Y' h' H' ->
 (it i h'=aA aD->J.stop i H')/\∀v,it i h'=aA (aA v)->J.go i H'/\∀x H2,J.uu i H' x H2->∃Y2,Ext Y' H' Y2 H2/\bP T Y2 h' H2/\aW T Y2 H2 v x
def QI(X:Cx)(T:Tab)(E:XK)(tg cQ:aK)(mi:aF->M gF):Prop:=
 ∃wi,PI X tg cQ wi/\∀Y Z Z' h H R,bP T Y h H->cV T Y H Z Z'->W T (RI T) (mi Z h) Y H R E->wi Z' H R
def kW(it:gF)(g:AV->aF->M aF)(body:aF->M Out):Nat->Nat->aF->M Out
 |0,_,_=>M.bad
 |f+1,i,Z=>λh=>match it i h with
  |none=>.bad
  |some aD=>.ok (.nx Z) h
  |some (aA v)=>((g v Z).bind λZ1=>(body Z1).bind λo=>match o with
   |.nx Z2=>kW it g body f (i+1) Z2
   |.cnt Z2=>kW it g body f (i+1) Z2
   |.brk Z2=>M.ret (.nx Z2)
   |.ret v=>M.ret (.ret v)) h
theorem Ti:∃n:Nat,n=1000000:=⟨_,rfl⟩
def FU:Nat:=Ti.choose
theorem eZ:FU=1000000:=Ti.choose_spec
theorem aHa{cQ:aK}{mi:aF->M gF}(hp:vd (aZ X.prog X.w) X.A X.env X.xe)(hc:X.calm=aB)(hi:QI X T E tg cQ mi)(hg:QG X T E tg g)(hb:wC X T E sts ms)(hs:bW cQ=aB) :
  QS X T E (.For tg cQ sts [] pos) (λZ=>(mi Z).bind λit=>kW it g ms FU 0 Z):=by
 obtain⟨wi,pi,ri⟩:=hi;obtain⟨t,q,s⟩:=hg;obtain⟨u,pb,rb⟩:=hb;refine⟨_,aBn hp hc pi q pb (λx=>Nb hs),λO B C h0 H0 D R0 Y w0=>ri O B C h0 H0 _ R0 Y (W.bind w0 λr it J h1 H1 e1 R1 YR w1=>?_)⟩;refine⟨λi m j H=>∃A Z h,Ext r H1 A H/\bP T A h H/\cV T A H Z j/\W T (RO T) (kW it g ms m i Z h) A H (nM D) E,⟨FU,r,B,h1,.refl,R1,Y.ext e1,w1⟩,?_⟩;rintro i m j H ⟨A,Z,h,e,R,S,w⟩
 cases m with
 |zero=>cases w|succ f=>
  simp only[kW]at w;cases d:it i h with
  |none=>rw[d]at w;cases w|some o=>
   cases o with
   |none=>rw[d]at w;exact .inl ⟨(YR A h H i e R).1 d,W.here (b:=jN.nx j) w R S⟩
   |some v=>
    rw[d]at w;obtain⟨go,yl⟩:=(YR A h H i e R).2 v d;refine .inr ⟨go,λl n=>∃c F h2,Ext r H1 c n/\bP T c h2 n/\cV T c n F l/\W T (RO T) (kW it g ms f (i+1) F h2) c n (nM D) E,λl n z=>⟨f,dA f,z⟩,λx n y=>?_⟩;obtain⟨c,P,R2,rv⟩:=yl x n y;refine s c v x Z j h n _ R2 (S.ext P) rv<|W.bind (w.ext P) λU V G h3 H3 e3 R3 S3 w3=>?_;refine rb U V G h3 H3 _ R3 S3<|W.bind w3 λI o K h4 H4 e4 L p N=>?_;have eE:=((e.trans P).trans e3).trans e4;cases o with
    |nx k=>cases K with
     |nx a=>exact⟨I,k,h4,eE,L,p,N⟩|_=>cases p
    |cnt k=>cases K with
     |cnt a=>exact⟨I,k,h4,eE,L,p,N⟩|_=>cases p
    |brk k=>cases K with
     |brk a=>exact(W.here (b:=jN.nx a) N L p:D.nx a H4)|_=>cases p
    |ret v=>cases K with
     |ret v'=>exact(W.here (Q:=nM D) N L p:D.rt v' H4)|_=>cases p
def vK(c:aF->M Bool)(body:aF->M Out):Nat->aF->M Out
 |0,_=>M.bad
 |f+1,Z=>(c Z).bind λb=>if b=aB then((body Z).bind λo=>match o with
  |.nx Z2=>vK c body f Z2
  |.cnt Z2=>vK c body f Z2
  |.brk Z2=>M.ret (.nx Z2)
  |.ret v=>M.ret (.ret v)) else M.ret (.nx Z)
theorem aHh(hp:vd (aZ X.prog X.w) X.A X.env X.xe)(hc:QT X T E c mt)(hb:wC X T E sts ms):QS X T E (.While c sts [] pos) (λZ=>vK mt ms FU Z):=by
 obtain⟨tc,pc,rc⟩:=hc;obtain⟨u,M,N⟩:=hb;refine⟨_,aBw hp pc M,λx y C h0 H0 D O P U=>?_⟩;refine⟨λm e H=>∃l Z h,bP T l h H/\cV T l H Z e/\W T (RO T) (vK mt ms m Z h) l H (nM D) E,⟨FU,x,y,h0,O,P,U⟩,?_⟩;rintro m e H ⟨l,Z,h,R,S,w⟩
 cases m with
 |zero=>cases w|succ f=>
  refine rc l Z e h H _ R S<|W.bind w λA d V h1 H1 F G Y I=>?_;have B:=Y;subst B;cases d with
  |false=>exact(W.here (b:=jN.nx e) I G (S.ext F):D.nx e H1)|true=>
   refine⟨λi q=>∃k n J,bP T k J q/\cV T k q n i/\W T (RO T) (vK mt ms f n J) k q (nM D) E,λi q z=>⟨f,dA f,z⟩,?_⟩;refine N A Z e h1 H1 _ G (S.ext F)<|W.bind I λp o r K L e4 s j t=>?_;cases o with
   |nx g=>cases r with
    |nx a=>exact⟨p,g,K,s,j,t⟩|_=>exact j.elim
   |cnt g=>cases r with
    |cnt a=>exact⟨p,g,K,s,j,t⟩|_=>exact j.elim
   |brk g=>cases r with
    |brk a=>exact(W.here (b:=jN.nx a) t s j:D.nx a L)|_=>exact j.elim
   |ret v=>cases r with
    |ret YS=>exact(W.here (Q:=nM D) t s j:D.rt YS L)|_=>exact j.elim
end
section
variable {E:Value->aI->Prop}
theorem aCd{t:Addr}{i:Nat}{x:Value}{Q:Value->aI->Prop}(hit:s.heap.IsTupleIter it t i)(ht:s.heap.IsTuple t items)(hx:items[i]?=aA x)
  (hQ:∀h',h'.IsTupleIter it t (i+1)->xR it s.heap h'->Q x { s with heap:=h' }):aS (aZ prog w) A (rO<|.ref it) Q E s:=by
 obtain⟨o,a,d,hd⟩:=id hit;obtain⟨ol,b,_,nl,c⟩:=ht;refine aM<|di hit.typeIs xQ<|yH xQ hit.typeIs Cv ?_<|Cu _;show aS _ _ (tN (.ref it) 0>>=_) _ _ s;refine aM<|kO a hd rfl ?_;refine aM<|kO a hd rfl ?_;refine aM<|nT b c ?_;simp only[oR,hx];exact aM<|Em a hd (by simp)<|cB ⟨x,rfl,cB (hQ _ (⟨_,uv _ a (LX<|Dt hd _),(LW ..).trans d,by rw[Dt hd];simp[yF]⟩) (Cy ..))⟩
theorem aCe{t:Addr}{i:Nat}{Q:Value->aI->Prop}(hh:A.handled=aD)(hit:s.heap.IsTupleIter it t i)(ht:s.heap.IsTuple t items)(hx:items[i]?=aD)
  (hE:∀h' e,kg it s.heap h'->(∃o,h'.get? e=aA o/\o.cls = .type "StopIteration")->E (.ref e) { s with heap:=h' }):aS (aZ prog w) A (rO<|.ref it) Q E s:=by
 obtain⟨o,ho,hc,hd⟩:=id hit;obtain⟨ol,hol,_,nl,hdl⟩:=ht;refine aM<|di hit.typeIs xQ<|yH xQ hit.typeIs Cv ?_<|Cu _;show aS _ _ (tN (.ref it) 0>>=_) _ _ s;refine aM<|kO ho hd rfl ?_;refine aM<|kO ho hd rfl ?_;refine aM<|nT hol hdl ?_;simp only[oR,hx];refine aM<|lz<|aM<|Em ho hd (by simp) ?_;refine aM ?_;refine aM<|tQ ?_ (by size_fits);refine aM<|Td (by first|rfl|(rfl)) ?_;refine tQ ?_ (by size_fits);refine aM<|NS ?_;first|rw[show A.in1.handled=aD from hh] | rw[hh]
 exact aM<|cB<|wpAny_throw<|hE _ _ (((Cy ..).extBut.push _).push _) ⟨_,fU _ rfl,rfl⟩
end
structure jG(prog:cC)(w:bV)(A:cK)(it l:Addr)(S:Nat->bH->Prop)(items:Xq):Prop where
 keep:∀k h h',S k h->(∀b,b=it\/b=l->∀o,h.get? b=aA o->h'.get? b=aA o)->S k h'
 live:∀k h,S k h->∃o,h.get? it=aA o/\o.cls ≠ .type "zip"/\(∀v,o.data ≠ .cell v)
 item:∀k x (s:aI) (Q:Value->aI->Prop) (E:Value->aI->Prop),S k s.heap->items[k]?=aA x->(∀h',S (k+1) h'->xR it s.heap h'->Q x { s with heap:=h' })->aS (aZ prog w) A (rO<|.ref it) Q E s
 done:∀k (s:aI) (Q:Value->aI->Prop) (E:Value->aI->Prop),S k s.heap->items[k]?=aD->(∀h' e,kg it s.heap h'->(∃o,h'.get? e=aA o/\o.cls = .type "StopIteration")->E (.ref e) { s with heap:=h' })->aS (aZ prog w) A (rO<|.ref it) Q E s
theorem jG.list(hh:A.handled=aD)(hne:l≠it)(items:Xq):jG prog w A it l (λk h=>h.IsListIter it l k/\h.IsList l items) items where
 keep:=λk h d st f=>⟨st.1.at λo e=>f it (.inl rfl) o e,st.2.at λo e=>f l (.inr rfl) o e⟩
 live:=λk h st=>let ⟨o,g,i,hd⟩:=st.1;⟨o,g,by rw[i];decide,λv z=>by rw[hd]at z;cases z⟩
 item:=λk x s Q E st c j=>wpAny_nextOf_list_item st.1 st.2 c λd a b=>j d ⟨a,st.2.extBut b.extBut hne⟩ b
 done:=λk s Q E st c m=>NV hh st.1 st.2 c m
theorem jG.tuple(hh:A.handled=aD)(hne:l≠it)(items:Xq):jG prog w A it l (λk h=>h.IsTupleIter it l k/\h.IsTuple l items) items where
 keep:=λk h d st f=>⟨st.1.at λo e=>f it (.inl rfl) o e,let ⟨o,e,r⟩:=st.2;⟨o,f l (.inr rfl) o e,r⟩⟩
 live:=λk h st=>let ⟨o,g,i,hd⟩:=st.1;⟨o,g,by rw[i];decide,λv z=>by rw[hd]at z;cases z⟩
 item:=λk x s Q E st c j=>aCd st.1 st.2 c λd a b=>j d ⟨a,let ⟨o,e,r⟩:=st.2;⟨o,b.extBut _ _ hne e,r⟩⟩ b
 done:=λk s Q E st c m=>aCe hh st.1 st.2 c m
section
variable {E:Value->aI->Prop}{TI TO:Addr}{xs ys:Xq}{k:Nat}{a b x y:Value}
theorem oW(P:jG prog w A i1 l1 S1 xs){h:bH}{c:Addr}(st:S1 k h)(e:kg c h h')(n1:i1≠c)(n2:l1≠c):S1 k h':=P.keep k h h' st λb hb o q=>e b o (by rcases hb with rfl|rfl<;>assumption) q
theorem aRl{Q:Value->aI->Prop}(D:cq z TI TO i1 i2 l1 l2)(P1:jG prog w A i1 l1 S1 xs)(P2:jG prog w A i2 l2 S2 ys)(hz:mG s.heap z TI TO .none)(hTI:gZ s.heap TI (.ref i1) (.ref i2))(hTO:gZ s.heap TO a b)
  (h1:S1 k s.heap) (h2:S2 k s.heap) (hx:xs[k]?=aA x) (hy:ys[k]?=aA y)
  (hQ:∀h',mG h' z TI TO (yF s.heap.objs.size)->gZ h' TO x y->S1 (k+1) h'->S2 (k+1) h'->gZ h' s.heap.objs.size x y ->
   (∀c o,c≠z->c≠TO->c≠i1->c≠i2->s.heap.get? c=aA o->h'.get? c=aA o)->Q (.ref s.heap.objs.size) { s with heap:=h' }) :
  aS (aZ prog w) A (Builtin.«zip.__next__» ⟨[.ref z],[]⟩) (λfin s'=>∃v,fin = .done (.ret v)/\Q v s') E s:=by
 show aS _ _ (tN (.ref z) 2>>=_) _ _ _;refine aM<|kO hz rfl (x:=.bool aG) rfl ?_;show aS _ _ (tN (.ref z) 3>>=_) _ _ _;refine aM<|kO hz rfl (x:=.ref TI) rfl<|aM<|nT hTI rfl ?_;show aS _ _ (Ct (.ref z)>>=_) _ _ _;refine aM ?_;unfold Ct;refine aM<|kO hz rfl (x:=.none) rfl<|cB ?_;simp only[if_true];refine aM<|lz<|aM<|kO hz rfl (x:=.ref TO) rfl<|aM<|md hz (by simp) λha za sa=>?_;replace za:mG ha z TI TO .ellipsis:=za
 refine aM ?_;simp only[LI,LJ,Pz,KI];refine aM<|aM<|El ?_;show aS _ _ (rO (.ref i1)>>=_) _ _ _;refine aM<|P1.item k x _ _ _ (oW P1 h1 sa.extBut D.i1z D.l1z) hx λhb pb sb=>cB ?_;have tb:gZ hb TO a b:=sb.extBut _ _ D.TOi1 (sa.extBut _ _ D.TOz hTO);refine aM<|nT tb rfl<|aM<|Th tb λhc tc sc=>?_;replace tc:gZ hc TO x b:=tc
 refine aM<|dk<|cB<|aM<|aM<|El ?_;show aS _ _ (rO (.ref i2)>>=_) _ _ _;refine aM<|P2.item k y _ _ _ (oW P2 (oW P2 (oW P2 h2 sa.extBut D.i2z D.l2z) sb.extBut D.i12.symm D.l2i1) sc.extBut D.TOi2.symm D.l2TO) hy λhd pd sd=>cB ?_;have td:gZ hd TO x b:=sd.extBut _ _ D.TOi2 tc;refine aM<|nT td rfl<|aM<|Th td λhe te se=>?_;replace te:gZ he TO x y:=te
 refine aM<|dk<|cB<|cB<|aM<|nT te rfl<|aM<|wpAny_newTuple ?_;have size:he.objs.size=s.heap.objs.size:=by rw[se.1,sd.1,sc.1,sb.1,sa.1]
 have ze:mG he z TI TO .ellipsis:=se.extBut _ _ D.TOz.symm (sd.extBut _ _ D.i2z.symm<|sc.extBut _ _ D.TOz.symm<|sb.extBut _ _ D.i1z.symm za);have kept:∀c o,c≠z->c≠TO->c≠i1->c≠i2->s.heap.get? c=aA o->he.get? c=aA o:=λc o n1 n2 n3 n4 e=>se.extBut _ _ n2 (sd.extBut _ _ n4<|sc.extBut _ _ n2<|sb.extBut _ _ n3<|sa.extBut _ _ n1 e);have pe:S1 (k+1) he:=oW P1 (oW P1 (oW P1 pb sc.extBut D.TOi1.symm D.l1TO) sd.extBut D.i12 D.l1i2) se.extBut D.TOi1.symm D.l1TO;have re:S2 (k+1) he:=oW P2 pd se.extBut D.TOi2.symm D.l2TO;have zlt:z<he.objs.size:=cW ze;show aS _ _ (JD (.ref z) (.ref he.objs.size)>>=_) _ _ _;refine aM ?_;unfold JD;have zf:mG (he.push { cls:=.type "tuple",data:=.seq #[x,y] }) z TI TO .ellipsis:=cT _ ze;refine aM<|md zf (by simp) λhg zg sg=>?_;replace zg:mG hg z TI TO (yF he.objs.size):=zg
 refine md zg (by simp) λhh zh sh=>?_;replace zh:mG hh z TI TO (yF he.objs.size):=zh
 have up:∀c o,c≠z->he.get? c=aA o->hh.get? c=aA o:=λc o n1 e=>sh.extBut _ _ n1 (sg.extBut _ _ n1<|cT _ e);have new:gZ hh he.objs.size x y:=sh.extBut _ _ (lQ zlt) (sg.extBut _ _ (lQ zlt)<|fU _ rfl);rw[size]at zh new;refine cB ⟨_,rfl,?_⟩;show Q (.ref he.objs.size) _;rw[size];exact hQ hh zh (up _ _ D.TOz te) (P1.keep _ _ _ pe λc hc o e=>up c o (by rcases hc with rfl|rfl;exact D.i1z;exact D.l1z) e) (P2.keep _ _ _ re λc hc o e=>up c o (by rcases hc with rfl|rfl;exact D.i2z;exact D.l2z) e) new
  λc o n1 n2 n3 n4 e=>up c o n1 (kept c o n1 n2 n3 n4 e)
theorem aRm{Q:Fin->aI->Prop}(D:cq z TI TO i1 i2 l1 l2)(P1:jG prog w A i1 l1 S1 xs)(P2:jG prog w A i2 l2 S2 ys)(hz:mG s.heap z TI TO .none)(hTI:gZ s.heap TI (.ref i1) (.ref i2))(hTO:gZ s.heap TO a b)
  (h1:S1 k s.heap) (h2:S2 k s.heap) (qa:xs[k]?=aD\/ys[k]?=aD)
  (hE:∀h' e,(∀c o,c≠z->c≠TO->c≠i1->c≠i2->s.heap.get? c=aA o->h'.get? c=aA o)->(∃o,h'.get? e=aA o/\o.cls = .type "StopIteration")->E (.ref e) { s with heap:=h' }) :
  aS (aZ prog w) A (Builtin.«zip.__next__» ⟨[.ref z],[]⟩) Q E s:=by
 show aS _ _ (tN (.ref z) 2>>=_) _ _ _;refine aM<|kO hz rfl (x:=.bool aG) rfl ?_;show aS _ _ (tN (.ref z) 3>>=_) _ _ _;refine aM<|kO hz rfl (x:=.ref TI) rfl<|aM<|nT hTI rfl ?_;show aS _ _ (Ct (.ref z)>>=_) _ _ _;refine aM ?_;unfold Ct;refine aM<|kO hz rfl (x:=.none) rfl<|cB ?_;simp only[if_true];refine aM<|lz<|aM<|kO hz rfl (x:=.ref TO) rfl<|aM<|md hz (by simp) λha za sa=>?_;replace za:mG ha z TI TO .ellipsis:=za
 refine aM ?_;simp only[LI,LJ,Pz,KI];refine aM<|aM<|El ?_;show aS _ _ (rO (.ref i1)>>=_) _ _ _;have sa1:=oW P1 h1 sa.extBut D.i1z D.l1z;cases hx:xs[k]? with
 |none=>
  refine aM<|P1.done k _ _ _ sa1 hx λhb e sb he=>?_;obtain⟨oe,hoe,hce⟩:=he;have zb:mG hb z TI TO .ellipsis:=sb _ _ D.i1z.symm za;have ne:e≠z:=λq=>by subst q;rw[zb]at hoe;cases hoe;simp at hce
  exact md zb (by simp) λhc _ sc=>hE hc e (λc o n1 _ n3 _ q=>sc.extBut _ _ n1 (sb _ _ n3<|sa.extBut _ _ n1 q)) ⟨oe,sc.extBut _ _ ne hoe,hce⟩
 |some x=>
  have hy:ys[k]?=aD:=by rcases qa with q|q;rw[hx]at q;cases q;exact q
  refine aM<|P1.item k x _ _ _ sa1 hx λhb pb sb=>cB ?_;have tb:gZ hb TO a b:=sb.extBut _ _ D.TOi1 (sa.extBut _ _ D.TOz hTO);refine aM<|nT tb rfl<|aM<|Th tb λhc tc sc=>?_;refine aM<|dk<|cB<|aM<|aM<|El ?_;show aS _ _ (rO (.ref i2)>>=_) _ _ _;refine aM<|P2.done k _ _ _ (oW P2 (oW P2 (oW P2 h2 sa.extBut D.i2z D.l2z) sb.extBut D.i12.symm D.l2i1) sc.extBut D.TOi2.symm D.l2TO) hy λhd e sd he=>?_;obtain⟨oe,hoe,hce⟩:=he;have zd:mG hd z TI TO .ellipsis:=sd _ _ D.i2z.symm (sc.extBut _ _ D.TOz.symm<|sb.extBut _ _ D.i1z.symm za);have ne:e≠z:=λq=>by subst q;rw[zd]at hoe;cases hoe;simp at hce
  exact md zd (by simp) λhf _ sf=>hE hf e (λc o n1 n2 n3 n4 q=>sf.extBut _ _ n1 (sd _ _ n4<|sc.extBut _ _ n2<|sb.extBut _ _ n3<|sa.extBut _ _ n1 q)) ⟨oe,sf.extBut _ _ ne hoe,hce⟩
end
def kA(kd:Bool)(h:bH)(it l:Addr)(k:Nat):Prop:=if kd=aB then h.IsListIter it l k else h.IsTupleIter it l k
def iL(kd:Bool)(h:bH)(l:Addr)(items:Xq):Prop:=if kd=aB then h.IsList l items else h.IsTuple l items
def lF(kd:Bool)(K:bI)(H:Hp)(a:Addr)(xs:Hg):Prop:=if kd=aB then dH K H a xs else eD K H a xs
def Gi(kd:Bool):String:=if kd=aB then "list_iterator" else "tuple_iterator"
theorem kA.at{kd:Bool}{h h':bH}{it l:Addr}{k:Nat}(st:kA kd h it l k)(f:∀o,h.get? it=aA o->h'.get? it=aA o):kA kd h' it l k:=by
 cases kd with
 |true=>exact Heap.IsListIter.at st f|false=>exact Heap.IsTupleIter.at st f
theorem kA.live{kd:Bool}{h:bH}{k:Nat}(st:kA kd h it l k):∃o,h.get? it=aA o/\∀v,o.data ≠ .cell v:=by
 cases kd with
 |true=>obtain⟨o,a,b,hd⟩:=(st);exact⟨o,a,λv z=>by rw[hd]at z;cases z⟩|false=>obtain⟨o,a,b,hd⟩:=(st);exact⟨o,a,λv z=>by rw[hd]at z;cases z⟩
theorem jG.kd{prog:cC}{w:bV}{A:cK}(hh:A.handled=aD)(kd:Bool){it l:Addr}(hne:l≠it)(items:Xq):jG prog w A it l (λk h=>kA kd h it l k/\iL kd h l items) items:=by
 cases kd with
 |true=>exact jG.list hh hne items|false=>exact jG.tuple hh hne items
theorem AB(kd:Bool)(h:bH)(l:Addr):kA kd (h.push { cls:=.type (Gi kd),data:=.fields #[.ref l,.int 0 0] }) h.objs.size l 0:=by
 cases kd with
 |true=>exact⟨_,fU _ rfl,rfl,rfl⟩|false=>exact⟨_,fU _ rfl,rfl,rfl⟩
theorem AE{E:Value->aI->Prop}(kd:Bool){Q:Value->aI->Prop}(hl:iL kd s.heap l items)
  (hQ:Q (.ref s.heap.objs.size) { s with heap:=s.heap.push { cls:=.type (Gi kd),data:=.fields #[.ref l,.int 0 0] } }):aS (aZ prog w) A (vn<|.ref l) Q E s:=by
 cases kd with
 |true=>exact ly hl hQ|false=>exact vq hl hQ
theorem iL.push{kd:Bool}{h:bH}{l:Addr}{items:Xq}(hl:iL kd h l items)(o:Obj):iL kd (h.push o) l items:=by
 cases kd with
 |true=>exact Heap.IsList.push hl o|false=>obtain⟨ob,e,r⟩:=(hl);exact⟨ob,cT _ e,r⟩
noncomputable abbrev zA(kd:Bool)(h:bH)(l:Addr):bH:=h.push { cls:=.type (Gi kd),data:=.fields #[.ref l,.int 0 0] }
noncomputable abbrev zB(cH cR:Bool)(h:bH)(l1 l2:Addr):bH:=zA cR (zA cH h l1) l2
noncomputable abbrev zC(cH cR:Bool)(h:bH)(l1 l2:Addr):bH:=(zB cH cR h l1 l2).push { cls:=.type "tuple",data:=.seq #[.ref h.objs.size,.ref (zA cH h l1).objs.size] }
noncomputable abbrev zD(cH cR:Bool)(h:bH)(l1 l2:Addr):bH:=(zC cH cR h l1 l2).push { cls:=.type "tuple",data:=.seq #[.none,.none] }
noncomputable abbrev zE(cH cR:Bool)(h:bH)(l1 l2:Addr):bH:=(zD cH cR h l1 l2).push { cls:=.type "zip",data:=.fields #[.none,.bool aG,.bool aG,.ref (zB cH cR h l1 l2).objs.size,.ref (zC cH cR h l1 l2).objs.size] }
theorem aRn(cH cR:Bool)(l1 l2:Addr)(xs ys:Xq) :
  Meets (Builtin.«zip.__new__» ⟨[.type "zip",.ref l1,.ref l2],[]⟩) (λ_ R s=>iL cH s.heap l1 xs/\iL cR s.heap l2 ys/\R (.ok<|.ret<|.ref (zD cH cR s.heap l1 l2).objs.size) { s with heap:=zE cH cR s.heap l1 l2 }):=
 .of_wp λprog w A R s h=>by
  obtain⟨hp,g,d,tk,os⟩:=s;obtain⟨hl1,hl2,h⟩:=h;have aUk:=sub_zip;have hL1:iL cH (Sa ⟨hp,g,d,tk,os⟩) l1 xs:=hl1;have hL2:iL cR (Sa ⟨zA cH hp l1,g,d,tk,os⟩) l2 ys:=iL.push hl2 _;wp_walk using AE cH hL1,AE cR hL2
  exact⟨_,rfl,h⟩
section
variable {E:Value->aI->Prop}
theorem VW(cH cR:Bool){xs ys:Xq}{Q:Value->aI->Prop}(hl1:iL cH s.heap l1 xs)(hl2:iL cR s.heap l2 ys)
  (h:∀h',mG h' (s.heap.objs.size+4) (s.heap.objs.size+2) (s.heap.objs.size+3) .none->gZ h' (s.heap.objs.size+2) (.ref s.heap.objs.size) (.ref<|s.heap.objs.size+1) ->
   gZ h' (s.heap.objs.size+3) .none .none->kA cH h' s.heap.objs.size l1 0->kA cR h' (s.heap.objs.size+1) l2 0 ->
   (∀c o,s.heap.get? c=aA o->h'.get? c=aA o)->Q (.ref<|s.heap.objs.size+4) { s with heap:=h' }):aS (aZ prog w) A (call (.type "zip") [.ref l1,.ref l2]) Q E s:=by
 refine ND F.called_zip (by decide) (F.typeCall_zip_2 _ _) (F.newCall_zip_2 _ _) (λobj=>F.args_object_init_3 obj _ _) F.entry_zip_new (aRn cH cR l1 l2 xs ys) ⟨hl1,hl2,?_⟩;have z1:(zA cH s.heap l1).objs.size=s.heap.objs.size+1:=rQ ..;have z2:(zB cH cR s.heap l1 l2).objs.size=s.heap.objs.size+2:=by rw[rQ,z1]
 have z3:(zC cH cR s.heap l1 l2).objs.size=s.heap.objs.size+3:=by rw[rQ,z2]
 have z4:(zD cH cR s.heap l1 l2).objs.size=s.heap.objs.size+4:=by rw[rQ,z3]
 have g5:(zE cH cR s.heap l1 l2).get? (zD cH cR s.heap l1 l2).objs.size=aA _:=fU _ rfl;have g4:(zE cH cR s.heap l1 l2).get? (zC cH cR s.heap l1 l2).objs.size=aA _:=cT _ (fU _ rfl);have g3:(zE cH cR s.heap l1 l2).get? (zB cH cR s.heap l1 l2).objs.size=aA _:=cT _ (cT _<|fU _ rfl);have up:∀c o,(zB cH cR s.heap l1 l2).get? c=aA o->(zE cH cR s.heap l1 l2).get? c=aA o:=λc o e=>cT _ (cT _<|cT _ e);have i2:kA cR (zE cH cR s.heap l1 l2) (zA cH s.heap l1).objs.size l2 0:=(AB cR (zA cH s.heap l1) l2).at λo e=>up _ o e;have i1:kA cH (zE cH cR s.heap l1 l2) s.heap.objs.size l1 0:=(AB cH s.heap l1).at λo e=>up _ o (cT _ e);show _/\_;rw[z2,z3,z4]at g5;rw[z1,z2]at g3;rw[z3]at g4;rw[z1]at i2;rw[z4];exact⟨⟨_,g5,rfl⟩,h _ g5 g3 g4 i1 i2 λc o e=>up c o (cT _<|cT _ e)⟩
variable {TI TO:Addr}{xs ys:Xq}{k:Nat}{a b x y:Value}
theorem N6{Q:Xl->aI->Prop}(D:cq z TI TO i1 i2 l1 l2)(P1:jG prog w A.in1 i1 l1 S1 xs)(P2:jG prog w A.in1 i2 l2 S2 ys)(hz:mG s.heap z TI TO .none)(hTI:gZ s.heap TI (.ref i1) (.ref i2))(hTO:gZ s.heap TO a b)
  (h1:S1 k s.heap) (h2:S2 k s.heap) (hx:xs[k]?=aA x) (hy:ys[k]?=aA y)
  (hQ:∀h',mG h' z TI TO (yF s.heap.objs.size)->gZ h' TO x y->S1 (k+1) h'->S2 (k+1) h'->gZ h' s.heap.objs.size x y ->
   (∀c o,c≠z->c≠TO->c≠i1->c≠i2->s.heap.get? c=aA o->h'.get? c=aA o)->Q (aA<|.ref s.heap.objs.size) { s with heap:=h' }):aS (aZ prog w) A (tO<|.ref z) Q E s:=by
 have d:s.TypeIs (.ref z) "zip":=⟨_,hz,rfl⟩;exact aM (NP (di d Cw
  (yH Cw d JI (aRl D P1 P2 hz hTI hTO h1 h2 hx hy λh' a1 a2 e f g h=>cB (hQ h' a1 a2 e f g h))<|JH _)))
theorem XZ{Q:Xl->aI->Prop}(D:cq z TI TO i1 i2 l1 l2)(P1:jG prog w A.in1 i1 l1 S1 xs)(P2:jG prog w A.in1 i2 l2 S2 ys)(hz:mG s.heap z TI TO .none)(hTI:gZ s.heap TI (.ref i1) (.ref i2))(hTO:gZ s.heap TO a b)
  (h1:S1 k s.heap) (h2:S2 k s.heap) (qa:xs[k]?=aD\/ys[k]?=aD)
  (hQ:∀h',(∀c o,c≠z->c≠TO->c≠i1->c≠i2->s.heap.get? c=aA o->h'.get? c=aA o)->Q aD { s with heap:=h' }):aS (aZ prog w) A (tO<|.ref z) Q E s:=by
 have d:s.TypeIs (.ref z) "zip":=⟨_,hz,rfl⟩;refine aM (NP (di d Cw
  (yH Cw d JI (aRm D P1 P2 hz hTI hTO h1 h2 qa λh' e f he=>?_)<|JH _)))
 obtain⟨o,g,h⟩:=he;exact aM<|wpAny_isInstance ⟨o,g,h⟩ isSubtype_stop<|cB<|hQ _ f
end
def jQ(n:Nat):gF:=λi h=>match h.ob n with
 |some (.lst _ xs)=>aA xs[i]?
 |_=>aD
def mE(xs:Hd):gF:=λi _=>aA xs[i]?
def nL(lo:Int)(n:Nat):gF:=λi _=>aA (if i<n then aA (.int<|lo+i) else aD)
def lG(it:gF):gF:=λi h=>match it i h with
 |some (aA v)=>aA (aA<|.tup [.int i,v])
 |some aD=>aA aD
 |none=>aD
def nZ(v:AV):M gF:=λh=>match v with
 |.tup xs=>.ok (mE xs) h
 |.ref n=>match h.ob n with
  |some (.lst _ _)=>.ok (jQ n) h
  |_=>.bad
 |_=>.bad
noncomputable abbrev zN:=nZ
def mB(j:Int):Bool:=decide (-(2 ^ 62)<=j)&&decide (j<2 ^ 62)
def yk(xs:Hd):M gF:=λh=>match xs with
 |[.int j]=>if mB j=aB then .ok (nL 0 j.toNat) h else .bad
 |_=>.bad
def ym(xs:Hd):M gF:=λh=>match xs with
 |[.int i,.int j]=>if(mB i&&mB j)=aB then .ok (nL i (j-i).toNat) h else .bad
 |_=>.bad
def yi(v:AV):M gF:=λh=>match v with
 |.tup xs=>.ok (lG<|mE xs) h
 |.ref n=>match h.ob n with
  |some (.lst _ _)=>.ok (lG<|jQ n) h
  |_=>.bad
 |_=>.bad
section
variable {a b l:aK}{tl:TE}
theorem FK{a:Addr}(q:Y[n]?=aA a):RI T Y H (jQ n) (Es T.K a):=by
 intro Y' h' H' i e R;unfold jQ;cases o:h'.ob n with
 |none=>exact⟨λz=>(by cases z),λv z=>(by cases z)⟩|some u=>
  cases u with
  |lst m xs=>
   obtain⟨ys,h1,r⟩:=pD R o (e.pre n a q);refine⟨λz=>⟨ys,h1,?_⟩,λv z=>?_⟩
   .have z':xs[i]?=aD:=dR z;rw[<- r.length];exact List.getElem?_eq_none_iff.mp z'
   .have z':xs[i]?=aA v:=dR z;obtain⟨y,h2,rv⟩:=r.get z';refine⟨⟨ys,y,h1,h2⟩,λx H2 yl=>?_⟩;obtain⟨e2,k⟩:=yl;subst e2;have:=k ys h1;rw[h2]at this;cases this;exact⟨Y',.refl,R,rv⟩
  |aR _=>exact⟨λz=>(by cases z),λv z=>(by cases z)⟩|dD _=>exact⟨λz=>(by cases z),λv z=>(by cases z)⟩|ins _ _=>exact⟨λz=>(by cases z),λv z=>(by cases z)⟩
theorem FN{a:Addr}(hq:eD T.K H a ys)(r:bE T Y H xs ys):RI T Y H (mE xs) (Et T.K a):=by
 intro Y' h' H' i e R;have r':=r.ext e;have hq':=e.ug hq;refine⟨λz=>⟨ys,hq',?_⟩,λv z=>?_⟩
 .have z':xs[i]?=aD:=dR z;rw[<- r.length];exact List.getElem?_eq_none_iff.mp z'
 .have z':xs[i]?=aA v:=dR z;obtain⟨y,h2,rv⟩:=r'.get z';refine⟨⟨ys,y,hq',h2⟩,λx H2 yl=>?_⟩;obtain⟨e2,k⟩:=yl;subst e2;have:=k ys hq';rw[h2]at this;cases this;exact⟨Y',.refl,R,rv⟩
theorem FL{lo:Int}:RI T Y H (nL lo n) (mv lo n):=by
 intro Y' h' H' i e R;unfold nL;by_cases hi:i<n
 .rw[if_pos hi];refine⟨λz=>(by cases z),λv z=>⟨hi,λx H2 yl=>?_⟩⟩;cases z;obtain⟨e2,e3⟩:=yl;subst e2;subst e3;exact⟨Y',.refl,R,.int _⟩
 .rw[if_neg hi];exact⟨λ_=>(by show n<=i;omega),λv z=>(by cases z)⟩
def C5(K:bI)(tl:TE):TI:=λZ H R=>tl Z H λx H1=>
 ∃a,x = .ref a/\(((∃xs,dH K H1 a xs)/\R (Es K a) H1)\/((∃xs,eD K H1 a xs)/\R (Et K a) H1))
theorem aAk(hl:PE X l tl):PI X tg l (C5 X.K tl):=by
 intro pins s Z H R I h;refine bB (hl pins s Z H _ I h) λv s1 zq=>?_;obtain⟨x,H1,I1,r1,q1⟩:=zq;obtain⟨a,e,q⟩:=q1;subst e;cases r1;rcases q with⟨⟨xs,hq⟩,q⟩|⟨⟨xs,hq⟩,q⟩
 .obtain⟨its,rv,p,hz⟩:=I1.list hq;refine ly p.isList ?_;refine⟨s1.heap.objs.size,[s1.heap.objs.size],_,_,H1,rfl,I1.kept λb o e=>cT _ e,aMz a _,⟨_,fU _ rfl,rfl,rfl⟩,λb hb=>?_,q⟩;have e:b=s1.heap.objs.size:=by simpa using hb
  subst e;exact I1.uE (aV _)<|I1.bA.fresh<|aV _
 .obtain⟨its,rv,p,hz⟩:=I1.tuple hq;refine vq (p) ?_;refine⟨s1.heap.objs.size,[s1.heap.objs.size],_,_,H1,rfl,I1.kept λb o e=>cT _ e,aNc a _,⟨_,fU _ rfl,rfl,rfl⟩,λb hb=>?_,q⟩;have e:b=s1.heap.objs.size:=by simpa using hb
  subst e;exact I1.uE (aV _)<|I1.bA.fresh<|aV _
theorem xF:QI X T E tg e (λ_=>M.bad):=⟨λ_ _ _=>False,λ_ _ _ _ _ _ h=>h.elim,λ_ _ _ _ _ _ _ _ w=>w⟩
theorem DV(hK:X.K=T.K)(ha:QE X T E l m):QI X T E tg l (λZ=>(m Z).bind zN):=by
 obtain⟨tl,pl,rl⟩:=ha;refine⟨_,aAk pl,λY Z Z' h H Q R S w=>rl Y Z Z' h H _ R S (W.bind w λY1 x x' h1 H1 e1 R1 q1 w1=>?_)⟩;cases x with
 |tup xs=>
  cases q1 with
  |tup hq hr=>exact⟨_,rfl,.inr ⟨⟨_,hK▸hq⟩,by rw[hK];exact W.here w1 R1<|FN hq hr⟩⟩
 |ref n=>
  cases q1 with
  |@ref _ a q=>
   simp only[nZ]at w1;cases o:h1.ob n with
   |none=>rw[o]at w1;exact w1.elim|some u=>
    rw[o]at w1;cases u with
    |lst mu xs=>obtain⟨ys,g1,r1⟩:=pD R1 o q;exact⟨a,rfl,.inl ⟨⟨ys,hK▸g1⟩,by rw[hK];exact W.here w1 R1<|FK q⟩⟩
    |aR _=>exact w1.elim|dD _=>exact w1.elim|ins _ _=>exact w1.elim
 |_=>exact w1.elim
theorem Mv(h:mB j=aB):-(2 ^ 62)<=j/\j<2 ^ 62:=by simp only[mB,bS,decide_eq_true_eq]at h;exact h
theorem aDx(hg:Gl X "range") (hm:X.mg "range"=aD) (ha:QA X T E [a] mr) (hs:bW a=aB):QI X T E tg (.Call (.Name "range" p) [a] [] pos) (λZ=>(mr Z).bind yk):=by
 obtain⟨tr,pr,rr⟩:=ha;refine⟨_,aAi hg hm pr (by rw[fF hs];rfl),λY Z Z' h H Q R S w=>rr Y Z Z' h H _ R S (W.bind w λY1 xs dU h1 H1 e1 R1 q1 w1=>?_)⟩;cases q1 with
 |nil=>exact w1.elim|cons r1 rs=>
  cases rs with
  |nil=>
   cases r1 with
   |int j=>
    simp only[yk]at w1;by_cases hj:mB j=aB
    .rw[if_pos hj]at w1;obtain⟨h1,h2⟩:=Mv hj;exact⟨j,rfl,h1,h2,W.here w1 R1 FL⟩
    .rw[if_neg hj]at w1;exact w1.elim
   |_=>exact w1.elim
  |cons r2 rs2=>cases r1<;>exact w1.elim
theorem aDy(hg:Gl X "range") (hm:X.mg "range"=aD) (ha:QA X T E [a,b] mr) (hs:bW a=aB) (hs2:bW b=aB):QI X T E tg (.Call (.Name "range" p) [a,b] [] pos) (λZ=>(mr Z).bind ym):=by
 obtain⟨tr,pr,rr⟩:=ha;refine⟨_,aAj hg hm pr (by rw[fF hs,fF hs2];rfl) (by rw[fF hs2];rfl),λY Z Z' h H Q R S w=>rr Y Z Z' h H _ R S (W.bind w λY1 xs dU h1 H1 e1 R1 q1 w1=>?_)⟩;cases q1 with
 |nil=>exact w1.elim|cons r1 rs=>
  cases rs with
  |nil=>cases r1<;>exact w1.elim|cons r2 rs2=>
   cases rs2 with
   |nil=>
    cases r1 with
    |int i=>
     cases r2 with
     |int j=>
      simp only[ym]at w1;by_cases hj:(mB i&&mB j)=aB
      .rw[if_pos hj]at w1;rw[bS]at hj;obtain⟨h1,h2⟩:=Mv hj.1;obtain⟨h3,h4⟩:=Mv hj.2;exact⟨i,j,rfl,⟨h1,h2,h3,h4⟩,W.here w1 R1 FL⟩
      .rw[if_neg hj]at w1;exact w1.elim
     |_=>exact w1.elim
    |_=>exact w1.elim
   |cons _ _=>cases r1<;>first|exact w1.elim|(cases r2<;>exact w1.elim)
def vy(kd:Bool)(K:bI)(a:Addr):It:=
 ⟨λi H=>∃xs x,lF kd K H a xs/\xs[i]?=aA x,λi H x H'=>∃T y,H T=aD/\x = .ref T/\H'=bF H T (.tup [.int i,y])/\∀xs,lF kd K H a xs->xs[i]?=aA y,λi H=>∃xs,lF kd K H a xs/\xs.length<=i⟩
theorem HN{Z:L2.St}{ch:Xk}{Tt:Addr}{its:He}(I:Inv X pins Z H s)(hf:∀b∈ch,kQ X pins H b)
  (k:∀b o,b∉ch->s.heap.get? b=aA o->h'.get? b=aA o)(th:∀b∈ch,∃o,h'.get? b=aA o)(hT:s.heap.objs.size<=Tt)(ht:IsTup h' Tt its.toArray)(rv:Vals ys its)(hz:ys.length<=sizeLine) :
  Inv X pins Z (bF H Tt<|.tup ys) { s with heap:=h',toks:=tk }:=by
 have hn:H Tt=aD:=I.bA.fresh hT;have nch:∀b u,H b=aA u->b∉ch:=λb u e hb=>by rw[(hf b hb).1]at e;cases e
 have lch:X.env.locals∉ch:=λhb=>(hf _ hb).2.1 rfl;refine I.step (λb hb=>⟨(hf b hb).2.2.2.1,(hf b hb).2.1,(hf b hb).2.2.2.2.1,(hf b hb).2.2.2.2.2⟩) (λb o _ _ hc e _=>k b o hc e) (λb o _ _ hc e _=>⟨o.slots,k b o hc e⟩)
  (λb o _ e n=>by rw[bZ (cA<|bC (cW e) hT)];exact n) (λb o hc e=>⟨o,k b o hc e⟩)
  (λb xs e=>by rw[bZ (jS e hn)];exact e) (λb o u e=>by rw[bZ (jS e hn)];exact e) (λb ps e=>⟨#[],by rw[bZ (jS e hn),e];simp⟩) (λm hm=>?_) (λb u e=>?_) I.bare
 .obtain⟨o,es,ep,ho,r⟩:=hm;exact⟨o,es,ep,k _ o lch ho,r⟩
 .by_cases hb:b=Tt
  .subst hb;rw[gQ]at e;cases e;exact⟨hz,its,rv,ht⟩
  .rw[bZ hb]at e;refine(I.bA b u e).vC (λc v hc q=>k c v ?_ q) (λc q=>by rw[bZ (jS q hn)];exact q) λc xs q=>by rw[bZ (jS q hn)];exact q
   rcases hc with rfl|hc
   .exact nch _ _ e
   .exact nch _ _ hc
theorem HM{Z:L2.St}{ch:Xk}(I:Inv X pins Z H s)(hf:∀b∈ch,kQ X pins H b)
  (k:∀b o,b∉ch->s.heap.get? b=aA o->h'.get? b=aA o):Inv X pins Z H { s with heap:=h',toks:=tk }:=by
 have nch:∀b u,H b=aA u->b∉ch:=λb u e hb=>by rw[(hf b hb).1]at e;cases e
 have lch:X.env.locals∉ch:=λhb=>(hf _ hb).2.1 rfl;refine I.step (λb hb=>⟨(hf b hb).2.2.2.1,(hf b hb).2.1,(hf b hb).2.2.2.2.1,(hf b hb).2.2.2.2.2⟩) (λb o _ _ hc e _=>k b o hc e) (λb o _ _ hc e _=>⟨o.slots,k b o hc e⟩)
  (λb o _ e n=>n) (λb o hc e=>⟨o,k b o hc e⟩) (λb xs e=>e) (λb o u e=>e) (λb ps e=>⟨#[],by rw[e];simp⟩) (λm hm=>?_) (λb u e=>?_) I.bare
 .obtain⟨o,es,ep,ho,r⟩:=hm;exact⟨o,es,ep,k _ o lch ho,r⟩
 .refine(I.bA b u e).vC (λc v hc q=>k c v ?_ q) (λc q=>q) λc xs q=>q;rcases hc with rfl|hc
  .exact nch _ _ e
  .exact nch _ _ hc
theorem vB{Z:L2.St}{kd:Bool}{l:Addr}{xs:Hg}(I:Inv X pins Z H s)(h:lF kd X.K H l xs):∃its:He,Vals xs its/\iL kd s.heap l its.toArray:=by
 cases kd with
 |true=>obtain⟨its,rv,p,_⟩:=I.list h;exact⟨its,rv,p.isList⟩|false=>obtain⟨its,rv,p,_⟩:=I.tuple h;exact⟨its,rv,p⟩
theorem Ni{Z:L2.St}{kd:Bool}{l:Addr}{xs:Hg}(I:Inv X pins Z H s)(h:lF kd X.K H l xs)(h':lF kd X.K H l ys):xs=ys:=by
 cases kd with
 |true=>exact I.BG h h'|false=>exact I.HL h h'
theorem iL.at{kd:Bool}{h h':bH}{l:Addr}{items:Xq}(st:iL kd h l items)(f:∀o,h.get? l=aA o->h'.get? l=aA o):iL kd h' l items:=by
 cases kd with
 |true=>exact Heap.IsList.at st f|false=>obtain⟨o,ho,r⟩:=(st);exact⟨o,f _ ho,r⟩
theorem XR(hh:A.handled=aD)(kd:Bool)(it l:Addr)(hne:l≠it)(items:Xq):Draws prog w A it [it,l] items.size (λi v=>items[i]?=aA v) (λi h=>kA kd h it l i/\iL kd h l items):=by
 cases kd with
 |true=>exact Draws.list hh it l hne items|false=>exact XT hh it l hne items
theorem XS(hh:A.handled=aD)(kd:Bool)(it l:Addr)(items:Xq)(n:Nat)(hn:items[n]?=aD):Draws prog w A it [it,l] n (λ_ _=>True) (λi h=>i=n/\kA kd h it l n/\iL kd h l items) where
 live:=λ_ _ st=>st.2.1.live.elim λo e=>⟨o,e.1⟩
 frame:=λ_ _ _ st hk=>⟨st.1,st.2.1.at λo e=>hk it (.head _) o e,st.2.2.at λo e=>hk l (.tail _<|.head _) o e⟩
 item:=λi s Q E hi st hQ=>absurd hi (by rw[st.1];exact lA _)
 done:=λs Q E st hE=>by
  cases kd with
  |true=>exact NV hh st.2.1 st.2.2 hn hE|false=>exact BX hh st.2.1 st.2.2 hn hE
theorem aMy{K:bI}{k:Nat}(kd:Bool)(a en it:Addr)(h1:en≠it)(h2:a≠en)(h3:a≠it) :
  Turn P w K (.Tuple elts k tp) (vy kd K a) [en,it] en (λi h=>(∃old,IsEnum h en it i old)/\kA kd h it a i) where
 mem:=.head _
 obj:=λi h st b hb=>by
  obtain⟨⟨old,he⟩,hit⟩:=st;rcases List.mem_cons.mp hb with rfl|hb
  .exact⟨_,he,λv z=>by cases z⟩
  .cases List.mem_singleton.mp hb;exact hit.live
 keep:=λi h h' st k=>⟨st.1.elim λold he=>⟨old,k en (.head _) _ he⟩,st.2.at λo e=>k it (.tail _<|.head _) o e⟩
 item:=by
  intro X hP hw hK hc i pins s Z H E I hf st hg;subst hP hw hK;obtain⟨xs,x,hq,hx⟩:=hg;obtain⟨its,rv,p⟩:=vB I hq;obtain⟨u,hu,ru⟩:=rv.get hx;have hu':its.toArray[i]?=aA u:=by simpa using hu
  have W:=WalksT.enumerateD (XR (prog:=X.prog) (w:=X.w) (A:=Around.in1 _) (I.ok.hd hc) kd it a h3 its.toArray) en h1 (by simp[h1,h2.symm]) (by simp);refine W.item i s _ _ (Array.getElem?_eq_some_iff.mp hu').1 ⟨st.1,st.2,p⟩ λTt vals h' tk hv hT B8 Zs kk=>?_;obtain⟨t,x',hx',rfl⟩:=hv;cases hu'.symm.trans hx';refine⟨.ref Tt,rfl,?_⟩;refine W.go elts k tp i Tt { s with heap:=h',toks:=tk } _ _ Zs λh'' hst kk2=>?_;obtain⟨he2,hit2,hl2⟩:=hst;have B9:IsTup h'' Tt #[.int i t,u]:=B8.elim λo e=>⟨o,kk2 _ _ (W.apart i Tt _ Zs) e.1,e.2⟩;have I2:Inv X pins Z (bF H Tt<|.tup [.int i,x]) { s with heap:=h'',toks:=tk }:=HN (its:=[.int i t,u]) I hf (λb o hb e=>kk2 b o hb (kk b o hb e)) (λb hb=>by
   rcases List.mem_cons.mp hb with rfl|hb
   .exact he2.elim λ_ he=>⟨_,he⟩
   .cases List.mem_singleton.mp hb;exact hit2.live.elim λo e=>⟨o,e.1⟩) hT B9 (.cons ⟨t,rfl⟩<|.cons ru .nil) (by show 2<=sizeLine;decide)
  refine⟨.ref Tt,_,I2,rfl,⟨Tt,x,I.bA.fresh hT,rfl,rfl,λzs hzs=>by rw[Ni I hzs hq];exact hx⟩,⟨he2,hit2⟩,λb hb=>?_⟩;have hb':b<s.heap.objs.size:=by
   rcases List.mem_cons.mp hb with rfl|hb
   .exact st.1.elim λ_ he=>cW he
   .cases List.mem_singleton.mp hb;exact st.2.live.elim λ_ e=>cW e.1
  rw[bZ (cA<|bC hb' hT)];exact(hf b hb).1
 done:=by intro X hP hw hK hc i pins s Z H E I hf st hg;subst hP hw hK;obtain⟨xs,hq,hx⟩:=hg;obtain⟨its,rv,p⟩:=vB I hq;obtain⟨⟨old,he⟩,hit⟩:=st;exact wpAny_pyNext_enum_endD (XS (A:=Around.in1 _) (I.ok.hd hc) kd it a its.toArray i (by rw[KP];exact KL (by rw[<- rv.length];exact hx))) he ⟨rfl,hit,p⟩ λh' eb=>⟨rfl,HM (tk:=s.toks) I hf λb o hb e=>eb b o (λz=>hb (z ▸ .tail _ (.head _))) e⟩
 self:=λA i s Q E st h=>st.1.elim λ_ he=>NW he h
def C1(K:bI)(ta:TA):TI:=λZ H R=>ta Z H λvs H1=>∃kd a,vs=[.ref a]/\(∃xs,lF kd K H1 a xs)/\R (vy kd K a) H1
theorem VF{E:Value->aI->Prop}{kd:Bool}{l:Addr}{Q:Value->aI->Prop}(v1:iL kd s.heap l items)
  (h:∀h',IsEnum h' (s.heap.objs.size+1) s.heap.objs.size 0 .none->kA kd h' s.heap.objs.size l 0->h'.objs.size=s.heap.objs.size+2->(∀b o,s.heap.get? b=aA o->h'.get? b=aA o)->Q (.ref<|s.heap.objs.size+1) { s with heap:=h' }):aS (aZ prog w) A (call (.type "enumerate") [.ref l]) Q E s:=by
 cases kd with
 |true=>exact call_enumerate_list v1 h|false=>exact VG v1 h
theorem iL.lt{kd:Bool}{h:bH}{l:Addr}(v:iL kd h l items):l<h.objs.size:=by
 cases kd with
 |true=>obtain⟨o,e,_⟩:=(v);exact cW e|false=>obtain⟨o,e,_⟩:=(v);exact cW e
theorem aAh{k:Nat}{ta:TA}(hg:Gl X "enumerate")(hm:X.mg "enumerate"=aD)(ha:PA X [a] ta)(hs:eI [a] X.env=[(aG,eval a X.env)]):PI X (.Tuple elts k tp) (.Call (.Name "enumerate" p) [a] [] pos) (C1 X.K ta):=by
 intro pins s Z H R I h;refine Call_<|wY I hg hm boot_enumerate<|ve (bB (ha pos pins s Z H _ I h) λus s1 ⟨vs,H1,I1,r1,q1⟩=>?_) hs rfl;obtain⟨kd,a,e,⟨xs,hq⟩,q⟩:=q1;subst e;cases r1 with
 |cons r rr=>
  cases rr;cases r;obtain⟨its,rv,p⟩:=vB I1 hq;refine VF p λh' he hit hsz kk=>NW he ?_;refine⟨s1.heap.objs.size+1,[s1.heap.objs.size+1,s1.heap.objs.size],_,_,H1,rfl,I1.kept kk,aMy kd a _ _ (lQ<|dA _) (cA<|kN p.lt) (cA p.lt),⟨⟨_,he⟩,hit⟩,λb hb=>?_,q⟩;rcases List.mem_cons.mp hb with rfl|hb
  .exact I1.uE (jL _)<|I1.bA.fresh<|jL _
  .cases List.mem_singleton.mp hb;exact I1.uE (aV _)<|I1.bA.fresh<|aV _
theorem aIn{a:Addr}(q:Y[n]?=aA a):RI T Y H (lG<|jQ n) (
vy aB T.K a
):=by
 intro Y' h' H' i e R;obtain⟨h1,h2⟩:=FK q Y' h' H' i e R;unfold lG;cases o:jQ n i h' with
 |none=>exact⟨λz=>(by cases z),λv z=>(by cases z)⟩|some u=>
  cases u with
  |none=>exact⟨λ_=>h1 o,λv z=>(by cases z)⟩|some v=>refine⟨λz=>(by cases z),λv' z=>?_⟩;cases z;obtain⟨g1,g2⟩:=h2 v o;refine⟨g1,λx H2 yl=>?_⟩;obtain⟨Tt,y,hn,rfl,rfl,k⟩:=yl;obtain⟨Y2,e2,R2,rv⟩:=g2 y H' ⟨rfl,k⟩;exact⟨Y2,⟨e2.pre,(Ext.jK (Y:=Y') hn).tup,(Ext.jK (Y:=Y') hn).dC⟩,R2.keep hn,.tup (.of gQ) (.cons (.int _)<|.cons (rv.ext<|.jK hn) .nil)⟩
theorem aIo{a:Addr}(hq:eD T.K H a ys)(r:bE T Y H xs ys):RI T Y H (lG<|mE xs) (
vy aG T.K a
):=by
 intro Y' h' H' i e R;obtain⟨h1,h2⟩:=FN hq r Y' h' H' i e R;unfold lG;cases o:mE xs i h' with
 |none=>exact⟨λz=>(by cases z),λv z=>(by cases z)⟩|some u=>
  cases u with
  |none=>exact⟨λ_=>h1 o,λv z=>(by cases z)⟩|some v=>refine⟨λz=>(by cases z),λv' z=>?_⟩;cases z;obtain⟨g1,g2⟩:=h2 v o;refine⟨g1,λx H2 yl=>?_⟩;obtain⟨Tt,y,hn,rfl,rfl,k⟩:=yl;obtain⟨Y2,e2,R2,rv⟩:=g2 y H' ⟨rfl,k⟩;exact⟨Y2,⟨e2.pre,(Ext.jK (Y:=Y') hn).tup,(Ext.jK (Y:=Y') hn).dC⟩,R2.keep hn,.tup (.of gQ) (.cons (.int _)<|.cons (rv.ext<|.jK hn) .nil)⟩
theorem aDw{k:Nat}(hK:X.K=T.K)(hg:Gl X "enumerate")(hm:X.mg "enumerate"=aD)(ha:QE X T E a m)(hs:bW a=aB) :
  QI X T E (.Tuple elts k tp) (.Call (.Name "enumerate" p) [a] [] pos) (λZ=>(m Z).bind yi):=by
 obtain⟨ta,pa,ra⟩:=ha;refine⟨_,aAh hg hm (xA pa ae<|fF hs) (by rw[fF hs];rfl),λY Z Z' h H Q R S w=>ra Y Z Z' h H _ R S (W.bind w λY1 x x' h1 H1 e1 R1 q1 w1=>?_)⟩;cases x with
 |tup xs=>
  cases q1 with
  |tup hq hr=>exact⟨aG,_,rfl,⟨_,hK▸hq⟩,by rw[hK];exact W.here w1 R1<|aIo hq hr⟩
 |ref n=>
  cases q1 with
  |@ref _ a q=>
   simp only[yi]at w1;cases o:h1.ob n with
   |none=>rw[o]at w1;exact w1.elim|some u=>
    rw[o]at w1;cases u with
    |lst mu xs=>obtain⟨ys,g1,r1⟩:=pD R1 o q;exact⟨aB,a,rfl,⟨ys,hK▸g1⟩,by rw[hK];exact W.here w1 R1<|aIn q⟩
    |aR _=>exact w1.elim|dD _=>exact w1.elim|ins _ _=>exact w1.elim
 |_=>exact w1.elim
def iR(xs:Hd)(lo hi:Hc):Hd:=(xs.drop<|HT.bY xs.length 0 lo).take (HT.bY xs.length xs.length hi-HT.bY xs.length 0 lo)
theorem Wl(r:bE T Y H xs ys)(lo hi:Hc):bE T Y H (iR xs lo hi) (fv ys lo hi):=by unfold iR fv;rw[<- r.length];exact(r.drop _).take _
def rB(x:AV)(lo hi:Hc):M AV:=λh=>match x with
 |.ref n=>match h.ob n with
  |some (.lst _ xs)=>kD (iR xs lo hi) h
  |_=>.bad
 |.tup xs=>if HT.bY xs.length 0 lo=0/\HT.bY xs.length xs.length hi=xs.length then .bad else .ok (.tup<|iR xs lo hi) h
 |_=>.bad
def OB:Rl Hc Hc:=λ_ _ a b=>a=b
def QO(X:Cx)(T:Tab)(E:XK)(o:Option aK)(m:aF->M Hc):Prop:=
 ∃t,PO X o t/\∀Y Z Z' h H Q,bP T Y h H->cV T Y H Z Z'->W T OB (m Z h) Y H Q E->t Z' H Q
def Hu(v:AV):M Hc:=λh=>match v with
 |.int i=>.ok (aA i) h
 |_=>.bad
theorem aGt:QO X T E aD (λ_=>M.ret aD):=⟨_,aAx,λY Z Z' h H Q R S w=>W.here w R rfl⟩
theorem EC(ha:QE X T E a m):QO X T E (aA a) (λZ=>(m Z).bind Hu):=by
 obtain⟨ta,pa,ra⟩:=ha;refine⟨_,aAy pa,λY Z Z' h H Q R S w=>ra Y Z Z' h H _ R S (W.bind w λY1 x x' h1 H1 e1 R1 q1 w1=>?_)⟩;cases x with
 |int i=>cases q1;exact⟨i,rfl,W.here w1 R1 rfl⟩|_=>exact w1.elim
theorem aDp(hK:X.K=T.K){lo hi:Option aK}{ml mh:aF->M Hc}(ha:QE X T E a m)(hl:QO X T E lo ml)(hh:QO X T E hi mh) :
  QE X T E (.Subscript a (.Slice lo hi aD p2) pos) (λZ=>(m Z).bind λx=>(ml Z).bind λl=>(mh Z).bind λu=>rB x l u):=by
 obtain⟨ta,pa,ra⟩:=ha;obtain⟨tl,pl,rl⟩:=hl;obtain⟨th,ph,rh⟩:=hh;refine⟨_,Z6 (aJk.or aJl) pa pl ph,λY Z Z' h H Q R S w=>ra Y Z Z' h H _ R S (W.bind w λY1 x x' h1 H1 e1 R1 q1 w1=>?_)⟩;refine rl Y1 Z Z' h1 H1 _ R1 (S.ext e1)<|W.bind w1 λY2 l l' h2 H2 e2 R2 q2 w2=>?_;refine rh Y2 Z Z' h2 H2 _ R2 ((S.ext e1).ext e2)<|W.bind w2 λY3 u u' h3 H3 e3 R3 q3 w3=>?_;cases(q2);cases(q3);have q1':=(q1.ext e2).ext e3;cases x with
 |ref n=>
  cases q1' with
  |@ref _ a q=>
   simp only[rB]at w3;cases o:h3.ob n with
   |none=>rw[o]at w3;exact w3.elim|some ob=>
    rw[o]at w3;cases ob with
    |lst mu xs=>obtain⟨ys,g1,r1⟩:=pD R3 o q;exact .inl ⟨a,ys,rfl,hK▸g1,λp hp=>uR R3 (Wl r1 l u) hp w3⟩
    |aR _=>exact w3.elim|dD _=>exact w3.elim|ins _ _=>exact w3.elim
 |tup xs=>
  cases q1' with
  |@tup a _ ys hq hr=>
   simp only[rB]at w3;by_cases hw:HT.bY xs.length 0 l=0/\HT.bY xs.length xs.length u=xs.length
   .rw[if_pos hw]at w3;exact w3.elim
   .rw[if_neg hw]at w3;refine .inr ⟨a,ys,rfl,hK▸hq,hr.length▸hw,λp hp=>Ah R3 (Wl hr l u) hp w3⟩
 |_=>exact w3.elim
def pk(xs:Hd):M AV:=λh=>match xs with
 |[.str z]=>if z.length<=sizeLine then .ok (.int z.length) h else .bad
 |[x]=>match dX h x with
  |some ys=>.ok (.int ys.length) h
  |none=>.bad
 |_=>.bad
def Yu(xs:Hd):M AV:=λh=>match xs with
 |[.int i]=>.ok (.int i) h
 |[.bl k]=>.ok (.int<|if k then 1 else 0) h
 |_=>.bad
def wU:Hd->Option (Int×Int)
 |[.int i,.int j]=>aA (i,j)
 |_=>aD
def oG:Hd->Option AV
 |[x]=>aA x
 |_=>aD
def Yy(xs:Hd):M AV:=λh=>match wU xs with
 |some (i,j)=>.ok (.int<|if j<i then j else i) h
 |none=>.bad
def Yx(xs:Hd):M AV:=λh=>match wU xs with
 |some (i,j)=>.ok (.int<|if j > i then j else i) h
 |none=>.bad
def yh(xs:Hd):M AV:=λh=>match wU xs with
 |some (i,j)=>if qF j=aB then .ok (.tup [.int (i / j),.int (i%j)]) h else .bad
 |none=>.bad
def sL:aP->AV
 |.inl i=>.int i
 |.inr x=>.str x
theorem AJ(k:aP):aW T Y H (sL k) (kV k):=by
 cases k with
 |inl i=>exact .int i|inr x=>exact .str x
theorem AN{T:Tab}{Y:Xk}{H:Hp}{ys:Hg}:∀{kvs:List (aP×AV)},bE T Y H (kvs.map (·.2)) ys->bE T Y H (kvs.map λp=>sL p.1) (((kvs.map (·.1)).zip ys).map λp=>kV p.1)
 |[],.nil=>.nil
 |p::r,.cons h t=>.cons (AJ p.1) (AN t)
def Gq(h:AH):AV->Option (List AV)
 |.ref n=>match h.ob n with
  |some (.aR kvs)=>aA (kvs.map λp=>sL p.1)
  |_=>aD
 |_=>aD
def yo(xs:Hd):M AV:=λh=>match (oG xs).bind (dX h) with
 |some ys=>.ok (.tup ys) h
 |none=>.bad
def zO(xs:Hd):M AV:=λh=>match (oG xs).bind (dX h) with
 |some ys=>kD ys h
 |none=>match (oG xs).bind (Gq h) with
  |some ys=>kD ys h
  |none=>.bad
theorem C9(h:wU xs=aA (i,j)):xs=[.int i,.int j]:=by
 unfold wU at h;split at h
 .cases h;rfl
 .cases h
theorem CJ(h:oG xs=aA x):xs=[x]:=by
 unfold oG at h;split at h
 .cases h;rfl
 .cases h
theorem WL(hK:X.K=T.K):oU X T E (.builtin "len") pk:=by
 refine⟨_,VJ.or VL,λY h H xs dU Q R r w=>?_⟩;cases r with
 |nil=>exact w.elim|@cons x x' _ _ r1 rs=>
  cases rs with
  |nil=>
   have go:(∀z,x ≠ .str z)->(∃p ys,[x']=[.ref p]/\(dH X.K H p ys\/eD X.K H p ys)/\Q (.int ys.length) H):=λnz=>by
    have w':W T (aW T) (match dX h x with
     |some ys=>Res.ok (.int ys.length) h
     |none=>.bad) Y H Q E:=by
      cases x with
      |str z=>exact absurd rfl<|nz z|_=>exact w
    cases o:dX h x with
    |none=>rw[o]at w';exact w'.elim|some ys=>rw[o]at w';obtain⟨p,zs,e,hq,hr⟩:=jd R r1 o;refine⟨p,zs,by rw[e],hK▸hq,?_⟩;rw[<- hr.length];exact w'.here R<|.int _
   cases x with
   |str z=>
    cases r1;simp only[pk]at w;by_cases hz:z.length<=sizeLine
    .rw[if_pos hz]at w;exact .inr ⟨z,rfl,hz,w.here R (.int _)⟩
    .rw[if_neg hz]at w;exact w.elim
   |_=>exact .inl (go λz e=>by cases e)
  |cons r2 rs2=>cases x<;>exact w.elim
theorem WK:oU X T E (.type "int") Yu:=by
 refine⟨_,VH,λY h H xs dU Q R r w=>?_⟩;cases r with
 |nil=>exact w.elim|cons r1 rs=>
  cases rs with
  |nil=>
   cases r1 with
   |int i=>exact .inl ⟨i,rfl,W.here w R (.int _)⟩
   |bl k=>exact .inr ⟨k,rfl,W.here w R (.int _)⟩
   |_=>exact w.elim
  |cons r2 rs2=>cases r1<;>exact w.elim
theorem Gj{f:Value}{k:Int->Int->M AV}{r:Hg->Hp->VK->Prop}(hr:iM X f r)
  (hw:∀Y h H i j Q,bP T Y h H->W T (aW T) (k i j h) Y H Q E->r [.int i,.int j] H Q):oU X T E f (λxs h=>match wU xs with
   |some (i,j)=>k i j h
   |none=>.bad):=by
 refine⟨_,hr,λY h H xs dU Q R rr w=>?_⟩;cases o:wU xs with
 |none=>simp only[o]at w;exact w.elim|some q=>
  obtain⟨i,j⟩:=q;have e:=C9 o;subst e;cases rr with
  |cons r1 rs=>
   cases r1;cases rs with
   |cons r2 rs2=>cases r2;cases rs2;exact hw Y h H i j Q R w
theorem WO(hc:X.calm=aB):oU X T E (.builtin "min") Yy:=Gj (VP hc) λY h H i j Q R w=>⟨i,j,rfl,W.here w R (.int _)⟩
theorem WN(hc:X.calm=aB):oU X T E (.builtin "max") Yx:=Gj (VO hc) λY h H i j Q R w=>⟨i,j,rfl,W.here w R (.int _)⟩
theorem VE:iM X (.builtin "divmod") (λxs H Q=>∃i j,xs=[.int i,.int j]/\(0<j/\j<2 ^ 1000)/\∀p,H p=aD->Q (.ref p) (bF H p<|.tup [.int (i / j),.int (i%j)])):=by intro pins s Z H xs us Q I r h;obtain⟨i,j,rfl,⟨h1,h2⟩,q⟩:=h;obtain⟨u,w',rfl,⟨t,rfl⟩,⟨t',rfl⟩⟩:=xJ r;refine divmod_int (by omega) ?_<|.inl<|ME<|log2_lt h2 h1;rw[Po i (by omega),JL i (by omega)];have hn:H s.heap.objs.size=aD:=I.bA.fresh (aV _);refine⟨.ref s.heap.objs.size,_,?_,rfl,q _ hn⟩;refine I.laid (λb o e=>cT _ e) (aV _) ⟨by simp only[iB];decide,[.int (i / j) s.toks,.int (i%j) (s.toks+1)],.cons ⟨_,rfl⟩ (.cons ⟨_,rfl⟩ .nil),?_⟩;exact⟨_,fU s.heap rfl,rfl,0,rfl⟩
theorem WJ:oU X T E (.builtin "divmod") yh:=Gj VE λY h H i j Q R w=>by
 by_cases hj:qF j=aB
 .simp only[if_pos hj]at w;exact⟨i,j,rfl,Ww hj,λp hp=>Ah R (.cons (.int _)<|.cons (.int _) .nil) hp w⟩
 .simp only[if_neg hj]at w;exact w.elim
theorem CK{k:Hd->M AV}(R:bP T Y h H)(r:bE T Y H xs dU)(w:W T (aW T) ((match (oG xs).bind (dX h) with
  |some ys=>k ys h
  |none=>.bad:Res AV)) Y H Q E):∃p ys zs,dU=[.ref p]/\(dH T.K H p zs\/eD T.K H p zs)/\bE T Y H ys zs/\W T (aW T) (k ys h) Y H Q E:=by
 cases o1:oG xs with
 |none=>rw[o1]at w;exact w.elim|some x=>
  rw[o1]at w;simp only[jM]at w;have e:=CJ o1;subst e;cases r with
  |cons r1 rs=>
   cases rs;cases o:dX h x with
   |none=>rw[o]at w;exact w.elim|some ys=>rw[o]at w;obtain⟨p,zs,e,hq,hr⟩:=jd R r1 o;exact⟨p,ys,zs,by rw[e],hq,hr,w⟩
theorem WQ(hK:X.K=T.K):oU X T E (.type "tuple") yo:=by
 refine⟨_,VV,λY h H xs dU Q R r w=>?_⟩;obtain⟨p,ys,zs,rfl,hq,hr,w'⟩:=CK R r w;rcases hq with hq|hq
 .exact⟨p,zs,rfl,.inl ⟨hK▸hq,λl hl=>Ah R hr hl w'⟩⟩
 .exact⟨p,zs,rfl,.inr ⟨hK▸hq,W.here w' R (.tup hq hr)⟩⟩
theorem WM(hK:X.K=T.K)(hc:X.calm=aB):oU X T E (.type "list") zO:=by
 refine⟨_,VN.or (VM hc),λY h H xs dU Q R r w=>?_⟩;unfold zO at w;cases o:(oG xs).bind (dX h) with
 |some ys=>
  have w1:W T (aW T) ((match (oG xs).bind (dX h) with
   |some ys=>kD ys h
   |none=>.bad:Res AV)) Y H Q E:=by rw[o]at w ⊢;exact w
  obtain⟨p,ys,zs,rfl,hq,hr,w'⟩:=CK R r w1;exact .inl ⟨p,zs,rfl,hK▸hq,λl hl=>uR R hr hl w'⟩
 |none=>
  rw[o]at w;refine .inr ?_;cases o1:oG xs with
  |none=>rw[o1]at w;exact w.elim|some x=>
   rw[o1]at w;simp only[jM]at w;have e:=CJ o1;subst e;cases r with
   |cons r1 rs=>
    cases rs;cases x with
    |ref n=>
     cases r1 with
     |@ref _ a q=>
      simp only[Gq]at w;cases ob:h.ob n with
      |none=>rw[ob]at w;exact w.elim|some u=>
       rw[ob]at w;cases u with
       |aR kvs=>obtain⟨ks,ys,g1,rfl,rv⟩:=R.obj n _ a ob q;exact⟨a,_,rfl,g1,λl hl=>uR R (AN rv) hl w⟩
       |_=>exact w.elim
    |_=>exact w.elim
theorem aCt{x:Str}{id:String}{g:Hd->M AV} (hc:oU X T E (.builtin id) g) (hg:Gl X x) (hm:X.mg x=aD) (hv:mW x=aA (.builtin id)) (ha:QA X T E (e::es) mr) (hs:(e::es).all bW=aB) (hn:x≠"__name__") (hd:(x==("__debug__":Str))=aG) :
  QE X T E (.Call (.Name x p) (e::es) [] pos) (λZ=>(mr Z).bind g):=by
 obtain⟨r,hr,hgg⟩:=hc;obtain⟨tr,pr,rr⟩:=ha;rw[jY,bS]at hs;exact⟨_,Ap hr hg hm hv pr hn hd (fF hs.1) (tD hs.2),λY Z Z' h H Q R S w=>rr Y Z Z' h H _ R S (W.bind w λY1 xs dU h1 H1 e1 R1 q1 w1=>hgg Y1 h1 H1 xs dU Q R1 q1 w1)⟩
theorem aCu{x:Str}{id:String}{g:Hd->M AV} (hc:oU X T E (.type id) g) (hg:Gl X x) (hm:X.mg x=aD) (hv:mW x=aA (.type id)) (ha:QA X T E (e::es) mr) (hs:(e::es).all bW=aB) (hn:x≠"__name__") (hd:(x==("__debug__":Str))=aG) :
  QE X T E (.Call (.Name x p) (e::es) [] pos) (λZ=>(mr Z).bind g):=by
 obtain⟨r,hr,hgg⟩:=hc;obtain⟨tr,pr,rr⟩:=ha;rw[jY,bS]at hs;exact⟨_,X8 hr hg hm hv pr hn hd (fF hs.1) (tD hs.2),λY Z Z' h H Q R S w=>rr Y Z Z' h H _ R S (W.bind w λY1 xs dU h1 H1 e1 R1 q1 w1=>hgg Y1 h1 H1 xs dU Q R1 q1 w1)⟩
end
def Tr(cH cR:Bool)(K:bI)(a b:Addr):It:=
  ⟨λi H=>∃xs ys x y,lF cH K H a xs/\lF cR K H b ys/\xs[i]?=aA x/\ys[i]?=aA y,
   λi H x H'=>∃T u v,H T=aD/\x = .ref T/\H'=bF H T (.tup [u,v])/\(∀xs,lF cH K H a xs->xs[i]?=aA u)/\∀ys,lF cR K H b ys->ys[i]?=aA v,
   λi H=>∃xs ys,lF cH K H a xs/\lF cR K H b ys/\(xs[i]?=aD\/ys[i]?=aD)⟩
section
variable {a b l:aK}
theorem aNe{K:bI}{k:Nat}(cH cR:Bool){TI TO:Addr}(D:cq z TI TO i1 i2 l1 l2) :
  Turn P w K (.Tuple elts k tp) (Tr cH cR K l1 l2) [z,TI,TO,i1,i2] z (λi h=>mG h z TI TO .none/\gZ h TI (.ref i1) (.ref i2)/\(∃a b,gZ h TO a b)/\kA cH h i1 l1 i/\kA cR h i2 l2 i) where
 mem:=by simp
 obj:=λi h st b hb=>by
  obtain⟨hz,hTI,⟨a,b',hTO⟩,h1,h2⟩:=st;simp only[kL,kM,or_false]at hb;rcases hb with rfl|rfl|rfl|rfl|rfl
  .exact⟨_,hz,λv q=>by cases q⟩
  .exact⟨_,hTI,λv q=>by cases q⟩
  .exact⟨_,hTO,λv q=>by cases q⟩
  .exact h1.live
  .exact h2.live
 keep:=λi h h' st kk=>by obtain⟨hz,hTI,⟨a,b',hTO⟩,h1,h2⟩:=st;exact⟨kk z (by simp) _ hz,kk TI (by simp) _ hTI,⟨a,b',kk TO (by simp) _ hTO⟩,h1.at λo e=>kk i1 (by simp) o e,h2.at λo e=>kk i2 (by simp) o e⟩
 item:=by
  intro X hP hw hK hc i pins s Z H E I hf st hg;subst hP hw hK;obtain⟨xs,ys,x,y,hq1,hq2,hx,hy⟩:=hg;obtain⟨zr,rv1,p1⟩:=vB I hq1;obtain⟨wV,rv2,p2⟩:=vB I hq2;obtain⟨u1,hu1,ru1⟩:=rv1.get hx;obtain⟨u2,hu2,ru2⟩:=rv2.get hy;obtain⟨hz,hTI,⟨a,b',hTO⟩,h1,h2⟩:=id st;have hh:X.A.in1.handled=aD:=I.ok.hd hc;refine N6 D (jG.kd hh cH D.l1i1 zr.toArray) (jG.kd hh cR D.l2i2 wV.toArray) hz hTI hTO ⟨h1,p1⟩ ⟨h2,p2⟩ (by simpa) (by simpa) λh' z' t' s1 s2 new kk=>?_;refine⟨_,rfl,?_⟩;refine wpAny_letOwnedTupleGo_zip z' λh'' z'' sb=>?_;have lt:∀{c:Addr}{o:Obj},s.heap.get? c=aA o->s.heap.objs.size≠c:=λe=>lQ (cW e);have keep2:∀c o,c∉[z,TI,TO,i1,i2]->s.heap.get? c=aA o->h''.get? c=aA o:=λc o hc e=>by simp only[kL,kM,or_false,not_or]at hc;exact sb.extBut _ _ hc.1<|kk c o hc.1 hc.2.2.1 hc.2.2.2.1 hc.2.2.2.2 e
  have hTI2:gZ h'' TI (.ref i1) (.ref i2):=sb.extBut _ _ D.TIz (kk _ _ D.TIz D.TITO D.TIi1 D.TIi2 hTI);have hTO2:gZ h'' TO u1 u2:=sb.extBut _ _ D.TOz t';have s1':kA cH h'' i1 l1 (i+1):=s1.1.at λo e=>sb.extBut _ _ D.i1z e;have s2':kA cR h'' i2 l2 (i+1):=s2.1.at λo e=>sb.extBut _ _ D.i2z e;have new2:gZ h'' s.heap.objs.size u1 u2:=sb.extBut _ _ (lt hz) new;have I2:Inv X pins Z (bF H s.heap.objs.size<|.tup [x,y]) { s with heap:=h'' }:=HN I hf keep2 (λc hc=>by
   simp only[kL,kM,or_false]at hc;rcases hc with rfl|rfl|rfl|rfl|rfl
   .exact⟨_,z''⟩
   .exact⟨_,hTI2⟩
   .exact⟨_,hTO2⟩
   .exact let ⟨o,e,_⟩:=s1'.live;⟨o,e⟩
   .exact let ⟨o,e,_⟩:=s2'.live;⟨o,e⟩) (aV _) ⟨_,new2,rfl,_,rfl⟩ (.cons ru1<|.cons ru2 .nil) (by show 2<=sizeLine;decide)
  have hn:H s.heap.objs.size=aD:=I.bA.fresh (aV _);refine⟨.ref s.heap.objs.size,_,I2,rfl,⟨_,x,y,hn,rfl,rfl,λzs hzs=>by rw[Ni I hzs hq1];exact hx,λzs hzs=>by rw[Ni I hzs hq2];exact hy⟩,⟨z'',hTI2,⟨_,_,hTO2⟩,s1',s2'⟩,λc hc=>?_⟩;have hc':s.heap.objs.size≠c:=by
   simp only[kL,kM,or_false]at hc;rcases hc with rfl|rfl|rfl|rfl|rfl
   .exact lt hz
   .exact lt hTI
   .exact lt hTO
   .exact let ⟨o,e,_⟩:=h1.live;lt e
   .exact let ⟨o,e,_⟩:=h2.live;lt e
  rw[bZ hc'.symm];exact(hf c hc).1
 done:=by
  intro X hP hw hK hc i pins s Z H E I hf st hg;subst hP hw hK;obtain⟨xs,ys,hq1,hq2,qa⟩:=hg;obtain⟨zr,rv1,p1⟩:=vB I hq1;obtain⟨wV,rv2,p2⟩:=vB I hq2;obtain⟨hz,hTI,⟨a,b',hTO⟩,h1,h2⟩:=id st;have hh:X.A.in1.handled=aD:=I.ok.hd hc;refine XZ D (jG.kd hh cH D.l1i1 zr.toArray) (jG.kd hh cR D.l2i2 wV.toArray) hz hTI hTO ⟨h1,p1⟩ ⟨h2,p2⟩ ?_ λh' kk=>⟨rfl,HM I hf λc o hc e=>?_⟩
  .rcases qa with q|q
   .exact .inl (by simpa using rv1.none_of q)
   .exact .inr (by simpa using rv2.none_of q)
  .simp only[kL,kM,or_false,not_or]at hc;exact kk c o hc.1 hc.2.2.1 hc.2.2.2.1 hc.2.2.2.2 e
 self:=λA i s Q E st h=>NX st.1 h
theorem aRk(n a b:Nat)(ha:a<n)(hb:b<n):cq (n+4) (n+2) (n+3) n (n+1) a b:=
 ⟨cA (by omega),cA (by omega),cA (by omega),cA (by omega),cA (by omega),lQ (by omega),lQ (by omega),lQ (by omega),lQ (by omega),cA (by omega),
  cA (by omega),cA (by omega),cA (by omega),cA (by omega),cA (by omega),cA (by omega),cA (by omega),cA (by omega)⟩
def C6(K:bI)(ta:TA):TI:=λZ H R=>ta Z H λvs H1=>∃a b cH cR,vs=[.ref a,.ref b]/\(∃xs,lF cH K H1 a xs)/\(∃ys,lF cR K H1 b ys)/\R (Tr cH cR K a b) H1
theorem aAl{k:Nat}{ta:TA}(hg:Gl X "zip")(hm:X.mg "zip"=aD)(ha:PA X [a,b] ta)(hs:bW a=aB)(hs2:bW b=aB):PI X (.Tuple elts k tp) (.Call (.Name "zip" p) [a,b] [] pos) (C6 X.K ta):=by
 intro pins s Z H R I h;refine Call_<|wY I hg hm boot_zip<|ve (bB (ha pos pins s Z H _ I h) λus s1 ⟨vs,H1,I1,r1,q1⟩=>?_) (fF hs)<|tD (by simp[hs2]);obtain⟨a,b,cH,cR,e,⟨xs,hq1⟩,⟨ys,hq2⟩,q⟩:=q1;subst e;cases r1 with
 |cons r rr=>
  cases r;cases rr with
  |cons r' rr'=>
   cases r';cases rr';obtain⟨zr,rv1,p1⟩:=vB I1 hq1;obtain⟨wV,rv2,p2⟩:=vB I1 hq2;have ltA:∀{kd:Bool}{l:Addr}{items:Xq},iL kd s1.heap l items->l<s1.heap.objs.size:=λ{kd l items} hl=>by
    cases kd with
    |true=>obtain⟨o,e,_⟩:=(hl);exact cW e|false=>obtain⟨o,e,_⟩:=(hl);exact cW e
   have la:=ltA p1;have lb:=ltA p2;refine VW cH cR p1 p2 λh' hz hTI hTO h1 h2 kk=>?_;have I2:Inv X pins Z H1 { s1 with heap:=h' }:=I1.kept kk;refine NX hz ?_;have D:cq (s1.heap.objs.size+4) (s1.heap.objs.size+2) (s1.heap.objs.size+3) s1.heap.objs.size (s1.heap.objs.size+1) a b:=aRk _ _ _ la lb;refine⟨s1.heap.objs.size+4,[s1.heap.objs.size+4,s1.heap.objs.size+2,s1.heap.objs.size+3,s1.heap.objs.size,s1.heap.objs.size+1],_,_,H1,rfl,I2,aNe cH cR D,⟨hz,hTI,⟨_,_,hTO⟩,h1,h2⟩,λc hc=>?_,q⟩;have hle:s1.heap.objs.size<=c:=by
    simp only[kL,kM,or_false]at hc;rcases hc with rfl|rfl|rfl|rfl|rfl
    .exact pP _ _
    .exact pP _ _
    .exact pP _ _
    .exact aV _
    .exact pP _ _
   exact I1.uE hle<|I1.bA.fresh hle
def jv(it jt:gF):gF:=λi h=>match it i h,jt i h with
 |some (aA u),aA (aA v)=>aA (aA<|.tup [u,v])
 |some aD,aA _=>aA aD
 |some _,aA aD=>aA aD
 |_,_=>aD
def yp(xs:Hd):M gF:=λh=>match xs with
 |[x,y]=>match nZ x h,nZ y h with
  |.ok it _,.ok jt _=>.ok (jv it jt) h
  |_,_=>.bad
 |_=>.bad
theorem AF{it:gF}{h2:AH}(R:bP T Y h H)(r:aW T Y H x x')(e:nZ x h = .ok it h2) :
  ∃a kd,x' = .ref a/\(∃xs,lF kd T.K H a xs)/\∀Y' h' H' i,Ext Y H Y' H'->bP T Y' h' H'->∀o,it i h'=aA o->∃ys,lF kd T.K H' a ys/\((o=aD/\ys[i]?=aD)\/∃v v',o=aA v/\ys[i]?=aA v'/\aW T Y' H' v v'):=by
 cases x with
 |tup xs=>
  cases r with
  |@tup a _ ys hq hr=>
   cases e;refine⟨a,aG,rfl,⟨ys,hq⟩,λY' h' H' i ex R' o ho=>⟨ys,ex.ug hq,?_⟩⟩;have ho':xs[i]?=o:=dR ho;cases o with
   |none=>exact .inl ⟨rfl,by rw[KM]at ho' ⊢;rw[<- hr.length];exact ho'⟩|some v=>obtain⟨v',g1,g2⟩:=(hr.ext ex).get ho';exact .inr ⟨v,v',rfl,g1,g2⟩
 |ref n=>
  cases r with
  |@ref _ a q=>
   simp only[nZ]at e;cases ob:h.ob n with
   |none=>rw[ob]at e;cases e|some u=>
    rw[ob]at e;cases u with
    |lst mu xs=>
     cases e;obtain⟨ys,g1,r1⟩:=pD R ob q;refine⟨a,aB,rfl,⟨ys,g1⟩,λY' h' H' i ex R' o ho=>?_⟩;unfold jQ at ho;cases ob':h'.ob n with
     |none=>rw[ob']at ho;cases ho|some u'=>
      rw[ob']at ho;cases u' with
      |lst mu' dU=>
       obtain⟨zs,g2,r2⟩:=pD R' ob' (ex.pre n a q);have ho':dU[i]?=o:=dR ho;refine⟨zs,g2,?_⟩;cases o with
       |none=>exact .inl ⟨rfl,by rw[KM]at ho' ⊢;rw[<- r2.length];exact ho'⟩|some v=>obtain⟨v',g3,g4⟩:=r2.get ho';exact .inr ⟨v,v',rfl,g3,g4⟩
      |aR _=>cases ho|dD _=>cases ho|ins _ _=>cases ho
    |aR _=>cases e|dD _=>cases e|ins _ _=>cases e
 |_=>cases e
theorem aDz{k:Nat}(hK:X.K=T.K)(hg:Gl X "zip")(hm:X.mg "zip"=aD)(ha:QA X T E [a,b] mr)(hs:bW a=aB)(hs2:bW b=aB) :
  QI X T E (.Tuple elts k tp) (.Call (.Name "zip" p) [a,b] [] pos) (λZ=>(mr Z).bind yp):=by
 obtain⟨ta,pa,ra⟩:=ha;refine⟨_,aAl hg hm pa hs hs2,λY Z Z' h H Q R S w=>ra Y Z Z' h H _ R S (W.bind w λY1 xs dU h1 H1 e1 R1 q1 w1=>?_)⟩;cases q1 with
 |nil=>exact w1.elim|@cons x x' _ _ r1 rs=>
  cases rs with
  |nil=>exact w1.elim|@cons y y' _ _ r2 rs2=>
   cases rs2 with
   |cons _ _=>exact w1.elim|nil=>
    simp only[yp]at w1;cases g1:nZ x h1 with
    |bad=>rw[g1]at w1;exact w1.elim|ok it hx=>
     cases g2:nZ y h1 with
     |bad=>rw[g1,g2]at w1;exact w1.elim|ok jt hy=>
      rw[g1,g2]at w1;obtain⟨pa,cH,rfl,sa,fa⟩:=AF R1 r1 g1;obtain⟨pb,cR,rfl,sb,fb⟩:=AF R1 r2 g2;refine⟨pa,pb,cH,cR,rfl,hK▸sa,hK▸sb,?_⟩;rw[hK];refine W.here w1 R1 λY' h' H' i ex R'=>?_;unfold jv;cases o1:it i h' with
      |none=>exact⟨λq=>(by cases q),λv q=>(by cases q)⟩|some u=>
       cases o2:jt i h' with
       |none=>
        cases u with
        |none=>exact⟨λq=>(by cases q),λv q=>(by cases q)⟩|some u=>exact⟨λq=>(by cases q),λv q=>(by cases q)⟩
       |some v=>
        obtain⟨ys1,s1,c1⟩:=fa Y' h' H' i ex R' u o1;obtain⟨ys2,s2,c2⟩:=fb Y' h' H' i ex R' v o2;rcases c1 with⟨rfl,n1⟩|⟨u1,u1',rfl,n1,t1⟩
        .exact⟨λ_=>⟨ys1,ys2,s1,s2,.inl n1⟩,λv q=>(by cases q)⟩
        .rcases c2 with⟨rfl,n2⟩|⟨u2,u2',rfl,n2,t2⟩
         .exact⟨λ_=>⟨ys1,ys2,s1,s2,.inr n2⟩,λv q=>(by cases q)⟩
         .refine⟨λq=>(by cases q),λv q=>⟨⟨ys1,ys2,u1',u2',s1,s2,n1,n2⟩,λx H2 yl=>?_⟩⟩;cases q;obtain⟨Tt,y1,y2,hn,rfl,rfl,k1,k2⟩:=yl;have e1:=k1 ys1 s1;have e2:=k2 ys2 s2;rw[n1]at e1;rw[n2]at e2;cases e1;cases e2;exact⟨Y',.jK hn,R'.keep hn,.tup (.of gQ) (.cons (t1.ext<|.jK hn)<|.cons (t2.ext<|.jK hn) .nil)⟩
end
def oE{α:Type}(m:M α):M α:=λh=>match m h with
 |.ok a h1=>.ok a h1
 |_=>.bad
theorem CB{α β:Type}{Rp:Rl α β}{m:M α}{Q:β->Hp->Prop}{E':XK}(w:W T Rp (oE m h) Y H Q E):W T Rp (m h) Y H Q E':=by
 unfold oE at w;cases e:m h with
 |ok a h1=>rw[e]at w;exact w|bad=>rw[e]at w;exact w.elim
theorem M.bind_assoc{α β γ:Type}(m:M α)(k:α->M β)(l:β->M γ):(m.bind k).bind l=m.bind λx=>(k x).bind l:=by
 funext h
 unfold M.bind;cases m h<;>rfl
def eL(it:gF)(g:AV->aF->M aF)(mt:aF->M Bool)(me:aF->M AV):Nat->Nat->Hd->aF->M Hd
 |0,_,_,_=>M.bad
 |f+1,i,ys,Z=>λh=>match it i h with
  |none=>.bad
  |some aD=>.ok ys h
  |some (aA v)=>((oE<|g v Z).bind λZ1=>(oE<|mt Z1).bind λb=>if b=aB then(me Z1).bind λy=>M.guard (ys.length<sizeLine) (eL it g mt me f (i+1) (ys++[y]) Z1) else eL it g mt me f (i+1) ys Z1) h
def mP{α:Type}(imp:Xt)(Z:List (Option α)):List (Option α):=imp.map λo=>match o with
 |some j=>(Z[j]?).getD aD
 |none=>aD
def yT(mi:M gF)(g:AV->aF->M aF)(mt:aF->M Bool)(me:aF->M AV)(imp:Xt)(Z:aF):M AV:=mi.bind λit=>(eL it g mt me FU 0 []<|mP imp Z).bind kD
def HC(T:Tab)(E:XK)(m:aF->M AV):TE:=λZ' H Q=>∃Y Z h,bP T Y h H/\cV T Y H Z Z'/\W T (aW T) (m Z h) Y H Q E
def HB(T:Tab)(m:aF->M Bool):TT:=λZ' H Q=>∃Y Z h,bP T Y h H/\cV T Y H Z Z'/\W T RB (m Z h) Y H Q E0
def HA(T:Tab)(g:AV->aF->M aF):TG:=λv' Z' H Q=>∃Y v Z h,bP T Y h H/\cV T Y H Z Z'/\aW T Y H v v'/\W T (cV T) (g v Z h) Y H Q E0
section
variable {elt cQ:aK}{ct:Option aK}{me:aF->M AV}{mt:aF->M Bool}{mi:aF->M gF}{g:AV->aF->M aF}{imp:Xt}{N':Xo}
theorem QE.canon(h:QE X T E e m):PE X e (HC T E m):=let ⟨t,p,r⟩:=h;λpins s Z' H Q I ⟨Y,Z,h,R,S,w⟩=>p pins s Z' H Q I (r Y Z Z' h H Q R S w)
theorem QT.canon{m:aF->M Bool}(h:QT X T E0 e m):PT X e (HB T m):=let ⟨t,p,r⟩:=h;λpins s Z' H Q I ⟨Y,Z,h,R,S,w⟩=>p pins s Z' H Q I (r Y Z Z' h H Q R S w)
theorem QG.canon{g:AV->aF->M aF}(h:QG X T E0 e g):PG X e (HA T g):=let ⟨t,p,r⟩:=h;λpins s Z' H v' u Q I ru ⟨Y,v,Z,h,R,S,rv,w⟩=>p pins s Z' H v' u Q I ru (r Y v v' Z Z' h H Q R S rv w)
theorem yy{α:Type}(Z:List (Option α)):(mP imp Z).length=imp.length:=by simp[mP]
theorem Io{α:Type}{Z:List (Option α)}{i:Nat}{v:α}(h:(mP imp Z)[i]?=aA (aA v)):∃j,imp[i]?=aA (aA j)/\Z[j]?=aA (aA v):=by
 unfold mP at h;rw[fH]at h;cases e:imp[i]? with
 |none=>rw[e]at h;cases h|some o=>
  rw[e]at h;cases o with
  |none=>cases h|some j=>
   refine⟨j,rfl,?_⟩;have h':(Z[j]?).getD aD=aA v:=dR h;cases q:Z[j]? with
   |none=>rw[q]at h';cases h'|some w=>rw[q]at h';exact congrArg aA h'
theorem cV.C7(S:cV T Y H Z Z'):cV T Y H (mP imp Z) (mP imp Z'):=by refine⟨by rw[yy,yy],λi v e=>?_⟩;obtain⟨j,h1,h2⟩:=Io e;obtain⟨v',h3,r⟩:=S.2 j v h2;refine⟨v',?_,r⟩;unfold mP;rw[fH,h1];show aA ((Z'[j]?).getD aD)=_;rw[h3];rfl
theorem Wc{wi:TI}(ri:∀Y Z Z' h H R,bP T Y h H->cV T Y H Z Z'->W T (RI T) (mi Z h) Y H R E->wi Z' H R)(R:bP T Y h H)(S:cV T Y H Z Z')
  (w:W T (aW T) (yT (mi Z) g mt me imp Z h) Y H Q E):Np wi (mP imp) (HA T g) (HB T mt) (HC T E me) Z' H Q:=by
 refine ri Y Z Z' h H _ R S<|W.bind w λY1 it J h1 H1 e1 R1 q1 w1=>?_;refine⟨λi m ys' Z' H=>∃Y ys Z h,Ext Y1 H1 Y H/\bP T Y h H/\cV T Y H Z Z'/\bE T Y H ys ys'/\W T (aW T) (((eL it g mt me m i ys Z).bind kD) h) Y H Q E,FU,⟨Y1,[],_,h1,.refl,R1,(S.ext e1).C7,.nil,w1⟩,?_⟩;rintro i m ys' Z' H ⟨Y,ys,Z,h,e,R,S,rys,w⟩
 cases m with
 |zero=>exact w.elim|succ f=>
  cases hit:it i h with
  |none=>
   have w':W T (aW T) Res.bad Y H Q E:=by simp only[eL,M.bind,hit]at w;exact w
   exact w'.elim
  |some o=>
   cases o with
   |none=>
    have w':W T (aW T) (kD ys h) Y H Q E:=by simp only[eL,M.bind,hit]at w;exact w
    exact .inl ⟨(q1 Y h H i e R).1 hit,λD hD=>uR R rys hD w'⟩
   |some v=>
    have w':W T (aW T) ((((oE<|g v Z).bind λZ1=>(oE<|mt Z1).bind λb=>if b=aB then(me Z1).bind λy=>M.guard (ys.length<sizeLine) (eL it g mt me f (i+1) (ys++[y]) Z1) else eL it g mt me f (i+1) ys Z1).bind kD) h) Y H Q E:=by
     have e1:∀k:Hd->M AV,((eL it g mt me (f+1) i ys Z).bind k) h=((((oE<|g v Z).bind λZ1=>(oE<|mt Z1).bind λb=>if b=aB then(me Z1).bind λy=>M.guard (ys.length<sizeLine) (eL it g mt me f (i+1) (ys++[y]) Z1) else eL it g mt me f (i+1) ys Z1).bind k) h):=λk=>by unfold M.bind;simp only[eL,hit];rfl
     rw[e1]at w;exact w
    rw[M.bind_assoc]at w';obtain⟨go,yl⟩:=(q1 Y h H i e R).2 v hit;refine .inr ⟨go,λx H2 y=>?_⟩;obtain⟨Y2,e2,R2,rv⟩:=yl x H2 y;refine⟨Y2,v,Z,h,R2,S.ext e2,rv,CB (W.bind (w'.ext e2) λY3 Z3 Z3' h3 H3 e3 R3 S3 w3=>?_)⟩;rw[M.bind_assoc]at w3;refine⟨Y3,Z3,h3,R3,S3,CB (W.bind w3 λY4 d d' h4 H4 e4 R4 q4 w4=>?_)⟩;have q4':d=d':=q4;subst q4';cases d with
    |true=>
     rw[if_pos rfl]at w4 ⊢;rw[M.bind_assoc]at w4;refine⟨Y4,Z3,h4,R4,S3.ext e4,W.bind w4 λY5 y y' h5 H5 e5 R5 q5 w5=>?_⟩;by_cases hz:ys.length<sizeLine
     .have w6:W T (aW T) (((eL it g mt me f (i+1) (ys++[y]) Z3).bind kD) h5) Y5 H5 Q E:=by
       have e6:((M.guard (ys.length<sizeLine)<|eL it g mt me f (i+1) (ys++[y]) Z3).bind kD) h5=((eL it g mt me f (i+1) (ys++[y]) Z3).bind kD) h5:=by unfold M.bind M.guard;rw[if_pos hz]
       rw[e6]at w5;exact w5
      exact⟨by rw[<- rys.length];exact hz,f,dA f,Y5,ys++[y],Z3,h5,((((e.trans e2).trans e3).trans e4).trans e5),R5,(S3.ext e4).ext e5,(rys.ext<|((e2.trans e3).trans e4).trans e5).append (.cons q5 .nil),w6⟩
     .have e6:((M.guard (ys.length<sizeLine)<|eL it g mt me f (i+1) (ys++[y]) Z3).bind kD) h5 = .bad:=by unfold M.bind M.guard;rw[if_neg hz]
      rw[e6]at w5;exact w5.elim
    |false=>exact⟨f,dA f,Y4,ys,Z3,h4,((e.trans e2).trans e3).trans e4,R4,S3.ext e4,rys.ext ((e2.trans e3).trans e4),w4⟩
theorem DO(hsc:oV X N' scope)(sG:X.calm=aB)(hi:QI X T E tg cQ mi)(hg:∀s H C fp,QG (X.comp N' scope s H C fp) T E0 tg g)(hct:∀c,ct=aA c->∀s H C fp,QT (X.comp N' scope s H C fp) T E0 c mt)
  (hct0:ct=aD->mt=λ_=>M.ret aB) (he:∀s H C fp,QE (X.comp N' scope s H C fp) T E0 elt me) (himp:imp.length=N'.length)
  (hσ:∀(i j:Nat) x,N'[i]?=aA x->imp[i]?=aA (aA j)->scope.names.lookup x=aA .free/\(x,jE)∈scope.names/\X.N[j]?=aA x) (hs:bW cQ=aB) :
  QE X T E (.ListComp elt [⟨tg,cQ,ct.toList,0⟩] scope pos) (λZ=>yT (mi Z) g mt me imp Z):=by
 obtain⟨wi,pi,ri⟩:=hi;refine⟨_,Y1 hsc sG pi (λs H C fp=>(hg s H C fp).canon) (λc e s H C fp=>(hct c e s H C fp).canon) (λe Z H Q=>?_) (λs H C fp=>(he s H C fp).canon) (λZ=>by rw[yy,himp]) (λZ i x v e1 e2=>?_) λx=>Nb hs,λY Z Z' h H Q R S w=>Wc ri R S w⟩
 .rintro ⟨Y,Z,h,R,S,w⟩
  rw[hct0 e]at w;exact W.here w R rfl
 .obtain⟨j,h1,h2⟩:=Io e2;obtain⟨a,b,c⟩:=hσ i j x e1 h1;exact⟨a,b,j,c,h2⟩
theorem EG{i:Nat}{y:Str}{pJ:Pos}(hN:X.N.Nodup)(hi':X.N[i]?=aA y)(hy:X.env.scope.names.lookup y=aA .local)
  (hsw:vW (.ListComp elt [⟨tg,cQ,ct.toList,0⟩] scope pos) (aA<|.Name y py) pJ.line X.env=pure aB)(hsc:oV X N' scope)(sG:X.calm=aB)(hi:QI X T E tg cQ mi)(hg:∀s H C fp,QG (X.comp N' scope s H C fp) T E0 tg g)(hct:∀c,ct=aA c->∀s H C fp,QT (X.comp N' scope s H C fp) T E0 c mt)
  (hct0:ct=aD->mt=λ_=>M.ret aB)(he:∀s H C fp,QE (X.comp N' scope s H C fp) T E0 elt me)(himp:imp.length=N'.length)
  (hσ:∀(i j:Nat) x,N'[i]?=aA x->imp[i]?=aA (aA j)->scope.names.lookup x=aA .free/\(x,jE)∈scope.names/\X.N[j]?=aA x)(hs:bW cQ=aB) :
  QS X T E (.Assign [.Name y py] (.ListComp elt [⟨tg,cQ,ct.toList,0⟩] scope pos) pJ) (λZ=>(yT (mi Z) g mt me imp Z).bind λv=>(M.ret<|Z.set i<|aA v).bind λZ1=>M.ret (.nx Z1)):=by
 obtain⟨wi,pi,ri⟩:=hi;refine⟨_,aBu hN hi' hy hsw hsc sG pi (λs H C fp=>(hg s H C fp).canon) (λc e s H C fp=>(hct c e s H C fp).canon) (λe Z H Q=>?_) (λs H C fp=>(he s H C fp).canon) (λZ=>by rw[yy,himp]) (λZ i x v e1 e2=>?_) λx=>Nb hs,
  λY Z Z' h H D R S w=>Wc ri R S (W.bind w λY1 x x' h1 H1 e1 R1 q1 w1=>W.here (b:=jN.nx (Z'.set i<|aA x')) w1 R1 ((S.ext e1).set q1 i))⟩
 .rintro ⟨Y,Z,h,R,S,w⟩
  rw[hct0 e]at w;exact W.here w R rfl
 .obtain⟨j,h1,h2⟩:=Io e2;obtain⟨a,b,c⟩:=hσ i j x e1 h1;exact⟨a,b,j,c,h2⟩
end
section
variable {l:aK}{st:Stmt}
def mM(ks:List aP):gF:=λi _=>match ks[i]? with
 |some k=>aA (aA<|sL k)
 |none=>if i=ks.length then aA aD else aD
def ou(v:AV):M gF:=λh=>match v with
 |.ref n=>match h.ob n with
  |some (.aR kvs)=>.ok (mM<|kvs.map (·.1)) (h.put n<|.dD kvs)
  |_=>.bad
 |_=>.bad
def uk{α:Type}(n:Nat)(r:Res α):Res α:=match r with
 |.ok a h=>match h.ob n with
  |some (.dD kvs)=>.ok a (h.put n<|.aR kvs)
  |_=>.bad
 |_=>.bad
theorem aIm{o:Obj}(hH:H a=aA (.dC o<|.dK<|(kvs.map (·.1)).zip ys))(hl:ys.length=kvs.length):RI T Y H (mM<|kvs.map (·.1)) (Er a o<|(kvs.map (·.1)).zip ys):=by
 intro Y' h' H' i e R;have hH':=e.dC _ _ _ hH;have hlen:((kvs.map (·.1)).zip ys).length=kvs.length:=by simp[hl]
 refine⟨λz=>?_,λv z=>?_⟩
 .unfold mM at z;cases q:(kvs.map (·.1))[i]? with
  |some k=>rw[q]at z;cases z|none=>
   rw[q]at z;by_cases hi:i=(kvs.map (·.1)).length
   .exact⟨hH',by rw[hlen];simpa using hi.symm⟩
   .rw[if_neg hi]at z;cases z
 .unfold mM at z;cases q:(kvs.map (·.1))[i]? with
  |none=>rw[q]at z;dsimp only at z;split at z<;>cases z
  |some k=>
   rw[q]at z;cases z;have hi:i<kvs.length:=by simpa using (List.getElem?_eq_some_iff.mp q).1
   refine⟨⟨hH',hlen▸hi⟩,λx H2 y=>?_⟩;obtain⟨rfl,k',v',hk,rfl⟩:=y;have hk':k'=k:=by rw[KQ]at hk;rw[q]at hk;exact(dR hk.1).symm
   subst hk';exact⟨Y',.refl,R,AJ k'⟩
theorem aDv(ha:QE X T E l m):QI X T E tg l (λZ=>(m Z).bind ou):=by
 obtain⟨tl,pl,rl⟩:=ha;refine⟨_,aAg pl,λY Z Z' h H R Rh S w=>rl Y Z Z' h H _ Rh S (W.bind w λY1 v v' h1 H1 e1 R1 q1 w1=>?_)⟩;unfold ou at w1;cases v with
 |ref n=>
  cases q1 with
  |@ref _ a q=>
   dsimp only at w1;cases o:h1.ob n with
   |none=>rw[o]at w1;exact w1.elim|some u=>
    rw[o]at w1;cases u with
    |aR kvs=>
     obtain⟨ks,ys,hH,hk,rv⟩:=R1.obj n _ a o q;subst hk;refine⟨a,_,rfl,hH,λob=>?_⟩;have ex:Ext Y1 H1 Y1 (bF H1 a<|.dC ob<|.dK<|(kvs.map (·.1)).zip ys):=⟨λ_ _ z=>z,λb xs z=>by
      rw[bZ (rJ z hH λw=>by cases w)];exact z,λb x u z=>by
      rw[bZ (rJ z hH λw=>by cases w)];exact z⟩
     obtain⟨Rf,ef⟩:=R1.write (o':=.dD kvs) o rfl rfl q hH (λ_ z=>by cases z) (λ_ _ z=>by cases z) ⟨ob,_,ys,gQ,rfl,rv.ext ex⟩;exact w1 Y1 _ _ ef Rf<|aIm gQ (by have:=rv.length;simpa using this.symm)
    |_=>exact w1.elim
 |_=>exact w1.elim
theorem aMu{α β:Type}{Rp:Rl α β}(sb:∀Y H H' a b,vX Y H H'->Rp Y H a b->Rp Y H' a b){r:Res α}{Q:β->Hp->Prop}(R:bP T Y h H)(hn:h.ob n=aA (.aR kvs))
  (w:W T Rp (uk n r) Y H Q E):W T Rp r Y H (λb=>Tw H (Q b)) E:=by
 cases r with
 |ok a h'=>
  intro Y' b H' e R' q;unfold uk at w;dsimp only at w;cases o:h'.ob n with
  |none=>rw[o]at w;exact w.elim|some u=>
   rw[o]at w;cases u with
   |dD kvs'=>
    obtain⟨a0,q0,ks,ys,hH,_,_⟩:=R.at hn;obtain⟨ob,kz,hO,R2⟩:=R'.Nv o (e.pre n a0 q0);refine⟨a0,_,ob,kz,hH,hO,w Y' b _ ⟨e.pre,λc xs z=>?_,λc x u z=>?_⟩ R2 (sb _ _ _ _ _ (Xi hO) q)⟩
    .have:=e.tup c xs z;rw[bZ (λy=>by rw[y,hO]at this;cases this)];exact this
    .have:=e.dC c x u z;rw[bZ (λy=>by rw[y,hH]at z;cases z)];exact this
   |_=>exact w.elim
 |bad=>exact w.elim
def xo(r:Res AV):Option Nat:=match r with
 |.ok (.ref n) _=>aA n
 |_=>aD
def mC{α:Type}(m0:aF->M AV)(ms:aF->M α):aF->M α:=λZ h=>match xo (m0 Z h) with
 |some n=>match h.ob n with
  |some (.aR _)=>uk n (ms Z h)
  |_=>.bad
 |none=>.bad
theorem HH{α β:Type}{Rp:Rl α β}(sb:∀Y H H' a b,vX Y H H'->Rp Y H a b->Rp Y H' a b){ma:aF->M α}{Q:β->Hp->Prop}(R:bP T Y h H)
  (w:W T Rp (mC m0 ma Z h) Y H Q E):W T Rp (ma Z h) Y H (λb=>Tw H (Q b)) E:=by
 unfold mC at w;cases d:xo (m0 Z h) with
 |none=>rw[d]at w;exact w.elim|some n=>
  rw[d]at w;dsimp only at w;cases o:h.ob n with
  |none=>rw[o]at w;exact w.elim|some u=>
   rw[o]at w;cases u with
   |aR kvs=>exact aMu sb R o w|_=>exact w.elim
theorem cV.ext2{Y:Xk}{H H':Hp}{Z:aF}{Z':L2.St}(S:cV T Y H Z Z')(e:vX Y H H'):cV T Y H' Z Z':=
 ⟨S.1,λi v q=>let ⟨v',a,b⟩:=S.2 i v q;⟨v',a,b.ext2 e⟩⟩
theorem aIu{a:Out}{b:jN}(e:vX Y H H')(r:RO T Y H a b):RO T Y H' a b:=by cases a<;>cases b<;>first|exact cV.ext2 r e|exact aW.ext2 e r|exact r
theorem EH(m0:aF->M AV)(hq:QS X T E st ms):QS X T E st (mC m0 ms):=by
 obtain⟨t,p,r⟩:=hq;refine⟨_,aBv p,λY Z Z' h H D R S w=>r Y Z Z' h H _ R S ?_⟩;have k:=HH (Rp:=RO T) (λY H H' a b e q=>aIu e q) R w;have e:(λb=>Tw H (nM D b))=nM (Xa H D):=by funext b;cases b<;>rfl
 rw[e]at k;exact k
theorem DR(m0:aF->M AV)(hq:QE X T E e m):QE X T E e (mC m0 m):=by obtain⟨t,p,r⟩:=hq;exact⟨_,Z7 p,λY Z Z' h H Q R S w=>r Y Z Z' h H _ R S (HH (Rp:=aW T) (λY H H' a b e q=>aW.ext2 e q) R w)⟩
end
inductive Kc where
 |any|srt (b:Bool)|Ae
 |sd
def wH:Hd->Option (List Bool)
 |[]=>aA []
 |.bl b::r=>(wH r).map (b::·)
 |_=>aD
def pC:Hd->Option (List Int)
 |[]=>aA []
 |.int b::r=>(pC r).map (b::·)
 |_=>aD
theorem Vi:∀bs:YL,wH (bs.map AV.bl)=aA bs
 |[]=>rfl|b::bs=>by simp[wH,Vi bs]
theorem zj:∀bs:Xj,pC (bs.map AV.int)=aA bs
 |[]=>rfl|b::bs=>by simp[pC,zj bs]
def Kc.gl:Kc->Hd->M AV
 |.any,xs=>λh=>match wH xs with
  |some bs=>.ok (.bl<|bs.any id) h
  |none=>.bad
 |.srt b,xs=>λh=>match pC xs with
  |some ns=>if ns.length<64 then kD ((jW b ns).map AV.int) h else .bad
  |none=>.bad
 |.Ae,xs=>λh=>match pC xs with
  |some ns=>.ok (if ns.isEmpty then .aH else .int (sR ns)) h
  |none=>.bad
 |.sd,xs=>λh=>match pC xs with
  |some ns=>if ns.length<64 then kD ((jW aG ns).map AV.int) h else .bad
  |none=>.bad
def gk:List aP->Option (List Int)
 |[]=>aA []
 |.inl i::r=>(gk r).map (i::·)
 |_=>aD
theorem Zv:∀{ks:List aP}{ns:Xj},gk ks=aA ns->ks=ns.map nR
 |[],ns,e=>by cases e;rfl
 |.inl i::r,ns,e=>by
  simp only[gk]at e;cases q:gk r with
  |none=>rw[q]at e;cases e|some bs=>rw[q]at e;cases e;rw[Zv q];rfl
 |.inr _::_,_,e=>by cases e
def Kc.gd:Kc->List (aP×AV)->M AV
 |.sd,kvs=>λh=>match gk (kvs.map (·.1)) with
  |some ns=>if ns.length<64 then kD ((jW aG ns).map AV.int) h else .bad
  |none=>.bad
 |_,_=>M.bad
def Kc.g(k:Kc)(x:AV):M AV:=λh=>match x with
 |.ref n=>match h.ob n with
  |some (.lst _ xs)=>k.gl xs h
  |some (.aR kvs)=>k.gd kvs h
  |_=>.bad
 |_=>.bad
section
variable {a:aK}
theorem Vh{Y:Xk}{H:Hp}:∀{xs:Hd}{ys:Hg}{bs:YL},bE T Y H xs ys->wH xs=aA bs->ys=bs.map V.bl
 |_,_,_,.nil,e=>by cases e;rfl
 |_,_,_,.cons (xs:=xs) h t,e=>by
  cases h with
  |bl b=>
   simp only[wH]at e;cases q:wH xs with
   |none=>rw[q]at e;cases e|some bs=>rw[q]at e;cases e;rw[Vh t q];rfl
  |_=>cases e
theorem zi{Y:Xk}{H:Hp}:∀{xs:Hd}{ys:Hg}{bs:Xj},bE T Y H xs ys->pC xs=aA bs->ys=bs.map V.int
 |_,_,_,.nil,e=>by cases e;rfl
 |_,_,_,.cons (xs:=xs) h t,e=>by
  cases h with
  |int b=>
   simp only[pC]at e;cases q:pC xs with
   |none=>rw[q]at e;cases e|some bs=>rw[q]at e;cases e;rw[zi t q];rfl
  |_=>cases e
theorem Jb(hK:X.K=T.K){k:Kc}
  (hgd:k.gd=λ_=>M.bad)(R:bP T Y h H)(r:aW T Y H x x')(w:W T (aW T) (k.g x h) Y H Q E) :
  ∃(l:Addr) (xs:Hd) (ys:Hg),x' = .ref l/\dH X.K H l ys/\bE T Y H xs ys/\W T (aW T) (k.gl xs h) Y H Q E:=by
 unfold Kc.g at w;cases x with
 |ref n=>
  cases r with
  |@ref _ l q=>
   dsimp only at w;cases o:h.ob n with
   |none=>rw[o]at w;exact w.elim|some u=>
    rw[o]at w;cases u with
    |lst b xs=>obtain⟨ys,h1,h2⟩:=pD R o q;exact⟨l,xs,ys,rfl,hK▸h1,h2,w⟩
    |aR kvs=>dsimp only at w;rw[hgd]at w;exact w.elim|_=>exact w.elim
 |_=>exact w.elim
theorem aCp(hK:X.K=T.K) (hc:X.calm=aB) (hg:Gl X "any") (hm:X.mg "any"=aD) (ha:QE X T E a m) (hs:bW a=aB):QE X T E (.Call (.Name "any" p) [a] [] pos) (λZ=>(m Z).bind (Kc.any.g)):=by
 obtain⟨ta,pa,ra⟩:=ha;refine⟨_,Ap (VD hc) hg hm (by decide +kernel) (xA pa ae<|fF hs) (by decide) (rfl) (fF hs) rfl,λY Z Z' h H Q R S w=>?_⟩;refine ra Y Z Z' h H _ R S<|W.bind w λY1 x x' h1 H1 e1 R1 q1 w1=>?_;obtain⟨l,xs,ys,rfl,hq,hr,w2⟩:=Jb hK rfl R1 q1 w1;simp only[Kc.gl]at w2;cases q:wH xs with
 |none=>rw[q]at w2;exact w2.elim|some bs=>rw[q]at w2;have e:=Vh hr q;subst e;exact⟨l,bs,rfl,hq,w2.here R1 (.bl _)⟩
theorem aDq(hK:X.K=T.K){k:Nat}{kp:Pos}(hg:Gl X "sorted")(hm:X.mg "sorted"=aD)(ha:QE X T E a m)(hs:bW a=aB) :
  QE X T E (.Call (.Name "sorted" p) [a] [⟨aA "reverse",.Constant (.bool b) k kq,kp⟩] pos) (λZ=>(m Z).bind ((Kc.srt b).g)):=by
 obtain⟨ta,pa,ra⟩:=ha;refine⟨_,CZ (r:=λv H Q=>∃l ns,v = .ref l/\dH X.K H l (ns.map V.int)/\ns.length<64/\∀D,H D=aD->Q (.ref D) (bF H D<|.lst<|(jW b ns).map V.int)) ?_ hg hm boot_sorted pa Kr (fF hs) (by decide) (rfl),λY Z Z' h H Q R S w=>?_⟩
 .intro pins s Z H v u zu Q I rv rz ⟨l,ns,ev,hq,hn,q⟩;subst ev;cases rv;have rz':zu=yA b:=rz;subst rz';exact VT b I hq hn q
 refine ra Y Z Z' h H _ R S<|W.bind w λY1 x x' h1 H1 e1 R1 q1 w1=>?_;obtain⟨l,xs,ys,rfl,hq,hr,w2⟩:=Jb hK rfl R1 q1 w1;simp only[Kc.gl]at w2;cases q:pC xs with
 |none=>rw[q]at w2;exact w2.elim|some ns=>
  rw[q]at w2;dsimp only at w2;have e:=zi hr q;subst e;by_cases hn:ns.length<64
  .rw[if_pos hn]at w2;exact⟨l,ns,rfl,hq,hn,λD hD=>uR R1 (bE.ints _) hD w2⟩
  .rw[if_neg hn]at w2;exact w2.elim
theorem aDj(hK:X.K=T.K)(hc:X.calm=aB){k:Nat}{kp:Pos}(hg:Gl X "min")(hm:X.mg "min"=aD)(ha:QE X T E a m)(hs:bW a=aB) :
  QE X T E (.Call (.Name "min" p) [a] [⟨aA "default",.Constant .none k kq,kp⟩] pos) (λZ=>(m Z).bind (Kc.Ae.g)):=by
 obtain⟨ta,pa,ra⟩:=ha;refine⟨_,CZ (r:=λv H Q=>∃l ns,v = .ref l/\dH X.K H l (ns.map V.int)/\Q (if ns.isEmpty then .aH else .int (sR ns)) H) ?_ hg hm (show mW "min"=aA (.builtin "min") from by decide +kernel) pa Ks (fF hs) (by decide) (rfl),λY Z Z' h H Q R S w=>?_⟩
 .intro pins s Z H v u zu Q I rv rz ⟨l,ns,ev,hq,q⟩;subst ev;cases rv;cases ns with
  |nil=>exact VQ hc I hq rz q|cons n r=>exact VR hc I hq (by intro z;cases z) q
 refine ra Y Z Z' h H _ R S<|W.bind w λY1 x x' h1 H1 e1 R1 q1 w1=>?_;obtain⟨l,xs,ys,rfl,hq,hr,w2⟩:=Jb hK rfl R1 q1 w1;simp only[Kc.gl]at w2;cases q:pC xs with
 |none=>rw[q]at w2;exact w2.elim|some ns=>
  rw[q]at w2;have e:=zi hr q;subst e;refine⟨l,ns,rfl,hq,?_⟩;cases ns with
  |nil=>exact W.here w2 R1 .aH|cons n r=>exact W.here w2 R1<|.int _
theorem aDo(hK:X.K=T.K) (hc:X.calm=aB) (hg:Gl X "sorted") (hm:X.mg "sorted"=aD) (ha:QE X T E a m) (hs:bW a=aB):QE X T E (.Call (.Name "sorted" p) [a] [] pos) (λZ=>(m Z).bind (Kc.sd.g)):=by
 obtain⟨ta,pa,ra⟩:=ha;refine⟨_,Ap (iM.or (VS hc)
  VU
  ) hg hm boot_sorted (xA pa ae<|fF hs) (by decide) (rfl) (fF hs) rfl,λY Z Z' h H Q R S w=>?_⟩
 refine ra Y Z Z' h H _ R S<|W.bind w λY1 x x' h1 H1 e1 R1 q1 w1=>?_;unfold Kc.g at w1;cases x with
 |ref n=>
  cases q1 with
  |@ref _ a q=>
   dsimp only at w1;cases o:h1.ob n with
   |none=>rw[o]at w1;exact w1.elim|some u=>
    rw[o]at w1;cases u with
    |lst b xs=>
     obtain⟨ys,g1,g2⟩:=pD R1 o q;simp only[Kc.gl]at w1;cases qi:pC xs with
     |none=>rw[qi]at w1;exact w1.elim|some ns=>
      rw[qi]at w1;dsimp only at w1;have e:=zi g2 qi;subst e;by_cases hn:ns.length<64
      .rw[if_pos hn]at w1;exact .inr ⟨a,ns,rfl,hK▸g1,hn,λD hD=>uR R1 (bE.ints _) hD w1⟩
      .rw[if_neg hn]at w1;exact w1.elim
    |aR kvs=>
     simp only[Kc.gd]at w1;obtain⟨ks,ys,hH,hk,rv⟩:=R1.obj n _ a o q;subst hk;cases qi:gk (kvs.map (·.1)) with
     |none=>rw[qi]at w1;exact w1.elim|some ns=>
      rw[qi]at w1;dsimp only at w1;by_cases hn:ns.length<64
      .rw[if_pos hn]at w1;refine .inl ⟨a,_,ns,rfl,hH,?_,hn,λD hD=>uR R1 (bE.ints _) hD w1⟩;rw[List.map_fst_zip (by have:=rv.length;simp at this ⊢;omega)];exact Zv qi
      .rw[if_neg hn]at w1;exact w1.elim
    |_=>exact w1.elim
 |_=>exact w1.elim
end
inductive BT where
 |aH|bl|int|str|tup|lst|aR
 deriving DecidableEq
def BT.nm:BT->String
 |.aH=>"NoneType" |.bl=>"bool" |.int=>"int" |.str=>"str" |.tup=>"tuple" |.lst=>"list" |.aR=>"dict"
def BT.sub(s t:BT):Bool:=decide (s=t)||(decide (s = .bl)&&decide (t = .int))
theorem zX{K:bI}(s t:BT):Rn K (.type s.nm) (.type t.nm)=aA (s.sub t):=by cases s<;>cases t<;>first|rfl|(with_unfolding_all rfl)|decide +kernel
inductive tR(K:bI)(H:Hp):V->BT->Prop where
 |aH:tR K H .aH .aH
 |bl (x:Bool):tR K H (.bl x) .bl
 |int (i:Int):tR K H (.int i) .int
 |str (x:Str):tR K H (.str x) .str
 |lst {a:Addr}{xs:Hg} (e:dH K H a xs):tR K H (.ref a) .lst
 |tup {a:Addr}{xs:Hg} (e:eD K H a xs):tR K H (.ref a) .tup
 |aR {a:Addr}{kvs:List (aP×V)} (e:H a=aA (.dK kvs)):tR K H (.ref a) .aR
def tT(h:AH):AV->Option BT
 |.aH=>aA .aH
 |.bl _=>aA .bl
 |.int _=>aA .int
 |.str _=>aA .str
 |.tup _=>aA .tup
 |.ref n=>match h.ob n with
  |some (.lst _ _)=>aA .lst
  |some (.aR _)=>aA .aR
  |_=>aD
 |_=>aD
def zM(t:BT)(x:AV):M AV:=λh=>match tT h x with
 |some s=>.ok (.bl<|s.sub t) h
 |none=>.bad
section
variable {a b l o:aK}
theorem VI(t:BT):iM X (.builtin "isinstance") (λxs H Q=>∃x s,xs=[x,.ty t.nm]/\tR X.K H x s/\Q (.bl<|s.sub t) H):=by
 intro pins st Z H xs us Q I r h;obtain⟨x,s,rfl,ty,q⟩:=h;obtain⟨u,g,rfl,b,d⟩:=xJ r;obtain rfl:g=Sb t.nm:=d;have fin:∀tk,EP X pins Z Q (.bool<|s.sub t) { st with toks:=tk }:=λtk=>⟨.bl _,H,I.tok tk,rfl,q⟩;cases ty with
 |aH=>cases b;exact cj W.kitx_none I.fM oS (zX .aH t) (nofun) fin|bl y=>cases b;exact cj W.kitx_bool I.fM oS (zX .bl t) (nofun) fin|int i=>obtain⟨tk,rfl⟩:=b;exact cj W.kitx_int I.fM oS (zX .int t) (nofun) fin|str y=>obtain⟨tk,rfl⟩:=b;exact cj W.kitx_str I.fM oS (zX .str t) (nofun) fin|lst e=>cases b;obtain⟨_,_,⟨ob,n,h1,c,_⟩,_⟩:=I.list e;exact cj W.kitx_list I.fM ⟨ob,h1,c⟩ (zX .lst t) (nofun) fin
 |tup e=>cases b;obtain⟨_,_,⟨ob,h1,c,_⟩,_⟩:=I.tuple e;exact cj W.kitx_tuple I.fM ⟨ob,h1,c⟩ (zX .tup t) (nofun) fin
 |@aR a f e=>cases b;obtain⟨_,_,j,_,ob,k,l,h1,c,_⟩:=(show hV X.prog X.w H st.heap a (.dK f) from I.bA a _ e);exact cj W.kitx_dict I.fM ⟨ob,h1,c.1⟩ (zX .aR t) (nofun) fin
theorem UX(hK:X.K=T.K){s:BT}(R:bP T Y h H)(r:aW T Y H x x')(e:tT h x=aA s):tR X.K H x' s:=by
 cases r with
 |aH=>cases e;exact .aH|bl b=>cases e;exact .bl b|int i=>cases e;exact .int i|str y=>cases e;exact .str y|tup c hr=>cases e;exact .tup<|hK▸c|@ref n a q=>
  simp only[tT]at e;cases o:h.ob n with
  |none=>rw[o]at e;cases e|some u=>
   rw[o]at e;cases u with
   |lst m xs=>cases e;obtain⟨d,h1,_⟩:=pD R o q;exact .lst<|hK▸h1
   |aR f=>cases e;obtain⟨g,d,h1,_⟩:=R.obj n _ a o q;exact .aR h1
   |dD _=>cases e|ins _ _=>cases e
 |lI q=>cases e
theorem aDc(hK:X.K=T.K){y:Str}(t:BT)(hg:Gl X "isinstance")(hm:X.mg "isinstance"=aD)(hg2:Gl X y)(hm2:X.mg y=aD)(hv2:mW y=aA (.type t.nm))(hn2:y≠"__name__")(hd2:(y==("__debug__":Str))=aG)
  (ha:QE X T E a m)(hs:bW a=aB):QE X T E (.Call (.Name "isinstance" p) [a,.Name y p2] [] pos) (λZ=>(m Z).bind (zM t)):=by
 obtain⟨k,pa,e⟩:=ha;refine⟨_,Ap (VI t) hg hm boot_isinstance (xA pa (xA (X4 (v:=.ty t.nm) hg2 hm2 hv2 rfl hn2 hd2) ae)<|fF hs) (by decide) (rfl) (fF hs) rfl,λf Z c h H Q R S w=>?_⟩;refine e f Z c h H _ R S<|W.bind w λg x i h1 H1 l d j b=>?_;unfold zM at b;cases o:tT h1 x with
 |none=>rw[o]at b;cases b|some s=>rw[o]at b;exact⟨i,s,rfl,UX hK d j o,b.here d (.bl _)⟩
def uF(x v:AV):M AV:=λh=>match x with
 |.ref n=>match h.ob n with
  |some (.lst aB xs)=>if xs.length<sizeLine then .ok .aH (h.put n<|.lst aB<|xs++[v]) else .bad
  |_=>.bad
 |_=>.bad
def zU(h:AH):AV->Bool
 |.ref n=>match h.ob n with
  |some (.lst _ _)=>aB
  |_=>aG
 |_=>aG
def Fd(a b:M AV):M AV:=a.bind λx h=>if zU h x=aB then(b.bind λy=>uF x y) h else .bad
theorem rf{α β:Type} [BEq α] [LawfulBEq α]:∀{l:List (α×β)}{x:α}{v:β},l.lookup x=aA v->(x,v)∈l
 |[],_,_,h=>by cases h
 | (k,u)::r,x,v,h=>by
  rw[jB]at h;cases hb:(x==k) with
  |true=>simp only[hb]at h;rw[eq_of_beq hb,dR h];exact fV ..
  |false=>simp only[hb]at h;exact jD _<|rf h
def kB:aK->Bool
 |.Name ..=>aB | .Attribute ..=>aB | .Subscript ..=>aB
 |.Call (.Attribute ..) _ _ _=>aB
 |.Call (.Name ..) (_::_) _ _=>aB
 |_=>aG
theorem wG{o:aK}{f:Str}{whole:Sem Value}(h:kB o=aB):lh o f env whole=whole:=by
 cases o with
 |Name=>rfl|Attribute=>rfl|Subscript=>rfl|Call g a b p=>
  cases g with
  |Attribute=>rfl|Name=>
   cases a with
   |nil=>cases h|cons=>rfl
  |_=>cases h
 |_=>cases h
theorem js{p:Addr}(g1:H p=aA O)(nt:∀xs,O ≠ .tup xs)(nf:∀x u,O ≠ .dC x u):Ext Y H Y (bF H p O'):=⟨λ_ _ z=>z,λb xs z=>by
 rw[bZ (rJ z g1 λw=>nt xs w.symm)];exact z,λb x u z=>by
 rw[bZ (rJ z g1 λw=>nf x u w.symm)];exact z⟩
theorem aCq(hK:X.K=T.K)(ho:QE X T E o ma)(ha:QE X T E a mb)(hb:kB o=aB)(hs:bW a=aB)(hl:(apos.endLine==pos.line)=aB) :
  QE X T E (.Call (.Attribute o "append" apos) [a] [] pos) (λZ=>Fd (ma Z) (mb Z)):=by
 obtain⟨M,pa,B⟩:=ho;obtain⟨tb,C,D⟩:=ha;refine⟨_,CY MN aTb aTd M5 pa (xA C ae<|fF hs) (wG hb) (by rw[fF hs];rfl) hl (fF hs) rfl,λF Z k h H Q R S w=>?_⟩;refine B F Z k h H _ R S<|W.bind w λg x N h1 H1 G t I J=>?_;have e:=J;by_cases d:zU h1 x=aB
 case neg=>rw[if_neg d]at e;cases e
 rw[if_pos d]at e;cases x with
 |ref n=>
  cases I with
  |@ref _ p q=>
   have fin:∀b y i j f,Ext g H1 b f->bP T b j f->aW T b f y i->W T (aW T) (uF (.ref n) y j) b f Q E->ES (.ref p) [i] f Q:=λb y i j f l R2 m c=>by
    have v:=l.pre n p q;simp only[uF]at c;cases ob:j.ob n with
    |none=>rw[ob]at c;cases c|some u=>
     rw[ob]at c;cases u with
     |lst mu xs=>
      cases mu with
      |true=>
       obtain⟨r,g1,A⟩:=R2.obj n _ p ob v;by_cases s:xs.length<sizeLine
       .simp only[if_pos s]at c;obtain⟨K,L⟩:=R2.write (o':=.lst aB (xs++[y])) ob rfl rfl v g1 (nofun) (λ_ _ z=>by cases z)
         ⟨_,gQ,(A.append<|.cons m .nil).ext (js g1 (nofun) (λ_ _ z=>by cases z))⟩
        exact⟨p,r,i,rfl,rfl,g1,A.length▸s,W.ok c L K .aH⟩
       .simp only[if_neg s]at c;cases c
      |false=>cases c
     |aR _=>cases c|dD _=>cases c|ins _ _=>cases c
   refine⟨.inl ⟨rfl,?_⟩,D g Z k h1 H1 _ t (S.ext G) (W.bind e λb y i j f l R2 m c=>fin b y i j f l R2 m c)⟩;simp only[zU]at d;cases ob:h1.ob n with
   |none=>rw[ob]at d;cases d|some u=>
    cases u with
    |lst mu xs=>obtain⟨r,g1,_⟩:=pD t ob q;exact⟨r,hK▸g1⟩
    |aR _=>rw[ob]at d;cases d|dD _=>rw[ob]at d;cases d|ins _ _=>rw[ob]at d;cases d
 |_=>cases d
def mx(P:cC)(w:bV)(K:bI)(a:Addr)(kvs:Xu):Prop:=∀h:bH,K.In h->StrTab P w h a (kvs.map λp=>(Qx p.1,rV p.2))
theorem K1(x:Str)(kvs:Xu):MR (.str x) (kvs.map λp=>(Qx p.1,rV p.2))=(kvs.lookup x).map rV:=by
 induction kvs with
 |nil=>rfl|cons p r a=>
  obtain⟨k,v⟩:=p;rw[jB];show(if(k==x)=aB then aA (rV v) else MR (.str x) (r.map λp=>(Qx p.1,rV p.2)))=_;by_cases h:k=x
  .subst h;simp
  .have h1:=beq_eq_false_iff_ne.mpr h;have b:=beq_eq_false_iff_ne.mpr (mK h);rw[h1,b,if_neg gR,a]
def getOf(kvs:Xu)(x:Str)(z:Int):Int:=(kvs.lookup x).getD z
def aLn(X:Cx)(to:TE)(t:TA):TE:=λZ H Q=>to Z H λx H1=>∃a kvs,x = .ref a/\mx X.prog X.w X.K a kvs/\t Z H1 λvs H2=>∃s z,vs=[.str s,.int z]/\Q (.int<|getOf kvs s z) H2
theorem Y4{to:TE}{t:TA}(ho:PE X o to)(ha:PA X [a,b] t)(hb:kB o=aB)(hs:bW a=aB)(hs2:bW b=aB)(hl:(apos.endLine==pos.line)=aB):PE X (.Call (.Attribute o "get" apos) [a,b] [] pos) (aLn X to t):=by
 intro pins s Z H Q I h;refine NN (wG hb) (by rw[fF hs,fF hs2];rfl) hl rfl<|bB (ho pins s Z H _ I h) λv s1 j=>?_;obtain⟨x,H1,l,u,p,c,e,tab,w⟩:=j;subst e;cases u;obtain⟨hn,C,⟨ob,D,E,g1,g2,_⟩,_⟩:=id (tab _ l.fM);refine⟨"dict","dict.get",MM,ku,MQ,⟨ob,g1,g2.1⟩,λF y=>?_,?_⟩
 .cases y;exact⟨ob,g1,g2.2.1⟩
 .have m:=ha pos pins s1 Z H1 _ l w;rw[fF hs]at m ⊢;refine Pk (by show(aG||(lR pos<|eI [b] X.env).any (·.1))=aG;rw[fF hs2]<;>rfl)<|JF ?_;refine bB m λus s2 j=>?_;obtain⟨G,n,g,A,q,z,B,f⟩:=j;subst B;obtain⟨J,K,rfl,⟨t1,rfl⟩,⟨r,rfl⟩⟩:=xJ A;have i:=K1 q c;unfold getOf at f;cases lk:c.lookup q with
  |some d=>
   rw[lk]at i f;exact W.kt_get2_thereS (tab _ g.fM) i (MD z r) λv k=>by obtain⟨t3,rfl⟩:=k.int_inv;exact⟨.int d,n,g.tok _,⟨_,rfl⟩,f⟩
  |none=>
   rw[lk]at i f;exact W.kt_get2_noneS (tab _ g.fM) i (MD z r) λv k=>by obtain⟨t3,rfl⟩:=k.int_inv;exact⟨.int z,n,g.tok _,⟨_,rfl⟩,f⟩
def HE:AV->Option (List<|Str×Int)
 |.lI kvs=>aA kvs
 |_=>aD
def je:Hd->Option (Str×Int)
 |[.str s,.int z]=>aA (s,z)
 |_=>aD
theorem aKr{s:Str}{z:Int}(h:je xs=aA (s,z)):xs=[.str s,.int z]:=by
 unfold je at h;split at h
 .cases h;rfl
 .cases h
def Hx(o:M AV)(r:M Hd):M AV:=o.bind λx h=>match HE x with
 |some kvs=>(r.bind λxs h2=>match je xs with
  |some (s,z)=>.ok (.int<|getOf kvs s z) h2
  |none=>.bad) h
 |none=>.bad
theorem aDa(hT:∀kvs a,T.G kvs a->mx X.prog X.w X.K a kvs)(ho:QE X T E o ma)(ha:QA X T E [a,b] mr)(hb:kB o=aB)(hs:bW a=aB)(hs2:bW b=aB)(hl:(apos.endLine==pos.line)=aB) :
  QE X T E (.Call (.Attribute o "get" apos) [a,b] [] pos) (λZ=>Hx (ma Z) (mr Z)):=by
 obtain⟨G,pa,m⟩:=ho;obtain⟨I,pr,n⟩:=ha;refine⟨_,Y4 pa pr hb hs hs2 hl,λq Z c h H Q R S w=>m q Z c h H _ R S (W.bind w λd x J h1 H1 r t u v=>?_)⟩;have k:W T (aW T) (match HE x with
  |some kvs=>((mr Z).bind λxs f=>match je xs with
   |some (s,z)=>.ok (.int<|getOf kvs s z) f
   |none=>.bad) h1
  |none=>Res.bad) d H1 Q E:=v
 cases x with
 |lI kvs=>
  cases u with
  |@lI _ p e=>
   refine⟨p,kvs,rfl,hT kvs p e,n d Z c h1 H1 _ t (S.ext r) (W.bind k λg xs y f A K R2 B C=>?_)⟩;have i:W T (aW T) (match je xs with
    |some (s,z)=>.ok (.int<|getOf kvs s z) f
    |none=>Res.bad) g A Q E:=C
   cases l:je xs with
   |none=>rw[l]at i;cases i|some p=>
    obtain⟨s,z⟩:=p;have ex:=aKr l;subst ex;cases B with
    |cons D rs=>
     cases D;cases rs with
     |cons F j=>cases F;cases j;exact⟨s,z,rfl,W.here i R2 (.int _)⟩
 |_=>exact k.elim
end
section
variable {o v:aK}{f:Str}{pos':Pos}
theorem Hm{v:AV}:∀{fs:Xs}{ys:Hg},bE T Y H (fs.map (·.2)) ys->fs.lookup f=aA v->∃y,((fs.map (·.1)).zip ys).lookup f=aA y/\aW T Y H v y
 |[],_,_,l=>by cases l
 | (k,x)::fs,_,.cons h hs,l=>by
  rw[jB]at l;rw[jC,Dq,jB];cases hb:(f==k) with
  |true=>simp only[hb]at l ⊢;cases l;exact⟨_,rfl,h⟩
  |false=>simp only[hb]at l ⊢;exact Hm hs l
def uG(cs:Xp)(f:Str)(x:AV):M AV:=λh=>match x with
 |.ref n=>match h.ob n with
  |some (.ins c fs)=>if cs.contains c=aB then match fs.lookup f with
   |some v=>.ok v h
   |none=>.bad
   else .bad
  |_=>.bad
 |_=>.bad
def dw(K:bI)(T:Tab)(cs:Xp)(f:Str):Prop:=∀c C,cs.contains c=aB->T.C c=aA C->mX K C/\wB K C f
theorem aCz{cs:Xp}(hC:dw X.K T cs f)(ho:QE X T E o ma)(hb:kB o=aB):QE X T E (.Attribute o f pos) (λZ=>(ma Z).bind (uG cs f)):=by
 obtain⟨B,pa,e⟩:=ho;refine⟨_,Y3 pa (wG hb),λi Z b h H Q R S w=>e i Z b h H _ R S (W.bind w λj x D h1 H1 F d k a=>?_)⟩;cases x with
 |ref n=>
  cases k with
  |@ref _ p q=>
   simp only[uG]at a;cases ob:h1.ob n with
   |none=>rw[ob]at a;cases a|some u=>
    rw[ob]at a;cases u with
    |ins c fs=>
     obtain⟨C,m,G,I,s,g,rfl,r⟩:=d.obj n _ p ob q;by_cases hm:cs.contains c=aB
     case neg=>simp only[if_neg hm]at a;cases a
     simp only[if_pos hm]at a;cases l:fs.lookup f with
     |none=>rw[l]at a;cases a|some v=>rw[l]at a;obtain⟨y,t,z⟩:=Hm r l;obtain⟨h1,A⟩:=hC c C hm s;exact⟨p,C,m,_,y,rfl,g,h1,A,t,W.here a d z⟩
    |_=>cases a
 |_=>cases a
def gG(f:Str)(v:AV):Xs->Xs
 |[]=>[(f,v)]
 | (g,x)::r=>if g=f then(g,v)::r else(g,x)::gG f v r
theorem Kw{v:AV}{y:V}(rv:aW T Y H v y):∀{fs:Xs}{ys:Hg},bE T Y H (fs.map (·.2)) ys->∃ys',jU f y ((fs.map (·.1)).zip ys)=((gG f v fs).map (·.1)).zip ys'/\bE T Y H ((gG f v fs).map (·.2)) ys'
 |[],_,.nil=>⟨[y],rfl,.cons rv .nil⟩
 | (k,x)::fs,_,.cons (y:=z) (ys:=zs) h hs=>by
  obtain⟨ys',e,r⟩:=Kw rv hs;by_cases a:k=f
  .refine⟨y::zs,?_,?_⟩
   .simp only[gG,if_pos a,jC,Dq,jU]
   .simp only[gG,if_pos a];exact .cons rv hs
  .refine⟨z::ys',?_,?_⟩
   .simp only[gG,if_neg a,jC,Dq,jU,e]
   .simp only[gG,if_neg a];exact .cons h r
def tw(cs:Xp)(f:Str)(x v:AV)(h:AH):Option AH:=match x with
 |.ref n=>match h.ob n with
  |some (.ins c fs)=>if cs.contains c=aB/\fs.length<1000 then aA (h.put n<|.ins c<|gG f v fs) else aD
  |_=>aD
 |_=>aD
def Yg(cs:Xp)(f:Str)(a b:M AV)(Z:aF):M Out:=b.bind λv=>a.bind λx h=>match tw cs f x v h with
 |some h'=>.ok (.nx Z) h'
 |none=>.bad
theorem aGy{cs:Xp}(hC:dw X.K T cs f)(ho:QE X T E o ma)(hv:QE X T E v mb)(hs:vW v (aA<|.Attribute o f pos') pos.line X.env=pure aG) :
  QS X T E (.Assign [.Attribute o f pos'] v pos) (λZ=>Yg cs f (ma Z) (mb Z) Z):=by
 obtain⟨YT,pa,B⟩:=ho;obtain⟨tb,F,G⟩:=hv;refine⟨_,aBl pa F hs,λY Z d h H D R S w=>G Y Z d h H _ R S (W.bind w λj y y' h1 H1 l I J K=>B j Z d h1 H1 _ I (S.ext l) (W.bind K λe x x' m L s R2 M N=>?_))⟩;have a:W T (RO T) (match tw cs f x y m with
  |some O=>.ok (.nx Z) O
  |none=>.bad) e L (nM D) E:=N
 cases x with
 |ref n=>
  cases M with
  |@ref _ p q=>
   simp only[tw]at a;cases ob:m.ob n with
   |none=>simp only[ob]at a;cases a|some u=>
    simp only[ob]at a;cases u with
    |ins c fs=>
     obtain⟨C,k,ks,ys,t,g,rfl,r⟩:=R2.obj n _ p ob q;by_cases hm:cs.contains c=aB/\fs.length<1000
     case neg=>simp only[if_neg hm]at a;exact a.elim
     simp only[if_pos hm]at a;obtain⟨P,Q⟩:=hC c C hm.1 t;obtain⟨i,U,V⟩:=Kw (f:=f) (J.ext s) r;have ex:=js (Y:=e) (O':=.ins C k (((gG f y fs).map (·.1)).zip i)) g (λ_ z=>by cases z) (λ_ _ z=>by cases z);obtain⟨YX,A⟩:=R2.write (o':=.ins c (gG f y fs)) ob rfl rfl q g (λ_ z=>by cases z) (λ_ _ z=>by cases z)
      ⟨C,k,_,i,t,gQ,rfl,V.ext ex⟩
     refine⟨p,C,k,_,rfl,g,P,Q,?_,?_⟩
     .rw[KY,aU];lia
     .rw[U];exact W.ok (b:=jN.nx d) a A YX<|(S.ext l).ext (s.trans A)
    |_=>cases a
 |_=>exact a.elim
inductive vZ(X:Cx)(T:Tab)(EE:L2.St->XK)(C:Addr)(m:Str)(g:Hd->M AV):Prop
 |mk (k:Nat) (f:Addr) (fd:eW) (ps:Xo) (_:iN X.prog X.w X.K X.mg X.base (kP X.prog X.w) k f fd ps (tE T g)) (_:fK k X.A) (_:mX X.K C) (_:wc X.K C m f) (_:Binds X.K fd ps []) (_:Tv (kP X.prog X.w) X EE):vZ X T EE C m g
def GY(X:Cx)(T:Tab)(m:Str)(EE:L2.St->XK)(ta:TE)(t:TA):TE:=λZ H Q=>ta Z H λx H1=>∃(a C dx:Addr) (fs:Xw) (g:Hd->M AV),x = .ref a/\H1 a=aA (.ins C dx fs)/\fs.lookup m=aD/\vZ X T EE C m g /\
 t Z H1 λvs H2=>tE T g (x::vs) H2 Q (EE Z)
variable {EE:L2.St->XK}
variable {m:Str}{t:TA}
theorem Gf{Xe:Value->aI->Prop}{Q:Value->aI->Prop}(h0:lh o m env (eval o env)=eval o env)
  (h1:Sq (args.length+([]:List tG).length) (lR pos<|eI args env) (yC pos<|yE [] env)=aB)(h2:(apos.endLine==pos.line)=aB)
  (h:aS (aZ X.prog X.w) A (eval o env) (λov s1=>∀pl,aS (aZ X.prog X.w) A (Sk ov m pl) (λfx s2=>aS (aZ X.prog X.w) A (callWith pos fx.1 fx.2 (lR pos<|eI args env)<|yC pos<|yE [] env) Q Xe s2) Xe s1) Xe s) :
  aS (aZ X.prog X.w) A (eval (.Call (.Attribute o m apos) args [] pos) env) Q Xe s:=by
 have a:NJ aB o env apos pos=pure pos:=by unfold NJ;simp[h2]
 rw[arm_eval_Call,h0];refine aM<|bB h λov s1 z=>aM (mf ?_);unfold methodCall;rw[h1];exact aM<|oT<|bB (z _) λfx s2 y=>aM (Td a y)
theorem Ho(hs:args.all bW=aB)(hn:args.length<30):Sq (args.length+([]:List tG).length) (lR pos<|eI args env) (yC pos<|yE [] env)=aB:=by unfold Sq;rw[<- LG,tD hs];simpa[yE,yC]using hn
theorem Z0(he:PE X o ta)(ha:PA X (e::es) t)(hb:kB o=aB)(hs:(e::es).all bW=aB)(hn:(e::es).length<30)(hl:(apos.endLine==pos.line)=aB):PE X (.Call (.Attribute o m apos) (e::es) [] pos) (GY X T m EE ta t):=by
 intro pins s Z H Q I h;have b:=hs;rw[jY,bS]at hs;refine Gf (wG hb) ?_ hl<|bB (he pins s Z H _ I h) λu s1 ⟨x,H1,i,n,a,C,y,fs,g,ex,p,l,F,q⟩ pl=>?_
 .exact Ho b hn
 subst ex;obtain rfl:u=lB a:=n;obtain⟨k,f,fd,ps,F,hr,c,hm,d,v⟩:=F;refine Zh i p c hm l ?_;refine Dz I.ok.mod.gq hm.kp (bB (ha pos pins s1 Z H1 _ i q) λus s2 ⟨vs,z,j,r,w⟩=>⟨j.fM,?_⟩) (fF hs.1)<|tD hs.2;exact FT (vs:=.ref a::vs) F hr d v j (.cons rfl r) w
theorem Z1(he:PE X o ta)(hb:kB o=aB)(hl:(apos.endLine==pos.line)=aB):PE X (.Call (.Attribute o m apos) [] [] pos) (GY X T m EE ta jf):=by intro pins s Z H Q I h;refine Gf (wG hb) (Ho rfl (by decide)) hl<|bB (he pins s Z H _ I h) λu s1 ⟨x,H1,b,e,a,C,n,fs,g,ex,i,l,F,q⟩ pl=>?_;subst ex;obtain rfl:u=lB a:=e;obtain⟨k,f,fd,ps,F,hr,c,hm,d,j⟩:=F;refine Zh b i c hm l ?_;exact Rj b.fM hm.kp<|FT (vs:=[.ref a]) F hr d j b (.cons rfl .nil) q
def rn(dp:Nat->Option (Hd->M AV))(m:Str)(r:M Hd)(x:AV):M AV:=λh=>match x with
 |.ref n=>match h.ob n with
  |some (.ins c fs)=>match dp c,fs.lookup m with
   |some g,aD=>(r.bind λxs=>g (.ref n::xs)) h
   |_,_=>.bad
  |_=>.bad
 |_=>.bad
def Ad(dp:Nat->Option (Hd->M AV))(m:Str)(a:M AV)(r:M Hd):M AV:=a.bind (rn dp m r)
theorem Yh:∀{fs:Xs}{ys:Hg},bE T Y H (fs.map (·.2)) ys->fs.lookup f=aD->((fs.map (·.1)).zip ys).lookup f=aD
 |[],_,.nil,_=>rfl
 | (k,x)::fs,_,.cons h hs,l=>by
  rw[jB]at l;rw[jC,Dq,jB];cases hb:(f==k) with
  |true=>simp only[hb]at l;cases l|false=>simp only[hb]at l ⊢;exact Yh hs l
theorem BS{r:M Hd}(hM:∀c C g,dp c=aA g->T.C c=aA C->vZ X T EE C m g)(R:bP T Y h H)(q:aW T Y H x x')
  (w:W T (aW T) (rn dp m r x h) Y H Q (EE Z'))(rr:∀Q',W T (bE T) (r h) Y H Q' (EE Z')->t Z' H Q') :
  ∃(a C dx:Addr) (fs:Xw) (g:Hd->M AV),x' = .ref a/\H a=aA (.ins C dx fs)/\fs.lookup m=aD/\vZ X T EE C m g/\t Z' H λvs H2=>tE T g (x'::vs) H2 Q (EE Z'):=by
 unfold rn at w;cases x with
 |ref n=>
  cases q with
  |@ref _ p q=>
   cases ob:h.ob n with
   |none=>simp only[ob]at w;cases w|some u=>
    simp only[ob]at w;cases u with
    |ins c fs=>
     obtain⟨C,dx,s,y,d,g1,rfl,e⟩:=R.obj n _ p ob q;cases hd:dp c with
     |none=>simp only[hd]at w;cases w|some g=>
      cases l:fs.lookup m with
      |some v=>simp only[hd,l]at w;exact w.elim|none=>simp only[hd,l]at w;exact⟨p,C,dx,_,g,rfl,g1,Yh e l,hM c C g hd d,rr _ (W.bind w λb xs f i H2 j R2 k o=>⟨b,i,.ref n::xs,R2,.cons (.ref<|j.pre n p q) k,o⟩)⟩
    |_=>cases w
 |_=>exact w.elim
theorem aDh(hM:∀c C g,dp c=aA g->T.C c=aA C->vZ X T (λ_=>E) C m g)(ho:QE X T E o ma)(ha:QA X T E (e::es) mr)(hb:kB o=aB)(hs:(e::es).all bW=aB)
  (hn:(e::es).length<30)(hl:(apos.endLine==pos.line)=aB):QE X T E (.Call (.Attribute o m apos) (e::es) [] pos) (λZ=>Ad dp m (ma Z) (mr Z)):=by
 obtain⟨q,pa,f⟩:=ho;obtain⟨r,pr,i⟩:=ha;exact⟨_,Z0 pa pr hb hs hn hl,λj Z a h H Q R S w=>f j Z a h H _ R S (W.bind w λb x s h1 H1 k d l n=>BS hM d l n λt p=>i b Z a h1 H1 _ d (S.ext k) p)⟩
theorem aDi(hM:∀c C g,dp c=aA g->T.C c=aA C->vZ X T (λ_=>E) C m g)(ho:QE X T E o ma)(hb:kB o=aB)(hl:(apos.endLine==pos.line)=aB) :
  QE X T E (.Call (.Attribute o m apos) [] [] pos) (λZ=>Ad dp m (ma Z) (M.ret [])):=by
 obtain⟨l,pa,d⟩:=ho;exact⟨_,Z1 pa hb hl,λe Z a h H Q R S w=>d e Z a h H _ R S (W.bind w λf x n h1 H1 p b i j=>BS hM b i j λq k=>W.here k b .nil)⟩
inductive vw(X:Cx)(T:Tab)(E:XK)(x:Str)(c:Nat)(dv:Hd)(g:Hd->M AV):Prop
 |mk (k:Nat) (C f:Addr) (fd:eW) (ps:Xo) (ds:He) (dvs:Hg) (_:T.C c=aA C) (_:Mk X.K C f) (_:iN X.prog X.w X.K X.mg X.base (kP X.prog X.w) k f fd ps (tE T g)) (_:fK (k+1) X.A) (_:X.mg x=aA (.ref C)) (_:Binds X.K fd ps ds) (_:Vals dvs ds) (_:(∀Y H,bE T Y H dv dvs)) (_:rZ (kP X.prog X.w) X E):vw X T E x c dv g
def isNone:AV->Bool
 |.aH=>aB
 |_=>aG
def Aa(c:Nat)(dv:Hd)(g:Hd->M AV)(r:M Hd):M AV:=r.bind λxs h=>((g<|.ref h.nx::(xs++dv)).bind λv=>if isNone v=aB then M.ret (.ref h.nx) else M.bad) (h.new<|.ins c [])
theorem BQ{c:Nat}{C dx:Addr}{g:Hd->M AV}(hc:T.C c=aA C)(R:bP T Y h H)(r:bE T Y H xs ys)(h1:H a=aD)(h2:H dx=aD)(h3:dx≠a)
  (w:W T (aW T) (((g<|.ref h.nx::xs).bind λv=>if isNone v=aB then M.ret (.ref h.nx) else M.bad)<|h.new<|.ins c []) Y H Q E) :
  tE T g (.ref a::ys) (bF (bF H dx<|.own a) a<|.ins C dx []) (λv H2=>v = .aH/\Q (.ref a) H2) E:=by
 have f:Ext Y H Y (bF H dx<|.own a):=.jK h2;have hn:(bF H dx<|.own a) a=aD:=by rw[bZ (mK h3)];exact h1
 obtain⟨R2,i⟩:=(R.keep (a:=dx) (o:=.own a) h2).alloc (o:=.ins c []) hn ⟨C,dx,[],[],hc,gQ,rfl,.nil⟩;have e:=f.trans i;have b:(Y++[a])[h.nx]?=aA a:=by rw[<- R.len];simp
 refine⟨Y++[a],h.new (.ins c []),.ref h.nx::xs,R2,.cons (.ref b) (r.ext e),W.bind (w.ext e) λj v n h3 p k l m d=>?_⟩;cases v with
 |aH=>cases m;exact⟨rfl,W.here d l (.ref<|k.pre _ _ b)⟩
 |_=>exact d.elim
theorem aDf{x:Str}{c:Nat}{g:Hd->M AV}(F:vw X T E x c dv g)(hg:Gl X x)(ha:QA X T E (e::es) mr)(hs:(e::es).all bW=aB)(hd:(x==("__debug__":Str))=aG) :
  QE X T E (.Call (.Name x p) (e::es) [] pos) (λZ=>Aa c dv g (mr Z)):=by
 obtain⟨k,C,f,fd,ps,ds,i,j,K,F,hr,hm,hb,l,b,m⟩:=F;obtain⟨A,pr,n⟩:=ha;rw[jY,bS]at hs;exact⟨_,Y8 K F hr hg hm hb l m pr hd (fF hs.1) (tD hs.2),λo Z d h H Q R S w=>n o Z d h H _ R S (W.bind w λq xs r h1 H1 B s t u=>λa D v y z=>BQ j s (t.append<|b _ _) v y z u)⟩
theorem aDg{x:Str}{c:Nat}{g:Hd->M AV}(F:vw X T E x c dv g)(hg:Gl X x)(hd:(x==("__debug__":Str))=aG) :
  QE X T E (.Call (.Name x p) [] [] pos) (λZ=>Aa c dv g (M.ret [])):=by
 obtain⟨k,C,f,fd,ps,ds,d,e,K,F,hr,hm,hb,i,b,j⟩:=F;exact⟨_,Y9 K F hr hg hm hb i j hd,λq Z l h H Q R S w=>λa r m n o=>BQ e R (b _ _) m n o w⟩
def Ff(f:Str)(n c:Nat)(i:Int)(Z:aF)(y:AV):M Out:=λh=>match y with
 |.int j=>match h.ob n with
  |some (.ins c' fs)=>if c'=c/\fs.length<1000 then .ok (.nx Z) (h.put n<|.ins c<|gG f (.int<|i+j) fs) else .bad
  |_=>.bad
 |_=>.bad
def Ui(cs:Xp)(f:Str)(a b:M AV)(Z:aF):M Out:=a.bind λx h=>match x with
 |.ref n=>match h.ob n with
  |some (.ins c fs)=>if cs.contains c=aB then match fs.lookup f with
   |some (.int i)=>(b.bind<|Ff f n c i Z) h
   |_=>.bad
   else .bad
  |_=>.bad
 |_=>.bad
theorem aGz{cs:Xp}{tpos:Pos}(hC:dw X.K T cs f)(ho:QE X T E o ma)(hv:QE X T E v mb) :
  QS X T E (.AugAssign (.Attribute o f tpos) .Add v pos) (λZ=>Ui cs f (ma Z) (mb Z) Z):=by
 obtain⟨ta,pa,P⟩:=ho;obtain⟨tb,Q,U⟩:=hv;refine⟨_,aBm pa Q C8,λY Z k h H D R S w=>P Y Z k h H _ R S (W.bind w λF x x' h1 H1 J K V a=>?_)⟩;cases x with
 |ref n=>
  cases V with
  |@ref _ p q=>
   cases ob:h1.ob n with
   |none=>simp only[ob]at a;cases a|some u=>
    simp only[ob]at a;cases u with
    |ins c fs=>
     obtain⟨C,YY,ks,ys,G,g,rfl,r⟩:=K.obj n _ p ob q;by_cases hm:cs.contains c=aB
     case neg=>simp only[if_neg hm]at a;cases a
     simp only[if_pos hm]at a;cases l:fs.lookup f with
     |none=>simp only[l]at a;cases a|some v1=>
      simp only[l]at a;cases v1 with
      |int i=>
       obtain⟨y1,YU,ry⟩:=Hm r l;cases ry;obtain⟨c1,c2⟩:=hC c C hm G;refine⟨p,C,YY,_,_,rfl,g,c1,c2,YU,U F Z k h1 H1 _ K (S.ext J) (W.bind a λI y y' h2 H2 L R2 q2 d=>?_)⟩;cases y with
       |int j=>
        cases q2;simp only[Ff]at d;cases e:h2.ob n with
        |none=>simp only[e]at d;cases d|some u2=>
         simp only[e]at d;cases u2 with
         |ins M m=>
          by_cases B:M=c/\m.length<1000
          case neg=>simp only[if_neg B]at d;cases d
          simp only[if_pos B]at d;obtain⟨rfl,B⟩:=B;have N:=L.pre n p q;obtain⟨C2,s,ks2,ys2,t,g2,rfl,r2⟩:=R2.obj n _ p e N;rw[G]at t;cases t;obtain⟨A,ez,rz⟩:=Kw (.int _) r2;have ex:=js (Y:=I) (O':=.ins C s (((gG f (.int<|i+j) m).map (·.1)).zip A)) g2 (nofun) (λ_ _ z=>by cases z);obtain⟨R3,O⟩:=R2.write (o':=.ins M (gG f (.int<|i+j) m)) e rfl rfl N g2 (nofun) (λ_ _ z=>by cases z)
           ⟨C,s,_,A,G,gQ,rfl,rz.ext ex⟩
          refine⟨i,j,rfl,rfl,s,_,g2,?_,?_⟩
          .rw[KY,aU];lia
          .rw[ez];exact W.ok (b:=jN.nx k) d O R3<|(S.ext J).ext (L.trans O)
         |_=>cases d
       |_=>cases d
      |_=>cases a
    |_=>cases a
 |_=>cases a
structure Tq(K:bI)(C:Addr):Prop where
 cl:mX K C
 ha:nQ K (.ref C) "__class__"=aA (aA<|.builtin "object.__class__")
 hn:Ed K (.builtin "object.__class__") "__get__"=aA (aA<|.builtin "getset_descriptor.__get__")
 ht:W.takesIn K (.builtin "object.__class__")=aA aB
 hm:W.mroIn K C (.type "object")=aA aB
def nu(sub:Bool)(i:Nat)(b:M AV)(Z:aF):M Out:=match Z[i]? with
 |some (aA<|.int a)=>b.bind λy=>match y with
  |.int j=>M.ret (.nx<|Z.set i<|aA<|.int<|if sub=aB then a-j else a+j)
  |_=>M.bad
 |_=>M.bad
theorem ED{i:Nat}{x:Str}(sub:Bool)(hN:X.N.Nodup)(hi:X.N[i]?=aA x)(hx:vY X.env.scope x)(hf:X.fn x=aB\/X.env.scope.names.lookup x=aA .local)(hv:QE X T E v mb) :
  QS X T E (.AugAssign (.Name x pos') (if sub=aB then .Sub else .Add) v pos) (λZ=>nu sub i (mb Z) Z):=by
 obtain⟨tb,e,f⟩:=hv;have k:wj X (if sub=aB then .Sub else .Add) (Iu λa j=>if sub=aB then a-j else a+j):=by
  cases sub
  .exact D3
  .exact D4
 refine⟨_,aBh hN hi hx e k hf,λm Z c h H D R S w=>?_⟩;unfold nu at w;cases l:Z[i]? with
 |none=>simp only[l]at w;exact w.elim|some u=>
  cases u with
  |none=>simp only[l]at w;exact w.elim|some a=>
   obtain⟨y,g,r⟩:=S.2 i a l;cases a with
   |int a=>
    simp only[l]at w;cases r;refine⟨_,g,f m Z c h H _ R S (W.bind w λn z s h1 H1 o p q d=>?_)⟩;cases z with
    |int j=>cases q;exact⟨a,j,rfl,rfl,W.here (b:=jN.nx (c.set i<|aA<|.int<|if sub=aB then a-j else a+j)) d p ((S.ext o).set (.int _) i)⟩
    |_=>exact d.elim
   |_=>simp only[l]at w;exact w.elim
inductive En(X:Cx)(T:Tab)(E:XK)(x m:Str)(g:Hd->M AV):Prop
 |mk (k:Nat) (C f:Addr) (fd:eW) (ps:Xo) (_:X.mg x=aA (.ref C)) (_:iN X.prog X.w X.K X.mg X.base (kP X.prog X.w) k f fd ps (tE T g)) (_:fK k X.A) (_:tL X.K (.ref f)=aB) (_:Ed X.K (.ref C) "__getattribute__"=aA (aA<|.builtin "type.__getattribute__")) (_:Ru X.K C (.type "type")=aB) (_:Rm X.K (.ref C) (.type "type") m=aA (.val<|.ref f)) (_:Ea (.ref f)=aB) (_:Binds X.K fd ps []) (_:rZ (kP X.prog X.w) X E):En X T E x m g
theorem aCw{x:Str}{g:Hd->M AV}(B:En X T E x m g)(hg:Gl X x)(hd:(x==("__debug__":Str))=aG)(ha:QA X T E (e::es) mr)(hs:(e::es).all bW=aB)(hn:(e::es).length<30)
  (hl:(apos.endLine==pos.line)=aB):QE X T E (.Call (.Attribute (.Name x p) m apos) (e::es) [] pos) (λZ=>(mr Z).bind g):=by
 obtain⟨k,C,f,fd,ps,hm,F,hr,kp,h1,o,t,z,hb,A⟩:=B;obtain⟨l,pr,D⟩:=ha;refine⟨λZ H Q=>l Z H λa b=>tE T g a b Q E,?_,λG Z c h H Q R S w=>D G Z c h H _ R S (W.bind w λd xs J h1 H1 V K L N=>⟨d,h1,xs,K,L,N⟩)⟩;intro pins s Z H Q I h;have i:=hs;rw[jY,bS]at hs;refine Gf (wG rfl) (Ho i hn) hl<|bB ((DA (v:=.ref C) hg hm rfl hd) pins s Z H (λy H1=>y = .ref C/\l Z H1 λa b=>tE T g a b Q E) I ⟨rfl,h⟩) λu s1 ⟨y,H1,j,O,P,q⟩ pl=>?_;subst P;obtain rfl:u=lB C:=O;refine W.method_cls j.fM h1<|W.cls_value j.fM o t z ?_;refine Dz I.ok.mod.gq kp (bB (pr pos pins _ Z H1 _ (j.tok _) q) λus s2 ⟨a,b,n,r,U⟩=>⟨n.fM,?_⟩) (fF hs.1)<|tD hs.2;exact Mw F hr hb .nil A n r (by rw[rS];exact U)
end
section
variable {o:aK}
def zQ(x:AV):M AV:=λh=>match x with
 |.ref n=>match h.ob n with
  |some (.lst aB xs)=>match xs[xs.length-1]? with
   |some y=>.ok y (h.put n<|.lst aB xs.dropLast)
   |none=>.bad
  |_=>.bad
 |_=>.bad
theorem bE.dropLast{Y:Xk}{H:Hp}{xs:Hd}{ys:Hg}(r:bE T Y H xs ys):bE T Y H xs.dropLast ys.dropLast:=by rw[JX,JX,r.length];exact r.take _
theorem aDn(hK:X.K=T.K)(ho:QE X T E o ma)(hb:kB o=aB)(hl:(apos.endLine==pos.line)=aB):QE X T E (.Call (.Attribute o "pop" apos) [] [] pos) (λZ=>(ma Z).bind zQ):=by
 obtain⟨s,pa,j⟩:=ho;refine⟨_,X5 MN PySem.F.slot_list_pop PySem.F.type_list_pop M9 pa (wG hb) hl,λY Z b h H Q R S w=>?_⟩;refine j Y Z b h H _ R S<|W.bind w λc x t h1 H1 v g k a=>?_;cases x with
 |ref n=>
  cases k with
  |@ref _ p q=>
   simp only[zQ]at a;cases ob:h1.ob n with
   |none=>rw[ob]at a;cases a|some u=>
    rw[ob]at a;cases u with
    |lst mu xs=>
     cases mu with
     |false=>cases a|true=>
      obtain⟨d,g1,e⟩:=g.obj n _ p ob q;dsimp only at a;cases f:xs[xs.length-1]? with
      |none=>rw[f]at a;cases a|some y=>rw[f]at a;obtain⟨l,g2,m⟩:=e.get f;have ex:=js (Y:=c) (O':=.lst d.dropLast) g1 (nofun) (λ_ _ z=>by cases z);obtain⟨r,i⟩:=g.write (o':=.lst aB xs.dropLast) ob rfl rfl q g1 (nofun) (λ_ _ z=>by cases z) ⟨_,gQ,e.dropLast.ext ex⟩;exact⟨.inl ⟨rfl,⟨d,.inl (.inl g1)⟩⟩,p,d,l,rfl,rfl,g1,e.length▸g2,W.ok a i r (m.ext i)⟩
    |_=>cases a
 |_=>exact a.elim
def Gu:M AV:=λh=>.ok (.ref h.nx) (h.new<|.aR [])
theorem aCy:QE X T E (.Dict [] [] pos) (λ_=>Gu):=by refine⟨_,Y2,λe Z a h H Q R S w p b=>?_⟩;obtain⟨c,d⟩:=R.alloc (o:=.aR []) b ⟨[],[],gQ,rfl,.nil⟩;refine W.ok w d c<|.ref ?_;rw[<- R.len];simp
def xu(g:AV->Hd->M AV)(a:M AV)(r:M Hd):M AV:=a.bind λx h=>if(fQ h x).isSome=aB then(r.bind λxs=>g x xs) h else .bad
theorem Li{m:Str}{id:String}{r:V->Hg->Hp->VK->Prop}{g:AV->Hd->M AV} (slot:Slot "dict" m id) (hty:typeOf (.builtin id)=pure (.type "method_descriptor")) (hm:dz X id r)
  (hg:∀Y h H x x' xs dU Q,bP T Y h H->aW T Y H x x'->bE T Y H xs dU->W T (aW T) (g x xs h) Y H Q E->r x' dU H Q)
  (ho:QE X T E o ma) (ha:QA X T E (e::es) mr) (hb:kB o=aB) (hs:(e::es).all bW=aB) (hn:(e::es).length<29) (hl:(apos.endLine==pos.line)=aB) :
  QE X T E (.Call (.Attribute o m apos) (e::es) [] pos) (λZ=>xu g (ma Z) (mr Z)):=by
 obtain⟨C,pa,k⟩:=ho;obtain⟨D,pr,l⟩:=ha;have f:=hs;rw[jY,bS]at hs;refine⟨_,CY MM slot hty hm pa pr (wG hb) ?_ hl (fF hs.1) (tD hs.2),λY Z c h H Q R S w=>?_⟩
 .rw[<- LG,(tD (env:=X.env) (pos:=pos) f)];simp only[yE,yC,List.map_nil,List.all_nil,Qd,List.isEmpty_nil,if_true,Bool.not_false,Bool.true_and,decide_eq_true_eq];lia
 refine k Y Z c h H _ R S<|W.bind w λd x x' h1 H1 p j s t=>?_;have b:=t;by_cases hd:(fQ h1 x).isSome=aB
 case neg=>rw[if_neg hd]at b;cases b
 rw[if_pos hd]at b;obtain⟨u,hd⟩:=Option.isSome_iff_exists.mp hd;obtain⟨n,a,us,rfl,q,ob,rfl,gd,F⟩:=wO j s hd;exact⟨.inr (.inr<|.inl ⟨rfl,.inl ⟨us,gd⟩⟩),l d Z c h1 H1 _ j (S.ext p) (W.bind b λi xs dU v y z R2 A B=>hg i v y _ _ xs dU Q R2 (.ref<|z.pre n a q) A B)⟩
def zJ(x:AV)(xs:Hd):M AV:=λh=>match fQ h x with
 |some kvs=>match xs with
  |[y]=>match fN y with
   |some k=>.ok ((bR kvs k).getD .aH) h
   |none=>
    .bad
  |[y,z]=>match fN y with
   |some k=>.ok ((bR kvs k).getD z) h
   |none=>.bad
  |_=>.bad
 |none=>.bad
def Mq:AV->Nat
 |.ref n=>n
 |_=>0
def zK(x:AV)(xs:Hd):M AV:=λh=>match fQ h x with
 |some kvs=>match xs with
  |[y]=>match fN y with
   |some k=>match bR kvs k with
    |some v=>.ok v (h.put (Mq x)<|.aR<|tY kvs k)
    |none=>.bad
   |none=>.bad
  |[y,z]=>match fN y with
   |some k=>match bR kvs k with
    |some v=>.ok v (h.put (Mq x)<|.aR<|tY kvs k)
    |none=>.ok z h
   |none=>.bad
  |_=>.bad
 |none=>.bad
def pj(x:AV)(xs:Hd):M AV:=λh=>match fQ h x with
 |some kvs=>match xs with
  |[y,z]=>match fN y with
   |some k=>if kvs.length<sizeLine then match bR kvs k with
    |some v=>.ok v h
    |none=>.ok z (h.put (Mq x)<|.aR<|jT kvs k z)
    else .bad
   |none=>.bad
  |_=>.bad
 |none=>.bad
theorem XE(Y:Xk)(h:AH)(H:Hp)(x:AV)(x':V)(xs:Hd)(dU:Hg)(Q:VK)(R:bP T Y h H)(rx:aW T Y H x x')(rs:bE T Y H xs dU)(w:W T (aW T) (zJ x xs h) Y H Q E):EU x' dU H Q:=by
 unfold zJ at w;cases d:fQ h x with
 |none=>simp only[d]at w;cases w|some b=>
  simp only[d]at w;obtain⟨n,a,us,rfl,q,ob,rfl,gd,i⟩:=wO R rx d;cases rs with
  |nil=>cases w|@cons y s t j g rs=>
   have fin:∀{k:aP}{z:AV}{c:V},aW T Y H z c->aW T Y H ((bR b k).getD z) ((fP us k).getD c):=λ{k z c} e=>by
    obtain⟨g1,g2⟩:=aw i;cases l:bR b k with
    |none=>rw[g2 l];exact e|some v=>obtain⟨u,m,o⟩:=g1 v l;rw[m];exact o
   cases rs with
   |nil=>
    cases k:fN y with
    |none=>simp only[k]at w;cases w
    |some p=>simp only[k]at w;have f:=sO g k;subst f;exact⟨a,_,_,rfl,lS.k gd,.inl ⟨rfl,W.here w R (fin .aH)⟩⟩
   |@cons z c zs r e rs=>
    cases rs with
    |nil=>
     cases k:fN y with
     |none=>simp only[k]at w;cases w|some p=>simp only[k]at w;have f:=sO g k;subst f;exact⟨a,_,_,rfl,lS.k gd,.inr ⟨c,rfl,W.here w R (fin e)⟩⟩
    |cons _ _=>cases w
theorem XQ(Y:Xk)(h:AH)(H:Hp)(x:AV)(x':V)(xs:Hd)(dU:Hg)(Q:VK)(R:bP T Y h H)(rx:aW T Y H x x')(rs:bE T Y H xs dU)(w:W T (aW T) (zK x xs h) Y H Q E):EV x' dU H Q:=by
 unfold zK at w;cases d:fQ h x with
 |none=>simp only[d]at w;cases w|some b=>
  simp only[d]at w;obtain⟨n,a,us,rfl,q,ob,rfl,gd,i⟩:=wO R rx d;have wr:∀{k:aP}{v:AV}{y:V},bR b k=aA v->aW T Y H v y->W T (aW T) (.ok v<|h.put n<|.aR<|tY b k) Y H Q E->Q y (bF H a<|.dK<|sD us k):=λ{k v y} l r w=>by have ex:=js (Y:=Y) (O':=.dK (sD us k)) gd (nofun) (λ_ _ z=>by cases z);obtain⟨s,o⟩:=R.write ob rfl rfl q gd (nofun) (λ_ _ z=>by cases z) (Go gQ<|(aIs i).ext ex);exact W.ok w o s<|r.ext o
  cases rs with
  |nil=>cases w|@cons y C D t p rs=>
   cases rs with
   |nil=>
    cases k:fN y with
    |none=>simp only[k]at w;cases w|some e=>
     simp only[k]at w;have j:=sO p k;subst j;obtain⟨g1,g2⟩:=aw i;cases l:bR b e with
     |none=>simp only[l]at w;cases w|some v=>simp only[l]at w;obtain⟨m,c,g⟩:=g1 v l;exact⟨a,us,e,rfl,gd,.inl ⟨rfl,m,c,wr l g w⟩⟩
   |@cons z u zs A B rs=>
    cases rs with
    |nil=>
     cases k:fN y with
     |none=>simp only[k]at w;cases w|some e=>
      simp only[k]at w;have j:=sO p k;subst j;obtain⟨g1,g2⟩:=aw i;refine⟨a,us,e,rfl,gd,.inr ⟨u,rfl,λv1 c=>?_,λc=>?_⟩⟩
      .cases l:bR b e with
       |none=>rw[g2 l]at c;cases c|some v=>simp only[l]at w;obtain⟨m,f,g⟩:=g1 v l;rw[c]at f;cases f;exact wr l g w
      .cases l:bR b e with
       |none=>simp only[l]at w;exact W.here w R B|some v=>obtain⟨m,f,g⟩:=g1 v l;rw[c]at f;cases f
    |cons _ _=>cases w
theorem XV(Y:Xk)(h:AH)(H:Hp)(x:AV)(x':V)(xs:Hd)(dU:Hg)(Q:VK)(R:bP T Y h H)(rx:aW T Y H x x')(rs:bE T Y H xs dU)(w:W T (aW T) (pj x xs h) Y H Q E):EW x' dU H Q:=by
 unfold pj at w;cases d:fQ h x with
 |none=>simp only[d]at w;cases w|some b=>
  simp only[d]at w;obtain⟨n,a,us,rfl,q,ob,rfl,gd,g⟩:=wO R rx d;cases rs with
  |nil=>cases w|@cons y C D r s rs=>
   cases rs with
   |nil=>cases w|@cons z j zs t m rs=>
    cases rs with
    |nil=>
     cases k:fN y with
     |none=>simp only[k]at w;cases w|some f=>
      simp only[k]at w;have u:=sO s k;subst u;by_cases i:b.length<sizeLine
      case neg=>rw[if_neg i]at w;cases w
      rw[if_pos i]at w;obtain⟨g1,g2⟩:=aw g;refine⟨a,us,f,j,rfl,gd,rfl,by rw[<- FO g];exact i,λv1 c=>?_,λc=>?_⟩
      .cases l:bR b f with
       |none=>rw[g2 l]at c;cases c|some v=>simp only[l]at w;obtain⟨A,e,o⟩:=g1 v l;rw[c]at e;cases e;exact W.here w R o
      .cases l:bR b f with
       |none=>simp only[l]at w;have ex:=js (Y:=Y) (O':=.dK (putK us f j)) gd (nofun) (λ_ _ z=>by cases z);obtain⟨B,p⟩:=R.write ob rfl rfl q gd (nofun) (λ_ _ z=>by cases z) (Go gQ<|(FP g m).ext ex);exact W.ok w p B<|m.ext p
       |some v=>obtain⟨A,e,o⟩:=g1 v l;rw[c]at e;cases e
    |cons _ _=>cases w
inductive Dm where
 |get
 |pop|setd
def Dm.g:Dm->AV->Hd->M AV
 |.get=>zJ
 |.pop=>zK | .setd=>pj
def xv(m:Str):Option Dm:=if m="get" then aA .get else
 if m="pop" then aA .pop else if m="setdefault" then aA .setd else
 aD
theorem DP{m:Str}{f:Dm}(hf:xv m=aA f)(hu:X.A.units+1<cLine)(ho:QE X T E o ma)(ha:QA X T E (e::es) mr)(hb:kB o=aB)(hs:(e::es).all bW=aB)(hn:(e::es).length<29)(hl:(apos.endLine==pos.line)=aB) :
  QE X T E (.Call (.Attribute o m apos) (e::es) [] pos) (λZ=>xu f.g (ma Z) (mr Z)):=by
 unfold xv at hf;split at hf
 case isTrue h=>cases hf;subst h;exact Li ku MQ (M6 hu) XE ho ha hb hs hn hl
 split at hf
 case isTrue h=>cases hf;subst h;exact Li Rb PySem.F.type_dict_pop M7 XQ ho ha hb hs hn hl
 split at hf
 case isTrue h=>cases hf;subst h;exact Li MP aTc M8 XV ho ha hb hs hn hl
 cases hf
end
inductive Op where
 |add|sub|mul|fdiv|mod|pow|shl|shr|band|bor|bxor|ix
def Op.g:Op->AV->AV->M AV
 |.add=>Yp | .sub=>yn | .mul=>pq | .fdiv=>Yr | .mod=>Yz | .pow=>Zc | .shl=>Zd | .shr=>Ze | .band=>Yq | .bor=>Zb | .bxor=>Zf | .ix=>uI
inductive Cp where
 |eq|ne|lt|le|gt|ge|gp|isn|gi|nin
variable {o':Cp}
def Cp.g:Cp->AV->AV->M AV
 |.eq=>zL | .ne=>zP | .lt=>Yw | .le=>Yv | .gt=>Yt | .ge=>Ys | .gp=>Hs | .isn=>Ht | .gi=>pA aG | .nin=>pA aB
inductive Bi where
 |len|int|min|max|divmod|tuple|list
def Bi.g:Bi->Hd->M AV
 |.len=>pk | .int=>Yu | .min=>Yy | .max=>Yx | .divmod=>yh | .tuple=>yo | .list=>zO
inductive CT where
 |bad
 |nm (i:Nat)
 |tup (is:Xp)
def wz:Xp->Hd->aF->M aF
 |[]=>Ic
 |i::is=>Ib (λv Z=>M.ret (Z.set i<|aA v)) (wz is)
def pW:CT->AV->aF->M aF
 |.bad,_,_=>M.bad
 |.nm i,v,Z=>M.ret (Z.set i<|aA v)
 |.tup is,v,Z=>zR is.length (wz is) v Z
mutual
inductive Ex where
 |wK (imp:Xt) (t:CT) (it:Ir) (e:Ex)
 |wL (imp:Xt) (t:CT) (it:Ir) (c e:Ex)
 |kJ (d e:Ex)
 |bad|no
 |var (i:Nat)
 |val (v:AV)
 |op (o:Op) (a b:Ex)
 |cmp (o:Cp) (a b:Ex)
 |chain (o o':Cp) (a b c:Ex)
 |neg (a:Ex)
 |not (a:Ex)
 |and (a b:Ex)
 |or (a b:Ex)
 |ite (c a b:Ex)
 |tup (es:eJ)
 |lst (es:eJ)
 |slice (a lo hi:Ex)
 |call (f:Nat) (es:eJ)
 |bi (f:Bi) (es:eJ)
 |rC (t:BT) (a:Ex)
 |kc (k:Kc) (a:Ex)
 |lH (cs:Xp) (f:Str) (o:Ex)
 |rF (m:Str) (dp:Xr) (o:Ex) (es:eJ)
 |make (c i:Nat) (dv:Hd) (es:eJ)
 |fq (i:Nat) (es:eJ)
 |oo
 |dm (f:Dm) (o:Ex) (es:eJ)
 |sj (o:Ex)
 |app (o a:Ex)
 |get (o:Ex) (es:eJ)
inductive eJ where
 |nil
 |cons (e:Ex) (es:eJ)
inductive Ir where
 |bad
 |seq (e:Ex)
 |Bc (es:eJ)
 |Bd (es:eJ)
 |enum (e:Ex)
 |zip (es:eJ)
 |aR (e:Ex)
end
variable {d:Ex}
abbrev Run:=Nat->Hd->M AV
variable {F:Run}
def pF(e:Ex)(m:M AV):M Hc:=match e with
 |.no=>M.ret aD
 |_=>m.bind Hu
mutual
noncomputable def aL(F:Run):Ex->aF->M AV
 |.bad,_=>M.bad
 |.no,_=>M.bad
 |.var i,Z=>uJ i Z
 |.val v,_=>M.ret v
 |.op o a b,Z=>uS o.g (aL F a Z) (aL F b Z)
 |.cmp o a b,Z=>uS o.g (aL F a Z) (aL F b Z)
 |.chain o o' a b c,Z=>fj o.g o'.g (aL F a Z) (aL F b Z) (aL F c Z)
 |.neg a,Z=>(aL F a Z).bind pv
 |.not a,Z=>(aL F a Z).bind λx=>(cZ x).bind λb=>M.ret (.bl<|!b)
 |.and a b,Z=>Ud (aL F a Z) (aL F b Z)
 |.or a b,Z=>CM (aL F a Z) (aL F b Z)
 |.ite c a b,Z=>zp (dI F c Z) (aL F a Z) (aL F b Z)
 |.tup es,Z=>Nw (dM F es Z)
 |.lst es,Z=>uQ (dM F es Z)
 |.slice a lo hi,Z=>(aL F a Z).bind λx=>(pF lo<|aL F lo Z).bind λl=>(pF hi<|aL F hi Z).bind λu=>rB x l u
 |.call f es,Z=>(dM F es Z).bind (F f)
 |.bi f es,Z=>(dM F es Z).bind f.g
 |.rC t a,Z=>(aL F a Z).bind (zM t)
 |.kc k a,Z=>(aL F a Z).bind k.g
 |.lH cs f o,Z=>(aL F o Z).bind (uG cs f)
 |.rF m dp o es,Z=>Ad (λc=>(dp.lookup c).map F) m (aL F o Z) (dM F es Z)
 |.make c i dv es,Z=>Aa c dv (F i) (dM F es Z)
 |.fq i es,Z=>(dM F es Z).bind (F i)
 |.oo,_=>Gu
 |.dm f o es,Z=>xu f.g (aL F o Z) (dM F es Z)
 |.sj o,Z=>(aL F o Z).bind zQ
 |.app o a,Z=>Fd (aL F o Z) (aL F a Z)
 |.get o es,Z=>Hx (aL F o Z) (dM F es Z)
 |.wK imp t it e,Z=>yT (cQ F it Z) (pW t) (λ_=>M.ret aB) (aL F e) imp Z
 |.wL imp t it c e,Z=>yT (cQ F it Z) (pW t) (dI F c) (aL F e) imp Z
 |.kJ d e,Z=>mC (aL F d) (aL F e) Z
noncomputable def dI(F:Run):Ex->aF->M Bool
 |.bad,_=>M.bad
 |.no,_=>M.bad
 |.ite _ _ _,_=>M.bad
 |.var i,Z=>(uJ i Z).bind cZ
 |.val v,_=>cZ v
 |.op o a b,Z=>(uS o.g (aL F a Z)<|aL F b Z).bind cZ
 |.cmp o a b,Z=>(uS o.g (aL F a Z)<|aL F b Z).bind yg
 |.chain o o' a b c,Z=>(fj o.g o'.g (aL F a Z) (aL F b Z)<|aL F c Z).bind yg
 |.neg a,_=>M.bad
 |.not a,Z=>(dI F a Z).bind λb=>M.ret (!b)
 |.and a b,Z=>Uc (dI F a Z) (dI F b Z)
 |.or a b,Z=>CL (dI F a Z) (dI F b Z)
 |.tup es,Z=>(Nw<|dM F es Z).bind cZ
 |.lst es,Z=>(uQ<|dM F es Z).bind cZ
 |.slice a lo hi,Z=>((aL F a Z).bind λx=>(pF lo<|aL F lo Z).bind λl=>(pF hi<|aL F hi Z).bind λu=>rB x l u).bind cZ
 |.call f es,Z=>((dM F es Z).bind (F f)).bind cZ
 |.bi f es,Z=>((dM F es Z).bind f.g).bind cZ
 |.rC t a,Z=>((aL F a Z).bind (zM t)).bind cZ
 |.kc k a,Z=>((aL F a Z).bind k.g).bind cZ
 |.lH cs f o,Z=>((aL F o Z).bind (uG cs f)).bind cZ
 |.rF m dp o es,Z=>(Ad (λc=>(dp.lookup c).map F) m (aL F o Z)<|dM F es Z).bind cZ
 |.make c i dv es,Z=>(Aa c dv (F i)<|dM F es Z).bind cZ
 |.fq i es,Z=>((dM F es Z).bind (F i)).bind cZ
 |.oo,_=>Gu.bind cZ
 |.dm f o es,Z=>(xu f.g (aL F o Z)<|dM F es Z).bind cZ
 |.sj o,Z=>((aL F o Z).bind zQ).bind cZ
 |.app o a,Z=>(Fd (aL F o Z)<|aL F a Z).bind cZ
 |.get o es,Z=>(Hx (aL F o Z)<|dM F es Z).bind cZ
 |.wK imp t it e,Z=>(yT (cQ F it Z) (pW t) (λ_=>M.ret aB) (aL F e) imp Z).bind cZ
 |.wL imp t it c e,Z=>(yT (cQ F it Z) (pW t) (dI F c) (aL F e) imp Z).bind cZ
 |.kJ d e,Z=>(mC (aL F d) (aL F e) Z).bind cZ
noncomputable def dM(F:Run):eJ->aF->M Hd
 |.nil,_=>M.ret []
 |.cons e es,Z=>Wg (aL F e Z) (dM F es Z)
noncomputable def cQ(F:Run):Ir->aF->M gF
 |.bad,_=>M.bad
 |.seq e,Z=>(aL F e Z).bind zN
 |.Bc es,Z=>(dM F es Z).bind yk
 |.Bd es,Z=>(dM F es Z).bind ym
 |.enum e,Z=>(aL F e Z).bind yi
 |.zip es,Z=>(dM F es Z).bind yp
 |.aR e,Z=>(aL F e Z).bind ou
end
structure Cn where
 N:Xo
 sc:gJ
 fns:Xo
 pw:Xs
 iP:Xo
 IZ:List (Str×Nat)
 cat:List (Str×YK)
 AA:List (Str×YK)
 top:Bool:=aB
 kU:List (Str×Xp):=[]
 nH:List (Str×Xr):=[]
 mQ:List ((Str×Nat)×(Nat×Nat×Hd)):=[]
 sJ:List (Str×YK):=[]
 oY:List (Str×List (Str×Nat)):=[]
 Gx:Xo:=[]
def Cn.gl(C:Cn)(x:Str):Bool:=decide (C.sc.names.lookup x=aA .globalImplicit)
def ie(x:Str):Bool:=!(x==("__debug__":Str)) && !(x==("__classdict__":Str)) && !(x==("__name__":Str))
def Cn.loc(C:Cn)(x:Str):Bool:=decide (C.sc.names.lookup x=aA .local)||decide (C.sc.names.lookup x=aA .cell)
def Cn.name(C:Cn)(x:Str):Ex:=if ie x then
  if C.loc x then match C.N.idxOf? x with
   |some i=>.var i
   |none=>.bad
  else if C.gl x then match C.pw.lookup x with
   |some v=>.val v
   |none=>.bad
  else .bad
 else .bad
def Wi:Const->Ex
 |.none=>.val .aH
 |.bool b=>.val (.bl b)
 |.int i=>.val (.int i)
 |.str x=>.val (.str x)
 |_=>.bad
def Vb:rT->Option Op
 |.Add=>aA .add | .Sub=>aA .sub | .Mult=>aA .mul | .FloorDiv=>aA .fdiv | .Mod=>aA .mod | .Pow=>aA .pow
 |.LShift=>aA .shl | .RShift=>aA .shr | .BitAnd=>aA .band | .BitOr=>aA .bor | .BitXor=>aA .bxor
 |_=>aD
def xl:pL->Cp
 |.Eq=>.eq | .NotEq=>.ne | .Lt=>.lt | .LtE=>.le | .Gt=>.gt | .GtE=>.ge | .Is=>.gp | .IsNot=>.isn | .In=>.gi | .NotIn=>.nin
def Fu(op:rT)(a b:Ex):Ex:=match Vb op with
 |some o=>.op o a b
 |none=>.bad
def yQ(k:Ex->Ex->Ex):List Ex->Ex
 |[]=>.bad
 |[a]=>a
 |a::r=>k a (yQ k r)
def lU:List Ex->eJ
 |[]=>.nil
 |e::es=>.cons e (lU es)
def Vl:List (Str×BT):=[("int",.int),("bool",.bl),("str",.str),("tuple",.tup),("list",.lst)]
def VB(x:Str):Option BT:=Vl.lookup x
def Va:List (Str×Bi):=[("len",.len),("int",.int),("min",.min),("max",.max),("divmod",.divmod),("tuple",.tuple),("list",.list)]
def UP(x:Str):Option Bi:=Va.lookup x
def Cn.bl(C:Cn)(x:Str):Bool:=C.gl x&&C.iP.contains x&&ie x
def ib:aK->Option Str
 |.Name x _=>aA x
 |_=>aD
def Cn.Ge(C:Cn)(x:Str)(es:List aK)(cs:List Ex):Ex:=if ie x&&es.all bW then match C.fns.idxOf? x with
    |some i=>if C.gl x then .call i (lU cs) else .bad
    |none=>match C.mQ.lookup (x,es.length) with
     |some (c,i,dv)=>if C.gl x then .make c i dv (lU cs) else .bad
     |none=>match UP x with
      |some f=>if C.bl x && !es.isEmpty then .bi f (lU cs) else .bad
      |none=>if decide (x="isinstance")&&C.bl x then match es,cs with
          |[_,t],[a,_]=>match (ib t).bind λy=>if C.bl y then VB y else aD with
            |some bt=>.rC bt a
            |none=>.bad
          |_,_=>.bad
        else .bad
  else .bad
def EF:Nat:=40
def Cn.slot(C:Cn)(x:Str):Option Nat:=if C.loc x then C.N.idxOf? x else aD
def Cn.Iz(C:Cn):aK->Bool
 |.Attribute _ f _=>C.Gx.contains f
 |_=>aG
def Cn.kJ(C:Cn)(it:aK)(d e:Ex):Ex:=if C.Iz it then .kJ d e else e
def cI(C:Cn)(f:aK->Ex)(tg:aK)(e:aK):Ir:=match e with
 |.Call (.Name x _) es [] _=>
  if decide (x="range")&&C.bl x then match es with
   |[a]=>if bW a then .Bc (lU<|[a].map f) else .bad
   |[a,b]=>if bW a&&bW b then .Bd (lU<|[a,b].map f) else .bad
   |_=>.bad
  else if decide (x="enumerate")&&C.bl x then match es,tg with
   |[a],.Tuple _ _ _=>if bW a then .enum (f a) else .bad
   |_,_=>.bad
  else if decide (x="zip")&&C.bl x then match es,tg with
   |[a,b],.Tuple _ _ _=>if bW a&&bW b then .zip (lU<|[a,b].map f) else .bad
   |_,_=>.bad
  else .seq (f e)
 |e=>if bW e then(if C.Iz e then .aR (f e) else .seq (f e)) else .bad
def yU(scope:gJ):Xo:=(scope.names.filter λx=>(x.2==NameKind.local&&x.1 != (".0":Str))||x.2==jE).map (·.1)
def FJ(scope sc:gJ):gJ:=
 { scope with names:=scope.names.map λ(n,k)=>if(k == .free&&sc.kind == .function&&sc.names.lookup n==aA .cell) then(n,.cell) else(n,k) }
def Cn.comp(C:Cn)(scope:gJ):Cn:={ C with N:=yU scope,sc:=FJ scope C.sc,top:=aG }
def Cn.imp(C:Cn)(scope:gJ):Xt:=(yU scope).map λx=>if decide (scope.names.lookup x=aA .free) then C.N.idxOf? x else aD
def Cn.yV(C:Cn)(scope:gJ):Bool:=decide (scope.kind = .function)&&scope.names.all (λy=>decide (y.2 ≠ .cell))&&scope.names.all (λy=>decide (y.2 = .local->scope.names.lookup y.1=aA .local)) &&
 scope.names.all (λy=>decide (y.2 = .free->C.sc.names.lookup y.1=aA .cell))&&decide (yU scope).Nodup&&C.top
def xn(C:Cn):List aK->Option (List Nat)
 |[]=>aA []
 |.Name x _::r=>if decide (C.sc.names.lookup x=aA .local) then match C.N.idxOf? x,xn C r with
   |some i,aA l=>aA (i::l)
   |_,_=>aD
  else aD
 |_=>aD
def xg(C:Cn)(e:aK):CT:=match e with
 |.Name x _=>if decide (C.sc.names.lookup x=aA .local) then match C.N.idxOf? x with
   |some i=>.nm i
   |none=>.bad
  else .bad
 |.Tuple es _ _=>match xn C es with
  |some l=>.tup l
  |none=>.bad
 |_=>.bad
def Jv(o:aK)(m:Str)(eo:Ex):Ex:=
 if decide (m="pop")&&kB o then .sj eo else
 .bad
def Jw(o:aK)(m:Str)(eo ea:Ex):Ex:=
 if decide (m="append")&&kB o then .app eo ea else
 if kB o then(match xv m with
  |some f=>.dm f eo (.cons ea .nil)
  |none=>.bad) else
 .bad
def Jx(o:aK)(m:Str)(eo ea eb:Ex):Ex:=
 if decide (m="get")&&kB o&&(ib o).isSome then .get eo (.cons ea<|.cons eb .nil) else
 if kB o then(match xv m with
  |some f=>.dm f eo (.cons ea<|.cons eb .nil)
  |none=>.bad) else
 .bad
def Vj(o:aK)(m:Str)(eo:Ex):List Ex->Ex
 |[]=>Jv o m eo
 |[a]=>Jw o m eo a
 |[a,b]=>Jx o m eo a b
 |_=>.bad
def Cn.Vw(C:Cn)(o:aK)(m:Str):Option Nat:=(ib o).bind λx=>if ie x&&C.gl x then(C.oY.lookup x).bind (·.lookup m) else aD
def Cn.Jr(C:Cn)(o:aK)(m:Str)(apos pos:Pos)(es:List aK)(eo:Ex)(cs:List Ex):Ex:=
 if es.all bW&&(apos.endLine==pos.line) then
  match C.Vw o m with
  |some i=>if !es.isEmpty&&decide (es.length<30) then .fq i (lU cs) else .bad
  |none=>match C.nH.lookup m with
   |some dp=>if kB o&&decide (es.length<30) then .rF m dp eo (lU cs) else .bad
   |none=>Vj o m eo cs
 else .bad
def Gd(op:UnaryOp)(a:Ex):Ex:=match op with
 |.USub=>.neg a
 |.Not=>.not a
 |_=>.bad
def Fx(f:aK->Ex)(a:aK)(os:List pL)(bs:List aK):Ex:=match os,bs with
 |[o],[b]=>if bW b then .cmp (xl o) (f a) (f b) else .bad
 |[o,o'],[b,c]=>if bW c then .chain (xl o) (xl o') (f a) (f b) (f c) else .bad
 |_,_=>.bad
def Fv(op:BoolOp)(vs:List Ex):Ex:=match op with
 |.And=>yQ .and vs
 |.Or=>yQ .or vs
def nN:Ex->Ex
 |.no=>.bad
 |x=>x
def Gb(C:Cn)(f:aK->Ex)(a s:aK):Ex:=match s with
 |.Slice lo hi aD _=>.slice (f a) (lo.elim .no λe=>nN (f e)) (hi.elim .no λe=>nN (f e))
 |b=>if bW b then .op .ix (f a) (f b) else .bad
def Fw(C:Cn)(f:aK->Ex)(g:aK)(es:List aK)(ks:List tG)(pos:Pos):Ex:=match ks with
 |[]=>match g with
  |.Name x _=>C.Ge x es (es.map f)
  |.Attribute o m apos=>C.Jr o m apos pos es (f o) (es.map f)
  |_=>.bad
 |_=>.bad
def oh(C:Cn)(r:Cn->aK->Ex)(elt:aK)(gs:List Comprehension)(scope:gJ):Ex:=match gs with
 |[⟨t,it,cs,0⟩]=>if C.yV scope&&bW it then match cs with
   |[]=>C.kJ it (r C it) (.wK (C.imp scope) (xg (C.comp scope) t) (cI C (r C) t it)<|r (C.comp scope) elt)
   |[c]=>C.kJ it (r C it) (.wL (C.imp scope) (xg (C.comp scope) t) (cI C (r C) t it) (r (C.comp scope) c)<|r (C.comp scope) elt)
   |_=>.bad
  else .bad
 |_=>.bad
def Fs(C:Cn)(o:aK)(f:Str)(eo:Ex):Ex:=if kB o then
  match C.kU.lookup f with
  |some cs=>.lH cs f eo
  |none=>
   .bad
 else .bad
def Fy(f:aK->Ex)(ks:List (Option aK))(vs:List aK):Ex:=match ks,vs with
 |[],[]=>.oo
 |_,_=>.bad
def AK(x:Str)(ks:List tG):Option Kc:=match ks with
 |[]=>if x="any" then aA .any else
  if x="sorted" then aA .sd else
  aD
 |[⟨aA nm,kc,_⟩]=>match kc with
  |.Constant (.bool b) _ _=>if x="sorted"/\nm="reverse" then aA (.srt b) else aD
  |.Constant .none _ _=>if x="min"/\nm="default" then aA .Ae else aD
  |_=>aD
 |_=>aD
def xh(C:Cn)(f:aK->Ex)(g:aK)(es:List aK)(ks:List tG):Option Ex:=match g,es with
 |.Name x _,[a]=>match AK x ks with
  |some k=>if C.bl x&&bW a then aA (.kc k<|f a) else aD
  |none=>aD
 |_,_=>aD
def cE:Cn->Nat->aK->Ex
 |_,0,_=>.bad
 |C,n+1,e=>match e with
  |.Name x _=>C.name x
  |.Constant c _ _=>Wi c
  |.BinOp a op b _=>Fu op (cE C n a) (cE C n b)
  |.UnaryOp op a _=>Gd op (cE C n a)
  |.Compare a os bs _=>Fx (cE C n) a os bs
  |.BoolOp op vs _=>Fv op (vs.map<|cE C n)
  |.IfExp c a b _=>.ite (cE C n c) (cE C n a) (cE C n b)
  |.Tuple es _ _=>if es.all bW then .tup (lU<|es.map<|cE C n) else .bad
  |.List es _=>if es.all bW then .lst (lU<|es.map<|cE C n) else .bad
  |.Subscript a s _=>Gb C (cE C n) a s
  |.Call g es ks pos=>match xh C (cE C n) g es ks with
   |some y=>y
   |none=>Fw C (cE C n) g es ks pos
  |.Dict ks vs _=>Fy (cE C n) ks vs
  |.Attribute o f _=>Fs C o f (cE C n o)
  |.ListComp elt gs scope _=>oh C (λC' e'=>cE C' n e') elt gs scope
  |_=>.bad
theorem zz{α:Type}{x:Str}{v:α}:∀{l:List (Str×α)},l.lookup x=aA v->(x,v)∈l
 |[],h=>by cases h
 | (k,u)::r,h=>by
  rw[jB]at h;split at h
  .rename_i q;have:=eq_of_beq q;subst this;cases h;exact fV
  .exact jD _<|zz h
theorem UY:∀q∈Vl,mW q.1=aA (.type q.2.nm):=by decide +kernel
structure Lk(X:Cx)(T:Tab)(E:XK)(C:Cn)(F:Run):Prop where
 K:X.K=T.K
 N:X.N=C.N
 sc:X.env.scope=C.sc
 nd:C.N.Nodup
 fn:C.top=aB->∀x,X.fn x=aB
 calm:X.calm=aB
 po:C.top=aB->vd (aZ X.prog X.w) X.A X.env X.xe
 gv:∀x v,C.pw.lookup x=aA v->∃u v',X.mg x=aA u/\RelV v' u/\∀Y H,aW T Y H v v'
 fns:∀(i:Nat) x,C.fns[i]?=aA x->Fn X T E x (F i)
 iP:∀x,C.iP.contains x=aB->X.mg x=aD
 tab:∀kvs a,T.G kvs a->mx X.prog X.w X.K a kvs
 un:X.A.units+64<cLine
 kU:∀f cs,C.kU.lookup f=aA cs->dw X.K T cs f
 nH:∀m dp,C.nH.lookup m=aA dp->∀c D g,(dp.lookup c).map F=aA g->T.C c=aA D->vZ X T (λ_=>E) D m g
 mQ:∀x n c i dv,C.mQ.lookup (x,n)=aA (c,i,dv)->vw X T E x c dv (F i)
 sJ:∀y cs,C.sJ.lookup y=aA cs->∃D:Addr,X.mg y=aA (.ref D)/\∀k b,cs.lookup k=aA b->∃D':Addr,T.C k=aA D'/\Tq X.K D'/\Rn X.K (.ref D') (.ref D)=aA b
 oY:∀x m i,(C.oY.lookup x).bind (·.lookup m)=aA i->En X T E x m (F i)
section
variable {C:Cn}(L:Lk X T E C F)
theorem Aj{x:Str}(h:ie x=aB):(x==("__debug__":Str))=aG/\(x==("__classdict__":Str))=aG/\x≠"__name__":=by simp only[ie,bS,JB,beq_eq_false_iff_ne]at h;exact⟨beq_eq_false_iff_ne.mpr h.1.1,beq_eq_false_iff_ne.mpr h.1.2,h.2⟩
theorem uM{x:Str}{l:Xo}{i:Nat}(h:l.idxOf? x=aA i):l[i]?=aA x:=by obtain⟨a,b,_⟩:=List.findIdx?_eq_some_iff_getElem.mp h;rw[eN a];exact congrArg aA<|eq_of_beq b
include L in
theorem Lk.gl{x:Str}(h:C.gl x=aB):Gl X x:=by have a:C.sc.names.lookup x=aA .globalImplicit:=of_decide_eq_true h;rw[<- L.sc]at a;exact a
def Q2(X:Cx)(T:Tab)(E:XK)(F:Run)(e:aK)(x:Ex):Prop:=QE X T E e (aL F x)/\QT X T E e (dI F x)
theorem dN:Q2 X T E F e .bad:=⟨DN,Mj⟩
include L in
theorem DM{it:aK}{y:Ex}(pl:si e=aB)(h:Q2 X T E F e y):Q2 X T E F e (C.kJ it d y):=by
 unfold Cn.kJ;split
 .exact⟨DR (aL F d) h.1,rN L.K (DR (aL F d) h.1) pl⟩
 .exact h
include L in
theorem aJz(x:Str)(pos:Pos):Q2 X T E F (.Name x pos) (C.name x):=by
 unfold Cn.name;split
 case isFalse=>exact dN
 case isTrue ok=>
  obtain⟨b,c,h⟩:=Aj ok;split
  case isTrue hl=>
   split
   case h_1 i d=>
    have a:ng X.env.scope x:=by
     rw[L.sc];simp only[Cn.loc,jy,decide_eq_true_eq]at hl;rcases hl with hl|hl
     .exact .inl hl
     .exact .inr<|.inl hl
    have q:QE X T E (.Name x pos) (uJ i):=aDt (by rw[L.N];exact uM d) a b c;exact⟨q,rN L.K q rfl⟩
   case h_2=>exact dN
  case isFalse=>
   split
   case isFalse=>exact dN
   case isTrue e=>
    split
    case h_1 v a=>obtain⟨u,j,f,r,g⟩:=L.gv x v a;have q:QE X T E (.Name x pos) (λ_=>M.ret v):=uU (DA (L.gl e) f r b) g;exact⟨q,rN L.K q rfl⟩
    case h_2=>exact dN
include L in
theorem aJw(c:Const)(k:Nat)(pos:Pos):Q2 X T E F (.Constant c k pos) (Wi c):=by
 cases c with
 |none=>exact⟨uU Ks λ_ _=>.aH,rN L.K (uU Ks λ_ _=>.aH) rfl⟩|bool b=>exact⟨uU Kr λ_ _=>.bl b,rN L.K (uU Kr λ_ _=>.bl b) rfl⟩|int i=>exact⟨uU DB λ_ _=>.int i,rN L.K (uU DB λ_ _=>.int i) rfl⟩|str x=>exact⟨uU DC λ_ _=>.str x,rN L.K (uU DC λ_ _=>.str x) rfl⟩|_=>exact dN
include L in
theorem U9{op:rT}{o:Op}(h:Vb op=aA o):dY X T E (eY op) o.g:=by
 cases op<;>cases h
 .exact U7 L.K
 .exact X1
 .exact W3
 .exact W2
 .exact W8
 .exact W9
 .exact X0
 .exact W7
 .exact X2
 .exact U8
 .exact V2
include L in
theorem ij(op:pL):dY X T E (dG op) (xl op).g:=by
 cases op
 .exact V0 L.K (by have:=L.un;omega)
 .exact W4 L.K (by have:=L.un;omega)
 .exact W0
 .exact V9
 .exact V4
 .exact V3
 .exact V7
 .exact V8
 .exact V5 L.K (by have:=L.un;omega)
 .exact W5 L.K (by have:=L.un;omega)
theorem nB{f:aK->Ex}(hs:es.all bW=aB)(h:∀e,Q2 X T E F e (f e)):QA X T E es (dM F<|lU<|es.map f):=by
 induction es with
 |nil=>exact aCn|cons e es a=>rw[jY,bS]at hs;exact aCm (h e).1 (a hs.2) hs.1
include L in
theorem Ug{pos:Pos}{f:aK->Ex}(h:∀e,Q2 X T E F e (f e)):∀(e:aK) (es:List aK),QE X T E (.BoolOp .And (e::es) pos) (aL F<|yQ .and<|(e::es).map f)/\QW X T E (.BoolOp .And (e::es) pos) (dI F<|yQ .and<|(e::es).map f)
 |e,[]=>⟨DQ (h e).1,aHo (h e).2⟩
 |e,b::rest=>by obtain⟨a,c⟩:=Ug h b rest;exact⟨aCo L.K (h e).1 a,aHn (h e).2 c⟩
include L in
theorem CO{pos:Pos}{f:aK->Ex}(h:∀e,Q2 X T E F e (f e)):∀(e:aK) (es:List aK),QE X T E (.BoolOp .Or (e::es) pos) (aL F<|yQ .or<|(e::es).map f)/\QW X T E (.BoolOp .Or (e::es) pos) (dI F<|yQ .or<|(e::es).map f)
 |e,[]=>⟨DQ (h e).1,aHq (h e).2⟩
 |e,b::rest=>by obtain⟨a,c⟩:=CO h b rest;exact⟨aDm L.K (h e).1 a,aHp (h e).2 c⟩
theorem N3{x:Ex}(q:QE X T E e (aL F x)):QO X T E (aA e) (λZ=>pF (nN x) (aL F (nN x) Z)):=by cases x<;>first|exact EC q|exact EC DN
theorem CU{o:Option aK}{f:aK->Ex}(h:∀e,Q2 X T E F e (f e)):QO X T E o (λZ=>pF (o.elim .no λe=>nN (f e)) (aL F (o.elim .no λe=>nN (f e)) Z)):=by
 cases o with
 |none=>exact aGt|some e=>exact N3 (h e).1
include L in
theorem aJx{f:aK->Ex}(ih:∀e,Q2 X T E F e (f e)){g:aK}{ks:List tG}{y:Ex}(h:xh C f g es ks=aA y):Q2 X T E F (.Call g es ks pos) y:=by
 unfold xh at h;split at h
 case h_2=>cases h
 case h_1 x p a=>
  split at h
  case h_2=>cases h
  case h_1 k c=>
   split at h
   case isFalse=>cases h
   case isTrue hb=>
    cases h;simp only[bS,Cn.bl]at hb;obtain⟨⟨⟨i,hm⟩,_⟩,j⟩:=hb;have mk:QE X T E (.Call (.Name x p) [a] ks pos) (aL F<|.kc k<|f a)->Q2 X T E F (.Call (.Name x p) [a] ks pos) (.kc k<|f a):=λq=>⟨q,rN L.K q rfl⟩;refine mk ?_;unfold AK at c;split at c
    case h_1=>
     split at c
     case isTrue d=>cases c;subst d;exact aCp L.K L.calm (L.gl i) (L.iP _ hm) (ih a).1 j
     split at c
     case isTrue d=>cases c;subst d;exact aDo L.K L.calm (L.gl i) (L.iP _ hm) (ih a).1 j
     cases c
    case h_2 nm kc kp=>
     split at c
     case h_1 b l m=>
      split at c
      case isFalse=>cases c
      case isTrue d=>cases c;obtain⟨rfl,rfl⟩:=d;exact aDq L.K (L.gl i) (L.iP _ hm) (ih a).1 j
     case h_2 l m=>
      split at c
      case isFalse=>cases c
      case isTrue d=>cases c;obtain⟨rfl,rfl⟩:=d;exact aDj L.K L.calm (L.gl i) (L.iP _ hm) (ih a).1 j
     case h_3=>cases c
    case h_3=>cases c
include L in
theorem UQ:∀q∈Va,(∃id,oU X T E (.builtin id) q.2.g/\mW q.1=aA (.builtin id))\/∃id,oU X T E (.type id) q.2.g/\mW q.1=aA (.type id):=
 List.forall_mem_cons.2 ⟨.inl ⟨_,WL L.K,boot_len⟩,List.forall_mem_cons.2 ⟨.inr ⟨_,WK,boot_int⟩,List.forall_mem_cons.2 ⟨.inl ⟨_,WO L.calm,boot_min⟩,List.forall_mem_cons.2 ⟨.inl ⟨_,WN L.calm,boot_max⟩,List.forall_mem_cons.2 ⟨.inl ⟨_,WJ,boot_divmod⟩,List.forall_mem_cons.2 ⟨.inr ⟨_,WQ L.K,boot_tuple⟩,List.forall_mem_cons.2 ⟨.inr ⟨_,WM L.K L.calm,boot_list⟩,λ_ h=>nomatch h⟩⟩⟩⟩⟩⟩⟩
include L in
theorem aJv(ih:∀e,Q2 X T E F e (cE C n e))(x:Str)(p:Pos)(es:List aK)(pos:Pos):Q2 X T E F (.Call (.Name x p) es [] pos) (C.Ge x es<|es.map<|cE C n):=by
  have mk:∀{y:Ex},QE X T E (.Call (.Name x p) es [] pos) (aL F y)->(∀k,dI F y k=(aL F y k).bind cZ)->Q2 X T E F (.Call (.Name x p) es [] pos) y:=λ{y} q e=>by refine⟨q,?_⟩;have:=rN L.K q rfl;have B:dI F y=λk=>(aL F y k).bind cZ:=funext e;rw[B];exact this
  unfold Cn.Ge;split
  case isFalse=>exact dN
  case isTrue ok=>
    rw[bS]at ok;obtain⟨h,R,v⟩:=Aj ok.1;split
    case h_1 i l=>
      split
      case isFalse=>exact dN
      case isTrue d=>
        have w:=L.fns i x (uM l);refine mk ?_ λ_=>rfl;cases es with
        |nil=>exact aCs w (L.gl d) h|cons e es=>exact aCr w (L.gl d) (nB ok.2 ih) ok.2 h
    case h_2=>
     split
     case h_1 c i D G=>
      split
      case isFalse=>exact dN
      case isTrue d=>
        have z:=L.mQ x _ c i D G;refine mk ?_ λ_=>rfl;cases es with
        |nil=>exact aDg z (L.gl d) h|cons e es=>exact aDf z (L.gl d) (nB ok.2 ih) ok.2 h
     case h_2=>
      split
      case h_1 f H=>
        split
        case isFalse=>exact dN
        case isTrue hb=>
          simp only[Cn.bl,bS]at hb;obtain⟨⟨⟨d,hm⟩,_⟩,m⟩:=hb;refine mk ?_ λ_=>rfl;cases es with
          |nil=>cases m|cons e es=>
            have q:=nB ok.2 ih;have j:=L.iP x hm;rcases UQ L _ (zz H)with⟨_,c,b⟩|⟨_,c,b⟩
            · exact aCt c (L.gl d) j b q ok.2 v h
            · exact aCu c (L.gl d) j b q ok.2 v h
      case h_2=>
        split
        case isFalse=>exact dN
        case isTrue l=>
          simp only[bS,decide_eq_true_eq,Cn.bl]at l;obtain⟨I,⟨d,hm⟩,_⟩:=l;subst I;split
          case h_2=>exact dN
          case h_1 a t ca ct J K=>
            injection K with o M;subst o;cases t with
            |Name y N=>
              simp only[ib,jM];have O:bW a=aB:=by have:=ok.2;rw[jY,bS]at this;exact this.1
              split
              case h_2=>exact dN
              case h_1 bt g=>
                refine mk ?_ λ_=>rfl;split at g
                case isFalse=>cases g
                case isTrue A=>
                  simp only[Cn.bl,bS]at A;obtain⟨⟨r,s⟩,u⟩:=A;obtain⟨k1,k2,P⟩:=Aj u;have sa:bW a=aB:=by have:=ok.2;rw[jY,bS]at this;exact this.1
                  have fin:∀bt,mW y=aA (.type bt.nm)->QE X T E (.Call (.Name "isinstance" p) [a,.Name y N] [] pos) (aL F<|.rC bt<|cE C n a):=λbt Q=>aDc L.K bt (L.gl d) (L.iP _ hm) (L.gl r) (L.iP _ s) Q P k1 (ih a).1 sa
                  exact fin _<|UY _<|zz g
            |_=>exact dN
include L in
theorem ud{f:aK->Ex}(ih:∀e,Q2 X T E F e (f e))(tg e:aK):QI X T E tg e (cQ F<|cI C f tg e):=by
 unfold cI;split
 .rename_i x p i pos;split
  .rename_i h;simp only[bS,decide_eq_true_eq,Cn.bl]at h;obtain⟨g,⟨d,hm⟩,_⟩:=h;subst g;split
   .split
    .rename_i a c;exact aDx (L.gl d) (L.iP _ hm) (nB (by simp[c]) ih) c
    .exact xF
   .split
    .rename_i a b c;rw[bS]at c;exact aDy (L.gl d) (L.iP _ hm) (nB (by simp[c.1,c.2]) ih) c.1 c.2
    .exact xF
   .exact xF
  .split
   .rename_i h;simp only[bS,decide_eq_true_eq,Cn.bl]at h;obtain⟨g,⟨d,hm⟩,_⟩:=h;subst g;split
    .split
     .rename_i c;exact aDw L.K (L.gl d) (L.iP _ hm) (ih _).1 c
     .exact xF
    .exact xF
   .split
    .rename_i h;simp only[bS,decide_eq_true_eq,Cn.bl]at h;obtain⟨g,⟨d,hm⟩,_⟩:=h;subst g;split
     .split
      .rename_i c;rw[bS]at c;exact aDz L.K (L.gl d) (L.iP _ hm) (nB (by simp[c.1,c.2]) ih) c.1 c.2
      .exact xF
     .exact xF
    .exact DV L.K (ih _).1
 .split
  .split
   .exact aDv (ih _).1
   .exact DV L.K (ih _).1
  .exact xF
include L in
theorem GJ:∀{es:List aK}{l:Xp},xn C es=aA l->ei X T E es (wz l)/\es.all tF=aB/\l.length=es.length
 |[],l,h=>by cases h;exact⟨DU,rfl,rfl⟩
 |e::es,l,h=>by
  cases e with
  |Name x p=>
   simp only[xn]at h;split at h
   .rename_i b;split at h
    .rename_i i j c hl;cases h;obtain⟨d,f,g⟩:=GJ hl;have a:X.env.scope.names.lookup x=aA .local:=by rw[L.sc];exact of_decide_eq_true b
     exact⟨DT (Lj (L.N▸L.nd) (by rw[L.N];exact uM c) (.inl a)<|.inr a) d rfl,by rw[jY,f];rfl,by simp[g]⟩
    .cases h
   .cases h
  |_=>cases h
include L in
theorem Bk(e:aK):QG X T E e (pW<|xg C e):=by
 unfold xg;split
 .split
  .rename_i a;split
   .rename_i i b;have lc:∀{x:Str},C.sc.names.lookup x=aA .local->X.env.scope.names.lookup x=aA .local:=λ{x} h=>L.sc▸h;exact Lj (L.N▸L.nd) (by rw[L.N];exact uM b) (.inl<|lc<|of_decide_eq_true a)<|.inr<|lc<|of_decide_eq_true a
   .exact uV
  .exact uV
 .split
  .rename_i l hl;obtain⟨c,d,f⟩:=GJ L hl;show QG X T E _ (zR l.length<|wz l);rw[f];exact DS L.K L.calm c d
  .exact uV
 .exact uV
end
section
variable {C:Cn}
theorem Vy(ok:C.yV scope=aB):scope.kind = .function/\(∀y∈scope.names,y.2 ≠ .cell)/\(∀y∈scope.names,y.2 = .local->scope.names.lookup y.1=aA .local)/\(∀y∈scope.names,y.2 = .free->C.sc.names.lookup y.1=aA .cell)/\(yU scope).Nodup/\C.top=aB:=by simp only[Cn.yV,bS,decide_eq_true_eq,JS]at ok;exact⟨ok.1.1.1.1.1,ok.1.1.1.1.2,ok.1.1.1.2,ok.1.1.2,ok.1.2,ok.2⟩
theorem Lk.xm(L:Lk X T E C F)(ok:C.yV scope=aB):oV X (yU scope) scope:=by obtain⟨a,b,c,d,_⟩:=Vy ok;exact⟨a,b,c,λy e f=>by rw[L.sc];exact d y e f⟩
theorem Lk.imp(L:Lk X T E C F){i j:Nat}{x:Str}(e1:(yU scope)[i]?=aA x)(e2:(C.imp scope)[i]?=aA (aA j)):scope.names.lookup x=aA .free/\(x,jE)∈scope.names/\X.N[j]?=aA x:=by
 unfold Cn.imp at e2;rw[fH,e1]at e2;have a:(if decide (scope.names.lookup x=aA .free) then C.N.idxOf? x else aD)=aA j:=dR e2;split at a
 .rename_i h;have h:=of_decide_eq_true h;exact⟨h,zz h,by rw[L.N];exact uM a⟩
 .cases a
theorem Lk.comp(L:Lk X T E C F)(ok:C.yV scope=aB)(s:aI)(H:Hp)(a:Addr)(fp:Xk):Lk (X.comp (yU scope) scope s H a fp) T E0 (C.comp scope) F where
 K:=L.K
 N:=rfl
 sc:=by show relabel scope X.env=FJ scope C.sc;rw[<- L.sc];rfl
 nd:=(Vy ok).2.2.2.2.1
 fn:=λz=>by cases z
 calm:=L.calm
 po:=λz=>by cases z
 gv:=L.gv
 fns:=λi x h=>let ⟨k,f,fd,ps,F,hr,hm,l,hb,_⟩:=(L.fns i x h);⟨k,f,fd,ps,F,hr,hm,l,hb,λ_ _ _ _ _ _ _ z=>(oj z).elim⟩
 iP:=L.iP
 tab:=L.tab
 un:=L.un
 kU:=L.kU
 nH:=λm dp h c D g b d=>let ⟨k,f,fd,ps,F,hr,c,hm,hb,_⟩:=(L.nH m dp h c D g b d);⟨k,f,fd,ps,F,hr,c,hm,hb,λ_ _ _ _ _ _ _ z=>(oj z).elim⟩
 mQ:=λx n c i o h=>let ⟨k,C,f,fd,ps,ds,e,p,K,F,hr,hm,hb,q,j,_⟩:=(L.mQ x n c i o h);⟨k,C,f,fd,ps,ds,e,p,K,F,hr,hm,hb,q,j,λ_ _ _ _ _ _ _ z=>(oj z).elim⟩
 sJ:=L.sJ
 oY:=λx m i h=>let ⟨k,C,f,fd,ps,hm,F,hr,kp,b,d,r,t,hb,_⟩:=(L.oY x m i h);⟨k,C,f,fd,ps,hm,F,hr,kp,b,d,r,t,hb,λ_ _ _ _ _ _ _ z=>(oj z).elim⟩
end
theorem aJy{C:Cn}(L:Lk X T E C F)(ih:∀e,Q2 X T E F e (cE C n e))(o:aK)(m:Str)(apos pos:Pos)(es:List aK):Q2 X T E F (.Call (.Attribute o m apos) es [] pos) (C.Jr o m apos pos es (cE C n o)<|es.map<|cE C n):=by
 have l:∀{e:aK}{y:Ex},QE X T E e (aL F y)->si e=aB->(∀t,dI F y t=(aL F y t).bind cZ)->Q2 X T E F e y:=λ{e y} q pl A=>by refine⟨q,?_⟩;have:=rN L.K q pl;have B:dI F y=λt=>(aL F y t).bind cZ:=funext A;rw[B];exact this
 unfold Cn.Jr;split
 case isFalse=>exact dN
 case isTrue hb=>
  rw[bS]at hb;obtain⟨h,hl⟩:=hb;have blt:Q2 X T E F (.Call (.Attribute o m apos) es [] pos) (Vj o m (cE C n o)<|es.map<|cE C n):=by
   cases es with
   |nil=>
    show Q2 X T E F _ (Jv o m<|cE C n o);unfold Jv;split
    case isTrue hm=>simp only[bS,decide_eq_true_eq]at hm;obtain⟨hm,j⟩:=hm;subst hm;exact l (aDn L.K (ih _).1 j hl) rfl λ_=>rfl
    exact dN
   |cons a es=>
    rw[jY,bS]at h;cases es with
    |nil=>
     show Q2 X T E F _ (Jw o m (cE C n o)<|cE C n a);unfold Jw;split
     case isTrue hm=>simp only[bS,decide_eq_true_eq]at hm;obtain⟨hm,j⟩:=hm;subst hm;exact l (aCq L.K (ih _).1 (ih _).1 j h.1 hl) rfl λ_=>rfl
     split
     case isTrue j=>
      split
      .rename_i f u;exact l (DP u (by have:=L.un;omega) (ih _).1 (nB (by simp[h.1]) ih) j (by simp[h.1]) (by simp) hl) rfl λ_=>rfl
      .exact dN
     exact dN
    |cons b es=>
     obtain⟨k,d⟩:=h;rw[jY,bS]at d;cases es with
     |nil=>
      show Q2 X T E F _ (Jx o m (cE C n o) (cE C n a)<|cE C n b);unfold Jx;split
      case isTrue hm=>simp only[bS,decide_eq_true_eq]at hm;obtain⟨⟨hm,j⟩,_⟩:=hm;subst hm;exact l (aDa L.tab (ih _).1 (nB (by simp[k,d.1]) ih) j k d.1 hl) rfl λ_=>rfl
      split
      case isTrue j=>
       split
       .rename_i f u;exact l (DP u (by have:=L.un;omega) (ih _).1 (nB (by simp[k,d.1]) ih) j (by simp[k,d.1]) (by simp) hl) rfl λ_=>rfl
       .exact dN
      exact dN
     |cons c es=>exact dN
  split
  case h_1 i s=>
   split
   case isFalse=>exact dN
   case isTrue r=>
    simp only[bS,decide_eq_true_eq]at r;unfold Cn.Vw at s;cases o with
    |Name x p=>
     simp only[ib,jM]at s;split at s
     case isFalse=>cases s
     case isTrue v=>
      rw[bS]at v;cases es with
      |nil=>cases r.1|cons e es=>exact l (aCw (L.oY _ _ _ s) (L.gl v.2) (Aj v.1).1 (nB h ih) h r.2 hl) rfl λ_=>rfl
    |_=>cases s
  case h_2=>
   split
   case h_2=>exact blt
   case h_1 dp w=>
    split
    case isFalse=>exact dN
    case isTrue r=>
     rw[bS,decide_eq_true_eq]at r;have z:∀c D g,(λc=>(dp.lookup c).map F) c=aA g->T.C c=aA D->vZ X T (λ_=>E) D m g:=λc D g G H=>L.nH m dp w c D g G H;cases es with
     |nil=>exact l (aDi z (ih _).1 r.1 hl) rfl λ_=>rfl|cons e es=>exact l (aDh z (ih _).1 (nB h ih) r.1 h r.2 hl) rfl λ_=>rfl
theorem iA{T:Tab}{F:Run}:∀(n:Nat) {X:Cx}{E:XK}{C:Cn} (L:Lk X T E C F) (e:aK),Q2 X T E F e (cE C n e)
 |0,X,E,C,L,e=>dN
 |n+1,X,E,C,L,e=>by
  have d:∀e,Q2 X T E F e (cE C n e):=λe=>iA n L e;have m:∀{e:aK}{y:Ex},QE X T E e (aL F y)->si e=aB->(∀B,dI F y B=(aL F y B).bind cZ)->Q2 X T E F e y:=λ{e y} q pl u=>by refine⟨q,?_⟩;have:=rN L.K q pl;have w:dI F y=λB=>(aL F y B).bind cZ:=funext u;rw[w];exact this
  cases e
  case Name=>exact aJz L _ _
  case Constant=>exact aJw L _ _ _
  case BinOp a op b p=>
   show Q2 X T E F _ (Fu op (cE C n a)<|cE C n b);unfold Fu;split
   .rename_i o M;exact m (aDl (U9 L M) (d _).1 (d _).1) rfl λ_=>rfl
   .exact dN
  case UnaryOp op a p=>
   show Q2 X T E F _ (Gd op<|cE C n a);unfold Gd;split
   .exact⟨aDs aNl (d _).1,Mj⟩
   .exact⟨aDk L.K (d _).1,aHm (d _).2⟩
   .exact dN
  case Compare a os bs p=>
   show Q2 X T E F _ (Fx (cE C n) a os bs);unfold Fx;split
   .split
    .rename_i hb;exact⟨aCx (ij L _) (d _).1 (d _).1 (Bg hb),aHl (ij L _) (d _).1 (d _).1 (Bg hb)⟩
    .exact dN
   .split
    .rename_i D;exact⟨aCv (ij L _) (ij L _) (d _).1 (d _).1 (d _).1 (Bg D),aHk (ij L _) (ij L _) (d _).1 (d _).1 (d _).1 (Bg D)⟩
    .exact dN
   .exact dN
  case BoolOp op t p=>
   show Q2 X T E F _ (Fv op<|t.map<|cE C n);unfold Fv;cases t with
   |nil=>split<;>exact dN|cons v t=>
    split
    .obtain⟨I,J⟩:=Ug L d v t;exact⟨I,J.qt⟩
    .obtain⟨I,J⟩:=CO L d v t;exact⟨I,J.qt⟩
  case IfExp=>exact⟨aDb (d _).2 (d _).1 (d _).1,Mj⟩
  case Tuple r k p=>
   show Q2 X T E F _ (if r.all bW then .tup (lU<|r.map<|cE C n) else .bad);split
   .rename_i K;exact m (aDr<|nB K d) rfl λ_=>rfl
   .exact dN
  case List r p=>
   show Q2 X T E F _ (if r.all bW then .lst (lU<|r.map<|cE C n) else .bad);split
   .rename_i K;exact m (aDe<|nB K d) rfl λ_=>rfl
   .exact dN
  case Subscript a s p=>
   show Q2 X T E F _ (Gb C (cE C n) a s);unfold Gb;split
   .exact m (aDp L.K (d _).1 (CU d) (CU d)) rfl λ_=>rfl
   .split
    .rename_i hb;exact m (aDd (E6 L.K (by have:=L.un;omega)) (d _).1 (d _).1 (aJi hb)) rfl λ_=>rfl
    .exact dN
  case Call g r G p=>
   show Q2 X T E F _ (match xh C (cE C n) g r G with
    |some y=>y
    |none=>Fw C (cE C n) g r G p)
   split
   .rename_i h;exact aJx L d h
   unfold Fw;split
   .split
    .exact aJv L d _ _ _ _
    .exact aJy L d _ _ _ _ _
    .exact dN
   .exact dN
  case Dict G t p=>
   show Q2 X T E F _ (Fy (cE C n) G t);unfold Fy;split
   .exact m aCy rfl λ_=>rfl
   .exact dN
  case Attribute o f p=>
   show Q2 X T E F _ (Fs C o f<|cE C n o);unfold Fs;split
   .rename_i hb;split
    .rename_i cs D;exact m (aCz (L.kU _ _ D) (d _).1 hb) rfl λ_=>rfl
    all_goals exact dN
   .exact dN
  case ListComp elt gs scope p=>
   show Q2 X T E F _ (oh C (λN O=>cE N n O) elt gs scope);unfold oh;split
   .split
    .rename_i hb;rw[bS]at hb;have A:=λs H a l=>L.comp hb.1 s H a l;split
     .exact DM L rfl<|m (DO (ct:=aD) (L.xm hb.1) L.calm (ud L d _ _) (λs H a l=>Bk (A s H a l) _) (λc z=>by cases z) (λ_=>rfl) (λs H a l=>(iA n (A s H a l) _).1) (by simp[Cn.imp]) (λi j x u w=>L.imp u w) hb.2) rfl λ_=>rfl
     .exact DM L rfl<|m (DO (ct:=aA _) (L.xm hb.1) L.calm (ud L d _ _) (λs H a l=>Bk (A s H a l) _) (λc z s H a l=>by cases z;exact(iA n (A s H a l) _).2) (λz=>by cases z) (λs H a l=>(iA n (A s H a l) _).1) (by simp[Cn.imp]) (λi j x u w=>L.imp u w) hb.2) rfl λ_=>rfl
     .exact dN
    .exact dN
   .exact dN
  all_goals exact dN
def Bf:Xp->Hd->aF->aF
 |i::is,v::vs,Z=>Bf is vs (Z.set i<|aA v)
 |_,_,Z=>Z
def CS(is:Xp)(mr:M Hd)(Z:aF):M Out:=mr.bind λvs=>M.guard (vs.length=is.length) (M.ret<|.nx<|Bf is vs Z)
section
variable {a b:aK}{x y z:Str}{px pz pt:Pos}{kt k2:Nat}{pt2:Pos}{i j k:Nat}
theorem aHc(hc:X.calm=aB)(hN:X.N.Nodup)(hi:X.N[i]?=aA x)(hj:X.N[j]?=aA y)(hij:i≠j)(hx:X.env.scope.names.lookup x=aA .local)(hy:X.env.scope.names.lookup y=aA .local)(ha:QA X T E [a,b] mr)
  (hw:lq [.Tuple [.Name x px,.Name y py] kt pt] (.Tuple [a,b] k2 pt2) X.env=pure (aA [x,y])) :
  QS X T E (.Assign [.Tuple [.Name x px,.Name y py] kt pt] (.Tuple [a,b] k2 pt2) pos) (λZ=>CS [i,j] (mr Z) Z):=by
 obtain⟨r,pr,f⟩:=ha;refine⟨_,aBq hc hN hi hj hij hx hy pr hw,λg Z c h H D R S w=>f g Z c h H _ R S (W.bind w λk xs l h1 H1 m n o d=>?_)⟩;obtain⟨e,d⟩:=zT d;cases o with
 |nil=>cases e|cons p rs=>
  cases rs with
  |nil=>cases e|cons q rs=>
   cases rs with
   |nil=>exact⟨_,_,rfl,W.here (b:=jN.nx _) d n (((S.ext m).set p i).set q j)⟩|cons _ _=>cases e
end
mutual
inductive Tg where
 |bad
 |nm (i:Nat)
 |tup (n:Nat) (ts:wD)
 |sub (o i:Ex)
inductive wD where
 |nil
 |cons (t:Tg) (ts:wD)
end
mutual
inductive Sx where
 |bad|pass|brk|cnt|Bb
 |expr (e:Ex)
 |ret (e:Ex)
 |asg (t:Tg) (e:Ex)
 |ite (c:Ex) (a b:aQ)
 |uD (t:Tg) (it:Ir) (b:aQ)
 |kJ (d:Ex) (s:Sx)
 |Ce (c:Ex) (b:aQ)
 |par (is:Xp) (es:eJ)
 |gg (cs:Xp) (f:Str) (o e:Ex)
 |ot (cs:Xp) (f:Str) (o e:Ex)
 |aug (sub:Bool) (i:Nat) (e:Ex)
inductive aQ where
 |nil
 |cons (s:Sx) (ss:aQ)
end
mutual
noncomputable def oX(F:Run):Tg->AV->aF->M aF
 |.bad,_,_=>M.bad
 |.nm i,v,Z=>M.ret (Z.set i<|aA v)
 |.tup n ts,v,Z=>zR n (wF F ts) v Z
 |.sub o i,v,Z=>(aL F o Z).bind λx=>(aL F i Z).bind λy=>(oA x y v).bind λ_=>M.ret Z
noncomputable def wF(F:Run):wD->Hd->aF->M aF
 |.nil,vs,Z=>Ic vs Z
 |.cons t ts,vs,Z=>Ib (oX F t) (wF F ts) vs Z
end
mutual
noncomputable def eO(F:Run):Sx->aF->M Out
 |.bad,_=>M.bad
 |.pass,Z=>M.ret (.nx Z)
 |.brk,Z=>M.ret (.brk Z)
 |.cnt,Z=>M.ret (.cnt Z)
 |.Bb,_=>M.ret (.ret .aH)
 |.expr e,Z=>(aL F e Z).bind λ_=>M.ret (.nx Z)
 |.ret e,Z=>(aL F e Z).bind λv=>M.ret (.ret v)
 |.asg t e,Z=>(aL F e Z).bind λv=>(oX F t v Z).bind λZ1=>M.ret (.nx Z1)
 |.ite c a b,Z=>zp (dI F c Z) (jO F a Z) (jO F b Z)
 |.uD t it b,Z=>(cQ F it Z).bind λi=>kW i (oX F t) (jO F b) FU 0 Z
 |.kJ d s,Z=>mC (aL F d) (eO F s) Z
 |.Ce c b,Z=>vK (dI F c) (jO F b) FU Z
 |.par is es,Z=>CS is (dM F es Z) Z
 |.gg cs f o e,Z=>Yg cs f (aL F o Z) (aL F e Z) Z
 |.ot cs f o e,Z=>Ui cs f (aL F o Z) (aL F e Z) Z
 |.aug sub i e,Z=>nu sub i (aL F e Z) Z
noncomputable def jO(F:Run):aQ->aF->M Out
 |.nil,Z=>M.ret (.nx Z)
 |.cons s ss,Z=>FY (eO F s Z) (jO F ss)
end
def uj:List Tg->wD
 |[]=>.nil
 |t::ts=>.cons t (uj ts)
def cG(C:Cn):Nat->aK->Tg
 |0,_=>.bad
 |n+1,e=>match e with
  |.Name x _=>match C.slot x with
   |some i=>.nm i
   |none=>.bad
  |.Tuple es _ _=>if es.all tF then .tup es.length (uj<|es.map<|cG C n) else .bad
  |.Subscript a b _=>if bW b then .sub (cE C EF a) (cE C EF b) else .bad
  |_=>.bad
def vD:List Sx->aQ
 |[]=>.nil
 |s::ss=>.cons s (vD ss)
def cJ(C:Cn)(t:aK):Option Nat:=match t with
 |.Name x _=>if decide (C.sc.names.lookup x=aA .local) then C.N.idxOf? x else aD
 |_=>aD
def swL(C:Cn)(t e:aK):Bool:=decide (Nm (vW e (aA t) 0 { (default:Env)with scope:=C.sc })=aA aB)
def cL(C:Cn)(t e:aK):Sx:=match cJ C t with
 |some i=>if swL C t e then .asg (.nm i) (cE C EF e) else .bad
 |none=>.bad
def Nl(C:Cn)(t e:aK)(o:Option (List Str)):Bool:=decide (Nm (swE [t] e C.sc)=aA o)
def Am(C:Cn)(t e:aK)(ts vs:List aK):Bool:=ts.length==2&&vs.length==2&&ts.all (λt=>(cJ C t).isSome)&&decide ((ts.filterMap<|cJ C).Nodup)&&vs.all bW&&Nl C t e (aA<|ts.filterMap ib)
def cP(C:Cn)(t e:aK):Sx:=match t,e with
 |.Tuple ts _ _,.Tuple vs _ _=>if Am C t e ts vs then .par (ts.filterMap<|cJ C) (lU<|vs.map<|cE C EF) else .bad
 |_,_=>.bad
def D6:aK->Bool
 |.Attribute ..=>aB
 |_=>aG
def Fz(C:Cn)(t e:aK):Sx:=match t with
 |.Attribute o f _=>match C.kU.lookup f with
  |some cs=>if bW e then .gg cs f (cE C EF o) (cE C EF e) else .bad
  |none=>.bad
 |_=>.bad
def Ft(C:Cn)(t:aK)(op:rT)(e:aK):Sx:=match t with
 |.Name x _=>match C.slot x with
  |some i=>match op with
   |.Add=>.aug aG i (cE C EF e)
   |.Sub=>.aug aB i (cE C EF e)
   |_=>.bad
  |none=>.bad
 |.Attribute o f _=>match C.kU.lookup f with
  |some cs=>match op with
   |.Add=>.ot cs f (cE C EF o) (cE C EF e)
   |_=>.bad
  |none=>.bad
 |_=>.bad
def Ga(C:Cn)(o:Option aK):Sx:=match o with
 |none=>.Bb
 |some e=>.ret (cE C EF e)
def Vm(C:Cn)(t e:aK):Sx:=
 if uO e then cL C t e else
 if D6 t then Fz C t e else
 if bW e&&tF t&&Nl C t e aD then .asg (cG C 4 t) (cE C EF e) else
  cP C t e
def Fq(C:Cn)(ts:List aK)(e:aK):Sx:=match ts with
 |[t]=>Vm C t e
 |_=>.bad
def Cn.Bp(C:Cn)(it:aK)(d:Ex)(s:Sx):Sx:=if C.Iz it then .kJ d s else s
def cS(C:Cn):Nat->Stmt->Sx
 |0,_=>.bad
 |n+1,s=>match s with
  |.Pass _=>.pass
  |.Break _=>.brk
  |.Continue _=>.cnt
  |.Return o _=>Ga C o
  |.Expr e _=>if bW e && !uO e then .expr (cE C EF e) else .bad
  |.Assign ts e _=>Fq C ts e
  |.AugAssign t op e _=>Ft C t op e
  |.If c a b _=>.ite (cE C EF c) (vD<|a.map<|cS C n) (vD<|b.map<|cS C n)
  |.For t it b els _=>if els.isEmpty&&bW it then C.Bp it (cE C EF it) (.uD (cG C 4 t) (cI C (cE C EF) t it)<|vD<|b.map<|cS C n) else .bad
  |.While c b els _=>if els.isEmpty then .Ce (cE C EF c) (vD<|b.map<|cS C n) else .bad
  |_=>.bad
section
variable {C:Cn}(L:Lk X T E C F)(ht:C.top=aB)
theorem aMt{k:aF->AV->aF}(Z:aF):mC m0 (λZ=>(ma Z).bind λv=>(M.ret<|k Z v).bind λZ1=>M.ret (Out.nx Z1)) Z=(mC m0 ma Z).bind λv=>(M.ret<|k Z v).bind λZ1=>M.ret (Out.nx Z1):=by
 funext h
 simp only[M.bind,M.ret,mC];cases xo (m0 Z h) with
 |none=>rfl|some n=>
  dsimp only;cases h.ob n with
  |none=>rfl|some u=>
   cases u with
   |aR b=>
    cases ma Z h with
    |ok a c=>
     dsimp only[uk];cases c.ob n with
     |none=>rfl|some w=>cases w<;>rfl
    |bad=>rfl
   |_=>rfl
theorem EI{st:Stmt}{it:aK}{y:Ex}{i:Nat}(h:QS X T E st (λZ=>(aL F y Z).bind λv=>(M.ret<|Z.set i<|aA v).bind λZ1=>M.ret (.nx Z1))) :
  QS X T E st (λZ=>(aL F (C.kJ it d y) Z).bind λv=>(M.ret<|Z.set i<|aA v).bind λZ1=>M.ret (.nx Z1)):=by
 unfold Cn.kJ;split
 .have q:=EH (aL F d) h;have e:mC (aL F d) (λZ=>(aL F y Z).bind λv=>(M.ret<|Z.set i<|aA v).bind λZ1=>M.ret (Out.nx Z1))=λZ=>(aL F (.kJ d y) Z).bind λv=>(M.ret<|Z.set i<|aA v).bind λZ1=>M.ret (Out.nx Z1):=funext λZ=>aMt Z;rw[e]at q;exact q
 .exact h
theorem aHg{st:Stmt}{it:aK}{s:Sx}(h:QS X T E st (eO F s)):QS X T E st (eO F<|C.Bp it d s):=by
 unfold Cn.Bp;split
 .exact EH (aL F d) h
 .exact h
theorem aMs{f:aK->Tg}(hs:es.all tF=aB)(h:∀e,QG X T E e (oX F<|f e)):ei X T E es (wF F<|uj<|es.map f):=by
 induction es with
 |nil=>exact DU|cons e es a=>rw[jY,bS]at hs;exact DT (h e) (a hs.2) hs.1
include L ht in
theorem Nf:∀(n:Nat) (e:aK),QG X T E e (oX F<|cG C n e)
 |0,e=>uV
 |n+1,e=>by
  unfold cG;split
  .split
   .rename_i i a;unfold Cn.slot at a;split at a
    .rename_i hl;have c:∀{x:Str},C.loc x=aB->vY X.env.scope x:=λ{x} hl=>by rw[L.sc];simp only[Cn.loc,jy,decide_eq_true_eq]at hl;exact hl
     exact Lj (by rw[L.N];exact L.nd) (by rw[L.N];exact uM a) (c hl)<|.inl<|L.fn ht _
    .cases a
   .exact uV
  .split
   .rename_i b;exact DS L.K L.calm (aMs b<|Nf n) b
   .exact uV
  .split
   .rename_i b;exact aDu (by have:=L.un;omega) (iA EF L _).1 (iA EF L _).1 b
   .exact uV
  .exact uV
theorem ui{ss:Xm}{f:Stmt->Sx}(h:∀s,QS X T E s (eO F<|f s)):wC X T E ss (jO F<|vD<|ss.map f):=by
 induction ss with
 |nil=>exact aHj|cons s ss a=>exact aHi (h s) a
theorem Nd{t:aK}(h:(cJ C t).isSome=aB):∃x p i,t = .Name x p/\cJ C t=aA i/\C.sc.names.lookup x=aA .local/\C.N[i]?=aA x:=by
 cases t with
 |Name x p=>
  obtain⟨i,a⟩:=Option.isSome_iff_exists.mp h;refine⟨x,p,i,rfl,a,?_⟩;have a:(if decide (C.sc.names.lookup x=aA .local)=aB then C.N.idxOf? x else aD)=aA i:=a;by_cases e:C.sc.names.lookup x=aA .local
  .rw[if_pos (decide_eq_true e)]at a;exact⟨e,uM a⟩
  .rw[if_neg (mt of_decide_eq_true e)]at a;cases a
 |_=>cases h
theorem BD{α:Type}{l:List α}(h:l.length=2):∃a b,l=[a,b]:=by
 match l,h with
 |[a,b],_=>exact⟨a,b,rfl⟩
theorem GR{t:aK}{o:Option (List Str)}(hs:X.env.scope=C.sc)(h:Nl C t e o=aB):lq [t] e X.env=pure o:=by have h:=GS (of_decide_eq_true h);rw[<- hs]at h;exact h
include L ht in
theorem aJu(t e:aK)(pJ:Pos):QS X T E (.Assign [t] e pJ) (eO F<|cP C t e):=by
 cases t with
 |Tuple d m pt=>
  cases e with
  |Tuple f k2 n=>
   show QS X T E _ (eO F<|if Am C (.Tuple d m pt) (.Tuple f k2 n) d f then .par (d.filterMap<|cJ C) (lU<|f.map<|cE C EF) else .bad);by_cases ok:Am C (.Tuple d m pt) (.Tuple f k2 n) d f=aB
   .rw[if_pos ok];unfold Am at ok;rw[bS,bS,bS,bS,bS]at ok;obtain⟨⟨⟨⟨⟨o,p⟩,k⟩,c⟩,g⟩,l⟩:=ok;obtain⟨t1,q,rfl⟩:=BD (eq_of_beq o);obtain⟨a,b,rfl⟩:=BD (eq_of_beq p);have sl:=List.all_eq_true.mp k;obtain⟨x,r,i,rfl,s,u,g1⟩:=Nd (sl t1<|.head _);obtain⟨y,py,j,rfl,v,w,g2⟩:=Nd (sl q<|.tail _<|.head _);have c:=of_decide_eq_true c;have z:[Expr.Name x r,.Name y py].filterMap (cJ C)=[i,j]:=by rw[KB s,KB v];rfl
    rw[z]at c ⊢;have lc:∀{x:Str},C.sc.names.lookup x=aA .local->X.env.scope.names.lookup x=aA .local:=λ{x} h=>L.sc▸h;exact aHc L.calm (by rw[L.N];exact L.nd) (by rw[L.N];exact g1) (by rw[L.N];exact g2) (λe=>(List.nodup_cons.mp c).1 (e ▸ .head _)) (lc u) (lc w) (nB g<|iA EF L)<|GR L.sc l
   .rw[if_neg ok];exact iU
  |_=>exact iU
 |_=>exact iU
include L ht in
theorem aJt(t e:aK)(pJ:Pos)(hlc:uO e=aB):QS X T E (.Assign [t] e pJ) (eO F<|cL C t e):=by
 unfold cL;split
 .rename_i i p;obtain⟨y,py,j,rfl,u,k,d⟩:=Nd (by rw[p];rfl);cases p.symm.trans u;split
  .rename_i l;rw[<- L.N]at d;rw[<- L.sc]at k;have q:X.N.Nodup:=L.N▸L.nd;cases e with
   |ListComp elt gens scope pos=>
    have f:vW (.ListComp elt gens scope pos) (aA<|.Name y py) pJ.line X.env=pure aB:=by have h:=GS (of_decide_eq_true l);rw[<- L.sc]at h;exact h
    show QS X T E _ (λr=>(aL F (oh C (λw A=>cE w 39 A) elt gens scope) r).bind λv=>(M.ret<|r.set i<|aA v).bind λm=>M.ret (.nx m));unfold oh;split
    .split
     .rename_i hb;rw[bS]at hb;have g:=λs H a b=>L.comp hb.1 s H a b;split
      .exact EI<|EG (ct:=aD) q d k f (L.xm hb.1) L.calm (ud L (iA 39 L) _ _) (λs H a b=>Bk (g s H a b) _) (λc z=>by cases z) (λ_=>rfl) (λs H a b=>(iA 39 (g s H a b) _).1) (by simp[Cn.imp]) (λi j x n o=>L.imp n o) hb.2
      .exact EI<|EG (ct:=aA _) q d k f (L.xm hb.1) L.calm (ud L (iA 39 L) _ _) (λs H a b=>Bk (g s H a b) _) (λc z s H a b=>by cases z;exact(iA 39 (g s H a b) _).2) (λz=>by cases z) (λs H a b=>(iA 39 (g s H a b) _).1) (by simp[Cn.imp]) (λi j x n o=>L.imp n o) hb.2
      .exact iU
     .exact iU
    .exact iU
   |_=>cases hlc
  .exact iU
 .exact iU
theorem aKs{v o:aK}{f:Str}{l:Nat}(h:bW v=aB)(hn:uO v=aG):vW v (aA<|.Attribute o f p) l env=pure aG:=by cases v<;>first|rfl|cases h|cases hn
include L in
theorem aJs(t e:aK)(pJ:Pos)(hlc:uO e=aG):QS X T E (.Assign [t] e pJ) (eO F<|Fz C t e):=by
 unfold Fz;split
 .split
  .rename_i cs a;split
   .rename_i b;exact aGy (L.kU _ _ a) (iA EF L _).1 (iA EF L _).1 (aKs b hlc)
   .exact iU
  .exact iU
 .exact iU
include L ht in
theorem aJr(t:aK)(op:rT)(e:aK)(pos:Pos):QS X T E (.AugAssign t op e pos) (eO F<|Ft C t op e):=by
 unfold Ft;split
 .rename_i x d;split
  .rename_i i a;unfold Cn.slot at a;split at a
   .rename_i hl;have b:vY X.env.scope x:=by rw[L.sc];simp only[Cn.loc,jy,decide_eq_true_eq]at hl;exact hl
    split
    .exact ED aG (L.N▸L.nd) (by rw[L.N];exact uM a) b (.inl<|L.fn ht _) (iA EF L _).1
    .exact ED aB (L.N▸L.nd) (by rw[L.N];exact uM a) b (.inl<|L.fn ht _) (iA EF L _).1
    .exact iU
   .cases a
  .exact iU
 .split
  .rename_i cs c;split
   .exact aGz (L.kU _ _ c) (iA EF L _).1 (iA EF L _).1
   .exact iU
  .exact iU
 .exact iU
include L ht in
theorem GK:∀(n:Nat) (s:Stmt),QS X T E s (eO F<|cS C n s)
 |0,s=>iU
 |n+1,s=>by
  have h:=GK n;cases s
  case Pass=>exact aHd
  case Break=>exact aGv
  case Continue=>exact aGw
  case Return o p=>
   show QS X T E _ (eO F<|Ga C o);unfold Ga;split
   .exact aHf
   .exact aHe (iA EF L _).1
  case Expr e p=>
   show QS X T E _ (eO F<|if bW e && !uO e then .expr (cE C EF e) else .bad);split
   .rename_i a;rw[bS,JB]at a;exact aGx (iA EF L _).1 a.1 a.2
   .exact iU
  case Assign i e d=>
   show QS X T E _ (eO F<|Fq C i e);unfold Fq;split
   case h_2=>exact iU
   case h_1 t=>
    unfold Vm;split
    .rename_i g;exact aJt L ht t e d g
    .rename_i g;split
     .exact aJs L t e d (by simpa using g)
     split
     .rename_i a;rw[bS,bS]at a;exact aGu (iA EF L _).1 (Nf L ht 4 _) a.1.1 (by simpa using g) a.1.2 (GR L.sc a.2)
     .exact aJu L ht t e d
  case AugAssign=>exact aJr L ht _ _ _ _
  case If=>exact aHb (iA EF L _).2 (ui h) (ui h)
  case For t it b f p=>
   show QS X T E _ (eO F<|if f.isEmpty&&bW it then C.Bp it (cE C EF it) (.uD (cG C 4 t) (cI C (cE C EF) t it)<|vD<|b.map<|cS C n) else .bad);split
   .rename_i a;rw[bS]at a;cases f with
    |nil=>exact aHg<|aHa (L.po ht) L.calm (ud L (iA EF L) _ _) (Nf L ht 4 _) (ui h) a.2|cons _ _=>cases a.1
   .exact iU
  case While c b f p=>
   show QS X T E _ (eO F<|if f.isEmpty then .Ce (cE C EF c) (vD<|b.map<|cS C n) else .bad);split
   .rename_i a;cases f with
    |nil=>exact aHh (L.po ht) (iA EF L _).2 (ui h)|cons _ _=>cases a
   .exact iU
  all_goals exact iU
end
abbrev Pg:=Nat->Option (Nat×Nat×aQ)
def CQ:Out->M AV
 |.nx _=>M.ret .aH
 |.ret v=>M.ret v
 |_=>M.bad
def run(P:Pg):Nat->Run
 |0,_,_=>M.bad
 |k+1,f,args=>match P f with
  |none=>M.bad
  |some (np,nn,b)=>M.guard (args.length=np) ((jO (run P k) b<|args.map aA++eR (nn-np) aD).bind CQ)
def WA:Stmt->Xm
 |.ClassDef _ _ _ body ..=>body
 |_=>[]
structure Df where
 name:Str
 qual:Str
 st:Stmt
 N:Xo
 ps:Xo
structure Pr where
 defs:List Df
 zH:Nat
 pw:Xs
 iP:Xo
 IZ:List (Str×Nat):=[]
 cat:List (Str×YK):=[]
 AA:List (Str×YK):=[]
 kU:List (Str×Xp):=[]
 nH:List (Str×Xr):=[]
 mQ:List ((Str×Nat)×(Nat×Nat×Hd)):=[]
 sJ:List (Str×YK):=[]
 oY:List (Str×List (Str×Nat)):=[]
 Gx:Xo:=[]
def SF:Nat:=30
def Pr.cn(p:Pr)(d:Df):Cn:=⟨d.N,qD d.st,(p.defs.take p.zH).map (·.name),p.pw,p.iP,p.IZ,p.cat,p.AA,aB
 ,p.kU,p.nH,p.mQ,p.sJ,p.oY
 ,p.Gx
 ⟩
def Pr.bodyOf(p:Pr)(d:Df):Nat×Nat×aQ:=(d.ps.length,d.N.length,vD ((fz d.st).map (cS (p.cn d) SF)))
def Pr.ir(p:Pr):Pg:=λi=>(p.defs[i]?).map p.bodyOf
structure Tn(K:bI)(x qual:Str)(st:Stmt)(f:Addr)(fd:eW):Prop where
 ex:∃(oc:Value) (od:YM) (dV kV doc pm:Value) (an:YM) (cdv ct:Value) (osl:YJ),
  fd=ky x qual (xr st) (fz st) (qD st) dV kV doc pm an cdv ct/\K.lookup f=aA ⟨oc,od,.func fd,osl⟩/\Rk K cdv qual=aB
 kp:tL K (.ref f)=aB
theorem xb{K:bI}{ds:He}{D:Addr}{o:Obj}(hd:fd.defaults = .ref D)(l:K.lookup D=aA o)(hs:o.data = .seq items n)
  (h:∀us:He,(us++ds).length=ps.length->∃k,bindArgs fd ⟨us,[]⟩=cz fd.defaults>>=k/\k (aA items)=pure (ps.zip<|us++ds)):Binds K fd ps ds:=λs us X hl=>
 let ⟨_,h1,a⟩:=h us hl;BindsTo.of_defaults hd (X _ _ l) hs h1 a
structure Ep(K:bI)(d:Df)(f:Addr)(fd:eW):Prop where
 fn:Tn K d.name d.qual d.st f fd
 bd:Binds K fd d.ps []
 sc:mn d.N d.ps (qD d.st)
inductive jF(K:bI):List Df->Xk->List eW->Prop
 |nil:jF K [] [] []
 |cons {d:Df}{a:Addr}{f:eW}{ds:List Df}{as:Xk}{fs:List eW} (h:Ep K d a f) (t:jF K ds as fs):jF K (d::ds) (a::as) (f::fs)
theorem jF.get{K:bI}{ds:List Df}{as:Xk}{fs:List eW}(h:jF K ds as fs){f0:eW}:∀(i:Nat) d,ds[i]?=aA d->Ep K d (as.getD i 0) (fs.getD i f0):=by
 induction h with
 |nil=>intro i d e;simp at e|cons h t a=>
  intro i d e;cases i with
  |zero=>cases(e);exact h|succ i=>exact a i d e
theorem aNp{α:Type}{us:List α}(h:us.length=0):us=[]:=De h
theorem Ob{α:Type}{us:List α}(h:us.length=1):∃a0,us=[a0]:=by obtain⟨a,r,rfl⟩:=xT h;obtain rfl:=aNp (by simpa using h);exact⟨a,rfl⟩
theorem jk{α:Type}{us:List α}(h:us.length=2):∃a0 a1,us=[a0,a1]:=by obtain⟨a,r,rfl⟩:=xT h;obtain⟨b,rfl⟩:=Ob (by simpa using h);exact⟨a,b,rfl⟩
theorem Oc{α:Type}{us:List α}(h:us.length=3):∃a0 a1 a2,us=[a0,a1,a2]:=by obtain⟨a,r,rfl⟩:=xT h;obtain⟨b,b1,rfl⟩:=jk (by simpa using h);exact⟨a,b,b1,rfl⟩
theorem Od{α:Type}{us:List α}(h:us.length=4):∃a0 a1 a2 a3,us=[a0,a1,a2,a3]:=by obtain⟨a,r,rfl⟩:=xT h;obtain⟨b,b1,b2,rfl⟩:=Oc (by simpa using h);exact⟨a,b,b1,b2,rfl⟩
theorem HS{α:Type}{us:List α}(h:us.length=5):∃a0 a1 a2 a3 a4,us=[a0,a1,a2,a3,a4]:=by obtain⟨a,r,rfl⟩:=xT h;obtain⟨b,b1,b2,c,rfl⟩:=Od (by simpa using h);exact⟨a,b,b1,b2,c,rfl⟩
theorem HU{α:Type}{us:List α}(h:us.length=6):∃a0 a1 a2 a3 a4 a5,us=[a0,a1,a2,a3,a4,a5]:=by obtain⟨a,r,rfl⟩:=xT h;obtain⟨b,b1,b2,c,d,rfl⟩:=HS (by simpa using h);exact⟨a,b,b1,b2,c,d,rfl⟩
theorem aNq{α:Type}{us:List α}(h:us.length=7):∃a0 a1 a2 a3 a4 a5 a6,us=[a0,a1,a2,a3,a4,a5,a6]:=by obtain⟨a,r,rfl⟩:=xT h;obtain⟨b,b1,b2,c,d,e,rfl⟩:=HU (by simpa using h);exact⟨a,b,b1,b2,c,d,e,rfl⟩
theorem HV{α:Type}{us:List α}(h:us.length=8):∃a0 a1 a2 a3 a4 a5 a6 a7,us=[a0,a1,a2,a3,a4,a5,a6,a7]:=by obtain⟨a,r,rfl⟩:=xT h;obtain⟨b,b1,b2,c,d,e,f,rfl⟩:=aNq (by simpa using h);exact⟨a,b,b1,b2,c,d,e,f,rfl⟩
structure Fa(P:cC)(w:bV)(p:Pr)(T:Tab)(mg:Str->Xl)(ad:Nat->Addr)(fds:Nat->eW):Prop where
 df:∀(i:Nat) d,p.defs[i]?=aA d->Ep T.K d (ad i) (fds i)
 gn:∀(i:Nat) d,(p.defs.take p.zH)[i]?=aA d->mg d.name=aA (.ref<|ad i)
 gv:∀x v,p.pw.lookup x=aA v->∃u v',mg x=aA u/\RelV v' u/\∀Y H,aW T Y H v v'
 bl:∀x,p.iP.contains x=aB->mg x=aD
 tab:∀(kvs:Xu) a,T.G kvs a->mx P w T.K a kvs
 kU:∀f cs,p.kU.lookup f=aA cs->dw T.K T cs f
 nH:∀m dp,p.nH.lookup m=aA dp->∀c i,dp.lookup c=aA i->∃d D,p.defs[i]?=aA d/\T.C c=aA D/\mX T.K D/\wc T.K D m (ad i)
 mQ:∀x n c i dv,p.mQ.lookup (x,n)=aA (c,i,dv)->∃d D ds dvs,p.defs[i]?=aA d/\T.C c=aA D/\Mk T.K D (ad i)/\mg x=aA (.ref D)/\Binds T.K (fds i) d.ps ds/\Vals dvs ds/\∀Y H,bE T Y H dv dvs
 sJ:∀y cs,p.sJ.lookup y=aA cs->∃D:Addr,mg y=aA (.ref D)/\∀k b,cs.lookup k=aA b->∃D':Addr,T.C k=aA D'/\Tq T.K D'/\Rn T.K (.ref D') (.ref D)=aA b
 oY:∀x m i,(p.oY.lookup x).bind (·.lookup m)=aA i->∃d D,p.defs[i]?=aA d/\mg x=aA (.ref D)/\tL T.K (.ref<|ad i)=aB /\
  Ed T.K (.ref D) "__getattribute__"=aA (aA<|.builtin "type.__getattribute__")/\Ru T.K D (.type "type")=aB/\Rm T.K (.ref D) (.type "type") m=aA (.val<|.ref<|ad i)/\Ea (.ref<|ad i)=aB
theorem G0{K:bI}{o:Obj}{kvs:Xu}(l:K.lookup a=aA o)(e:Dw Qy (λ_=>aA o) a (kvs.map λp=>(p.1,rV p.2))=aB)
  (n:(kvs.map (·.1)).Nodup)(q:Dv (λ_=>aA o) a=(kvs.map λp=>(p.1,rV p.2)).map λp=>(Rz P w).hash p.1):mx P w K a kvs:=λh x=>by
 have c:Dw Qy (λb=>K.lookup b) a (kvs.map λp=>(p.1,rV p.2))=aB:=by rw[<- e];simp only[Dw,l]
 have d:Dv (λb=>K.lookup b) a=(kvs.map λp=>(p.1,rV p.2)).map λp=>(Rz P w).hash p.1:=by rw[<- q];simp only[Dv,l]
 have:=W.kt_tab_in P w x c (by rw[iC];exact n) d;rw[iC]at this;exact this
section
variable {mg:Str->Xl}{base:bH}{p:Pr}{ad:Nat->Addr}{fds:Nat->eW}
theorem aKm{args:Hd}{vs:Hg}{N:Xo}(r:bE T Y H args vs)(hn:N.length=n):cV T Y H (args.map aA++eR (n-args.length) aD) (L2.start N vs):=by
 subst hn;unfold L2.start;have hl:=r.length;refine⟨by simp[hl],λi v e=>?_⟩;by_cases b:i<args.length
 .rw[xU (by simpa),fH]at e;cases q:args[i]? with
  |none=>rw[q]at e;cases e|some a=>rw[q]at e;cases e;obtain⟨y,h1,c⟩:=r.get q;exact⟨y,by rw[xU (by rw[aU,<- hl];exact b),fH,h1];rfl,c⟩
 .rw[Qa (by simpa using b),Di]at e;split at e<;>cases e
theorem u0{K:bI}{x qual:Str}{st:Stmt}{f:Addr}{N:Xo}{k:Nat}(F:Tn K x qual st f fd)(S:mn N ps (qD st))(len:∀vs H Q E,sp vs H Q E->vs.length=ps.length)
  (Ig:∀(cdv:Value) (A:cK) (outer:YG) (s:aI) (H:Hp) (vs:Hg) (Q:VK) (E:XK),fK k (A.deeper<|vU qual (qD st) s.heap.objs.size f cdv)->sp vs H Q E ->
   ∃t,rY (wN (kP P w) P w K mg base N qual (qD st) f cdv A outer s H E) (fz st) t/\t { nx:=λ_ H'=>Q .aH H',rt:=Q } (L2.start N vs) H):iN P w K mg base (kP P w) (k+1) f fd ps sp:=by
 obtain⟨d,od,e,kV,doc,pm,an,cdv,ct,c,rfl,lk,a⟩:=F.ex;exact r9 lk a S len λA outer s H vs Q E hr b=>Ig cdv A outer s H vs Q E hr b
theorem FW(O:Fa P w p T mg ad fds):∀(k i:Nat) (d:Df),p.defs[i]?=aA d->iN P w T.K mg base (kP P w) (2*k+2) (ad i) (fds i) d.ps (tE T<|run p.ir k i)
 |0,i,d,hd=>⟨λy H Q E ⟨z,h,args,_,_,w⟩=>w.elim,λA outer s H args us y Q E _ _ _ _ ⟨z,h,ar,_,_,w⟩=>w.elim⟩
 |k+1,i,d,hd=>by
  have B:=FW O k;have D:=O.df i d hd;have u:p.ir i=aA (p.bodyOf d):=by unfold Pr.ir;rw[hd];rfl
  refine u0 D.fn D.sc (λy H Q E h=>?_)<|λI A outer s H y Q E hr h=>?_
  .obtain⟨z,h,args,R,r,w⟩:=h;simp only[run,u,Pr.bodyOf]at w;obtain⟨hl,_⟩:=zT w;rw[<- r.length,hl]
  .obtain⟨z,h,args,R,r,C⟩:=h;simp only[run,u]at C;obtain⟨hl,C⟩:=zT C;have L:Lk (wN (kP P w) P w T.K mg base d.N d.qual (qD d.st) (ad i) I A outer s H E) T E (p.cn d) (run p.ir k):={
    K:=rfl
    N:=rfl
    sc:=rfl
    nd:=D.sc.nd
    fn:=λ_ _=>rfl
    calm:=rfl
    po:=λ_=>PassesOwn.leaving
    gv:=O.gv
    fns:=λj x hx=>by
     have b:((p.defs.take p.zH).map (·.name))[j]?=aA x:=hx;rw[fH]at b;cases q:(p.defs.take p.zH)[j]? with
     |none=>rw[q]at b;cases b|some a=>
      rw[q]at b;cases b;have f:p.defs[j]?=aA a:=by
       rw[KO]at q;split at q
       .exact q
       .cases q
      have l:=O.df j a f;exact⟨2*k+2,ad j,fds j,a.ps,B j a f,hr,O.gn j a q,l.fn.kp,l.bd,An⟩
    iP:=O.bl
    tab:=O.tab
    un:=hr.units
    kU:=O.kU
    nH:=λm dp h c D g h1 J=>by obtain⟨j,hj,e⟩:=Option.map_eq_some_iff.mp h1;subst e;obtain⟨a,l,f,F,M,S⟩:=O.nH m dp h c j hj;rw[J]at F;cases F;exact⟨2*k+2,ad j,fds j,a.ps,B j a f,hr.mono (jL _),M,S,(O.df j a f).bd,An⟩
    mQ:=λx n c j dv h=>by obtain⟨a,l,ds,U,f,F,M,S,c3,c4,c5⟩:=O.mQ x n c j dv h;exact⟨2*k+2,l,ad j,fds j,a.ps,ds,U,F,M,B j a f,hr,S,c3,c4,c5,An⟩
    sJ:=O.sJ
    oY:=λx m j h=>by obtain⟨a,l,f,hm,kp,h1,J,h3,h4⟩:=O.oY x m j h;exact⟨2*k+2,l,ad j,fds j,a.ps,hm,B j a f,hr.mono (jL _),kp,h1,J,h3,h4,(O.df j a f).bd,An⟩
   }
   obtain⟨t,ps,rs⟩:=ui (GK L rfl SF);refine⟨t,ps,rs z _ (L2.start d.N y) h H _ R ?_ (W.bind C λY1 o Y h1 H1 e1 YV X G=>?_)⟩
   .rw[<- hl];exact aKm r rfl
   .cases o with
    |nx Z=>cases Y with
     |nx Z'=>exact(W.here G YV aW.aH:Q V.aH H1)|_=>cases X
    |ret v=>cases Y with
     |ret v'=>exact(W.here G YV X:Q v' H1)|_=>cases X
    |brk Z=>cases G|cnt Z=>cases G
def Nh(K:bI):Sp:=λvs H Q _=>∃(a:Addr) (ns:Xj),vs=[.ref a]/\pR K H a (ns.map V.int)/\ns.length<=63/\∀H',Q (.bl aB) H'
def h0(ns:Xj):AH:=⟨1,λm=>if m=0 then aA (.lst aG<|ns.map AV.int) else aD⟩
def Keeps(P:Pg)(k i:Nat):Prop:=∀ns:Xj,ns.length<=63->∃h',run P k i [.ref 0] (h0 ns) = .ok (.bl aB) h'
theorem z8(h:pR T.K H a (ns.map V.int)):bP T [a] (h0 ns) H:=by
 have z:∀{n:Nat}{o:bG},(h0 ns).ob n=aA o->n=0/\o = .lst aG (ns.map AV.int):=λ{n o} e=>by
  have c:(if n=0 then aA (bG.lst aG<|ns.map AV.int) else aD)=aA o:=e;by_cases hn:n=0
  .rw[if_pos hn]at c;exact⟨hn,(dR c).symm⟩
  .rw[if_neg hn]at c;cases c
 refine⟨rfl,λn o e=>?_,λn o b e q=>?_,λn m b o u d f g i _ _=>?_⟩
 .rw[(z e).1];exact LV
 .obtain⟨rfl,rfl⟩:=z e;cases q;exact⟨_,h,bE.ints ns⟩
 .rw[(z d).1,(z f).1]
theorem I0(O:Fa P w p T mg ad fds){k i:Nat}{d:Df}(hd:p.defs[i]?=aA d)(h:Keeps p.ir k i):iN P w T.K mg base (kP P w) (2*k+2) (ad i) (fds i) d.ps (Nh T.K):=by refine(FW O k i d hd).imp λl H Q E c=>?_;obtain⟨a,ns,e,f,hl,q⟩:=c;subst e;obtain⟨m,e⟩:=h ns hl;refine⟨[a],h0 ns,[.ref 0],z8 f,.cons (.ref rfl) .nil,?_⟩;rw[e];intro g b j _ _ r;cases r;exact q j
theorem u4{K:bI}{xs:Hg}(ho:wg H)(h:dH K H a xs):pR K H a xs:=by
 rcases h with(h|h)|h
 .rcases ho a with z|⟨o,ys,z⟩
  .rw[h]at z;cases z
  .rw[h]at z;cases z
 .exact .inl h
 .exact .inr h
end
theorem walk{l:Ri}{q:cC}{loose:Xo}{XP:(Str->Xl)->bH->Prop}{YP:bV->bH->Prop}{d:DefRec}{K:bU->bI}{k:Nat}{x:Str}(hn:l.most=aA 63)(hdf:d.params.defaults=[])(hr:fK k yD)
  (hY:∀(w:bV) (h:bH),YP w h->(K w.params).In h)
  (F:∀(w:bV) (mg:Str->Xl) (fa:Addr) (h:bH),(K w.params).In h->h.Ns iK mg->mg d.name=aA (.ref fa) ->
   ∃fd:eW,(∀(s:aI) (u:Value),jw s fd ⟨[u],[]⟩ [(x,u)])/\∀base:bH,(K w.params).In base->base.Ns iK mg->iN l.prog w (K w.params) mg base (kP l.prog w) k fa fd [x] (Nh<|K w.params)) :
  MS q loose XP YP l.row.toRowW d [] (λf vs=>Ry f vs):=
 L2.aNy hn (by decide) hdf hr hY F (λ_ _ a ns hl b c=>⟨a,ns,rfl,u4 b c,hl,λ_=>rfl⟩) λ_ _ _ _ _ z=>oj z
def We{α:Type}(m:M α)(h:AH)(Q:α->AH->Prop):Prop:=match m h with
 |.ok a h'=>Q a h'
 |.bad=>False
abbrev Wp{α:Type}(m:M α)(h:AH)(Q:α->AH->Prop):Prop:=We m h Q
section
variable {α β:Type}{m:M α}{k:α->M β}{h':AH}{Q:α->AH->Prop}{Q2:β->AH->Prop}
theorem bK(w:We m h λa h1=>We (k a) h1 Q2):We (M.bind m k) h Q2:=by
 unfold We at w ⊢;unfold M.bind;cases e:m h with
 |ok a h1=>rw[e]at w;exact w|bad=>rw[e]at w;exact w.elim
theorem We.mono{Q':α->AH->Prop}(w:We m h Q)(f:∀a h1,Q a h1->Q' a h1):We m h Q':=by
 unfold We at w ⊢;cases e:m h with
 |ok a h1=>rw[e]at w;exact f a h1 w|bad=>rw[e]at w;exact w.elim
theorem We.eq{a:α}(e:m h = .ok a h')(q:Q a h'):We m h Q:=by unfold We;rw[e];exact q
theorem We.ex(w:We m h Q):∃a h',m h = .ok a h'/\Q a h':=by
 unfold We at w;cases e:m h with
 |ok a h1=>rw[e]at w;exact⟨a,h1,rfl,w⟩|bad=>rw[e]at w;exact w.elim
theorem jr{p:Prop} [Decidable p] (hp:p)(w:We m h Q):We (M.guard p m) h Q:=by unfold We at w ⊢;unfold M.guard;rw[if_pos hp];exact w
variable {V1:AV->AH->Prop}{B1:Bool->AH->Prop}{L1:Hd->AH->Prop}
theorem Cj{i:Nat}(e:Z[i]?=aA (aA v))(q:V1 v h):We (aL F (.var i) Z) h V1:=by show We (uJ i Z) h V1;unfold We uJ;rw[e];exact q
theorem aQf{o:Op}{a b:Ex}(w:We (aL F a Z) h λx h1=>We (aL F b Z) h1 λy h2=>We (o.g x y) h2 V1):We (aL F (.op o a b) Z) h V1:=bK (w.mono λ_ _ z=>bK z)
theorem aPw{o:Cp}{a b:Ex}(w:We (aL F a Z) h λx h1=>We (aL F b Z) h1 λy h2=>We (o.g x y) h2 V1):We (aL F (.cmp o a b) Z) h V1:=bK (w.mono λ_ _ z=>bK z)
theorem aQd{a:Ex}(w:We (aL F a Z) h λx h1=>We (pv x) h1 V1):We (aL F (.neg a) Z) h V1:=bK w
theorem aQe{a:Ex}(w:We (aL F a Z) h λx h1=>We (cZ x) h1 λb h2=>V1 (.bl<|!b) h2):We (aL F (.not a) Z) h V1:=bK (w.mono λ_ _ z=>bK z)
theorem aPs{a b:Ex}(w:We (aL F a Z) h λx h1=>We (cZ x) h1 λt h2=>if t=aB then We (aL F b Z) h2 V1 else V1 x h2):We (aL F (.and a b) Z) h V1:=
 bK (w.mono λx _ z=>bK (z.mono λt _ y=>by
  cases t with
  |true=>exact y|false=>exact y))
theorem aQg{a b:Ex}(w:We (aL F a Z) h λx h1=>We (cZ x) h1 λt h2=>if t=aB then V1 x h2 else We (aL F b Z) h2 V1):We (aL F (.or a b) Z) h V1:=
 bK (w.mono λx _ z=>bK (z.mono λt _ y=>by
  cases t with
  |true=>exact y|false=>exact y))
theorem aQa{c a b:Ex}(w:We (dI F c Z) h λt h1=>if t=aB then We (aL F a Z) h1 V1 else We (aL F b Z) h1 V1):We (aL F (.ite c a b) Z) h V1:=bK (w.mono λt _ y=>by
 cases t with
 |true=>exact y|false=>exact y)
theorem IS{o:Cp}{a b c:Ex}(w:We (aL F a Z) h λx h1=>We (aL F b Z) h1 λy h2=>We (o.g x y) h2 λz h3=>∃t,z = .bl t/\if t=aB then We (aL F c Z) h3 λu h4=>We (o'.g y u) h4 V1 else V1 (.bl aG) h3) :
 We (aL F (.chain o o' a b c) Z) h V1:=bK (w.mono λx _ z=>bK (z.mono λy _ z=>bK (z.mono λu h3 ⟨t,e,q⟩=>by
 subst e;cases t with
 |true=>exact bK q|false=>exact q)))
theorem aQo{es:eJ}(w:We (dM F es Z) h λxs h1=>xs.length<=sizeLine/\V1 (.tup xs) h1):We (aL F (.tup es) Z) h V1:=bK (w.mono λxs _ z=>jr z.1 z.2)
theorem aQb{es:eJ}(w:We (dM F es Z) h λxs h1=>xs.length<=sizeLine/\V1 (.ref h1.nx) (h1.new<|.lst aB xs)):We (aL F (.lst es) Z) h V1:=bK (w.mono λxs _ z=>jr z.1 z.2)
theorem aQl{a lo hi:Ex}(w:We (aL F a Z) h λx h1=>We (pF lo<|aL F lo Z) h1 λl h2=>We (pF hi<|aL F hi Z) h2 λu h3=>We (rB x l u) h3 V1):We (aL F (.slice a lo hi) Z) h V1:=
 bK (w.mono λ_ _ z=>bK (z.mono λ_ _ z=>bK z))
theorem IQ{f:Nat}{es:eJ}(w:We (dM F es Z) h λxs h1=>We (F f xs) h1 V1):We (aL F (.call f es) Z) h V1:=bK w
theorem aPu{f:Bi}{es:eJ}(w:We (dM F es Z) h λxs h1=>We (f.g xs) h1 V1):We (aL F (.bi f es) Z) h V1:=bK w
theorem IU{t:BT}{a:Ex}(w:We (aL F a Z) h λx h1=>We (zM t x) h1 V1):We (aL F (.rC t a) Z) h V1:=bK w
theorem aPt{o a:Ex}(w:We (aL F o Z) h λx h1=>zU h1 x=aB/\We (aL F a Z) h1 λy h2=>We (uF x y) h2 V1):We (aL F (.app o a) Z) h V1:=bK (w.mono λx h1 ⟨z1,z2⟩=>by unfold We;simp only[if_pos z1];exact bK z2)
theorem aPz{o:Ex}{es:eJ}(w:We (aL F o Z) h λx h1=>∃kvs,x = .lI kvs/\We (dM F es Z) h1 λxs h2=>∃s z,xs=[.str s,.int z]/\V1 (.int<|getOf kvs s z) h2):We (aL F (.get o es) Z) h V1:=bK (w.mono λx h1 ⟨kvs,e,w2⟩=>by subst e;exact bK (w2.mono λxs h2 ⟨s,z,e2,q⟩=>by subst e2;exact q))
theorem IW(q:L1 [] h):We (dM F .nil Z) h L1:=q
theorem Ck{e:Ex}{es:eJ}(w:We (aL F e Z) h λx h1=>We (dM F es Z) h1 λxs h2=>L1 (x::xs) h2):We (dM F (.cons e es) Z) h L1:=bK (w.mono λ_ _ z=>bK z)
theorem aRc{o:Cp}{a b:Ex}(w:We (aL F a Z) h λx h1=>We (aL F b Z) h1 λy h2=>We (o.g x y) h2 λz h3=>∃t,z = .bl t/\B1 t h3):We (dI F (.cmp o a b) Z) h B1:=
 bK (bK<|w.mono λ_ _ z=>bK (z.mono λ_ _ z=>z.mono λu h3 ⟨t,e,q⟩=>by subst e;exact q))
theorem aRb{o:Cp}{a b c:Ex}(w:We (aL F (.chain o o' a b c) Z) h λz h3=>∃t,z = .bl t/\B1 t h3):We (dI F (.chain o o' a b c) Z) h B1:=
 bK (w.mono λu h3 ⟨t,e,q⟩=>by subst e;exact q)
theorem aRg{a:Ex}(w:We (dI F a Z) h λt h1=>B1 (!t) h1):We (dI F (.not a) Z) h B1:=bK w
theorem aQz{a b:Ex}(w:We (dI F a Z) h λt h1=>if t=aB then We (dI F b Z) h1 B1 else B1 aG h1):We (dI F (.and a b) Z) h B1:=bK (w.mono λt _ y=>by
 cases t with
 |true=>exact y|false=>exact y)
theorem aRi{a b:Ex}(w:We (dI F a Z) h λt h1=>if t=aB then B1 aB h1 else We (dI F b Z) h1 B1):We (dI F (.or a b) Z) h B1:=bK (w.mono λt _ y=>by
 cases t with
 |true=>exact y|false=>exact y)
theorem aRj{i:Nat}(w:We (aL F (.var i) Z) h λx h1=>We (cZ x) h1 B1):We (dI F (.var i) Z) h B1:=bK w
theorem aRa{f:Nat}{es:eJ}(w:We (aL F (.call f es) Z) h λx h1=>We (cZ x) h1 B1):We (dI F (.call f es) Z) h B1:=bK w
theorem aRe{t:BT}{a:Ex}(w:We (aL F (.rC t a) Z) h λx h1=>We (cZ x) h1 B1):We (dI F (.rC t a) Z) h B1:=bK w
theorem aOc(q:V1 (.int<|i+j) h):We (Op.g .add (.int i)<|.int j) h V1:=q
theorem aPe(q:V1 (.int<|i-j) h):We (Op.g .sub (.int i)<|.int j) h V1:=q
theorem vJ{p:Int->Int->Bool}{f:Int->Int->Int}(hp:p i j=aB)(q:V1 (.int<|f i j) h):We (mO p f (.int i)<|.int j) h V1:=by unfold We mO;simp only[if_pos hp];exact q
theorem aOw(hp:rG i j=aB)(q:V1 (.int<|i*j) h):We (Op.g .mul (.int i)<|.int j) h V1:=vJ hp q
theorem aOm(hp:qF j=aB)(q:V1 (.int<|i / j) h):We (Op.g .fdiv (.int i)<|.int j) h V1:=vJ (p:=λ_ j=>qF j) hp q
theorem aOv(hp:0<j)(q:V1 (.int<|i%j) h):We (Op.g .mod (.int i)<|.int j) h V1:=vJ (p:=λ_ j=>decide (0<j)) (decide_eq_true hp) q
theorem Ot(hp:xB i j=aB)(q:V1 (.int<|i ^ j.toNat) h):We (Op.g .pow (.int i)<|.int j) h V1:=vJ (f:=λi j=>i ^ j.toNat) hp q
theorem II(hp:xB i j=aB)(q:V1 (.int<|i*2 ^ j.toNat) h):We (Op.g .shl (.int i)<|.int j) h V1:=vJ (f:=λi j=>i*2 ^ j.toNat) hp q
theorem aPc(hp:0<=j)(q:V1 (.int<|i / 2 ^ j.toNat) h):We (Op.g .shr (.int i)<|.int j) h V1:=vJ (p:=λ_ j=>decide (0<=j)) (f:=λi j=>i / 2 ^ j.toNat) (decide_eq_true hp) q
theorem aOe(q:V1 (.int<|rP i j) h):We (Op.g .band (.int i)<|.int j) h V1:=vJ (p:=λ_ _=>aB) rfl q
theorem aOf(q:V1 (.int<|jz i j) h):We (Op.g .bor (.int i)<|.int j) h V1:=vJ (p:=λ_ _=>aB) rfl q
theorem Oi(q:V1 (.int<|kb i j) h):We (Op.g .bxor (.int i)<|.int j) h V1:=vJ (p:=λ_ _=>aB) rfl q
theorem aOs(q:V1 (.bl<|decide<|i<j) h):We (Cp.g .lt (.int i)<|.int j) h V1:=q
theorem aOr(q:V1 (.bl<|decide<|i<=j) h):We (Cp.g .le (.int i)<|.int j) h V1:=q
theorem aOo(q:V1 (.bl<|decide<|j<i) h):We (Cp.g .gt (.int i)<|.int j) h V1:=q
theorem aOn(q:V1 (.bl<|decide<|j<=i) h):We (Cp.g .ge (.int i)<|.int j) h V1:=q
theorem aOk(q:V1 (.bl<|decide<|i=j) h):We (Cp.g .eq (.int i)<|.int j) h V1:=q
theorem aOx(q:V1 (.bl<|!decide (i=j)) h):We (Cp.g .ne (.int i)<|.int j) h V1:=q
theorem aOl{i j:Str}(q:V1 (.bl<|decide<|i=j) h):We (Cp.g .eq (.str i)<|.str j) h V1:=q
theorem aOy{i j:Str}(q:V1 (.bl<|!decide (i=j)) h):We (Cp.g .ne (.str i)<|.str j) h V1:=q
theorem By(e:tZ x y=aA b)(q:V1 (.bl b) h):We (Cp.g .eq x y) h V1:=by show We (zL x y) h V1;unfold We zL;rw[e];exact q
theorem Cc(e:tZ x y=aA b)(q:V1 (.bl<|!b) h):We (Cp.g .ne x y) h V1:=by show We (zP x y) h V1;unfold We zP;rw[e];exact q
theorem aOp(q:V1 (.bl<|lV x) h):We (Cp.g .gp x .aH) h V1:=q
theorem aOq(q:V1 (.bl<|!lV x) h):We (Cp.g .isn x .aH) h V1:=q
theorem Be(e:dX h x=aA xs):fQ h x=aD:=by
 cases x with
 |ref n=>
  simp only[dX]at e;simp only[fQ];cases o:h.ob n with
  |none=>rfl|some u=>
   rw[o]at e;cases u with
   |lst m ys=>rfl|_=>cases e
 |_=>rfl
theorem aJb(e:dX h x=aA xs):yW h x=aD:=by
 cases x with
 |ref n=>
  simp only[dX]at e;simp only[yW];cases o:h.ob n with
  |none=>rfl|some u=>
   rw[o]at e;cases u with
   |lst m ys=>rfl|_=>cases e
 |_=>rfl
theorem Oo(e:dX h y=aA xs)(f:(jI x&&xs.all jI)=aB)(q:V1 (.bl<|gT x xs) h):We (Cp.g .gi x y) h V1:=by show We (pA aG x y) h V1;have ed:fQ h y=aD:=Be e;unfold We pA;simp only[ed];unfold uH;rw[e];simp only[if_pos f];exact q
theorem aOz(e:dX h y=aA xs)(f:(jI x&&xs.all jI)=aB)(q:V1 (.bl<|!gT x xs) h):We (Cp.g .nin x y) h V1:=by show We (pA aB x y) h V1;have ed:fQ h y=aD:=Be e;unfold We pA;simp only[ed];unfold uH;rw[e];simp only[if_pos f];exact q
theorem gI(e:dX h x=aA xs)(e2:cM xs i=aA v)(q:V1 v h):We (Op.g .ix x<|.int i) h V1:=by
 show We (uI x<|.int i) h V1;have ed:fQ h x=aD:=Be e;unfold We uI;simp only[ed];unfold yj;simp only[aJb e];unfold gh;cases x with
 |str z=>cases e|aH=>cases e|bl _=>cases e|int _=>cases e|lI _=>cases e|tup ys=>simp only[e,jM,e2];exact q|ref n=>simp only[e,jM,e2];exact q
theorem IE{t s:BT}(e:tT h x=aA s)(q:V1 (.bl<|s.sub t) h):We (zM t x) h V1:=by unfold We zM;rw[e];exact q
theorem kK(e:dX h x=aA xs)(q:V1 (.int xs.length) h):We (Bi.g .len [x]) h V1:=by
 show We (pk [x]) h V1;unfold We pk;cases x with
 |str z=>cases e|aH=>cases e|bl _=>cases e|int _=>cases e|lI _=>cases e|tup ys=>simp only[e];exact q|ref n=>simp only[e];exact q
theorem aOg(hp:qF j=aB)(q:V1 (.tup [.int (i / j),.int (i%j)]) h):We (Bi.g .divmod [.int i,.int j]) h V1:=by show We (yh [.int i,.int j]) h V1;unfold We yh wU;simp only[if_pos hp];exact q
theorem xM(e:dX h x=aA xs)(q:V1 (.tup xs) h):We (Bi.g .tuple [x]) h V1:=by show We (yo [x]) h V1;unfold We yo oG;simp only[jM,e];exact q
theorem Cb(e:dX h x=aA xs)(q:V1 (.ref h.nx) (h.new<|.lst aB xs)):We (Bi.g .list [x]) h V1:=by show We (zO [x]) h V1;unfold We zO oG kD;simp only[jM,e];exact q
theorem bc(e:h.ob n=aA (.lst aB xs))(hz:xs.length<sizeLine)(q:V1 .aH (h.put n<|.lst aB<|xs++[v])):We (uF (.ref n) v) h V1:=by unfold We uF;simp only[e,if_pos hz];exact q
theorem Oj{k:Nat}{ys:Hd}(e:h.ob n=aA (.lst aB xs))(e2:h.ob k=aA (.lst aB ys))(hz:xs.length+ys.length<=sizeLine)(q:V1 (.ref h.nx) (h.new<|.lst aB<|xs++ys)):We (Op.g .add (.ref n)<|.ref k) h V1:=by show We (oy n k) h V1;unfold We oy ab;simp only[e,e2,if_pos hz];exact q
theorem Cd{lo hi:Hc}(e:h.ob n=aA (.lst b xs))(q:V1 (.ref h.nx) (h.new<|.lst aB<|iR xs lo hi)):We (rB (.ref n) lo hi) h V1:=by unfold We rB;simp only[e];exact q
variable {P1:Hc->AH->Prop}
theorem aQh{e:Ex}(he:∀m,pF e m=m.bind Hu)(w:We (aL F e Z) h λx h1=>∃i,x = .int i/\P1 (aA i) h1):We (pF e<|aL F e Z) h P1:=by rw[he];exact bK (w.mono λx h1 ⟨i,e,q⟩=>by subst e;exact q)
end
def Wt(m:M Out)(h:AH)(N:aF->AH->Prop)(R:AV->AH->Prop)(B C:aF->AH->Prop):Prop:=We m h λo h1=>match o with
 |.nx Z=>N Z h1
 |.ret v=>R v h1
 |.brk Z=>B Z h1
 |.cnt Z=>C Z h1
section
theorem aQr{s:Sx}{ss:aQ}(w:Wt (eO F s Z) h (λZ1 h1=>Wt (jO F ss Z1) h1 N R B C) R B C):Wt (jO F (.cons s ss) Z) h N R B C:=
 bK (We.mono w λo h1 z=>by
  cases o with
  |nx Z1=>exact z|ret v=>exact z|brk Z1=>exact z|cnt Z1=>exact z)
theorem aQx{e:Ex}(w:We (aL F e Z) h R):Wt (eO F (.ret e) Z) h N R B C:=bK w
theorem aQs{e:Ex}(w:We (aL F e Z) h λ_ h1=>N Z h1):Wt (eO F (.expr e) Z) h N R B C:=bK w
theorem aQp{t:Tg}{e:Ex}(w:We (aL F e Z) h λv h1=>We (oX F t v Z) h1 N):Wt (eO F (.asg t e) Z) h N R B C:=bK (w.mono λ_ _ z=>bK z)
theorem aNx{ts:wD}{Q:aF->AH->Prop}(e:dX h v=aA xs)(hl:xs.length=n)(w:We (wF F ts xs Z) h Q):We (oX F (.tup n ts) v Z) h Q:=by show We (zR n (wF F ts) v Z) h Q;unfold We zR;simp only[e,if_pos hl];exact w
theorem aNv{t:Tg}{ts:wD}{vs:Hd}{Q:aF->AH->Prop}(w:We (oX F t v Z) h λZ1 h1=>We (wF F ts vs Z1) h1 Q):We (wF F (.cons t ts) (v::vs) Z) h Q:=bK w
theorem aQv{c:Ex}{a b:aQ}(w:We (dI F c Z) h λt h1=>if t=aB then Wt (jO F a Z) h1 N R B C else Wt (jO F b Z) h1 N R B C):Wt (eO F (.ite c a b) Z) h N R B C:=bK (w.mono λt _ y=>by
 cases t with
 |true=>exact y|false=>exact y)
theorem zI{it:gF}{g:AV->aF->M aF}{body:aF->M Out}(I:Nat->aF->AH->Prop)(n:Nat)
  (turn:∀i Z h,i<n->I i Z h->∃v,it i h=aA (aA v)/\We (g v Z) h λZ1 h1=>Wt (body Z1) h1 (I<|i+1) R N (I<|i+1))
  (done:∀Z h,I n Z h->it n h=aA aD/\N Z h):∀(f i:Nat) (Z:aF) (h:AH),i<=n->n-i<f->I i Z h->Wt (kW it g body f i Z) h N R B C
 |0,i,Z,h,hi,hf,_=>by omega
 |f+1,i,Z,h,hi,hf,hI=>by
  have ih:=zI I n turn done f;by_cases hn:i<n
  .obtain⟨v,e,w⟩:=turn i Z h hn hI;unfold Wt We kW;simp only[e];refine bK<|w.mono λZ1 h1 w1=>bK (We.mono w1 λo h2 z=>?_);cases o with
   |nx Z2=>exact ih (i+1) Z2 h2 hn (by omega) z|cnt Z2=>exact ih (i+1) Z2 h2 hn (by omega) z|brk Z2=>exact z|ret v=>exact z
  .have e0:i=n:=by omega
   subst e0;obtain⟨e,q⟩:=done Z h hI;unfold Wt We kW;simp only[e];exact q
theorem lO{t:Tg}{it:Ir}{b:aQ}(w:We (cQ F it Z) h λi h1=>Wt (kW i (oX F t) (jO F b) FU 0 Z) h1 N R B C):Wt (eO F (.uD t it b) Z) h N R B C:=bK w
variable {Q:gF->AH->Prop}
theorem aPj{e:Ex}(w:We (aL F e Z) h λx h1=>We (zN x) h1 Q):We (cQ F (.seq e) Z) h Q:=bK w
theorem aPh{es:eJ}(w:We (dM F es Z) h λxs h1=>∃j,xs=[.int j]/\mB j=aB/\Q (nL 0 j.toNat) h1):We (cQ F (.Bc es) Z) h Q:=bK (w.mono λxs h1 ⟨j,e,r,q⟩=>by subst e;unfold We yk;simp only[if_pos r];exact q)
theorem aPi{es:eJ}(w:We (dM F es Z) h λxs h1=>∃i j,xs=[.int i,.int j]/\(mB i&&mB j)=aB/\Q (nL i (j-i).toNat) h1):We (cQ F (.Bd es) Z) h Q:=bK (w.mono λxs h1 ⟨i,j,e,r,q⟩=>by subst e;unfold We ym;simp only[if_pos r];exact q)
theorem IK{e:Ex}(w:We (aL F e Z) h λx h1=>∃n b xs,x = .ref n/\h1.ob n=aA (.lst b xs)/\Q (lG<|jQ n) h1):We (cQ F (.enum e) Z) h Q:=bK (w.mono λx h1 ⟨n,b,xs,e,r,q⟩=>by subst e;unfold We yi;simp only[r];exact q)
theorem aPf{e:Ex}(w:We (aL F e Z) h λx h1=>∃xs,x = .tup xs/\Q (lG<|mE xs) h1):We (cQ F (.enum e) Z) h Q:=bK (w.mono λx h1 ⟨xs,e,q⟩=>by subst e;exact q)
theorem aPl{es:eJ}(w:We (dM F es Z) h λxs h1=>∃x y it jt,xs=[x,y]/\nZ x h1 = .ok it h1/\nZ y h1 = .ok jt h1/\Q (jv it jt) h1):We (cQ F (.zip es) Z) h Q:=bK (w.mono λxs h1 ⟨x,y,it,jt,e,e1,e2,q⟩=>by subst e;unfold We yp;simp only[e1,e2];exact q)
theorem aPk(q:Q (mE xs) h):We (zN<|.tup xs) h Q:=q
theorem nO(e:h.ob n=aA (.lst b xs))(q:Q (jQ n) h):We (zN<|.ref n) h Q:=by unfold We zN nZ;simp only[e];exact q
theorem aQj{P:Pg}{k f np nn:Nat}{b:aQ}{args:Hd}(e:P f=aA (np,nn,b))(hl:args.length=np)(w:Wt (jO (run P k) b<|args.map aA++eR (nn-np) aD) h (λ_ h1=>R .aH h1) R (λ_ _=>False) (λ_ _=>False)):We (run P (k+1) f args) h R:=by
 show We (match P f with
  |none=>M.bad
  |some (np,nn,b)=>M.guard (args.length=np) ((jO (run P k) b<|args.map aA++eR (nn-np) aD).bind CQ)) h R
 rw[e];refine jr hl<|bK<|We.mono w λo h1 z=>?_;cases o with
 |nx Z=>exact z|ret v=>exact z|brk Z=>exact z.elim|cnt Z=>exact z.elim
end
theorem Keeps.of{P:Pg}{k i:Nat}(h:∀ns:Xj,ns.length<=63->Wp (run P k i [.ref 0]) (h0 ns) λv _=>v = .bl aB):Keeps P k i:=λns hl=>by obtain⟨a,h',e,q⟩:=(h ns hl).ex;subst q;exact⟨h',e⟩
theorem Jy(h1:-18446744073709551616<i)(h2:i<18446744073709551616):rG i j=aB:=by simp only[rG,jy,decide_eq_true_eq];exact .inl<|.inl (by omega)
theorem N2(h1:-18446744073709551616<j)(h2:j<18446744073709551616):rG i j=aB:=by simp only[rG,jy,decide_eq_true_eq];exact .inl<|.inr (by omega)
theorem cN(e:h.ob n=aA (.lst b xs)):dX h (.ref n)=aA xs:=by simp only[dX,e]
def cell(ns:Xj)(i:Int):Int:=ns.getD i.toNat 0
theorem nj(h0:0<=i)(h1:i<(ns.map AV.int).length):cM (ns.map AV.int) i=aA (.int<|cell ns i):=by
 have hl:i.toNat<ns.length:=by rw[aU]at h1;omega
 unfold cM jP;rw[if_pos h0,if_pos h1];simp only[jM,fH,cell,List.getD,eN hl,xX,Option.getD_some]
def fu{α:Type}(xs:List α)(lo hi:Hc):List α:=(xs.drop<|HT.bY xs.length 0 lo).take (HT.bY xs.length xs.length hi-HT.bY xs.length 0 lo)
theorem WS{α:Type}(xs:List α)(f:α->AV)(lo hi:Hc):iR (xs.map f) lo hi=(fu xs lo hi).map f:=by unfold iR fu;rw[aU,<- Qg,<- Qh]
theorem bM:(h.new o).ob h.nx=aA o:=by simp only[AH.new,if_pos]
theorem eF(hn:n≠h.nx):(h.new o).ob n=h.ob n:=by simp only[AH.new,if_neg hn]
theorem bD:(h.put n o).ob n=aA o:=by simp only[AH.put,if_pos]
theorem aX{k:Nat}(hn:k≠n):(h.put n o).ob k=h.ob k:=by simp only[AH.put,if_neg hn]
theorem sQ{i:Nat}(e:h.ob n=aA (.lst b xs)):jQ n i h=aA xs[i]?:=by simp only[jQ,e]
theorem Xd{i:Nat}(e:h.ob n=aA (.lst b xs))(hv:xs[i]?=aA v):lG (jQ n) i h=aA (aA<|.tup [.int i,v]):=by simp only[lG,sQ e,hv]
theorem Xc{i:Nat}(e:h.ob n=aA (.lst b xs))(hv:xs[i]?=aD):lG (jQ n) i h=aA aD:=by simp only[lG,sQ e,hv]
theorem t4{g:AV->aF->M aF}(I:Nat->aF->AH->Prop)(hn:xs.length<FU)(i0:I 0 Z h)(il:∀i Z h,I i Z h->h.ob n=aA (.lst bb xs))
  (turn:∀(i:Nat) x Z h,xs[i]?=aA x->I i Z h->We (g (.tup [.int i,x]) Z) h λZ1 h1=>Wt (body Z1) h1 (I<|i+1) R N (I<|i+1))
  (done:∀Z h,I xs.length Z h->N Z h):Wt (kW (lG<|jQ n) g body FU 0 Z) h N R B C:=by
 exact zI I xs.length (λi Z h hi hI=>⟨_,Xd (il _ _ _ hI) (eN hi),turn i _ Z h (eN hi) hI⟩) (λZ h hI=>⟨Xc (il _ _ _ hI) (by simp),done Z h hI⟩) FU 0 Z h (jZ _) (by omega) i0
theorem t5{g:AV->aF->M aF}(I:Nat->aF->AH->Prop)(hn:xs.length<FU)(i0:I 0 Z h)
  (turn:∀(i:Nat) x Z h,xs[i]?=aA x->I i Z h->We (g (.tup [.int i,x]) Z) h λZ1 h1=>Wt (body Z1) h1 (I<|i+1) R N (I<|i+1))
  (done:∀Z h,I xs.length Z h->N Z h):Wt (kW (lG<|mE xs) g body FU 0 Z) h N R B C:=by
 exact zI I xs.length (λi Z h hi hI=>⟨_,by simp only[lG,mE,eN hi],turn i _ Z h (eN hi) hI⟩) (λZ h hI=>⟨by simp[lG,mE],done Z h hI⟩) FU 0 Z h (jZ _) (by omega) i0
theorem qN{g:AV->aF->M aF}(I:Nat->aF->AH->Prop)(hn:xs.length<FU)(i0:I 0 Z h)(il:∀i Z h,I i Z h->h.ob n=aA (.lst bb xs))
  (turn:∀(i:Nat) x Z h,xs[i]?=aA x->I i Z h->We (g x Z) h λZ1 h1=>Wt (body Z1) h1 (I<|i+1) R N (I<|i+1))
  (done:∀Z h,I xs.length Z h->N Z h):Wt (kW (jQ n) g body FU 0 Z) h N R B C:=by
 exact zI I xs.length (λi Z h hi hI=>⟨_,by rw[sQ (il _ _ _ hI),eN hi],turn i _ Z h (eN hi) hI⟩) (λZ h hI=>⟨by rw[sQ (il _ _ _ hI)];simp,done Z h hI⟩) FU 0 Z h (jZ _) (by omega) i0
theorem Hn{lo:Int}{g:AV->aF->M aF}(I:Nat->aF->AH->Prop)(hn:n<FU)(i0:I 0 Z h)
  (turn:∀(i:Nat) Z h,i<n->I i Z h->We (g (.int<|lo+i) Z) h λZ1 h1=>Wt (body Z1) h1 (I<|i+1) R N (I<|i+1))
  (done:∀Z h,I n Z h->N Z h):Wt (kW (nL lo n) g body FU 0 Z) h N R B C:=by
 exact zI I n (λi Z h hi hI=>⟨_,by simp only[nL,if_pos hi],turn i Z h hi hI⟩) (λZ h hI=>⟨by simp[nL],done Z h hI⟩) FU 0 Z h (jZ _) (by omega) i0
theorem tq(h1:-4611686018427387904<=j)(h2:j<4611686018427387904):mB j=aB:=by simp only[mB,bS,decide_eq_true_eq];omega
end AM
namespace AM
structure Kp(h h':AH):Prop where
 nx:h.nx<=h'.nx
 ob:∀n,n<h.nx->h'.ob n=h.ob n
theorem Kp.refl{h:AH}:Kp h h:=⟨aV _,λ_ _=>rfl⟩
theorem Kp.trans{a b c:AH}(x:Kp a b)(y:Kp b c):Kp a c:=⟨dF x.nx y.nx,λn hn=>(y.ob n<|bC hn x.nx).trans (x.ob n hn)⟩
theorem Kp.new{a b:AH}{o:bG}(x:Kp a b):Kp a (b.new o):=⟨LO x.nx,λn hn=>(eF<|cA<|bC hn x.nx).trans (x.ob n hn)⟩
theorem Kp.put{a b:AH}{o:bG}{k:Nat}(x:Kp a b)(hk:a.nx<=k):Kp a (b.put k o):=⟨x.nx,λn hn=>(aX<|cA<|bC hn hk).trans (x.ob n hn)⟩
end AM
namespace AM
open PySem PySem.Spec PyProof.Rows L2
variable {B C N:aF->AH->Prop}{B1:Bool->AH->Prop}{F:Run}{L1:Hd->AH->Prop}{Q R V1:AV->AH->Prop}{a:Int}{as:Xk}{b bb:Bool}{c i j n:Nat}{d e o:Ex}{dp:Xr}{ds:List Df}{es:eJ}{h h':AH}{it:Ir}{ks:List aP}{kvs:List (aP×AV)}{m:Str}{me:aF->M AV}{ns ws:Xj}{v x y z:AV}{xs:Hd}{Z:aF}
inductive eK where
 |sum|less|times|share|rest|both|ue|odd|up|down|below|same
def eK.nm:eK->Str
 |.sum=>"sum" |.less=>"less" |.times=>"times" |.share=>"share" |.rest=>"rest" |.both=>"both" |.ue=>"some" |.odd=>"odd" |.up=>"up" |.down=>"down" |.below=>"below" |.same=>"same"
inductive aN where
 |way (w:eK) (x y z:Int)|set (x v:Int)|move (x y:Int)|load (x y s:Int)|store (x y s:Int)|fZ (x t:Int)|go (t:Int)|fault (v:Int)
def aN.av:aN->AV
 |.way w x y z=>.tup [.str w.nm,.int x,.int y,.int z] | .set x v=>.tup [.str "set",.int x,.int v] | .move x y=>.tup [.str "move",.int x,.int y]
 |.load x y s=>.tup [.str "load",.int x,.int y,.int s] | .store x y s=>.tup [.str "store",.int x,.int y,.int s] | .fZ x t=>.tup [.str "jump",.int x,.int t]
 |.go t=>.tup [.str "go",.int t] | .fault v=>.tup [.str "fault",.int v]
def aN.nw:aN->Nat
 |.way _ _ _ _=>2 | .set _ _=>0 | .move _ _=>1 | .load _ _ _=>1 | .store _ _ _=>2 | .fZ _ _=>1 | .go _=>0 | .fault _=>0
def aN.pl(ws:Xj):aN->AV
 |.load _ _ s=>.int (cell ws 0+s) | .store _ _ s=>.int (cell ws 1+s)
 |_=>.aH
def aN.gs(a:Int)(ws:Xj):aN->Int
 |.go t=>t
 |.fZ _ t=>if cell ws 0≠0 then t else a+1
 |_=>a+1
theorem qy(h:ws.length=1):∃a,ws=[a]:=by
 match ws,h with
 |[a],_=>exact⟨a,rfl⟩
theorem qz(h:ws.length=2):∃a b,ws=[a,b]:=by
 match ws,h with
 |[a,b],_=>exact⟨a,b,rfl⟩
def eK.eA:eK->Int
 |.times=>1 | .share=>2 | .rest=>2
 |_=>0
def aN.fT:aN->Xj
 |.way _ _ y z=>[y,z] | .move _ y=>[y] | .load _ y _=>[y] | .store x y _=>[x,y] | .fZ x _=>[x]
 |_=>[]
def aN.fl:aN->AV
 |.way _ x _ _=>.int x | .set x _=>.int x | .move x _=>.int x | .load x _ _=>.int x
 |_=>.aH
def aN.eA:aN->Int
 |.way w _ _ _=>w.eA | .set _ _=>0 | .move _ _=>0 | .load _ _ _=>3 | .store _ _ _=>3
 |_=>4
def sS(b:Int):Int:=if 64<b then 64 else b
def eK.wk(a b:Int):eK->Int
 |.sum=>(a+b)%18446744073709551616 | .less=>(a-b)%18446744073709551616 | .times=>a*b%18446744073709551616
 |.share=>a / b | .rest=>a%b
 |.both=>rP a b | .ue=>jz a b | .odd=>kb a b
 |.up=>a*2 ^ (sS b).toNat%18446744073709551616 | .down=>a / 2 ^ (sS b).toNat
 |.below=>if a<b then 1 else 0 | .same=>if a=b then 1 else 0
def eK.sr:eK->Bool
 |.share=>aB | .rest=>aB
 |_=>aG
def aN.DD(ws:Xj):aN->Hc
 |.load _ _ s=>aA (cell ws 0+s) | .store _ _ s=>aA (cell ws 1+s)
 |_=>aD
def aN.ft(ws:Xj)(room:Int):aN->Option AV
 |.fault v=>aA (.tup [.str "told",.int v])
 |.way w _ _ _=>cond w.sr (if cell ws 1=0 then aA (.tup [.str "nought",.int (cell ws 0)]) else aD) aD
 |.load _ _ s=>if 0<=cell ws 0+s/\cell ws 0+s<room then aD else aA (.tup [.str "place",.int (cell ws 0+s)])
 |.store _ _ s=>if 0<=cell ws 1+s/\cell ws 1+s<room then aD else aA (.tup [.str "place",.int (cell ws 1+s)])
 |_=>aD
def aN.br(ws:Xj)(held:AV):aN->AV
 |.way w _ _ _=>.int (w.wk (cell ws 0)<|cell ws 1) | .set _ v=>.int v | .move _ _=>.int (cell ws 0) | .store _ _ _=>.int (cell ws 0) | .load _ _ _=>held
 |_=>.aH
def aN.fw(a:Int)(ws:Xj)(room:Int)(held:AV)(r:aN):AV:=match r.ft ws room with
 |some f=>.tup [.int a,.aH,.aH,.aH,.aH,f]
 |none=>.tup [.int a,r.fl,r.pl ws,r.br ws held,.int (r.gs a ws),.aH]
def kY(ws:Xj):Prop:=∀w∈ws,0<=w/\w<18446744073709551616
theorem aNj{b:Int}(h:¬b<64):a*2 ^ (sS b).toNat%18446744073709551616=0:=by
 have e:sS b=64:=by unfold sS;split<;>lia
 rw[e];exact Int.mul_emod_left ..
theorem XM{b:Int}(h:¬b<64)(a0:0<=a)(a1:a<18446744073709551616):a / 2 ^ (sS b).toNat=0:=by
 have e:sS b=64:=by unfold sS;split<;>lia
 rw[e];exact Int.ediv_eq_zero_of_lt a0 a1
theorem BV{b:Int}(h:b<64):sS b=b:=by unfold sS;split<;>lia
theorem DJ{b:Int}(a0:0<=a)(a1:a<18446744073709551616)(b0:0<=b)(b1:b<=64):xB a b=aB:=by simp only[xB,bS,decide_eq_true_eq];exact⟨⟨b0,by lia⟩,by lia⟩
theorem XG{b:Int}(b0:0<b)(b1:b<18446744073709551616):qF b=aB:=by
 have e:(18446744073709551616:Int)<2 ^ 1000:=by decide
 simp only[qF,bS,decide_eq_true_eq];exact⟨b0,bu b1 e⟩
section
variable {α:Type}{m:M α}{Q:α->AH->Prop}
theorem IA(w:Wp m h Q):We (oE m) h Q:=by obtain⟨a,h1,e,q⟩:=w.ex;exact We.eq (show oE m h = .ok a h1 by unfold oE;rw[e]) q
theorem jq{imp:Xt}{t:CT}(w:We (cQ F it Z) h λi h1=>We (eL i (pW t) (λ_=>M.ret aB) (aL F e) FU 0 []<|mP imp Z) h1 λys h2=>V1 (.ref h2.nx) (h2.new<|.lst aB ys)):We (aL F (.wK imp t it e) Z) h V1:=
 bK (w.mono λ_ _ z=>bK (z.mono λ_ _ y=>y))
theorem aPx{imp:Xt}{t:CT}{c:Ex}(w:We (cQ F it Z) h λi h1=>We (eL i (pW t) (dI F c) (aL F e) FU 0 []<|mP imp Z) h1 λys h2=>V1 (.ref h2.nx) (h2.new<|.lst aB ys)):We (aL F (.wL imp t it c e) Z) h V1:=
 bK (w.mono λ_ _ z=>bK (z.mono λ_ _ y=>y))
theorem Bw{Q:aF->AH->Prop}(q:Q (Z.set i<|aA v) h):We (pW (.nm i) v Z) h Q:=q
theorem aNw{a b:AV}{Q:aF->AH->Prop}(q:Q ((Z.set i<|aA a).set j (aA b)) h):We (pW (.tup [i,j]) (.tup [a,b]) Z) h Q:=q
theorem wM{it:gF}{g:AV->aF->M aF}{mt:aF->M Bool}{me:aF->M AV}(I:Nat->Hd->aF->AH->Prop)(n:Nat)
  (turn:∀i ys Z h,i<n->I i ys Z h->∃v,it i h=aA (aA v)/\Wp (g v Z) h λZ1 h1=>Wp (mt Z1) h1 λb h2=>if b=aB then We (me Z1) h2 λy h3=>ys.length<sizeLine/\I (i+1) (ys++[y]) Z1 h3 else I (i+1) ys Z1 h2)
  (done:∀ys Z h,I n ys Z h->it n h=aA aD/\L1 ys h):∀(f i:Nat) (ys:Hd) (Z:aF) (h:AH),i<=n->n-i<f->I i ys Z h->We (eL it g mt me f i ys Z) h L1
 |0,i,ys,Z,h,_,hf,_=>absurd hf (Ds _)
 |f+1,i,ys,Z,h,m,hf,d=>by
  by_cases a:i<n
  .obtain⟨v,e,w⟩:=turn i ys Z h a d;have c:eL it g mt me (f+1) i ys Z h=((oE<|g v Z).bind λZ1=>(oE<|mt Z1).bind λb=>if b=aB then(me Z1).bind λy=>M.guard (ys.length<sizeLine) (eL it g mt me f (i+1) (ys++[y]) Z1) else eL it g mt me f (i+1) ys Z1) h:=by simp only[eL,e]
   unfold We;rw[c];refine bK<|IA<|w.mono λZ1 h1 l=>bK (IA<|l.mono λb h2 j=>?_);cases b with
   |true=>exact bK<|j.mono λy h3 k=>jr k.1 (wM I n turn done f (i+1) _ Z1 h3 a (by omega) k.2)
   |false=>exact wM I n turn done f (i+1) ys Z1 h2 a (by omega) j
  .have:i=n:=by lia
   subst this;obtain⟨e,q⟩:=done ys Z h d;unfold We;have c:eL it g mt me (f+1) i ys Z h = .ok ys h:=by simp only[eL,e]
   rw[c];exact q
variable {g:AV->aF->M aF}{mt:aF->M Bool}
theorem um{A B:AH->Prop}(q:A h):Wp (M.ret aB) h λb h2=>if b=aB then A h2 else B h2:=by
 show if aB=aB then A h else B h
 exact q
theorem Wd{lo:Int}(I:Nat->Hd->aF->AH->Prop)(hn:n<FU)(i0:I 0 [] Z h)
  (turn:∀(i:Nat) ys Z h,i<n->I i ys Z h->Wp (g (.int<|lo+i) Z) h λZ1 h1=>We (me Z1) h1 λy h3=>ys.length<sizeLine/\I (i+1) (ys++[y]) Z1 h3)
  (done:∀ys Z h,I n ys Z h->L1 ys h):We (eL (nL lo n) g (λ_=>M.ret aB) me FU 0 [] Z) h L1:=by
 exact wM I n (λi ys Z h b a=>⟨_,by simp only[nL,if_pos b],(turn i ys Z h b a).mono λZ1 h1 w=>um w⟩) (λys Z h a=>⟨by simp[nL],done ys Z h a⟩) FU 0 [] Z h (jZ _) (by omega) i0
theorem WI(I:Nat->Hd->aF->AH->Prop)(hn:xs.length<FU)(i0:I 0 [] Z h)
  (turn:∀(i:Nat) x ys Z h,xs[i]?=aA x->I i ys Z h->Wp (g x Z) h λZ1 h1=>We (me Z1) h1 λy h3=>ys.length<sizeLine/\I (i+1) (ys++[y]) Z1 h3)
  (done:∀ys Z h,I xs.length ys Z h->L1 ys h):We (eL (mE xs) g (λ_=>M.ret aB) me FU 0 [] Z) h L1:=by
 exact wM I xs.length (λi ys Z h b a=>⟨xs[i],by simp only[mE,eN b],(turn i _ ys Z h (eN b) a).mono λZ1 h1 w=>um w⟩) (λys Z h a=>⟨by simp[mE],done ys Z h a⟩) FU 0 [] Z h (jZ _) (by omega) i0
theorem Wb(I:Nat->Hd->aF->AH->Prop)(hn:xs.length<FU)(i0:I 0 [] Z h)(il:∀i ys Z h,I i ys Z h->h.ob n=aA (.lst bb xs))
  (turn:∀(i:Nat) x ys Z h,xs[i]?=aA x->I i ys Z h->Wp (g x Z) h λZ1 h1=>We (me Z1) h1 λy h3=>ys.length<sizeLine/\I (i+1) (ys++[y]) Z1 h3)
  (done:∀ys Z h,I xs.length ys Z h->L1 ys h):We (eL (jQ n) g (λ_=>M.ret aB) me FU 0 [] Z) h L1:=by
 exact wM I xs.length (λi ys Z h b a=>⟨_,by rw[sQ (il _ _ _ _ a),eN b],(turn i _ ys Z h (eN b) a).mono λZ1 h1 w=>um w⟩) (λys Z h a=>⟨by rw[sQ (il _ _ _ _ a)];simp,done ys Z h a⟩) FU 0 [] Z h (jZ _) (by omega) i0
theorem WG(I:Nat->Hd->aF->AH->Prop)(hn:xs.length<FU)(i0:I 0 [] Z h)(il:∀i ys Z h,I i ys Z h->h.ob n=aA (.lst bb xs))
  (turn:∀(i:Nat) x ys Z h,xs[i]?=aA x->I i ys Z h->Wp (g (.tup [.int i,x]) Z) h λZ1 h1=>We (me Z1) h1 λy h3=>ys.length<sizeLine/\I (i+1) (ys++[y]) Z1 h3)
  (done:∀ys Z h,I xs.length ys Z h->L1 ys h):We (eL (lG<|jQ n) g (λ_=>M.ret aB) me FU 0 [] Z) h L1:=by
 exact wM I xs.length (λi ys Z h b a=>⟨_,Xd (il _ _ _ _ a) (eN b),(turn i _ ys Z h (eN b) a).mono λZ1 h1 w=>um w⟩) (λys Z h a=>⟨Xc (il _ _ _ _ a) (by simp),done ys Z h a⟩) FU 0 [] Z h (jZ _) (by omega) i0
theorem aQw{is:Xp}(w:We (dM F es Z) h λvs h1=>vs.length=is.length/\N (Bf is vs Z) h1):Wt (eO F (.par is es) Z) h N R B C:=
 bK (w.mono λvs h1 z=>jr z.1 z.2)
end
theorem u6(e:h.ob n=aA (.lst b xs)):nZ (.ref n) h = .ok (jQ n) h:=by simp only[nZ,e]
theorem zt(h:i<n):jP n (i:Int)=aA i:=by unfold jP;rw[if_pos (by lia),if_pos (by lia)];simp
theorem IB{ys:Hd}(hz:xs.length+ys.length<=sizeLine)(q:V1 (.tup<|xs++ys) h):We (Op.g .add (.tup xs)<|.tup ys) h V1:=jr hz q
theorem IJ{lo hi:Hc}(hz:¬(HT.bY xs.length 0 lo=0/\HT.bY xs.length xs.length hi=xs.length))(q:V1 (.tup<|iR xs lo hi) h):We (rB (.tup xs) lo hi) h V1:=by unfold We rB;simp only[if_neg hz];exact q
theorem IT{cs:Xp}{f:Str}(w:We (aL F o Z) h λx h1=>We (uG cs f x) h1 V1):We (aL F (.lH cs f o) Z) h V1:=bK w
theorem ID{cs:Xp}{f:Str}{fs:Xs}(e:h.ob n=aA (.ins c fs))(hc:cs.contains c=aB)(l:fs.lookup f=aA v)(q:V1 v h):We (uG cs f<|.ref n) h V1:=by unfold We uG;simp only[e,if_pos hc,l];exact q
theorem aOt{dp:Nat->Option (Hd->M AV)}{r:M Hd}{fs:Xs}{g:Hd->M AV}(e2:h.ob n=aA (.ins c fs))(e3:dp c=aA g)(e4:fs.lookup m=aD)(q:We r h λxs h2=>We (g<|.ref n::xs) h2 V1):We (rn dp m r<|.ref n) h V1:=by unfold We rn;simp only[e2,e3,e4];exact bK q
theorem IV(w:We (aL F o Z) h λx h1=>∃(n c:Nat) (fs:Xs) (i:Nat),x = .ref n/\h1.ob n=aA (.ins c fs)/\dp.lookup c=aA i/\fs.lookup m=aD/\We (dM F es Z) h1 λxs h2=>We (F i<|.ref n::xs) h2 V1) :
  We (aL F (.rF m dp o es) Z) h V1:=bK (w.mono λx h1 ⟨n,c,fs,i,a,b,d,e,q⟩=>by
 subst a;exact aOt b (by rw[d];rfl) e q)
theorem aQc{dv:Hd}(w:We (dM F es Z) h λxs h1=>We (F i<|.ref h1.nx::(xs++dv)) (h1.new<|.ins c []) λv h2=>v = .aH/\V1 (.ref h1.nx) h2):We (aL F (.make c i dv es) Z) h V1:=
 bK (w.mono λxs h1 z=>by exact bK (z.mono λv h2 ⟨e,q⟩=>by subst e;exact q))
theorem aPv(w:We (dM F es Z) h λxs h1=>We (F i xs) h1 V1):We (aL F (.fq i es) Z) h V1:=bK w
theorem aRd{cs:Xp}{f:Str}(w:We (aL F (.lH cs f o) Z) h λx h1=>We (cZ x) h1 B1):We (dI F (.lH cs f o) Z) h B1:=bK w
theorem aRf(w:We (aL F (.rF m dp o es) Z) h λx h1=>We (cZ x) h1 B1):We (dI F (.rF m dp o es) Z) h B1:=bK w
theorem aQu{cs:Xp}{f:Str}(w:We (aL F e Z) h λv h1=>We (aL F o Z) h1 λx h2=>∃(n c:Nat) (fs:Xs),x = .ref n/\h2.ob n=aA (.ins c fs)/\cs.contains c=aB/\fs.length<1000/\N Z (h2.put n<|.ins c<|gG f v fs)) :
  Wt (eO F (.gg cs f o e) Z) h N R B C:=bK (w.mono λv h1 z=>bK (z.mono λx h2 ⟨n,c,fs,a,b,d,g,q⟩=>by
 subst a;have i:tw cs f (.ref n) v h2=aA (h2.put n<|.ins c<|gG f v fs):=by simp only[tw,b];rw[if_pos ⟨d,g⟩]
 unfold We;simp only[i];exact q))
theorem aQt{cs:Xp}{f:Str}(w:We (aL F o Z) h λx h1=>∃(n c:Nat) (fs:Xs) (i:Int),x = .ref n/\h1.ob n=aA (.ins c fs)/\cs.contains c=aB/\fs.lookup f=aA (.int i) /\
  We (aL F e Z) h1 λy h2=>∃(j:Int) (fs2:Xs),y = .int j/\h2.ob n=aA (.ins c fs2)/\fs2.length<1000/\N Z (h2.put n<|.ins c<|gG f (.int<|i+j) fs2)) :
  Wt (eO F (.ot cs f o e) Z) h N R B C:=bK (w.mono λx h1 ⟨n,c,fs,i,a,b,d,g,z⟩=>by
 subst a;unfold We;simp only[b,if_pos d,g];refine bK<|z.mono λy h2 k=>?_;obtain⟨j,fs2,l,m,p,q⟩:=k;subst l;unfold We;simp only[Ff,m];rw[if_pos ⟨trivial,p⟩];exact q)
theorem aQq{sub:Bool}(l:Z[i]?=aA (aA<|.int a))(w:We (aL F e Z) h λy h1=>∃j:Int,y = .int j/\N (Z.set i<|aA<|.int<|if sub=aB then a-j else a+j) h1):Wt (eO F (.aug sub i e) Z) h N R B C:=by show We (nu sub i (aL F e Z) Z) h _;unfold nu;simp only[l];exact bK (w.mono λy h1 ⟨j,b,q⟩=>by subst b;exact q)
theorem aPy{f:Dm}(w:We (aL F o Z) h λx h1=>(fQ h1 x).isSome=aB/\We (dM F es Z) h1 λxs h2=>We (f.g x xs) h2 V1):We (aL F (.dm f o es) Z) h V1:=bK (w.mono λx h1 ⟨a,b⟩=>by unfold We;simp only[if_pos a];exact bK b)
theorem tX(e:h.ob n=aA (.aR kvs)):fQ h (.ref n)=aA kvs:=by simp only[fQ,e]
theorem IC{k:aP}(e:h.ob n=aA (.aR kvs))(hk:fN y=aA k)(q:V1 ((bR kvs k).getD z) h):We (Dm.g .get (.ref n) [y,z]) h V1:=by show We (zJ (.ref n) [y,z]) h V1;unfold We zJ;simp only[tX e,hk];exact q
theorem Ol{k:aP}(e:h.ob n=aA (.aR kvs))(hk:fN y=aA k)(q:V1 ((bR kvs k).getD .aH) h):We (Dm.g .get (.ref n) [y]) h V1:=by show We (zJ (.ref n) [y]) h V1;unfold We zJ;simp only[tX e,hk];exact q
theorem Om{k:aP}(e:h.ob n=aA (.aR kvs))(hk:fN y=aA k)(l:bR kvs k=aA v)(q:V1 v (h.put n<|.aR<|tY kvs k)):We (Dm.g .pop (.ref n) [y]) h V1:=by show We (zK (.ref n) [y]) h V1;unfold We zK;simp only[tX e,hk,l];exact q
theorem aOi{k:aP}(e:h.ob n=aA (.aR kvs))(hk:fN y=aA k)(hz:kvs.length<sizeLine)(q1:∀v,bR kvs k=aA v->V1 v h)(q2:bR kvs k=aD->V1 z (h.put n<|.aR<|jT kvs k z)):We (Dm.g .setd (.ref n) [y,z]) h V1:=by
 show We (pj (.ref n) [y,z]) h V1;unfold We pj;simp only[tX e,hk,if_pos hz];cases l:bR kvs k with
 |none=>exact q2 l|some v=>exact q1 v l
theorem Bz{k:aP}(e:h.ob n=aA (.aR kvs))(hk:fN y=aA k)(l:bR kvs k=aA v)(q:V1 v h):We (Op.g .ix (.ref n) y) h V1:=by show We (uI (.ref n) y) h V1;unfold We uI;simp only[tX e,hk,jM,l];exact q
theorem Ca{k:aP}(e:h.ob n=aA (.dD kvs))(hk:fN y=aA k)(l:bR kvs k=aA v)(q:V1 v h):We (Op.g .ix (.ref n) y) h V1:=by show We (uI (.ref n) y) h V1;unfold We uI;simp only[fQ];unfold yj;simp only[yW,e,hk,jM,l];exact q
theorem bh{k:aP}(e:h.ob n=aA (.aR kvs))(hk:fN y=aA k)(q:V1 (.bl (bR kvs k).isSome) h):We (Cp.g .gi y<|.ref n) h V1:=by show We (pA aG y<|.ref n) h V1;unfold We pA;simp only[tX e,hk];exact q
theorem aNm{k k':aP}:bR (jT kvs k v) k'=if k=k' then aA v else bR kvs k':=by
 induction kvs with
 |nil=>
  by_cases e:k=k'
  .simp[bR,jT]
  .simp[bR,jT]
 |cons p r j=>
  obtain⟨b,v0⟩:=p;by_cases h:b=k
  .subst h;have i:jT ((b,v0)::r) b v=(b,v)::r.map (λa=>if a.1=b then(a.1,v) else a):=by simp[jT]
   rw[i];by_cases e:b=k'
   .subst e;simp[bR]
   .have:bR (r.map λa=>if a.1=b then(a.1,v) else a) k'=bR r k':=by
     clear j i;induction r with
     |nil=>rfl|cons q s g=>
      obtain⟨k2,v2⟩:=q;by_cases l:k2=b
      .subst l;simp only[jC,if_true];have d:bR ((k2,v)::s.map λa=>if a.1=k2 then(a.1,v) else a) k'=bR (s.map λa=>if a.1=k2 then(a.1,v) else a) k':=by simp[bR,e]
       have f:bR ((k2,v2)::s) k'=bR s k':=by simp[bR,e]
       rw[d,f,g]
      .simp only[jC,l,if_false];by_cases c:k2=k'
       .simp[bR,c]
       .have d:bR ((k2,v2)::s.map λa=>if a.1=b then(a.1,v) else a) k'=bR (s.map λa=>if a.1=b then(a.1,v) else a) k':=by simp[bR,c]
        have f:bR ((k2,v2)::s) k'=bR s k':=by simp[bR,c]
        rw[d,f,g]
    have d:bR ((b,v)::r.map λa=>if a.1=b then(a.1,v) else a) k'=bR (r.map λa=>if a.1=b then(a.1,v) else a) k':=by simp[bR,e]
    have f:bR ((b,v0)::r) k'=bR r k':=by simp[bR,e]
    rw[d,this,if_neg e,f]
  .have i:jT ((b,v0)::r) k v=(b,v0)::jT r k v:=by unfold jT;simp only[rR,h,decide_false,Bool.false_or];split<;>simp[h]
   rw[i];by_cases c:b=k'
   .have ne:k≠k':=λz=>h (c.trans z.symm);simp[bR,c,ne]
   .have d:bR ((b,v0)::jT r k v) k'=bR (jT r k v) k':=by simp[bR,c]
    have f:bR ((b,v0)::r) k'=bR r k':=by simp[bR,c]
    rw[d,f,j]
theorem aCf{k:aP}:(jT kvs k v).length<=kvs.length+1:=by
 unfold jT;split
 .rw[aU];lia
 .rw[dO];exact aV _
theorem IG{k:Int}(e:h.ob n=aA (.lst aB xs))(h0:0<=k)(hz:xs.length*k.toNat<=sizeLine)(h1:k<2 ^ 63)(q:V1 (.ref h.nx) (h.new<|.lst aB (eR k.toNat xs).flatten)):We (Op.g .mul (.ref n)<|.int k) h V1:=by show We (pq (.ref n)<|.int k) h V1;unfold We pq;simp only[e,if_pos (show 0<=k/\xs.length*k.toNat<=sizeLine/\k<2 ^ 63 from⟨h0,hz,h1⟩)];exact q
theorem aQi(w:We (aL F o Z) h λx h1=>We (zQ x) h1 V1):We (aL F (.sj o) Z) h V1:=bK w
theorem aPa(e:h.ob n=aA (.lst aB<|xs++[y]))(q:V1 y (h.put n<|.lst aB xs)):We (zQ<|.ref n) h V1:=by
 unfold We zQ;have a:(xs++[y])[(xs++[y]).length-1]?=aA y:=by simp
 have b:(xs++[y]).dropLast=xs:=by simp
 simp only[e,a,b];exact q
theorem aOj(e:tZ x y=aD)(e2:sE h x y=aA b)(q:V1 (.bl b) h):We (Cp.g .eq x y) h V1:=by show We (zL x y) h V1;unfold We zL;simp only[e,e2];exact q
theorem Oq(e:tZ x y=aD)(e2:sE h x y=aA b)(q:V1 (.bl<|!b) h):We (Cp.g .ne x y) h V1:=by show We (zP x y) h V1;unfold We zP;simp only[e,e2];exact q
theorem ya{m:Nat}{b1 b2:Bool}(e1:h.ob n=aA (.lst b1 xs))(e2:h.ob m=aA (.lst b2 [])):sE h (.ref n) (.ref m)=aA (decide<|xs=[]):=by simp only[sE,uf,e1,e2];cases xs<;>rfl
theorem Kp.get(g:Kp h h'){o:Option bG}(hn:n<h.nx)(e:h.ob n=o):h'.ob n=o:=(g.ob n hn).trans e
theorem xD{o:bG}:(h.put n o).nx=h.nx:=rfl
theorem aUn{o:bG}:(h.new o).nx=h.nx+1:=rfl
theorem WH{g:AV->aF->M aF}{mt:aF->M Bool}(I:Nat->Hd->aF->AH->Prop)(hn:xs.length<FU)(i0:I 0 [] Z h)(il:∀i ys Z h,I i ys Z h->h.ob n=aA (.lst bb xs))
  (turn:∀(i:Nat) x ys Z h,xs[i]?=aA x->I i ys Z h->Wp (g x Z) h λZ1 h1=>Wp (mt Z1) h1 λb h2=>if b=aB then We (me Z1) h2 λy h3=>ys.length<sizeLine/\I (i+1) (ys++[y]) Z1 h3 else I (i+1) ys Z1 h2)
  (done:∀ys Z h,I xs.length ys Z h->L1 ys h):We (eL (jQ n) g mt me FU 0 [] Z) h L1:=by
 exact wM I xs.length (λi ys Z h c a=>⟨_,by rw[sQ (il _ _ _ _ a),eN c],turn i _ ys Z h (eN c) a⟩) (λys Z h a=>⟨by rw[sQ (il _ _ _ _ a)];simp,done ys Z h a⟩) FU 0 [] Z h (jZ _) (by omega) i0
theorem kG:(1000:Nat)<sizeLine:=by decide
theorem jR{α:Type}{f:α->AV}{ws:List α}(h:(ws.map f)[i]?=aA x):∃w,ws[i]?=aA w/\x=f w:=by rw[fH]at h;obtain⟨w,h1,a⟩:=Option.map_eq_some_iff.mp h;exact⟨w,h1,a.symm⟩
theorem WT:iR xs aD (aA (n:Int))=xs.take n:=by
 unfold iR;rw[HT.Mx,HT.jc,JZ,Nat.sub_zero];rcases Qt n xs.length with h|h
 .rw[Dr h]
 .rw[Qu h,tJ,Qr h]
theorem Wk:iR xs (aA (n:Int)) aD=xs.drop n:=by
 unfold iR;rw[HT.Mx,HT.jc];rcases Qt n xs.length with h|h
 .rw[Dr h,Qr (by rw[ux];exact aV _)]
 .rw[Qu h,List.drop_eq_nil_of_le h,LS];rfl
theorem OJ(h0:0<n)(h1:n<=xs.length):cM xs (-(n:Int))=xs[xs.length-n]?:=by
 unfold cM jP;rw[if_neg (by lia)];first
  |rw[if_pos (by lia)]|skip
 have:(-n+(xs.length:Int)).toNat=xs.length-n:=by lia
 simp[this]
theorem Cm{c:Ex}{b:aQ}(w:Wt (vK (dI F c) (jO F b) FU Z) h N R B C):Wt (eO F (.Ce c b) Z) h N R B C:=w
theorem uo{c:aF->M Bool}{body:aF->M Out}(I:Nat->aF->AH->Prop)(n:Nat)(hb:∀i Z h,I i Z h->i<=n)
  (turn:∀i Z h,I i Z h->We (c Z) h λb h1=>if b=aB then Wt (body Z) h1 (I<|i+1) R N (I<|i+1) else N Z h1):∀(f i:Nat) (Z:aF) (h:AH),n-i<f->I i Z h->Wt (vK c body f Z) h N R B C
 |0,i,Z,h,hf,_=>absurd hf (Ds _)
 |f+1,i,Z,h,hf,g=>by
  have d:=uo I n hb turn f;refine bK<|(turn i Z h g).mono λb h1 w=>?_;cases b with
  |false=>exact w|true=>
   refine bK<|We.mono w λo e z=>?_;cases o with
   |nx a=>have:=hb _ _ _ z;exact d (i+1) a e (by omega) z
   |cnt a=>have:=hb _ _ _ z;exact d (i+1) a e (by omega) z
   |brk a=>exact z|ret v=>exact z
theorem Wv{k:aP}(e:ks[i]?=aA k):mM ks i h=aA (aA<|sL k):=by simp only[mM,e]
theorem Wu:mM ks ks.length h=aA aD:=by simp[mM]
theorem Wa{g:AV->aF->M aF}{mt:aF->M Bool}(I:Nat->Hd->aF->AH->Prop)(hn:ks.length<FU)(i0:I 0 [] Z h)
  (turn:∀(i:Nat) k ys Z h,ks[i]?=aA k->I i ys Z h->Wp (g (sL k) Z) h λZ1 h1=>Wp (mt Z1) h1 λb h2=>if b=aB then We (me Z1) h2 λy h3=>ys.length<sizeLine/\I (i+1) (ys++[y]) Z1 h3 else I (i+1) ys Z1 h2)
  (done:∀ys Z h,I ks.length ys Z h->L1 ys h):We (eL (mM ks) g mt me FU 0 [] Z) h L1:=by
 exact wM I ks.length (λi ys Z h c a=>⟨_,Wv (eN c),turn i _ ys Z h (eN c) a⟩) (λys Z h a=>⟨Wu,done ys Z h a⟩) FU 0 [] Z h (jZ _) (by omega) i0
theorem WE{g:AV->aF->M aF}(I:Nat->Hd->aF->AH->Prop)(hn:ks.length<FU)(i0:I 0 [] Z h)
  (turn:∀(i:Nat) k ys Z h,ks[i]?=aA k->I i ys Z h->Wp (g (sL k) Z) h λZ1 h1=>We (me Z1) h1 λy h3=>ys.length<sizeLine/\I (i+1) (ys++[y]) Z1 h3)
  (done:∀ys Z h,I ks.length ys Z h->L1 ys h):We (eL (mM ks) g (λ_=>M.ret aB) me FU 0 [] Z) h L1:=
 Wa I hn i0 (λi k ys Z h e a=>(turn i k ys Z h e a).mono λZ1 h1 w=>um w) done
theorem HI{L:bG}(ho:h.ob n=aA (.aR kvs))(hn:n<h.nx):((h.put n<|.dD kvs).new L).put n (.aR kvs)=h.new L:=by
 unfold AH.put AH.new;congr 1
 funext m
 dsimp only;by_cases e:m=n
 .subst e;rw[if_pos rfl,if_neg (cA hn),ho]
 .rw[if_neg e,if_neg e]
theorem Nu{α:Type}{m0:aF->M AV}{ma:aF->M α}{kv':List (aP×AV)}{a:α}(hd:m0 Z h = .ok (.ref n) h)(ho:h.ob n=aA (.aR kvs))(hm:ma Z h = .ok a h')(h2:h'.ob n=aA (.dD kv')):mC m0 ma Z h = .ok a (h'.put n<|.aR kv'):=by unfold mC;simp only[hd,xo,ho,hm,uk,h2]
theorem Hq(hd:aL F d Z h = .ok (.ref n) h)(ho:h.ob n=aA (.aR kvs)):cQ F (.aR d) Z h = .ok (mM<|kvs.map (·.1)) (h.put n<|.dD kvs):=by show M.bind (aL F d Z) ou h=_;simp only[M.bind,hd,ou,ho]
theorem aQn{c:Ex}{imp:Xt}{t:CT}(hd:aL F d Z h = .ok (.ref n) h)(ho:h.ob n=aA (.aR kvs))(hn:n<h.nx)
  (w:Wp (eL (mM<|kvs.map (·.1)) (pW t) (dI F c) (aL F e) FU 0 []<|mP imp Z) (h.put n<|.dD kvs) λys h2=>h2=h.put n (.dD kvs)/\V1 (.ref h.nx) (h.new<|.lst aB ys)):We (aL F (.kJ d<|.wL imp t (.aR d) c e) Z) h V1:=by
 obtain⟨ys,h2,a,rfl,q⟩:=w.ex;have b:aL F (.wL imp t (.aR d) c e) Z h = .ok (.ref h.nx) ((h.put n<|.dD kvs).new (.lst aB ys)):=by show M.bind (cQ F (.aR d) Z) _ h=_;simp only[M.bind,Hq hd ho,a];rfl
 show We (mC (aL F d) (aL F<|.wL imp t (.aR d) c e) Z) h V1;unfold We;rw[(Nu (kv':=kvs) hd ho b (by simp[AH.new,AH.put,cA hn])),HI ho hn];exact q
theorem aQm{imp:Xt}{t:CT}(hd:aL F d Z h = .ok (.ref n) h)(ho:h.ob n=aA (.aR kvs))(hn:n<h.nx)
  (w:Wp (eL (mM<|kvs.map (·.1)) (pW t) (λ_=>M.ret aB) (aL F e) FU 0 []<|mP imp Z) (h.put n<|.dD kvs) λys h2=>h2=h.put n (.dD kvs)/\V1 (.ref h.nx) (h.new<|.lst aB ys)):We (aL F (.kJ d<|.wK imp t (.aR d) e) Z) h V1:=by
 obtain⟨ys,h2,a,rfl,q⟩:=w.ex;have b:aL F (.wK imp t (.aR d) e) Z h = .ok (.ref h.nx) ((h.put n<|.dD kvs).new (.lst aB ys)):=by show M.bind (cQ F (.aR d) Z) _ h=_;simp only[M.bind,Hq hd ho,a];rfl
 show We (mC (aL F d) (aL F<|.wK imp t (.aR d) e) Z) h V1;unfold We;rw[(Nu (kv':=kvs) hd ho b (by simp[AH.new,AH.put,cA hn])),HI ho hn];exact q
theorem s9{g:AV->aF->M aF}{body:aF->M Out}(I:Nat->aF->AH->Prop)(hn:ks.length<FU)(i0:I 0 Z h)
  (turn:∀(i:Nat) k Z h,ks[i]?=aA k->I i Z h->We (g (sL k) Z) h λZ1 h1=>Wt (body Z1) h1 (I<|i+1) R N (I<|i+1))
  (done:∀Z h,I ks.length Z h->N Z h):Wt (kW (mM ks) g body FU 0 Z) h N R B C:=by
 exact zI I ks.length (λi Z h b a=>⟨_,Wv (eN b),turn i _ Z h (eN b) a⟩) (λZ h a=>⟨Wu,done Z h a⟩) FU 0 Z h (jZ _) (by omega) i0
theorem aQy{t:Tg}{b:aQ}(hd:aL F d Z h = .ok (.ref n) h)(ho:h.ob n=aA (.aR kvs))
  (w:Wt (kW (mM<|kvs.map (·.1)) (oX F t) (jO F b) FU 0 Z) (h.put n<|.dD kvs) (λZ' h'=>h'.ob n=aA (.dD kvs)/\N Z' (h'.put n<|.aR kvs)) (λ_ _=>False) (λ_ _=>False) (λ_ _=>False)):Wt (eO F (.kJ d<|.uD t (.aR d) b) Z) h N R B C:=by
 have a:=w;obtain⟨o,h',e,q⟩:=a.ex;cases o with
 |nx Z'=>
  obtain⟨c,f⟩:=(q:h'.ob n=aA (.dD kvs)/\N Z' (h'.put n<|.aR kvs));have g:eO F (.uD t (.aR d) b) Z h = .ok (.nx Z') h':=by show M.bind (cQ F (.aR d) Z) _ h=_;simp only[M.bind,Hq hd ho];exact e
  show Wt (mC (aL F d) (eO F<|.uD t (.aR d) b) Z) h N R B C;unfold Wt We;rw[(Nu (kv':=kvs) hd ho g c)];exact f
 |_=>exact(q).elim
theorem gc{cs:Xp}{f:Str}{fs:Xs}(ho:aL F o Z h = .ok (.ref n) h)(e:h.ob n=aA (.ins c fs))(hc:cs.contains c=aB)(l:fs.lookup f=aA v):aL F (.lH cs f o) Z h = .ok v h:=by show M.bind (aL F o Z) (uG cs f) h=_;simp only[M.bind,ho,uG,e,hc,l,if_true]
theorem jj(e:Z[i]?=aA (aA v)):aL F (.var i) Z h = .ok v h:=by show uJ i Z h=_;simp only[uJ,e]
theorem aOd{bs:YL}(e:h.ob n=aA (.lst b<|bs.map AV.bl))(q:V1 (.bl<|bs.any id) h):We (Kc.any.g<|.ref n) h V1:=by unfold We Kc.g;simp only[e,Kc.gl,Vi];exact q
theorem aPd{r:Bool}(e:h.ob n=aA (.lst b<|ns.map AV.int))(hn:ns.length<64)(q:V1 (.ref h.nx) (h.new<|.lst aB<|(jW r ns).map AV.int)):We ((Kc.srt r).g (.ref n)) h V1:=by unfold We Kc.g;simp only[e,Kc.gl,zj,if_pos hn];exact q
theorem aKb(hi:ns.Pairwise (·<·)):jW aB ns=ns.reverse:=by refine(Bl (List.reverse_perm ns) ?_).symm;show JQ (λa b=>a ≥ b) ns.reverse;rw[List.pairwise_reverse];exact hi.imp λh=>by lia
theorem aOu(e:h.ob n=aA (.lst b<|ns.map AV.int))(q:V1 (if ns.isEmpty then .aH else .int (sR ns)) h):We (Kc.Ae.g<|.ref n) h V1:=by unfold We Kc.g;simp only[e,Kc.gl,zj];exact q
theorem aPb(e:h.ob n=aA (.lst b<|ns.map AV.int))(hn:ns.length<64)(q:V1 (.ref h.nx) (h.new<|.lst aB<|(jW aG ns).map AV.int)):We (Kc.sd.g<|.ref n) h V1:=by unfold We Kc.g;simp only[e,Kc.gl,zj,if_pos hn];exact q
def aE(b:Bool)(A B:Prop):Prop:=match b with
 |true=>A
 |false=>B
theorem aE.ite{A B:Prop}(w:aE b A B):if b=aB then A else B:=by
 cases b with
 |true=>exact w|false=>exact w
theorem aE.mp{A B A' B':Prop}(w:aE b A B)(f:A->A')(g:B->B'):aE b A' B':=by
 cases b with
 |true=>exact f w|false=>exact g w
theorem aE.t{A B:Prop}(e:b=aB)(q:A):aE b A B:=by rw[e];exact q
theorem aE.f{A B:Prop}(e:b=aG)(q:B):aE b A B:=by rw[e];exact q
theorem aE.dt{c:Prop} [Decidable c] {A B:Prop}(e:c)(q:A):aE (decide c) A B:=aE.t (decide_eq_true e) q
theorem aE.df{c:Prop} [Decidable c] {A B:Prop}(e:¬c)(q:B):aE (decide c) A B:=aE.f (decide_eq_false e) q
theorem aE.nt{c:Prop} [Decidable c] {A B:Prop}(e:c)(q:B):aE (!decide c) A B:=aE.f (by rw[decide_eq_true e];rfl) q
theorem aE.nf{c:Prop} [Decidable c] {A B:Prop}(e:¬c)(q:A):aE (!decide c) A B:=aE.t (by rw[decide_eq_false e];rfl) q
theorem aE.dc{c:Prop} [Decidable c] {A B:Prop}(t:c->A)(f:¬c->B):aE (decide c) A B:=by
 by_cases z:c
 .exact aE.dt z<|t z
 .exact aE.df z<|f z
theorem aE.nd{c:Prop} [Decidable c] {A B:Prop}(t:¬c->A)(f:c->B):aE (!decide c) A B:=by
 by_cases z:c
 .exact aE.nt z<|f z
 .exact aE.nf z<|t z
theorem aE.by{b:Bool}{A B:Prop}(t:b=aB->A)(f:b=aG->B):aE b A B:=by
 cases b with
 |true=>exact t rfl|false=>exact f rfl
@[irreducible] def WC {α:Type} (m:M α) (h:AH) (Q:α->AH->Prop):Prop:=We m h Q
theorem WC.of{α:Type}{m:M α}{Q:α->AH->Prop}(w:We m h Q):WC m h Q:=by unfold WC;exact w
theorem WC.we{α:Type}{m:M α}{Q:α->AH->Prop}(w:WC m h Q):We m h Q:=by unfold WC at w;exact w
@[irreducible] def WB (m:M Out) (h:AH) (N:aF->AH->Prop) (R:AV->AH->Prop) (B C:aF->AH->Prop):Prop:=Wt m h N R B C
theorem WB.of{m:M Out}(w:Wt m h N R B C):WB m h N R B C:=by unfold WB;exact w
theorem WB.wt{m:M Out}(w:WB m h N R B C):Wt m h N R B C:=by unfold WB at w;exact w
def aC{α:Type}(o:Option α)(K:α->Prop):Prop:=match o with
 |some v=>K v
 |none=>False
theorem aC.of{α:Type}{o:Option α}{K:α->Prop}{v:α}(e:o=aA v)(q:K v):aC o K:=by rw[e];exact q
def uL:AV->Hc
 |.int i=>aA i
 |_=>aD
def Og(o:Op)(x y:AV)(h:AH)(Q:AV->AH->Prop):Prop:=match o with
 |.add=>match x,y with
  |.int i,.int j=>Q (.int<|i+j) h
  |x,y=>WC (Op.g .add x y) h Q
 |.sub=>match x,y with
  |.int i,.int j=>Q (.int<|i-j) h
  |x,y=>WC (Op.g .sub x y) h Q
 |.mod=>match x,y with
  |.int i,.int j=>aE (decide<|0<j) (Q (.int<|i%j) h) False
  |x,y=>WC (Op.g .mod x y) h Q
 |.fdiv=>match x,y with
  |.int i,.int j=>aE (qF j) (Q (.int<|i / j) h) False
  |x,y=>WC (Op.g .fdiv x y) h Q
 |.mul=>match x,y with
  |.int i,.int j=>aE (rG i j) (Q (.int<|i*j) h) False
  |x,y=>WC (Op.g .mul x y) h Q
 |.ix=>match x,y with
  |.tup xs,.int i=>aC (cM xs i) λv=>Q v h
  |x,y=>WC (Op.g .ix x y) h Q
 |o=>WC (o.g x y) h Q
def az(o:Cp)(x y:AV)(h:AH)(Q:AV->AH->Prop):Prop:=match o with
 |.lt=>match x,y with
  |.int i,.int j=>Q (.bl<|decide<|i<j) h
  |x,y=>WC (Cp.g .lt x y) h Q
 |.le=>match x,y with
  |.int i,.int j=>Q (.bl<|decide<|i<=j) h
  |x,y=>WC (Cp.g .le x y) h Q
 |.gt=>match x,y with
  |.int i,.int j=>Q (.bl<|decide<|j<i) h
  |x,y=>WC (Cp.g .gt x y) h Q
 |.ge=>match x,y with
  |.int i,.int j=>Q (.bl<|decide<|j<=i) h
  |x,y=>WC (Cp.g .ge x y) h Q
 |.eq=>match x,y with
  |.int i,.int j=>Q (.bl<|decide<|i=j) h
  |.str i,.str j=>Q (.bl<|decide<|i=j) h
  |x,y=>WC (Cp.g .eq x y) h Q
 |.ne=>match x,y with
  |.int i,.int j=>Q (.bl<|!decide (i=j)) h
  |.str i,.str j=>Q (.bl<|!decide (i=j)) h
  |x,y=>WC (Cp.g .ne x y) h Q
 |.gp=>match y with
  |.aH=>Q (.bl<|lV x) h
  |y=>WC (Cp.g .gp x y) h Q
 |.isn=>match y with
  |.aH=>Q (.bl<|!lV x) h
  |y=>WC (Cp.g .isn x y) h Q
 |o=>WC (o.g x y) h Q
def vI(x:AV)(h:AH)(Q:Bool->AH->Prop):Prop:=match x with
 |.bl b=>Q b h
 |.int i=>Q (i != 0) h
 |x=>WC (cZ x) h Q
def Of(f:Bi)(xs:Hd)(h:AH)(Q:AV->AH->Prop):Prop:=match f with
 |.len=>match xs with
  |[.tup ys]=>Q (.int ys.length) h
  |xs=>WC (Bi.g .len xs) h Q
 |.int=>match xs with
  |[.int i]=>Q (.int i) h
  |[.bl b]=>Q (.int<|if b then 1 else 0) h
  |xs=>WC (Bi.g .int xs) h Q
 |.min=>match xs with
  |[.int i,.int j]=>Q (.int<|if j<i then j else i) h
  |xs=>WC (Bi.g .min xs) h Q
 |.max=>match xs with
  |[.int i,.int j]=>Q (.int<|if j > i then j else i) h
  |xs=>WC (Bi.g .max xs) h Q
 |.tuple=>match xs with
  |[.tup ys]=>Q (.tup ys) h
  |xs=>WC (Bi.g .tuple xs) h Q
 |f=>WC (f.g xs) h Q
def HX(x:AV)(h:AH)(Q:AV->AH->Prop):Prop:=match x with
 |.int i=>Q (.int<|-i) h
 |x=>WC (pv x) h Q
def gY(x:AV)(h:AH)(K:Nat->Nat->Xs->Prop):Prop:=match x with
 |.ref n=>aC (h.ob n) λo=>match o with
  |.ins c fs=>K n c fs
  |_=>False
 |_=>False
mutual
noncomputable def wE(F:Run):Ex->aF->AH->(AV->AH->Prop)->Prop
 |.var i,Z,h,Q=>aC Z[i]? λo=>aC o λv=>Q v h
 |.val v,_,h,Q=>Q v h
 |.op o a b,Z,h,Q=>wE F a Z h λx h1=>wE F b Z h1 λy h2=>Og o x y h2 Q
 |.cmp o a b,Z,h,Q=>wE F a Z h λx h1=>wE F b Z h1 λy h2=>az o x y h2 Q
 |.neg a,Z,h,Q=>wE F a Z h λx h1=>HX x h1 Q
 |.not a,Z,h,Q=>wE F a Z h λx h1=>vI x h1 λb h2=>Q (.bl<|!b) h2
 |.and a b,Z,h,Q=>wE F a Z h λx h1=>vI x h1 λt h2=>aE t (wE F b Z h2 Q) (Q x h2)
 |.or a b,Z,h,Q=>wE F a Z h λx h1=>vI x h1 λt h2=>aE t (Q x h2) (wE F b Z h2 Q)
 |.ite c a b,Z,h,Q=>wT F c Z h λt h1=>aE t (wE F a Z h1 Q) (wE F b Z h1 Q)
 |.tup es,Z,h,Q=>oO F es Z h λxs h1=>aE (Qs xs.length 64) (Q (.tup xs) h1) False
 |.lst es,Z,h,Q=>oO F es Z h λxs h1=>aE (Qs xs.length 64) (Q (.ref h1.nx)<|h1.new<|.lst aB xs) False
 |.call f es,Z,h,Q=>oO F es Z h λxs h1=>WC (F f xs) h1 Q
 |.bi f es,Z,h,Q=>oO F es Z h λxs h1=>Of f xs h1 Q
 |.rC t a,Z,h,Q=>wE F a Z h λx h1=>aC (tT h1 x) λs=>Q (.bl<|s.sub t) h1
 |.chain o o' a b c,Z,h,Q=>wE F a Z h λx h1=>wE F b Z h1 λy h2=>az o x y h2 λz h3=>aC (sA z) λt=>aE t (wE F c Z h3 λu h4=>az o' y u h4 Q) (Q (.bl aG) h3)
 |.app o a,Z,h,Q=>wE F o Z h λx h1=>aE (zU h1 x) (wE F a Z h1 λy h2=>WC (uF x y) h2 Q) False
 |.lH cs f o,Z,h,Q=>wE F o Z h λx h1=>gY x h1 λ_ c fs=>aE (cs.contains c) (aC (fs.lookup f) λv=>Q v h1) False
 |.rF m dp o es,Z,h,Q=>wE F o Z h λx h1=>gY x h1 λn c fs=>aC (dp.lookup c) λi=>aE (fs.lookup m).isNone (oO F es Z h1 λxs h2=>WC (F i<|.ref n::xs) h2 Q) False
 |.make c i dv es,Z,h,Q=>oO F es Z h λxs h1=>WC (F i<|.ref h1.nx::(xs++dv)) (h1.new<|.ins c []) λv h2=>v = .aH/\Q (.ref h1.nx) h2
 |.fq i es,Z,h,Q=>oO F es Z h λxs h1=>WC (F i xs) h1 Q
 |.oo,_,h,Q=>Q (.ref h.nx) (h.new<|.aR [])
 |.dm f o es,Z,h,Q=>wE F o Z h λx h1=>aE (fQ h1 x).isSome (oO F es Z h1 λxs h2=>WC (f.g x xs) h2 Q) False
 |.kc k a,Z,h,Q=>wE F a Z h λx h1=>WC (k.g x) h1 Q
 |e,Z,h,Q=>WC (aL F e Z) h Q
noncomputable def wT(F:Run):Ex->aF->AH->(Bool->AH->Prop)->Prop
 |.var i,Z,h,Q=>aC Z[i]? λo=>aC o λv=>vI v h Q
 |.cmp o a b,Z,h,Q=>wE F a Z h λx h1=>wE F b Z h1 λy h2=>az o x y h2 λz h3=>aC (sA z) λt=>Q t h3
 |.not a,Z,h,Q=>wT F a Z h λb h1=>Q (!b) h1
 |.and a b,Z,h,Q=>wT F a Z h λt h1=>aE t (wT F b Z h1 Q) (Q aG h1)
 |.or a b,Z,h,Q=>wT F a Z h λt h1=>aE t (Q aB h1) (wT F b Z h1 Q)
 |.chain o o' a b c,Z,h,Q=>wE F a Z h λx h1=>wE F b Z h1 λy h2=>az o x y h2 λz h3=>aC (sA z) λt=>aE t (wE F c Z h3 λu h4=>az o' y u h4 λz h5=>aC (sA z) λt=>Q t h5) (Q aG h3)
 |.call f es,Z,h,Q=>oO F es Z h λxs h1=>WC (F f xs) h1 λv h2=>vI v h2 Q
 |.rC t a,Z,h,Q=>wE F a Z h λx h1=>aC (tT h1 x) λs=>Q (s.sub t) h1
 |.lH cs f o,Z,h,Q=>wE F o Z h λx h1=>gY x h1 λ_ c fs=>aE (cs.contains c) (aC (fs.lookup f) λv=>vI v h1 Q) False
 |.rF m dp o es,Z,h,Q=>wE F o Z h λx h1=>gY x h1 λn c fs=>aC (dp.lookup c) λi=>aE (fs.lookup m).isNone (oO F es Z h1 λxs h2=>WC (F i<|.ref n::xs) h2 λv h3=>vI v h3 Q) False
 |.kc k a,Z,h,Q=>wE F a Z h λx h1=>WC (k.g x) h1 λv h3=>vI v h3 Q
 |e,Z,h,Q=>WC (dI F e Z) h Q
noncomputable def oO(F:Run):eJ->aF->AH->(Hd->AH->Prop)->Prop
 |.nil,_,h,Q=>Q [] h
 |.cons e es,Z,h,Q=>wE F e Z h λx h1=>oO F es Z h1 λxs h2=>Q (x::xs) h2
end
mutual
noncomputable def wA(F:Run):Tg->AV->aF->AH->(aF->AH->Prop)->Prop
 |.nm i,v,Z,h,K=>K (Z.set i<|aA v) h
 |.tup n ts,v,Z,h,K=>aC (dX h v) λxs=>aE (decide<|xs.length=n) (Oe F ts xs Z h K) False
 |.sub o i,v,Z,h,K=>wE F o Z h λx h1=>wE F i Z h1 λy h2=>WC (oA x y v) h2 λ_ h3=>K Z h3
 |t,v,Z,h,K=>WC (oX F t v Z) h K
noncomputable def Oe(F:Run):wD->Hd->aF->AH->(aF->AH->Prop)->Prop
 |.nil,[],Z,h,K=>K Z h
 |.nil,_::_,_,_,_=>False
 |.cons _ _,[],_,_,_=>False
 |.cons t ts,v::vs,Z,h,K=>wA F t v Z h λZ1 h1=>Oe F ts vs Z1 h1 K
end
mutual
noncomputable def wS(F:Run):Sx->aF->AH->(aF->AH->Prop)->(AV->AH->Prop)->(aF->AH->Prop)->(aF->AH->Prop)->Prop
 |.pass,Z,h,N,_,_,_=>N Z h
 |.brk,Z,h,_,_,B,_=>B Z h
 |.cnt,Z,h,_,_,_,C=>C Z h
 |.Bb,_,h,_,R,_,_=>R .aH h
 |.expr e,Z,h,N,_,_,_=>wE F e Z h λ_ h1=>N Z h1
 |.ret e,Z,h,_,R,_,_=>wE F e Z h R
 |.asg t e,Z,h,N,_,_,_=>wE F e Z h λv h1=>wA F t v Z h1 N
 |.ite c a b,Z,h,N,R,B,C=>wT F c Z h λt h1=>aE t (eG F a Z h1 N R B C) (eG F b Z h1 N R B C)
 |.gg cs f o e,Z,h,N,_,_,_=>wE F e Z h λv h1=>wE F o Z h1 λx h2=>gY x h2 λn c fs=>aE (cs.contains c) (aE (decide<|fs.length<1000) (N Z<|h2.put n<|.ins c<|gG f v fs) False) False
 |.ot cs f o e,Z,h,N,_,_,_=>wE F o Z h λx h1=>gY x h1 λn c fs=>aE (cs.contains c) (aC (fs.lookup f) λv=>aC (uL v) λi=>wE F e Z h1 λy h2=>aC (uL y) λj=>gY (.ref n) h2 λ_ c' fs2=>aE (decide<|c'=c) (aE (decide<|fs2.length<1000) (N Z<|h2.put n<|.ins c<|gG f (.int<|i+j) fs2) False) False) False
 |.aug sub i e,Z,h,N,_,_,_=>aC Z[i]? λo=>aC o λv=>aC (uL v) λa=>wE F e Z h λy h1=>aC (uL y) λj=>N (Z.set i<|aA<|.int<|if sub=aB then a-j else a+j) h1
 |.par is es,Z,h,N,_,_,_=>oO F es Z h λvs h1=>aE (decide<|vs.length=is.length) (N (Bf is vs Z) h1) False
 |s,Z,h,N,R,B,C=>WB (eO F s Z) h N R B C
noncomputable def eG(F:Run):aQ->aF->AH->(aF->AH->Prop)->(AV->AH->Prop)->(aF->AH->Prop)->(aF->AH->Prop)->Prop
 |.nil,Z,h,N,_,_,_=>N Z h
 |.cons s ss,Z,h,N,R,B,C=>wS F s Z h (λZ1 h1=>eG F ss Z1 h1 N R B C) R B C
end
theorem Co{i:Int}{Q:Unit->AH->Prop}(e:h.ob n=aA (.lst aB xs))(hi:jP xs.length i=aA j)(q:Q () (h.put n<|.lst aB<|xs.set j v)):WC (oA (.ref n) (.int i) v) h Q:=by refine WC.of ?_;have a:fQ h (.ref n)=aD:=Be (xs:=xs) (by simp only[dX,e]);unfold We oA;simp only[a];unfold rA;simp only[e,hi];exact q
theorem xN{k:aP}{Q:Unit->AH->Prop}(e:h.ob n=aA (.aR kvs))(hk:fN y=aA k)(hl:kvs.length<sizeLine)(q:Q () (h.put n<|.aR<|jT kvs k v)):WC (oA (.ref n) y v) h Q:=by refine WC.of ?_;unfold We oA;simp only[tX e,hk,if_pos hl];exact q
theorem sH(e:h.ob n=aA (.aR kvs)):(fQ h<|.ref n).isSome=aB:=by rw[tX e];rfl
theorem aC.ex{α:Type}{o:Option α}{K:α->Prop}(w:aC o K):∃v,o=aA v/\K v:=by
 cases o with
 |some v=>exact⟨v,rfl,w⟩|none=>exact w.elim
theorem aE.an{A:Prop}(w:aE b A False):b=aB/\A:=by
 cases b with
 |true=>exact⟨rfl,w⟩|false=>exact w.elim
theorem aE.len{c:Prop} [Decidable c] {A:Prop}(w:aE (decide c) A False):c/\A:=⟨of_decide_eq_true (aE.an w).1,(aE.an w).2⟩
theorem BE(h:Qs n 64=aB):n<=sizeLine:=dF (LL h) (by decide)
theorem aNt{o:Op}(w:Og o x y h Q):We (o.g x y) h Q:=by
 cases o with
 |add=>cases x<;>first|exact WC.we w|(cases y<;>first|exact WC.we w|exact aOc w)
 |sub=>cases x<;>first|exact WC.we w|(cases y<;>first|exact WC.we w|exact aPe w)
 |mod=>cases x<;>first|exact WC.we w|(cases y<;>first|exact WC.we w|exact aOv (aE.len w).1 (aE.len w).2)
 |fdiv=>cases x<;>first|exact WC.we w|(cases y<;>first|exact WC.we w|exact aOm (aE.an w).1 (aE.an w).2)
 |mul=>cases x<;>first|exact WC.we w|(cases y<;>first|exact WC.we w|exact aOw (aE.an w).1 (aE.an w).2)
 |ix=>cases x<;>first|exact WC.we w|(cases y<;>first|exact WC.we w|(obtain⟨v,e,q⟩:=aC.ex w;exact gI rfl e q))
 |_=>exact WC.we w
theorem jm{o:Cp}(w:az o x y h Q):We (o.g x y) h Q:=by
 cases o with
 |lt=>cases x<;>first|exact WC.we w|(cases y<;>first|exact WC.we w|exact aOs w)
 |le=>cases x<;>first|exact WC.we w|(cases y<;>first|exact WC.we w|exact aOr w)
 |gt=>cases x<;>first|exact WC.we w|(cases y<;>first|exact WC.we w|exact aOo w)
 |ge=>cases x<;>first|exact WC.we w|(cases y<;>first|exact WC.we w|exact aOn w)
 |eq=>cases x<;>first|exact WC.we w|(cases y<;>first|exact WC.we w|exact aOk w|exact aOl w)
 |ne=>cases x<;>first|exact WC.we w|(cases y<;>first|exact WC.we w|exact aOx w|exact aOy w)
 |gp=>cases y<;>first|exact WC.we w|exact aOp w
 |isn=>cases y<;>first|exact WC.we w|exact aOq w
 |_=>exact WC.we w
theorem xK{Q:Bool->AH->Prop}(w:vI x h Q):We (cZ x) h Q:=by cases x<;>first|exact WC.we w|exact w
theorem aNs(w:HX x h Q):We (pv x) h Q:=by cases x<;>first|exact WC.we w|exact w
theorem aNr{f:Bi}(w:Of f xs h Q):We (f.g xs) h Q:=by
 unfold Of at w;split at w
 .split at w
  .exact kK rfl w
  .exact WC.we w
 .split at w
  .exact w
  .exact w
  .exact WC.we w
 .split at w
  .exact w
  .exact WC.we w
 .split at w
  .exact w
  .exact WC.we w
 .split at w
  .exact xM rfl w
  .exact WC.we w
 .exact WC.we w
theorem xc{m:M AV}{Q:Bool->AH->Prop}(w:We m h λz h1=>aC (sA z) λt=>Q t h1):We m h λz h1=>∃t,z = .bl t/\Q t h1:=w.mono λz h1 w=>by obtain⟨t,e,q⟩:=aC.ex w;cases z<;>cases e;exact⟨_,rfl,q⟩
theorem gY.ex{x:AV}{h:AH}{K:Nat->Nat->Xs->Prop}(w:gY x h K):∃n c fs,x = .ref n/\h.ob n=aA (.ins c fs)/\K n c fs:=by
 unfold gY at w;split at w
 .obtain⟨o,e,w⟩:=aC.ex w;split at w
  .exact⟨_,_,_,rfl,e,w⟩
  .exact w.elim
 .exact w.elim
theorem BH{fs:Xs}(h:(fs.lookup m).isNone=aB):fs.lookup m=aD:=by
 cases e:fs.lookup m with
 |none=>rfl|some v=>rw[e]at h;cases h
mutual
theorem cF(e:Ex):∀{Z:aF}{h:AH}{Q:AV->AH->Prop},wE F e Z h Q->We (aL F e Z) h Q:=by
 intro Z h Q w;cases e with
 |var i=>obtain⟨o,e1,w⟩:=aC.ex w;obtain⟨v,e2,w⟩:=aC.ex w;subst e2;exact Cj e1 w
 |val v=>exact w|op o a b=>exact aQf<|(cF a w).mono λx h1 w=>(cF b w).mono λy h2 w=>aNt w|cmp o a b=>exact aPw<|(cF a w).mono λx h1 w=>(cF b w).mono λy h2 w=>jm w|neg a=>exact aQd<|(cF a w).mono λx h1 w=>aNs w|not a=>exact aQe<|(cF a w).mono λx h1 w=>xK w|and a b=>exact aPs<|(cF a w).mono λx h1 w=>(xK w).mono λt h2 w=>aE.ite (w.mp (cF b) id)|or a b=>exact aQg<|(cF a w).mono λx h1 w=>(xK w).mono λt h2 w=>aE.ite (w.mp id<|cF b)|ite c a b=>exact aQa<|(oQ c w).mono λt h1 w=>aE.ite (w.mp (cF a)<|cF b)|tup es=>exact aQo<|(oP es w).mono λxs h1 w=>⟨BE (aE.an w).1,(aE.an w).2⟩|lst es=>exact aQb<|(oP es w).mono λxs h1 w=>⟨BE (aE.an w).1,(aE.an w).2⟩|call f es=>exact IQ<|(oP es w).mono λxs h1 w=>w.we|bi f es=>exact aPu<|(oP es w).mono λxs h1 w=>aNr w|rC t a=>exact IU ((cF a w).mono λx h1 w=>by obtain⟨s,e,w⟩:=aC.ex w;exact IE e w)
 |chain o o' a b c=>exact IS<|(cF a w).mono λx h1 w=>(cF b w).mono λy h2 w=>xc ((jm w).mono λz h3 w=>by obtain⟨t,e,w⟩:=aC.ex w;exact aC.of e<|aE.ite<|w.mp (λw=>(cF c w).mono λu h4 w=>jm w) id)
 |app o a=>exact aPt<|(cF o w).mono λx h1 w=>⟨(aE.an w).1,(cF a (aE.an w).2).mono λy h2 w=>w.we⟩|lH cs f o=>exact IT ((cF o w).mono λx h1 w=>by obtain⟨n,c,fs,rfl,e,w⟩:=gY.ex w;obtain⟨hc,w⟩:=aE.an w;obtain⟨v,l,w⟩:=aC.ex w;exact ID e hc l w)
 |rF m dp o es=>exact IV ((cF o w).mono λx h1 w=>by obtain⟨n,c,fs,rfl,e,w⟩:=gY.ex w;obtain⟨i,l,w⟩:=aC.ex w;obtain⟨hm,w⟩:=aE.an w;exact⟨n,c,fs,i,rfl,e,l,BH hm,(oP es w).mono λxs h2 w=>w.we⟩)
 |make c i dv es=>exact aQc<|(oP es w).mono λxs h1 w=>w.we|fq i es=>exact aPv<|(oP es w).mono λxs h1 w=>w.we|oo=>exact w|dm f o es=>exact aPy<|(cF o w).mono λx h1 w=>⟨(aE.an w).1,(oP es (aE.an w).2).mono λxs h2 w=>w.we⟩|kc k a=>exact bK<|(cF a w).mono λx h1 w=>w.we|_=>exact WC.we w
theorem oQ(e:Ex):∀{Z:aF}{h:AH}{Q:Bool->AH->Prop},wT F e Z h Q->We (dI F e Z) h Q:=by
 intro Z h Q w;cases e with
 |var i=>obtain⟨o,e1,w⟩:=aC.ex w;obtain⟨v,e2,w⟩:=aC.ex w;subst e2;exact aRj<|Cj e1<|xK w
 |cmp o a b=>exact aRc<|(cF a w).mono λx h1 w=>(cF b w).mono λy h2 w=>xc (jm w)|not a=>exact aRg<|oQ a w|and a b=>exact aQz<|(oQ a w).mono λt h1 w=>aE.ite (w.mp (oQ b) id)|or a b=>exact aRi<|(oQ a w).mono λt h1 w=>aE.ite (w.mp id<|oQ b)|chain o o' a b c=>exact aRb<|IS<|(cF a w).mono λx h1 w=>(cF b w).mono λy h2 w=>xc ((jm w).mono λz h3 w=>by obtain⟨t,e,w⟩:=aC.ex w;exact aC.of e<|aE.ite<|w.mp (λw=>(cF c w).mono λu h4 w=>xc (jm w)) λw=>⟨_,rfl,w⟩)
 |call f es=>exact aRa<|IQ<|(oP es w).mono λxs h1 w=>w.we.mono λv h2 w=>xK w|rC t a=>exact aRe<|IU ((cF a w).mono λx h1 w=>by obtain⟨s,e,w⟩:=aC.ex w;exact IE e w)
 |lH cs f o=>exact aRd<|IT ((cF o w).mono λx h1 w=>by obtain⟨n,c,fs,rfl,e,w⟩:=gY.ex w;obtain⟨hc,w⟩:=aE.an w;obtain⟨v,l,w⟩:=aC.ex w;exact ID e hc l<|xK w)
 |rF m dp o es=>exact aRf<|IV ((cF o w).mono λx h1 w=>by obtain⟨n,c,fs,rfl,e,w⟩:=gY.ex w;obtain⟨i,l,w⟩:=aC.ex w;obtain⟨hm,w⟩:=aE.an w;exact⟨n,c,fs,i,rfl,e,l,BH hm,(oP es w).mono λxs h2 w=>w.we.mono λv h3 w=>xK w⟩)
 |kc k a=>exact bK<|bK<|(cF a w).mono λx h1 w=>w.we.mono λv h3 w=>xK w|_=>exact WC.we w
theorem oP(es:eJ):∀{Z:aF}{h:AH}{Q:Hd->AH->Prop},oO F es Z h Q->We (dM F es Z) h Q:=by
 intro Z h Q w;cases es with
 |nil=>exact w|cons e es=>exact Ck<|(cF e w).mono λx h1 w=>oP es w
end
mutual
theorem iZ(t:Tg):∀{v:AV}{Z:aF}{h:AH}{K:aF->AH->Prop},wA F t v Z h K->We (oX F t v Z) h K:=by
 intro v Z h K w;cases t with
 |nm i=>exact w|tup n a=>obtain⟨xs,e,w⟩:=aC.ex w;exact aNx e (aE.len w).1 (HW a (aE.len w).2)
 |sub o i=>exact bK<|(cF o w).mono λx b w=>bK ((cF i w).mono λy c w=>bK (w.we.mono λ_ d q=>q))|_=>exact WC.we w
theorem HW(ts:wD):∀{vs:Hd}{Z:aF}{h:AH}{K:aF->AH->Prop},Oe F ts vs Z h K->We (wF F ts vs Z) h K:=by
 intro vs Z h K w;cases ts with
 |nil=>
  cases vs with
  |nil=>exact w|cons=>exact w.elim
 |cons t ts=>
  cases vs with
  |nil=>exact w.elim|cons v vs=>exact aNv<|(iZ t w).mono λa b w=>HW ts w
end
mutual
theorem aNu(s:Sx):∀{Z:aF}{h:AH}{N:aF->AH->Prop}{R:AV->AH->Prop}{B C:aF->AH->Prop},wS F s Z h N R B C->Wt (eO F s Z) h N R B C:=by
 intro Z h N R B C w;cases s with
 |pass=>exact w|brk=>exact w|cnt=>exact w|Bb=>exact w|expr e=>exact aQs<|cF e w|ret e=>exact aQx<|cF e w|asg t e=>exact aQp<|(cF e w).mono λv d w=>iZ t w|ite c a b=>exact aQv<|(oQ c w).mono λt d w=>aE.ite (w.mp (gE a)<|gE b)|gg cs f o e=>exact aQu ((cF e w).mono λv d w=>(cF o w).mono λx r w=>by obtain⟨n,c,fs,rfl,e,w⟩:=gY.ex w;obtain⟨g,w⟩:=aE.an w;obtain⟨hl,w⟩:=aE.len w;exact⟨n,c,fs,rfl,e,g,hl,w⟩)
 |ot cs f o e=>exact aQt ((cF o w).mono λx d w=>by
   obtain⟨n,c,fs,rfl,k,w1⟩:=gY.ex w;obtain⟨g,w2⟩:=aE.an w1;obtain⟨v,l,w3⟩:=aC.ex w2;obtain⟨i,m,u⟩:=aC.ex w3;have ev:v = .int i:=by cases v<;>cases m;rfl
   refine⟨n,c,fs,i,rfl,k,g,by rw[l,ev],(cF e u).mono λy r z=>?_⟩;obtain⟨j,p,A⟩:=aC.ex z;have D:y = .int j:=by cases y<;>cases p;rfl
   obtain⟨J,K,q,en,E,G⟩:=gY.ex A;cases en;obtain⟨H,w8⟩:=aE.len G;obtain⟨hl,w⟩:=aE.len w8;subst H;exact⟨j,q,D,E,hl,w⟩)
 |aug sub i e=>
  obtain⟨o,k,w⟩:=aC.ex w;obtain⟨v,l,w⟩:=aC.ex w;obtain⟨a,m,w⟩:=aC.ex w;subst l;cases v<;>cases m;exact aQq k ((cF e w).mono λy d w=>by obtain⟨j,p,w⟩:=aC.ex w;cases y<;>cases p;exact⟨_,rfl,w⟩)
 |par is I=>exact aQw<|(oP I w).mono λL d w=>aE.len w|_=>exact WB.wt w
theorem gE(ss:aQ):∀{Z:aF}{h:AH}{N:aF->AH->Prop}{R:AV->AH->Prop}{B C:aF->AH->Prop},eG F ss Z h N R B C->Wt (jO F ss Z) h N R B C:=by
 intro Z h N R B C w;cases ss with
 |nil=>exact w|cons s ss=>
  refine aQr<|(aNu s w).mono λo h1 w=>?_;cases o with
  |nx Z=>exact gE ss w|ret v=>exact w|brk Z=>exact w|cnt Z=>exact w
end
def Bv(F:Run)(e:Ex)(Z:aF)(h:AH)(K:Hc->AH->Prop):Prop:=match e with
 |.no=>K aD h
 |e=>wE F e Z h λx h1=>aC (uL x) λi=>K (aA i) h1
theorem HY{K:Hc->AH->Prop}(w:Bv F e Z h K):We (pF e<|aL F e Z) h K:=by
 unfold Bv at w;split at w
 .exact w
 .rename_i hn;have key:We (aL F e Z) h λx a=>∃i,x = .int i/\K (aA i) a:=(cF e w).mono λx a w=>by obtain⟨i,e,q⟩:=aC.ex w;cases x<;>cases e;exact⟨_,rfl,q⟩
  exact aQh (λm=>by unfold pF;split;exact absurd rfl hn;rfl) key
theorem ju{a lo hi:Ex}(w:wE F a Z h λx h1=>Bv F lo Z h1 λl h2=>Bv F hi Z h2 λu h3=>WC (rB x l u) h3 Q):WC (aL F (.slice a lo hi) Z) h Q:=
 WC.of (aQl<|(cF a w).mono λ_ _ w=>(HY w).mono λ_ _ w=>(HY w).mono λ_ _ w=>w.we)
theorem aQk{P:Pg}{k f np nn:Nat}{b:aQ}{args:Hd}(e:P f=aA (np,nn,b))(hl:args.length=np)(w:eG (run P k) b (args.map aA++eR (nn-np) aD) h (λ_ h1=>R .aH h1) R (λ_ _=>False) (λ_ _=>False)):We (run P (k+1) f args) h R:=aQj e hl (gE b w)
section
variable {Q:gF->AH->Prop}
theorem Im{K:Int->Prop}(w:aC (uL x) K):∃i,x = .int i/\K i:=by obtain⟨i,e,q⟩:=aC.ex w;cases x<;>cases e;exact⟨_,rfl,q⟩
theorem Cg{a:Ex}(w:wE F a Z h λx h1=>aC (uL x) λj=>mB j=aB/\Q (nL 0 j.toNat) h1):We (cQ F (.Bc<|.cons a .nil) Z) h Q:=
 aPh (Ck<|(cF a w).mono λx h1 w=>IW (by obtain⟨j,rfl,w⟩:=Im w;exact⟨j,rfl,w⟩))
theorem aPg{a b:Ex}(w:wE F a Z h λx h1=>aC (uL x) λi=>wE F b Z h1 λy h2=>aC (uL y) λj=>(mB i&&mB j)=aB/\Q (nL i (j-i).toNat) h2):We (cQ F (.Bd<|.cons a<|.cons b .nil) Z) h Q:=
 aPi (Ck ((cF a w).mono λx h1 w=>by obtain⟨i,rfl,w⟩:=Im w;exact Ck<|(cF b w).mono λy h2 w=>IW (by obtain⟨j,rfl,w⟩:=Im w;exact⟨i,j,rfl,w⟩)))
theorem mU{a:Ex}(w:wE F a Z h λx h1=>We (zN x) h1 Q):We (cQ F (.seq a) Z) h Q:=aPj (cF a w)
end
def gm:Xz->Addr->Bool
 |some (aA<|.ref a),f=>a==f
 |_,_=>aG
def zm:Xz->Bool
 |some aD=>aB
 |_=>aG
def Iy:Xz->String->Bool
 |some (aA<|.builtin b),s=>b==s
 |_,_=>aG
theorem qj{o:Xz}{f:Addr}(h:gm o f=aB):o=aA (aA<|.ref f):=by
 unfold gm at h;split at h
 .rw[eq_of_beq h]
 .cases h
theorem Zy{o:Xz}(h:zm o=aB):o=aA aD:=by
 unfold zm at h;split at h
 .rfl
 .cases h
theorem D7{o:Xz}{s:String}(h:Iy o s=aB):o=aA (aA<|.builtin s):=by
 unfold Iy at h;split at h
 .rw[eq_of_beq h]
 .cases h
def xk(K:bI)(C:Addr):Bool:=vg K C Str.empty&&Eb K C&&Rt K C&&Iy (nQ K (.ref C) "__setattr__") "object.__setattr__"
theorem Vv{K:bI}{C:Addr}(h:xk K C=aB):mX K C:=by unfold xk at h;rw[bS,bS,bS]at h;exact⟨h.1.1.1,h.1.1.2,h.1.2,D7 h.2⟩
def pV(cs:YI)(c:Nat):Addr:=(cs.lookup c).getD 0
def rp(K:bI)(p:Pr)(fL:Xk):Bool:=((p.defs.take p.zH).zip fL).all (λx=>gm (vQ K iK x.1.name) x.2)&&p.iP.all λx=>zm (vQ K iK x)
def CF(K:bI)(p:Pr)(cs:YI):Bool:=p.kU.all λx=>x.2.all λc=>(cs.lookup c).isSome&&xk K (pV cs c)&&zm (nQ K (.ref<|pV cs c) x.1)
def CH(K:bI)(p:Pr)(fL:Xk)(cs:YI):Bool:=p.nH.all λx=>x.2.all λy=>(cs.lookup y.1).isSome&&(p.defs[y.2]?).isSome&&xk K (pV cs y.1)&&gm (nQ K (.ref<|pV cs y.1) x.1) (fL.getD y.2 0)&&vf K (.ref<|fL.getD y.2 0)
def CG(K:bI)(p:Pr)(fL:Xk)(cs:YI):Bool:=p.mQ.all λx=>(cs.lookup x.2.1).isSome&&(p.defs[x.2.2.1]?).isSome&&gm (vQ K iK x.1.1) (pV cs x.2.1)&&Ro K (pV cs x.2.1) &&
 gm (nQ K (.ref<|pV cs x.2.1) "__init__") (fL.getD x.2.2.1 0)&&vf K (.ref<|fL.getD x.2.2.1 0)&&tL K (.ref<|pV cs x.2.1)
theorem wy{cs:YI}(h:(cs.lookup c).isSome=aB):cs.lookup c=aA (pV cs c):=by
 unfold pV;cases e:cs.lookup c with
 |none=>rw[e]at h;cases h|some a=>rfl
theorem jF.len{K:bI}{fs:List eW}(h:jF K ds as fs):ds.length=as.length:=by
 induction h with
 |nil=>rfl|cons _ _ a=>rw[iB,iB,a]
theorem jF.one{K:bI}{nm qu:Str}{st:Stmt}{N ps:Xo}{f:Addr}{oc dV kV doc pm cd ct:Value}{od an:YM}{sl:YJ}{fs:List eW}
  (l:K.lookup f=aA ⟨oc,od,.func (ky nm qu (xr st) (fz st) (qD st) dV kV doc pm an cd ct),sl⟩)(c:Rk K cd qu=aB)(k:tL K (.ref f)=aB)
  (b:Binds K (ky nm qu (xr st) (fz st) (qD st) dV kV doc pm an cd ct) ps [])(s:mn N ps (qD st))(t:jF K ds as fs):jF K (⟨nm,qu,st,N,ps⟩::ds) (f::as) (ky nm qu (xr st) (fz st) (qD st) dV kV doc pm an cd ct::fs):=
 .cons ⟨⟨⟨_,_,_,_,_,_,_,_,_,_,rfl,l,c⟩,k⟩,b,s⟩ t
section
variable {P:cC}{w:bV}{K:bI}{h:bH}{mg:Str->Xl}{p:Pr}{fL:Xk}{fds:List eW}{cs:YI}{G:Xu->Addr->Prop}{f0:eW}
theorem CI(X:K.In h)(N:h.Ns iK mg)(D:jF K p.defs fL fds)(ok:rp K p fL=aB):∀(i:Nat) d,(p.defs.take p.zH)[i]?=aA d->mg d.name=aA (.ref<|fL.getD i 0):=λi d hd=>by
 unfold rp at ok;rw[bS]at ok;have a:=(List.getElem?_eq_some_iff.mp hd).1;rw[mJ,D.len]at a;have ha:fL[i]?=aA (fL.getD i 0):=by rw[tH,eN (by lia)];rfl
 have hm:(d,fL.getD i 0)∈(p.defs.take p.zH).zip fL:=bX (by rw[KQ];exact⟨hd,ha⟩);exact vP X N<|qj<|List.all_eq_true.mp ok.1 _ hm
theorem Q1(X:K.In h)(N:h.Ns iK mg)(ok:rp K p fL=aB):∀x,p.iP.contains x=aB->mg x=aD:=λx a=>by unfold rp at ok;rw[bS]at ok;exact W.mg_none_of X N<|Zy<|List.all_eq_true.mp ok.2 x<|List.contains_iff_mem.mp a
theorem P8(ok:CF K p cs=aB):∀f c,p.kU.lookup f=aA c->dw K ⟨K,G,λi=>cs.lookup i⟩ c f:=λf c a k C b d=>by have:=List.all_eq_true.mp (List.all_eq_true.mp ok _<|rf a) k (List.contains_iff_mem.mp b);rw[bS,bS]at this;have e:=wy this.1.1;have g:cs.lookup k=aA C:=d;rw[g]at e;rw[(dR e)];exact⟨Vv this.1.2,Zy this.2⟩
theorem Q0(D:jF K p.defs fL fds)(ok:CH K p fL cs=aB):∀m dp,p.nH.lookup m=aA dp->∀c i,dp.lookup c=aA i->∃d C,p.defs[i]?=aA d/\cs.lookup c=aA C/\mX K C/\wc K C m (fL.getD i 0):=λm dp a c i b=>by have:=List.all_eq_true.mp (List.all_eq_true.mp ok _<|rf a) _ (rf b);rw[bS,bS,bS,bS]at this;obtain⟨⟨⟨⟨h1,e⟩,f⟩,g⟩,h⟩:=this;obtain⟨d,hd⟩:=Option.isSome_iff_exists.mp e;exact⟨d,_,hd,wy h1,Vv f,qj g,h,(jF.get D (f0:=default) i d hd).fn.kp⟩
theorem P9(X:K.In h)(N:h.Ns iK mg)(D:jF K p.defs fL fds)(ok:CG K p fL cs=aB)
  (dv:∀x n c i dv,p.mQ.lookup (x,n)=aA (c,i,dv)->dv≠[]->∃d ds dvs,p.defs[i]?=aA d/\Binds K (fds.getD i f0) d.ps ds/\Vals dvs ds/\∀Y H,bE ⟨K,G,λi=>cs.lookup i⟩ Y H dv dvs) :
  ∀x n c i dv,p.mQ.lookup (x,n)=aA (c,i,dv)->∃d C ds dvs,p.defs[i]?=aA d/\cs.lookup c=aA C/\Mk K C (fL.getD i 0)/\mg x=aA (.ref C)/\Binds K (fds.getD i f0) d.ps ds/\Vals dvs ds/\∀Y H,bE ⟨K,G,λi=>cs.lookup i⟩ Y H dv dvs:=λx n c i v e=>by
 have:=List.all_eq_true.mp ok _ (rf e);rw[bS,bS,bS,bS,bS,bS]at this;obtain⟨⟨⟨⟨⟨⟨h1,j⟩,f⟩,k⟩,l⟩,m⟩,o⟩:=this;obtain⟨d,hd⟩:=Option.isSome_iff_exists.mp j;have mk:Mk K (pV cs c) (fL.getD i 0):=⟨k,qj l,m,o⟩;by_cases g:v=[]
 .subst g;exact⟨d,_,[],[],hd,wy h1,mk,vP X N (qj f),(jF.get D i d hd).bd,.nil,λ_ _=>.nil⟩
 .obtain⟨q,ds,dvs,a,b,s,r⟩:=dv x n c i v e g;exact⟨q,_,ds,dvs,a,wy h1,mk,vP X N (qj f),b,s,r⟩
end
end AM
namespace AMx
open PySem PySem.Spec PyProof.Rows L2 AM
def top(i:Nat):Stmt:=PySem.Challenge.pw_aheadmill_k38_work_lasts.main.body.getD i (.Pass ⟨0,0,0,0⟩)
def cb(i j:Nat):Stmt:=(WA<|top i).getD j (.Pass ⟨0,0,0,0⟩)
section
local macro_rules|`(!($a,$i,[$p,*],[$l,*]))=>`(⟨$a,$a,top $i,[$p,*,$l,*],[$p,*]⟩)|`(!($a,$q,$i,$j,[$p,*],[$l,*]))=>`(⟨$a,$q,cb $i $j,[$p,*,$l,*],[$p,*]⟩)
def Gp:List Df:=[!("_wall",0,["k"],[]),!("word_of",12,["number"],[]),!("shared",13,["one","other"],[]),!("leaves_some",14,["places"],[]),!("moved_up",15,["one","places"],[]),!("moved_down",16,["one","places"],[]),!("worked",17,["way","one","other"],[]),!("wants",20,["row"],["kind"]),!("fills",21,["row"],["kind"]),!("group_of",22,["row"],[]),!("place_of",23,["row","words"],[]),!("goes",24,["row","at","words"],[]),!("fault_of",25,["row","words","room"],["kind","place"]),!("brought",26,["row","words","held"],["kind"]),!("made",27,["row","at","words","room","held"],["fault"]),!("fetch_all",29,["window","ledger"],["put"]),!("fetch",30,["window","ledger"],["slot"]),!("give_known",31,["window","slot","boxes"],["want","box","word"]),!("known_word",32,["giver","word"],[]),!("row_behind",33,["slot","guesser"],[]),!("in_memory",55,["place","memory"],[]),!("replaced",56,["words","number","word"],[]),!("behind",57,["stand","deed"],["box","place","word","after"]),!("poked",58,["stand","place","word"],[]),!("take_off",61,["window","ledger"],["told","slot"]),!("take",62,["window","ledger","slot"],[]),!("note_memory",63,["window","ledger","slot"],[]),!("teach",64,["ledger","slot"],[]),!("was_near",65,["ledger","slot"],[]),!("finish_all",67,["window","ledger"],["ticket","slot"]),!("finish",68,["window","slot","room"],[]),!("give_word",69,["window","ticket","word"],["number","slot","want"]),!("start_all",70,["window","ledger"],["slot"]),!("start",71,["window","ledger","slot"],["group"]),!("take_word",72,["window","ledger","slot"],["place","found"]),!("or_plain",76,["guesser"],[]),!("_law_cell_at",78,["_law_script","_law_k"],[]),!("_law_number",79,["_law_cell","_law_k"],[]),!("_law_word_by",80,["_law_number_here"],["_law_kind","_law_part"]),!("_law_way_row",81,["_law_boxes","_law_part","_law_calm"],["_law_x","_law_y","_law_z","_law_ways","_law_way"]),!("_law_place_row",82,["_law_kind","_law_boxes","_law_part","_law_calm"],["_law_x","_law_y","_law_z"]),!("_law_turn_row",83,["_law_kind","_law_boxes","_law_part","_law_spot","_law_calm"],["_law_x","_law_y","_law_z","_law_k","_law_many","_law_target"]),!("_law_row",84,["_law_cell","_law_k","_law_many","_law_calm"],["_law_number_here","_law_boxes","_law_part","_law_kind"]),!("_law_late",85,["_law_cell","_law_k"],["_law_number_here"]),!("_law_program",86,["_law_cells","_law_calm"],["_law_rows","_law_k","_law_cell"]),!("_law_stand",87,["_law_cell","_law_other","_law_calm"],["_law_boxes","_law_most","_law_room","_law_memory"]),!("_law_alike",88,["_law_found","_law_due"],["_law_one","_law_other"]),!("_law_table",89,["_law_cell","_law_most"],["_law_pairs","_law_k","_law_number_here"]),!("_law_guesser",90,["_law_cell","_law_script"],["_law_number_here","_law_part","_law_kind"]),!("_law_sizes",91,["_law_cell"],["_law_number_here","_law_size","_law_wide"]),!("_law_numbers",92,["_law_some"],["_law_one"]),!("_law_shape",93,["_law_slips","_law_size"],["_law_slip"]),!("_law_group",94,["_law_row_here"],[]),!("_law_times",95,["_law_slip","_law_long","_law_turn"],["_law_begun","_law_ended"]),!("_law_lasts",96,["_law_slips","_law_program_here","_law_table_here","_law_turn"],["_law_work","_law_slip","_law_group_here","_law_many","_law_pair"]),!("_law_off",97,["_law_slips","_law_program_here","_law_table_here","_law_turn"],["_law_slip","_law_long"]),!("law",98,["_law_script"],["_law_calm","_law_program_here","_law_start","_law_size","_law_wide","_law_table_here","_law_guesser_here","_law_mill","_law_turn","_law_told","_law_slips","_law_number_here"]),!("__init__","Tally.__init__",36,0,["self","many","begin"],[]),!("likely","Tally.likely",36,1,["self","number"],[]),!("move","Tally.move",36,2,["self","number","up"],["place","level"]),!("__init__","Guesser.__init__",37,0,["self"],[]),!("guess","Guesser.guess",37,1,["self","at"],[]),!("heed","Guesser.heed",37,2,["self","at","came"],[]),!("learn","Guesser.learn",37,3,["self","at","came"],[]),!("lessons","Guesser.lessons",37,4,["self"],[]),!("guess","Always.guess",38,0,["self","at"],[]),!("__init__","Last.__init__",39,0,["self","first"],[]),!("guess","Last.guess",39,1,["self","at"],[]),!("heed","Last.heed",39,2,["self","at","came"],[]),!("__init__","Counts.__init__",40,0,["self","many","begin"],[]),!("guess","Counts.guess",40,1,["self","at"],[]),!("heed","Counts.heed",40,2,["self","at","came"],[]),!("__init__","Paths.__init__",41,0,["self","many","long"],[]),!("guess","Paths.guess",41,1,["self","at"],[]),!("heed","Paths.heed",41,2,["self","at","came"],["longer"]),!("__init__","Listed.__init__",42,0,["self","truths"],[]),!("guess","Listed.guess",42,1,["self","at"],[]),!("__init__","Turned.__init__",43,0,["self","one"],[]),!("guess","Turned.guess",43,1,["self","at"],[]),!("heed","Turned.heed",43,2,["self","at","came"],[]),!("__init__","Chosen.__init__",44,0,["self","one","other","many"],[]),!("guess","Chosen.guess",44,1,["self","at"],[]),!("heed","Chosen.heed",44,2,["self","at","came"],["second"]),!("__init__","Benches.__init__",46,0,["self","table"],[]),!("free","Benches.free",46,1,["self","group"],["there"]),!("start","Benches.start",46,2,["self","ticket","group","turn"],["due"]),!("done","Benches.done",46,3,["self","turn"],["tickets","ticket"]),!("busy","Benches.busy",46,4,["self"],[]),!("throw","Benches.throw",46,5,["self","ticket"],["tickets","other"]),!("__init__","Names.__init__",48,0,["self"],[]),!("fill","Names.fill",48,1,["self","ticket","box"],["other","giver"]),!("giver","Names.giver",48,2,["self","box"],["tickets"]),!("givers","Names.givers",48,3,["self","boxes"],[]),!("throw","Names.throw",48,4,["self","ticket"],["thrown","box","tickets"]),!("__init__","Shelf.__init__",50,0,["self"],[]),!("store","Shelf.store",50,1,["self","ticket"],[]),!("placed","Shelf.placed",50,2,["self","ticket","place"],["known"]),!("bitten","Shelf.bitten",50,3,["self","ticket","place"],["told","other","giver"]),!("worded","Shelf.worded",50,4,["self","ticket","word"],["known"]),!("look","Shelf.look",50,5,["self","ticket","place","dares"],["elder","other","spot","word"]),!("loaded","Shelf.loaded",50,6,["self","ticket","place","giver"],[]),!("leave","Shelf.leave",50,7,["self","ticket"],[]),!("throw","Shelf.throw",50,8,["self","ticket"],["stores","loads","other"]),!("stores","Shelf.stores",50,9,["self"],[]),!("loads","Shelf.loads",50,10,["self"],[]),!("__init__","Slot.__init__",52,0,["self","ticket","at","row","names","put"],[]),!("ready","Slot.ready",52,1,["self"],[]),!("spot","Slot.spot",52,2,["self"],[]),!("slip","Slot.slip",52,3,["self"],["times"]),!("__init__","Window.__init__",53,0,["self","program","at","size","wide","table"],[]),!("at_end","Window.at_end",53,1,["self"],[]),!("slot_of","Window.slot_of",53,2,["self","ticket"],["slot"]),!("enter","Window.enter",53,3,["self"],["row","slot"]),!("give","Window.give",53,4,["self","slot","want","word"],[]),!("place","Window.place",53,5,["self","slot"],["bitten"]),!("throw","Window.throw",53,6,["self","ticket"],["left"]),!("__init__","Ledger.__init__",60,0,["self","stand","guesser","nerve"],[]),!("poke","Ledger.poke",60,1,["self","place","word"],[]),!("__init__","Mill.__init__",75,0,["self","program","stand","size","wide","table","guesser","nerve"],[]),!("turn","Mill.turn",75,1,["self"],["window","told"]),!("turns","Mill.turns",75,2,["self","many"],[]),!("taken","Mill.taken",75,3,["self"],[]),!("inside","Mill.inside",75,4,["self"],[]),!("stand","Mill.stand",75,5,["self"],[]),!("halted","Mill.halted",75,6,["self"],[]),!("refuse_halted","Mill.refuse_halted",75,7,["self"],[]),!("counts","Mill.counts",75,8,["self"],[]),!("poke","Mill.poke",75,9,["self","place","word"],["window"])]
end
def pr:Pr:=⟨Gp,57,[("BITS",.int 64),("BEYOND",.int 18446744073709551616),("WAYS",.tup [.str "sum",.str "less",.str "times",.str "share",.str "rest",.str "both",.str "some",.str "odd",.str "up",.str "down",.str "below",.str "same"]),("GROUPS",.lI [("times",1),("share",2),("rest",2),("load",3),("store",3),("jump",4),("go",4),("fault",4)]),("GREATEST_COUNT",.int 3)],["len","int","min","max","divmod","tuple","list","str","any","sorted","isinstance","bool","range","enumerate","zip"],[],[],[],[(("slots":Str),[19]),(("size":Str),[19]),(("wide":Str),[19]),(("ahead":Str),[19]),(("chosen":Str),[18]),(("guesser":Str),[20]),(("row":Str),[18]),(("dares":Str),[18]),(("nerve":Str),[20]),(("at":Str),[18]),(("state":Str),[20]),(("names":Str),[18,19]),(("finished":Str),[18]),(("deed":Str),[18]),(("ticket":Str),[18]),(("broken":Str),[20]),(("slips":Str),[20]),(("off":Str),[18]),(("now":Str),[19]),(("shelf":Str),[19]),(("gone":Str),[20]),(("storers":Str),[20]),(("words":Str),[18]),(("source":Str),[18]),(("put":Str),[18]),(("benches":Str),[19]),(("held":Str),[18]),(("started":Str),[18]),(("levels":Str),[6]),(("learned":Str),[7,8,9,10,11,12,13,14]),(("lately":Str),[9]),(("first":Str),[9]),(("tally":Str),[10,11,14]),(("trail":Str),[11]),(("length":Str),[11]),(("truths":Str),[12]),(("one":Str),[13,14]),(("other":Str),[14]),(("working":Str),[15]),(("table":Str),[15]),(("filled":Str),[16]),(("begun":Str),[17]),(("kept":Str),[17]),(("thrown":Str),[19]),(("tickets":Str),[19]),(("program":Str),[19]),(("ledger":Str),[21]),(("window":Str),[21])],[(("at_end":Str),[(19,110)]),(("guess":Str),[(7,61),(8,65),(9,67),(10,70),(11,73),(12,76),(13,78),(14,81)]),(("enter":Str),[(19,112)]),(("give":Str),[(19,113)]),(("slot_of":Str),[(19,111)]),(("slip":Str),[(18,108)]),(("throw":Str),[(15,88),(16,93),(17,102),(19,115)]),(("leave":Str),[(17,101)]),(("learn":Str),[(7,63),(8,63),(9,63),(10,63),(11,63),(12,63),(13,63),(14,63)]),(("done":Str),[(15,86)]),(("ready":Str),[(18,106)]),(("free":Str),[(15,84)]),(("start":Str),[(15,85)]),(("loaded":Str),[(17,100)]),(("look":Str),[(17,99)]),(("spot":Str),[(18,107)]),(("halted":Str),[(21,124)]),(("inside":Str),[(21,122)]),(("poke":Str),[(20,117),(21,127)]),(("turn":Str),[(21,119)]),(("heed":Str),[(7,62),(8,62),(9,68),(10,71),(11,74),(12,62),(13,79),(14,82)]),(("likely":Str),[(6,58)]),(("move":Str),[(6,59)]),(("giver":Str),[(16,91)]),(("bitten":Str),[(17,97)]),(("store":Str),[(17,95)]),(("fill":Str),[(16,90)]),(("givers":Str),[(16,92)]),(("place":Str),[(19,114)]),(("worded":Str),[(17,98)]),(("placed":Str),[(17,96)]),(("refuse_halted":Str),[(21,125)])],[(("Guesser",0),(7,60,[])),(("Chosen",3),(14,80,[])),(("Paths",1),(11,72,[.int 4])),(("Last",0),(9,66,[.bl aG])),(("Turned",1),(13,77,[])),(("Counts",1),(10,69,[.int 1])),(("Listed",1),(12,75,[])),(("Paths",2),(11,72,[])),(("Counts",2),(10,69,[])),(("Last",1),(9,66,[])),(("Always",0),(8,60,[])),(("Mill",7),(21,118,[])),(("Tally",2),(6,57,[])),(("Shelf",0),(17,94,[])),(("Benches",1),(15,83,[])),(("Names",0),(16,89,[])),(("Slot",5),(18,105,[])),(("Ledger",3),(20,116,[])),(("Window",5),(19,109,[]))],[],[("Guesser",[("__init__",60)])],["begun","filled","gone","kept","lately","storers","working"]⟩
theorem oi(n:Nat):Int.ofNat (no_index (LY n):Nat)=(LY n:Int):=rfl
def bq(i:Nat):aQ:=((pr.defs.map pr.bodyOf).getD i (0,0,.nil)).2.2
section
local macro_rules | `(!$n:num)=>`(eX (p:=λt=>t=bq $n) ⟨_,by refine(?f:(_=bq $n)->_) ?e;(case e=>conv=>rhs;reduce;dsimp only[oi]);(case f=>intro h;show type_of% h;kernel_rfl)⟩)
def UH:aQ:=!0
def UJ:aQ:=!1
def UB:aQ:=!2
def TM:aQ:=!3
def TR:aQ:=!4
def TQ:aQ:=!5
def UK:aQ:=!6
def Uw:aQ:=!7
def SG:aQ:=!8
def SM:aQ:=!9
def TX:aQ:=!10
def SK:aQ:=!11
def SD:aQ:=!12
def Uo:aQ:=!13
def TN:aQ:=!14
def SE:aQ:=!15
def Up:aQ:=!16
def SI:aQ:=!17
def SO:aQ:=!18
def UA:aQ:=!19
def SN:aQ:=!20
def TZ:aQ:=!21
def SA:aQ:=!22
def TY:aQ:=!23
def UE:aQ:=!24
def ny:aQ:=!25
def TU:aQ:=!26
def UG:aQ:=!27
def UI:aQ:=!28
def SH:aQ:=!29
def Uq:aQ:=!30
def SJ:aQ:=!31
def UD:aQ:=!32
def UC:aQ:=!33
def og:aQ:=!34
def TV:aQ:=!35
def SR:aQ:=!36
def SX:aQ:=!37
def TL:aQ:=!38
def TK:aQ:=!39
def TB:aQ:=!40
def Uv:aQ:=!41
def TF:aQ:=!42
def SW:aQ:=!43
def TC:aQ:=!44
def Uu:aQ:=!45
def SQ:aQ:=!46
def TH:aQ:=!47
def SU:aQ:=!48
def Ut:aQ:=!49
def SY:aQ:=!50
def Us:aQ:=!51
def SS:aQ:=!52
def TJ:aQ:=!53
def SV:aQ:=!54
def SZ:aQ:=!55
def Ur:aQ:=!56
def RP:aQ:=!57
def RQ:aQ:=!58
def RS:aQ:=!59
def PD:aQ:=!60
def PF:aQ:=!61
def PH:aQ:=!62
def PJ:aQ:=!63
def PL:aQ:=!64
def OP:aQ:=!65
def PM:aQ:=!66
def PN:aQ:=!67
def PQ:aQ:=!68
def OZ:aQ:=!69
def PB:aQ:=!70
def PC:aQ:=!71
def QR:aQ:=!72
def QU:aQ:=!73
def QV:aQ:=!74
def PV:aQ:=!75
def PX:aQ:=!76
def RT:aQ:=!77
def RU:aQ:=!78
def RV:aQ:=!79
def OW:aQ:=!80
def OX:aQ:=!81
def OY:aQ:=!82
def OQ:aQ:=!83
def OT:aQ:=!84
def OU:aQ:=!85
def OS:aQ:=!86
def OR:aQ:=!87
def OV:aQ:=!88
def QL:aQ:=!89
def QM:aQ:=!90
def QN:aQ:=!91
def QP:aQ:=!92
def QQ:aQ:=!93
def QX:aQ:=!94
def RF:aQ:=!95
def RE:aQ:=!96
def QY:aQ:=!97
def RJ:aQ:=!98
def RD:aQ:=!99
def RA:aQ:=!100
def QZ:aQ:=!101
def RH:aQ:=!102
def RG:aQ:=!103
def RC:aQ:=!104
def RK:aQ:=!105
def RL:aQ:=!106
def RN:aQ:=!107
def RM:aQ:=!108
def Ul:aQ:=!109
def RW:aQ:=!110
def RY:aQ:=!111
def xa:aQ:=!112
def Um:aQ:=!113
def RX:aQ:=!114
def RZ:aQ:=!115
def PR:aQ:=!116
def PU:aQ:=!117
def PY:aQ:=!118
def QJ:aQ:=!119
def QK:aQ:=!120
def QH:aQ:=!121
def QC:aQ:=!122
def QF:aQ:=!123
def QB:aQ:=!124
def QD:aQ:=!125
def PZ:aQ:=!126
def Uk:aQ:=!127
end
def Iw:List (Nat×Nat×aQ):=[(1,1,UH),(1,1,UJ),(2,2,UB),(1,1,TM),(2,2,TR),(2,2,TQ),(3,3,UK),(1,2,Uw),(1,2,SG),(1,1,SM),(2,2,TX),(3,3,SK),(3,5,SD),(3,4,Uo),(5,6,TN),(2,3,SE),(2,3,Up),(3,6,SI),(2,2,SO),(2,2,UA),(2,2,SN),(3,3,TZ),(2,6,SA),(3,3,TY),(2,4,UE),(3,3,ny),(3,3,TU),(2,2,UG),(2,2,UI),(2,4,SH),(3,3,Uq),(3,6,SJ),(2,3,UD),(3,4,UC),(3,5,og),(1,1,TV),(2,2,SR),(2,2,SX),(1,3,TL),(3,8,TK),(4,7,TB),(5,11,Uv),(4,8,TF),(2,3,SW),(2,5,TC),(3,7,Uu),(2,4,SQ),(2,5,TH),(2,5,SU),(1,4,Ut),(1,2,SY),(2,3,Us),(1,1,SS),(3,5,TJ),(4,9,SV),(4,6,SZ),(1,13,Ur),(3,3,RP),(2,2,RQ),(3,5,RS),(1,1,PD),(2,2,PF),(3,3,PH),(3,3,PJ),(1,1,PL),(2,2,OP),(2,2,PM),(2,2,PN),(3,3,PQ),(3,3,OZ),(2,2,PB),(3,3,PC),(3,3,QR),(2,2,QU),(3,4,QV),(2,2,PV),(2,2,PX),(2,2,RT),(2,2,RU),(3,3,RV),(4,4,OW),(2,2,OX),(3,4,OY),(2,2,OQ),(2,3,OT),(4,5,OU),(2,4,OS),(1,1,OR),(2,4,OV),(1,1,QL),(3,5,QM),(2,3,QN),(2,2,QP),(2,5,QQ),(1,1,QX),(2,2,RF),(3,4,RE),(3,6,QY),(3,4,RJ),(4,8,RD),(4,4,RA),(2,2,QZ),(2,5,RH),(1,1,RG),(1,1,RC),(6,6,RK),(1,1,RL),(1,1,RN),(1,2,RM),(6,6,Ul),(1,1,RW),(2,3,RY),(1,3,xa),(4,4,Um),(2,3,RX),(2,3,RZ),(4,4,PR),(3,3,PU),(8,8,PY),(1,3,QJ),(2,2,QK),(1,1,QH),(1,1,QC),(1,1,QF),(1,1,QB),(1,1,QD),(1,1,PZ),(3,4,Uk)]
noncomputable abbrev pg:Pg:=λi=>Iw[i]?
theorem D5:pr.ir=pg:=by
 have e:pr.defs.map pr.bodyOf=Iw:=by kernel_rfl
 funext i
 show(pr.defs[i]?).map pr.bodyOf=Iw[i]?;rw[<- e,fH]
end AMx
open AM
namespace AMx
open PySem PySem.Spec PyProof.Rows L2 AM
variable {B C N:aF->AH->Prop}{F:AM.Run}{G G':Nat->Nat->Int->Prop}{L d gu i j n n1 np nr nv:Nat}{Q R V1:AV->AH->Prop}{S S1 Sg Sn:Xp}{T a b bQ e now p pc room tk u w w1 x y:Int}{bb dr:Bool}{fnd held v:AV}{h h' h2:AH}{kvs:List (aP×AV)}{l ls ns ts ws:Xj}{o o':bG}{r row:aN}{rs:List aN}{tb:YH}{w0:Hc}{xs:Hd}{Z:aF}
theorem aT{k f nn:Nat}{b:aQ}{args:Hd}(e:pg f=aA (np,nn,b))(hl:args.length=np)(w:eG (run pg k) b (args.map aA++eR (nn-np) aD) h (λ_ h1=>R .aH h1) R (λ_ _=>False) (λ_ _=>False)):WC (run pg (k+1) f args) h R:=WC.of (aQk e hl w)
def oI:Hc->AV
 |none=>.aH
 |some i=>.int i
structure dS where
 tk:Int
 pc:Int
 row:aN
 bJ:Xv
 ch:Int
 dr:Bool
 src:Hc
 dZ:Hc
 dd:AV
 put:Int
 st:Hc
 fi:Hc
 of:Hc
variable {ss:List dS}
def dS.fs(s:dS)(w:Nat):Xs:=[("ticket",.int s.tk),("at",.int s.pc),("row",s.row.av),("names",.tup (s.bJ.map oI)),("words",.ref w),("chosen",.int s.ch),("dares",.bl s.dr),("source",oI s.src),("held",oI s.dZ),("deed",s.dd),("put",.int s.put),("started",oI s.st),("finished",oI s.fi),("off",oI s.of)]
def dS.gW(s:dS):AV:=.tup [.int s.tk,.int s.pc,.tup (s.bJ.map oI),oI s.src,s.dd,.tup [.int s.put,oI s.st,oI s.fi,oI s.of]]
theorem Nc{k w:Nat}{s:dS}(o:h.ob n=aA (.ins 18<|s.fs w))(q:R s.gW h):WC (run pg (k+1) 108 [.ref n]) h R:=by
 refine aT rfl rfl ?_;repeat refine aC.of o ?_
 exact q
section
variable {k:Nat}
theorem Ci{z:Int}(q:R (.int<|z%18446744073709551616) h):WC (run pg (k+1) 1 [.int z]) h R:=aT rfl rfl q
theorem BC{z:Int}(z0:0<=z)(q:R (.bl<|decide<|z<64) h):WC (run pg (k+1) 3 [.int z]) h R:=aT rfl rfl (aE.dt z0 q)
theorem aNk(a0:0<=a)(a1:a<18446744073709551616)(b0:0<=b)(q:R (.int<|eK.wk a b .up) h):WC (run pg (k+2) 4 [.int a,.int b]) h R:=by
 refine aT rfl rfl<|BC b0<|aE.dc (λhc=>?_) λhc=>?_
 .unfold eK.wk at q;simp only[BV hc]at q;exact WC.of<|II (DJ a0 a1 b0 (by omega))<|Ci q
 .unfold eK.wk at q;simp only[aNj hc]at q;exact q
theorem XN(a0:0<=a)(a1:a<18446744073709551616)(b0:0<=b)(q:R (.int<|eK.wk a b .down) h):WC (run pg (k+2) 5 [.int a,.int b]) h R:=by
 refine aT rfl rfl<|BC b0<|aE.dc (λhc=>?_) λhc=>?_
 .unfold eK.wk at q;simp only[BV hc]at q;exact WC.of<|aPc b0 q
 .unfold eK.wk at q;simp only[XM hc a0 a1]at q;exact q
theorem GC(b0:0<b)(b1:b<18446744073709551616)(q:R (.tup [.int (a / b),.int (a%b)]) h):WC (run pg (k+1) 2 [.int a,.int b]) h R:=
 aT rfl rfl (aE.df (by omega)<|WC.of<|aOg (XG b0 b1) q)
theorem aPr{w:eK}(a0:0<=a)(a1:a<18446744073709551616)(b0:0<=b)(b1:b<18446744073709551616)(hz:¬(w.sr=aB/\b=0))(q:R (.int<|w.wk a b) h):WC (run pg (k+3) 6 [.str w.nm,.int a,.int b]) h R:=by
 refine aT rfl rfl ?_;cases w with
 |sum=>exact Ci q|less=>exact Ci q|times=>exact aE.t (by unfold rG;rw[decide_eq_true (show a.natAbs<2 ^ 64 by omega)];rfl)<|Ci q|share=>exact GC (k:=k+1) (by rcases Pq b0 with e|e;exact e;exact absurd ⟨rfl,e.symm⟩ hz) b1 q|rest=>exact GC (k:=k+1) (by rcases Pq b0 with e|e;exact e;exact absurd ⟨rfl,e.symm⟩ hz) b1 q|both=>exact WC.of<|aOe q|ue=>exact WC.of<|aOf q|odd=>exact WC.of<|Oi q|up=>exact aNk a0 a1 b0 q|down=>exact XN a0 a1 b0 q|below=>exact aE.dc (λhc=>by rw[show eK.wk a b .below=1 from if_pos hc]at q;exact q) λhc=>by rw[show eK.wk a b .below=0 from if_neg hc]at q;exact q
 |same=>exact aE.dc (λhc=>by rw[show eK.wk a b .same=1 from if_pos hc]at q;exact q) λhc=>by rw[show eK.wk a b .same=0 from if_neg hc]at q;exact q
theorem BZ(w:eK):¬(w.nm=("load":cY)):=by cases w<;>decide
theorem CA(w:eK):¬(w.nm=("store":cY)):=by cases w<;>decide
theorem Kd(w:eK):¬(w.nm=("jump":cY)):=by cases w<;>decide
theorem O1(w:eK):¬(w.nm=("go":cY)):=by cases w<;>decide
theorem O0(w:eK):¬(w.nm=("fault":cY)):=by cases w<;>decide
theorem Ch{x y:AV}(e:dX h y=aA xs)(f:(jI x&&xs.all jI)=aB)(n:gT x xs=aB)(q:V1 (.bl aB) h):WC (Cp.g .gi x y) h V1:=WC.of (Oo e f<|n.symm▸q)
theorem uq{x y:AV}(e:dX h y=aA xs)(f:(jI x&&xs.all jI)=aB)(n:gT x xs=aG)(q:V1 (.bl aG) h):WC (Cp.g .gi x y) h V1:=WC.of (Oo e f<|n.symm▸q)
abbrev pK:Hd:=[.str "sum",.str "less",.str "times",.str "share",.str "rest",.str "both",.str "some",.str "odd",.str "up",.str "down",.str "below",.str "same"]
theorem Kb(w:eK):gT (.str w.nm) pK=aB:=by cases w<;>rfl
theorem Kk:gT (.str "set") pK=aG:=by decide +kernel
theorem Kj:gT (.str "move") pK=aG:=by decide +kernel
theorem Ki:gT (.str "load") pK=aG:=by decide +kernel
theorem Kl:gT (.str "store") pK=aG:=by decide +kernel
theorem Kh:gT (.str "jump") pK=aG:=by decide +kernel
theorem Kg:gT (.str "go") pK=aG:=by decide +kernel
theorem Kf:gT (.str "fault") pK=aG:=by decide +kernel
def bO:aQ->aQ
 |.cons _ t=>t
 |.nil=>.nil
theorem ba{z:Str}{l:Hd}(e:cM l 0=aA (.str z))(n:gT (.str z) pK=aG)(q:eG (run pg k) (bO<|bO Uw) [aA (.tup l),aA (.str z)] h (λ_ h1=>R .aH h1) R (λ_ _=>False) (λ_ _=>False)):WC (run pg (k+1) 7 [.tup l]) h R:=aT rfl rfl (aC.of e<|uq rfl rfl n q)
theorem HZ(q:R (.tup<|r.fT.map .int) h):WC (run pg (k+1) 7 [r.av]) h R:=by
 cases r with
 |way w x y z=>exact aT rfl rfl<|Ch rfl rfl (Kb w) q|set=>exact ba rfl Kk q|move=>exact ba rfl Kj q|load=>exact ba rfl Ki q|store=>exact ba rfl Kl q|fZ=>exact ba rfl Kh q|go=>exact ba rfl Kg q|fault=>exact ba rfl Kf q
abbrev GI:Hd:=[.str "set",.str "move",.str "load"]
theorem Hh{z:Str}{l:Hd}(e:cM l 0=aA (.str z))(n:gT (.str z) pK=aG)(m:gT (.str z) GI=aB)(d:cM l 1=aA v)(q:R v h):WC (run pg (k+1) 8 [.tup l]) h R:=aT rfl rfl (aC.of e<|uq rfl rfl n<|Ch rfl rfl m<|aC.of rfl<|aC.of d q)
theorem ye{z:Str}{l:Hd}(e:cM l 0=aA (.str z))(n:gT (.str z) pK=aG)(m:gT (.str z) GI=aG)(q:R .aH h):WC (run pg (k+1) 8 [.tup l]) h R:=aT rfl rfl (aC.of e<|uq rfl rfl n<|uq rfl rfl m q)
theorem Hi(q:R r.fl h):WC (run pg (k+1) 8 [r.av]) h R:=by
 cases r with
 |way w x y z=>exact aT rfl rfl<|Ch rfl rfl (Kb w) q|set=>exact Hh rfl Kk rfl rfl q|move=>exact Hh rfl Kj rfl rfl q|load=>exact Hh rfl Ki rfl rfl q|store=>exact ye rfl Kl rfl q|fZ=>exact ye rfl Kh rfl q|go=>exact ye rfl Kg rfl q|fault=>exact ye rfl Kf rfl q
end
section
variable {k:Nat}
theorem Ku(hl:ws.length=r.nw)(q:R (r.pl ws) h):WC (run pg (k+1) 10 [r.av,.tup (ws.map .int)]) h R:=by
 refine aT rfl rfl ?_;cases r with
 |way w x y z=>exact aE.df (BZ w)<|aE.df (CA w) q|load x y s=>obtain⟨a,rfl⟩:=qy hl;exact q|store x y s=>obtain⟨a,b,rfl⟩:=qz hl;exact q|_=>exact q
theorem y7(q:R (.int r.eA) h):WC (run pg (k+1) 9 [r.av]) h R:=by
 refine aT rfl rfl<|WC.of<|aPz<|cF _ ⟨_,rfl,oP _ ?_⟩;cases r with
 |way w x y z=>exact⟨_,_,rfl,by cases w<;>exact q⟩|_=>exact⟨_,_,rfl,q⟩
theorem Zt{mem:Xj}(q:R (.bl<|decide<|0<=p/\p<mem.length) h):WC (run pg (k+1) 20 [.int p,.tup (mem.map .int)]) h R:=by
 refine aT rfl rfl<|aE.dc (λhc=>?_) λhc=>?_
 .have e:decide (0<=p/\p<(mem.length:Int))=decide (p<((mem.map AV.int).length:Int)):=by rw[aU];exact decide_eq_decide.mpr ⟨λz=>z.2,λz=>⟨hc,z⟩⟩
  rw[e]at q;exact q
 .rw[decide_eq_false λz=>hc z.1]at q;exact q
end
section
variable {k:Nat}
theorem O3{w:eK}(h:w.sr=aG):¬(w.nm=("share":cY)):=by cases w<;>first|decide|cases h
theorem O2{w:eK}(h:w.sr=aG):¬(w.nm=("rest":cY)):=by cases w<;>first|decide|cases h
theorem aKe(w:eK):w = .share\/w = .rest\/w.sr=aG:=by cases w<;>simp[eK.sr]
theorem m9(hl:ws.length=r.nw)(q:R ((r.ft ws room).getD .aH) h):WC (run pg (k+2) 12 [r.av,.tup (ws.map .int),.int room]) h R:=by
 have hpl:∀{R:AV->AH->Prop},R (r.pl ws) h->WC (run pg (k+1) 10 [r.av,.tup (ws.map .int)]) h R:=λq=>Ku hl q;refine aT rfl rfl ?_;cases r with
 |load x y s=>
  obtain⟨a,rfl⟩:=qy hl;refine hpl<|aE.dc (λh0=>aE.nd (λh1=>?_) λh1=>?_) λh0=>?_
  .rw[show aN.ft [a] room (.load x y s)=aA _ from if_neg λz=>h1 z.2]at q;exact q
  .rw[show aN.ft [a] room (.load x y s)=aD from if_pos ⟨h0,h1⟩]at q;exact q
  .rw[show aN.ft [a] room (.load x y s)=aA _ from if_neg λz=>h0 z.1]at q;exact q
 |store x y s=>
  obtain⟨a,b,rfl⟩:=qz hl;refine hpl<|aE.dc (λh0=>aE.nd (λh1=>?_) λh1=>?_) λh0=>?_
  .rw[show aN.ft [a,b] room (.store x y s)=aA _ from if_neg λz=>h1 z.2]at q;exact q
  .rw[show aN.ft [a,b] room (.store x y s)=aD from if_pos ⟨h0,h1⟩]at q;exact q
  .rw[show aN.ft [a,b] room (.store x y s)=aA _ from if_neg λz=>h0 z.1]at q;exact q
 |way w x y z=>
  obtain⟨a,b,rfl⟩:=qz hl;refine aE.df (O0 w) ?_;rcases aKe w with rfl|rfl|hs
  .refine aE.dc (λhc=>?_) λhc=>hpl ?_
   .rw[show aN.ft [a,b] room (.way .share x y z)=aA _ from if_pos hc]at q;exact q
   .rw[show aN.ft [a,b] room (.way .share x y z)=aD from if_neg hc]at q;exact q
  .refine aE.dc (λhc=>?_) λhc=>hpl ?_
   .rw[show aN.ft [a,b] room (.way .rest x y z)=aA _ from if_pos hc]at q;exact q
   .rw[show aN.ft [a,b] room (.way .rest x y z)=aD from if_neg hc]at q;exact q
  .simp only[aN.ft,hs]at q;exact aE.df (O3 hs)<|aE.df (O2 hs)<|hpl q
 |fault v=>exact q|_=>exact hpl q
end
section
variable {k:Nat}
theorem Zl(hl:∀x t,r = .fZ x t->ws.length=1)(q:R (.int<|r.gs a ws) h):WC (run pg (k+1) 11 [r.av,.int a,.tup (ws.map .int)]) h R:=by
 refine aT rfl rfl ?_;cases r with
 |way w x y z=>exact aE.df (O1 w)<|aE.df (Kd w) q|fZ x t=>obtain⟨b,rfl⟩:=qy (hl _ _ rfl);exact aE.nd (λhc=>by rw[show aN.gs a [b] (.fZ x t)=t from if_pos hc]at q;exact q) λhc=>by rw[show aN.gs a [b] (.fZ x t)=a+1 from if_neg λz=>z hc]at q;exact q
 |_=>exact q
end
section
variable {k:Nat}
theorem yP{z:Str}{l:Hd}{u:AV}(e:cM l 0=aA (.str z))(n:gT (.str z) pK=aG)(q:eG (run pg k) (bO<|bO Uo) [aA (.tup l),aA u,aA v,aA (.str z)] h (λ_ h1=>R .aH h1) R (λ_ _=>False) (λ_ _=>False)):WC (run pg (k+1) 13 [.tup l,u,v]) h R:=aT rfl rfl (aC.of e<|uq rfl rfl n q)
theorem UW(hl:ws.length=r.nw)(hw:kY ws)(hf:∀w x y z,r = .way w x y z->¬(w.sr=aB/\cell ws 1=0))(q:R (r.br ws held) h):WC (run pg (k+4) 13 [r.av,.tup (ws.map .int),held]) h R:=by
 cases r with
 |way w x y z=>obtain⟨a,b,rfl⟩:=qz hl;have wa:=hw a (by simp);have wb:=hw b (by simp);exact aT rfl rfl<|Ch rfl rfl (Kb w)<|aPr wa.1 wa.2 wb.1 wb.2 (hf w x y z rfl) q
 |set=>exact yP rfl Kk q|move=>obtain⟨a,rfl⟩:=qy hl;exact yP rfl Kj q|load=>exact yP rfl Ki q|store=>obtain⟨a,b,rfl⟩:=qz hl;exact yP rfl Kl q|fZ=>exact yP rfl Kh q|go=>exact yP rfl Kg q|fault=>exact yP rfl Kf q
theorem t9{w:eK}{z:Int}(h:(aN.way w x y z).ft ws room=aD):¬(w.sr=aB/\cell ws 1=0):=by
 rintro ⟨h1,h2⟩
 simp[aN.ft,h1,h2]at h
theorem Hr{f:AV}(e:r.ft ws room=aA f):∃xs,f = .tup xs:=by
 cases r<;>simp only[aN.ft]at e<;>first
  | (cases e;done)
  | (cases e;exact⟨_,rfl⟩)
  | (split at e<;>cases e<;>exact⟨_,rfl⟩)
  |skip
 rename_i w x y z;cases hs:w.sr with
 |true=>rw[hs]at e;simp only[cond]at e;split at e<;>cases e;exact⟨_,rfl⟩|false=>rw[hs]at e;cases e
theorem K5(hl:ws.length=r.nw)(hw:kY ws)(q:R (r.fw a ws room held) h):WC (run pg (k+5) 14 [r.av,.int a,.tup (ws.map .int),.int room,held]) h R:=by
 refine aT rfl rfl<|m9 hl ?_;unfold aN.fw at q;cases e:r.ft ws room with
 |some f=>rw[e]at q;obtain⟨xs,rfl⟩:=Hr e;exact q
 |none=>rw[e]at q;exact Hi<|Ku hl<|UW hl hw (λw x y z er=>by subst er;exact t9 e)<|Zl (λx t er=>by subst er;exact hl) q
end
section
variable {k:Nat}
theorem aKd{w:Nat}{s:dS}(o:h.ob n=aA (.ins 18<|s.fs w))(ow:h.ob w=aA (.lst aB<|ws.map AV.int))(hl:ws.length=s.row.nw)(q:R (s.row.pl ws) h):WC (run pg (k+2) 107 [.ref n]) h R:=by refine aT rfl rfl ?_;exact aC.of o<|aC.of o<|WC.of<|xM (cN ow)<|Ku (k:=k) hl q
theorem aIw{w g:Nat}{s:dS}(o:h.ob n=aA (.ins 18<|s.fs w))(hj:∀x t,s.row ≠ .fZ x t)(q:R (.int<|s.row.gs s.pc []) h):WC (run pg (k+2) 19 [.ref n,.ref g]) h R:=by
 obtain⟨tk,pc,r,bJ,ch,dr,src,dZ,dd,pt,st,fi,of⟩:=s;have hg:WC (run pg (k+1) 11 [r.av,.int pc,.tup []]) h R:=Zl (ws:=[]) (λx t e=>absurd e (hj x t)) q;refine aT rfl rfl ?_;refine aC.of o ?_;cases r with
 |fZ x t=>exact absurd rfl<|hj x t|way ww x y z=>refine aE.df (Kd ww) ?_;refine aC.of o ?_;refine aC.of o ?_;exact hg|_=>refine aC.of o ?_;refine aC.of o ?_;exact hg
theorem OM{fs:List (cY×AV)}(o:h.ob n=aA (.ins 19 fs))(e1:fs.lookup ("ahead":cY)=aA (AV.int a))(e2:fs.lookup ("program":cY)=aA (AV.ref np))(op:h.ob np=aA (.lst aB xs))(q:R (.bl<|decide<|(xs.length:Int)<=a) h):WC (run pg (k+1) 110 [.ref n]) h R:=by refine aT rfl rfl ?_;refine aC.of o ?_;refine aC.of e1 ?_;refine aC.of o ?_;exact aC.of e2<|WC.of<|kK (cN op) q
end
section
variable {k:Nat}
theorem aJq{pt:Int}{bJ:Xv}(o:h.ob n=aA (.ins 18 []))(hn:n<h.nx)(hl:bJ.length<=2)
  (q:∀h',h'.nx=h.nx+2->h'.ob n=aA (.ins 18<|dS.fs ⟨tk,pc,r,bJ,pc+1,aG,aD,aD,.aH,pt,aD,aD,aD⟩<|h.nx+1)->h'.ob (h.nx+1)=aA (.lst aB<|eR bJ.length .aH)->(∀m,m≠n->m<h.nx->h'.ob m=h.ob m)->R .aH h') :
  WC (run pg (k+1) 105 [.ref n,.int tk,.int pc,r.av,.tup (bJ.map oI),.int pt]) h R:=by
 have l1:(0:Int)<=((bJ.map oI).length:Int):=by omega
 have l2:[AV.aH].length*((bJ.map oI).length:Int).toNat<=sizeLine:=by
  have e:(sizeLine:Nat) > 1000:=by decide
  rw[aU];simp only[iB,Qd,oR];omega
 have l3:((bJ.map oI).length:Int)<2 ^ 63:=by rw[aU];omega
 refine aT rfl rfl ?_;refine aC.of o ?_;refine aC.of bD ?_;refine aC.of bD ?_;refine aC.of bD ?_;refine WC.of<|IG bM l1 l2 l3 ?_;refine aC.of rfl ?_;refine aC.of rfl ?_;refine aC.of (Eq.trans (eF<|show n≠_ from λe=>?a)<|Eq.trans (eF<|show n≠_ from λe=>?b) bD) ?_
 case a=>have:n=h.nx+1:=e;omega
 case b=>have:n=h.nx:=e;omega
 refine aC.of bD ?_;refine aC.of bD ?_;refine aC.of bD ?_;refine aC.of bD ?_;refine aC.of bD ?_;refine aC.of bD ?_;refine aC.of bD ?_;refine aC.of bD ?_;refine aC.of bD ?_;refine q _ rfl bD ?_ λm hm hx=>?_
 .repeat rw[aX (show h.nx+1≠n by omega)]
  refine bM.trans ?_;rw[aU,oR,KH]
 .repeat rw[aX hm]
  rw[eF (show m≠_ from λe=>by have:m=h.nx+1:=e;omega),eF (show m≠_ from λe=>by have:m=h.nx:=e;omega)];repeat rw[aX hm]
end
section
variable {k:Nat}
theorem q9(vs:Xv):(vs.map oI).all jI=aB:=by rw[List.all_map,JS];intro v _;cases v<;>rfl
theorem N7(vs:Xv):(!gT .aH (vs.map oI))=vs.all km:=by
 induction vs with
 |nil=>rfl|cons v vs ih=>have e:gT .aH ((v::vs).map oI)=(Hb (oI v) .aH||gT .aH (vs.map oI)):=rfl;rw[e,Bool.not_or,ih];cases v<;>rfl
theorem aIl{w:Nat}{s:dS}{vs:Xv}(o:h.ob n=aA (.ins 18<|s.fs w))(ow:h.ob w=aA (.lst aB<|vs.map oI))(q:R (.bl<|vs.all km) h):WC (run pg (k+1) 106 [.ref n]) h R:=by rw[<- N7]at q;refine aT rfl rfl ?_;exact aC.of o<|WC.of<|aOz (cN ow) (by rw[q9];rfl) q
end
section
variable {k:Nat}
theorem D9{i:Int}(hn:0<n):∃j,jP n (i%(n:Int))=aA j/\j<n:=by have h0:0<=i%n:=mF _ (by omega);have a:i%n<n:=mV _ (by omega);refine⟨(i%n).toNat,?_,by omega⟩;unfold jP;simp only[h0,a,if_true]
structure kR(h:AH)(t l:Nat)(ls:Xj):Prop where
 ob:h.ob t=aA (.ins 6 [("levels",.ref l)])
 lv:h.ob l=aA (.lst aB<|ls.map AV.int)
 pos:0<ls.length
theorem kR.len{t l:Nat}(T:kR h t l ls):(0:Int)<((ls.map AV.int).length:Int):=by rw[aU];have:=T.pos;omega
theorem kR.at{t l:Nat}(T:kR h t l ls){i:Int}:cM (ls.map AV.int) (i%((ls.map AV.int).length:Int))=aA (.int<|cell ls<|i%((ls.map AV.int).length:Int)):=
 nj (mF _ (by have:=T.len;omega)) (mV _ T.len)
theorem Ji{t l:Nat}{i:Int}(T:kR h t l ls)(q:∀b,R (.bl b) h):WC (run pg (k+1) 58 [.ref t,.int i]) h R:=by refine aT rfl rfl ?_;refine aC.of T.ob<|aC.of T.ob ?_;refine WC.of<|kK (cN T.lv) ?_;refine aE.dt T.len ?_;exact WC.of<|gI (cN T.lv) T.at<|WC.of<|Oo rfl rfl<|q _
theorem Ju{t l:Nat}{i:Int}{b:Bool}(T:kR h t l ls)(q:∀BM:Xj,BM.length=ls.length->R .aH (h.put l<|.lst aB<|BM.map AV.int)):WC (run pg (k+1) 59 [.ref t,.int i,.bl b]) h R:=by
 obtain⟨j,a,_⟩:=D9 (n:=(ls.map AV.int).length) (by rw[aU];exact T.pos);have fin:∀c:Int,WC (oA (.ref l) (.int<|i%((ls.map AV.int).length:Int))<|.int c) h λ_ d=>R .aH d:=λc=>by refine Co T.lv a ?_;have:=q (ls.set j c) (pO ..);rw[uy]at this;exact this
 refine aT rfl rfl ?_;refine aC.of T.ob ?_;refine WC.of<|kK (cN T.lv) ?_;refine aE.dt T.len ?_;refine aC.of T.ob ?_;refine WC.of<|gI (cN T.lv) T.at ?_;refine aE.by (λe=>?_) λe=>?_
 .exact aC.of T.ob<|fin _
 .exact aC.of T.ob<|fin _
end
inductive Gs(h:AH)(c:Nat):Nat->Nat->Xp->Prop
 |pl {d n:Nat}{i:Int} (o:h.ob n=aA (.ins 7 [("learned",.int i)])):Gs h c d n [n]
 |al {d n:Nat}{i:Int} (o:h.ob n=aA (.ins 8 [("learned",.int i)])):Gs h c d n [n]
 |la {d n m:Nat}{i:Int}{f:Bool}{kvs:List (aP×AV)} (o:h.ob n=aA (.ins 9 [("learned",.int i),("first",.bl f),("lately",.ref m)])) (od:h.ob m=aA (.aR kvs)) (hb:∀j v,bR kvs j=aA v->∃b,v = .bl b) (hc:kvs.length<=c) (ne:n≠m):Gs h c d n [n,m]
 |co {d n t l:Nat}{i:Int}{ls:Xj} (o:h.ob n=aA (.ins 10 [("learned",.int i),("tally",.ref t)])) (T:kR h t l ls) (ne:n≠t/\n≠l/\t≠l):Gs h c d n [n,t,l]
 |pa {d n t l:Nat}{i g x:Int}{ls:Xj} (o:h.ob n=aA (.ins 11 [("learned",.int i),("tally",.ref t),("length",.int g),("trail",.int x)])) (T:kR h t l ls) (ne:n≠t/\n≠l/\t≠l) (g0:0<=g/\g<16) (x0:0<=x/\x<65536):Gs h c d n [n,t,l]
 |li {d n l:Nat}{i:Int}{bs:YL} (o:h.ob n=aA (.ins 12 [("learned",.int i),("truths",.ref l)])) (ol:h.ob l=aA (.lst aB<|bs.map AV.bl)) (ne:n≠l):Gs h c d n [n,l]
 |tu {d n m:Nat}{S:Xp}{i:Int} (o:h.ob n=aA (.ins 13 [("learned",.int i),("one",.ref m)])) (G:Gs h c d m S) (ne:n∉S):Gs h c (d+1) n (n::S)
 |ch {d n m m' t l:Nat} {S S':Xp}{i:Int}{ls:Xj} (o:h.ob n=aA (.ins 14 [("learned",.int i),("one",.ref m),("other",.ref m'),("tally",.ref t)])) (G:Gs h c d m S) (G':Gs h c d m' S') (T:kR h t l ls) (ne:n≠t/\n≠l/\t≠l) (nd:(∀j∈S,j∉S')/\n∉S++S'/\t∉S++S'/\l∉S++S'):Gs h c (d+1) n (n::t::l::(S++S'))
theorem kR.kp{t l:Nat}(T:kR h t l ls)(e1:h'.ob t=h.ob t)(e2:h'.ob l=h.ob l):kR h' t l ls:=⟨e1.trans T.ob,e2.trans T.lv,T.pos⟩
theorem Gs.kp{h h':AH}{c c' d n:Nat}{S:Xp}(G:Gs h c d n S)(hc':c<=c'):(∀m∈S,h'.ob m=h.ob m)->Gs h' c' d n S:=by
 induction G with
 |pl o=>exact λe=>.pl ((e _ (by simp)).trans o)|al o=>exact λe=>.al ((e _ (by simp)).trans o)|la o od hb f ne=>exact λe=>.la ((e _ (by simp)).trans o) ((e _ (by simp)).trans od) hb (dF f hc') ne|co o T ne=>exact λe=>.co ((e _ (by simp)).trans o) (T.kp (e _ (by simp))<|e _ (by simp)) ne|pa o T ne g x0=>exact λe=>.pa ((e _ (by simp)).trans o) (T.kp (e _ (by simp))<|e _ (by simp)) ne g x0|li o ol ne=>exact λe=>.li ((e _ (by simp)).trans o) ((e _ (by simp)).trans ol) ne|tu o G ne a=>exact λe=>.tu ((e _ (by simp)).trans o) (a λm hm=>e m (by simp[hm])) ne|ch o G i T ne nd a b=>exact λe=>.ch ((e _ (by simp)).trans o) (a λm hm=>e m (by simp[hm])) (b λm hm=>e m (by simp[hm])) (T.kp (e _ (by simp))<|e _ (by simp)) ne nd
theorem OK{bs:YL}{i:Int}(h0:0<=i)(h1:i<(bs.map AV.bl).length):∃b,cM (bs.map AV.bl) i=aA (.bl b):=by
 have hl:i.toNat<bs.length:=by rw[aU]at h1;omega
 unfold cM jP;rw[if_pos h0,if_pos h1];exact⟨bs[i.toNat],by simp only[jM,fH,eN hl,xX]⟩
noncomputable abbrev xw:Xr:=[(7,61),(8,65),(9,67),(10,70),(11,73),(12,76),(13,78),(14,81)]
def To(L n:Nat)(a:Int)(h:AH)(R:AV->AH->Prop):Prop:=gY (.ref n) h λn c fs=>aC (xw.lookup c) λi=>aE (fs.lookup ("guess":cY)).isNone (WC (run pg L i [.ref n,.int a]) h R) False
theorem yr{c:Nat}(G:Gs h c d n S):(∀m∈S,m<h.nx)->∀{L:Nat}{a:Int}{R:AV->AH->Prop},d+2<=L->(∀b h',Kp h h'->R (.bl b) h')->To L n a h R:=by
 induction G with
 |pl o=>intro k L a R p q;obtain⟨L,rfl⟩:∃g,L=g+1:=⟨L-1,by omega⟩;exact aC.of o<|aT rfl rfl<|q _ _ Kp.refl
 |al o=>intro k L a R p q;obtain⟨L,rfl⟩:∃g,L=g+1:=⟨L-1,by omega⟩;exact aC.of o<|aT rfl rfl<|q _ _ Kp.refl
 |la o od hb A ne=>
  rename_i d n m i f t;intro k L a R p q;obtain⟨L,rfl⟩:∃g,L=g+1:=⟨L-1,by omega⟩;refine aC.of o<|aT rfl rfl<|aC.of o<|aE.t rfl<|aC.of rfl<|aE.t (sH od)<|aC.of o<|aE.t rfl<|aC.of rfl<|WC.of<|IC od rfl ?_;cases e:bR t (.inl a) with
  |none=>exact q _ _ Kp.refl|some v=>obtain⟨b,rfl⟩:=hb _ _ e;exact q _ _ Kp.refl
 |co o T ne=>intro k L a R p q;obtain⟨L,rfl⟩:∃g,L=g+2:=⟨L-2,by omega⟩;exact aC.of o<|aT rfl rfl<|aC.of o<|aE.t rfl<|aC.of rfl<|aC.of T.ob<|Ji T λb=>q _ _ Kp.refl
 |pa o T ne B x0=>intro k L a R p q;obtain⟨L,rfl⟩:∃g,L=g+2:=⟨L-2,by omega⟩;exact aC.of o<|aT rfl rfl<|aC.of o<|aE.t rfl<|aC.of rfl<|aC.of T.ob<|aC.of rfl<|aE.t rfl<|aC.of o<|aE.t rfl<|aC.of rfl<|WC.of<|Oi<|Ji T λb=>q _ _ Kp.refl
 |li o ol ne=>
  rename_i d n l i bs;intro k L a R p q;obtain⟨L,rfl⟩:∃g,L=g+1:=⟨L-1,by omega⟩;have u:=(eF (o:=.lst aB [])<|cA<|k n (by simp)).trans o;have r:=(eF (o:=.lst aB [])<|cA<|k l (by simp)).trans ol;refine aC.of o<|aT rfl rfl<|aC.of o<|aE.t rfl<|aC.of rfl<|WC.of<|aOj rfl (ya r bM) ?_;cases bs with
  |nil=>exact q _ _ Kp.refl.new|cons y bs=>
   have hl:0<(((y::bs).map AV.bl).length:Int):=by simp only[aU,iB];omega
   obtain⟨b,z⟩:=OK (mF i (by omega)) (mV i hl);exact aC.of rfl<|aE.df (by simp)<|aC.of u<|aE.t rfl<|aC.of rfl<|aC.of u<|aE.t rfl<|aC.of rfl<|aC.of u<|aE.t rfl<|aC.of rfl<|WC.of<|kK (cN r)<|aE.dt hl<|WC.of<|gI (cN r) z<|q _ _ Kp.refl.new
 |tu o G ne w=>intro k L a R p q;obtain⟨L,rfl⟩:∃g,L=g+1:=⟨L-1,by omega⟩;exact aC.of o<|aT rfl rfl<|aC.of o<|aE.t rfl<|aC.of rfl<|w (λj s=>k j (by simp[s])) (by omega) λb h' kp=>q _ _ kp
 |ch o G C T ne nd w x=>
  intro k L a R p q;obtain⟨L,rfl⟩:∃g,L=g+2:=⟨L-2,by omega⟩;refine aC.of o<|aT rfl rfl<|aC.of o<|aE.t rfl<|aC.of rfl<|aC.of T.ob<|Ji T λb=>aE.by (λ_=>?_) λ_=>?_
  .exact aC.of o<|aE.t rfl<|aC.of rfl<|x (λj s=>k j (by simp[s])) (by omega) q
  .exact aC.of o<|aE.t rfl<|aC.of rfl<|w (λj s=>k j (by simp[s])) (by omega) q
structure Kx(S:Xp)(h h':AH):Prop where
 nx:h.nx<=h'.nx
 ob:∀m,m<h.nx->m∉S->h'.ob m=h.ob m
theorem Kx.refl:Kx S h h:=⟨aV _,λ_ _ _=>rfl⟩
theorem Kx.trans{S:Xp}{a b c:AH}(x:Kx S a b)(y:Kx S b c):Kx S a c:=⟨dF x.nx y.nx,λm hm d=>(y.ob m (bC hm x.nx) d).trans (x.ob m hm d)⟩
theorem Kx.put{S:Xp}{a b:AH}{n:Nat}{o:bG}(x:Kx S a b)(hn:n∈S):Kx S a (b.put n o):=⟨x.nx,λm hm c=>(aX λe=>c (by rw[e];exact hn)).trans (x.ob m hm c)⟩
theorem Kx.of{a b:AH}(x:Kp a b):Kx S a b:=⟨x.nx,λm hm _=>x.ob m hm⟩
theorem Kx.sub{S':Xp}{a b:AH}(x:Kx S a b)(hs:∀m∈S,m∈S'):Kx S' a b:=⟨x.nx,λm hm hn=>x.ob m hm λz=>hn (hs m z)⟩
theorem Gs.top{c:Nat}(G:Gs h c d n S):∃cl i fs,h.ob n=aA (.ins cl<|("learned",.int i)::fs)/\[7,8,9,10,11,12,13,14].contains cl=aB/\fs.length<900/\n∈S/\∀j,Gs (h.put n<|.ins cl<|("learned",.int j)::fs) c d n S:=by
 cases G with
 |pl o=>exact⟨_,_,_,o,rfl,by decide,by simp,λj=>.pl bD⟩|al o=>exact⟨_,_,_,o,rfl,by decide,by simp,λj=>.al bD⟩|la o od hb a ne=>exact⟨_,_,_,o,rfl,by simp,by simp,λj=>.la bD ((aX ne.symm).trans od) hb a ne⟩|co o T ne=>exact⟨_,_,_,o,rfl,by simp,by simp,λj=>.co bD (T.kp (aX ne.1.symm)<|aX ne.2.1.symm) ne⟩|pa o T ne b x0=>exact⟨_,_,_,o,rfl,by simp,by simp,λj=>.pa bD (T.kp (aX ne.1.symm)<|aX ne.2.1.symm) ne b x0⟩|li o ol ne=>exact⟨_,_,_,o,rfl,by simp,by simp,λj=>.li bD ((aX ne.symm).trans ol) ne⟩|tu o G ne=>exact⟨_,_,_,o,rfl,by simp,by simp,λj=>.tu bD (G.kp (aV _) λm hm=>aX λe=>ne (e▸hm)) ne⟩|ch o G f T ne nd=>exact⟨_,_,_,o,rfl,by simp,by simp,λj=>.ch bD (G.kp (aV _) λm hm=>aX λe=>nd.2.1 (by rw[<- e];simp[hm])) (f.kp (aV _) λm hm=>aX λe=>nd.2.1 (by rw[<- e];simp[hm])) (T.kp (aX ne.1.symm)<|aX ne.2.1.symm) ne nd⟩
noncomputable abbrev XO:Xr:=[(7,62),(8,62),(9,68),(10,71),(11,74),(12,62),(13,79),(14,82)]
def vx(L n:Nat)(a:Int)(b:Bool)(h:AH)(R:AV->AH->Prop):Prop:=gY (.ref n) h λn c fs=>aC (XO.lookup c) λi=>aE (fs.lookup ("heed":cY)).isNone (WC (run pg L i [.ref n,.int a,.bl b]) h R) False
noncomputable abbrev Gv:Xr:=[(7,63),(8,63),(9,63),(10,63),(11,63),(12,63),(13,63),(14,63)]
def Eu(L n:Nat)(a:Int)(b:Bool)(h:AH)(R:AV->AH->Prop):Prop:=gY (.ref n) h λn c fs=>aC (Gv.lookup c) λi=>aE (fs.lookup ("learn":cY)).isNone (WC (run pg L i [.ref n,.int a,.bl b]) h R) False
def mq(W:Nat->Nat->Int->Bool->AH->(AV->AH->Prop)->Prop)(d l:Nat):Prop:=∀{h:AH}{c n:Nat}{S:Xp},Gs h c d n S->c<1000->(∀m∈S,m<h.nx)->∀{L:Nat}{a:Int}{b:Bool}{R:AV->AH->Prop},l<=L->(∀h',Kx S h h'->Gs h' (c+1) d n S->R .aH h')->W L n a b h R
theorem qx(H:mq vx d (2*d+2)):mq Eu d (2*d+3):=by
 intro h c n S G f j L a b R m q;obtain⟨L,rfl⟩:∃k,L=k+1:=⟨L-1,by omega⟩;have fin:WC (run pg (L+1) 63 [.ref n,.int a,.bl b]) h R:=by refine aT rfl rfl<|H G f j (by omega) λp kx g=>?_;obtain⟨cl,i,fs,o,e,hl,hn,l⟩:=g.top;exact aC.of o<|aE.t e<|aC.of rfl<|aC.of rfl<|aC.of o<|aE.dt rfl<|aE.dt (by simp only[iB];omega)<|q _ (kx.put hn)<|l _
 cases G with
 |pl o=>exact aC.of o fin|al o=>exact aC.of o fin|la o od hb f ne=>exact aC.of o fin|co o T ne=>exact aC.of o fin|pa o T ne r x0=>exact aC.of o fin|li o ol ne=>exact aC.of o fin|tu o G ne=>exact aC.of o fin|ch o G g T ne nd=>exact aC.of o fin
theorem Zq(IH:∀d',d'+1=d->mq vx d' (2*d'+2)):mq vx d (2*d+2):=by
 intro h c n S G N w L a b R hL q;have big:sizeLine=16777216:=rX;obtain⟨L,rfl⟩:∃L',L=L'+2:=⟨L-2,by omega⟩;cases G with
 |pl o=>exact aC.of o<|aT rfl rfl<|q _ Kx.refl<|Gs.kp (.pl o) (jL _) λ_ _=>rfl|al o=>exact aC.of o<|aT rfl rfl<|q _ Kx.refl<|Gs.kp (.al o) (jL _) λ_ _=>rfl|li o ol ne=>exact aC.of o<|aT rfl rfl<|q _ Kx.refl<|Gs.kp (.li o ol ne) (jL _) λ_ _=>rfl|la o od hb hcl ne=>
  refine aC.of o<|aT rfl rfl<|aC.of o<|aE.t rfl<|aC.of rfl<|xN (k:=.inl a) od rfl (by omega) ?_;refine q _ (Kx.refl.put (by simp))<|.la ((aX ne).trans o) bD (λj v e=>?_) (dF aCf (by omega)) ne;rw[aNm]at e;split at e
  .cases e;exact⟨_,rfl⟩
  .exact hb _ _ e
 |co o T ne=>refine aC.of o<|aT rfl rfl<|aC.of o<|aE.t rfl<|aC.of rfl<|aC.of T.ob<|Ju (k:=L) T λp e=>?_;exact q _ (Kx.refl.put (by simp))<|.co ((aX ne.2.1).trans o) ⟨(aX ne.2.2).trans T.ob,bD,e▸T.pos⟩ ne
 |pa o T ne W x0=>
  rename_i t l i g x ls;refine aC.of o<|aT rfl rfl<|aC.of o<|aE.t rfl<|aC.of rfl<|aC.of T.ob<|aC.of rfl<|aE.t rfl<|aC.of o<|aE.t rfl<|aC.of rfl<|WC.of<|Oi<|Ju (k:=L) T λp e=>?_;have A:=(aX (o:=.lst aB (p.map AV.int)) ne.2.1).trans o;have X:kR (h.put l<|.lst aB<|p.map AV.int) t l p:=⟨(aX ne.2.2).trans T.ob,bD,e▸T.pos⟩;have kx:Kx [n,t,l] h (h.put l<|.lst aB<|p.map AV.int):=Kx.refl.put (by simp);generalize h.put l (.lst aB<|p.map AV.int)=O at A X kx ⊢;have p0:(0:Int)<1*2 ^ g.toNat:=by rw[JO];exact JP (by decide)
  have p1:(1:Int)*2 ^ g.toNat<=65536:=by
   rw[JO];have:g.toNat<=16:=by omega
   have:=Nat.pow_le_pow_right (n:=2) (by decide) this;have e:((2 ^ g.toNat:Nat):Int)=2 ^ g.toNat:=rfl;omega
  refine aC.of A<|aE.t rfl<|aC.of rfl<|aE.t (Jy (by omega) (by omega)) ?_;have fin:∀y:Int,WC (Op.g .shl (.int 1)<|.int g) O λz H=>Og .mod (.int y) z H λv r=>gY (.ref n) r λn c fs=>aE ([11].contains c) (aE (decide<|fs.length<1000) (R .aH<|r.put n<|.ins c<|gG "trail" v fs) False) False:=λy=>by refine WC.of<|II (DJ (by decide) (by decide) W.1 (by omega))<|aE.dt p0<|aC.of A ?_;exact q _ (kx.put (by simp))<|.pa bD (X.kp (aX ne.1.symm)<|aX ne.2.1.symm) ne W ⟨mF _ (by omega),Pp (mV _ p0) p1⟩
  cases b with
  |true=>exact aC.of A<|aE.t rfl<|aC.of rfl<|fin _|false=>exact aC.of A<|aE.t rfl<|aC.of rfl<|fin _
 |tu o G ne=>rename_i d' m S i;refine aC.of o<|aT rfl rfl<|aC.of o<|aE.t rfl<|aC.of rfl ?_;refine qx (IH d' rfl) G N (λj f=>w j (by simp[f])) (by omega) λh' kx I=>?_;exact q _ (kx.sub λm hm=>by simp[hm])<|.tu ((kx.ob _ (w _ (by simp)) ne).trans o) I ne
 |ch o G I T ne nd=>
  rename_i d' m m' t l S J i ls;have D:∀j∈S,j<h.nx:=λj f=>w j (by simp[f]);have s:∀j∈J,j<h.nx:=λj f=>w j (by simp[f]);have ln:=w n (by simp);have lt:=w t (by simp);have Y:=w l (by simp);refine aC.of o<|aT rfl rfl<|aC.of o<|aE.t rfl<|aC.of rfl<|yr I s (by omega) λb1 O k1=>?_;have A:=k1.get ln o;have G1:Gs O c d' m S:=G.kp (aV _) λj f=>k1.ob j (D j f);refine aC.of A<|aE.t rfl<|aC.of rfl<|yr G1 (λj f=>bC (D j f) k1.nx) (by omega) λb2 H P=>?_;have k2:=k1.trans P;have Q:=k2.get ln o;have K:kR H t l ls:=T.kp (k2.ob _ lt) (k2.ob _ Y);have rest:∀(r:AH) (p:Xj),Kx [n,t,l] h r->r.ob n=H.ob n->kR r t l p->Eu (L+1) m a b r λ_ B=>gY (.ref n) B λ_ c fs=>aE ([14].contains c) (aC (fs.lookup ("other":cY)) λv=>gY v B λn c fs=>aC (Gv.lookup c) λi=>aE (fs.lookup ("learn":cY)).isNone (WC (run pg (L+1) i [.ref n,.int a,.bl b]) B λ_ M=>R .aH M) False) False:=λr p kx e3 T3=>by
   have Z:∀j,j∈S++J->r.ob j=h.ob j:=λj f=>kx.ob j (by rcases List.mem_append.mp f with z|z;exact D j z;exact s j z) (by
    simp only[kL,kM,or_false,not_or];exact⟨λz=>nd.2.1 (z▸f),λz=>nd.2.2.1 (z▸f),λz=>nd.2.2.2 (z▸f)⟩)
   refine qx (IH d' rfl) (G.kp (aV _) λj f=>Z j (by simp[f])) N (λj f=>bC (D j f) kx.nx) (by omega) λB u G4=>?_;have U:∀j,j<h.nx->j∉S->B.ob j=r.ob j:=λj f C=>u.ob j (bC f kx.nx) C;have n4:B.ob n=h.ob n:=by rw[U n ln λz=>nd.2.1 (by simp[z]),e3,k2.ob n ln]
   refine aC.of (n4.trans o)<|aE.t rfl<|aC.of rfl ?_;refine qx (IH d' rfl) (I.kp (aV _) λj f=>(U j (s j f) λz=>nd.1 j z f).trans (Z j (by simp[f]))) N (λj f=>bC (s j f) (dF kx.nx u.nx)) (by omega) λM E G5=>?_;have V:∀j,j<h.nx->j∉J->M.ob j=B.ob j:=λj f C=>E.ob j (bC f<|dF kx.nx u.nx) C;have F:∀j,j<h.nx->j∉S++J->M.ob j=r.ob j:=λj f C=>(V j f λz=>C (by simp[z])).trans (U j f λz=>C (by simp[z]));refine q _ ?_<|.ch ((V n ln λz=>nd.2.1 (by simp[z])).trans (n4.trans o)) (G4.kp (aV _) λj f=>V j (D j f) (nd.1 j f)) G5 (T3.kp (F t lt nd.2.2.1)<|F l Y nd.2.2.2) ne nd;exact(kx.sub λj f=>by simp only[kL,kM,or_false]at f;rcases f with rfl|rfl|rfl<;>simp).trans ((u.sub λj f=>by simp[f]).trans (E.sub λj f=>by simp[f]))
  refine aC.of rfl<|aC.of rfl<|WC.of<|Cc rfl<|aC.of rfl<|aE.nd (λ_=>?_) λ_=>?_
  .refine aC.of Q<|aE.t rfl<|aC.of rfl<|aC.of K.ob<|aC.of rfl<|aE.t rfl<|aC.of rfl<|aC.of rfl<|WC.of<|By rfl<|Ju (k:=L) K λp e=>?_;have o3:=(aX (o:=.lst aB (p.map AV.int)) ne.2.1).trans Q;exact aC.of o3<|aE.t rfl<|aC.of rfl<|rest _ p ((Kx.of k2).put (by simp)) (aX ne.2.1) ⟨(aX ne.2.2).trans K.ob,bD,e▸T.pos⟩
  .exact aC.of Q<|aE.t rfl<|aC.of rfl<|rest _ ls (Kx.of k2) rfl K
theorem Ii:∀d,mq vx d (2*d+2)
 |0=>Zq λd' e=>by omega
 |d+1=>Zq λd' e=>by exact Ii d'
section
variable {k:Nat}
theorem pE{c i:Int}(h0:0<=i)(h1:i<1000)(q:∀z,0<=z->z<2147483647->R (.int z) h):WC (run pg (k+1) 37 [.int c,.int i]) h R:=
 aT rfl rfl (WC.of<|Ot rfl<|aE.t (Jy (by omega) (by omega))<|aE.t (N2 (by omega) (by omega))<|q _ (mF _ (by decide))<|mV _ (by decide))
theorem aMq{t:Nat}{m:Int}(o:h.ob t=aA (.ins 6 []))(ht:t<h.nx)(m0:0<m)(m1:m<=64)(q:∀h' l ls,kR h' t l ls->h.nx<=l->l<h'.nx->Kx [t] h h'->R .aH h'):WC (run pg (k+1) 57 [.ref t,.int m,.int b]) h R:=by have big:sizeLine=16777216:=rX;refine aT rfl rfl<|WC.of<|IG bM (by omega) (by simp;omega) (by omega) ?_;have k1:Kp h ((h.new<|.lst aB [.int b]).new (.lst aB (eR m.toNat [AV.int b]).flatten)):=Kp.refl.new.new;have a:((h.new<|.lst aB [.int b]).new (.lst aB (eR m.toNat [AV.int b]).flatten)).ob (h.new<|.lst aB [.int b]).nx=aA (.lst aB (eR m.toNat [AV.int b]).flatten):=bM;have c:(h.new<|.lst aB [.int b]).nx<((h.new<|.lst aB [.int b]).new (.lst aB (eR m.toNat [AV.int b]).flatten)).nx:=dA _;have d:h.nx<=(h.new<|.lst aB [.int b]).nx:=jL _;generalize (h.new<|.lst aB [.int b]).new (.lst aB (eR m.toNat [AV.int b]).flatten)=e at k1 a c ⊢;generalize (h.new<|.lst aB [.int b]).nx=l at a c d ⊢;rw[KH]at a;refine aC.of rfl<|aC.of rfl<|aC.of (k1.get ht o) ?_;refine q _ l (eR m.toNat b) ⟨bD,(aX (by omega)).trans (a.trans (by rw[LA])),by rw[Dk];omega⟩ d c<|(Kx.of k1).put (by simp)
def pT(L c i:Nat)(as:Hd)(h:AH)(Q:AV->AH->Prop):Prop:=WC (run pg L i<|.ref h.nx::as) (h.new<|.ins c []) λv h2=>v = .aH/\Q (.ref h.nx) h2
def Gn(h:AH)(d:Nat)(Q:AV->AH->Prop):Prop:=∀h' n S,Kp h h'->Gs h' 0 d n S->(∀j∈S,h.nx<=j/\j<h'.nx)->Q (.ref n) h'
theorem aAw(q:Gn h d R):pT (k+1) 7 60 [] h R:=
 aT rfl rfl (aC.of bM ⟨rfl,q _ _ _ (Kp.refl.new.put<|aV _) (.pl bD) λj a=>by rw[List.mem_singleton.mp a];exact⟨aV _,dA _⟩⟩)
theorem OH(q:Gn h d R):pT (k+1) 8 60 [] h R:=
 aT rfl rfl (aC.of bM ⟨rfl,q _ _ _ (Kp.refl.new.put<|aV _) (.al bD) λj a=>by rw[List.mem_singleton.mp a];exact⟨aV _,dA _⟩⟩)
theorem gj{c:Nat}(o:h.ob n=aA (.ins c []))(hc:[7,8,9,10,11,12,13,14].contains c=aB)(q:R .aH (h.put n<|.ins c [("learned",.int 0)])):WC (run pg (k+1) 60 [.ref n]) h R:=aT rfl rfl (aC.of o<|aE.t hc q)
theorem AY{f:Bool}(q:Gn h d R):pT (k+2) 9 66 [.bl f] h R:=by refine aT rfl rfl<|gj bM rfl<|aC.of bD<|aC.of ((eF (show h.nx≠h.nx+1 by omega)).trans bD) ?_;refine⟨rfl,q _ h.nx [h.nx,h.nx+1] ((((Kp.refl.new.put<|aV _).put (aV _)).new).put (aV _)) (.la bD ((aX (by omega)).trans bM) (λj v e=>by cases e) (aV _) (by omega)) λj b=>?_⟩;have nx:∀{a:AH}{o:bG},(a.new o).nx=a.nx+1:=rfl;simp only[kL,kM,or_false]at b;simp only[xD,nx];omega
theorem Nr{h1:AH}{m:Int}{K:AV->AH->Prop}(m0:0<m)(m1:m<=64)(q:∀h2 l ls,kR h2 h1.nx l ls->h1.nx+1<=l->l<h2.nx->(∀j,j<h1.nx->h2.ob j=h1.ob j)->K .aH h2) :
  WC (run pg (k+1) 57 [.ref h1.nx,.int m,.int b]) (h1.new<|.ins 6 []) K:=
 aMq bM (dA _) m0 m1 λh2 l ls T l1 l2 kx=>q h2 l ls T l1 l2 λj a=>(kx.ob j (kN a) (by simp;omega)).trans (eF<|cA a)
theorem Wh{m:Int}(m0:0<m)(m1:m<=64)(q:Gn h d R):pT (k+2) 10 69 [.int m,.int b] h R:=by
 refine aT rfl rfl<|gj bM rfl ?_;have k1:Kp h ((h.new<|.ins 10 []).put h.nx (.ins 10 [("learned",.int 0)])):=Kp.refl.new.put (aV _);have c:((h.new<|.ins 10 []).put h.nx (.ins 10 [("learned",.int 0)])).ob h.nx=aA (.ins 10 [("learned",.int 0)]):=bD;have e:((h.new<|.ins 10 []).put h.nx (.ins 10 [("learned",.int 0)])).nx=h.nx+1:=rfl;generalize (h.new<|.ins 10 []).put h.nx (.ins 10 [("learned",.int 0)])=f at k1 c e ⊢;refine Nr m0 m1 λg l ls T l1 l2 keep=>⟨rfl,aC.of rfl (aC.of rfl<|aC.of ((keep _ (by omega)).trans c) ⟨rfl,?_⟩)⟩;refine q _ h.nx [h.nx,f.nx,l] ⟨by simp only[xD];omega,λj a=>?_⟩ (.co bD (T.kp (aX (by omega))<|aX (by omega)) ⟨by omega,by omega,by omega⟩) λj a=>?_
 .rw[aX (by omega),keep j (by omega),k1.ob j a]
 .simp only[kL,kM,or_false]at a;simp only[xD];omega
theorem CV{m g:Int}(m0:0<m)(m1:m<=64)(g0:0<=g/\g<16)(q:Gn h d R):pT (k+2) 11 72 [.int m,.int g] h R:=by
 refine aT rfl rfl<|gj bM rfl ?_;have k1:Kp h ((h.new<|.ins 11 []).put h.nx (.ins 11 [("learned",.int 0)])):=Kp.refl.new.put (aV _);have b:((h.new<|.ins 11 []).put h.nx (.ins 11 [("learned",.int 0)])).ob h.nx=aA (.ins 11 [("learned",.int 0)]):=bD;have c:((h.new<|.ins 11 []).put h.nx (.ins 11 [("learned",.int 0)])).nx=h.nx+1:=rfl;generalize (h.new<|.ins 11 []).put h.nx (.ins 11 [("learned",.int 0)])=e at k1 b c ⊢;refine Nr m0 m1 λf l ls T l1 l2 keep=>⟨rfl,aC.of rfl (aC.of rfl<|aC.of ((keep _ (by omega)).trans b)<|aC.of bD<|aC.of bD ⟨rfl,?_⟩)⟩;refine q _ h.nx [h.nx,e.nx,l] ⟨by simp only[xD];omega,λj a=>?_⟩ (.pa bD (T.kp ((aX (by omega)).trans ((aX (by omega)).trans (aX (by omega))))<|(aX (by omega)).trans ((aX (by omega)).trans (aX (by omega)))) ⟨by omega,by omega,by omega⟩ g0 (by omega)) λj a=>?_
 .rw[aX (by omega),aX (by omega),aX (by omega),keep j (by omega),k1.ob j a]
 .simp only[kL,kM,or_false]at a;simp only[xD];omega
theorem J4{l:Nat}{bs:YL}(ol:h.ob l=aA (.lst aB<|bs.map AV.bl))(hl:l<h.nx)(q:Gn h d R):pT (k+2) 12 75 [.ref l] h R:=by refine aT rfl rfl<|gj bM rfl ?_;have k1:Kp h ((h.new<|.ins 12 []).put h.nx (.ins 12 [("learned",.int 0)])):=Kp.refl.new.put (aV _);have b:((h.new<|.ins 12 []).put h.nx (.ins 12 [("learned",.int 0)])).ob h.nx=aA (.ins 12 [("learned",.int 0)]):=bD;have c:((h.new<|.ins 12 []).put h.nx (.ins 12 [("learned",.int 0)])).nx=h.nx+1:=rfl;generalize (h.new<|.ins 12 []).put h.nx (.ins 12 [("learned",.int 0)])=e at k1 b c ⊢;refine WC.of<|Cb (cN<|k1.get hl ol)<|aC.of rfl<|aC.of rfl<|aC.of ((eF (by omega)).trans b) ⟨rfl,?_⟩;refine q _ h.nx [h.nx,e.nx] ((k1.new).put (aV _)) (.li bD ((aX (by omega)).trans bM) (by omega)) λj f=>?_;have nx:∀{a:AH}{o:bG},(a.new o).nx=a.nx+1:=rfl;simp only[kL,kM,or_false]at f;simp only[xD,nx];omega
end
section
variable {k:Nat}
theorem aNf{c:Nat}(G:Gs h c d n1 S1)(hS:∀j∈S1,j<h.nx)(q:∀h' n S,Kp h h'->Gs h' c (d+1) n S->(∀j∈S,j∈S1\/h.nx<=j)->(∀j∈S,j<h'.nx)->R (.ref n) h'):pT (k+2) 13 77 [.ref n1] h R:=by
 refine aT rfl rfl<|gj bM rfl<|aC.of bD ⟨rfl,?_⟩;have kp:Kp h (((h.new<|.ins 13 []).put h.nx (.ins 13 [("learned",.int 0)])).put h.nx (.ins 13<|gG "one" (.ref n1) [("learned",.int 0)])):=(Kp.refl.new.put<|aV _).put (aV _);refine q _ h.nx (h.nx::S1) kp (.tu bD (G.kp (aV _) λj a=>kp.ob j (hS j a)) λz=>absurd (hS _ z) (lA _)) (λj a=>?_) λj a=>?_
 .rcases List.mem_cons.mp a with rfl|z
  .exact .inr<|aV _
  .exact .inl z
 .rcases List.mem_cons.mp a with rfl|z
  .exact dA _
  .exact bC (hS j z) kp.nx
theorem VY{c n2:Nat}{S2:Xp}{m:Int}(m0:0<m)(m1:m<=64)(G1:Gs h c d n1 S1)(G2:Gs h c d n2 S2)(h1S:∀j∈S1,j<h.nx)(h2S:∀j∈S2,j<h.nx)(dj:∀j∈S1,j∉S2)
  (q:∀h' n S,Kp h h'->Gs h' c (d+1) n S->(∀j∈S,j∈S1\/j∈S2\/h.nx<=j)->(∀j∈S,j<h'.nx)->R (.ref n) h'):pT (k+2) 14 80 [.ref n1,.ref n2,.int m] h R:=by
 refine aT rfl rfl<|gj bM rfl<|aC.of bD<|aC.of bD ?_;have k1:Kp h ((((h.new<|.ins 14 []).put h.nx (.ins 14 [("learned",.int 0)])).put h.nx (.ins 14 [("learned",.int 0),("one",.ref n1)])).put h.nx (.ins 14 [("learned",.int 0),("one",.ref n1),("other",.ref n2)])):=((Kp.refl.new.put<|aV _).put (aV _)).put (aV _);refine Nr m0 m1 λb l ls T l1 l2 keep=>⟨rfl,aC.of rfl (aC.of rfl<|aC.of ((keep _<|dA _).trans bD) ⟨rfl,?_⟩)⟩;have T:kR b (h.nx+1) l ls:=T;have l1:h.nx+2<=l:=l1;have keep:∀j,j<h.nx->b.ob j=h.ob j:=λj a=>(keep j<|kN a).trans (k1.ob j a);have f:∀{o:bG},∀j,j<h.nx->(b.put h.nx o).ob j=h.ob j:=λj a=>(aX<|cA a).trans (keep j a);refine q _ h.nx (h.nx::(h.nx+1)::l::(S1++S2)) ⟨by simp only[xD];omega,f⟩ (.ch bD (G1.kp (aV _) λj a=>f j (h1S j a)) (G2.kp (aV _) λj a=>f j (h2S j a)) (T.kp (aX (by omega))<|aX (by omega)) ⟨by omega,by omega,by omega⟩ ⟨dj,?_,?_,?_⟩) (λj a=>?_) λj a=>?_
 .intro z;rcases List.mem_append.mp z with z|z;have:=h1S _ z;omega;have:=h2S _ z;omega
 .intro z;rcases List.mem_append.mp z with z|z;have:=h1S _ z;omega;have:=h2S _ z;omega
 .intro z;rcases List.mem_append.mp z with z|z;have:=h1S _ z;omega;have:=h2S _ z;omega
 .simp only[kL,LB]at a;rcases a with e|e|e|e|e
  .exact .inr<|.inr (by omega)
  .exact .inr<|.inr (by omega)
  .exact .inr<|.inr (by omega)
  .exact .inl e
  .exact .inr<|.inl e
 .simp only[kL,LB]at a;simp only[xD];rcases a with e|e|e|e|e
  .omega
  .omega
  .omega
  .have:=h1S _ e;omega
  .have:=h2S _ e;omega
end
section
variable {k:Nat}
theorem WR{lo hi:Hc}:(fu ns lo hi).length<=ns.length:=by unfold fu;rw[mJ,ux];omega
theorem AZ{c:Int}{ps:Nat}(os:h.ob ps=aA (.lst bb<|ns.map AV.int))(hn:ns.length<=63)(q:Gn h 1 R):WC (run pg (k+4) 48 [.int c,.ref ps]) h R:=by
 have big:sizeLine=16777216:=rX;refine aT rfl rfl<|pE (k:=k+2) (by decide) (by decide) λz z0 z1=>?_;have p0:0<=z / 8:=Pn z0 (by decide);have a0:0<1+z / 8%64:=by omega
 have a1:1+z / 8%64<=64:=by omega
 refine aE.dc (λ_=>?_) λ_=>?_
 .exact aAw (k:=k+2) q
 refine aE.dc (λ_=>?_) λ_=>?_
 .exact OH (k:=k+2) q
 refine aE.dc (λ_=>?_) λ_=>?_
 .exact AY (k:=k+1) q
 refine aE.dc (λ_=>?_) λ_=>?_
 .exact Wh (k:=k+1) a0 a1 q
 refine aE.dc (λ_=>?_) λ_=>?_
 .exact CV (k:=k+1) a0 a1 (by omega) q
 refine aE.dc (λ_=>?_) λ_=>?_
 .refine WC.of<|jq<|mU<|ju<|WC.of<|Cd os<|nO bM ?_;have k1:Kp h (h.new<|.lst aB<|iR (ns.map AV.int) aD<|aA 60):=Kp.refl.new;have o1:(h.new<|.lst aB<|iR (ns.map AV.int) aD<|aA 60).ob h.nx=aA (.lst aB<|(fu ns aD<|aA 60).map AV.int):=by rw[<- WS];exact bM
  have hl:=WR (ns:=ns) (lo:=aD) (hi:=aA 60);generalize h.new (.lst aB<|iR (ns.map AV.int) aD<|aA 60)=h1 at k1 o1 ⊢;generalize h.nx=m1 at o1 ⊢;generalize fu ns aD (aA 60)=ms at o1 hl ⊢;refine Wb (bb:=aB) (xs:=ms.map AV.int) (λi ys Z h'=>h'=h1/\(∃a,Z=[a])/\∃bs:YL,ys=bs.map AV.bl/\bs.length=i) (by rw[aU,eZ];omega) ⟨rfl,⟨_,rfl⟩,[],rfl,rfl⟩ (λi ys Z h' y=>by rw[y.1];exact o1) ?_ ?_
  .rintro i x ys Z h' hx ⟨rfl,⟨a,rfl⟩,bs,rfl,rfl⟩
   obtain⟨y,hy,rfl⟩:=jR hx;have hi:=(List.getElem?_eq_some_iff.mp hy).1;refine Bw<|cF _ ⟨by rw[aU];omega,rfl,⟨_,rfl⟩,bs++[_],by rw[hJ];rfl,by simp⟩
  rintro ys Z h' ⟨rfl,⟨a,rfl⟩,bs,rfl,_⟩
  refine J4 (k:=k+1) (d:=1) bM (dA _) λh2 n S k2 G hS=>?_;have k3:=k1.trans (Kp.refl.new.trans k2);refine q _ _ _ k3 G λj hj=>⟨?_,(hS j hj).2⟩;exact dF (k1.trans Kp.refl.new).nx (hS j hj).1
 refine aE.dc (λ_=>?_) λ_=>?_
 .refine Wh (k:=k+1) (d:=0) (R:=λv h1=>pT (k+3) 13 77 [v] h1 R) a0 a1 λh1 n S k1 G hS=>?_;refine aNf (k:=k+1) G (λj hj=>(hS j hj).2) λh2 n2 S2 k2 G2 s1 s2=>?_;refine q _ _ _ (k1.trans k2) G2 λj hj=>⟨?_,s2 j hj⟩;rcases s1 j hj with e|e
  .exact(hS j e).1
  .exact dF k1.nx e
 .refine AY (k:=k+1) (d:=0) (R:=λv1 h1=>pT (k+3) 11 72 [.int (1+z / 8%64),.int 4] h1 λv2 h2=>pT (k+3) 14 80 [v1,v2,.int (1+z / 8 / 64%64)] h2 R) λh1 n1 S1 k1 G1 hS1=>?_;refine CV (k:=k+1) (d:=0) a0 a1 (by decide) λh2 n2 S2 k2 G2 hS2=>?_;refine VY (k:=k+1) (by omega) (by omega) (G1.kp (aV _) λj hj=>k2.ob j (hS1 j hj).2) G2 (λj hj=>bC (hS1 j hj).2 k2.nx) (λj hj=>(hS2 j hj).2) (λj h1 h2=>absurd (hS2 j h2).1 (Nat.not_le.mpr (hS1 j h1).2)) λh3 n3 S3 k3 G3 s1 s2=>?_;refine q _ _ _ ((k1.trans k2).trans k3) G3 λj hj=>⟨?_,s2 j hj⟩;rcases s1 j hj with e|e|e
  .exact(hS1 j e).1
  .exact dF k1.nx (hS2 j e).1
  .exact dF (k1.trans k2).nx e
end
section
def wd(v:Int):Prop:=0<=v/\v<18446744073709551616
def dB(b:Int):Prop:=0<=b/\b<8
def rK:aN->Prop
 |.way _ x y z=>dB x/\dB y/\dB z
 |.set x v=>dB x/\wd v
 |.move x y=>dB x/\dB y
 |.load x y _=>dB x/\dB y
 |.store x y _=>dB x/\dB y
 |.fZ x t=>dB x/\0<=t
 |.go t=>0<=t
 |.fault _=>True
variable {k:Nat}
def mz(h:AH)(R:AV->AH->Prop):Prop:=∀r h',Kp h h'->rK r->R r.av h'
theorem tW{i:Int}(h0:0<=i)(hn:h.ob n=aA (.lst bb<|ns.map AV.int))(q:∀z,R (.int z) h):WC (run pg (k+1) 36 [.ref n,.int i]) h R:=by exact aT rfl rfl<|WC.of<|kK (cN hn)<|aE.dc (λa=>WC.of (gI (cN hn) (nj h0 a)<|q _)) λ_=>q _
theorem ur{z:Int}(z0:0<=z)(z1:z<2147483647)(q:∀w,wd w->R (.int w) h):WC (run pg (k+1) 38 [.int z]) h R:=by
 have e:(2:Int) ^ Int.toNat 64=18446744073709551616:=rfl;refine aT rfl rfl<|aE.dc (λ_=>aE.t (Jy (by omega) (by omega)) (WC.of<|Ot rfl ?_)) λ_=>aE.dc (λ_=>WC.of (Ot rfl ?_)) λ_=>q _ ⟨by omega,by omega⟩
 .exact(q _ ⟨mF _ (by decide),mV _ (by decide)⟩)
 .rw[e];exact q _ ⟨by omega,by omega⟩
def Bx:Hd:=[.str "sum",.str "less",.str "times",.str "share",.str "rest",.str "both",.str "some",.str "odd",.str "up",.str "down",.str "below",.str "same"]
def Oh:List eK:=[.sum,.less,.times,.share,.rest,.both,.ue,.odd,.up,.down,.below,.same]
theorem aOa{i:Int}(h0:0<=i)(h1:i<12):∃w:eK,cM Bx i=aA (.str w.nm):=by
 obtain⟨n,rfl⟩:=bo h0;have e:Bx=Oh.map λw=>.str w.nm:=rfl;have hl:n<Oh.length:=by show n<12;omega
 unfold cM;rw[e,zt (by rw[aU];exact hl)];exact⟨Oh[n],by simp only[jM,fH,eN hl,xX]⟩
theorem aOb{z:Int}{b:Bool}(hx:dB x)(hy:dB y)(hz:dB z)(q:mz h R):WC (run pg (k+1) 39 [.tup [.int x,.int y,.int z],.int p,.bl b]) h R:=by
 obtain⟨w,ew⟩:=aOa (i:=p%12) (by omega) (by omega);refine aT rfl rfl<|WC.of<|gI (cN (xs:=Bx) bM) ew ?_;have fin:∀x' z',dB x'->dB z'->R (.tup [.str w.nm,.int x',.int y,.int z']) (h.new<|.lst aB Bx):=λx' z' h1 h2=>q (.way w x' y z') _ Kp.refl.new ⟨h1,hy,h2⟩;have b4:dB (x%4):=by unfold dB;omega
 have b2:dB (6+x%2):=by unfold dB;omega
 have b5:dB 5:=⟨by decide,by decide⟩;have b6:dB 4:=⟨by decide,by decide⟩;cases b with
 |false=>exact fin _ _ hx hz|true=>refine aE.dc (λ_=>fin _ _ b4 b5) λ_=>aE.dc (λ_=>fin _ _ b2 b5) λ_=>aE.dc (λ_=>fin _ _ b6 hz) λ_=>aE.dc (λ_=>fin _ _ b6 hz) λ_=>fin _ _ b4 hz
theorem DE{kd:Bool}{z:Int}{b:Bool}(hx:dB x)(hy:dB y)(q:mz h R):WC (run pg (k+1) 40 [.str (if kd then "load" else "store"),.tup [.int x,.int y,.int z],.int p,.bl b]) h R:=by
 have b2:dB (6+y%2):=by unfold dB;omega
 have b5:dB (x%5):=by unfold dB;omega
 refine aT rfl rfl ?_;cases b with
 |true=>
  cases kd with
  |true=>exact q (.load _ _ _) _ Kp.refl ⟨b5,b2⟩|false=>exact q (.store _ _ _) _ Kp.refl ⟨hx,b2⟩
 |false=>
  cases kd with
  |true=>exact aE.dc (λ_=>q (.load _ _ _) _ Kp.refl ⟨hx,hy⟩) λ_=>q (.load _ _ _) _ Kp.refl ⟨hx,hy⟩|false=>exact aE.dc (λ_=>q (.store _ _ _) _ Kp.refl ⟨hx,hy⟩) λ_=>q (.store _ _ _) _ Kp.refl ⟨hx,hy⟩
noncomputable abbrev aMw:aQ:=bO (bO<|bO<|bO Uv)
theorem Kt{i:Int}(h0:0<=i)(h1:i<2)(q:∀v,v=a\/v=b->Q (.int v) h)(e:h.ob n=aA (.lst aB [.int a,.int b])):WC (Op.g .ix (.ref n)<|.int i) h Q:=by
 have:i=0\/i=1:=by omega
 rcases this with rfl|rfl
 .exact WC.of<|gI (cN e) rfl<|q _<|.inl rfl
 .exact WC.of<|gI (cN e) rfl<|q _<|.inr rfl
theorem aNb{kd z i m:Int}{b:Bool}(hx:dB x)(hy:dB y)(hz:dB z)(hi:0<=i)(hm:0<=m)(p0:0<=p)(p1:p<2147483647)(q:mz h R):WC (run pg (k+2) 41 [.int kd,.tup [.int x,.int y,.int z],.int p,.tup [.int i,.int m],.bl b]) h R:=by
 have b5:dB (x%5):=by unfold dB;omega
 have tail:∀t:Int,0<=t->eG (run pg<|k+1) aMw [aA (.int kd),aA (.tup [.int x,.int y,.int z]),aA (.int p),aA (.tup [.int i,.int m]),aA (.bl b),aA (.int x),aA (.int y),aA (.int z),aA (.int i),aA (.int m),aA (.int t)] h (λ_ h1=>R .aH h1) R (λ_ _=>False) λ_ _=>False:=λt ht=>by
  refine aE.dc (λ_=>?_) λ_=>?_
  .cases b with
   |false=>exact q (.fZ x t) _ Kp.refl ⟨hx,ht⟩|true=>exact Kt (by omega) (by omega) (λv hv=>q (.fZ v t) _ Kp.refl.new ⟨by unfold dB;omega,ht⟩) bM
  refine aE.dc (λ_=>?_) λ_=>?_
  .exact q (.go _) _ Kp.refl (by show 0<=ite _ _ _;split<;>omega)
  cases b with
  |true=>exact q (.move _ _) _ Kp.refl ⟨b5,hz⟩|false=>exact ur (k:=k) p0 p1 λw hw=>q (.fault w) _ Kp.refl trivial
 refine aT rfl rfl<|aE.dc (λ_=>?_) λ_=>?_
 .exact aE.dt (by omega)<|tail _<|mF _ (by omega)
 .refine tail _ ?_;show 0<=ite _ _ _;split<;>omega
theorem aIx{c i m:Int}{b:Bool}(h0:0<=i)(h1:i<100)(hm:0<=m)(q:mz h R):WC (run pg (k+3) 42 [.int c,.int i,.int m,.bl b]) h R:=by
 refine aT rfl rfl<|pE (k:=k+1) h0 (by omega) λz j n=>?_;have bx:∀d:Int,0<d->dB (z / d%8):=λd hd=>⟨mF _ (by decide),mV _ (by decide)⟩;have x0:=bx 20 (by decide);have g:=bx 160 (by decide);have w0:=bx 1280 (by decide);have p0:0<=z / 10240:=Pn j (by decide);have p1:z / 10240<2147483647:=by omega
 refine aE.dc (λ_=>aOb (k:=k+1) x0 g w0 q) λ_=>?_;refine aE.dc (λ_=>?_) λ_=>?_
 .cases b with
  |true=>exact WC.of<|gI (cN bM) rfl<|ur (k:=k+1) p0 p1 λw hw=>q (.set _ w) _ Kp.refl.new ⟨by unfold dB;omega,hw⟩|false=>exact WC.of<|gI (cN bM) rfl<|ur (k:=k+1) p0 p1 λw hw=>q (.set _ w) _ Kp.refl.new ⟨by unfold dB;omega,hw⟩
 have rest:WC (run pg (k+2) 40 [.str "load",.tup [.int (z / 20%8),.int (z / 160%8),.int (z / 1280%8)],.int (z / 10240),.bl b]) h R:=DE (k:=k+1) (kd:=aB) x0 g q;have a:WC (run pg (k+2) 40 [.str "store",.tup [.int (z / 20%8),.int (z / 160%8),.int (z / 1280%8)],.int (z / 10240),.bl b]) h R:=DE (k:=k+1) (kd:=aG) x0 g q;have f:WC (run pg (k+2) 41 [.int (z%20),.tup [.int (z / 20%8),.int (z / 160%8),.int (z / 1280%8)],.int (z / 10240),.tup [.int i,.int m],.bl b]) h R:=aNb (k:=k) x0 g w0 h0 hm p0 p1 q;have l:dB 5:=⟨by decide,by decide⟩;refine aE.dc (λe=>?_) λe=>?_
 .cases b with
  |true=>exact q (.way .rest _ _ _) _ Kp.refl ⟨by unfold dB;omega,g,l⟩|false=>exact aE.dt e<|q (.move _ _) _ Kp.refl ⟨x0,g⟩
 .exact aE.df e<|aE.dc (λ_=>rest) λ_=>aE.dc (λ_=>a) λ_=>f
theorem G7{c i:Int}(h0:0<=i)(h1:i<100)(q:mz h R):WC (run pg (k+2) 43 [.int c,.int i]) h R:=by
 refine aT rfl rfl<|pE (by omega) (by omega) λz e f=>?_;have a:dB (z%5):=by unfold dB;omega
 have b:dB 6:=⟨by decide,by decide⟩;have d:dB 7:=⟨by decide,by decide⟩;refine aE.dc (λ_=>q (.way .rest _ _ _) _ Kp.refl ⟨b,by unfold dB;omega,⟨by decide,by decide⟩⟩) λ_=>?_;exact aE.dc (λ_=>Kt (by omega) (by omega) (λv g=>q (.store _ v _) _ Kp.refl.new ⟨a,by unfold dB;omega⟩) bM) λ_=>aE.dc (λ_=>q (.store _ _ _) _ Kp.refl ⟨a,b⟩) λ_=>q (.load _ _ _) _ Kp.refl ⟨a,d⟩
end
section
variable {k:Nat}
def Tx(h:AH)(m:Nat)(rs:List aN):Prop:=h.ob m=aA (.lst aB<|rs.map aN.av)/\∀r∈rs,rK r
theorem aBf{b:Bool}(os:h.ob n=aA (.lst bb<|ns.map AV.int))(hn:n<h.nx)(hl:ns.length<=60)(q:∀h' m rs,Kp h h'->m<h'.nx->Tx h' m rs->rs.length=ns.length->R (.ref m) h'):WC (run pg (k+4) 44 [.ref n,.bl b]) h R:=by
 have big:sizeLine=16777216:=rX;refine aT rfl rfl<|WC.of<|jq<|IK<|Cj rfl ?_;refine⟨_,_,_,rfl,os,?_⟩;refine WG (bb:=bb) (xs:=ns.map AV.int) (λi ys Z h'=>Kp h h'/\(∃a c,Z=[a,c,aA (.bl b),aA (.ref n)])/\∃rs:List aN,ys=rs.map aN.av/\rs.length=i/\∀r∈rs,rK r) (by rw[aU,eZ];omega) ⟨Kp.refl,⟨_,_,rfl⟩,[],rfl,rfl,λr hr=>by cases hr⟩ (λi ys Z h' y=>y.1.get hn os) ?_ ?_
 .rintro i x ys Z h' hx ⟨kp,⟨a,c,rfl⟩,rs,rfl,rl,hr⟩
  obtain⟨y,hy,rfl⟩:=jR hx;have hi:=(List.getElem?_eq_some_iff.mp hy).1;refine aNw<|cF _<|WC.of<|kK (cN<|kp.get hn os)<|aIx (k:=k) (by omega) (by omega) (by omega) λr h3 k3 hr3=>⟨by rw[aU];omega,kp.trans k3,⟨_,_,rfl⟩,rs++[r],by rw[hJ];rfl,by rw[dO,rl];rfl,λr' hr'=>?_⟩;rcases List.mem_append.mp hr' with z|z
  .exact hr r' z
  .rw[List.mem_singleton.mp z];exact hr3
 rintro ys Z h1 ⟨k1,⟨a,c,rfl⟩,rs,rfl,rl,hr⟩
 have k2:Kp h (h1.new<|.lst aB<|rs.map aN.av):=k1.new;have o2:(h1.new<|.lst aB<|rs.map aN.av).ob h1.nx=aA (.lst aB<|rs.map aN.av):=bM;have l2:h1.nx<(h1.new<|.lst aB<|rs.map aN.av).nx:=dA _;have l3:=k1.nx;rw[aU]at rl;generalize h1.new (.lst aB<|rs.map aN.av)=h2 at k2 o2 l2 ⊢;generalize h1.nx=m at o2 l2 l3 ⊢;have s2:=k2.get hn os;cases b with
 |false=>exact q _ _ rs k2 l2 ⟨o2,hr⟩ rl|true=>
  refine WC.of<|kK (cN s2)<|aE.dc (λe0=>?_) λ_=>q _ _ rs k2 l2 ⟨o2,hr⟩ rl;refine WC.of<|gI (cN s2) (nj (by decide) (by omega))<|aC.of rfl<|aE.dc (λ_=>?_) λ_=>q _ _ rs k2 l2 ⟨o2,hr⟩ rl;refine WB.of ?_;with_reducible refine lO<|IK<|Cj rfl ?_
  refine⟨_,_,_,rfl,s2,?_⟩;refine t4 (xs:=ns.map AV.int) (λi Z h'=>(∃a c,Z=[aA (.ref n),aA (.bl aB),aA (.ref m),a,c])/\Kp h h'/\m<h'.nx/\∃rs:List aN,Tx h' m rs/\rs.length=ns.length) (by rw[aU,eZ];omega) ⟨⟨_,_,rfl⟩,k2,l2,rs,⟨o2,hr⟩,rl⟩ (λi Z h' y=>y.2.1.get hn os) ?_ ?_
  .rintro i x Z h' hx ⟨⟨a,c,rfl⟩,kp,lm,rs,⟨om,hr⟩,rl⟩
   obtain⟨y,hy,rfl⟩:=jR hx;have hi:=(List.getElem?_eq_some_iff.mp hy).1;refine iZ _<|gE _<|aE.dc (λ_=>?_) λ_=>⟨⟨_,_,rfl⟩,kp,lm,rs,⟨om,hr⟩,rl⟩;refine G7 (k:=k+1) (by omega) (by omega) λr h3 k3 hr3=>?_;refine Co (k3.get lm om) (zt (by rw[aU];omega)) ⟨⟨_,_,rfl⟩,(kp.trans k3).put l3,bC lm k3.nx,rs.set i r,⟨?_,λr' hr'=>?_⟩,by rw[pO];exact rl⟩
   .rw[bD,uy]
   .rcases Dp hr' with z|z
    .exact hr r' z
    .rw[z];exact hr3
  rintro Z h' ⟨⟨a,c,rfl⟩,kp,lm,rs,hR,rl⟩
  exact q _ _ rs kp lm hR rl
end
section
variable {k:Nat}
theorem uN(e:h.ob n=aA (.lst aB xs)):zU h (.ref n)=aB:=by simp only[zU,e]
def dQ(p:Int×Int):AV:=.tup [.int p.1,.int p.2]
def Tz(tb:YH):Prop:=tb.length=5/\∀p∈tb,1<=p.1/\1<=p.2/\p.2<=16
theorem aMg{c:Int}(q:∀h' tb,Kp h h'->Tz tb->R (.tup<|tb.map dQ) h'):WC (run pg (k+2) 47 [.int c,.int 16]) h R:=by
 have big:sizeLine=16777216:=rX;refine aT rfl rfl<|WB.of ?_;with_reducible refine lO<|Cg ?_
 refine⟨tq (by omega) (by omega),?_⟩;have k1:Kp h (h.new<|.lst aB []):=Kp.refl.new;have l:(h.new<|.lst aB []).ob h.nx=aA (.lst aB []):=bM;have l1:h.nx<(h.new<|.lst aB []).nx:=dA _;generalize em:h.nx=m at l l1 ⊢;refine Hn (λi f h'=>(∃a b,f=[aA (.int c),aA (.int 16),aA (.ref m),a,b])/\Kp h h'/\m<h'.nx/\∃tb:YH,h'.ob m=aA (.lst aB<|tb.map dQ)/\tb.length=i/\∀p∈tb,1<=p.1/\1<=p.2/\p.2<=16) (by rw[eZ];decide) ⟨⟨_,_,rfl⟩,k1,l1,[],l,rfl,λp g=>by cases g⟩ ?_ ?_
 .rintro i f h' hi ⟨⟨a,b,rfl⟩,kp,lm,tb,e,tl,ht⟩
  have app:∀p:Int×Int,1<=p.1/\1<=p.2/\p.2<=16->∀{Q:AV->AH->Prop},(∀d,(Kp h d/\m<d.nx/\∃tb:YH,d.ob m=aA (.lst aB<|tb.map dQ)/\tb.length=i+1/\∀p∈tb,1<=p.1/\1<=p.2/\p.2<=16)->Q .aH d)->WC (uF (.ref m)<|dQ p) h' Q:=λp g Q q=>by
   refine WC.of<|bc e (by rw[aU];omega)<|q _ ⟨kp.put (by omega),lm,tb++[p],by rw[bD,hJ];rfl,by rw[dO,tl];rfl,λp' j=>?_⟩;rcases List.mem_append.mp j with z|z
   .exact ht p' z
   .rw[List.mem_singleton.mp z];exact g
  refine iZ _<|gE _<|pE (by omega) (by omega) λz z0 z1=>aE.dc (λ_=>?_) λ_=>?_
  .exact aE.t (uN e)<|app (1+z / 4%8,1+z / 32%16) ⟨by omega,by omega,by omega⟩ λd y=>⟨⟨_,_,rfl⟩,y⟩
  .exact aE.t (uN e)<|app (1+z / 4%2,1+z / 8%4) ⟨by omega,by omega,by omega⟩ λd y=>⟨⟨_,_,rfl⟩,y⟩
 rintro f h' ⟨⟨a,b,rfl⟩,kp,lm,tb,e,tl,ht⟩
 exact WC.of<|xM (cN e)<|q _ tb kp ⟨tl,ht⟩
end
section
variable {k:Nat}
theorem IP(hw:kY ws)(w0:wd w):kY (ws++[w]):=λx a=>by
 rcases List.mem_append.mp a with z|z
 .exact hw x z
 .rw[List.mem_singleton.mp z];exact w0
noncomputable abbrev aKh:aQ:=bO (bO<|bO<|bO Uu)
theorem GP{c o v:Int}{b:Bool}{m room:Nat}{bx:Xj}(om:h.ob m=aA (.lst aB<|bx.map AV.int))(hm:m<h.nx)(r1:room<=80)(q:∀h' mem,Kp h h'->kY mem->mem.length=room->R (.tup [.int 0,.tup (bx.map AV.int),.tup (mem.map AV.int)]) h') :
  eG (run pg<|k+1) aKh [aA (.int c),aA (.int o),aA (.bl b),aA (.ref m),aA (.int v),aA (.int room),aD] h (λ_ h1=>R .aH h1) R (λ_ _=>False) λ_ _=>False:=by
 have big:sizeLine=16777216:=rX;refine WC.of ?_;with_reducible refine jq ?_
 with_reducible refine Cg ?_
 refine⟨tq (by omega) (by omega),?_⟩;refine Wd (λi d e h'=>h'=h/\(∃a,e=[a,aA (.int o)])/\∃ws:Xj,d=ws.map AV.int/\ws.length=i/\kY ws) (by rw[eZ];omega) ⟨rfl,⟨_,rfl⟩,[],rfl,rfl,nofun⟩ ?_ ?_
 .rintro i d e h' l ⟨rfl,⟨a,rfl⟩,ws,rfl,wl,hw⟩
  refine Bw<|cF _<|pE (by omega) (by omega) λz g j=>ur g j λw f=>⟨by rw[aU];omega,rfl,⟨_,rfl⟩,ws++[w],by rw[hJ];rfl,by rw[dO,wl];rfl,IP hw f⟩
 rintro d e h' ⟨rfl,⟨a,rfl⟩,ws,rfl,wl,hw⟩
 exact WC.of<|xM (cN<|(Kp.refl.new (a:=h')).get hm om)<|WC.of<|xM (cN bM)<|q _ ws Kp.refl.new hw (by rw[wl];omega)
theorem aKi{c o:Int}{b:Bool}(q:∀h' bx mem,Kp h h'->kY bx->bx.length=8->kY mem->0<mem.length->mem.length<=80->R (.tup [.int 0,.tup (bx.map AV.int),.tup (mem.map AV.int)]) h'):WC (run pg (k+2) 45 [.int c,.int o,.bl b]) h R:=by
 have big:sizeLine=16777216:=rX;refine aT rfl rfl<|WC.of<|jq<|Cg ?_;refine⟨tq (by omega) (by omega),?_⟩;refine Wd (λi y A h'=>h'=h/\(∃a,A=[a,aA (.int c)])/\∃ws:Xj,y=ws.map AV.int/\ws.length=i/\kY ws) (by rw[eZ];decide) ⟨rfl,⟨_,rfl⟩,[],rfl,rfl,λw hw=>by cases hw⟩ ?_ ?_
 .rintro i y A h' E ⟨rfl,⟨a,rfl⟩,ws,rfl,wl,hw⟩
  have E:i<8:=E;refine Bw<|cF _<|pE (k:=k) (by omega) (by omega) λz p s=>ur (k:=k) p s λw d=>⟨by rw[aU];omega,rfl,⟨_,rfl⟩,ws++[w],by rw[hJ];rfl,by rw[dO,wl];rfl,IP hw d⟩
 rintro y A h' ⟨rfl,⟨a,rfl⟩,ws,rfl,wl,hw⟩
 have wl:ws.length=8:=wl;have k1:Kp h' (h'.new<|.lst aB<|ws.map AV.int):=Kp.refl.new;have B:(h'.new<|.lst aB<|ws.map AV.int).ob h'.nx=aA (.lst aB<|ws.map AV.int):=bM;have l1:h'.nx<(h'.new<|.lst aB<|ws.map AV.int).nx:=dA _;generalize h'.new (.lst aB<|ws.map AV.int)=t at k1 B l1 ⊢;generalize h'.nx=J at B l1 ⊢;refine pE (k:=k) (by decide) (by decide) λz p s=>?_;have k2:Kp h' (t.new<|.lst aB [.int 16,.int 64]):=k1.new;have u:=(Kp.refl.new (a:=t) (o:=.lst aB [.int 16,.int 64])).get l1 B;have l2:J<(t.new<|.lst aB [.int 16,.int 64]).nx:=kN l1;refine Kt (by split<;>decide) (by split<;>decide) (λv N=>?_) bM;generalize t.new (.lst aB [.int 16,.int 64])=n at k2 u l2 ⊢;refine pE (k:=k) (by decide) (by decide) λz p s=>aE.dt (by omega) ?_;cases b with
 |false=>have C:0<=z%v:=mF _ (by omega);have K:z%v<v:=mV _ (by omega);obtain⟨r,hr⟩:=bo C;have:=GP (k:=k) (c:=c) (o:=o) (v:=v) (b:=aG) (R:=R) u l2 (room:=1+r) (by omega) λD mem kp hm hl=>q _ ws mem (k2.trans kp) hw wl hm (by omega) (by omega);rw[show((1+r:Nat):Int)=1+z%v by omega]at this;exact this
 |true=>
  obtain⟨e,a1,a2,f,g,j,l,m,rfl⟩:=HV wl;refine pE (k:=k) (by decide) (by decide) λz p s=>aE.dt (by omega) ?_;refine ju<|WC.of<|Cd u ?_;have x:=(Kp.refl.new (a:=n) (o:=.lst aB (iR ([e,a1,a2,f,g,j,l,m].map AV.int) aD<|aA 5))).get l2 u;have F:(n.new<|.lst aB<|iR ([e,a1,a2,f,g,j,l,m].map AV.int) aD<|aA 5).ob n.nx=aA (.lst aB [.int e,.int a1,.int a2,.int f,.int g]):=bM;have G:Kp h' (n.new<|.lst aB<|iR ([e,a1,a2,f,g,j,l,m].map AV.int) aD<|aA 5):=k2.new;have H:n.nx<(n.new<|.lst aB<|iR ([e,a1,a2,f,g,j,l,m].map AV.int) aD<|aA 5).nx:=dA _;generalize n.new (.lst aB<|iR ([e,a1,a2,f,g,j,l,m].map AV.int) aD<|aA 5)=I at x F G H ⊢;refine WC.of<|gI (cN x) rfl<|WC.of<|gI (cN x) rfl<|WC.of<|gI (cN x) rfl ?_;refine WC.of<|Oj ((Kp.refl.new (a:=I)).get H F) bM (by simp;omega) ?_;have C:0<=z%(v-6):=mF _ (by omega);have K:z%(v-6)<v-6:=mV _ (by omega);obtain⟨r,hr⟩:=bo C;have L:Kp h' ((I.new<|.lst aB [.int (1+j%4),.int (l%4),.int (m%4)]).new (.lst aB<|[.int e,.int a1,.int a2,.int f,.int g]++[.int (1+j%4),.int (l%4),.int (m%4)])):=G.new.new;have M:kY [e,a1,a2,f,g,1+j%4,l%4,m%4]:=λw d=>by
   simp only[kL,kM,or_false]at d;rcases d with rfl|rfl|rfl|rfl|rfl|rfl|rfl|rfl
   .exact hw _ (by simp)
   .exact hw _ (by simp)
   .exact hw _ (by simp)
   .exact hw _ (by simp)
   .exact hw _ (by simp)
   .omega
   .omega
   .omega
  have:=GP (k:=k) (c:=c) (o:=o) (v:=v) (b:=aB) (R:=R) bM (dA _) (room:=7+r) (by omega) λD mem kp hm hl=>q _ _ mem (L.trans kp) M rfl hm (by omega) (by omega);rw[show((7+r:Nat):Int)=7+z%(v-6) by omega]at this;exact this
end
theorem fh{bx:Xj}(hw:kY bx){i:Int}:wd (cell bx i):=by
 unfold cell;rw[tH];cases e:bx[i.toNat]? with
 |none=>exact⟨by decide,by decide⟩|some v=>exact hw v<|bX e
theorem Ue(a0:0<=a)(b0:0<=b):0<=rP a b/\rP a b<=a/\rP a b<=b:=by have e1:rP a b=((a.toNat &&& b.toNat:Nat):Int):=PyProof.Rows.bitAnd_pp a0 b0;have l1:a.toNat &&& b.toNat<=a.toNat:=Nat.and_le_left;have l2:a.toNat &&& b.toNat<=b.toNat:=Nat.and_le_right;omega
theorem CN:∀(n:Nat) {x y:Int},0<=x->0<=y->x<2 ^ n->y<2 ^ n->x+y-rP x y<2 ^ n
 |0,x,y,x0,a,b,c=>by have e:2 ^ 0=1:=rfl;have:=Ue x0 a;omega
 |n+1,x,y,x0,a,b,c=>by
  have e:(2:Int) ^ (n+1)=2*2 ^ n:=by omega
  have f:=CN n (x:=x / 2) (y:=y / 2) (by omega) (by omega) (by omega) (by omega);have d:=W.kbt_halves x y;split at d<;>omega
theorem aPo{w:eK}(a0:0<=a)(a1:a<18446744073709551616)(b0:0<=b)(b1:b<18446744073709551616)(hz:¬(w.sr=aB/\b=0)):0<=w.wk a b/\w.wk a b<18446744073709551616:=by
 have f:=PyProof.Rows.bitOr_and a b;have g:=bitXor_and a b;have l1:=Ue a0 b0;have h:2 ^ 64=18446744073709551616:=rfl;have l2:=CN 64 a0 b0 (a1) (b1);have hb:w.sr=aB->0<b:=λe=>(Pq b0).resolve_right λz=>hz ⟨e,z.symm⟩;have c:∀d:Int,0<d->0<=a / d/\a / d<18446744073709551616:=λd hd=>⟨Pn a0 (Int.le_of_lt hd),Int.lt_of_le_of_lt (Int.ediv_le_self d a0) a1⟩;cases w with
 |sum=>exact⟨mF _ (by decide),mV _ (by decide)⟩|less=>exact⟨mF _ (by decide),mV _ (by decide)⟩|times=>exact⟨mF _ (by decide),mV _ (by decide)⟩|share=>exact c b<|hb rfl|rest=>exact⟨mF _ (by have:=hb rfl;omega),bu (mV _<|hb rfl) b1⟩|both=>show 0<=rP a b/\rP a b<_;omega|ue=>show 0<=jz a b/\jz a b<_;omega|odd=>show 0<=kb a b/\kb a b<_;omega|up=>exact⟨mF _ (by decide),mV _ (by decide)⟩|down=>exact c _<|JP (by decide)|below=>show 0<=(if a<b then 1 else 0)/\(if a<b then 1 else 0)<_;split<;>omega|same=>show 0<=(if a=b then 1 else 0)/\(if a=b then 1 else 0)<_;split<;>omega
structure Sd where
 pc:Int
 bx:Xj
 mem:Xj
def Sd.av(s:Sd):AV:=.tup [.int s.pc,.tup (s.bx.map AV.int),.tup (s.mem.map AV.int)]
structure Sd.ok(s:Sd):Prop where
 pc:0<=s.pc
 bl:s.bx.length=8
 bw:kY s.bx
 mw:kY s.mem
theorem Ov{v:Int}(hw:kY ws)(hv:wd v):kY (ws.set i v):=λx a=>by
 rcases Dp a with z|z
 .exact hw x z
 .rw[z];exact hv
def mT(tb:YH)(r:aN):Int:=(tb.getD r.eA.toNat (1,1)).2
variable {sd':Sd}
section
abbrev Dc(β:Type):=List (Int×β)
variable {β:Type}{e:β->AV}{l:Dc β}{v:β}
def dE(e:β->AV)(l:Dc β):List (aP×AV):=l.map λp=>(.inl p.1,e p.2)
def aY(l:Dc β)(x:Int):Option β:=(l.find? λp=>decide (p.1=x)).map (·.2)
def eU(l:Dc β)(x:Int)(v:β):Dc β:=if(l.any λp=>decide (p.1=x))=aB then l.map (λp=>if p.1=x then(p.1,v) else p) else l++[(x,v)]
def nA(l:Dc β)(x:Int):Dc β:=l.filter λp=>decide (p.1≠x)
theorem zc:((nR a:aP)=nR b)=(a=b):=propext ⟨MY,congrArg _⟩
theorem iY:bR (dE e l) (.inl x)=(aY l x).map e:=by unfold bR aY dE;rw[List.find?_map,MB,MB];simp only[ke,zc]
theorem xC:jT (dE e l) (.inl x) (e v)=dE e (eU l x v):=by
 unfold jT eU dE;rw[JV];simp only[ke,zc];split
 .rw[iC,iC];refine Dl λp _=>?_;by_cases a:p.1=x
  .simp only[ke,a,if_true]
  .simp only[ke,if_neg a,if_neg (show¬(nR p.1:aP)=nR x by rw[zc];exact a)]
 .rw[hJ];rfl
theorem xx:tY (dE e l) (.inl x)=dE e (nA l x):=by unfold tY nA dE;rw[KD];simp only[ke,ne_eq,zc]
theorem mZ:(dE e l).length=l.length:=aU ..
theorem DK:(eU l x v).length<=l.length+1:=by unfold eU;split<;>simp
theorem Au(h:aY l x=aD):eU l x v=l++[(x,v)]:=by unfold eU;rw[if_neg];intro z;obtain⟨p,a,e⟩:=List.any_eq_true.mp z;exact List.find?_eq_none.mp (Option.map_eq_none_iff.mp h) p a e
theorem rj(h:aY l x=aA v):(x,v)∈l:=by obtain⟨p,a,rfl⟩:=Option.map_eq_some_iff.mp h;have b:=Px a;simp only[decide_eq_true_eq]at b;subst b;exact(cf a)
theorem nC(nd:(l.map (·.1)).Nodup)(h:(x,v)∈l):aY l x=aA v:=by
 unfold aY;induction l with
 |nil=>cases h|cons p l a=>
  rw[jC,List.nodup_cons]at nd;rw[nP];rcases List.mem_cons.mp h with rfl|h'
  .simp
  .have:decide (p.1=x)=aG:=decide_eq_false λz=>nd.1 (List.mem_map.mpr ⟨_,h',z.symm⟩);rw[this];exact a nd.2 h'
theorem gb{d c:Ex}{imp:Xt}{rest:List (Option AV)}{f:Int×β->Bool}(hd:aL F d Z h = .ok (.ref n) h)(ho:h.ob n=aA (.aR<|dE e l))(hn:n<h.nx)(hl:l.length<1000)(hs:mP imp Z=aD::rest)
  (hc:∀p∈l,wT F c (aA (.int p.1)::rest) (h.put n<|.dD<|dE e l) λb h'=>b=f p/\h'=h.put n (.dD<|dE e l))
  (q:V1 (.ref h.nx) (h.new<|.lst aB<|(l.filter f).map λp=>AV.int p.1)):WC (aL F (.kJ d<|.wL imp (.nm 0) (.aR d) c<|.var 0) Z) h V1:=by
 have big:=kG;refine WC.of<|aQn hd ho hn ?_;rw[hs];refine Wa (λj a Z h'=>(∃v0,Z=v0::rest)/\a=(((l.take j).filter f).map λp=>AV.int p.1)/\h'=h.put n (.dD<|dE e l)) (by rw[aU,mZ,eZ];omega) ⟨⟨aD,rfl⟩,rfl,rfl⟩ (λj x a Z h' g y=>?_)<|λa Z h' y=>?_
 .obtain⟨⟨v0,rfl⟩,rfl,rfl⟩:=y;unfold dE at g;rw[iC,fH]at g;obtain⟨p,hr,rfl⟩:=Option.map_eq_some_iff.mp g;have i:l.take (j+1)=l.take j++[p]:=by rw[vO,hr];rfl
  refine(oQ c<|hc p<|bX hr).mono λb k z=>?_;obtain⟨rfl,rfl⟩:=z;split
  .rename_i hb;refine⟨?_,⟨_,rfl⟩,?_,rfl⟩
   .have m:((l.take j).filter f).length<=(l.take j).length:=pN _ _;have o:(l.take j).length<=l.length:=by rw[mJ];omega
    rw[aU];omega
   .rw[i,bz,hJ,jA,if_pos hb];rfl
  .rename_i hb;refine⟨⟨_,rfl⟩,?_,rfl⟩;rw[i,bz,jA,if_neg hb];simp
 .obtain⟨⟨v0,rfl⟩,rfl,rfl⟩:=y;refine⟨rfl,?_⟩;rw[aU,mZ,tJ];exact q
theorem XI{d c:Ex}{imp:Xt}{rest:List (Option AV)}{f:Int×β->AV}(hd:aL F d Z h = .ok (.ref n) h)(ho:h.ob n=aA (.aR<|dE e l))(hn:n<h.nx)(hl:l.length<1000)(hs:mP imp Z=aD::rest)
  (hc:∀p∈l,wE F c (aA (.int p.1)::rest) (h.put n<|.dD<|dE e l) λv h'=>v=f p/\h'=h.put n (.dD<|dE e l))
  (q:V1 (.ref h.nx) (h.new<|.lst aB<|l.map f)):WC (aL F (.kJ d<|.wK imp (.nm 0) (.aR d) c) Z) h V1:=by
 have big:=kG;refine WC.of<|aQm hd ho hn ?_;rw[hs];refine WE (λj a Z h'=>(∃v0,Z=v0::rest)/\a=(l.take j).map f/\h'=h.put n (.dD<|dE e l)) (by rw[aU,mZ,eZ];omega) ⟨⟨aD,rfl⟩,rfl,rfl⟩ (λj x a Z h' g y=>?_)<|λa Z h' y=>?_
 .obtain⟨⟨v0,rfl⟩,rfl,rfl⟩:=y;unfold dE at g;rw[iC,fH]at g;obtain⟨p,hr,rfl⟩:=Option.map_eq_some_iff.mp g;refine(cF c<|hc p<|bX hr).mono λb i z=>?_;obtain⟨rfl,rfl⟩:=z;refine⟨?_,⟨_,rfl⟩,?_,rfl⟩
  .rw[aU,mJ];omega
  .rw[vO,hr,hJ];rfl
 .obtain⟨⟨v0,rfl⟩,rfl,rfl⟩:=y;refine⟨rfl,?_⟩;rw[aU,mZ,tJ];exact q
end
variable {bg bg':Dc (Int×Hc)}{dW gon' sto':Dc Int}{kf:Dc Nat}{kp':Dc (Hc×Hc)}
section
variable {β:Type}{e:β->AV}{l:Dc β}
theorem rH{a b:Nat}{x y:bG}(e1:h.ob a=aA x)(e2:h.ob b=aA y)(n:x≠y):a≠b:=λz=>n (by rw[z,e2]at e1;exact(dR e1).symm)
theorem Kx.get(g:Kx S h h'){o:Option bG}(hn:n<h.nx)(ns:n∉S)(e:h.ob n=o):h'.ob n=o:=(g.ob n hn ns).trans e
theorem Kx.kp{a b c:AH}(x:Kp a b)(y:Kx S b c):Kx S a c:=(Kx.of x).trans y
theorem Kx.new{S:Xp}{a b:AH}{o:bG}(x:Kx S a b):Kx S a (b.new o):=x.trans (Kx.of Kp.refl.new)
theorem XC{t:Int}:nA (l.filter λp=>!ts.contains p.1) t=l.filter λp=>!(ts++[t]).contains p.1:=by unfold nA;rw[List.filter_filter];refine Pw λp _=>?_;by_cases z:p.1=t<;>simp[z]
theorem J6{f:Int->Bool}{t:Int}(hf:f t=aB):aY (l.filter λp=>f p.1) t=aY l t:=by
 unfold aY;induction l with
 |nil=>rfl|cons p l a=>
  rw[jA];by_cases z:p.1=t
  .rw[if_pos (z▸hf)];simp[z]
  .have:decide (p.1=t)=aG:=decide_eq_false z;split
   .rw[nP,nP,this];exact a
   .rw[nP,this];exact a
theorem Ar{cs:Xp}{f:cY}{fs:List (cY×AV)}{a c:Nat}(ha:Z[0]?=aA (aA<|.ref a))(hj:Z[j]?=aA (aA<|.ref n))(i0:i≠0)(il:i<Z.length)
  (o:h.ob a=aA (.ins c fs))(hc:cs.contains c=aB)(hf:fs.lookup f=aA (.ref d))(od:h.ob d=aA (.aR<|dE e l))(on:h.ob n=aA (.lst aB<|ts.map .int))(hd:d<h.nx)
  (ht:∀t∈ts,(aY l t).isSome)(nd:ts.Nodup)(hl:ts.length<1000)
  (q:∀o' h',Kx [d] h h'->h'.nx=h.nx->h'.ob d=aA (.aR<|dE e<|l.filter λp=>!ts.contains p.1)->N (Z.set i o') h') :
  WB (eO F (.uD (.nm i) (.seq<|.var j)<|.cons (.expr<|.dm .pop (.lH cs f<|.var 0)<|.cons (.var i) .nil) .nil) Z) h N R B C:=by
 have ad:=rH o od (nofun);have r:=rH on od (nofun);refine WB.of<|lO<|mU<|aC.of hj<|nO on ?_;refine qN (λk b h'=>(∃o',b=Z.set i o')/\Kx [d] h h'/\h'.nx=h.nx/\h'.ob d=aA (.aR<|dE e<|l.filter λp=>!(ts.take k).contains p.1)/\h'.ob n=aA (.lst aB<|ts.map .int)/\h'.ob a=aA (.ins c fs)) (by rw[aU,eZ];omega) ?_ (λ_ _ _ y=>y.2.2.2.2.1) (λk x b h' D y=>?_)<|λb h' y=>?_
 .refine⟨⟨Z[i],by simp⟩,Kx.refl,rfl,?_,on,o⟩;rw[od,List.take_zero,show(λp:Int×β=>!([]:Xj).contains p.1)=λ_=>aB from rfl,List.filter_eq_self.mpr λ_ _=>rfl]
 .obtain⟨⟨o',rfl⟩,kx,nx,g,A,s⟩:=y;obtain⟨t,u,rfl⟩:=jR D;have tk:t∉ts.take k:=by rw[<- (List.getElem?_eq_some_iff.mp u).2];intro z;obtain⟨m,hm,e⟩:=Qc z;rw[mJ]at hm;rw[KU]at e;have:=(Dj nd).mp e;omega
  have E:(aY (l.filter λp=>!(ts.take k).contains p.1) t)=aY l t:=J6 (f:=λx=>!(ts.take k).contains x) (by simp[tk]);have v:=ht t (bX u);rw[<- E]at v;obtain⟨w,hw⟩:=Option.isSome_iff_exists.mp v;have s0:((Z.set i o').set i (aA<|.int t))[0]?=aA (aA<|.ref a):=by rw[kZ i0,kZ i0];exact ha
  have s1:((Z.set i o').set i (aA<|.int t))[i]?=aA (aA<|.int t):=by rw[mI (by simpa)]
  refine iZ _ ?_;refine gE _ ?_;refine aC.of s0<|aC.of rfl ?_;refine aC.of s<|aE.t hc<|aC.of hf ?_;refine aE.t (sH g) ?_;refine aC.of s1<|aC.of rfl ?_;refine(WC.of<|Om g rfl (by rw[iY,hw];rfl) ?_);rw[xx,XC];refine⟨⟨_,by rw[Qq]⟩,kx.put (by simp),nx,?_,(aX r).trans A,(aX ad).trans s⟩;rw[bD,vO,u];rfl
 .obtain⟨⟨o',rfl⟩,kx,nx,g,A,s⟩:=y;rw[aU,tJ]at g;exact q _ _ kx nx g
end
section
variable {k:Nat}{a:Nat}{wk:Dc (Int×Int)}
def fe(tb:YH)(d:Nat):List (cY×AV):=[("table",.tup (tb.map dQ)),("working",.ref d)]
structure pQ(h:AH)(a d:Nat)(tb:YH)(wk:Dc (Int×Int)):Prop where
 o:h.ob a=aA (.ins 15<|fe tb d)
 od:h.ob d=aA (.aR<|dE dQ wk)
 ha:a<h.nx
 hd:d<h.nx
 hl:wk.length<1000
 nd:(wk.map (·.1)).Nodup
theorem pQ.Ou(B:pQ h a d tb wk)(e:Z[i]?=aA (aA<|.ref a)):aL F (.lH [15] "working"<|.var i) Z h = .ok (.ref d) h:=gc (jj e) B.o rfl rfl
theorem pQ.oz(B:pQ h a d tb wk):(h.put d o).ob a=aA (.ins 15<|fe tb d):=(aX<|rH B.o B.od<|nofun).trans B.o
theorem pQ.at{p:Int×Int×Int}(B:pQ h a d tb wk)(hp:p∈wk):bR (dE dQ wk) (.inl p.1)=aA (dQ p.2):=by rw[iY,nC B.nd hp];rfl
def oB(wk:Dc (Int×Int))(g:Int):Int:=(wk.filter λp=>decide (p.2.1=g)).length
theorem Yl{g:Int}{t:Int×Int}(B:pQ h a d tb wk)(hg:cM (tb.map dQ) g=aA (dQ t))(q:∀h',Kp h h'->R (.int<|t.1-oB wk g) h'):WC (run pg (k+1) 84 [.ref a,.int g]) h R:=by
 refine aT rfl rfl<|gb (f:=λp=>decide (p.2.1=g)) (B.Ou rfl) B.od B.hd B.hl rfl (λp b=>?_) ?_
 .exact aC.of B.oz<|WC.of<|Ca bD rfl (B.at b) ⟨rfl,rfl⟩
 .refine aC.of (Kp.refl.new.get B.ha B.o)<|aC.of hg ?_;refine WC.of<|kK (cN bM) ?_;rw[aU];exact q _ Kp.refl.new
theorem aKn{t g:Int}{c:Int×Int}(B:pQ h a d tb wk)(hg:cM (tb.map dQ) g=aA (dQ c))(hn:aY wk t=aD)(hf:oB wk g<c.1)(q:∀v h',Kx [d] h h'->h'.ob d=aA (.aR<|dE dQ<|wk++[(t,g,now+c.2)])->R v h'):WC (run pg (k+2) 85 [.ref a,.int t,.int g,.int now]) h R:=by refine aT rfl rfl<|aC.of B.o<|WC.of<|bh B.od rfl ?_;rw[iY,hn];refine aC.of rfl<|aC.of B.o<|Yl B hg λe k1=>aE.df (by omega) ?_;have b:=k1.get B.ha B.o;refine aC.of b<|aC.of hg<|aC.of b<|xN (k1.get B.hd B.od) rfl (by have:=B.hl;have:=kG;rw[mZ];omega) ?_;refine q _ _ ((Kx.of k1).put (by simp)) ?_;rw[bD,show AV.tup [.int g,.int (now+c.2)]=dQ (g,now+c.2) from rfl,xC,Au hn]
def qL(wk:Dc (Int×Int))(now:Int):Xj:=(wk.filter λp=>decide (p.2.2<=now)).map (·.1)
theorem yd{β:Type}{wk:Dc β}{f:Int×β->Bool}(nd:(wk.map (·.1)).Nodup)(ht:∀x,x∈ts↔x∈(wk.filter f).map (·.1)):(wk.filter λp=>!ts.contains p.1)=wk.filter λp=>!f p:=by
 refine Pw λp b=>?_;congr 1
 rw[jx,List.contains_iff_mem,ht,List.mem_map];constructor
 .rintro ⟨d,a,e⟩
  obtain⟨a,g⟩:=List.mem_filter.mp a;have c:=nC nd a;rw[e,nC nd b]at c;have:d=p:=Qw e (dR c).symm;rw[<- this];exact g
 .exact λz=>⟨p,List.mem_filter.mpr ⟨b,z⟩,rfl⟩
theorem yc{β:Type}{wk:Dc β}{f:Int×β->Bool}(nd:(wk.map (·.1)).Nodup):∀t∈(wk.filter f).map (·.1),(aY wk t).isSome:=λt ht=>by obtain⟨p,a,rfl⟩:=List.mem_map.mp ht;rw[nC nd (List.mem_filter.mp a).1];rfl
theorem oC{β:Type}{l:Dc β}{f:Int×β->Bool}(nd:(l.map (·.1)).Nodup):((l.filter f).map (·.1)).Nodup:=vN (List.filter_sublist.map _) nd
theorem Ng(r:Bool)(ns:Xj):(jW r ns).Perm ns:=LD ..
theorem XJ(B:pQ h a d tb wk)(hl:wk.length<64)(q:∀n h',Kx [d] h h'->h'.ob d=aA (.aR<|dE dQ<|wk.filter λp=>!decide (p.2.2<=now))->h.nx<=n->n<h'.nx->h'.ob n=aA (.lst aB<|(jW aG<|qL wk now).map .int)->R (.ref n) h'):WC (run pg (k+1) 86 [.ref a,.int now]) h R:=by
 have pm:=Ng aG (qL wk now);refine aT rfl rfl<|gb (f:=λp=>decide (p.2.2<=now)) (B.Ou rfl) B.od B.hd B.hl rfl (λp c=>?_) ?_
 .exact aC.of B.oz<|WC.of<|Ca bD rfl (B.at c) ⟨rfl,rfl⟩
 have lf:(qL wk now).length<=wk.length:=by unfold qL;rw[aU];exact pN ..
 refine WC.of<|aPb (ns:=qL wk now) (by rw[bM];unfold qL;rw[iC];rfl) (by omega) ?_;refine Ar rfl rfl (by decide) (show 3<4 by decide) (Kp.refl.new.new.get B.ha B.o) rfl rfl (Kp.refl.new.new.get B.hd B.od) bM (kN<|kN B.hd) (λt ht=>yc B.nd t (pm.mem_iff.mp ht)) (pm.nodup_iff.mpr<|oC B.nd) (by rw[pm.length_eq];omega) λe h' kx nx b=>?_;rw[yd B.nd λx=>pm.mem_iff]at b;exact q (h.nx+1) h' (Kx.kp Kp.refl.new.new kx) b (jL _) (by rw[nx];exact dA _)<|kx.get (dA _) (by simp;have:=B.hd;omega) bM
theorem VA{t:Int}(B:pQ h a d tb wk)(q:∀v h',Kx [d] h h'->h'.ob d=aA (.aR<|dE dQ<|wk.filter λp=>!decide (t<=p.1))->R v h'):WC (run pg (k+1) 88 [.ref a,.int t]) h R:=by refine aT rfl rfl<|gb (B.Ou rfl) B.od B.hd B.hl rfl (λp c=>⟨rfl,rfl⟩) ?_;refine Ar rfl rfl (by decide) (show 3<4 by decide) (Kp.refl.new.get B.ha B.o) rfl rfl (Kp.refl.new.get B.hd B.od) (by rw[bM,iC];rfl) (kN B.hd) (yc B.nd) (oC B.nd) (by rw[aU];exact uz (pN ..) B.hl) λe h' kx nx b=>?_;rw[yd B.nd λx=>Pm]at b;refine WC.of<|kK (cN<|kx.get (dA _) (by simp;have:=B.hd;omega) bM)<|q _ h' (Kx.kp Kp.refl.new kx) b
end
section
variable {k:Nat}{a b:Nat}{kp:Dc (Hc×Hc)}
def lJ(p:Hc×Hc):AV:=.tup [oI p.1,oI p.2]
def lT(p:Int×Hc):AV:=.tup [.int p.1,oI p.2]
structure lE(h:AH)(a d b:Nat)(kp:Dc (Hc×Hc))(bg:Dc (Int×Hc)):Prop where
 o:h.ob a=aA (.ins 17 [("kept",.ref d),("begun",.ref b)])
 od:h.ob d=aA (.aR<|dE lJ kp)
 ob:h.ob b=aA (.aR<|dE lT bg)
 ha:a<h.nx
 hd:d<h.nx
 hb:b<h.nx
 ne:d≠b
 lk:kp.length<64
 lb:bg.length<64
 nk:(kp.map (·.1)).Pairwise (·<·)
 nb:(bg.map (·.1)).Nodup
theorem lE.nd(S:lE h a d b kp bg):(kp.map (·.1)).Nodup:=S.nk.imp λh=>by omega
theorem lE.oz(S:lE h a d b kp bg):(h.put d o).ob a=aA (.ins 17 [("kept",.ref d),("begun",.ref b)]):=(aX<|rH S.o S.od<|nofun).trans S.o
theorem aKq{t:Int}(S:lE h a d b kp bg)(hb:aY bg t=aD)(hk:∀p∈kp,p.1<t)(q:∀v h',Kx [d] h h'->h'.ob d=aA (.aR<|dE lJ<|kp++[(t,aD,aD)])->R v h'):WC (run pg (k+1) 95 [.ref a,.int t]) h R:=by
 have hn:aY kp t=aD:=Option.eq_none_iff_forall_ne_some.mpr λv e=>by have:=hk _ (rj e);omega
 refine aT rfl rfl<|aC.of S.o<|WC.of<|bh S.ob rfl ?_;rw[iY,hb];refine aC.of rfl<|XI (gc (jj rfl) S.o rfl rfl) S.od S.hd (by have:=S.lk;omega) rfl (λp c=>⟨rfl,rfl⟩) ?_;refine WC.of<|aOd (by rw[bM,iC];rfl) ?_;rw[show(kp.map λp=>decide (t<=p.1)).any id=aG from by
  rw[JV,JT];intro p c;have:=hk p c;simp;omega]
 have k1:Kp h (h.new<|.lst aB<|kp.map λp=>AV.bl (decide<|t<=p.1)):=Kp.refl.new;refine aC.of (k1.get S.ha S.o)<|xN (k1.get S.hd S.od) rfl (by have:=S.lk;have:=kG;rw[mZ];omega) ?_;refine q _ _ ((Kx.of k1).put (by simp)) ?_;rw[bD,show AV.tup [.aH,.aH]=lJ (aD,aD) from rfl,xC,Au hn]
theorem aPq{t:Int}{p:Hc}(S:lE h a d b kp bg)(hk:aY kp t=aA (p,aD))(q:∀v,R v (h.put d<|.aR<|dE lJ<|eU kp t (p,aA w))):WC (run pg (k+1) 98 [.ref a,.int t,.int w]) h R:=by refine aT rfl rfl<|aC.of S.o<|aE.t rfl<|aC.of rfl<|aE.t (sH S.od)<|WC.of<|Ol S.od rfl ?_;rw[iY,hk];refine aC.of S.o<|xN S.od rfl (by have:=S.lk;have:=kG;rw[mZ];omega) ?_;rw[show AV.tup [oI p,.int w]=lJ (p,aA w) from rfl,xC];exact q _
theorem J7{t:Int}{g:Hc}(S:lE h a d b kp bg)(hb:aY bg t=aD)(hk:aY kp t=aD)(q:∀v,R v (h.put b<|.aR<|dE lT<|bg++[(t,p,g)])):WC (run pg (k+1) 100 [.ref a,.int t,.int p,oI g]) h R:=by refine aT rfl rfl<|aC.of S.o<|WC.of<|bh S.ob rfl ?_;rw[iY,hb];refine aC.of rfl<|aC.of S.o<|WC.of<|bh S.od rfl ?_;rw[iY,hk];refine aC.of rfl<|aC.of S.o<|xN S.ob rfl (by have:=S.lb;have:=kG;rw[mZ];omega) ?_;rw[show AV.tup [.int p,oI g]=lT (p,g) from rfl,xC,Au hb];exact q _
theorem J0{t:Int}{v:Hc×Hc}(S:lE h a d b kp bg)(hk:aY kp t=aA v)(q:∀v,R v (h.put d<|.aR<|dE lJ<|nA kp t)):WC (run pg (k+1) 101 [.ref a,.int t]) h R:=by refine aT rfl rfl<|aC.of S.o<|WC.of<|bh S.od rfl ?_;rw[iY,hk];refine aC.of rfl<|aC.of S.o<|aE.t rfl<|aC.of rfl<|aE.t (sH S.od)<|WC.of<|Om S.od rfl (by rw[iY,hk];rfl) ?_;rw[xx];exact q _
theorem I9{t:Int}{v:Int×Hc}(S:lE h a d b kp bg)(hk:aY kp t=aD)(hb:aY bg t=aA v)(q:∀v,R v (h.put b<|.aR<|dE lT<|nA bg t)):WC (run pg (k+1) 101 [.ref a,.int t]) h R:=by refine aT rfl rfl<|aC.of S.o<|WC.of<|bh S.od rfl ?_;rw[iY,hk];refine aC.of rfl<|aC.of S.o<|WC.of<|bh S.ob rfl ?_;rw[iY,hb];refine aC.of rfl<|aC.of S.o<|aE.t rfl<|aC.of rfl<|aE.t (sH S.ob)<|WC.of<|Om S.ob rfl (by rw[iY,hb];rfl) ?_;rw[xx];exact q _
end
section
variable {k:Nat}{a b:Nat}{kp:Dc (Hc×Hc)}
theorem Kx.putN{x y:AH}(g:Kx S x y)(hn:x.nx<=n):Kx S x (y.put n o):=⟨g.nx,λm hm a=>(aX<|cA<|bC hm hn).trans (g.ob m hm a)⟩
theorem Kx.Nv{x y:AH}(g:Kx [n] x y)(e:x.ob n=aA o):Kp x (y.put n o):=⟨g.nx,λm hm=>by
 by_cases z:m=n
 .rw[z,bD,e]
 .exact(aX z).trans (g.ob m hm (by simpa))⟩
def mL(t p:Int)(q:Int×Int×Hc):Bool:=decide (t<q.1)&&(decide (q.2.1=p)&&match q.2.2 with|none=>aB|some g=>decide (g<t))
theorem UT{t:Int}(S:lE h a d b kp bg)(q:∀n h',Kp h h'->h'.ob n=aA (.lst aB<|(bg.filter<|mL t p).map λq=>.int q.1)->R (.ref n) h'):WC (run pg (k+1) 97 [.ref a,.int t,.int p]) h R:=by
 have big:=kG;have lb:=S.lb;have hb:=S.hb;have k0:Kp h (h.new<|.lst aB []):=Kp.refl.new;refine aT rfl rfl<|WB.of<|aQy (kvs:=dE lT bg) (gc (jj rfl) (k0.get S.ha S.o) rfl rfl) (k0.get hb S.ob) ?_;refine s9 (λj Z h'=>(∃v4 v5,Z=[aA (.ref a),aA (.int t),aA (.int p),aA (.ref h.nx),v4,v5])/\Kx [b] h h'/\h'.ob b=aA (.dD<|dE lT bg)/\h'.ob h.nx=aA (.lst aB<|((bg.take j).filter (mL t p)).map λq=>.int q.1)/\h.nx<h'.nx) (by rw[aU,mZ,eZ];omega) ?_ (λj x Z h' hx y=>?_)<|λZ h' y=>?_
 .exact⟨⟨_,_,rfl⟩,(Kx.of k0).put (by simp),bD,(aX<|lQ hb).trans bM,dA _⟩
 .obtain⟨⟨v4,v5,rfl⟩,kx,q1,q2,lt⟩:=y;unfold dE at hx;rw[iC,fH]at hx;obtain⟨⟨o,pl,g⟩,hr,rfl⟩:=Option.map_eq_some_iff.mp hx;have oa:=kx.get S.ha (by simpa using rH S.o S.ob (nofun)) S.o;have va:bR (dE lT bg) (.inl o)=aA (.tup [.int pl,oI g]):=by rw[iY,nC S.nb (bX hr)];rfl
  have et:bg.take (j+1)=bg.take j++[(o,pl,g)]:=by rw[vO,hr];rfl
  have no:mL t p (o,pl,g)=aG->h'.ob h.nx=aA (.lst aB<|((bg.take<|j+1).filter (mL t p)).map λq=>.int q.1):=λe=>by rw[q2,et,bz,jA,e];simp
  have yes:mL t p (o,pl,g)=aB->WC (uF (.ref h.nx)<|.int o) h' λ_ h2=>Kx [b] h h2/\h2.ob b=aA (.dD<|dE lT bg)/\h2.ob h.nx=aA (.lst aB<|((bg.take<|j+1).filter (mL t p)).map λq=>.int q.1)/\h.nx<h2.nx:=λe=>by
   have l1:((bg.take j).filter (mL t p)).length<=(bg.take j).length:=pN ..;have l2:(bg.take j).length<=bg.length:=by rw[mJ];omega
   refine WC.of<|bc q2 (by rw[aU];omega) ⟨kx.putN (aV _),(aX<|cA hb).trans q1,?_,lt⟩;rw[bD,et,bz,jA,e,hJ];rfl
  refine iZ _<|gE _<|aC.of oa<|WC.of<|Ca q1 rfl va ?_;refine aE.dc (λc1=>?_) λc1=>⟨⟨_,_,rfl⟩,kx,q1,no (by unfold mL;rw[decide_eq_false c1];rfl),lt⟩;refine aC.of oa<|WC.of<|Ca q1 rfl va<|aE.dc (λc2=>?_) λc2=>⟨⟨_,_,rfl⟩,kx,q1,no (by unfold mL;rw[decide_eq_false c2,Bool.false_and,Bool.and_false]),lt⟩;have fin:=λe=>WC.of ((yes e).we.mono λv h2 z=>(show(∃v4 v5,[aA (.ref a),aA (.int t),aA (.int p),aA (.ref h.nx),aA (.int o),aA (oI g)]=[aA (.ref a),aA (.int t),aA (.int p),aA (.ref h.nx),v4,v5])/\_ from⟨⟨_,_,rfl⟩,z⟩));cases g with
  |none=>exact aE.t (uN q2)<|fin (by unfold mL;rw[decide_eq_true c1,decide_eq_true c2];rfl)|some g=>exact aE.dc (λc3=>aE.t (uN q2) (fin (by unfold mL;rw[decide_eq_true c1,decide_eq_true c2];exact decide_eq_true c3))) λc3=>⟨⟨_,_,rfl⟩,kx,q1,no (by unfold mL;rw[decide_eq_true c1,decide_eq_true c2];exact decide_eq_false c3),lt⟩
 .obtain⟨⟨v4,v5,rfl⟩,kx,q1,q2,lt⟩:=y;refine⟨q1,q _ _ (kx.Nv S.ob) ((aX<|lQ hb).trans ?_)⟩;rw[aU,mZ,tJ]at q2;exact q2
end
section
variable {k:Nat}{a b:Nat}{kp:Dc (Hc×Hc)}
def Af(l:Xj):Hc:=if l.isEmpty then aD else aA (sR l)
def pX(bg:Dc (Int×Hc))(t p:Int):Hc:=Af ((bg.filter<|mL t p).map (·.1))
theorem BY(h:d<n):n∉[d]:=λz=>by rw[List.mem_singleton.mp z]at h;exact lA _ h
theorem As{β:Type}{l:Dc β}{v w:β}(h:aY l x=aA w):(eU l x v).map (·.1)=l.map (·.1):=by unfold eU;rw[if_pos (List.any_eq_true.mpr ⟨_,rj h,by simp⟩),iC];refine Dl λp _=>?_;simp only[ke];split<;>rfl
theorem lE.putK{t:Int}{v w:Hc×Hc}(S:lE h a d b kp bg)(hk:aY kp t=aA w):lE (h.put d<|.aR<|dE lJ<|eU kp t v) a d b (eU kp t v) bg:=
 ⟨S.oz,bD,(aX S.ne.symm).trans S.ob,S.ha,S.hd,S.hb,S.ne,by rw[<- aU,As hk,aU];exact S.lk,S.lb,by rw[As hk];exact S.nk,S.nb⟩
theorem aAt{t:Int}{w:Hc}(S:lE h a d b kp bg)(hk:aY kp t=aA (aD,w))(q:∀h',Kp (h.put d<|.aR<|dE lJ<|eU kp t (aA p,w)) h'->R (oI<|pX bg t p) h'):WC (run pg (k+2) 96 [.ref a,.int t,.int p]) h R:=by
 refine aT rfl rfl<|aC.of S.o<|aE.t rfl<|aC.of rfl<|aE.t (sH S.od)<|WC.of<|Ol S.od rfl ?_;rw[iY,hk];refine aC.of S.o<|xN S.od rfl (by have:=S.lk;have:=kG;rw[mZ];omega) ?_;rw[show AV.tup [.int p,oI w]=lJ (aA p,w) from rfl,xC];have e:=S.putK (v:=(aA p,w)) hk;refine aC.of e.o<|UT e λn h' c on=>?_;refine WC.of<|aOu (by rw[on,iC];rfl) ?_;have:=q h' c;unfold pX Af at this;split at this<;>rename_i z
 .rw[if_pos z];exact this
 .rw[if_neg z];exact this
def uP(p:Int)(dr:Bool):List (Int×Hc×Hc)->Option (Option<|Int×Int)
 |[]=>aA aD
 | (t,sp,w)::l=>if sp=aD/\dr=aG then aD else if sp=aA p then w.map λw=>aA (t,w) else uP p dr l
def J9:Option (Option<|Int×Int)->AV
 |none=>.aH
 |some aD=>.tup [.aH,.aH]
 |some (aA (t,w))=>.tup [.int t,.int w]
theorem K2{t:Int}(S:lE h a d b kp bg)(q:∀h',Kp h h'->R (J9<|uP p dr (kp.filter λq=>decide (q.1<t)).reverse) h'):WC (run pg (k+1) 99 [.ref a,.int t,.int p,.bl dr]) h R:=by
 have lk:=S.lk;have lf:(kp.filter λq=>decide (q.1<t)).length<=kp.length:=pN ..;refine aT rfl rfl<|gb (f:=λq=>decide (q.1<t)) (gc (jj rfl) S.o rfl rfl) S.od S.hd (by omega) rfl (λp hp=>⟨rfl,rfl⟩) ?_;have srt:jW aB ((kp.filter λq=>decide (q.1<t)).map (·.1))=((kp.filter λq=>decide (q.1<t)).reverse.map (·.1)):=by rw[List.map_reverse];exact aKb<|vN (List.filter_sublist.map _) S.nk
 refine WB.of<|lO<|mU<|WC.of<|aPd (ns:=(kp.filter λq=>decide (q.1<t)).map (·.1)) (by rw[bM,iC];rfl) (by rw[aU];omega) ?_;rw[srt];generalize el:(kp.filter λq=>decide (q.1<t)).reverse=l at q ⊢;have ll:l.length<64:=by rw[<- el,Qe];omega
 have hm:∀q∈l,q∈kp:=λq hq=>by rw[<- el]at hq;exact(List.mem_filter.mp<|List.mem_reverse.mp hq).1
 refine nO bM ?_;have k2:∀{o1 o2:bG},Kp h ((h.new o1).new o2):=Kp.refl.new.new;refine qN (n:=h.nx+1) (bb:=aB) (xs:=(l.map (·.1)).map AV.int) (λj Z h'=>(∃v5 v6 v7,Z=[aA (.ref a),aA (.int t),aA (.int p),aA (.bl dr),aA (.ref h.nx),v5,v6,v7])/\Kp h h'/\uP p dr l=uP p dr (l.drop j)/\h'.ob (h.nx+1)=aA (.lst aB<|(l.map (·.1)).map .int)) (by rw[aU,aU,eZ];omega) ⟨⟨_,_,_,rfl⟩,k2,rfl,bM⟩ (λ_ _ _ y=>y.2.2.2) (λj x Z h' hx y=>?_)<|λZ h' y=>?_
 .obtain⟨⟨v5,v6,v7,rfl⟩,kx,e,on⟩:=y;rw[iC]at hx;obtain⟨⟨o,sp,w⟩,hr,rfl⟩:=jR hx;have hj:=(List.getElem?_eq_some_iff.mp hr).1;have de:l.drop j=(o,sp,w)::l.drop (j+1):=by rw[Pu hj,(List.getElem?_eq_some_iff.mp hr).2]
  rw[de]at e;have oa:=kx.get S.ha S.o;have od:=kx.get S.hd S.od;have va:bR (dE lJ kp) (.inl o)=aA (.tup [oI sp,oI w]):=by rw[iY,nC S.nd (hm _<|bX hr)];rfl
  have q':=q h' kx;rw[e]at q';refine iZ _<|gE _<|aC.of oa<|WC.of<|Bz (k:=.inl o) od rfl va<|aC.of oa<|WC.of<|Bz (k:=.inl o) od rfl va ?_;cases sp with
  |none=>
   cases dr with
   |false=>exact q'|true=>exact WC.of<|By (b:=aG) rfl ⟨⟨_,_,_,rfl⟩,kx,e,on⟩
  |some sp=>
   refine aE.dc (λc=>?_) λc=>⟨⟨_,_,_,rfl⟩,kx,?_,on⟩
   .subst c;unfold uP at q';rw[if_neg (λz=>nomatch z.1),if_pos rfl]at q';cases w<;>exact q'
   .rw[e];show(if aA sp=aD/\dr=aG then aD else if aA sp=aA p then _ else _)=_;rw[if_neg (λz=>nomatch z.1),if_neg λz=>c (dR z)]
 .obtain⟨⟨v5,v6,v7,rfl⟩,kx,e,on⟩:=y;rw[aU,aU,Dd]at e;have q':=q h' kx;rw[e]at q';exact q'
theorem aKo{t:Int}(S:lE h a d b kp bg)(q:∀v h',Kx [d,b] h h'->h'.ob d=aA (.aR<|dE lJ<|kp.filter λp=>!decide (t<=p.1))->h'.ob b=aA (.aR<|dE lT<|bg.filter λp=>!decide (t<=p.1))->R v h'):WC (run pg (k+1) 102 [.ref a,.int t]) h R:=by
 have lk:=S.lk;have lb:=S.lb;have k1:∀{o:bG},Kp h (h.new o):=Kp.refl.new;refine aT rfl rfl<|gb (f:=λq=>decide (t<=q.1)) (gc (jj rfl) S.o rfl rfl) S.od S.hd (by omega) rfl (λp hp=>⟨rfl,rfl⟩) ?_;refine(gb (f:=λq=>decide (t<=q.1)) (gc (jj rfl) (k1.get S.ha S.o) rfl rfl) (k1.get S.hb S.ob) (kN S.hb) (by omega) rfl (λp hp=>⟨rfl,rfl⟩) ?_);have k2:∀{o1 o2:bG},Kp h ((h.new o1).new o2):=Kp.refl.new.new;have hd:=S.hd;have hb:=S.hb;refine Ar (e:=lJ) (l:=kp) (ts:=(kp.filter λp=>decide (t<=p.1)).map (·.1)) (j:=2) (n:=h.nx) rfl rfl (by decide) (show 4<5 by decide) (k2.get S.ha S.o) rfl rfl (k2.get S.hd S.od) (by rw[eF (cA<|dA h.nx),bM,iC];rfl) (bC hd k2.nx) (yc S.nd) (oC S.nd) (by rw[aU];have:=pN (λp:Int×Hc×Hc=>decide (t<=p.1)) kp;omega) λo' h3 kx nx q1=>?_;have ka:=Kx.kp k2 kx;refine Ar (e:=lT) (l:=bg) (ts:=(bg.filter λp=>decide (t<=p.1)).map (·.1)) (j:=3) (n:=h.nx+1) rfl rfl (by decide) (show 4<5 by decide) (ka.get S.ha (by simpa using rH S.o S.od (λz=>nomatch z)) S.o) rfl rfl (ka.get hb (by simpa using S.ne.symm) S.ob) ((kx.get (dA _) (BY<|kN hd) bM).trans (by rw[iC];rfl)) (bC hb ka.nx) (yc S.nb) (oC S.nb) (by rw[aU];have:=pN (λp:Int×Int×Hc=>decide (t<=p.1)) bg;omega) λo'' h4 kx' nx' q2=>?_;rw[yd S.nd λx=>Pm]at q1;rw[yd S.nb λx=>Pm]at q2;have lx:h.nx+2<=h3.nx:=by rw[nx];exact aV _
 have c1:∃xs,h4.ob h.nx=aA (.lst aB xs):=⟨_,kx'.get (by omega) (by simp;omega) (kx.get (kN<|dA _) (by simp;omega)<|(eF<|cA<|dA h.nx).trans bM)⟩;have c2:∃xs,h4.ob (h.nx+1)=aA (.lst aB xs):=⟨_,kx'.get (by omega) (by simp;omega) (kx.get (dA _) (BY<|kN hd) bM)⟩;obtain⟨x1,c1⟩:=c1;obtain⟨x2,c2⟩:=c2;refine WC.of<|kK (cN c1)<|WC.of<|kK (cN c2)<|q _ h4 ?_ ?_ q2
 .exact(ka.sub (by simp)).trans (kx'.sub (by simp))
 .exact kx'.get (bC hd ka.nx) (by simpa using S.ne) q1
end
section
variable {k:Nat}{a:Nat}{fl:Int->Xj}
structure lD(h:AH)(a d:Nat)(kf:Dc Nat)(fl:Int->Xj):Prop where
 o:h.ob a=aA (.ins 16 [("filled",.ref d)])
 od:h.ob d=aA (.aR<|dE AV.ref kf)
 ha:a<h.nx
 hd:d<h.nx
 nd:(kf.map (·.1)).Nodup
 lk:kf.length<64
 ls:∀x f,aY kf x=aA f->f<h.nx/\h.ob f=aA (.lst aB<|(fl x).map .int)
 no:∀x,aY kf x=aD->fl x=[]
 inj:∀x y f,aY kf x=aA f->aY kf y=aA f->x=y
 lf:∀x,(fl x).length<100000
theorem lD.keep(S:lD h a d kf fl)(g:Kp h h'):lD h' a d kf fl:=⟨g.get S.ha S.o,g.get S.hd S.od,bC S.ha g.nx,bC S.hd g.nx,S.nd,S.lk,λx f e=>⟨bC (S.ls x f e).1 g.nx,g.get (S.ls x f e).1 (S.ls x f e).2⟩,S.no,S.inj,S.lf⟩
theorem lD.ld(S:lD h a d kf fl){f:Nat}(e:aY kf x=aA f):f≠d:=rH (S.ls x f e).2 S.od (nofun)
theorem lD.la(S:lD h a d kf fl){f:Nat}(e:aY kf x=aA f):f≠a:=rH (S.ls x f e).2 S.o (nofun)
theorem AX{t:Int}(e:l.getLast?=aA t):cM (l.map AV.int) (-1)=aA (.int t):=by
 have hl:l≠[]:=λz=>by rw[z]at e;cases e
 have:=List.length_pos_iff.mpr hl;rw[show -1 = -((1:Nat):Int) from rfl,OJ (by decide) (by rw[aU];exact this),aU,fH];rw[aRw]at e;rw[e];rfl
theorem Zk(S:lD h a d kf fl)(q:∀h',Kp h h'->R (oI (fl x).getLast?) h'):WC (run pg (k+1) 91 [.ref a,.int x]) h R:=by
 have k1:∀{o:bG},Kp h (h.new o):=Kp.refl.new;have k2:∀{i j:bG},Kp h ((h.new i).new j):=Kp.refl.new.new;have fin:∀{n:Nat} {h':AH}{o:bG},Kp h (h'.new<|.lst aB [])->n≠h'.nx->h'.ob n=aA (.lst aB<|(fl x).map .int)->WC (Cp.g .ne (.ref n)<|.ref h'.nx) (h'.new<|.lst aB []) λz g=>aC (sA z) λb=>aE b (WC (Op.g .ix (.ref n)<|.int<|-1) g R) (R .aH g):=λ{n h' o} kp hn on=>by
  have c:=(eF (o:=.lst aB []) hn).trans on;refine WC.of<|Oq rfl (ya c bM) ?_;cases e:(fl x).getLast? with
  |none=>have:=q _ kp;rw[e]at this;rw[(List.getLast?_eq_none_iff.mp e)];exact this
  |some t=>
   have hl:¬((fl x).map AV.int=[]):=λz=>by rw[List.map_eq_nil_iff.mp z]at e;cases e
   rw[decide_eq_false hl];have:=q _ kp;rw[e]at this;exact WC.of<|gI (cN c) (AX e) this
 refine aT rfl rfl<|aC.of S.o<|aE.t rfl<|aC.of rfl<|aE.t (sH S.od)<|WC.of<|IC (k1.get S.hd S.od) rfl ?_;rw[iY];cases e:aY kf x with
 |none=>exact fin (o:=.lst aB []) k2 (cA<|dA _) (by rw[S.no x e];exact bM)|some f=>have lf:=S.ls x f e;exact fin (o:=.lst aB []) k2 (cA<|kN lf.1)<|k1.get lf.1 lf.2
theorem y3{xs:Xj}(S:lD h a d kf fl)(hx:xs.length<64)(q:∀h',Kp h h'->R (.tup<|xs.map λx=>oI (fl x).getLast?) h'):WC (run pg (k+2) 92 [.ref a,.tup (xs.map .int)]) h R:=by
 have big:=kG;refine aT rfl rfl ?_;refine WC.of<|jq ?_;refine mU<|aC.of rfl<|aC.of rfl<|aPk ?_;refine WI (λj b c h'=>(∃v0,c=[v0,aA (.ref a)])/\b=(xs.take j).map (λx=>oI (fl x).getLast?)/\Kp h h') (by rw[aU,eZ];omega) ⟨⟨_,rfl⟩,rfl,Kp.refl⟩ (λj x b c h' hx y=>?_)<|λb c h' y=>?_
 .obtain⟨⟨v0,rfl⟩,rfl,kp⟩:=y;obtain⟨x,hr,rfl⟩:=jR hx;refine cF _ (aC.of (kp.get S.ha S.o)<|Zk (S.keep kp) λe k2=>⟨?_,⟨_,rfl⟩,?_,kp.trans k2⟩)
  .rw[aU,mJ];omega
  .rw[vO,hr,hJ];rfl
 .obtain⟨⟨v0,rfl⟩,rfl,kp⟩:=y;rw[aU,tJ];exact WC.of<|xM (cN bM)<|q _ kp.new
end
section
variable {k:Nat}{a:Nat}{fl:Int->Xj}
theorem IF(e:h.ob n=aA (.aR kvs))(q:V1 (.ref h.nx) (h.new<|.lst aB<|kvs.map λp=>sL p.1)):We (Bi.g .list [.ref n]) h V1:=by show We (zO [.ref n]) h V1;unfold We zO oG kD;simp only[jM,dX,Gq,e];exact q
def mD(fl:Int->Xj)(x:Int)(l:Xj):Int->Xj:=λy=>if y=x then l else fl y
theorem AO:(dE AV.ref kf).map (λp=>sL p.1)=kf.map λp=>AV.int p.1:=by unfold dE;rw[iC];rfl
structure Tj(h h':AH)(d x:Nat)(kf kf':Dc Nat)(b:Int):Prop where
 kx:Kx (d::(aY kf b).toList) h h'
 old:∀y,y≠b->aY kf' y=aY kf y
 new:∃f,aY kf' b=aA f/\(aY kf b=aA f\/aY kf b=aD/\h.nx<=f)
theorem rg{β:Type}{l:Dc β}{v:β}:aY (l++[(x,v)]) y=(aY l y).or (if x=y then aA v else aD):=by unfold aY;rw[Dg,Option.map_or];by_cases z:x=y<;>simp[z]
theorem o9{t:Int}(S:lD h a d kf fl)(hk:kf.length<60)(hf:∀y u,(fl y).getLast?=aA u->u<t)(hl:(fl x).length<99999)(q:∀v kf' h',lD h' a d kf' (mD fl x<|fl x++[t])->Tj h h' d 0 kf kf' x->kf'.length<=kf.length+1->R v h'):WC (run pg (k+2) 90 [.ref a,.int t,.int x]) h R:=by
 have big:=kG;have J:(kf.map λp=>AV.int p.1).length=kf.length:=aU ..;refine aT rfl rfl<|WB.of<|lO<|mU<|aC.of S.o<|WC.of<|IF S.od ?_;rw[AO];refine nO bM ?_;generalize C:h.new (.lst aB<|kf.map λp=>AV.int p.1)=h0;have G:Kp h h0:=C▸Kp.refl.new;have K:h.nx<h0.nx:=by rw[<- C];exact dA _
 have on:h0.ob h.nx=aA (.lst aB<|kf.map λp=>AV.int p.1):=C▸bM;refine qN (λj D h'=>(∃E v4,D=[aA (.ref a),aA (.int t),aA (.int x),E,v4])/\Kp h0 h') (by rw[J,eZ];omega) ⟨⟨_,_,rfl⟩,Kp.refl⟩ (λ_ _ _ y=>y.2.get K on) (λj y D h' L z=>?_)<|λD h' z=>?_
 .obtain⟨⟨E,v4,rfl⟩,kp⟩:=z;obtain⟨p,hr,rfl⟩:=jR L;have l:=S.keep (G.trans kp);refine iZ _<|gE _<|aC.of l.o<|Zk l λQ k2=>?_;have n:=kp.trans k2;cases e:(fl p.1).getLast? with
  |none=>exact⟨⟨_,_,rfl⟩,n⟩|some u=>exact aE.df (by have:=hf _ _ e;omega) ⟨⟨_,_,rfl⟩,n⟩
 .obtain⟨⟨E,v4,rfl⟩,kp⟩:=z;have n:=G.trans kp;have l:=S.keep n;have k1:∀{o:bG},Kp h' (h'.new o):=Kp.refl.new;have b:=l.keep (k1 (o:=.lst aB []));have nx:=n.nx;refine aC.of l.o (aE.t rfl<|aC.of rfl<|aE.t (sH l.od)<|WC.of<|aOi b.od rfl (by rw[mZ];omega) (λv e=>?_) λe=>?_)
  .rw[iY]at e;obtain⟨f,m,rfl⟩:=Option.map_eq_some_iff.mp e;obtain⟨f1,f2⟩:=b.ls x f m;refine aE.t (uN f2)<|WC.of<|bc f2 (by rw[aU];have:sizeLine=16777216:=rX;omega) ?_;refine q _ kf _ ⟨(aX (b.la m).symm).trans b.o,(aX (b.ld m).symm).trans b.od,b.ha,b.hd,S.nd,S.lk,λy g c=>?_,λy i=>?_,S.inj,λy=>?_⟩ ⟨((Kx.of<|n.trans k1).put (by rw[m];simp)),λ_ _=>rfl,f,m,.inl m⟩ (jL _)
   .refine⟨(b.ls y g c).1,?_⟩;unfold mD;by_cases z:y=x
    .subst z;rw[m]at c;cases c;rw[bD,if_pos rfl,hJ];rfl
    .rw[if_neg z,aX (show g≠f from λw=>z (S.inj y x f (w▸c) m))];exact(b.ls y g c).2
   .unfold mD;rw[if_neg λz=>by rw[z,m]at i;cases i];exact S.no y i
   .unfold mD;split
    .rw[dO];exact xW hl
    .exact S.lf y
  .rw[iY,MA]at e;have f0:=S.no x e;rw[xC,Au e];have H:h'.nx≠d:=lQ l.hd;have I:((h'.new<|.lst aB []).put d (.aR<|dE AV.ref<|kf++[(x,h'.nx)])).ob h'.nx=aA (.lst aB []):=(aX H).trans bM;refine aE.t (uN I)<|WC.of<|bc I (bC (by decide)<|xV big) ?_;have lo:∀{y g},aY kf y=aA g->g<h'.nx:=λc=>(l.ls _ _ c).1;refine q _ (kf++[(x,h'.nx)]) _ ⟨(aX<|cA l.ha).trans ((aX<|rH b.o b.od<|nofun).trans b.o),(aX H.symm).trans bD,b.ha,b.hd,?_,by rw[dO];exact bC (xW hk) (by decide),λy g c=>?_,λy i=>?_,λy z g r s=>?_,λy=>?_⟩ ⟨((Kx.of<|n.trans k1).put (by simp)).putN nx,λy F=>?_,h'.nx,?_,.inr ⟨e,nx⟩⟩ (by rw[dO];exact aV _)
   .rw[hJ,LF];refine⟨S.nd,by simp,λy F z M=>?_⟩;obtain⟨p,N,rfl⟩:=List.mem_map.mp F;rw[List.mem_singleton.mp M];intro w;have O:p.1=x:=w;have:=nC S.nd N;rw[O,e]at this;cases this
   .rw[rg]at c;unfold mD;by_cases z:y=x
    .subst z;rw[e,if_pos rfl]at c;cases c;refine⟨dA _,?_⟩;rw[bD,if_pos rfl,f0];rfl
    .rw[if_neg λw=>z w.symm,cg]at c;refine⟨kN (lo c),?_⟩;rw[if_neg z,aX (cA<|lo c),aX (b.ld c)];exact(b.ls y g c).2
   .rw[rg]at i;unfold mD;by_cases z:y=x
    .subst z;rw[if_pos rfl]at i;cases P:aY kf y<;>rw[P]at i<;>cases i
    .rw[if_neg λw=>z w.symm,cg]at i;rw[if_neg z];exact S.no y i
   .rw[rg]at r s;by_cases A:y=x<;>by_cases B:z=x
    .rw[A,B]
    .subst A;rw[e,if_pos rfl]at r;cases r;rw[if_neg λw=>B w.symm,cg]at s;exact absurd (lo s)<|lA _
    .subst B;rw[e,if_pos rfl]at s;cases s;rw[if_neg λw=>A w.symm,cg]at r;exact absurd (lo r)<|lA _
    .rw[if_neg λw=>A w.symm,cg]at r;rw[if_neg λw=>B w.symm,cg]at s;exact S.inj y z g r s
   .unfold mD;split
    .rw[dO];exact xW hl
    .exact S.lf y
   .rw[rg,if_neg λw=>F w.symm,cg]
   .rw[rg,e,if_pos rfl];rfl
end
section
variable {k:Nat}{a:Nat}{fl:Int->Xj}
def lW(t:Int)(l:Xj):Xj:=(l.reverse.dropWhile λu=>decide (t<=u)).reverse
theorem DG{t:Int}:lW t (l++[u])=if t<=u then lW t l else l++[u]:=by
 unfold lW;rw[List.reverse_append];show(List.dropWhile _<|u::l.reverse).reverse=_;by_cases z:t<=u
 .simp[z]
 .simp[z]
theorem DF(t:Int)(l:Xj):(lW t l).length<=l.length:=by unfold lW;rw[Qe];have:=(JY (λu=>decide (t<=u)) (l:=l.reverse)).length_le;rw[Qe]at this;exact this
theorem aKa(h:l≠[]):∃m u,l=m++[u]:=⟨l.dropLast,l.getLast h,(aRq h).symm⟩
theorem aBb{f:Nat}{t z:Int}{v3:AV}(of:h.ob f=aA (.lst aB<|l.map .int))(hf:f<h.nx)(hl:l.length<100000)
  (q:∀z' h',Kx [f] h h'->h'.ob f=aA (.lst aB<|(lW t l).map .int)->N [aA (.ref a),aA (.int t),aA (.int z'),aA v3,aA (.ref f)] h') :
  Wt (vK (dI F<|.and (.cmp .ne (.var 4)<|.lst .nil)<|.cmp .ge (.op .ix (.var 4)<|.neg<|.val<|.int 1)<|.var 1) (jO F<|.cons (.expr<|.sj<|.var 4)<|.cons (.aug aG 2<|.val<|.int 1) .nil) FU [aA (.ref a),aA (.int t),aA (.int z),aA v3,aA (.ref f)]) h N R B C:=by
 refine uo (λi j h'=>i<=l.length/\∃(z':Int) (m:Xj),m.length+i=l.length/\j=[aA (.ref a),aA (.int t),aA (.int z'),aA v3,aA (.ref f)]/\Kx [f] h h'/\h'.ob f=aA (.lst aB<|m.map .int)/\lW t l=lW t m) l.length (λi j h' y=>y.1) (λi j h' y=>?_) FU 0 _ h (by rw[eZ];omega) ⟨jZ _,z,l,rfl,rfl,Kx.refl,of,rfl⟩;obtain⟨_,z',m,em,rfl,kx,k,e⟩:=y;have b:=(eF (o:=.lst aB [])<|cA<|bC hf kx.nx).trans k;refine oQ _<|WC.of<|Oq rfl (ya b bM) ?_;by_cases c:m=[]
 .subst c;exact q z' _ kx.new<|e▸b
 .have n:¬(m.map AV.int=[]):=λw=>c (List.map_eq_nil_iff.mp w);rw[decide_eq_false n];obtain⟨d,u,rfl⟩:=aKa c;rw[dO]at em;have p:((d++[u]).map AV.int)=d.map AV.int++[.int u]:=hJ ..;refine aC.of rfl<|WC.of<|gI (cN b) (AX (by rw[List.getLast?_concat])) ?_;show if decide (t<=u)=aB then _ else _
  by_cases g:t<=u
  .rw[if_pos (decide_eq_true g)];rw[p]at b;rw[DG,if_pos g]at e;refine gE _<|WC.of<|aQi<|cF _<|aC.of rfl<|aC.of rfl<|aPa b ?_;have r:d.length+1+i=l.length:=em;exact⟨by omega,_,d,by omega,rfl,kx.new.put (by simp),bD,e⟩
  .rw[if_neg (by simpa using g)];rw[DG,if_neg g]at e;exact q z' _ kx.new<|e▸b
theorem P0{t:Int}(S:lD h a d kf fl)(q:∀v h',lD h' a d kf (λx=>lW t (fl x))->Kx (kf.map (·.2)) h h'->R v h'):WC (run pg (k+1) 93 [.ref a,.int t]) h R:=by
 have A:(kf.map λp=>AV.int p.1).length=kf.length:=aU ..;have lk:=S.lk;refine aT rfl rfl<|WB.of<|lO<|mU<|aC.of S.o<|WC.of<|IF S.od ?_;rw[AO];refine nO bM ?_;have B:∀p∈kf,aY kf p.1=aA p.2:=λp n=>nC S.nd n;have C:∀{x f},aY kf x=aA f->f∈kf.map (·.2):=λe=>List.mem_map.mpr ⟨_,rj e,rfl⟩;refine qN (λj o h'=>(∃z r v4,o=[aA (.ref a),aA (.int t),aA (.int z),r,v4])/\lD h' a d kf (λx=>if x∈(kf.take j).map (·.1) then lW t (fl x) else fl x)/\Kx (kf.map (·.2)) h h'/\h'.ob h.nx=aA (.lst aB<|kf.map λp=>AV.int p.1)/\h.nx<h'.nx) (by rw[eZ];omega) ⟨⟨_,_,_,rfl⟩,?_,Kx.of Kp.refl.new,bM,dA _⟩ (λ_ _ _ y=>y.2.2.2.1) (λj y o h' D w=>?_)<|λo h' w=>?_
 .have:(λx=>if x∈(kf.take 0).map (·.1) then lW t (fl x) else fl x)=fl:=by funext x;simp
  exact S.keep Kp.refl.new
 .obtain⟨⟨z,r,v4,rfl⟩,b,kx,on,lt⟩:=w;obtain⟨⟨x,f⟩,hr,rfl⟩:=jR D;have i:=B _ (bX hr);obtain⟨f1,f2⟩:=b.ls x f i;refine iZ _<|gE _<|aC.of b.o<|WC.of<|Bz (k:=.inl x) b.od rfl (by rw[iY,i];rfl)<|WB.of<|Cm<|aBb f2 f1 (b.lf x) λI J k2 E=>?_;have ne:∀{m:Nat},m≠f->m∉[f]:=λhm w=>hm (List.mem_singleton.mp w);have s:x∉(kf.take j).map (·.1):=by
   intro w;obtain⟨p,n,e⟩:=List.mem_map.mp w;obtain⟨m,hm,u⟩:=Qc n;rw[mJ]at hm;rw[KU]at u;have K:=(List.getElem?_eq_some_iff.mp hr).1;have F:(kf.map (·.1))[m]'(by rw[aU];omega)=(kf.map (·.1))[j]'(by rw[aU];omega):=by rw[KR,KR,u,(List.getElem?_eq_some_iff.mp hr).2];exact e
   have:=(Dj S.nd).mp F;omega
  have tk:kf.take (j+1)=kf.take j++[(x,f)]:=by rw[vO,hr];rfl
  refine⟨⟨_,_,_,rfl⟩,⟨k2.get b.ha (ne (b.la i).symm) b.o,k2.get b.hd (ne (b.ld i).symm) b.od,bC b.ha k2.nx,bC b.hd k2.nx,S.nd,S.lk,λy g l=>⟨bC (b.ls y g l).1 k2.nx,?_⟩,λy G=>?_,S.inj,λy=>?_⟩,kx.trans (k2.sub λm hm=>by rw[List.mem_singleton.mp hm];exact C i),k2.get lt (ne<|lQ<|(S.ls x f i).1) on,bC lt k2.nx⟩
  .rw[tk,hJ];by_cases c:y=x
   .subst c;rw[i]at l;cases l;rw[E,if_neg s,if_pos (by simp)]
   .have H:y∈(kf.take j).map (·.1)++[(x,f)].map (·.1)↔y∈(kf.take j).map (·.1):=by simp[c]
    have:=k2.get (b.ls y g l).1 (ne λw=>c (S.inj y x f (w▸l) i)) (b.ls y g l).2;rw[this];simp only[H]
  .rw[S.no y G];split<;>rfl
  .have:=DF t (fl y);have:=S.lf y;split<;>omega
 .obtain⟨⟨z,r,v4,rfl⟩,b,kx,on,lt⟩:=w;refine q _ h' ?_ kx;have:(λx=>if x∈(kf.take (kf.map λp=>AV.int p.1).length).map (·.1) then lW t (fl x) else fl x)=λx=>lW t (fl x):=by
   funext x
   rw[A,tJ];split
   .rfl
   .rename_i c;rw[S.no x (Option.eq_none_iff_forall_ne_some.mpr λf e=>c (List.mem_map.mpr ⟨_,rj e,rfl⟩))];rfl
  rw[this]at b;exact b
end
section
structure Sl where
 a:Nat
 tk:Int
 pc:Int
 row:aN
 bJ:Xv
 ws:Xv
 ch:Int
 dr:Bool
 src:Hc
 dZ:Hc
 put:Int
 st:Hc
 fi:Hc
 of:Hc
def Sl.wi(s:Sl):Xj:=s.ws.map λw=>w.getD 0
def Sl.ft(room:Int)(s:Sl):Option AV:=s.row.ft s.wi room
def Sl.dd(room:Int)(s:Sl):AV:=match s.fi with
 |none=>.aH
 |some _=>s.row.fw s.pc s.wi room (oI s.dZ)
def Sl.lt(room:Int)(s:Sl):dS:=⟨s.tk,s.pc,s.row,s.bJ,s.ch,s.dr,s.src,s.dZ,s.dd room,s.put,s.st,s.fi,s.of⟩
structure Cf where
 b:Nat
 rs:List aN
 sz:Int
 wd:Int
 tb:YH
 gu:Nat
 nv:Nat
 room:Int
 lo:List (Nat×bG)
structure Gh where
 sl:Nat
 kf:Dc Nat
 kd:Nat->Nat
structure Mo where
 slots:List Sl
 ah:Int
 nw:Int
 bQ:Int
 kI:Int
 fl:Int->Xj
 wk:Dc (Int×Int)
 kp:Dc (Hc×Hc)
 bg:Dc (Int×Hc)
 sd:Sd
 cD:Hd
 gX:Dc Int
 dW:Dc Int
 brk:Bool
def Mo.wf(m:Mo)(c:Cf)(sl:Nat):List (cY×AV):=[("program",.ref (c.b+2)),("ahead",.int m.ah),("size",.int c.sz),("wide",.int c.wd),("slots",.ref sl),("names",.ref (c.b+4)),("benches",.ref (c.b+6)),("shelf",.ref (c.b+8)),("tickets",.int m.bQ),("thrown",.int m.kI),("now",.int m.nw)]
def Mo.lf(m:Mo)(c:Cf):List (cY×AV):=[("state",m.sd.av),("guesser",.ref c.gu),("nerve",.ref c.nv),("slips",.ref (c.b+12)),("storers",.ref (c.b+13)),("gone",.ref (c.b+14)),("broken",.bl m.brk)]
def Mo.fS(m:Mo)(c:Cf)(g:Gh):List (Option bG):=[
 aA (.ins 21 [("window",.ref (c.b+1)),("ledger",.ref (c.b+11))]),aA (.ins 19<|m.wf c g.sl),aA (.lst aB<|c.rs.map aN.av),aD,
 aA (.ins 16 [("filled",.ref (c.b+5))]),aA (.aR<|dE AV.ref g.kf),aA (.ins 15<|fe c.tb<|c.b+7),aA (.aR<|dE dQ m.wk),
 aA (.ins 17 [("kept",.ref (c.b+9)),("begun",.ref (c.b+10))]),aA (.aR<|dE lJ m.kp),aA (.aR<|dE lT m.bg),
 aA (.ins 20<|m.lf c),aA (.lst aB m.cD),aA (.aR<|dE AV.int m.gX),aA (.aR<|dE AV.int m.dW)]
def Mo.dyn(m:Mo)(c:Cf)(g:Gh)(k:Nat):Option (Nat×bG):=
 if k=15 then aA (g.sl,.lst aB (m.slots.map λs=>.ref s.a))
 else if k<30 then(aY g.kf<|(k:Int)-16).map λf=>(f,.lst aB ((m.fl<|(k:Int)-16).map .int))
 else(m.slots.find? λs=>decide (s.tk=((k:Int)-30) / 2)).map λs=>if k%2=0 then(s.a,.ins 18 ((s.lt c.room).fs (s.a+2))) else(s.a+2,.lst aB (s.ws.map oI))
structure jH(b:Nat)(kd:Nat->Nat)(l:List (Option bG))(r:Nat->Option (Nat×bG))(h:AH):Prop where
 st:∀i o,l[i]?=aA (aA o)->kd (b+i)=i/\b+i<h.nx/\h.ob (b+i)=aA o
 dy:∀k n o,15<=k->r k=aA (n,o)->kd n=k/\b<=n/\n<h.nx/\h.ob n=aA o
variable {b:Nat}{kd:Nat->Nat}{l:List (Option bG)}{r r':Nat->Option (Nat×bG)}
theorem jH.keep(x:jH b kd l r h)(g:Kp h h'):jH b kd l r h':=
 ⟨λi o e=>⟨(x.st i o e).1,bC (x.st i o e).2.1 g.nx,g.get (x.st i o e).2.1 (x.st i o e).2.2⟩,λk n o a e=>have z:=x.dy k n o a e;⟨z.1,z.2.1,bC z.2.2.1 g.nx,g.get z.2.2.1 z.2.2.2⟩⟩
theorem jH.low(x:jH b kd l r h)(g:Kx S h h')(hs:∀n∈S,n<b):jH b kd l r h':=
 have ns:∀n,b<=n->n∉S:=λn hn z=>lA _ (bC (hs n z) hn)
 ⟨λi o e=>have z:=x.st i o e;⟨z.1,bC z.2.1 g.nx,g.get z.2.1 (ns _ (pP ..)) z.2.2⟩,λk n o a e=>have z:=x.dy k n o a e;⟨z.1,z.2.1,bC z.2.2.1 g.nx,g.get z.2.2.1 (ns _ z.2.1) z.2.2.2⟩⟩
theorem AL(x:jH b kd l r h){k:Nat}(e:l[i]?=aA (aA o))(hn:kd n=k)(hk:k≠i):b+i≠n:=λz=>hk (by rw[<- hn,<- z];exact(x.st i o e).1)
theorem jH.wX(x:jH b kd l r h)(hi:i<15)(e:l[i]?=aA (aA o))(g:Kx [b+i] h h')(e':h'.ob (b+i)=aA o'):jH b kd (l.set i<|aA o') r h':=by
 refine⟨λj d a=>?_,λk n on f m=>?_⟩
 .by_cases c:j=i
  .subst c;rw[mI (List.getElem?_eq_some_iff.mp e).1]at a;cases a;have z:=x.st j o e;exact⟨z.1,bC z.2.1 g.nx,e'⟩
  .rw[kZ λw=>c w.symm]at a;have z:=x.st j d a;exact⟨z.1,bC z.2.1 g.nx,g.get z.2.1 (by simp;omega) z.2.2⟩
 .have z:=x.dy k n on f m;exact⟨z.1,z.2.1,bC z.2.2.1 g.nx,g.get z.2.2.1 (λw=>AL x e z.1 (by omega) (List.mem_singleton.mp w).symm) z.2.2.2⟩
theorem jH.sV(x:jH b kd l r h)(hi:i<15)(e:l[i]?=aA (aA o)):jH b kd (l.set i<|aA o') r (h.put (b+i) o'):=x.wX hi e (Kx.refl.put (by simp)) bD
theorem jH.AW{k:Nat}(x:jH b kd l r h)(hk:15<=k)(hl:l.length<=15)(e:r k=aA (n,o))(g:Kx [n] h h')(e':h'.ob n=aA o')(er:r' k=aA (n,o'))(hs:∀j p,15<=j->j≠k->r' j=aA p->r j=aA p):jH b kd l r' h':=by
 have y:=x.dy k n o hk e;refine⟨λj d a=>?_,λj i d f a=>?_⟩
 .have z:=x.st j d a;have m:=(List.getElem?_eq_some_iff.mp a).1;exact⟨z.1,bC z.2.1 g.nx,g.get z.2.1 (λw=>AL x a y.1 (by omega) (List.mem_singleton.mp w)) z.2.2⟩
 .by_cases c:j=k
  .subst c;rw[er]at a;cases a;exact⟨y.1,y.2.1,bC y.2.2.1 g.nx,e'⟩
  .have z:=x.dy j i d f (hs j _ f c a);exact⟨z.1,z.2.1,bC z.2.2.1 g.nx,g.get z.2.2.1 (λw=>c (by rw[<- z.1,<- y.1,List.mem_singleton.mp w])) z.2.2.2⟩
theorem jH.newD{k:Nat}(x:jH b kd l r h)(hk:15<=k)(g:Kp h h')(hn:h.nx<=n)(hn':n<h'.nx)(hb:b<=h.nx)(e':h'.ob n=aA o)(er:r' k=aA (n,o))(hs:∀j p,15<=j->j≠k->r' j=aA p->r j=aA p):jH b (λi=>if i=n then k else kd i) l r' h':=by
 refine⟨λj d a=>?_,λj f d e a=>?_⟩
 .have z:=x.st j d a;exact⟨by rw[if_neg (by omega)];exact z.1,bC z.2.1 g.nx,g.get z.2.1 z.2.2⟩
 .by_cases c:j=k
  .subst c;rw[er]at a;cases a;exact⟨if_pos rfl,by omega,hn',e'⟩
  .have z:=x.dy j f d e (hs j _ e c a);exact⟨by rw[if_neg (by omega)];exact z.1,z.2.1,bC z.2.2.1 g.nx,g.get z.2.2.1 z.2.2.2⟩
end
abbrev _root_.YF:=List Sl
variable {c:Cf}{g':Gh}{m m':Mo}{s s' s0 z:Sl}
section
structure Wf(g:Gh)(m:Mo):Prop where
 tk:(m.slots.map (·.tk)).Pairwise (·<·)
 t0:∀s∈m.slots,0<=s.tk
 sn:m.slots.length<64
 sw:∀s∈m.slots,s.ws.length=s.row.nw/\s.bJ.length=s.row.nw
 wn:(m.wk.map (·.1)).Nodup
 wl:m.wk.length<64
 kn:(m.kp.map (·.1)).Pairwise (·<·)
 kl:m.kp.length<64
 bn:(m.bg.map (·.1)).Nodup
 bl:m.bg.length<64
 fn:(g.kf.map (·.1)).Nodup
 fk:∀x f,aY g.kf x=aA f->0<=x/\x<8
 fo:∀x,aY g.kf x=aD->m.fl x=[]
 ff:∀x,(m.fl x).length<99999
structure nV(c:Cf)(L:Nat)(Sg Sn:Xp)(h:AH):Prop where
 g:Gs h L 1 c.gu Sg
 n:Gs h L 1 c.nv Sn
 dj:∀j∈Sg,j∉Sn
 lg:∀j∈Sg,j<c.b
 ln:∀j∈Sn,j<c.b
 lo:∀p∈c.lo,p.1∉Sg/\p.1∉Sn/\p.1<c.b/\h.ob p.1=aA p.2
structure aJ(c:Cf)(g:Gh)(m:Mo)(h:AH):Prop where
 X:jH c.b g.kd (m.fS c g) (m.dyn c g) h
 G:∃Sg Sn,nV c (m.cD.length+10) Sg Sn h
 W:Wf g m
variable {g:Gh}
theorem aJ.at(r:aJ c g m h)(i:Nat)(e:(m.fS c g)[i]?=aA (aA o):=by rfl):h.ob (c.b+i)=aA o:=(r.X.st i o e).2.2
theorem aJ.lt(r:aJ c g m h)(i:Nat)(e:(m.fS c g)[i]?=aA (aA o):=by rfl):c.b+i<h.nx:=(r.X.st i o e).2.1
theorem aJ.bx(r:aJ c g m h):c.b<=h.nx:=xV (uz (pP ..)<|r.lt 0)
theorem aJ.kH(r:aJ c g m h):h.ob g.sl=aA (.lst aB<|m.slots.map λs=>.ref s.a)/\g.sl<h.nx/\g.kd g.sl=15:=have z:=r.X.dy 15 g.sl _ (aV _) rfl;⟨z.2.2.2,z.2.2.1,z.1⟩
theorem vG{l:YF}(hs:s∈l)(hp:(l.map (·.tk)).Pairwise (·<·)):l.find? (λz=>decide (z.tk=s.tk))=aA s:=by
 induction l with
 |nil=>cases hs|cons z l a=>
  rw[jC,Qk]at hp;rw[nP];rcases List.mem_cons.mp hs with rfl|hs
  .simp
  .have:decide (z.tk=s.tk)=aG:=decide_eq_false λw=>by have:=hp.1 s.tk (List.mem_map.mpr ⟨s,hs,rfl⟩);omega
   rw[this];exact a hs hp.2
def kC(t:Int):Nat:=30+2*t.toNat
theorem pZ{t:Int}(h:0<=t):(((kC t:Nat):Int)-30) / 2=t/\(((kC t+1:Nat):Int)-30) / 2=t/\kC t%2=0/\(kC t+1)%2=1/\30<=kC t:=by obtain⟨n,rfl⟩:=bo h;show((30+2*n:Nat)-30:Int) / 2=n/\((30+2*n+1:Nat)-30:Int) / 2=n/\(30+2*n)%2=0/\(30+2*n+1)%2=1/\30<=30+2*n;omega
theorem xj{t:Int}{k:Nat}(h:0<=t)(e:((k:Int)-30) / 2=t):k=kC t\/k=kC t+1:=by obtain⟨n,rfl⟩:=bo h;show k=30+2*n\/k=30+2*n+1;omega
theorem yZ(w:Wf g m)(hs:s∈m.slots):m.dyn c g (kC s.tk)=aA (s.a,.ins 18 ((s.lt c.room).fs (s.a+2))):=by have z:=pZ (w.t0 s hs);unfold Mo.dyn;rw[if_neg (by omega),if_neg (by omega),z.1,vG hs w.tk,xX,if_pos z.2.2.1]
theorem zF(w:Wf g m)(hs:s∈m.slots):m.dyn c g (kC s.tk+1)=aA (s.a+2,.lst aB (s.ws.map oI)):=by have z:=pZ (w.t0 s hs);unfold Mo.dyn;rw[if_neg (by omega),if_neg (by omega),z.2.1,vG hs w.tk,xX,if_neg (by omega)]
theorem aJ.cJ(r:aJ c g m h)(hs:s∈m.slots):h.ob s.a=aA (.ins 18<|(s.lt c.room).fs (s.a+2)):=(r.X.dy _ _ _ (by have:=pZ (r.W.t0 s hs);omega)<|yZ r.W hs).2.2.2
theorem aJ.jn(r:aJ c g m h)(hs:s∈m.slots):h.ob (s.a+2)=aA (.lst aB<|s.ws.map oI):=(r.X.dy _ _ _ (by have:=pZ (r.W.t0 s hs);omega)<|zF r.W hs).2.2.2
theorem aJ.FX(r:aJ c g m h)(hs:s∈m.slots):s.a+2<h.nx:=(r.X.dy _ _ _ (by have:=pZ (r.W.t0 s hs);omega)<|zF r.W hs).2.2.1
theorem aJ.xf(r:aJ c g m h):pQ h (c.b+6) (c.b+7) c.tb m.wk:=⟨r.at 6,r.at 7,r.lt 6,r.lt 7,by have:=r.W.wl;omega,r.W.wn⟩
theorem aJ.shr(r:aJ c g m h):lE h (c.b+8) (c.b+9) (c.b+10) m.kp m.bg:=⟨r.at 8,r.at 9,r.at 10,r.lt 8,r.lt 9,r.lt 10,by omega,r.W.kl,r.W.bl,r.W.kn,r.W.bn⟩
theorem AQ(w:Wf g m):g.kf.length<=8:=by
 have:=Pt w.fn λx a=>by obtain⟨p,b,rfl⟩:=List.mem_map.mp a;have:=w.fk _ _ (nC w.fn b);obtain⟨n,e⟩:=bo this.1;rw[e]at this ⊢;exact(by decide +kernel:∀n:Nat,n<8->(n:Int)∈([0,1,2,3,4,5,6,7]:Xj)) n<|Int.ofNat_lt.mp this.2
 rw[aU]at this;exact this
theorem wQ{f:Nat}(w:Wf g m)(e:aY g.kf x=aA f):m.dyn c g (16+x.toNat)=aA (f,.lst aB ((m.fl x).map .int)):=by have:=w.fk x f e;unfold Mo.dyn;rw[if_neg (by omega),if_pos (by omega),show((16+x.toNat:Nat):Int)-16=x by omega,e];rfl
theorem aJ.Ke(r:aJ c g m h):lD h (c.b+4) (c.b+5) g.kf m.fl:=⟨r.at 4,r.at 5,r.lt 4,r.lt 5,r.W.fn,by have:=AQ r.W;omega,λx f e=>have z:=r.X.dy _ _ _ (by omega) (wQ r.W e);⟨z.2.2.1,z.2.2.2⟩,r.W.fo,λx y f a b=>by have d:=(r.X.dy _ _ _ (by omega)<|wQ r.W b).1;rw[<- Ps (r.W.fk x f a).1,Nat.add_left_cancel (((r.X.dy _ _ _ (by omega)<|wQ r.W a).1).symm.trans d),Ps (r.W.fk y f b).1],λx=>by have:=r.W.ff x;omega⟩
theorem nV.low{L':Nat}(z:nV c L Sg Sn h)(hl:L<=L')(e:∀n,n<c.b->h'.ob n=h.ob n):nV c L' Sg Sn h':=⟨z.g.kp hl λj a=>e j (z.lg j a),z.n.kp hl λj a=>e j (z.ln j a),z.dj,z.lg,z.ln,λp b=>have y:=z.lo p b;⟨y.1,y.2.1,y.2.2.1,(e _ y.2.2.1).trans y.2.2.2⟩⟩
theorem Kx.lowG(x:Kx S h h')(hb:c.b<=h.nx)(hs:∀n∈S,c.b<=n):∀n,n<c.b->h'.ob n=h.ob n:=λn hn=>x.ob n (bC hn hb) λz=>lA _ (bC hn<|hs n z)
theorem aJ.keep(r:aJ c g m h)(k:Kp h h'):aJ c g m h':=⟨r.X.keep k,r.G.imp λa=>xP λb z=>z.low (aV _) λn hn=>k.ob n (bC hn r.bx),r.W⟩
theorem aJ.wX(r:aJ c g m h)(i:Nat){o o':bG}(kx:Kx [c.b+i] h h')(e':h'.ob (c.b+i)=aA o')(w:Wf g m')(hs:m'.fS c g=(m.fS c g).set i (aA o'))(hd:m'.dyn c g=m.dyn c g)(hl:m.cD.length<=m'.cD.length)(hi:i<15:=by decide)(e:(m.fS c g)[i]?=aA (aA o):=by rfl):aJ c g m' h':=
 ⟨by rw[hs,hd];exact r.X.wX hi e kx e',r.G.imp λa=>xP λb z=>z.low (by omega) (kx.lowG r.bx λn hn=>by rw[List.mem_singleton.mp hn];exact pP ..),w⟩
theorem aJ.sV(r:aJ c g m h)(i:Nat)(w:Wf g m')(hs:m'.fS c g=(m.fS c g).set i (aA o'))(hd:m'.dyn c g=m.dyn c g)(hl:m.cD.length<=m'.cD.length)(hi:i<15:=by decide)(e:(m.fS c g)[i]?=aA (aA o):=by rfl):aJ c g m' (h.put (c.b+i) o'):=r.wX i (Kx.refl.put (by simp)) bD w hs hd hl hi e
end
section
variable {k:Nat}{g:Gh}
def Mo.slot(m:Mo)(t:Int):Option Sl:=m.slots.find? λs=>decide (s.tk=t)
def aO:Option Sl->AV
 |some s=>.ref s.a
 |none=>.aH
theorem Gw{α:Type}{l:List α}{x:α}(e:l[i]?=aA x):l.drop i=x::l.drop (i+1):=by rw[Pu ((List.getElem?_eq_some_iff.mp e).1),(List.getElem?_eq_some_iff.mp e).2]
theorem GG{t:Hc}(r:aJ c g m h)(q:R (aO<|t.bind m.slot) h):WC (run pg (k+1) 111 [.ref (c.b+1),oI t]) h R:=by
 have sn:=r.W.sn;refine aT rfl rfl<|WB.of<|lO<|mU<|aC.of (r.at 1)<|nO r.kH.1 ?_;refine qN (λj a b=>b=h/\(∃v2,a=[aA (.ref<|c.b+1),aA (oI t),v2])/\t.bind m.slot=t.bind λt=>(m.slots.drop j).find? λs=>decide (s.tk=t)) (by rw[aU,eZ];omega) ⟨rfl,⟨_,rfl⟩,rfl⟩ (λ_ _ _ y=>y.1▸r.kH.1) (λj x a b d y=>?_)<|λa b y=>?_
 .obtain⟨rfl,⟨v2,rfl⟩,e⟩:=y;obtain⟨s,hr,rfl⟩:=jR d;rw[Gw hr]at e;cases t with
  |none=>exact iZ _<|gE _<|aC.of (r.cJ<|bX hr)<|WC.of<|By rfl ⟨rfl,⟨_,rfl⟩,rfl⟩|some t=>
   rw[jM,jM,nP]at e;refine iZ _<|gE _<|aC.of (r.cJ<|bX hr)<|aE.dc (λz=>?_) λz=>?_
   .rw[show(decide<|s.tk=t)=aB from decide_eq_true z]at e;rw[jM,e]at q;exact q
   .rw[show(decide<|s.tk=t)=aG from decide_eq_false z]at e;exact⟨rfl,⟨_,rfl⟩,e⟩
 .obtain⟨rfl,⟨v2,rfl⟩,e⟩:=y;rw[aU,Dd]at e;rw[e]at q;cases t<;>exact q
theorem GH{t:Int}(r:aJ c g m h)(q:R (aO<|m.slot t) h):WC (run pg (k+1) 111 [.ref (c.b+1),.int t]) h R:=GG (t:=aA t) r q
def Mo.cut(m:Mo)(t:Int):Mo:={ m with slots:=m.slots.filter λs=>decide (s.tk<t),kI:=m.kI+((m.slots.length:Int)-((m.slots.filter λs=>decide (s.tk<t)).length:Int)),fl:=λx=>lW t (m.fl x),wk:=m.wk.filter λp=>!decide (t<=p.1),kp:=m.kp.filter λp=>!decide (t<=p.1),bg:=m.bg.filter λp=>!decide (t<=p.1) }
theorem p8{l l':YF}(hl:l'.Sublist l)(hp:(l.map (·.tk)).Pairwise (·<·))(e:l'.find? (λs=>decide (s.tk=u))=aA s):l.find? (λs=>decide (s.tk=u))=aA s:=by have a:=Px e;simp only[decide_eq_true_eq]at a;subst a;exact vG (hl.subset<|cf e) hp
theorem DL{x y:bG}:(h.put n x).put n y=h.put n y:=by
 unfold AH.put;congr 1
 funext i
 dsimp only;split<;>rfl
theorem Wf.Bh{sl':YF}{th a1:Int}(w:Wf g m)(hs:sl'.Sublist m.slots)(eg:g'.kf=g.kf):Wf g' { m with slots:=sl',kI:=th,ah:=a1 }:=
 ⟨vN (hs.map _) w.tk,λs hm=>w.t0 s (hs.subset hm),uz hs.length_le w.sn,λs hm=>w.sw s (hs.subset hm),w.wn,w.wl,w.kn,w.kl,w.bn,w.bl,eg▸w.fn,eg▸w.fk,eg▸w.fo,w.ff⟩
theorem aJ.Bh{sl':YF}{n:Nat}{th:Int}(r:aJ c g m h)(k1:Kp h h')(hn:h.nx<=n)(hn':n<h'.nx)(on:h'.ob n=aA (.lst aB<|sl'.map λs=>.ref s.a))(hs:sl'.Sublist m.slots) :
  aJ c { g with sl:=n,kd:=λi=>if i=n then 15 else g.kd i } { m with slots:=sl',kI:=th } (h'.put (c.b+1)<|.ins 19<|{ m with slots:=sl',kI:=th }.wf c n):=by
 have a:=r.keep k1;have w:=r.W.Bh (th:=th) (a1:=m.ah) (g':={ g with sl:=n,kd:=λi=>if i=n then 15 else g.kd i }) hs rfl;have b:jH c.b (λi=>if i=n then 15 else g.kd i) (m.fS c g) ({ m with slots:=sl',kI:=th }.dyn c { g with sl:=n,kd:=λi=>if i=n then 15 else g.kd i }) h':=by
  refine r.X.newD (aV _) k1 hn hn' r.bx on rfl λj p k d e=>?_;unfold Mo.dyn at e ⊢;rw[if_neg d]at e ⊢;split
  .rename_i z;rw[if_pos z]at e;exact e
  .rename_i z;rw[if_neg z]at e;obtain⟨s,f,rfl⟩:=Option.map_eq_some_iff.mp e;rw[p8 hs r.W.tk f];rfl
 exact⟨b.sV (i:=1) (by decide) rfl,a.G.imp λl=>xP λo z=>z.low (aV _) ((Kx.refl.put (by simp):Kx [c.b+1] h' _).lowG a.bx λn hn=>by rw[List.mem_singleton.mp hn];exact pP ..),w⟩
end
section
variable {k:Nat}{g:Gh}
theorem aJ.nf(r:aJ c g m h){k:Nat}(hk:g.kd n=k)(hn:k<16\/24<=k):n∉g.kf.map (·.2):=λz=>by obtain⟨p,a,rfl⟩:=List.mem_map.mp z;have e:=nC r.W.fn a;have:=r.W.fk _ _ e;have:=(r.X.dy _ _ _ (by omega)<|wQ r.W e).1;omega
theorem aJ.N9{fl':Int->Xj}(r:aJ c g m h)(N:lD h' (c.b+4) (c.b+5) g.kf fl')(kx:Kx (g.kf.map (·.2)) h h')(hf:∀x,(fl' x).length<=(m.fl x).length):aJ c g { m with fl:=fl' } h':=by
 refine⟨⟨λi o e=>?_,λk n o d e=>?_⟩,r.G.imp λt=>xP λu z=>z.low (aV _) (kx.lowG r.bx λn hn=>?_),⟨r.W.tk,r.W.t0,r.W.sn,r.W.sw,r.W.wn,r.W.wl,r.W.kn,r.W.kl,r.W.bn,r.W.bl,r.W.fn,r.W.fk,N.no,λx=>uz (hf x) (r.W.ff x)⟩⟩
 .have z:=r.X.st i o e;have b:=(List.getElem?_eq_some_iff.mp e).1;have b:i<15:=b;exact⟨z.1,bC z.2.1 kx.nx,kx.get z.2.1 (r.nf z.1 (by omega)) z.2.2⟩
 .by_cases j:16<=k/\k<30
  .unfold Mo.dyn at e;rw[if_neg (by omega),if_pos j.2]at e;obtain⟨f,a,l⟩:=Option.map_eq_some_iff.mp e;cases l;have z:=r.X.dy _ _ _ (by omega) (wQ r.W a);exact⟨by omega,z.2.1,(N.ls _ _ a).1,(N.ls _ _ a).2⟩
  .have q:m.dyn c g k=aA (n,o):=by
    unfold Mo.dyn at e ⊢;split
    .rename_i z;rw[if_pos z]at e;exact e
    .rename_i z;rw[if_neg z,if_neg (by omega)]at e;rw[if_neg (by omega)];exact e
   have z:=r.X.dy k n o d q;exact⟨z.1,z.2.1,bC z.2.2.1 kx.nx,kx.get z.2.2.1 (r.nf z.1 (by omega)) z.2.2.2⟩
 .obtain⟨p,s,rfl⟩:=List.mem_map.mp hn;exact(r.X.dy _ _ _ (by omega)<|wQ r.W<|nC r.W.fn s).2.1
theorem aJ.sh2(r:aJ c g m h)(kx:Kx [c.b+9,c.b+10] h h')(e1:h'.ob (c.b+9)=aA (.aR<|dE lJ kp'))(e2:h'.ob (c.b+10)=aA (.aR<|dE lT bg'))(kn:(kp'.map (·.1)).Pairwise (·<·))(kl:kp'.length<64)(bn:(bg'.map (·.1)).Nodup)(bl:bg'.length<64):aJ c g { m with kp:=kp',bg:=bg' } h':=by
 refine⟨⟨λi o e=>?_,λk n o d e=>?_⟩,r.G.imp λl=>xP λp z=>z.low (aV _) (kx.lowG r.bx λn hn=>?_),⟨r.W.tk,r.W.t0,r.W.sn,r.W.sw,r.W.wn,r.W.wl,kn,kl,bn,bl,r.W.fn,r.W.fk,r.W.fo,r.W.ff⟩⟩
 .by_cases b:i=9
  .subst b;cases e;have z:=r.X.st 9 _ rfl;exact⟨z.1,bC z.2.1 kx.nx,e1⟩
  .by_cases a:i=10
   .subst a;cases e;have z:=r.X.st 10 _ rfl;exact⟨z.1,bC z.2.1 kx.nx,e2⟩
   .have f:(m.fS c g)[i]?=aA (aA o):=by rw[show Mo.fS { m with kp:=kp',bg:=bg' } c g=((m.fS c g).set 9 (aA<|.aR<|dE lJ kp')).set 10 (aA<|.aR<|dE lT bg') from rfl,kZ λw=>a w.symm,kZ λw=>b w.symm]at e;exact e
    have z:=r.X.st i o f;exact⟨z.1,bC z.2.1 kx.nx,kx.get z.2.1 (by simp;omega) z.2.2⟩
 .have z:=r.X.dy k n o d e;have j:=(r.X.st 9 _ rfl).1;refine⟨z.1,z.2.1,bC z.2.2.1 kx.nx,kx.get z.2.2.1 (λw=>?_) z.2.2.2⟩;rcases List.mem_cons.mp w with w|w
  .rw[w,j]at z;omega
  .rw[List.mem_singleton.mp w,((r.X.st 10 _ rfl).1)]at z;omega
 .rcases List.mem_cons.mp hn with w|w
  .rw[w];exact pP ..
  .rw[List.mem_singleton.mp w];exact pP ..
theorem zG{β:Type}{l:List β}{f:β->Bool}(h:l.length<n):(l.filter f).length<n:=uz (pN ..) h
theorem Bo{t:Int}(r:aJ c g m h)(q:∀v g' h',aJ c g' (m.cut t) h'->h.nx<=h'.nx->(∀n,n<h.nx->28<=g.kd n->h'.ob n=h.ob n/\g'.kd n=g.kd n)->R v h'):WC (run pg (k+2) 115 [.ref (c.b+1),.int t]) h R:=by
 have sn:=r.W.sn;have big:=kG;refine aT rfl rfl<|WC.of<|aPx<|mU<|aC.of (r.at 1)<|nO r.kH.1 ?_;refine WH (n:=g.sl) (bb:=aB) (λj B C h'=>h'=h/\(∃v0,C=[v0,aA (.int t)])/\B=(((m.slots.take j).filter λs:Sl=>decide (s.tk<t)).map λs=>.ref s.a)) (by rw[aU,eZ];omega) ⟨rfl,⟨_,rfl⟩,rfl⟩ (λ_ _ _ _ y=>y.1▸r.kH.1) (λj x B C h' H y=>?_)<|λB C h' y=>?_
 .obtain⟨rfl,⟨v0,rfl⟩,rfl⟩:=y;obtain⟨s,hr,rfl⟩:=jR H;have D:m.slots.take (j+1)=m.slots.take j++[s]:=by rw[vO,hr];rfl
  refine oQ _<|aC.of (r.cJ<|bX hr) ?_;show if decide (s.tk<t)=aB then _ else _
  split
  .rename_i z;refine⟨?_,rfl,⟨_,rfl⟩,?_⟩
   .have O:((m.slots.take j).filter λs:Sl=>decide (s.tk<t)).length<=(m.slots.take j).length:=pN ..;have P:(m.slots.take j).length<=m.slots.length:=by rw[mJ];omega
    rw[aU];omega
   .rw[D,bz,hJ,jA,if_pos z];rfl
  .rename_i z;refine⟨rfl,⟨_,rfl⟩,?_⟩;rw[D,bz,hJ,jA,if_neg z];simp
 .obtain⟨rfl,⟨v0,rfl⟩,rfl⟩:=y;rw[aU,tJ];have k1:∀{o:bG},Kp h' (h'.new o):=Kp.refl.new;have u:=r.keep (k1 (o:=.lst aB (((m.slots.filter λs:Sl=>decide (s.tk<t)).map λs=>.ref s.a))));have key:∀{X Y:bG},Y = .ins 19 ({ m with slots:=m.slots.filter λs:Sl=>decide (s.tk<t),kI:=m.kI+(((m.slots.map λs:Sl=>AV.ref s.a).length:Int)-(((m.slots.filter λs:Sl=>decide (s.tk<t)).map λs:Sl=>AV.ref s.a).length:Int)) }.wf c h'.nx)->aJ c _ _ (((h'.new<|.lst aB<|((m.slots.filter λs:Sl=>decide (s.tk<t)).map λs=>.ref s.a)).put (c.b+1) X).put (c.b+1) Y):=λ{X Y} e=>by rw[DL,e];exact r.Bh k1 (aV _) (dA _) bM List.filter_sublist
  refine aC.of (u.at 1)<|aC.of (u.at 1)<|WC.of<|kK (cN u.kH.1)<|WC.of<|kK (cN bM)<|aC.of (u.at 1)<|aC.of bD ?_;have A:=key (X:=.ins 19 (gG "thrown" (.int<|m.kI+(((m.slots.map λs:Sl=>AV.ref s.a).length:Int)-(((m.slots.filter λs:Sl=>decide (s.tk<t)).map λs:Sl=>AV.ref s.a).length:Int)))<|m.wf c g.sl)) rfl;refine aC.of (A.at 1)<|aC.of (A.at 4)<|P0 (k:=k) A.Ke λQ S I b=>?_;have a:=A.N9 I b λx=>DF _ _;refine aC.of (a.at 1)<|aC.of (a.at 6)<|VA (k:=k) a.xf λv4 T d J=>?_;have f:=a.wX (m':={ m with slots:=m.slots.filter λs:Sl=>decide (s.tk<t),kI:=m.kI+(((m.slots.map λs:Sl=>AV.ref s.a).length:Int)-(((m.slots.filter λs:Sl=>decide (s.tk<t)).map λs:Sl=>AV.ref s.a).length:Int)),fl:=λx=>lW t (m.fl x),wk:=m.wk.filter λp=>!decide (t<=p.1) }) 7 d J ⟨a.W.tk,a.W.t0,a.W.sn,a.W.sw,oC a.W.wn,zG a.W.wl,a.W.kn,a.W.kl,a.W.bn,a.W.bl,a.W.fn,a.W.fk,a.W.fo,a.W.ff⟩ rfl rfl (aV _);refine aC.of (f.at 1)<|aC.of (f.at 8)<|aKo (k:=k) f.shr λU V l K L=>?_;have E:=f.sh2 l K L (vN (List.filter_sublist.map _) f.W.kn) (zG f.W.kl) (oC f.W.bn) (zG f.W.bl);rw[aU,aU]at E;refine q _ _ _ E (dF (jL _)<|dF b.nx<|dF d.nx l.nx) λn hn M=>?_;have nb:∀i o,i<15->(m.fS c g)[i]?=aA (aA o)->n≠c.b+i:=λi o W e w=>by rw[w,(r.X.st i o e).1]at M;omega
  have F:n<h'.nx+1:=kN hn;have G:=bC F b.nx;have N:=bC G d.nx;refine⟨?_,if_neg (cA hn)⟩;rw[l.ob n N (by simp only[kL,kM,or_false];exact λw=>w.elim (nb 9 _ (by decide) rfl) (nb 10 _ (by decide) rfl)),d.ob n G (by simp only[kL,kM,or_false];exact nb 7 _ (by decide) rfl),b.ob n F (r.nf rfl (by omega)),aX (nb 1 _ (by decide) rfl),aX (nb 1 _ (by decide) rfl),eF (cA hn)]
structure iO(c:Cf)(g:Gh)(h:AH)(g':Gh)(h':AH):Prop where
 nx:h.nx<=h'.nx
 ob:∀n,n<h.nx->28<=g.kd n->c.b<=n->h'.ob n=h.ob n/\g'.kd n=g.kd n
theorem iO.refl:iO c g h g h:=⟨aV _,λ_ _ _ _=>⟨rfl,rfl⟩⟩
theorem iO.trans{g2:Gh}{h2:AH}(x:iO c g h g' h')(y:iO c g' h' g2 h2):iO c g h g2 h2:=⟨dF x.nx y.nx,λn hn d hb=>by have a:=x.ob n hn d hb;have b:=y.ob n (bC hn x.nx) (a.2▸d) hb;exact⟨b.1.trans a.1,b.2.trans a.2⟩⟩
theorem iO.low(kx:Kx S h h')(hs:∀n∈S,n<c.b):iO c g h g h':=⟨kx.nx,λn hn _ hb=>⟨kx.ob n hn λz=>by have:=hs n z;omega,rfl⟩⟩
theorem iO.put{i:Nat}{o o':bG}(r:aJ c g m h)(hi:i<15)(e:(m.fS c g)[i]?=aA (aA o)):iO c g h g (h.put (c.b+i) o'):=⟨aV _,λn _ a _=>⟨aX λw=>by rw[w,(r.X.st i o e).1]at a;omega,rfl⟩⟩
end
section
variable {k:Nat}{g g2:Gh}
structure bL(c:Cf)(g:Gh)(h:AH)(g':Gh)(h':AH):Prop where
 nx:h.nx<=h'.nx
 ob:∀n,n<h.nx->g.kd n=28->c.b<=n->h'.ob n=h.ob n/\g'.kd n=28
theorem bL.refl:bL c g h g h:=⟨aV _,λ_ _ e _=>⟨rfl,e⟩⟩
theorem bL.trans(x:bL c g h g' h')(y:bL c g' h' g2 h2):bL c g h g2 h2:=⟨dF x.nx y.nx,λn hn d hb=>by have a:=x.ob n hn d hb;have b:=y.ob n (bC hn x.nx) a.2 hb;exact⟨b.1.trans a.1,b.2⟩⟩
theorem bL.keep(k:Kp h h'):bL c g h g h':=⟨k.nx,λn hn a _=>⟨k.ob n hn,a⟩⟩
theorem bL.put{n:Nat}{o:bG}(hk:g.kd n≠28):bL c g h g (h.put n o):=⟨aV _,λi _ e _=>⟨aX λz=>hk (z▸e),e⟩⟩
theorem bL.st{i:Nat}{o:bG}(r:aJ c g m h)(hi:i<15)(e:∃o,(m.fS c g)[i]?=aA (aA o)):bL c g h g (h.put (c.b+i) o):=bL.put (by obtain⟨o,e⟩:=e;rw[(r.X.st i o e).1];omega)
theorem bL.of(n:h.nx<=h'.nx)(f:∀n,n<h.nx->28<=g.kd n->h'.ob n=h.ob n/\g'.kd n=g.kd n):bL c g h g' h':=⟨n,λi a e _=>have z:=f i a (by omega);⟨z.1,z.2.trans e⟩⟩
theorem aJ.qo(r:aJ c g m h)(hs:s∈m.slots):g.kd s.a≠28/\g.kd (s.a+2)≠28:=by have z:=pZ (r.W.t0 s hs);have a:=(r.X.dy _ _ _ (by omega)<|yZ r.W hs).1;have b:=(r.X.dy _ _ _ (by omega)<|zF r.W hs).1;omega
theorem bL.t7(f:iO c g h g' h'):bL c g h g' h':=⟨f.nx,λn hn a hb=>have z:=f.ob n hn (by omega) hb;⟨z.1,z.2.trans a⟩⟩
theorem bL.kx{i:Nat}(r:aJ c g m h)(hi:i<15)(e:∃o,(m.fS c g)[i]?=aA (aA o))(kx:Kx [c.b+i] h h'):bL c g h g h':=⟨kx.nx,λn hn a _=>⟨kx.ob n hn λz=>by obtain⟨o,e⟩:=e;rw[List.mem_singleton.mp z,(r.X.st i o e).1]at a;omega,a⟩⟩
end
section
variable {k:Nat}{g:Gh}
theorem Yf{l:YF}(hs:l[i]?=aA s)(ht:s'.tk=s.tk)(hp:(l.map (·.tk)).Pairwise (·<·)):(l.set i s').find? (λz=>decide (z.tk=u))=if u=s.tk then aA s' else l.find? λz=>decide (z.tk=u):=by
 induction l generalizing i with
 |nil=>cases hs|cons z l b=>
  rw[jC,Qk]at hp;cases i with
  |zero=>
   cases hs;rw[Qp,nP,nP,ht];by_cases e:u=s.tk
   .rw[if_pos e,decide_eq_true e.symm]
   .rw[if_neg e,decide_eq_false λw=>e w.symm]
  |succ i=>
   have a:l[i]?=aA s:=hs;rw[Qo,nP,nP,b a hp.2];by_cases e:z.tk=u
   .have:=hp.1 s.tk (List.mem_map.mpr ⟨s,bX a,rfl⟩);rw[decide_eq_true e];show aA z=if u=s.tk then aA s' else aA z
    rw[if_neg (by omega)]
   .rw[decide_eq_false e]
theorem gz{α β:Type}{f:α->β}{l:List α}{s s':α}(hs:l[i]?=aA s)(e:f s'=f s):(l.set i s').map f=l.map f:=by
 rw[uy,e];refine KA λj=>?_;rw[KN];split
 .rename_i z;subst z;rw[fH,hs,aU,if_pos (List.getElem?_eq_some_iff.mp hs).1];rfl
 .rfl
theorem BR{l:YF}(hz:z∈l.set i s'):z∈l\/z=s':=by
 rcases Dp hz with h|h
 .exact .inl h
 .exact .inr h
theorem Wf.cX(w:Wf g m)(hs:m.slots[i]?=aA s)(ht:s'.tk=s.tk)(hw:s'.ws.length=s.ws.length)(hn:s'.bJ=s.bJ)(hr:s'.row=s.row):Wf g { m with slots:=m.slots.set i s' }:=
 have hm:=bX hs
 ⟨by rw[gz hs ht];exact w.tk,λz a=>(BR a).elim (w.t0 z) λe=>by rw[e,ht];exact w.t0 s hm,by rw[pO];exact w.sn,λz a=>(BR a).elim (w.sw z) λe=>by rw[e,hw,hn,hr];exact w.sw s hm,w.wn,w.wl,w.kn,w.kl,w.bn,w.bl,w.fn,w.fk,w.fo,w.ff⟩
theorem Wy(hs:m.slots[i]?=aA s)(w:Wf g m)(ha:s'.a=s.a)(ht:s'.tk=s.tk){p:Nat×bG}(h1:15<=j)(e:({ m with slots:=m.slots.set i s' }:Mo).dyn c g j=aA p):m.dyn c g j=aA p\/((j:Int)-30) / 2=s.tk/\30<=j/\p=if j%2=0 then(s.a,.ins 18 ((s'.lt c.room).fs (s.a+2))) else(s.a+2,.lst aB (s'.ws.map oI)):=by
 unfold Mo.dyn at e ⊢;split
 .rename_i z;rw[if_pos z]at e;rw[<- e,gz hs (by rw[ha])];exact .inl rfl
 .rename_i z;rw[if_neg z]at e;split
  .rename_i a;rw[if_pos a]at e;exact .inl e
  .rename_i a;rw[if_neg a,Yf hs ht w.tk]at e;by_cases b:(j-30) / 2=s.tk
   .rw[if_pos b,xX,ha]at e;exact .inr ⟨b,by omega,(dR e).symm⟩
   .rw[if_neg b]at e;exact .inl e
theorem aJ.Jp(r:aJ c g m h)(hs:s∈m.slots):c.b<=s.a:=(r.X.dy _ _ _ (by have:=pZ (r.W.t0 s hs);omega)<|yZ r.W hs).2.1
theorem aJ.Jn(r:aJ c g m h)(hb:c.b<=n):∃Sg Sn,nV c (m.cD.length+10) Sg Sn (h.put n o):=r.G.imp λSg=>xP λSn z=>z.low (aV _) ((Kx.refl.put (by simp):Kx [n] h _).lowG r.bx λn hn=>by rw[List.mem_singleton.mp hn];exact hb)
theorem aJ.aJp(r:aJ c g m h)(hs:m.slots[i]?=aA s)(ha:s'.a=s.a)(ht:s'.tk=s.tk)(hw:s'.ws=s.ws)(hn:s'.bJ=s.bJ)(hr:s'.row=s.row):aJ c g { m with slots:=m.slots.set i s' } (h.put s.a<|.ins 18<|(s'.lt c.room).fs (s.a+2)):=by
 have hm:=bX hs;have w:=r.W.cX hs ht (by rw[hw]) hn hr;have z:=pZ (r.W.t0 s hm);have a:s'∈m.slots.set i s':=bX (mI (List.getElem?_eq_some_iff.mp hs).1);have b:=yZ (c:=c) w a;rw[ht,ha]at b;refine⟨r.X.AW (by omega) (aV _) (yZ r.W hm) (Kx.refl.put (by simp)) bD b λj p d f e=>?_,r.Jn (r.Jp hm),w⟩;rcases Wy hs r.W ha ht d e with e|⟨l,n,k⟩
 .exact e
 .have:j=kC s.tk+1:=(xj (r.W.t0 s hm) ‹_›).resolve_left f;subst this;rw[zF r.W hm,k,if_neg (by omega),hw]
theorem aJ.aPp{ws':Xv}(r:aJ c g m h)(hs:m.slots[i]?=aA s)(hf:s.fi=aD)(hl:ws'.length=s.ws.length):aJ c g { m with slots:=m.slots.set i { s with ws:=ws' } } (h.put (s.a+2)<|.lst aB<|ws'.map oI):=by
 have hm:=bX hs;have w:=r.W.cX (s':={ s with ws:=ws' }) hs rfl hl rfl rfl;have z:=pZ (r.W.t0 s hm);have a:{ s with ws:=ws' }∈m.slots.set i { s with ws:=ws' }:=bX (mI (List.getElem?_eq_some_iff.mp hs).1);have b:=zF (c:=c) w a;refine⟨r.X.AW (by omega) (aV _) (zF r.W hm) (Kx.refl.put (by simp)) bD b λj p d f e=>?_,r.Jn (by have:=r.Jp hm;omega),w⟩;rcases Wy (s':={ s with ws:=ws' }) hs r.W rfl rfl d e with e|⟨l,n,k⟩
 .exact e
 .have:j=kC s.tk:=(xj (r.W.t0 s hm) ‹_›).resolve_right f;subst this;rw[yZ r.W hm,k,if_pos (by omega)];unfold Sl.lt Sl.dd;rw[hf]
end
section
variable {k:Nat}{g:Gh}
def aN.kn:aN->cY
 |.way w _ _ _=>w.nm | .set _ _=>"set" |.move _ _=>"move" |.load _ _ _=>"load" |.store _ _ _=>"store" |.fZ _ _=>"jump" |.go _=>"go" |.fault _=>"fault"
def aN.tl:aN->Hd
 |.way _ x y z=>[.int x,.int y,.int z] | .set x v=>[.int x,.int v] | .move x y=>[.int x,.int y] | .load x y s=>[.int x,.int y,.int s] | .store x y s=>[.int x,.int y,.int s] | .fZ x t=>[.int x,.int t] | .go t=>[.int t] | .fault v=>[.int v]
theorem Uj:r.av = .tup (.str (aN.kn r)::aN.tl r):=by cases r<;>rfl
theorem gS{x:AV}:cM (x::xs) 0=aA x:=by unfold cM jP;rw[if_pos (by decide),if_pos (by rw[iB];omega)];rfl
def dS.fk(s:dS)(w:Nat):List (cY×AV):=[("ticket",.int s.tk),("at",.int s.pc),("row",.tup (.str (aN.kn s.row)::aN.tl s.row)),("names",.tup (s.bJ.map oI)),("words",.ref w),("chosen",.int s.ch),("dares",.bl s.dr),("source",oI s.src),("held",oI s.dZ),("deed",s.dd),("put",.int s.put),("started",oI s.st),("finished",oI s.fi),("off",oI s.of)]
theorem Yn{s:dS}{w:Nat}:s.fs w=s.fk w:=by unfold dS.fs dS.fk;rw[Uj]
theorem aJ.lN(r:aJ c g m h)(hs:s∈m.slots):h.ob s.a=aA (.ins 18<|(s.lt c.room).fk (s.a+2)):=by rw[<- Yn];exact r.cJ hs
theorem gw:aN.kn r=("store":cY)↔∃x y d,r = .store x y d:=by
 constructor
 .intro e;cases r with
  |store x y d=>exact⟨x,y,d,rfl⟩|way w=>exact absurd e<|CA w|_=>simp only[aN.kn]at e;exact absurd e (by decide +kernel)
 .rintro ⟨x,y,d,rfl⟩;rfl
theorem gr:aN.kn r=("load":cY)↔∃x y d,r = .load x y d:=by
 constructor
 .intro e;cases r with
  |load x y d=>exact⟨x,y,d,rfl⟩|way w=>exact absurd e<|BZ w|_=>simp only[aN.kn]at e;exact absurd e (by decide +kernel)
 .rintro ⟨x,y,d,rfl⟩;rfl
theorem qp:aN.kn r=("jump":cY)↔∃x t,r = .fZ x t:=by
 constructor
 .intro e;cases r with
  |fZ x t=>exact⟨x,t,rfl⟩|way w=>exact absurd e<|Kd w|_=>simp only[aN.kn]at e;exact absurd e (by decide +kernel)
 .rintro ⟨x,t,rfl⟩;rfl
def Mo.cX(m:Mo)(i:Nat)(s:Sl):Mo:={ m with slots:=m.slots.set i s }
def Ao:Option Sl->Int
 |some s=>s.pc
 |none=>0
def Mo.place(m:Mo)(t p:Int)(w:Hc):Mo:=match pX m.bg t p with
 |none=>{ m with kp:=eU m.kp t (aA p,w) }
 |some b=>({ m with kp:=eU m.kp t (aA p,w),ah:=Ao (m.slot b) }:Mo).cut b
def Mo.give(m:Mo)(i j:Nat)(w:Int):Mo:=match m.slots[i]? with
 |none=>m
 |some s=>match s.row,aY m.kp s.tk with
  |.store _ _ d,aA e=>if j=0 then { m.cX i { s with ws:=s.ws.set j (aA w) }with kp:=eU m.kp s.tk (e.1,aA w) } else(m.cX i { s with ws:=s.ws.set j (aA w) }).place s.tk (w+d) e.2
  |_,_=>m.cX i { s with ws:=s.ws.set j (aA w) }
structure yK(m:Mo)(s:Sl)(j:Nat):Prop where
 fi:s.fi=aD
 jl:j<s.ws.length
 kp:∀x y d,s.row = .store x y d->∃e,aY m.kp s.tk=aA e/\(j=0->e.2=aD)/\(j=1->e.1=aD)
 bt:∀t p b,pX m.bg t p=aA b->∃s,m.slot b=aA s
theorem aKc{w:Nat}{s:dS}{d:Int}(o:h.ob n=aA (.ins 18<|s.fs w))(er:s.row = .store x y d)(ow:h.ob w=aA (.lst aB [oI w0,.int w1]))(q:R (.int<|w1+d) h):WC (run pg (k+2) 107 [.ref n]) h R:=by obtain⟨tk,pc,r,bJ,ch,dr,src,dZ,dd,pt,st,fi,of⟩:=s;cases er;exact aT rfl rfl<|aC.of o<|aC.of o<|WC.of<|xM (cN ow)<|aT rfl rfl q
theorem aJ.AS(r:aJ c g m h)(kn:(kp'.map (·.1)).Pairwise (·<·))(kl:kp'.length<64):aJ c g { m with kp:=kp' } (h.put (c.b+9)<|.aR<|dE lJ kp'):=
 r.sV 9 ⟨r.W.tk,r.W.t0,r.W.sn,r.W.sw,r.W.wn,r.W.wl,kn,kl,r.W.bn,r.W.bl,r.W.fn,r.W.fk,r.W.fo,r.W.ff⟩ rfl rfl (aV _)
theorem aJ.AR{t:Int}{e v:Hc×Hc}(r:aJ c g m h)(hk:aY m.kp t=aA e):aJ c g { m with kp:=eU m.kp t v } (h.put (c.b+9)<|.aR<|dE lJ<|eU m.kp t v):=
 r.AS (by rw[As hk];exact r.W.kn) (by rw[<- aU,As hk,aU];exact r.W.kl)
theorem aJ.tS(r:aJ c g m h):aJ c g { m with ah:=a } (h.put (c.b+1)<|.ins 19<|{ m with ah:=a }.wf c g.sl):=
 r.sV 1 ⟨r.W.tk,r.W.t0,r.W.sn,r.W.sw,r.W.wn,r.W.wl,r.W.kn,r.W.kl,r.W.bn,r.W.bl,r.W.fn,r.W.fk,r.W.fo,r.W.ff⟩ rfl rfl (aV _)
end
section
variable {k:Nat}{g:Gh}
theorem aAs{d:Int}{e2:Hc}(r:aJ c g m h)(hs:s∈m.slots)(er:s.row = .store x y d)(ew:s.ws=[w0,aA w1])(hk:aY m.kp s.tk=aA (aD,e2))(bt:∀b,pX m.bg s.tk (w1+d)=aA b->∃s,m.slot b=aA s)(q:∀v g' h',aJ c g' (m.place s.tk (w1+d) e2) h'->bL c g h g' h'->R v h'):WC (run pg (k+3) 114 [.ref (c.b+1),.ref s.a]) h R:=by
 have n:h.ob (s.a+2)=aA (.lst aB [oI w0,.int w1]):=by rw[r.jn hs,ew];rfl
 refine aT rfl rfl<|aC.of (r.at 1)<|aC.of (r.at 8)<|aC.of (r.cJ hs)<|aC.of (r.cJ hs)<|aKc (r.cJ hs) er n ?_;refine aAt (t:=s.tk) r.shr hk λo k1=>?_;have f:=(r.AR hk).keep k1;unfold Mo.place at q;have nx:bL c g h g o:=(bL.st r (by decide) ⟨_,rfl⟩).trans (bL.keep k1);cases i:pX m.bg s.tk (w1+d) with
 |none=>rw[i]at q;exact q _ _ _ f nx
 |some b=>obtain⟨j,e⟩:=bt b i;rw[i]at q;dsimp only at q;rw[e]at q;refine aC.of (f.at 1)<|GH f ?_;rw[show Mo.slot { m with kp:=eU m.kp s.tk (aA (w1+d),e2) } b=m.slot b from rfl,e];have hb:j∈m.slots:=cf e;refine aC.of (f.cJ hb)<|aC.of (f.at 1) ?_;have l:=f.tS (a:=j.pc);exact aC.of (l.at 1)<|Bo l λv g' h' p u w=>q _ _ _ p ((nx.trans<|bL.st f (by decide) ⟨_,rfl⟩).trans (bL.of u w))
theorem x5{j:Int}{w:AV}(r:aJ c g m h)(hs:s∈m.slots)(cs:¬aN.kn s.row=("store":cY))(q:R .aH h):eG (run pg<|k+3) (bO Um) [aA (.ref<|c.b+1),aA (.ref s.a),aA (.int j),aA w] h (λ_ h1=>R .aH h1) R (λ_ _=>False) λ_ _=>False:=
 aC.of (r.lN hs) (aC.of gS<|aE.df cs<|aC.of (r.lN hs)<|aC.of gS<|aE.df cs q)
theorem Zj(r:aJ c g m h)(hs:m.slots[i]?=aA s)(ea:s.a=n)(G:yK m s j)(q:∀v g' h',aJ c g' (m.give i j w) h'->bL c g h g' h'->R v h'):WC (run pg (k+4) 113 [.ref (c.b+1),.ref n,.int (j:Int),.int w]) h R:=by
 subst ea;have hm:=bX hs;have jl:=G.jl;refine aT rfl rfl<|aC.of (r.cJ hm)<|Co (r.jn hm) (by rw[aU];exact zt jl) ?_;rw[show((s.ws.map oI).set j (.int w))=(s.ws.set j<|aA w).map oI by rw[uy];rfl];have a:=r.aPp (ws':=s.ws.set j (aA w)) hs G.fi (pO ..);have nx:bL c g h g (h.put (s.a+2)<|.lst aB<|(s.ws.set j<|aA w).map oI):=bL.put (r.qo hm).2;revert a nx
 generalize h.put (s.a+2) (.lst aB<|(s.ws.set j<|aA w).map oI)=B;intro a nx;obtain⟨s1,o⟩:∃s1:Sl,s1={ s with ws:=s.ws.set j (aA w) }:=⟨_,rfl⟩;have ha:s1.a=s.a:=by rw[o]
 have ht:s1.tk=s.tk:=by rw[o]
 have hr:s1.row=s.row:=by rw[o]
 unfold Mo.give at q;rw[hs]at q;dsimp only at q;rw[<- o]at a q;have f:s1∈(m.cX i s1).slots:=bX (mI<|(List.getElem?_eq_some_iff.mp hs).1);rw[<- ha];by_cases cs:aN.kn s.row=("store":cY)
 .obtain⟨x,y,d,t⟩:=gw.mp cs;obtain⟨⟨p0,M⟩,p,D,E⟩:=G.kp x y d t;rw[t,p]at q;dsimp only at q;rw[<- ht]at p q;have l:aN.kn s1.row=("store":cY):=hr▸cs;by_cases C:j=0
  .subst C;cases D rfl;refine aC.of (a.lN f)<|aC.of gS<|aE.dt l<|aC.of (a.at 1)<|aC.of (a.at 8)<|aC.of (a.lN f)<|aPq a.shr p λv=>?_;have u:=a.AR (v:=(p0,aA w)) p;exact aC.of (u.lN f)<|aC.of gS<|aE.dt l<|q _ _ _ u<|nx.trans<|bL.st a (by decide) ⟨_,rfl⟩
  .rw[if_neg C]at q;have nw:=(r.W.sw s hm).1;rw[t]at nw;have nw:s.ws.length=2:=nw;have F:j=1:=by omega
   subst F;cases E rfl;obtain⟨w0,w1,H⟩:=jk nw;refine aC.of (a.lN f)<|aC.of gS<|aE.dt l<|aC.of (a.lN f)<|aC.of gS<|aE.dt l<|aC.of (a.at 1)<|aAs a f (hr.trans t) (by rw[o,H];rfl) p (λb I=>?_) λv g' h' u J=>q _ _ _ u (nx.trans J);obtain⟨K,e⟩:=G.bt _ _ _ I;refine⟨if b=s.tk then s1 else K,?_⟩;show(m.slots.set i _).find? _=_;rw[Yf hs ht r.W.tk];split
   .rfl
   .exact e
 .have A:∀x y d,s.row ≠ .store x y d:=λx y d e=>cs (gw.mpr ⟨x,y,d,e⟩);have L:aJ c g (m.cX i s1) B->R .aH B:=λz=>q _ _ _ (by
   split
   .exact absurd ‹s.row=_› (A _ _ _)
   .exact z) nx
  exact x5 a f (hr▸cs)<|L a
end
section
variable {k:Nat}{g:Gh}
theorem p6{l:YF}:(l++[s]).find? (λz=>decide (z.tk=u))=(l.find? λz=>decide (z.tk=u)).or (if s.tk=u then aA s else aD):=by
 rw[Dg,nP];by_cases e:s.tk=u
 .rw[decide_eq_true e,if_pos e]
 .rw[decide_eq_false e,if_neg e];rfl
theorem aJ.OE{o1:bG}(r:aJ c g m h)(k1:Kp h h')(en:n=s.a)(ha:h.nx<=n)(hl:n+2<h'.nx)(os:h'.ob n=aA (.ins 18<|(s.lt c.room).fs (n+2)))(ow:h'.ob (n+2)=aA (.lst aB<|s.ws.map oI))
  (ht:s.tk=m.bQ)(h0:0<=m.bQ)(hp:∀z∈m.slots,z.tk<m.bQ)(hn:m.slots.length<63)(hw:s.ws.length=s.row.nw/\s.bJ.length=s.row.nw) :
  ∃g',g'.sl=g.sl/\(∀n,n<h.nx->g'.kd n=g.kd n)/\aJ c g' { m with slots:=m.slots++[s],bQ:=m.bQ+1 } ((h'.put (c.b+1)<|.ins 19<|{ m with bQ:=m.bQ+1 }.wf c g.sl).put g.sl (.lst aB<|(m.slots.map λs=>AV.ref s.a)++[.ref n])):=by
 subst en;have z:=pZ (ht▸h0:0<=s.tk);have A:=r.keep k1;obtain⟨C,u,f⟩:=r.kH;have D:=r.X.st 1 _ rfl;refine⟨⟨g.sl,g.kf,λi=>if i=s.a then kC s.tk else if i=s.a+2 then kC s.tk+1 else g.kd i⟩,rfl,λn hn=>(if_neg (by omega)).trans (if_neg (by omega)),⟨λi o e=>?_,λk n o p e=>?_⟩,?_,?_⟩
 .have q:i=1\/i≠1/\(m.fS c g)[i]?=aA (aA o):=by
   by_cases t:i=1
   .exact .inl t
   .refine .inr ⟨t,?_⟩;rw[show Mo.fS { m with slots:=m.slots++[s],bQ:=m.bQ+1 } c ⟨g.sl,g.kf,λi=>if i=s.a then kC s.tk else if i=s.a+2 then kC s.tk+1 else g.kd i⟩=(m.fS c g).set 1 (aA<|.ins 19<|{ m with bQ:=m.bQ+1 }.wf c g.sl) from rfl,kZ λw=>t w.symm]at e;exact e
  have main:∀v,(m.fS c g)[i]?=aA (aA v)->(if c.b+i=s.a then kC s.tk else if c.b+i=s.a+2 then kC s.tk+1 else g.kd (c.b+i))=i/\c.b+i<h'.nx/\c.b+i≠g.sl:=λv B=>by have y:=r.X.st i v B;have H:i<15:=(List.getElem?_eq_some_iff.mp B).1;refine⟨?_,bC y.2.1 k1.nx,λw=>by rw[<- w,y.1]at f;omega⟩;rw[if_neg (by omega),if_neg (by omega)];exact y.1
  rcases q with rfl|⟨t,q⟩
  .cases e;have y:=main _ rfl;exact⟨y.1,y.2.1,(aX y.2.2).trans bD⟩
  .have y:=main _ q;exact⟨y.1,y.2.1,(aX y.2.2).trans ((aX (by omega)).trans (A.X.st i o q).2.2)⟩
 .have old:∀{k n o},15<=k->k≠15->m.dyn c g k=aA (n,o)->(if n=s.a then kC s.tk else if n=s.a+2 then kC s.tk+1 else g.kd n)=k/\c.b<=n/\n<h'.nx/\((h'.put (c.b+1)<|.ins 19<|{ m with bQ:=m.bQ+1 }.wf c g.sl).put g.sl (.lst aB<|(m.slots.map λs=>AV.ref s.a)++[.ref s.a])).ob n=aA o:=λ{k n o} p E e=>by
   have y:=r.X.dy k n o p e;refine⟨?_,y.2.1,bC y.2.2.1 k1.nx,?_⟩
   .rw[if_neg (by omega),if_neg (by omega)];exact y.1
   .rw[aX λw=>E (by rw[<- y.1,w,f]),aX λw=>by rw[w,D.1]at y;omega];exact k1.get y.2.2.1 y.2.2.2
  by_cases d:k=15
  .subst d;cases e;refine⟨?_,(r.X.dy 15 _ _ (aV _) rfl).2.1,bC u k1.nx,?_⟩
   .show(if g.sl=s.a then _ else if g.sl=s.a+2 then _ else _)=_;rw[if_neg (by omega),if_neg (by omega)];exact f
   .rw[bD,hJ];rfl
  .by_cases j:k<30
   .exact old p d (by unfold Mo.dyn at e ⊢;rw[if_neg d,if_pos j]at e ⊢;exact e)
   .unfold Mo.dyn at e;rw[if_neg d,if_neg j,p6]at e;cases x:m.slots.find? (λz=>decide (z.tk=((k:Int)-30) / 2)) with
    |some I=>rw[x]at e;exact old p d (by unfold Mo.dyn;rw[if_neg d,if_neg j,x];exact e)
    |none=>
     rw[x,Option.none_or]at e;by_cases ct:s.tk=((k:Int)-30) / 2
     .rw[if_pos ct,xX]at e;have lo:c.b<=s.a:=dF r.bx ha;have F:s.a≠g.sl:=by omega
      have G:s.a+2≠g.sl:=by omega
      by_cases l:k%2=0
      .rw[if_pos l]at e;cases e;refine⟨?_,lo,by show s.a<h'.nx;omega,?_⟩
       .show(if s.a=s.a then _ else _)=_;rw[if_pos rfl];exact((xj (ht▸h0) ct.symm).resolve_right λw=>by rw[w,z.2.2.2.1]at l;cases l).symm
       .rw[aX F,aX (by omega)];exact os
      .rw[if_neg l]at e;cases e;refine⟨?_,by omega,hl,?_⟩
       .show(if s.a+2=s.a then _ else if s.a+2=s.a+2 then _ else _)=_;rw[if_neg (by omega),if_pos rfl];exact((xj (ht▸h0) ct.symm).resolve_left λw=>l (w▸z.2.2.1)).symm
       .rw[aX G,aX (by omega)];exact ow
     .rw[if_neg ct]at e;cases e
 .have lb:c.b<=g.sl:=(r.X.dy 15 _ _ (aV _) rfl).2.1;refine A.G.imp λJ=>xP λK z=>z.low (aV _) λn hn=>?_;rw[aX (by omega),aX (by omega)]
 .have w:=r.W;refine⟨?_,λz hz=>?_,by rw[dO];exact xW hn,λz hz=>?_,w.wn,w.wl,w.kn,w.kl,w.bn,w.bl,w.fn,w.fk,w.fo,w.ff⟩
  .rw[hJ,Qj];refine⟨w.tk,Ql ..,λa ha b hb=>?_⟩;obtain⟨z,hz,rfl⟩:=List.mem_map.mp ha;rw[List.mem_singleton.mp hb];show z.tk<s.tk;rw[ht];exact hp z hz
  .rcases List.mem_append.mp hz with hz|hz
   .exact w.t0 z hz
   .rw[List.mem_singleton.mp hz,ht];exact h0
  .rcases List.mem_append.mp hz with hz|hz
   .exact w.sw z hz
   .rw[List.mem_singleton.mp hz];exact hw
end
section
variable {k:Nat}{g:Gh}
theorem aJ.N8{kf':Dc Nat}(r:aJ c g m h)(N:lD h' (c.b+4) (c.b+5) kf' (mD m.fl x l))(F:Tj h h' (c.b+5) 0 g.kf kf' x)(hx:0<=x/\x<8)(hl:l.length<99999):∃g',bL c g h g' h'/\aJ c g' { m with fl:=mD m.fl x l } h':=by
 obtain⟨f,E,en⟩:=F.new;have kx:=F.kx;have v:∀{k:Nat},k-16=x->16+x.toNat=k:=λe=>Int.ofNat.inj ((congrArg (λz=>16+z)<|Ps hx.1).trans (Int.sub_eq_iff_eq_add'.mp e).symm);have bn:∀n∈(c.b+5)::(aY g.kf x).toList,n=c.b+5\/aY g.kf x=aA n:=λn hn=>by
  rcases List.mem_cons.mp hn with e|e
  .exact .inl e
  .exact .inr<|Option.mem_toList.mp e
 have fx:∀n,aY g.kf x=aA n->g.kd n=16+x.toNat/\c.b<=n:=λn e=>have y:=r.X.dy _ _ _ (by omega) (wQ r.W e);⟨y.1,y.2.1⟩;have d:∀{n k},g.kd n=k->k≠5->k≠16+x.toNat->n∉(c.b+5)::(aY g.kf x).toList:=λ{n k} e s G w=>by
  rcases bn n w with w|w
  .rw[w,((r.X.st 5 _ rfl).1)]at e;exact s e.symm
  .rw[(fx n w).1]at e;exact G e.symm
 have a:∀{n},n<h.nx->(aY g.kf x=aD->h.nx<=f)->(if aY g.kf x=aD/\n=f then 16+x.toNat else g.kd n)=g.kd n:=λ{n} hn j=>if_neg λw=>by have:=j w.1;omega
 have j:aY g.kf x=aD->h.nx<=f:=λe=>en.elim (λw=>by rw[e]at w;cases w) λw=>w.2;refine⟨⟨g.sl,kf',λi=>if aY g.kf x=aD/\i=f then 16+x.toNat else g.kd i⟩,⟨kx.nx,λn hn A _=>⟨kx.ob n hn (d A (by decide) (by omega)),(a hn j).trans A⟩⟩,⟨λi o e=>?_,λk n o s e=>?_⟩,?_,?_⟩
 .by_cases t:i=5
  .subst t;cases e;have y:=r.X.st 5 _ rfl;exact⟨(a y.2.1 j).trans y.1,N.hd,N.od⟩
  .have p:(m.fS c g)[i]?=aA (aA o):=by rw[show Mo.fS { m with fl:=mD m.fl x l } c ⟨g.sl,kf',λi=>if aY g.kf x=aD/\i=f then 16+x.toNat else g.kd i⟩=(m.fS c g).set 5 (aA<|.aR<|dE AV.ref kf') from rfl,kZ λw=>t w.symm]at e;exact e
   have y:=r.X.st i o p;have J:i<15:=(List.getElem?_eq_some_iff.mp p).1;exact⟨(a y.2.1 j).trans y.1,bC y.2.1 kx.nx,kx.get y.2.1 (d y.1 t (by omega)) y.2.2⟩
 .by_cases H:16<=k/\k<30
  .unfold Mo.dyn at e;rw[if_neg (by omega),if_pos H.2]at e;obtain⟨u,b,I⟩:=Option.map_eq_some_iff.mp e;cases I;have y:=N.ls _ _ b;by_cases q:k-16=x
   .have ff:f=n:=by rw[q,E]at b;exact dR b
    subst ff;rcases en with w|w
    .exact⟨(if_neg λz=>by rw[w]at z;cases z.1).trans ((fx f w).1.trans (v q)),(fx f w).2,y.1,y.2⟩
    .exact⟨(if_pos ⟨w.1,rfl⟩).trans (v q),dF r.bx w.2,y.1,y.2⟩
   .have B:=b;rw[F.old _ q]at B;have z:=r.X.dy _ _ _ (by omega) (wQ r.W B);exact⟨(a z.2.2.1 j).trans (by omega),z.2.1,y.1,y.2⟩
  .have p:m.dyn c g k=aA (n,o):=by
    unfold Mo.dyn at e ⊢;split
    .rename_i z;rw[if_pos z]at e;exact e
    .rename_i z;rw[if_neg z,if_neg (by omega)]at e;rw[if_neg (by omega)];exact e
   have z:=r.X.dy k n o s p;exact⟨(a z.2.2.1 j).trans z.1,z.2.1,bC z.2.2.1 kx.nx,kx.get z.2.2.1 (d z.1 (by omega) (by omega)) z.2.2.2⟩
 .refine r.G.imp λK=>xP λL z=>z.low (aV _) (kx.lowG r.bx λn hn=>?_);rcases bn n hn with w|w
  .rw[w];exact pP ..
  .exact(fx n w).2
 .have w:=r.W;refine⟨w.tk,w.t0,w.sn,w.sw,w.wn,w.wl,w.kn,w.kl,w.bn,w.bl,N.nd,λy u e=>?_,N.no,λy=>?_⟩
  .by_cases C:y=x
   .rw[C];exact hx
   .have D:aY kf' y=aA u:=e;rw[F.old y C]at D;exact w.fk y u D
  .show(mD m.fl x l y).length<99999;unfold mD;split
   .exact hl
   .exact w.ff y
end
section
variable {k:Nat}{g:Gh}
def aN.fx:aN->Hc
 |.way _ x _ _=>aA x | .set x _=>aA x | .move x _=>aA x | .load x _ _=>aA x
 |_=>aD
theorem Hj:r.fl=oI (aN.fx r):=by cases r<;>rfl
theorem Yo(hr:rK r)(e:aN.fx r=aA x):0<=x/\x<8:=by
 cases r<;>cases e
 .exact hr.1
 .exact hr.1
 .exact hr.1
 .exact hr.1
def Mo.ax(m:Mo)(row:aN)(a:Nat):Sl:=⟨a,m.bQ,m.ah,row,row.fT.map λx=>(m.fl x).getLast?,eR row.nw aD,m.ah+1,aG,aD,aD,m.nw,aD,aD,aD⟩
def oZ(fl:Int->Xj)(row:aN)(t:Int):Int->Xj:=match aN.fx row with
 |some x=>mD fl x (fl x++[t])
 |none=>fl
def gy(kp:Dc (Hc×Hc))(row:aN)(t:Int):Dc (Hc×Hc):=match row with
 |.store _ _ _=>kp++[(t,aD,aD)]
 |_=>kp
def Mo.enter(m:Mo)(row:aN)(a:Nat):Mo:={ m with slots:=m.slots++[m.ax row a],bQ:=m.bQ+1,fl:=oZ m.fl row m.bQ,kp:=gy m.kp row m.bQ }
structure mm(c:Cf)(m:Mo)(row:aN):Prop where
 hr:c.rs[m.ah.toNat]?=aA row
 ah:0<=m.ah
 ok:rK row
 t0:0<=m.bQ
 sl:∀s∈m.slots,s.tk<m.bQ
 fl:∀y u,(m.fl y).getLast?=aA u->u<m.bQ
 kp:∀p∈m.kp,p.1<m.bQ
 bg:aY m.bg m.bQ=aD
 sn:m.slots.length<63
 kl:m.kp.length<63
 ff:∀x,(m.fl x).length<99998
theorem jo{r:aN}:r.fT.length=r.nw:=by cases r<;>rfl
theorem ic{r:aN}:r.nw<=2:=by cases r<;>exact LL rfl
theorem Xb(r:aJ c g m h)(hs:s∈m.slots)(er:s.row=row)(hk:∀p∈m.kp,p.1<s.tk)(hb:aY m.bg s.tk=aD)(kl:m.kp.length<63)(q:∀g' h',aJ c g' { m with kp:=gy m.kp row s.tk } h'->bL c g h g' h'->R (.ref s.a) h') :
  eG (run pg<|k+3) (bO<|bO<|bO<|bO<|bO xa) [aA (.ref<|c.b+1),aA row.av,aA (.ref s.a)] h (λ_ h1=>R .aH h1) R (λ_ _=>False) λ_ _=>False:=by
 have f:aJ c g m h->(∀x y d,row ≠ .store x y d)->R (.ref s.a) h:=λi hn=>q g h (by rw[show gy m.kp row s.tk=m.kp by unfold gy;split;exact absurd rfl<|hn _ _ _;rfl];exact i) bL.refl;by_cases cs:aN.kn row=("store":cY)
 .obtain⟨x,y,d,rfl⟩:=gw.mp cs;refine aC.of (r.at 1)<|aC.of (r.at 8)<|aC.of (r.cJ hs)<|aKq r.shr hb hk λv j kx e=>?_;refine q g j (r.wX (m':={ m with kp:=m.kp++[(s.tk,aD,aD)] }) 9 kx e ⟨r.W.tk,r.W.t0,r.W.sn,r.W.sw,r.W.wn,r.W.wl,?_,by rw[dO];exact xW kl,r.W.bn,r.W.bl,r.W.fn,r.W.fk,r.W.fo,r.W.ff⟩ rfl rfl<|aV _)<|bL.kx r (by decide) ⟨_,rfl⟩ kx;rw[hJ,Qj];refine⟨r.W.kn,Ql ..,λa ha b hb=>?_⟩;obtain⟨z,l,rfl⟩:=List.mem_map.mp ha;rw[List.mem_singleton.mp hb];exact hk z l
 .have n:=f r λx y d e=>cs (gw.mpr ⟨x,y,d,e⟩);rw[Uj];exact aC.of gS<|aE.df cs n
theorem YA(r:aJ c g m h)(et:s.tk=tk)(hs:s∈m.slots)(er:s.row=row)(ok:rK row)(hk:∀p∈m.kp,p.1<tk)(hb:aY m.bg tk=aD)(kl:m.kp.length<63)(hf:∀y u,(m.fl y).getLast?=aA u->u<tk)(ff:∀x,(m.fl x).length<99998)(q:∀g' h',aJ c g' { m with fl:=oZ m.fl row tk,kp:=gy m.kp row tk } h'->bL c g h g' h'->R (.ref s.a) h') :
  eG (run pg<|k+3) (bO<|bO<|bO<|bO xa) [aA (.ref<|c.b+1),aA row.av,aA (.ref s.a)] h (λ_ h1=>R .aH h1) R (λ_ _=>False) λ_ _=>False:=by
 subst et;refine Hi ?_;rw[Hj];cases a:aN.fx row with
 |none=>refine Xb r hs er hk hb kl λg' h' b d=>q g' h' ?_ d;rw[show oZ m.fl row s.tk=m.fl by unfold oZ;rw[a]];exact b
 |some x=>refine aC.of (r.at 1)<|aC.of (r.at 4)<|aC.of (r.cJ hs)<|Hi (k:=k+2) ?_;rw[Hj,a];refine o9 (k:=k+1) r.Ke (by have:=AQ r.W;omega) hf (by have:=ff x;omega) λv e l N F f=>?_;obtain⟨g',i,j⟩:=r.N8 N F (Yo ok a) (by rw[dO];exact xW<|ff x);refine Xb j hs er hk hb kl λg' h' b d=>q g' h' ?_ (i.trans d);rw[show oZ m.fl row s.tk=mD m.fl x (m.fl x++[s.tk]) by unfold oZ;rw[a]];exact b
theorem YB(r:aJ c g m h)(E:mm c m row)(q:∀a g' h',aJ c g' (m.enter row a) h'->bL c g h g' h'->R (.ref a) h'):WC (run pg (k+4) 112 [.ref (c.b+1)]) h R:=by
 have y:cM (c.rs.map aN.av) m.ah=aA row.av:=by have hl:=(List.getElem?_eq_some_iff.mp E.hr).1;have:=E.ah;unfold cM jP;rw[if_pos this,if_pos (by rw[aU];omega)];simp only[jM,fH,E.hr,xX]
 refine aT rfl rfl<|aC.of (r.at 1)<|aC.of (r.at 1)<|WC.of<|gI (cN<|r.at 2) y ?_;refine aC.of (r.at 1)<|aC.of (r.at 1)<|aC.of (r.at 1)<|aC.of (r.at 4)<|HZ (k:=k+2) ?_;refine y3 (k:=k+1) r.Ke (by have:=@jo row;have:=@ic row;omega) λb k1=>?_;have z:=r.keep k1;refine aC.of (z.at 1) ?_;have en:(row.fT.map λx=>oI (m.fl x).getLast?)=(row.fT.map λx=>(m.fl x).getLast?).map oI:=by rw[iC];rfl
 rw[en];have nl:(row.fT.map λx=>(m.fl x).getLast?).length=row.nw:=by rw[aU];exact jo
 refine aJq (k:=k+2) bM (dA _) (by rw[nl];exact ic) λl u A w2 f2=>⟨rfl,?_⟩;have k2:Kp h l:=⟨by have:=k1.nx;rw[u];show h.nx<=b.nx+1+2;omega,λi B=>by have:=k1.nx;rw[f2 i (by omega) (by show i<b.nx+1;omega),eF (by omega),k1.ob i B]⟩
 have o:=r.keep k2;refine aC.of (o.at 1)<|aC.of (o.at 1) ?_;obtain⟨s,d⟩:∃s,s=m.ax row b.nx:=⟨_,rfl⟩;rw[nl]at w2;obtain⟨C,_,p,t⟩:=r.OE (s:=s) (o1:=.lst aB []) (n:=b.nx) k2 (by rw[d];rfl) k1.nx (by rw[u];show b.nx+2<b.nx+1+2;omega) (by rw[A,d];rfl) (by rw[show b.nx+2=(b.new<|.ins 18 []).nx+1 from rfl,w2,d];unfold Mo.ax;rw[LA];rfl) (by rw[d];rfl) E.t0 E.sl E.sn (by rw[d];exact⟨Dk ..,nl⟩);have f:(l.put (c.b+1)<|.ins 19<|{ m with bQ:=m.bQ+1 }.wf c g.sl).ob g.sl=aA (.lst aB<|m.slots.map λs=>.ref s.a):=(aX λw=>by have a:=r.kH.2.2;rw[w,(r.X.st 1 _ rfl).1]at a;cases a).trans o.kH.1
 refine aC.of bD<|aE.t rfl<|aC.of rfl<|aE.t (uN f)<|WC.of<|bc f (by rw[aU];have:=E.sn;have:=kG;omega) ?_;have e:bL c g h C ((l.put (c.b+1)<|.ins 19<|{ m with bQ:=m.bQ+1 }.wf c g.sl).put g.sl (.lst aB<|(m.slots.map λs=>AV.ref s.a)++[.ref b.nx])):=⟨k2.nx,λn hn j _=>⟨(aX λw=>by rw[w,r.kH.2.2]at j;cases j).trans ((aX λw=>by rw[w,(r.X.st 1 _ rfl).1]at j;cases j).trans (k2.ob n hn)),(p n hn).trans j⟩⟩;change eG (run pg<|k+3) (bO<|bO<|bO<|bO xa) [aA (.ref<|c.b+1),aA row.av,aA (.ref b.nx)] ((l.put (c.b+1)<|.ins 19<|{ m with bQ:=m.bQ+1 }.wf c g.sl).put g.sl (.lst aB<|(m.slots.map λs=>AV.ref s.a)++[.ref b.nx])) (λ_ b=>R .aH b) R (λ_ _=>False) λ_ _=>False;revert t e
 intro t e;have:=YA (k:=k) (R:=R) (s:=s) (row:=row) (tk:=m.bQ) t (by rw[d];rfl) (iJ _<|List.mem_singleton.mpr rfl) (by rw[d];rfl) E.ok E.kp E.bg E.kl E.fl E.ff λg' h' v D=>by rw[d];refine q b.nx g' h' ?_<|e.trans D;rw[d]at v;exact v
 rw[d]at this;exact this
end
section
variable {k:Nat}{g:Gh}
def aN.Fm(ws:Xj)(held:Hc):aN->Hc
 |.way w _ _ _=>aA (w.wk (cell ws 0)<|cell ws 1) | .set _ v=>aA v | .move _ _=>aA (cell ws 0) | .store _ _ _=>aA (cell ws 0) | .load _ _ _=>held
 |_=>aD
theorem UU{held:Hc}:r.br ws (oI held)=oI (aN.Fm ws held r):=by cases r<;>rfl
theorem aAq:r.pl ws=oI (r.DD ws):=by cases r<;>rfl
def nF(f:Option AV)(o:Hc):Hc:=match f with
 |none=>o
 |some _=>aD
def Sl.d1(room:Int)(s:Sl):Hc:=nF (s.ft room) (aN.fx s.row)
def Sl.d2(room:Int)(s:Sl):Hc:=nF (s.ft room) (s.row.DD s.wi)
def Sl.d3(room:Int)(s:Sl):Hc:=nF (s.ft room) (aN.Fm s.wi s.dZ s.row)
def Sl.d4(room:Int)(s:Sl):Hc:=nF (s.ft room) (aA<|s.row.gs s.pc s.wi)
def Sl.dt(room:Int)(s:Sl):Hd:=[.int s.pc,oI (s.d1 room),oI (s.d2 room),oI (s.d3 room),oI (s.d4 room),(s.ft room).getD .aH]
theorem Ws:s.row.fw s.pc s.wi room (oI s.dZ) = .tup (s.dt room):=by
 unfold aN.fw Sl.dt Sl.d1 Sl.d2 Sl.d3 Sl.d4 Sl.ft;cases s.row.ft s.wi room with
 |none=>rw[Hj,aAq,UU];rfl
 |some f=>rfl
theorem xq(e:s.fi.isSome=aB):s.dd room = .tup (s.dt room):=by
 unfold Sl.dd;cases h:s.fi with
 |none=>rw[h]at e;cases e|some φ=>exact Ws
def dS.ff(s:dS)(w:Nat)(d:Hd):List (cY×AV):=[("ticket",.int s.tk),("at",.int s.pc),("row",.tup (.str (aN.kn s.row)::aN.tl s.row)),("names",.tup (s.bJ.map oI)),("words",.ref w),("chosen",.int s.ch),("dares",.bl s.dr),("source",oI s.src),("held",oI s.dZ),("deed",.tup d),("put",.int s.put),("started",oI s.st),("finished",oI s.fi),("off",oI s.of)]
theorem aJ.Bj(r:aJ c g m h)(hs:s∈m.slots)(e:s.fi.isSome=aB):h.ob s.a=aA (.ins 18<|(s.lt c.room).ff (s.a+2) (s.dt c.room)):=by rw[r.lN hs];unfold dS.fk dS.ff;rw[show(s.lt c.room).dd=s.dd c.room from rfl,xq e]
def rE(room:Int)(o:Option Sl)(v:Int):Hc:=match o with
 |none=>aA v
 |some s=>if s.fi.isSome=aB then s.d3 room else aD
theorem F6{o:Option Sl}{v:Int}(r:aJ c g m h)(ho:∀s,o=aA s->s∈m.slots)(q:R (oI<|rE c.room o v) h):WC (run pg (k+1) 18 [aO o,.int v]) h R:=by
 cases o with
 |none=>exact aT rfl rfl q|some s=>
  have b:=ho s rfl;unfold rE at q;cases e:s.fi with
  |none=>
   dsimp only at q;rw[e]at q;have a:h.ob s.a=aA (.ins 18<|{ s.lt c.room with fi:=aD }.fk (s.a+2)):=by rw[r.lN b];unfold Sl.lt;rw[e]
   exact aT rfl rfl<|aC.of a q
  |some f=>
   have d:s.fi.isSome=aB:=by rw[e];rfl
   dsimp only at q;rw[if_pos d]at q;have a:h.ob s.a=aA (.ins 18<|{ s.lt c.room with fi:=aA f }.ff (s.a+2) (s.dt c.room)):=by rw[r.Bj b d];unfold Sl.lt;rw[e]
   exact aT rfl rfl<|aC.of a<|aC.of a q
end
section
variable {k:Nat}{g:Gh}
theorem Ms{i:Int}(h0:0<=i)(h1:i<ws.length)(hl:ws.length<=80)(q:R (.tup<|(ws.set i.toNat w).map .int) h):WC (run pg (k+1) 21 [.tup (ws.map .int),.int i,.int w]) h R:=by
 have big:=kG;obtain⟨n,rfl⟩:∃n:Nat,i=n:=⟨i.toNat,by omega⟩;have hn:n<ws.length:=by omega
 rw[oR,aRz,if_pos hn]at q;refine aT rfl rfl<|ju<|WC.of<|IJ ?_ ?_
 .rw[HT.jc,aU];omega
 rw[WT];refine WC.of<|IB (by rw[mJ,aU];show min n ws.length+1<=_;omega) ?_;refine ju<|WC.of<|IJ (lo:=aA ((n+1:Nat):Int)) ?_ ?_
 .rw[HT.Mx,HT.jc,aU];omega
 rw[Wk];refine WC.of<|IB (by rw[dO,mJ,ux,aU];rw[Dr (xV hn)];show n+1+(ws.length-(n+1))<=_;rw[Nat.add_sub_cancel' (hn)];exact dF hl<|dF (by decide)<|xV big) ?_;rw[<- Qh,<- Qg,JW];rw[hJ]at q;exact q
def Sd.fc(sd:Sd)(d1 d2 d3 d4:Hc):Sd:=match d1,d2 with
 |some x,_=>⟨d4.getD 0,sd.bx.set x.toNat (d3.getD 0),sd.mem⟩
 |none,aA p=>⟨d4.getD 0,sd.bx,sd.mem.set p.toNat (d3.getD 0)⟩
 |none,aD=>⟨d4.getD 0,sd.bx,sd.mem⟩
theorem UM{sd:Sd}(q:R sd.av h):WC (run pg (k+2) 22 [sd.av,.tup [.int pc,.aH,.aH,.aH,.aH,.tup xs]]) h R:=aT rfl rfl q
theorem UN{sd:Sd}{d1 d2 d3:Hc}(bl:sd.bx.length=8)(ml:sd.mem.length<=80)(h1:∀x,d1=aA x->(0<=x/\x<8)/\∃w,d3=aA w)(h2:∀p,d1=aD->d2=aA p->(0<=p/\p<sd.mem.length)/\∃w,d3=aA w)(q:R (sd.fc d1 d2 d3<|aA a).av h):WC (run pg (k+2) 22 [sd.av,.tup [.int pc,oI d1,oI d2,oI d3,.int a,.aH]]) h R:=by
 cases d1 with
 |some x=>obtain⟨hx,w,rfl⟩:=h1 x rfl;exact aT rfl rfl<|Ms (k:=k) hx.1 (by omega) (by omega) q
 |none=>
  cases d2 with
  |some p=>obtain⟨hx,w,rfl⟩:=h2 p rfl rfl;exact aT rfl rfl<|Ms (k:=k) hx.1 hx.2 ml q
  |none=>exact aT rfl rfl q
def Mo.fX(m:Mo)(room:Int)(i:Nat):Nat->Xj->Mo
 |_,[]=>m
 |j,x::l=>match m.slots[i]? with
  |none=>m
  |some s=>match rE room (((s.bJ[j]?).join).bind m.slot) (cell m.sd.bx x) with
   |some w=>Mo.fX (m.give i j w) room i (j+1) l
   |none=>Mo.fX m room i (j+1) l
end
section
variable {k:Nat}{g:Gh}
theorem Uh{l:Xv}(hj:j<l.length):cM (l.map oI) (j:Int)=aA (oI (l[j]?).join):=by rw[L2.nq];rw[fH,eN hj];rfl
theorem p7{l:YF}(e:l.find? (λz=>decide (z.tk=u))=aA s):s∈l:=cf e
theorem UR{o:Hc}(e:o.bind m.slot=aA s):s∈m.slots:=by obtain⟨t,_,e⟩:=Option.bind_eq_some_iff.mp e;exact p7 e
theorem x8(r:aJ c g m h)(hs:m.slots[i]?=aA s0)(bl:m.sd.bx.length=8)(P:Nat->Mo->Prop)(p0:P 0 m)
  (ps:∀j x m',s0.row.fT[j]?=aA x->P j m'->(0<=x/\x<8)/\∃s,m'.slots[i]?=aA s/\s.a=s0.a/\s.row=s0.row/\s.bJ=s0.bJ /\
   match rE c.room (((s0.bJ[j]?).join).bind m'.slot) (cell m.sd.bx x) with
   |some w=>yK m' s j/\P (j+1) (m'.give i j w)
   |none=>P (j+1) m')
  (pe:∀m',P s0.row.fT.length m'->∃s,m'.slots[i]?=aA s/\s.a=s0.a)
  (q:∀m' g' h',P s0.row.fT.length m'->aJ c g' m' h'->bL c g h g' h'->R .aH h'):WC (run pg (k+5) 17 [.ref (c.b+1),.ref s0.a,.tup (m.sd.bx.map .int)]) h R:=by
 have hm:=bX hs;have nl:=(r.W.sw s0 hm).2;have wl:=@jo s0.row;have w2:=@ic s0.row;refine aT rfl rfl<|WB.of<|lO<|aPf<|cF _<|aC.of (r.cJ hm)<|HZ (k:=k+3) ⟨_,rfl,?_⟩;refine t5 (xs:=s0.row.fT.map .int) (λj l h'=>(∃n v4 o,l=[aA (.ref<|c.b+1),aA (.ref s0.a),aA (.tup<|m.sd.bx.map .int),n,v4,o])/\∃m' g',P j m'/\aJ c g' m' h'/\bL c g h g' h') (by rw[aU,eZ];omega) ⟨⟨_,_,_,rfl⟩,m,g,p0,r,bL.refl⟩ (λj x l h' B y=>?_)<|λl h' y=>?_
 .obtain⟨⟨n,v4,o,rfl⟩,m',g',d,a,f⟩:=y;obtain⟨x,hr,rfl⟩:=jR B;have F:=(List.getElem?_eq_some_iff.mp hr).1;obtain⟨p,s,u,z,G,en,b⟩:=ps j x m' hr d;have t:=bX u;have os:=a.cJ t;rw[z]at os;have C:cM (s.bJ.map oI) (j:Int)=aA (oI (s.bJ[j]?).join):=Uh (by rw[en];omega);refine iZ _<|gE _<|aC.of (a.at 1)<|aC.of os<|aC.of C<|GG (k:=k+3) a ?_;refine aC.of (nj p.1 (by rw[aU];omega))<|F6 (k:=k+3) a (λs e=>UR e) ?_;rw[en];cases A:rE c.room (((s0.bJ[j]?).join).bind m'.slot) (cell m.sd.bx x) with
  |none=>rw[A]at b;exact⟨⟨_,_,_,rfl⟩,m',g',b,a,f⟩
  |some w=>rw[A]at b;refine aC.of (a.at 1)<|Zj (k:=k) a u z b.1 λv g2 H D E=>?_;exact⟨⟨_,_,_,rfl⟩,_,g2,b.2,D,f.trans E⟩
 .obtain⟨⟨n,v4,o,rfl⟩,m',g',d,a,f⟩:=y;rw[aU]at d;exact q m' g' h' d a f
end
section
variable {k:Nat}{g:Gh}
theorem o6{l:YF}(hp:(l.map (·.tk)).Pairwise (·<·))(e:l[i]?=aA s)(hb:s.tk<b):(l.filter λz=>decide (z.tk<b))[i]?=aA s:=by
 induction l generalizing i with
 |nil=>cases e|cons z l c=>
  rw[jC,Qk]at hp;cases i with
  |zero=>cases e;rw[jA,if_pos (by simpa)];rfl
  |succ i=>have a:l[i]?=aA s:=e;have:=hp.1 s.tk (List.mem_map.mpr ⟨s,bX a,rfl⟩);rw[jA,if_pos (by simp;omega)];exact c hp.2 a
theorem US{t:Int}(e:pX bg t p=aA b):t<b/\∃q∈bg,q.1=b:=by
 unfold pX Af at e;split at e
 .cases e
 .rename_i z;have:=Jt (ns:=(bg.filter<|mL t p).map (·.1)) λw=>z (by rw[w];rfl);rw[dR e]at this;obtain⟨q,a,rfl⟩:=List.mem_map.mp this;obtain⟨c,d⟩:=List.mem_filter.mp a;exact⟨of_decide_eq_true (Bool.and_eq_true_iff.mp d).1,q,c,rfl⟩
theorem aAr{w:Hc}(hp:(m.slots.map (·.tk)).Pairwise (·<·))(e:m.slots[i]?=aA s):(m.place s.tk p w).slots[i]?=aA s:=by
 unfold Mo.place;cases a:pX m.bg s.tk p with
 |none=>exact e|some b=>exact o6 hp e (US a).1
theorem Hy(hp:(m.slots.map (·.tk)).Pairwise (·<·))(e:m.slots[i]?=aA s):(m.give i j w).slots[i]?=aA { s with ws:=s.ws.set j (aA w) }/\(m.give i j w).sd=m.sd:=by
 have a:(m.cX i { s with ws:=s.ws.set j (aA w) }).slots[i]?=aA { s with ws:=s.ws.set j (aA w) }:=mI ((List.getElem?_eq_some_iff.mp e).1);have b:((m.cX i { s with ws:=s.ws.set j (aA w) }).slots.map (·.tk)).Pairwise (·<·):=by show((m.slots.set i _).map _).Pairwise _;rw[gz e (show({ s with ws:=s.ws.set j (aA w) }:Sl).tk=s.tk from rfl)];exact hp
 unfold Mo.give;rw[e];dsimp only;split
 .split
  .exact⟨a,rfl⟩
  .refine⟨aAr b a,?_⟩;unfold Mo.place;split<;>rfl
 .exact⟨a,rfl⟩
theorem y0(hp:(m.slots.map (·.tk)).Pairwise (·<·)):((m.give i j w).slots.map (·.tk)).Pairwise (·<·):=by
 unfold Mo.give;split
 .exact hp
 .rename_i s e;have a:∀{b:Sl},b.tk=s.tk->((m.slots.set i b).map (·.tk)).Pairwise (·<·):=λ{b} z=>by rw[gz e z];exact hp
  split
  .split
   .exact a rfl
   .unfold Mo.place;split
    .exact a rfl
    .exact vN (List.filter_sublist.map _)<|a rfl
  .exact a rfl
def Mo.wR(m:Mo)(room:Int)(i:Nat):Nat->Xj->Prop
 |_,[]=>True
 |j,x::l=>(0<=x/\x<8)/\∃s,m.slots[i]?=aA s/\(rE room (((s.bJ[j]?).join).bind m.slot) (cell m.sd.bx x)=aD->Mo.wR m room i (j+1) l)/\∀w,rE room (((s.bJ[j]?).join).bind m.slot) (cell m.sd.bx x)=aA w->yK m s j/\Mo.wR (m.give i j w) room i (j+1) l
theorem Hz(e:m.slots[i]?=aA s):m.fX room i j (x::l)=match rE room (((s.bJ[j]?).join).bind m.slot) (cell m.sd.bx x)with|some w=>Mo.fX (m.give i j w) room i (j+1) l|none=>Mo.fX m room i (j+1) l:=by rw[Mo.fX,e]<;>rfl
theorem y4(r:aJ c g m h)(hs:m.slots[i]?=aA s0)(bl:m.sd.bx.length=8)(ok:m.wR c.room i 0 s0.row.fT)
  (q:∀g' h' s,aJ c g' (m.fX c.room i 0 s0.row.fT) h'->(m.fX c.room i 0 s0.row.fT).slots[i]?=aA s->s.a=s0.a->s.row=s0.row->s.pc=s0.pc->(m.fX c.room i 0 s0.row.fT).sd=m.sd->bL c g h g' h'->R .aH h'):WC (run pg (k+5) 17 [.ref (c.b+1),.ref s0.a,.tup (m.sd.bx.map .int)]) h R:=by
 refine x8 r hs bl (λj a=>a.wR c.room i j (s0.row.fT.drop j)/\m.fX c.room i 0 s0.row.fT=a.fX c.room i j (s0.row.fT.drop j)/\a.sd=m.sd/\(a.slots.map (·.tk)).Pairwise (·<·)/\∃s,a.slots[i]?=aA s/\s.a=s0.a/\s.row=s0.row/\s.bJ=s0.bJ/\s.pc=s0.pc) ⟨ok,rfl,rfl,r.W.tk,s0,hs,rfl,rfl,rfl,rfl⟩ (λj x a ex y=>?_) (λa y=>?_) λa g' h' y C D=>?_
 .obtain⟨f,b,sd,t,s,d,e,l,en,o⟩:=y;rw[Gw ex]at f b;obtain⟨E,G,n,A,B⟩:=f;rw[d]at n;cases n;rw[Hz d,en,sd]at b;rw[en,sd]at A B;refine⟨E,s,d,e,l,en,?_⟩;cases p:rE c.room (((s0.bJ[j]?).join).bind a.slot) (cell m.sd.bx x) with
  |none=>rw[p]at b;exact⟨A p,b,sd,t,s,d,e,l,en,o⟩
  |some w=>rw[p]at b;obtain⟨gv,F⟩:=B w p;obtain⟨u,v⟩:=Hy t d;exact⟨gv,F,b,v.trans sd,y0 t,_,u,e,l,en,o⟩
 .obtain⟨_,_,_,_,s,d,e,_⟩:=y;exact⟨s,d,e⟩
 .obtain⟨_,b,sd,_,s,d,e,l,_,o⟩:=y;rw[Dd]at b;have z:m.fX c.room i 0 s0.row.fT=a:=b;rw[z]at q;exact q g' h' s C d e l o sd D
end
section
variable {k:Nat}{g:Gh}
theorem Zp(w:To L n a h R):∃c fs i,h.ob n=aA (.ins c fs)/\xw.lookup c=aA i/\(fs.lookup ("guess":cY)).isNone=aB/\WC (run pg L i [.ref n,.int a]) h R:=by obtain⟨n',c,fs,e,o,w⟩:=gY.ex w;cases e;obtain⟨i,l,w⟩:=aC.ex w;obtain⟨hn,w⟩:=aE.an w;exact⟨c,fs,i,o,l,hn,w⟩
theorem aJ.y9(r:aJ c g m h)(q:∀b h',Kp h h'->R (.bl b) h'):∃cl fs i,h.ob c.gu=aA (.ins cl fs)/\xw.lookup cl=aA i/\(fs.lookup ("guess":cY)).isNone=aB/\WC (run pg (k+3) i [.ref c.gu,.int a]) h R:=by obtain⟨e,f,z⟩:=r.G;exact Zp<|yr z.g (λj d=>bC (z.lg j d) r.bx) (by omega) q
theorem aJ.P5(r:aJ c g m h)(q:∀b h',Kp h h'->R (.bl b) h'):∃cl fs i,h.ob c.nv=aA (.ins cl fs)/\xw.lookup cl=aA i/\(fs.lookup ("guess":cY)).isNone=aB/\WC (run pg (k+3) i [.ref c.nv,.int a]) h R:=by obtain⟨e,f,z⟩:=r.G;exact Zp<|yr z.n (λj d=>bC (z.ln j d) r.bx) (by omega) q
def aN.qA(pc:Int)(b:Bool):aN->Int
 |.fZ _ t=>if b=aB then t else pc+1
 |r=>r.gs pc []
theorem aIv(r:aJ c g m h)(hs:s∈m.slots)(q:∀b h',Kp h h'->R (.int<|aN.qA s.pc b s.row) h'):WC (run pg (k+4) 19 [.ref s.a,.ref c.gu]) h R:=by
 by_cases d:aN.kn s.row=("jump":cY)
 .obtain⟨x,t,f⟩:=qp.mp d;have p:∀b h',Kp h h'->R (.int<|if b=aB then t else s.pc+1) h':=λb h' k=>by have:=q b h' k;rw[f]at this;exact this
  have o:∀{h'},Kp h h'->h'.ob s.a=aA (.ins 18<|{ s.lt c.room with row:=.fZ x t }.fs (s.a+2)):=λk=>by rw[(r.keep k).cJ hs];unfold Sl.lt;rw[f]
  obtain⟨cl,fs,i,u,l,hn,w⟩:=r.y9 (a:=s.pc) (R:=λv h'=>∃b,v = .bl b/\Kp h h') λb h' k=>⟨b,rfl,k⟩;refine aT rfl rfl<|aC.of (o Kp.refl)<|aC.of u<|aC.of l<|aE.t hn<|aC.of (o Kp.refl)<|WC.of<|w.we.mono λv h' z=>?_;obtain⟨b,rfl,k1⟩:=z;have j:=p b h' k1;cases b with
  |true=>exact aC.of (o k1) j|false=>exact aC.of (o k1) j
 .have n:∀x t,s.row ≠ .fZ x t:=λx t e=>d (qp.mpr ⟨x,t,e⟩);refine aIw (r.cJ hs) n ?_;have:=q aB h Kp.refl;rw[show aN.qA s.pc aB s.row=s.row.gs s.pc [] by unfold aN.qA;split;exact absurd ‹s.row=_› (n _ _);rfl]at this;exact this
def sI:aN->Bool
 |.load _ _ _=>aB
 |_=>aG
def Mo.uC(m:Mo)(c:Cf)(row:aN)(a:Nat)(dr gs:Bool):Mo:=
 let m1:=(m.enter row a).fX c.room m.slots.length 0 row.fT
 match m1.slots[m.slots.length]? with
 |none=>m1
 |some s=>{ m1.cX m.slots.length { s with dr:=if sI s.row=aB then dr else s.dr,ch:=aN.qA s.pc gs s.row }with ah:=aN.qA s.pc gs s.row }
theorem aJ.ua(r:aJ c g m h)(hs:m.slots[i]?=aA s)(ha:s'.a=s.a)(ht:s'.tk=s.tk)(hw:s'.ws=s.ws)(hn:s'.bJ=s.bJ)(hr:s'.row=s.row):aJ c g (m.cX i s') (h.put s.a<|.ins 18<|(s'.lt c.room).fs (s.a+2)):=r.aJp hs ha ht hw hn hr
theorem xH(hs:m.slots[i]?=aA s):(m.cX i s').slots[i]?=aA s':=mI (List.getElem?_eq_some_iff.mp hs).1
theorem Mz:(m.cX i s).cX i s'=m.cX i s':=by unfold Mo.cX;simp only[Qq]
theorem Ye(r:aJ c g m h)(hs:m.slots[i]?=aA s)(q:∀gs g' h',aJ c g' { m.cX i { s with ch:=aN.qA s.pc gs s.row }with ah:=aN.qA s.pc gs s.row } h'->bL c g h g' h'->R .aH h') :
  eG (run pg<|k+5) (bO<|bO<|bO Up) [aA (.ref<|c.b+1),aA (.ref<|c.b+11),aA (.ref s.a)] h (λ_ h1=>R .aH h1) R (λ_ _=>False) λ_ _=>False:=by
 have hm:=bX hs;refine aC.of (r.at 11)<|aIv r hm λb h1 k1=>?_;have d:=r.keep k1;refine aC.of rfl<|aC.of rfl<|aC.of (d.cJ hm) ?_;have a:=d.ua (s':={ s with ch:=aN.qA s.pc b s.row }) hs rfl rfl rfl rfl rfl;refine aC.of bD<|aC.of (a.at 1) ?_;exact q b g _ (a.tS)<|((bL.keep k1).trans (bL.put (r.qo hm).1)).trans (bL.st a (by decide) ⟨_,rfl⟩)
theorem n9(r:aJ c g m h)(E:mm c m row)(bl:m.sd.bx.length=8)(ok:∀a,(m.enter row a).wR c.room m.slots.length 0 row.fT)(q:∀a dr gs g' h',aJ c g' (m.uC c row a dr gs) h'->bL c g h g' h'->R .aH h'):WC (run pg (k+6) 16 [.ref (c.b+1),.ref (c.b+11)]) h R:=by
 refine aT rfl rfl<|aC.of (r.at 1)<|YB r E λa g1 L u C=>?_;have D:(m.enter row a).slots[m.slots.length]?=aA (m.ax row a):=KJ;refine aC.of (u.at 11)<|y4 u D bl (ok a) λg2 o s e f F M N G H=>?_;have j:∀dr gs g' h',aJ c g' { ((m.enter row a).fX c.room m.slots.length 0 row.fT).cX m.slots.length { s with dr:=if sI s.row=aB then dr else s.dr,ch:=aN.qA s.pc gs s.row }with ah:=aN.qA s.pc gs s.row } h'->bL c g2 o g' h'->R .aH h':=λdr gs g' h' z I=>q a dr gs g' h' (by
  unfold Mo.uC;dsimp only;rw[show((m.enter row a).fX c.room m.slots.length 0 row.fT).slots[m.slots.length]?=aA s from f];exact z) (C.trans<|H.trans I)
 have p:a=s.a:=F.symm;subst p;revert f e j
 show aJ c g2 ((m.enter row s.a).fX c.room m.slots.length 0 row.fT) o->((m.enter row s.a).fX c.room m.slots.length 0 row.fT).slots[m.slots.length]?=aA s->_->_;intro e f j;have hm:=bX f;by_cases cl:aN.kn s.row=("load":cY)
 .obtain⟨x,y,d,J⟩:=gr.mp cl;obtain⟨O,fs,i,K,l,hn,w⟩:=e.P5 (R:=λv h'=>∃b,v = .bl b/\Kp o h') λb h' k=>⟨b,rfl,k⟩;refine aC.of (e.lN hm)<|aC.of gS<|aE.dt cl<|aC.of (e.at 11)<|aC.of K<|aC.of l<|aE.t hn<|aC.of (e.cJ hm)<|WC.of<|w.we.mono λv P z=>?_;obtain⟨b,rfl,A⟩:=z;have B:=e.keep A;refine aC.of rfl<|aC.of rfl<|aC.of (B.cJ hm) ?_;refine Ye (k:=k) (s:={ s with dr:=b }) (B.ua (s':={ s with dr:=b }) f rfl rfl rfl rfl rfl) (xH f) λgs g' h' n t=>j b gs g' h' ?_ (((bL.keep A).trans (bL.put (e.qo hm).1)).trans t);rw[show sI s.row=aB by rw[J];rfl];rw[Mz]at n;exact n
 .refine aC.of (e.lN hm)<|aC.of gS<|aE.df cl ?_;refine Ye e f λgs g' h' n t=>j aB gs g' h' ?_ t;rw[if_neg (λz=>cl (gr.mpr (by cases hr:s.row<;>rw[hr]at z<;>first|exact⟨_,_,_,rfl⟩|cases z)))];exact n
end
section
variable {k:Nat}{g:Gh}
def Mo.sP(m:Mo)(room:Int)(s:Sl):Option (Option<|Int×Hc×Int):=match s.row with
 |.load _ _ d=>if 0<=cell s.wi 0+d/\cell s.wi 0+d<room then match uP (cell s.wi 0+d) s.dr (m.kp.filter λq=>decide (q.1<s.tk)).reverse with
   |none=>aD
   |some aD=>aA (aA (cell s.wi 0+d,aY m.gX (cell s.wi 0+d),cell m.sd.mem (cell s.wi 0+d)))
   |some (aA (u,w))=>aA (aA (cell s.wi 0+d,aA u,w))
  else aA aD
 |_=>aA aD
def Sl.wZ(s:Sl):Option (Int×Hc×Int)->Sl
 |none=>s
 |some (_,u,w)=>{ s with src:=u,dZ:=aA w }
def Ux(bg:Dc (Int×Hc))(t:Int):Option (Int×Hc×Int)->Dc (Int×Hc)
 |none=>bg
 |some (p,u,_)=>bg++[(t,p,u)]
structure wm(c:Cf)(m:Mo)(s:Sl):Prop where
 fi:s.fi=aD
 ws:s.ws=s.wi.map aA
 bg:aY m.bg s.tk=aD
 kp:∀x y d,s.row = .load x y d->aY m.kp s.tk=aD
 bl:m.bg.length<63
 ml:c.room=m.sd.mem.length
theorem Ow:(ws.map aA).map oI=ws.map AV.int:=by rw[iC];rfl
theorem aJ.Uz(r:aJ c g m h)(bn:(bg'.map (·.1)).Nodup)(bl:bg'.length<64):aJ c g { m with bg:=bg' } (h.put (c.b+10)<|.aR<|dE lT bg'):=
 r.sV 10 ⟨r.W.tk,r.W.t0,r.W.sn,r.W.sw,r.W.wn,r.W.wl,r.W.kn,r.W.kl,bn,bl,r.W.fn,r.W.fk,r.W.fo,r.W.ff⟩ rfl rfl (aV _)
theorem Ag{β:Type}{l:Dc β}{v:β}(nd:(l.map (·.1)).Nodup)(h:aY l x=aD):((l++[(x,v)]).map (·.1)).Nodup:=by rw[hJ,LF];refine⟨nd,by simp,λa ha b hb=>?_⟩;obtain⟨p,c,rfl⟩:=List.mem_map.mp ha;rw[List.mem_singleton.mp hb];intro w;have d:p.1=x:=w;have:=nC nd c;rw[d,h]at this;cases this
theorem aMi(r:aJ c g m h)(hs:m.slots[i]?=aA s)(hb:aY m.bg s.tk=aD)(hk:aY m.kp s.tk=aD)(bl:m.bg.length<63)(q:aJ c g { m with bg:=m.bg++[(s.tk,p,s.src)] } (h.put (c.b+10)<|.aR<|dE lT<|m.bg++[(s.tk,p,s.src)])->R (.bl aB) (h.put (c.b+10)<|.aR<|dE lT<|m.bg++[(s.tk,p,s.src)])) :
  eG (run pg<|k+3) (bO<|bO<|bO<|bO<|bO og) [aA (.ref<|c.b+1),aA (.ref<|c.b+11),aA (.ref s.a),aA (.int p),aA fnd] h (λ_ h1=>R .aH h1) R (λ_ _=>False) λ_ _=>False:=by
 have hm:=bX hs;refine aC.of (r.at 1)<|aC.of (r.at 8)<|aC.of (r.cJ hm)<|aC.of (r.cJ hm)<|J7 r.shr hb hk λv=>?_;exact q<|r.Uz (Ag r.W.bn hb) (by rw[dO];exact xW bl)
theorem aJg{α:Type}{l:List α}{x:α}(e:l[i]?=aA x):l.set i x=l:=by
 refine KA λj=>?_;rw[KN];split
 .rename_i z;subst z;rw[e,if_pos (List.getElem?_eq_some_iff.mp e).1]
 .rfl
theorem Uy{u:Hc}(r:aJ c g m h)(hs:m.slots[i]?=aA s)(hb:aY m.bg s.tk=aD)(hk:aY m.kp s.tk=aD)(bl:m.bg.length<63)(r2:aJ c g (m.cX i { s with src:=u,dZ:=aA w }) h2)(nx:bL c g h g h2)(q:∀h',aJ c g { m.cX i { s with src:=u,dZ:=aA w }with bg:=m.bg++[(s.tk,p,u)] } h'->bL c g h g h'->R (.bl aB) h') :
  eG (run pg<|k+3) (bO<|bO<|bO<|bO<|bO og) [aA (.ref<|c.b+1),aA (.ref<|c.b+11),aA (.ref s.a),aA (.int p),aA fnd] h2 (λ_ h1=>R .aH h1) R (λ_ _=>False) λ_ _=>False:=
 aMi (s:={ s with src:=u,dZ:=aA w }) r2 (xH hs) hb hk bl λa=>q _ a (nx.trans<|bL.st r2 (by decide) ⟨_,rfl⟩)
theorem t8{ss:aQ}{f:cY}(r:aJ c g m h)(hs:m.slots[i]?=aA s)(ha:s'.a=s.a)(ht:s'.tk=s.tk)(hw:s'.ws=s.ws)(hn:s'.bJ=s.bJ)(hr:s'.row=s.row)(e:gG f v ((s.lt c.room).fs (s.a+2))=(s'.lt c.room).fs (s.a+2))(q:∀h',aJ c g (m.cX i s') h'->h'.nx=h.nx->(∀n,n≠s.a->h'.ob n=h.ob n)->eG F ss Z h' N R B C):eG F ss Z (h.put s.a<|.ins 18<|gG f v<|(s.lt c.room).fs (s.a+2)) N R B C:=by rw[e];exact q _ (r.ua hs ha ht hw hn hr) rfl λn hn=>aX hn
theorem ox{ss:aQ}{f:cY}(r:aJ c g m h)(hs:m.slots[i]?=aA s)(ha:s'.a=s.a)(ht:s'.tk=s.tk)(hw:s'.ws=s.ws)(hn:s'.bJ=s.bJ)(hr:s'.row=s.row)(e:gG f v ((s.lt c.room).fs (s.a+2))=(s'.lt c.room).fs (s.a+2))(q:∀h',aJ c g (m.cX i s') h'->bL c g h g h'->eG F ss Z h' N R B C):eG F ss Z (h.put s.a<|.ins 18<|gG f v<|(s.lt c.room).fs (s.a+2)) N R B C:=by rw[e];exact q _ (r.ua hs ha ht hw hn hr)<|bL.put (r.qo<|bX hs).1
theorem aMj(r:aJ c g m h)(hs:m.slots[i]?=aA s)(hb:aY m.bg s.tk=aD)(hk:aY m.kp s.tk=aD)(bl:m.bg.length<63)(hf:s.fi=aD)(h0:0<=p)(h1:p<m.sd.mem.length)(q:∀h',aJ c g { m.cX i { s with src:=aY m.gX p,dZ:=aA (cell m.sd.mem p) }with bg:=m.bg++[(s.tk,p,aY m.gX p)] } h'->bL c g h g h'->R (.bl aB) h') :
  eG (run pg<|k+3) (bO<|bO<|bO og) [aA (.ref<|c.b+1),aA (.ref<|c.b+11),aA (.ref s.a),aA (.int p),aA (.tup [.aH,.aH])] h (λ_ h1=>R .aH h1) R (λ_ _=>False) λ_ _=>False:=by
 have hm:=bX hs;have e2:cM (m.sd.mem.map AV.int) p=aA (.int<|cell m.sd.mem p):=nj h0 (by rw[aU];exact h1);refine aC.of (r.at 11)<|aE.t (B:=False) rfl<|aC.of rfl<|aE.t (sH<|r.at 13)<|WC.of<|Ol (r.at 13) rfl ?_;rw[iY,show((aY m.gX p).map AV.int).getD .aH=oI (aY m.gX p) by cases aY m.gX p<;>rfl];refine aC.of rfl<|aC.of rfl<|aC.of (r.cJ hm) ?_;refine ox (s':={ s with src:=aY m.gX p }) r hs rfl rfl rfl rfl rfl rfl λh1 r1 n1=>?_;refine aC.of (r1.at 11)<|aC.of e2<|aC.of rfl<|aC.of rfl<|aC.of (r1.cJ<|bX<|xH (m:=m) (s':={ s with src:=aY m.gX p }) hs) ?_;refine ox (s':={ s with src:=aY m.gX p,dZ:=aA (cell m.sd.mem p) }) r1 (xH hs) rfl rfl rfl rfl rfl (by rw[hf];rfl) λh2 r2 n2=>?_;rw[Mz]at r2;exact Uy r hs hb hk bl r2 (n1.trans n2) q
theorem aMk(r:aJ c g m h)(hs:m.slots[i]?=aA s)(hb:aY m.bg s.tk=aD)(hk:aY m.kp s.tk=aD)(bl:m.bg.length<63)(hf:s.fi=aD)(q:∀h',aJ c g { m.cX i { s with src:=aA u,dZ:=aA w }with bg:=m.bg++[(s.tk,p,aA u)] } h'->bL c g h g h'->R (.bl aB) h') :
  eG (run pg<|k+3) (bO<|bO<|bO og) [aA (.ref<|c.b+1),aA (.ref<|c.b+11),aA (.ref s.a),aA (.int p),aA (.tup [.int u,.int w])] h (λ_ h1=>R .aH h1) R (λ_ _=>False) λ_ _=>False:=by
 refine aC.of (r.cJ<|bX hs) ?_;refine ox (s':={ s with src:=aA u }) r hs rfl rfl rfl rfl rfl rfl λh1 r1 n1=>?_;have o1:=r1.cJ (bX<|xH (m:=m) (s':={ s with src:=aA u }) hs);refine aC.of o1 ?_;refine ox (s':={ s with src:=aA u,dZ:=aA w }) r1 (xH hs) rfl rfl rfl rfl rfl (by rw[hf];rfl) λh2 r2 n2=>?_;rw[Mz]at r2;exact Uy r hs hb hk bl r2 (n1.trans n2) q
theorem aMo(r:aJ c g m h)(hs:m.slots[i]?=aA s)(O:wm c m s)(q0:m.sP c.room s=aD->∀h',Kp h h'->R (.bl aG) h')(q1:∀l h',m.sP c.room s=aA l->aJ c g { m.cX i (s.wZ l)with bg:=Ux m.bg s.tk l } h'->bL c g h g h'->R (.bl aB) h'):WC (run pg (k+4) 34 [.ref (c.b+1),.ref (c.b+11),.ref s.a]) h R:=by
 have hm:=bX hs;have ow:=r.jn hm;rw[O.ws,Ow]at ow;have same:m.cX i s=m:=by unfold Mo.cX;rw[aJg hs]
 have qn:m.sP c.room s=aA aD->R (.bl aB) h:=λe=>q1 aD h e (by show aJ c g { m.cX i s with bg:=m.bg } h;rw[same];exact r) bL.refl;have wl:s.wi.length=s.row.nw:=by rw[<- (r.W.sw s hm).1];exact aU ..
 by_cases cl:aN.kn s.row=("load":cY)
 .obtain⟨x,y,d,er⟩:=gr.mp cl;have hk:=O.kp x y d er;have ep:s.row.pl s.wi = .int (cell s.wi 0+d):=by rw[er];rfl
  have sp:∀{h'}{R:AV->AH->Prop},Kp h h'->R (.int<|cell s.wi 0+d) h'->WC (run pg (k+3) 107 [.ref s.a]) h' R:=λ{h' R} kk qq=>aKd ((r.keep kk).cJ hm) (kk.get (r.FX hm) ow) wl (by rw[show(s.lt c.room).row=s.row from rfl,ep];exact qq);unfold Mo.sP at q0 q1 qn;rw[er]at q0 q1 qn;dsimp only at q0 q1 qn;refine aT rfl rfl<|aC.of (r.lN hm)<|aC.of gS<|aE.nt cl<|aC.of (r.cJ hm)<|sp Kp.refl<|aC.of (r.at 11)<|Zt ?_;rw[show((m.sd.mem.length:Nat):Int)=c.room from O.ml.symm];by_cases cm:0<=cell s.wi 0+d/\cell s.wi 0+d<c.room
  .rw[if_pos cm]at q0 q1 qn;refine aE.nt cm<|aC.of (r.cJ hm)<|sp Kp.refl<|aC.of (r.at 1)<|aC.of (r.at 8)<|aC.of (r.cJ hm)<|aC.of (r.cJ hm)<|K2 (t:=s.tk) (dr:=s.dr) r.shr λh1 k1=>?_;have r1:=r.keep k1;cases el:uP (cell s.wi 0+d) s.dr (m.kp.filter λq=>decide (q.1<s.tk)).reverse with
   |none=>rw[el]at q0;exact q0 rfl h1 k1
   |some o=>
    rw[el]at q1;cases o with
    |none=>exact aMj r1 hs O.bg hk O.bl O.fi cm.1 (by have:=O.ml;omega) λh' r' n'=>q1 _ h' rfl r' ((bL.keep k1).trans n')|some uw=>exact aMk r1 hs O.bg hk O.bl O.fi λh' r' n'=>q1 _ h' rfl r' ((bL.keep k1).trans n')
  .rw[if_neg cm]at qn;exact aE.nf cm<|qn rfl
 .refine aT rfl rfl<|aC.of (r.lN hm)<|aC.of gS<|aE.nf cl<|qn ?_;unfold Mo.sP;split
  .exact absurd (gr.mpr ⟨_,_,_,‹s.row=_›⟩) cl
  .rfl
end
section
variable {k:Nat}{g:Gh}
def Mo.start(m:Mo)(c:Cf)(t:Int×Int)(i:Nat)(s:Sl):Mo:=if 0<t.1-oB m.wk s.row.eA then match m.sP c.room s with
  |none=>m
  |some l=>{ m.cX i { s.wZ l with st:=aA m.nw }with bg:=Ux m.bg s.tk l,wk:=m.wk++[(s.tk,s.row.eA,m.nw+t.2)] }
 else m
theorem BA{s:Sl}{l:Option (Int×Hc×Int)}:(s.wZ l).a=s.a/\(s.wZ l).tk=s.tk/\(s.wZ l).ws=s.ws/\(s.wZ l).bJ=s.bJ/\(s.wZ l).row=s.row/\(s.wZ l).fi=s.fi:=by
 cases l with
 |none=>exact⟨rfl,rfl,rfl,rfl,rfl,rfl⟩|some p=>exact⟨rfl,rfl,rfl,rfl,rfl,rfl⟩
theorem aKj{t:Int×Int}{r0:AV}(r:aJ c g m h)(hs:m.slots[i]?=aA s)(hg:cM (c.tb.map dQ) s.row.eA=aA (dQ t))(hn:aY m.wk s.tk=aD)(hf:oB m.wk s.row.eA<t.1)(wl:m.wk.length<63)(q:∀h',aJ c g { m.cX i { s with st:=aA m.nw }with wk:=m.wk++[(s.tk,s.row.eA,m.nw+t.2)] } h'->bL c g h g h'->R .aH h') :
  eG (run pg<|k+4) (.cons (.expr<|.rF "start" [(15,85)] (.lH [19] "benches"<|.var 0)<|.cons (.lH [18] "ticket"<|.var 2)<|.cons (.var 3)<|.cons (.lH [19] "now"<|.var 0) .nil)<|.cons (.gg [18] "started" (.var 2)<|.lH [19] "now"<|.var 0) .nil) [aA (.ref<|c.b+1),aA r0,aA (.ref s.a),aA (.int s.row.eA)] h (λZ h1=>eG (run pg<|k+4) .nil Z h1 (λ_ h1=>R .aH h1) R (λ_ _=>False) λ_ _=>False) R (λ_ _=>False) λ_ _=>False:=by
 have hm:=bX hs;refine aC.of (r.at 1)<|aC.of (r.at 6)<|aC.of (r.cJ hm)<|aC.of (r.at 1)<|aKn r.xf hg hn hf λv h1 kx e=>?_;have a:=r.wX (m':={ m with wk:=m.wk++[(s.tk,s.row.eA,m.nw+t.2)] }) 7 kx e ⟨r.W.tk,r.W.t0,r.W.sn,r.W.sw,Ag r.W.wn hn,by rw[dO];exact xW wl,r.W.kn,r.W.kl,r.W.bn,r.W.bl,r.W.fn,r.W.fk,r.W.fo,r.W.ff⟩ rfl rfl (aV _);refine aC.of (a.at 1)<|aC.of (a.cJ hm) ?_;exact ox (s':={ s with st:=aA m.nw }) a hs rfl rfl rfl rfl rfl rfl λb d f=>q b d ((bL.kx r (by decide) ⟨_,rfl⟩ kx).trans f)
theorem M4{t:Int×Int}(r:aJ c g m h)(hs:m.slots[i]?=aA s)(O:wm c m s)(hg:cM (c.tb.map dQ) s.row.eA=aA (dQ t))(hn:aY m.wk s.tk=aD)(wl:m.wk.length<63)(q:∀h',aJ c g (m.start c t i s) h'->bL c g h g h'->R .aH h'):WC (run pg (k+5) 33 [.ref (c.b+1),.ref (c.b+11),.ref s.a]) h R:=by
 unfold Mo.start at q;refine aT rfl rfl<|aC.of (r.cJ<|bX hs)<|y7<|aC.of (r.at 1)<|aC.of (r.at 6)<|Yl r.xf hg λu k1=>?_;have d:=r.keep k1;by_cases a:0<t.1-oB m.wk s.row.eA
 .rw[if_pos a]at q;refine aE.dt a (aMo d hs O (λe j k2=>?_) λl j e n o=>?_)
  .rw[e]at q;exact q _ (d.keep k2)<|(bL.keep k1).trans (bL.keep k2)
  .rw[e]at q;obtain⟨l1,l2,v,w,b,x⟩:=@BA s l;have:=aKj (k:=k) (r0:=.ref (c.b+11)) n (xH hs) (b▸hg) (l2▸hn) (by rw[b];show oB m.wk _<_;omega) wl λh' f p=>q h' (by
    simp only[Mo.cX,Qq,l2,b]at f ⊢;exact f) ((bL.keep k1).trans (o.trans p))
   rw[l1,b]at this;exact this
 .rw[if_neg a]at q;exact aE.df a<|q _ d<|bL.keep k1
end
section
variable {k:Nat}{g:Gh}
def Mo.jmp(m:Mo)(room:Int)(s:Sl):Mo:=match s.row with
 |.fZ _ _=>if s.d4 room=aA s.ch then m else({ m with ah:=(s.d4 room).getD 0 }:Mo).cut (s.tk+1)
 |_=>m
theorem p9{v2:AV}(r:aJ c g m h)(hs:s∈m.slots)(hf:s.fi.isSome=aB)(q:∀g' h',aJ c g' (m.jmp c.room s) h'->iO c g h g' h'->R .aH h') :
  eG (run pg<|k+3) (bO<|bO<|bO Uq) [aA (.ref<|c.b+1),aA (.ref s.a),aA v2] h (λ_ h1=>R .aH h1) R (λ_ _=>False) λ_ _=>False:=by
 have o:=r.Bj hs hf;by_cases d:aN.kn s.row=("jump":cY)
 .obtain⟨x,t,j⟩:=qp.mp d;have l:s.d4 c.room=aA (s.row.gs s.pc s.wi):=by unfold Sl.d4 Sl.ft;rw[j];rfl
  have dt:s.dt c.room=[.int s.pc,oI (s.d1 c.room),oI (s.d2 c.room),oI (s.d3 c.room),.int (s.row.gs s.pc s.wi),(s.ft c.room).getD .aH]:=by unfold Sl.dt;rw[l];rfl
  unfold Mo.jmp at q;rw[j]at q;rw[l]at q;rw[dt]at o;refine aC.of o<|aC.of gS<|aE.dt d<|aC.of o<|aC.of o ?_;refine aE.nd (c:=s.row.gs s.pc s.wi=s.ch) (λf=>?_) λf=>?_
  .rw[if_neg λz=>f (dR z)]at q;refine aC.of o<|aC.of (r.at 1) ?_;have i:=r.tS (a:=s.row.gs s.pc s.wi);exact aC.of (i.at 1)<|aC.of (i.cJ hs)<|Bo i λv g' h' p u fr=>q g' h' p (.trans (.put r (by decide) rfl) ⟨u,λn a b _=>fr n a b⟩)
  .rw[if_pos (congrArg aA f)]at q;exact q g h r .refl
 .have e:m.jmp c.room s=m:=by
   unfold Mo.jmp;split
   .exact absurd (qp.mpr ⟨_,_,‹s.row=_›⟩) d
   .rfl
  rw[e]at q;exact aC.of o<|aC.of gS<|aE.df d<|q g h r .refl
end
section
variable {k:Nat}{g:Gh}
structure nW(c:Cf)(g:Gh)(s:Sl)(h:AH):Prop where
 o:h.ob s.a=aA (.ins 18<|(s.lt c.room).ff (s.a+2) (s.dt c.room))
 w:h.ob (s.a+2)=aA (.lst aB<|s.wi.map .int)
 l:s.a+2<h.nx
 lo:c.b<=s.a
 k1:28<=g.kd s.a
 k2:28<=g.kd (s.a+2)
theorem nW.fr(L:nW c g s h)(f:iO c g h g' h'):nW c g' s h':=
 have l:=L.l;have a:=f.ob s.a (by omega) L.k1 L.lo;have b:=f.ob (s.a+2) l L.k2 (by have:=L.lo;omega)
 ⟨a.1.trans L.o,b.1.trans L.w,bC l f.nx,L.lo,a.2▸L.k1,b.2▸L.k2⟩
theorem BB{b:Bool}(w:Eu L n a b h R):∃c fs i,h.ob n=aA (.ins c fs)/\Gv.lookup c=aA i/\(fs.lookup ("learn":cY)).isNone=aB/\WC (run pg L i [.ref n,.int a,.bl b]) h R:=by obtain⟨n',c,fs,e,o,w⟩:=gY.ex w;cases e;obtain⟨i,l,w⟩:=aC.ex w;obtain⟨hn,w⟩:=aE.an w;exact⟨c,fs,i,o,l,hn,w⟩
theorem aNz(r:aJ c g m h)(L:nW c g s h)(hg:∀u,s.src=aA u->(aY m.dW u).isSome)(q:∀b,R (.bl b) h):WC (run pg (k+1) 28 [.ref (c.b+11),.ref s.a]) h R:=by
 cases a:s.src with
 |none=>
  have o:h.ob s.a=aA (.ins 18<|{ s.lt c.room with src:=aD }.ff (s.a+2) (s.dt c.room)):=by rw[L.o];unfold Sl.lt;rw[a]
  exact aT rfl rfl<|aC.of o<|q _
 |some u=>
  have o:h.ob s.a=aA (.ins 18<|{ s.lt c.room with src:=aA u }.ff (s.a+2) (s.dt c.room)):=by rw[L.o];unfold Sl.lt;rw[a]
  obtain⟨v,d⟩:=Option.isSome_iff_exists.mp (hg u a);exact aT rfl rfl<|aC.of o<|aC.of (r.at 11)<|aC.of o<|WC.of<|Bz (r.at 14) rfl (by rw[iY,d];rfl)<|aC.of o<|q _
theorem aMr(r:aJ c g m h)(L:nW c g s h)(G:nV c n Sg Sn h)(hn:n+1<=m.cD.length+10)(hn2:n<1000)(hw:s.wi.length=s.row.nw)(hg:∀u,s.src=aA u->(aY m.dW u).isSome)(q:∀h',aJ c g m h'->iO c g h g h'->R .aH h'):WC (run pg (k+6) 27 [.ref (c.b+11),.ref s.a]) h R:=by
 have bx:=r.bx;by_cases C:aN.kn s.row=("jump":cY)
 .obtain⟨x,t,E⟩:=qp.mp C;have cl:¬aN.kn s.row=("load":cY):=by rw[E];show¬("jump":cY)="load";decide +kernel
  obtain⟨w0,I⟩:=qy (by rw[hw,E];rfl:s.wi.length=1);have F:=L.w;rw[I]at F;obtain⟨J,fs,i,B,l,hm,w⟩:=BB (qx (Ii 1) (L:=k+5) (R:=λv h'=>Kx Sg h h'/\Gs h' (n+1) 1 c.gu Sg) G.g hn2 (λj d=>bC (G.lg j d) bx) (by omega) λh' kx e=>⟨kx,e⟩);refine aT rfl rfl<|aC.of L.o<|aC.of gS<|aE.dt C<|aC.of (r.at 11)<|aC.of B<|aC.of l<|aE.t hm<|aC.of L.o<|aC.of L.o<|WC.of<|gI (cN F) rfl<|WC.of<|w.we.mono λv f z=>?_;obtain⟨kx,e⟩:=z;have f1:iO c g h g f:=.low kx G.lg;have K:aJ c g m f:=⟨r.X.low kx G.lg,⟨Sg,Sn,⟨e.kp hn λ_ _=>rfl,G.n.kp (by omega) λj d=>kx.ob j (bC (G.ln j d) bx) λz=>G.dj j z d,G.dj,G.lg,G.ln,λp D=>have y:=G.lo p D;⟨y.1,y.2.1,y.2.2.1,(kx.ob _ (bC y.2.2.1 bx) y.1).trans y.2.2.2⟩⟩⟩,r.W⟩;exact aC.of (L.fr f1).o (aC.of gS<|aE.df cl<|q f K f1)
 .refine aT rfl rfl<|aC.of L.o<|aC.of gS<|aE.df C ?_;by_cases cl:aN.kn s.row=("load":cY)
  .have lw:=λb=>BB (qx (Ii 1) (L:=k+5) (a:=s.pc) (b:=b) (R:=λv h'=>Kx Sn h h'/\Gs h' (n+1) 1 c.nv Sn) G.n hn2 (λj d=>bC (G.ln j d) bx) (by omega) λh' kx e=>⟨kx,e⟩);obtain⟨J,fs,i,B,l,hm,_⟩:=lw aB;refine aC.of L.o<|aC.of gS<|aE.dt cl<|aC.of (r.at 11)<|aC.of B<|aC.of l<|aE.t hm<|aC.of L.o<|aNz r L hg λb=>?_;obtain⟨M,N,P,A,H,O,w⟩:=lw (!b);rw[B]at A;cases A;rw[l]at H;cases H;refine WC.of<|w.we.mono λv f z=>?_;obtain⟨kx,e⟩:=z;exact q f ⟨r.X.low kx G.ln,⟨Sg,Sn,⟨G.g.kp (by omega) λj d=>kx.ob j (bC (G.lg j d) bx) λz=>G.dj j d z,e.kp hn λ_ _=>rfl,G.dj,G.lg,G.ln,λp D=>have y:=G.lo p D;⟨y.1,y.2.1,y.2.2.1,(kx.ob _ (bC y.2.2.1 bx) y.2.1).trans y.2.2.2⟩⟩⟩,r.W⟩<|.low kx G.ln
  .exact aC.of L.o<|aC.of gS<|aE.df cl<|q h ⟨r.X,⟨Sg,Sn,G.low (by omega) λ_ _=>rfl⟩,r.W⟩ .refl
end
section
variable {k:Nat}{g:Gh}
def Mo.note(m:Mo)(room:Int)(s:Sl):Mo:=match s.row with
 |.store _ _ _=>{ m with gX:=eU m.gX ((s.d2 room).getD 0) s.tk,dW:=eU m.dW s.tk (s.of.getD 0),kp:=nA m.kp s.tk }
 |.load _ _ _=>{ m with bg:=nA m.bg s.tk }
 |_=>m
structure Ew(c:Cf)(m:Mo)(s:Sl):Prop where
 st:∀x y d,s.row = .store x y d->(∃p,s.d2 c.room=aA p)/\(∃e,aY m.kp s.tk=aA e)/\m.gX.length<1000/\m.dW.length<1000
 ld:∀x y d,s.row = .load x y d->aY m.kp s.tk=aD/\∃e,aY m.bg s.tk=aA e
theorem aJ.GO(r:aJ c g m h):aJ c g { m with gX:=sto' } (h.put (c.b+13)<|.aR<|dE AV.int sto'):=
 r.sV 13 ⟨r.W.tk,r.W.t0,r.W.sn,r.W.sw,r.W.wn,r.W.wl,r.W.kn,r.W.kl,r.W.bn,r.W.bl,r.W.fn,r.W.fk,r.W.fo,r.W.ff⟩ rfl rfl (aV _)
theorem aJ.y6(r:aJ c g m h):aJ c g { m with dW:=gon' } (h.put (c.b+14)<|.aR<|dE AV.int gon'):=
 r.sV 14 ⟨r.W.tk,r.W.t0,r.W.sn,r.W.sw,r.W.wn,r.W.wl,r.W.kn,r.W.kl,r.W.bn,r.W.bl,r.W.fn,r.W.fk,r.W.fo,r.W.ff⟩ rfl rfl (aV _)
theorem aCj{β:Type}{l:Dc β}{f:Int×β->Bool}(nd:(l.map (·.1)).Pairwise (·<·)):((l.filter f).map (·.1)).Pairwise (·<·):=vN (List.filter_sublist.map _) nd
theorem O9(r:aJ c g m h)(L:nW c g s h)(N:Ew c m s)(ho:∃o,s.of=aA o)(q:∀h',aJ c g (m.note c.room s) h'->iO c g h g h'->(∀n,n<c.b->h'.ob n=h.ob n)->R .aH h'):WC (run pg (k+2) 26 [.ref (c.b+1),.ref (c.b+11),.ref s.a]) h R:=by
 have big:=kG;have lo:∀{h:AH}{i:Nat}{o:bG}{n:Nat},n<c.b->(h.put (c.b+i) o).ob n=h.ob n:=λhn=>aX (by omega);by_cases cs:aN.kn s.row=("store":cY)
 .obtain⟨x,y,d,b⟩:=gw.mp cs;obtain⟨⟨p,l⟩,⟨e,j⟩,l1,l2⟩:=N.st x y d b;obtain⟨off,u⟩:=ho;have o:∀{h},nW c g s h->h.ob s.a=aA (.ins 18<|{ s.lt c.room with of:=aA off }.ff (s.a+2) [.int s.pc,oI (s.d1 c.room),.int p,oI (s.d3 c.room),oI (s.d4 c.room),(s.ft c.room).getD .aH]):=λL=>by rw[L.o];unfold Sl.lt Sl.dt;rw[u,l];rfl
  unfold Mo.note at q;rw[b]at q;rw[l,u]at q;refine aT rfl rfl<|aC.of (o L)<|aC.of gS<|aE.dt cs<|aC.of (o L)<|aC.of (r.at 11)<|aC.of (o L)<|xN (r.at 13) rfl (by rw[mZ];omega) ?_;rw[xC];have f:=r.GO (sto':=eU m.gX p s.tk);have f1:iO c g h g _:=.put (o':=.aR (dE AV.int<|eU m.gX p s.tk)) r (i:=13) (by decide) rfl;have w:=L.fr f1;refine aC.of (o w)<|aC.of (f.at 11)<|aC.of (o w)<|xN (v:=.int off) (f.at 14) rfl (by rw[mZ];show m.dW.length<_;omega) ?_;rw[xC];have a:=f.y6 (gon':=eU m.dW s.tk off);have f2:=f1.trans (.put (o':=.aR (dE AV.int<|eU m.dW s.tk off)) f (i:=14) (by decide) rfl);have z:=L.fr f2;exact aC.of (o z)<|aC.of gS<|aE.dt cs<|aC.of (a.at 1)<|aC.of (a.at 8)<|aC.of (o z) (J0 (k:=k) (t:=s.tk) a.shr j λv=>q _ (a.AS (aCj a.W.kn)<|zG a.W.kl) (f2.trans<|.put a (i:=9) (by decide) rfl) λn hn=>by rw[lo hn,lo hn,lo hn])
 .refine aT rfl rfl<|aC.of L.o<|aC.of gS<|aE.df cs<|aC.of L.o<|aC.of gS<|aE.df cs<|aC.of L.o<|aC.of gS ?_;by_cases cl:aN.kn s.row=("load":cY)
  .obtain⟨x,y,d,b⟩:=gr.mp cl;obtain⟨j,e,A⟩:=N.ld x y d b;unfold Mo.note at q;rw[b]at q;exact aE.dt cl<|aC.of (r.at 1)<|aC.of (r.at 8)<|aC.of L.o<|I9 (k:=k) (t:=s.tk) r.shr j A λv=>q _ (r.Uz (oC r.W.bn)<|zG r.W.bl) (.put r (i:=10) (by decide) rfl) λn hn=>lo hn
  .have e:m.note c.room s=m:=by
    unfold Mo.note;split
    .exact absurd (gw.mpr ⟨_,_,_,‹s.row=_›⟩) cs
    .exact absurd (gr.mpr ⟨_,_,_,‹s.row=_›⟩) cl
    .rfl
   rw[e]at q;exact aE.df cl<|q h r .refl λ_ _=>rfl
end
section
variable {k:Nat}{g:Gh}
structure wu(c:Cf)(m:Mo)(s:Sl):Prop where
 fi:s.fi.isSome=aB
 ws:s.ws=s.wi.map aA
 nw:s.wi.length=s.row.nw
 b1:∀x,s.d1 c.room=aA x->(0<=x/\x<8)/\∃w,s.d3 c.room=aA w
 b2:∀p,s.d1 c.room=aD->s.d2 c.room=aA p->(0<=p/\p<m.sd.mem.length)/\∃w,s.d3 c.room=aA w
 bl:m.sd.bx.length=8
 ml:m.sd.mem.length<=80
 nt:s.ft c.room=aD->Ew c m s
 gn:s.ft c.room=aD->∀u,s.src=aA u->∃v,aY (m.note c.room s).dW u=aA v
 sl:m.cD.length<900
def Mo.Bq(m:Mo)(room:Int)(s:Sl)(rest:YF):Mo:={ m with slots:=rest,cD:=m.cD++[(s.lt room).gW],sd:=match s.ft room with|some _=>m.sd|none=>m.sd.fc (s.d1 room) (s.d2 room) (s.d3 room) (s.d4 room) }
def Mo.take(m:Mo)(room:Int)(s:Sl)(rest:YF):Mo:=match s.ft room with
 |some _=>({ m.Bq room s rest with brk:=aB }:Mo).cut s.tk
 |none=>(m.Bq room s rest).note room s
theorem nW.os(L:nW c g s h)(hf:s.fi.isSome=aB):h.ob s.a=aA (.ins 18<|(s.lt c.room).fs (s.a+2)):=by rw[L.o,Yn];unfold dS.fk dS.ff;rw[show(s.lt c.room).dd=s.dd c.room from rfl,xq hf]
theorem aJ.snU{x:AV}(r:aJ c g m h):aJ c g { m with cD:=m.cD++[x] } (h.put (c.b+12)<|.lst aB<|m.cD++[x]):=
 r.sV 12 ⟨r.W.tk,r.W.t0,r.W.sn,r.W.sw,r.W.wn,r.W.wl,r.W.kn,r.W.kl,r.W.bn,r.W.bl,r.W.fn,r.W.fk,r.W.fo,r.W.ff⟩ rfl rfl (by simp)
theorem aJ.Jg{b':Bool}(r:aJ c g m h):aJ c g { m with sd:=sd',brk:=b' } (h.put (c.b+11)<|.ins 20<|{ m with sd:=sd',brk:=b' }.lf c):=
 r.sV 11 ⟨r.W.tk,r.W.t0,r.W.sn,r.W.sw,r.W.wn,r.W.wl,r.W.kn,r.W.kl,r.W.bn,r.W.bl,r.W.fn,r.W.fk,r.W.fo,r.W.ff⟩ rfl rfl (aV _)
theorem aMh(r:aJ c g m h)(L:nW c g s h)(G:nV c n Sg Sn h)(hn:n+1<=m.cD.length+10)(hn2:n<1000)(nw:s.wi.length=s.row.nw)(nt:s.ft c.room=aD->Ew c m s)(ho:∃o,s.of=aA o)(gn:s.ft c.room=aD->∀u,s.src=aA u->∃v,aY (m.note c.room s).dW u=aA v)
  (q:∀g' h',aJ c g' (match s.ft c.room with|some _=>({ m with brk:=aB }:Mo).cut s.tk|none=>m.note c.room s) h'->iO c g h g' h'->R .aH h') :
  eG (run pg<|k+6) (bO<|bO<|bO<|bO ny) [aA (.ref<|c.b+1),aA (.ref<|c.b+11),aA (.ref s.a)] h (λ_ h1=>R .aH h1) R (λ_ _=>False) λ_ _=>False:=by
 cases d:s.ft c.room with
 |some f=>
  rw[d]at q;obtain⟨xs,rfl⟩:∃xs,f = .tup xs:=Hr d;have o:h.ob s.a=aA (.ins 18<|(s.lt c.room).ff (s.a+2) [.int s.pc,oI (s.d1 c.room),oI (s.d2 c.room),oI (s.d3 c.room),oI (s.d4 c.room),.tup xs]):=by rw[L.o];unfold Sl.dt;rw[d];rfl
  refine aC.of o<|aC.of (r.at 11) ?_;have e:=r.Jg (sd':=m.sd) (b':=aB);have f1:iO c g h g (h.put (c.b+11)<|.ins 20<|{ m with sd:=m.sd,brk:=aB }.lf c):=.put r (by decide) rfl;refine aC.of (e.at 1)<|aC.of (L.fr f1).o (Bo e λv g' h' i j fr=>?_);exact q g' h' i<|f1.trans ⟨j,λn a b _=>fr n a b⟩
 |none=>
  rw[d]at q;have o:h.ob s.a=aA (.ins 18<|(s.lt c.room).ff (s.a+2) [.int s.pc,oI (s.d1 c.room),oI (s.d2 c.room),oI (s.d3 c.room),oI (s.d4 c.room),.aH]):=by rw[L.o];unfold Sl.dt;rw[d];rfl
  refine aC.of o<|O9 r L (nt d) ho λh1 e f1 lo=>?_;have ns:(m.note c.room s).cD=m.cD:=by unfold Mo.note;split<;>rfl
  exact aMr e (L.fr f1) (G.low (aV _) lo) (ns▸hn) hn2 nw (λu l=>by obtain⟨v,p⟩:=gn d u l;rw[p];rfl) λt i f2=>q g t i (f1.trans f2)
theorem aMl(r:aJ c g m h)(L:nW c g s h)(G:nV c (m.cD.length+10) Sg Sn h)(T:wu c m s)(ho:∃o,s.of=aA o)(q:∀g' h',aJ c g' (m.take c.room s m.slots) h'->iO c g h g' h'->R .aH h') :
  eG (run pg<|k+6) (bO<|bO ny) [aA (.ref<|c.b+1),aA (.ref<|c.b+11),aA (.ref s.a)] h (λ_ h1=>R .aH h1) R (λ_ _=>False) λ_ _=>False:=by
 have sl:=T.sl;have big:=kG;refine aC.of (r.at 11) ?_;refine aE.t rfl<|aC.of rfl<|aE.t (uN<|r.at 12)<|aC.of (L.os T.fi)<|Nc (L.os T.fi)<|WC.of<|bc (r.at 12) (by omega) ?_;have a:=r.snU (x:=(s.lt c.room).gW);have f1:iO c g h g (h.put (c.b+12)<|.lst aB<|m.cD++[(s.lt c.room).gW]):=.put r (by decide) rfl;have d:nV c (m.cD.length+10) Sg Sn (h.put (c.b+12)<|.lst aB<|m.cD++[(s.lt c.room).gW]):=G.low (aV _) λn hn=>aX (by omega);revert a f1 d
 generalize h.put (c.b+12) (.lst aB<|m.cD++[(s.lt c.room).gW])=h1;intro a f1 d;have p:=L.fr f1;have fin:∀sd',(m.take c.room s m.slots)=(match s.ft c.room with|some _=>({ m with cD:=m.cD++[(s.lt c.room).gW],sd:=sd',brk:=aB }:Mo).cut s.tk|none=>({ m with cD:=m.cD++[(s.lt c.room).gW],sd:=sd' }:Mo).note c.room s) ->
   eG (run pg<|k+6) (bO<|bO<|bO<|bO ny) [aA (.ref<|c.b+1),aA (.ref<|c.b+11),aA (.ref s.a)] (h1.put (c.b+11)<|.ins 20<|{ m with cD:=m.cD++[(s.lt c.room).gW],sd:=sd' }.lf c) (λ_ h1=>R .aH h1) R (λ_ _=>False) λ_ _=>False:=λsd' em=>by
  have f2:=f1.trans (.put (o':=.ins 20 ({ m with cD:=m.cD++[(s.lt c.room).gW],sd:=sd' }.lf c)) a (i:=11) (by decide) rfl);have t:nV c (m.cD.length+10) Sg Sn (h1.put (c.b+11)<|.ins 20<|{ m with cD:=m.cD++[(s.lt c.room).gW],sd:=sd' }.lf c):=d.low (aV _) λn hn=>aX (by omega);refine aMh (k:=k) (a.Jg (sd':=sd') (b':=m.brk)) (L.fr f2) t (by show _<=(m.cD++[_]).length+10;rw[dO];show _<=m.cD.length+1+10;omega) (by omega) T.nw (λe=>⟨(T.nt e).st,(T.nt e).ld⟩) ho (λe u w=>?_) λg' h' y z=>q g' h' (em▸y) (f2.trans z);obtain⟨v,A⟩:=T.gn e u w;refine⟨v,?_⟩;rw[<- A];unfold Mo.note;split<;>rfl
 unfold Mo.take Mo.Bq at fin;refine aC.of (a.at 11)<|aC.of p.o ?_;cases b:s.ft c.room with
 |some f=>
  rw[b]at fin;obtain⟨xs,rfl⟩:∃xs,f = .tup xs:=Hr b;have j:s.dt c.room=[.int s.pc,.aH,.aH,.aH,.aH,.tup xs]:=by unfold Sl.dt Sl.d1 Sl.d2 Sl.d3 Sl.d4;rw[b];rfl
  rw[j];refine UM ?_;exact aC.of rfl<|aC.of rfl<|aC.of (a.at 11)<|fin m.sd rfl
 |none=>
  rw[b]at fin;have l:s.d4 c.room=aA (s.row.gs s.pc s.wi):=by unfold Sl.d4;rw[b];rfl
  have j:s.dt c.room=[.int s.pc,oI (s.d1 c.room),oI (s.d2 c.room),oI (s.d3 c.room),.int (s.row.gs s.pc s.wi),.aH]:=by unfold Sl.dt;rw[b,l];rfl
  rw[j];refine UN T.bl T.ml T.b1 T.b2 ?_;exact aC.of rfl<|aC.of rfl<|aC.of (a.at 11)<|fin (m.sd.fc (s.d1 c.room) (s.d2 c.room) (s.d3 c.room)<|aA<|s.row.gs s.pc s.wi) (by rw[l])
theorem aMn{rest:YF}(r:aJ c g m h)(hs:m.slots=s::rest)(T:wu c m { s with of:=aA m.nw })(q:∀g' h',aJ c g' (m.take c.room { s with of:=aA m.nw } rest) h'->nW c g' { s with of:=aA m.nw } h'->h.nx<=h'.nx->(∀n,n<h.nx->28<=g.kd n->c.b<=n->n≠s.a->h'.ob n=h.ob n/\g'.kd n=g.kd n)->R .aH h'):WC (run pg (k+7) 25 [.ref (c.b+1),.ref (c.b+11),.ref s.a]) h R:=by
 have h0:m.slots[0]?=aA s:=by rw[hs];rfl
 refine aT rfl rfl<|aC.of (r.at 1)<|aC.of (r.cJ<|bX h0) ?_;obtain⟨s1,e1⟩:∃s1:Sl,s1={ s with of:=aA m.nw }:=⟨_,rfl⟩;rw[<- e1]at T q;have ea:s1.a=s.a:=by rw[e1]
 refine t8 r h0 ea (by rw[e1]) (by rw[e1]) (by rw[e1]) (by rw[e1]) (by rw[e1];rfl) λh1 r1 n1 e1'=>?_;have es1:(m.cX 0 s1).slots=s1::rest:=by unfold Mo.cX;rw[hs];rfl
 have hm1:s1∈(m.cX 0 s1).slots:=es1▸fV;have zk:=pZ (r1.W.t0 s1 hm1);have L1:nW c g s1 h1:=⟨r1.Bj hm1 T.fi,by have:=r1.jn hm1;rw[T.ws,Ow]at this;exact this,r1.FX hm1,r1.Jp hm1,by rw[(r1.X.dy _ _ _ (by omega)<|yZ r1.W hm1).1];omega,by rw[(r1.X.dy _ _ _ (by omega)<|zF r1.W hm1).1];omega⟩;obtain⟨Sg,Sn,G1⟩:=r1.G;have k2:∀{o:bG},Kp h1 (h1.new o):=Kp.refl.new;refine ju<|aC.of (r1.at 1)<|WC.of<|Cd (lo:=aA ((1:Nat):Int)) (hi:=aD) r1.kH.1 ?_;rw[Wk,show((m.cX 0 s1).slots.map λs:Sl=>AV.ref s.a).drop 1=rest.map λs=>.ref s.a by rw[es1];rfl];have r2:=r1.Bh (th:=m.kI) (k2) (aV _) (dA _) bM (by rw[es1];exact List.sublist_cons_self ..);refine aC.of rfl<|aC.of rfl<|aC.of (k2.get (r1.lt 1)<|r1.at 1) ?_;have f2:iO c g h1 { g with sl:=h1.nx,kd:=λi=>if i=h1.nx then 15 else g.kd i } ((h1.new<|.lst aB<|rest.map λs=>AV.ref s.a).put (c.b+1) (.ins 19<|{ m.cX 0 s1 with slots:=rest,kI:=m.kI }.wf c h1.nx)):=⟨jL _,λn hn hk _=>⟨by rw[aX λw=>by rw[w,(r1.X.st 1 _ rfl).1]at hk;omega,eF (cA hn)],if_neg (cA hn)⟩⟩;have G2:nV c (m.cD.length+10) Sg Sn ((h1.new<|.lst aB<|rest.map λs=>AV.ref s.a).put (c.b+1) (.ins 19<|{ m.cX 0 s1 with slots:=rest,kI:=m.kI }.wf c h1.nx)):=G1.low (aV _) λn hn=>by have:=r1.bx;rw[aX (by omega),eF (by omega)]
 revert r2 f2 G2
 change _->_->_->eG (run pg<|k+6) (bO<|bO ny) [aA (.ref<|c.b+1),aA (.ref<|c.b+11),aA (.ref s.a)] ((h1.new<|.lst aB<|rest.map λs=>AV.ref s.a).put (c.b+1) (.ins 19<|{ m.cX 0 s1 with slots:=rest,kI:=m.kI }.wf c h1.nx)) (λ_ h1=>R .aH h1) R (λ_ _=>False) λ_ _=>False;intro r2 f2 G2;rw[<- ea];exact aMl r2 (L1.fr f2) G2 ⟨T.fi,T.ws,T.nw,T.b1,T.b2,T.bl,T.ml,λe=>⟨(T.nt e).st,(T.nt e).ld⟩,λe u eu=>by
  obtain⟨v,hv⟩:=T.gn e u eu;refine⟨v,?_⟩;rw[<- hv];unfold Mo.note;split<;>rfl,T.sl⟩ ⟨m.nw,by rw[e1]⟩ λg' h' r3 f3=>q g' h' r3 (L1.fr<|f2.trans f3) (by have:=(f2.trans f3).nx;omega) λn hn hk hb na=>by
  have z:=(f2.trans f3).ob n (by omega) hk hb;exact⟨z.1.trans (e1' n na),z.2⟩
end
section
variable {k:Nat}{g:Gh}
theorem uc{V:AV->AH->Prop}(r:aJ c g m h)(z:V (.int m.slots.length) h):WC (Bi.g .len [.ref g.sl]) h V:=WC.of (kK (cN r.kH.1) (by rw[aU];exact z))
theorem aJ.fresh(r:aJ c g m h)(k1:Kp h h')(hn:h.nx<=n):aJ c { g with kd:=λi=>if i=n then 28 else g.kd i } m h':=by
 have a:=r.keep k1;refine⟨⟨λi o e=>?_,λk j o b e=>?_⟩,a.G,⟨r.W.tk,r.W.t0,r.W.sn,r.W.sw,r.W.wn,r.W.wl,r.W.kn,r.W.kl,r.W.bn,r.W.bl,r.W.fn,r.W.fk,r.W.fo,r.W.ff⟩⟩
 .have z:=r.X.st i o e;have d:=a.X.st i o e;exact⟨(if_neg (by omega)).trans z.1,d.2⟩
 .have z:=r.X.dy k j o b e;exact⟨(if_neg (by omega)).trans z.1,(a.X.dy k j o b e).2⟩
theorem aJ.aCg(r:aJ c g m h)(hb:c.b<=n)(hk:g.kd n=28):aJ c g m (h.put n o'):=by
 refine⟨⟨λi o e=>?_,λk j o a e=>?_⟩,r.Jn hb,r.W⟩
 .have z:=r.X.st i o e;have d:i<15:=(List.getElem?_eq_some_iff.mp e).1;exact⟨z.1,z.2.1,(aX λw=>by rw[w,hk]at z;omega).trans z.2.2⟩
 .have z:=r.X.dy k j o a e;refine⟨z.1,z.2.1,z.2.2.1,(aX λw=>?_).trans z.2.2.2⟩;rw[w,hk]at z;rw[<- z.1]at e;obtain⟨f,b,_⟩:=Option.map_eq_some_iff.mp e;have:=r.W.fk _ _ b;omega
end
section
variable {k:Nat}{g:Gh}
theorem aJ.wkU{wk':Dc (Int×Int)}(r:aJ c g m h)(kx:Kx [c.b+7] h h')(e:h'.ob (c.b+7)=aA (.aR<|dE dQ wk'))(wn:(wk'.map (·.1)).Nodup)(wl:wk'.length<64):aJ c g { m with wk:=wk' } h':=
 r.wX 7 kx e ⟨r.W.tk,r.W.t0,r.W.sn,r.W.sw,wn,wl,r.W.kn,r.W.kl,r.W.bn,r.W.bl,r.W.fn,r.W.fk,r.W.fo,r.W.ff⟩ rfl rfl (aV _)
end
section
variable {k:Nat}{g:Gh}
theorem aJ.Wz(r:aJ c g m h)(q:R (.bl<|decide<|(c.rs.length:Int)<=m.ah) h):WC (run pg (k+1) 110 [.ref (c.b+1)]) h R:=OM (r.at 1) rfl rfl (r.at 2) (by rw[aU];exact q)
def Mo.eB(m:Mo)(c:Cf):AV:=if m.brk=aB then .str "fault" else if m.slots=[]/\(c.rs.length:Int)<=m.ah then .str "end" else .aH
theorem yt(r:aJ c g m h)(q:R (m.eB c) h):WC (run pg (k+2) 124 [.ref c.b]) h R:=by
 have o0:h.ob c.b=aA (.ins 21 [("window",.ref (c.b+1)),("ledger",.ref (c.b+11))]):=r.at 0;unfold Mo.eB at q;refine aT rfl rfl<|aC.of o0<|aC.of (r.at 11)<|aE.by (b:=m.brk) (λa=>?_) λa=>?_
 .rw[if_pos a]at q;exact q
 .rw[if_neg (a▸gR)]at q;refine aC.of o0 (aC.of (r.at 1)<|uc r<|aE.dc (λf=>?_) λf=>?_)
  .have e:m.slots=[]:=List.length_eq_zero_iff.mp (by omega);refine aC.of o0 (aC.of (r.at 1)<|r.Wz<|aE.dc (λd=>?_) λd=>?_)
   .rw[if_pos ⟨e,d⟩]at q;exact q
   .rw[if_neg λz=>d z.2]at q;exact q
  .rw[if_neg λz=>f (by rw[z.1];rfl)]at q;exact q
theorem FI(r:aJ c g m h)(hh:m.eB c = .aH)(q:R .aH h):WC (run pg (k+3) 125 [.ref c.b]) h R:=by have o0:h.ob c.b=aA (.ins 21 [("window",.ref (c.b+1)),("ledger",.ref (c.b+11))]):=r.at 0;refine aT rfl rfl<|aC.of o0<|yt r ?_;rw[hh];exact q
theorem aJ.Ko(r:aJ c g m h):aJ c g { m with nw:=m.nw+1 } (h.put (c.b+1)<|.ins 19<|{ m with nw:=m.nw+1 }.wf c g.sl):=
 r.sV 1 ⟨r.W.tk,r.W.t0,r.W.sn,r.W.sw,r.W.wn,r.W.wl,r.W.kn,r.W.kl,r.W.bn,r.W.bl,r.W.fn,r.W.fk,r.W.fo,r.W.ff⟩ rfl rfl (aV _)
theorem aNd(r:aJ c g m h)(hh:m.eB c = .aH)
  (q:∀h1,aJ c g { m with nw:=m.nw+1 } h1->h1.nx=h.nx->WC (run pg (k+9) 24 [.ref (c.b+1),.ref (c.b+11)]) h1 λv h2=>∃g2 m2,aJ c g2 m2 h2/\(m2.eB c ≠ .aH->R v h2)/\(m2.eB c = .aH->WC (run pg (k+9) 29 [.ref (c.b+1),.ref (c.b+11)]) h2 λ_ h3=>(∃g3 m3,aJ c g3 m3 h3)/\WC (run pg (k+9) 32 [.ref (c.b+1),.ref (c.b+11)]) h3 λ_ h4=>(∃g4 m4,aJ c g4 m4 h4)/\WC (run pg (k+9) 15 [.ref (c.b+1),.ref (c.b+11)]) h4 λ_ h5=>R v h5)):WC (run pg (k+10) 119 [.ref c.b]) h R:=by
 have o0:∀{h m g},aJ c g m h->h.ob c.b=aA (.ins 21 [("window",.ref (c.b+1)),("ledger",.ref (c.b+11))]):=λr=>r.at 0;refine aT rfl rfl<|aC.of (o0 r)<|FI r hh<|aC.of (o0 r)<|aC.of (r.at 1)<|aC.of (r.at 1) ?_;have e:=r.Ko;refine aC.of (o0 e)<|WC.of<|(q _ e rfl).we.mono λv h2 z=>?_;obtain⟨g2,m2,d,f,i⟩:=z;refine aC.of (o0 d)<|yt d ?_;by_cases cn:m2.eB c = .aH
 .rw[cn];refine aC.of (o0 d)<|WC.of<|(i cn).we.mono λp h3 z=>?_;obtain⟨⟨g3,m3,j⟩,w3⟩:=z;refine aC.of (o0 j)<|WC.of<|w3.we.mono λv4 h4 z=>?_;obtain⟨⟨g4,m4,l⟩,n⟩:=z;exact aC.of (o0 l)<|WC.of<|n.we.mono λs h5 z=>z
 .have o:=f cn;have:lV (m2.eB c)=aG:=by
   unfold Mo.eB at cn ⊢;split
   .rfl
   .split
    .rfl
    .rename_i a b;rw[if_neg a,if_neg b]at cn;exact absurd rfl cn
  exact aE.f this o
end
section
variable {k:Nat}
theorem N4(q:∀h',h'.nx=h.nx+2->Kp h h'->h'.ob h.nx=aA (.ins 16 [("filled",.ref (h.nx+1))])->h'.ob (h.nx+1)=aA (.aR [])->R .aH h'):WC (run pg (k+1) 89 [.ref h.nx]) (h.new<|.ins 16 []) R:=by have k1:∀{a b:bG},Kp h ((h.new a).new b):=Kp.refl.new.new;exact aT rfl rfl<|aC.of ((eF<|cA<|dA _).trans bM)<|q _ rfl (k1.put<|aV _) bD<|(aX<|lQ<|dA _).trans bM
theorem UO(q:∀h',h'.nx=h.nx+2->Kp h h'->h'.ob h.nx=aA (.ins 15<|fe tb<|h.nx+1)->h'.ob (h.nx+1)=aA (.aR [])->R .aH h'):WC (run pg (k+1) 83 [.ref h.nx,.tup (tb.map dQ)]) (h.new<|.ins 15 []) R:=by exact aT rfl rfl<|aC.of bM<|aC.of ((eF<|cA<|dA _).trans bD)<|q _ rfl (((Kp.refl.new.put<|aV _).new).put (aV _)) bD<|(aX<|lQ<|dA _).trans bM
theorem aJh(q:∀h',h'.nx=h.nx+3->Kp h h'->h'.ob h.nx=aA (.ins 17 [("kept",.ref (h.nx+1)),("begun",.ref (h.nx+2))])->h'.ob (h.nx+1)=aA (.aR [])->h'.ob (h.nx+2)=aA (.aR [])->R .aH h'):WC (run pg (k+1) 94 [.ref h.nx]) (h.new<|.ins 17 []) R:=by
 have a:h.nx≠h.nx+1:=by omega
 have b:h.nx≠h.nx+2:=by omega
 have c:h.nx+1≠h.nx+2:=by omega
 exact aT rfl rfl<|aC.of ((eF a).trans bM)<|aC.of ((eF b).trans bD)<|q _ rfl (((((Kp.refl.new).new).put (aV _)).new).put (aV _)) bD ((aX a.symm).trans ((eF c).trans ((aX a.symm).trans bM)))<|(aX b.symm).trans bM
theorem J1{sd:Sd}(q:∀h',h'.nx=h.nx+4->Kp h h'->h'.ob h.nx=aA (.ins 20 [("state",sd.av),("guesser",.ref gu),("nerve",.ref nv),("slips",.ref (h.nx+1)),("storers",.ref (h.nx+2)),("gone",.ref (h.nx+3)),("broken",.bl aG)])->h'.ob (h.nx+1)=aA (.lst aB [])->h'.ob (h.nx+2)=aA (.aR [])->h'.ob (h.nx+3)=aA (.aR [])->R .aH h'):WC (run pg (k+1) 116 [.ref h.nx,sd.av,.ref gu,.ref nv]) (h.new<|.ins 20 []) R:=by
 have n1:h.nx≠h.nx+1:=by omega
 have n2:h.nx≠h.nx+2:=by omega
 have n3:h.nx≠h.nx+3:=by omega
 have n4:h.nx+1≠h.nx+2:=by omega
 have n5:h.nx+1≠h.nx+3:=by omega
 have n6:h.nx+2≠h.nx+3:=by omega
 have le:=aV h.nx;refine aT rfl rfl<|aC.of bM<|aC.of bD<|aC.of bD<|aC.of ((eF n1).trans bD)<|aC.of ((eF n2).trans bD)<|aC.of ((eF n3).trans bD)<|aC.of bD ?_;refine q _ rfl ((((((((((Kp.refl.new).put le).put le).put le).new).put le).new).put le).new).put le |>.put le) bD ?_ ?_ ?_
 .exact(aX n1.symm).trans ((aX n1.symm).trans ((eF n5).trans ((aX n1.symm).trans ((eF n4).trans ((aX n1.symm).trans bM)))))
 .exact(aX n2.symm).trans ((aX n2.symm).trans ((eF n6).trans ((aX n2.symm).trans bM)))
 .exact(aX n3.symm).trans ((aX n3.symm).trans bM)
def ia(sd:Sd):Mo:=⟨[],sd.pc,0,0,0,λ_=>[],[],[],[],sd,[],[],[],aG⟩
def wf5(n:Nat)(pc sz wd:Int):List (cY×AV):=[("program",.ref (n+1)),("ahead",.int pc),("size",.int sz),("wide",.int wd),("slots",.ref (n+2))]
theorem aPm{sz wd:Int}(nx:h.nx=n+3)(ow:h.ob n=aA (.ins 19<|wf5 n pc sz wd))
  (q:∀h',h'.nx=n+10->(∀i,i<n+3->i≠n->h'.ob i=h.ob i)->h'.ob n=aA (.ins 19 [("program",.ref (n+1)),("ahead",.int pc),("size",.int sz),("wide",.int wd),("slots",.ref (n+2)),("names",.ref (n+3)),("benches",.ref (n+5)),("shelf",.ref (n+7)),("tickets",.int 0),("thrown",.int 0),("now",.int 0)]) ->
   h'.ob (n+3)=aA (.ins 16 [("filled",.ref (n+4))])->h'.ob (n+4)=aA (.aR [])->h'.ob (n+5)=aA (.ins 15<|fe tb<|n+6)->h'.ob (n+6)=aA (.aR [])->h'.ob (n+7)=aA (.ins 17 [("kept",.ref (n+8)),("begun",.ref (n+9))])->h'.ob (n+8)=aA (.aR [])->h'.ob (n+9)=aA (.aR [])->R .aH h') :
  eG (run pg<|k+1) (bO<|bO<|bO<|bO<|bO Ul) [aA (.ref n),aA (.ref np),aA (.int pc),aA (.int sz),aA (.int wd),aA (.tup<|tb.map dQ)] h (λ_ h1=>R .aH h1) R (λ_ _=>False) λ_ _=>False:=by
 have po:∀{h:AH}{o:bG}{i j:Nat},i≠j->(h.put j o).ob i=h.ob i:=λe=>aX e;refine N4 (k:=k) λh1 x1 k1 a1 a2=>⟨rfl,?_⟩;rw[nx]at x1 a1 a2 ⊢;refine aC.of rfl<|aC.of rfl<|aC.of (k1.get (by omega) ow) ?_;refine UO (k:=k) (h:=h1.put n _) λh2 x2 k2 b1 b2=>⟨rfl,?_⟩;have y1:∀{o:bG},(h1.put n o).nx=n+5:=x1;rw[y1]at x2 b1 b2 ⊢;refine aC.of rfl<|aC.of rfl<|aC.of (k2.get (by show n<h1.nx;omega) bD) ?_;refine aJh (k:=k) (h:=h2.put n _) λh3 x3 k3 c1 c2 c3=>⟨rfl,?_⟩;have y2:∀{o:bG},(h2.put n o).nx=n+7:=x2;rw[y2]at x3 c1 c2 c3 ⊢;refine aC.of rfl<|aC.of rfl<|aC.of (k3.get (by show n<h2.nx;omega) bD)<|aC.of bD<|aC.of bD<|aC.of bD ?_;have l1:h1.nx=n+5:=x1;have l2:h2.nx=n+7:=x2;have e3:∀{i},i≠n->i<n+7->h3.ob i=h2.ob i:=λ{i} ni li=>(k3.ob i (by show i<h2.nx;omega)).trans (aX ni);have e2:∀{i},i≠n->i<n+5->h2.ob i=h1.ob i:=λ{i} ni li=>(k2.ob i (by show i<h1.nx;omega)).trans (aX ni);have e4:∀{i:Nat}{o1 o2 o3 o4:bG},i≠n->((((h3.put n o1).put n o2).put n o3).put n o4).ob i=h3.ob i:=λni=>by rw[aX ni,aX ni,aX ni,aX ni]
 refine q _ x3 (λi li ni=>?_) bD ?_ ?_ ?_ ?_ ?_ ?_ ?_
 .rw[e4 ni,e3 ni (by omega),e2 ni (by omega)];exact k1.ob i (by omega)
 .rw[e4 (by omega),e3 (by omega) (by omega),e2 (by omega) (by omega)];exact a1
 .rw[e4 (by omega),e3 (by omega) (by omega),e2 (by omega) (by omega)];exact a2
 .rw[e4 (by omega),e3 (by omega) (by omega)];exact b1
 .rw[e4 (by omega),e3 (by omega) (by omega)];exact b2
 .rw[e4 (by omega)];exact c1
 .rw[e4 (by omega)];exact c2
 .rw[e4 (by omega)];exact c3
theorem aPn{sz wd:Int}{sd:Sd}(op:h.ob np=aA (.lst aB<|rs.map aN.av))(lp:np<h.nx)
  (q:∀h',h'.nx=h.nx+10->Kp h h'->h'.ob h.nx=aA (.ins 19 [("program",.ref (h.nx+1)),("ahead",.int sd.pc),("size",.int sz),("wide",.int wd),("slots",.ref (h.nx+2)),("names",.ref (h.nx+3)),("benches",.ref (h.nx+5)),("shelf",.ref (h.nx+7)),("tickets",.int 0),("thrown",.int 0),("now",.int 0)]) ->
   h'.ob (h.nx+1)=aA (.lst aB<|rs.map aN.av)->h'.ob (h.nx+2)=aA (.lst aB [])->h'.ob (h.nx+3)=aA (.ins 16 [("filled",.ref (h.nx+4))])->h'.ob (h.nx+4)=aA (.aR [])->h'.ob (h.nx+5)=aA (.ins 15<|fe tb<|h.nx+6)->h'.ob (h.nx+6)=aA (.aR [])->h'.ob (h.nx+7)=aA (.ins 17 [("kept",.ref (h.nx+8)),("begun",.ref (h.nx+9))])->h'.ob (h.nx+8)=aA (.aR [])->h'.ob (h.nx+9)=aA (.aR [])->R .aH h') :
  WC (run pg (k+2) 109 [.ref h.nx,.ref np,.int sd.pc,.int sz,.int wd,.tup (tb.map dQ)]) (h.new<|.ins 19 []) R:=by
 have le:=aV h.nx;have g:h.nx≠h.nx+1:=by omega
 have l:h.nx≠h.nx+2:=by omega
 have j:h.nx+1≠h.nx+2:=by omega
 refine aT rfl rfl<|WC.of<|Cb (cN<|(eF<|cA lp).trans op)<|aC.of rfl<|aC.of rfl<|aC.of ((eF g).trans bM)<|aC.of bD<|aC.of bD<|aC.of bD<|aC.of ((eF l).trans bD) ?_;have v:∀{m n o p r s t u:bG},Kp h ((((((((h.new m).new n).put h.nx o).put h.nx p).put h.nx r).put h.nx s).new t).put h.nx u):=λ{m n o p r s t u}=>(((((((Kp.refl.new).new).put le).put le).put le).put le).new).put le;refine aPm rfl bD λh' nx fr w a b c d e f x=>q h' nx ⟨by omega,λi y=>(fr i (by omega) (by omega)).trans (v.ob i y)⟩ w ?_ ?_ a b c d e f x
 .exact(fr _ (by omega) (by omega)).trans ((aX g.symm).trans ((eF j).trans ((aX g.symm).trans ((aX g.symm).trans ((aX g.symm).trans ((aX g.symm).trans bM))))))
 .exact(fr _ (by omega) (by omega)).trans ((aX l.symm).trans bM)
theorem CP(q:R (.ref n) h):WC (run pg (k+1) 35 [.ref n]) h R:=aT rfl rfl q
def vv(P:Nat->bG->Prop):Nat->List (Option bG)->Prop
 |_,[]=>True
 |i,aD::l=>vv P (i+1) l
 |i,aA o::l=>P i o/\vv P (i+1) l
theorem Ub{P:Nat->bG->Prop}:∀{l:List (Option bG)}{n:Nat},vv P n l->∀i o,l[i]?=aA (aA o)->P (n+i) o
 |[],_,_,i,o,e=>by cases e
 |x::l,n,a,0,o,e=>by cases e;exact a.1
 |x::l,n,a,i+1,o,e=>by
  have b:vv P (n+1) l:=by
   cases x with
   |none=>exact a|some y=>exact a.2
  have:=Ub b i o e;rw[Nat.add_assoc,LK 1 i]at this;exact this
theorem wf0{sd:Sd}{kd:Nat->Nat}:Wf ⟨n,[],kd⟩ (ia sd):=by refine⟨ki,λ_ h=>(kM h).elim,(by decide:0<64),λ_ h=>(kM h).elim,ki,(by decide:0<64),ki,(by decide:0<64),ki,(by decide:0<64),ki,λx f h=>?_,λ_ _=>rfl,λ_=>(by decide:0<99999)⟩;cases h
theorem L5{lo:List (Nat×bG)}{b:Nat}{sz wd:Int}{sd:Sd}(hb:h.nx=b)(op:h.ob np=aA (.lst aB<|rs.map aN.av))(lp:np<h.nx)(G:nV ⟨b,rs,sz,wd,tb,gu,nv,sd.mem.length,lo⟩ 10 Sg Sn h)
  (q:∀g h',aJ ⟨b,rs,sz,wd,tb,gu,nv,sd.mem.length,lo⟩ g (ia sd) h'->Kp h h'->R .aH h'):WC (run pg (k+3) 118 [.ref b,.ref np,sd.av,.int sz,.int wd,.tup (tb.map dQ),.ref gu,.ref nv]) (h.new<|.ins 21 []) R:=by
 subst hb;have v:Kp h (h.new<|.ins 21 []):=Kp.refl.new;refine aT rfl rfl<|aPn (v.get lp op) (kN lp) λm s k1 w1 w2 w3 A B C D w8 E t=>⟨rfl,aC.of rfl (aC.of rfl<|aC.of (k1.get (dA _) bM) ?_)⟩;refine CP<|CP ?_;have s:m.nx=h.nx+11:=s;refine J1 λd F k2 l1 l2 w x=>⟨rfl,?_⟩;have H:∀{o:bG},(m.put h.nx o).nx=h.nx+11:=s;rw[H]at F l1 l2 w x ⊢;refine aC.of rfl<|aC.of rfl<|aC.of (k2.get (by show h.nx<m.nx;omega) bD) ?_;have u:∀{i}{o:bG},i≠h.nx->i<h.nx+11->(d.put h.nx o).ob i=m.ob i:=λ{i o} p li=>(aX p).trans ((k2.ob i (by show i<m.nx;omega)).trans (aX p));have I:∀{i}{o:bG},i≠h.nx->(d.put h.nx o).ob i=d.ob i:=λp=>aX p;have y:∀{o:bG},Kp h (d.put h.nx o):=λ{o}=>⟨by show h.nx<=d.nx;omega,λi J=>(u (by omega) (by omega)).trans ((k1.ob i (by omega)).trans (v.ob i J))⟩;have K:aJ ⟨h.nx,rs,sz,wd,tb,gu,nv,sd.mem.length,lo⟩ ⟨h.nx+3,[],λn=>if n=h.nx+3 then 15 else n-h.nx⟩ (ia sd) (d.put h.nx<|.ins 21 [("window",.ref (h.nx+1)),("ledger",.ref (h.nx+11))]):=?_
 .exact q _ _ K y
 refine⟨⟨λi o e=>?_,λj n o L e=>?_⟩,⟨Sg,Sn,G.low (aV _) λn hn=>y.ob n hn⟩,wf0⟩
 .have fin:∀{i o},i<15->i≠3->(d.put h.nx<|.ins 21 [("window",.ref (h.nx+1)),("ledger",.ref (h.nx+11))]).ob (h.nx+i)=aA o->(if h.nx+i=h.nx+3 then 15 else h.nx+i-h.nx)=i/\h.nx+i<d.nx/\(d.put h.nx<|.ins 21 [("window",.ref (h.nx+1)),("ledger",.ref (h.nx+11))]).ob (h.nx+i)=aA o:=λ{i o} a b z=>⟨by rw[if_neg (by omega)];omega,by omega,z⟩;have f:∀{i o},i<11->i≠3->i≠0->m.ob (h.nx+i)=aA o->_:=λ{i o} a b c z=>fin (by omega) b ((u (by omega) (by omega)).trans z);have r:∀{i o},i<15->i≠3->i≠0->d.ob (h.nx+i)=aA o->_:=λ{i o} a b c z=>fin a b ((I (by omega)).trans z);have key:=Ub (P:=λi o=>(if h.nx+i=h.nx+3 then 15 else h.nx+i-h.nx)=i/\h.nx+i<d.nx/\(d.put h.nx<|.ins 21 [("window",.ref (h.nx+1)),("ledger",.ref (h.nx+11))]).ob (h.nx+i)=aA o) (l:=(ia sd).fS ⟨h.nx,rs,sz,wd,tb,gu,nv,sd.mem.length,lo⟩ ⟨h.nx+3,[],λn=>if n=h.nx+3 then 15 else n-h.nx⟩) ⟨fin (by decide) (by decide) bD,f (by decide) (by decide) (by decide) w1,f (by decide) (by decide) (by decide) w2,f (by decide) (by decide) (by decide) A,f (by decide) (by decide) (by decide) B,f (by decide) (by decide) (by decide) C,f (by decide) (by decide) (by decide) D,f (by decide) (by decide) (by decide) w8,f (by decide) (by decide) (by decide) E,f (by decide) (by decide) (by decide) t,r (by decide) (by decide) (by decide) l1,r (by decide) (by decide) (by decide) l2,r (by decide) (by decide) (by decide) w,r (by decide) (by decide) (by decide) x,trivial⟩ i o e;rw[Nat.zero_add]at key;exact key
 .unfold Mo.dyn at e;split at e
  .rename_i z;subst z;cases e;exact⟨if_pos rfl,pP ..,by show h.nx+3<d.nx;omega,(u (i:=h.nx+3) (by omega) (by omega)).trans w3⟩
  .split at e
   .cases e
   .cases e
end
section
variable {k:Nat}{g:Gh}
theorem n8(r:aJ c g m h)(w0:0<=c.wd)(w8:c.wd<=8)(P:Nat->Mo->Prop)(p0:P 0 m)
  (stp:∀i m,P i m->(i:Int)<c.wd->(m.slots.length:Int)<c.sz->m.ah<c.rs.length->∃row,mm c m row/\m.sd.bx.length=8/\(∀a,(m.enter row a).wR c.room m.slots.length 0 row.fT)/\∀a dr gs,P (i+1) (m.uC c row a dr gs))
  (q:∀i m' g' h',P i m'->(i:Int)<=c.wd->aJ c g' m' h'->bL c g h g' h'->R .aH h'):WC (run pg (k+7) 15 [.ref (c.b+1),.ref (c.b+11)]) h R:=by
 refine aT rfl rfl<|WB.of<|Cm ?_;refine uo (λi d h'=>i<=c.wd/\d=[aA (.ref<|c.b+1),aA (.ref<|c.b+11),aA (.int i)]/\∃g' m',aJ c g' m' h'/\P i m'/\bL c g h g' h') 8 (λi d h' y=>by omega) (λi d h' y=>?_) FU 0 _ _ (by rw[eZ];omega) ⟨w0,rfl,g,m,r,p0,bL.refl⟩;obtain⟨o,rfl,g',m',b,e,f⟩:=y;have fin:=q i m' g' h' e o b f;refine oQ _<|aC.of (b.at 1)<|aE.dc (λj=>?_) λj=>?_;rotate_left
 .exact fin
 refine aC.of (b.at 1)<|uc b<|aC.of (b.at 1)<|aE.dc (λl=>?_) λl=>?_;rotate_left
 .exact fin
 refine aC.of (b.at 1)<|b.Wz ?_;by_cases n:(c.rs.length:Int)<=m'.ah
 .rw[decide_eq_true n];exact fin
 .rw[decide_eq_false n];obtain⟨row,E,bl,ok,p⟩:=stp i m' e j l (by omega);refine(gE _ ?_:Wt (jO (run pg<|k+6) _ _) _ _ _ _ _);refine n9 b E bl ok λa dr gs g2 u s t=>?_;exact⟨by omega,rfl,g2,_,s,p a dr gs,f.trans t⟩
theorem aKk{t:Int×Int}(hs:m.slots[i]?=aA s):((m.start c t i s).slots.map (·.a))=m.slots.map (·.a):=by
 unfold Mo.start;split
 .split
  .rfl
  .exact gz hs BA.1
 .rfl
theorem aKg(r:aJ c g m h)(P:Nat->Mo->Prop)(p0:P 0 m)
  (stp:∀i m s,P i m->m.slots[i]?=aA s->(s.put<m.nw->s.st=aD->s.ws.all km=aB->∃t,wm c m s/\cM (c.tb.map dQ) s.row.eA=aA (dQ t)/\aY m.wk s.tk=aD/\m.wk.length<63/\P (i+1) (m.start c t i s))/\(¬(s.put<m.nw/\s.st=aD/\s.ws.all km=aB)->P (i+1) m))
  (q:∀m' h',P m.slots.length m'->aJ c g m' h'->bL c g h g h'->R .aH h'):WC (run pg (k+6) 32 [.ref (c.b+1),.ref (c.b+11)]) h R:=by
 have sn:=r.W.sn;refine aT rfl rfl<|WB.of<|lO<|mU<|aC.of (r.at 1)<|nO r.kH.1 ?_;refine qN (bb:=aB) (xs:=m.slots.map λs=>.ref s.a) (λj e h'=>∃m' v2,e=[aA (.ref<|c.b+1),aA (.ref<|c.b+11),v2]/\aJ c g m' h'/\P j m'/\m'.slots.map (·.a)=m.slots.map (·.a)/\bL c g h g h') (by rw[aU,eZ];omega) ⟨m,_,rfl,r,p0,rfl,bL.refl⟩ (λj e h' y=>?_) (λj x e h' v y=>?_)<|λe h' y=>?_
 .obtain⟨m',v2,_,b,_,d,_⟩:=y;rw[b.kH.1];have:=congrArg (Qf AV.ref) d;rw[iC,iC]at this;exact congrArg (λz=>aA (bG.lst aB z)) this
 .obtain⟨m',v2,rfl,b,f,d,l⟩:=y;obtain⟨s0,h0,rfl⟩:=jR v;have p:(m'.slots.map (·.a))[j]?=aA s0.a:=by rw[d,fH,h0];rfl
  rw[fH]at p;obtain⟨s,n,w⟩:=Option.map_eq_some_iff.mp p;have hm:=bX n;obtain⟨A,B⟩:=stp j m' s f n;rw[<- w];have no:=λz=>(⟨m',aA (.ref s.a),rfl,b,B z,d,l⟩:∃m' v2,[aA (AV.ref<|c.b+1),aA (.ref<|c.b+11),aA (.ref s.a)]=[aA (.ref<|c.b+1),aA (.ref<|c.b+11),v2]/\aJ c g m' h'/\P (j+1) m'/\m'.slots.map (·.a)=m.slots.map (·.a)/\bL c g h g h');refine iZ _<|gE _<|aC.of (b.cJ hm)<|aC.of (b.at 1)<|aE.dc (λcp=>?_) λcp=>no λz=>cp z.1;cases ht:s.st with
  |some C=>
   have o:h'.ob s.a=aA (.ins 18<|{ s.lt c.room with st:=aA C }.fk (s.a+2)):=by rw[b.lN hm];unfold Sl.lt;rw[ht]
   exact aC.of o (no λz=>by rw[ht]at z;cases z.2.1)
  |none=>
   have o:h'.ob s.a=aA (.ins 18<|{ s.lt c.room with st:=aD }.fk (s.a+2)):=by rw[b.lN hm];unfold Sl.lt;rw[ht]
   refine aC.of o<|aC.of o<|aIl (b.cJ hm) (b.jn hm) ?_;cases u:s.ws.all km with
   |false=>exact no λz=>by rw[u]at z;cases z.2.2
   |true=>obtain⟨t,O,D,hn,wl,E⟩:=A cp ht u;exact M4 b n O D hn wl λH F G=>⟨_,_,rfl,F,E,(aKk n).trans d,l.trans G⟩
 .obtain⟨m',v2,rfl,b,f,d,l⟩:=y;rw[aU]at f;exact q m' h' f b l
theorem aMm(r:aJ c g m h)(w0:0<=c.wd)(w8:c.wd<=8)(P:Hd->Mo->Prop)(p0:P [] m)
  (stp:∀l m s rest,P l m->(l.length:Int)<c.wd->m.slots=s::rest->s.fi.isSome=aB->wu c m { s with of:=aA m.nw }/\P (l++[(({ s with of:=aA m.nw }:Sl).lt c.room).gW]) (m.take c.room { s with of:=aA m.nw } rest))
  (q:∀l m' n g' h',P l m'->((l.length:Int)=c.wd\/∀s,m'.slots[0]?=aA s->s.fi=aD)->aJ c g' m' h'->h.nx<=n->n<h'.nx->h'.ob n=aA (.lst aB l)->g'.kd n=28->R (.ref n) h'):WC (run pg (k+8) 24 [.ref (c.b+1),.ref (c.b+11)]) h R:=by
 have k1:Kp h (h.new<|.lst aB []):=Kp.refl.new;refine aT rfl rfl<|WB.of<|Cm ?_;refine uo (λi f h'=>(i:Int)<=c.wd/\(∃j,f=[aA (.ref<|c.b+1),aA (.ref<|c.b+11),aA (.ref h.nx),j])/\∃g' m' l,aJ c g' m' h'/\P l m'/\l.length=i/\g'.kd h.nx=28/\h.nx<h'.nx/\h'.ob h.nx=aA (.lst aB l)) 8 (λi f h' y=>by omega) (λi f h' y=>?_) FU 0 _ _ (by rw[eZ];omega) ⟨w0,⟨_,rfl⟩,_,m,[],(r.fresh (n:=h.nx) k1<|aV _),p0,rfl,if_pos rfl,dA _,bM⟩;obtain⟨D,⟨j,rfl⟩,g',m',l,a,p,v,kd,lt,ol⟩:=y;have fin:=λz=>q l m' h.nx g' h' p z a (aV _) lt ol kd;refine oQ _<|WC.of<|kK (cN ol)<|aC.of (a.at 1)<|aE.dc (λw=>?_) λw=>?_;rotate_left
 .exact fin<|.inl (by omega)
 refine aC.of (a.at 1)<|uc a ?_;cases b:m'.slots with
 |nil=>exact fin (.inr λs e=>by rw[b]at e;cases e)|cons s rest=>
  have h0:m'.slots[0]?=aA s:=by rw[b];rfl
  have hm:=bX h0;have t:cM (m'.slots.map λs=>AV.ref s.a) 0=aA (.ref s.a):=b▸gS;refine aE.dt (by simp only[iB];omega)<|aC.of (a.at 1)<|WC.of<|gI (cN a.kH.1) t ?_;cases d:s.fi with
  |none=>
   have o:h'.ob s.a=aA (.ins 18<|{ s.lt c.room with fi:=aD }.fk (s.a+2)):=by rw[a.lN hm];unfold Sl.lt;rw[d]
   exact aC.of o<|fin (.inr λz e=>by rw[h0]at e;cases e;exact d)
  |some x=>
   have o:h'.ob s.a=aA (.ins 18<|{ s.lt c.room with fi:=aA x }.fk (s.a+2)):=by rw[a.lN hm];unfold Sl.lt;rw[d]
   obtain⟨T,A⟩:=stp l m' s rest p (by omega) b (by rw[d];rfl);refine aC.of o ?_;refine(gE _ ?_:Wt (jO (run pg<|k+7) _ _) _ _ _ _ _);refine(aC.of (a.at 1)<|WC.of<|gI (cN a.kH.1) t<|aMn a b T λg2 E B u C fr=>?_);have ne:h.nx≠s.a:=(rH ol (a.cJ hm) nofun);have fn:=fr h.nx lt (by rw[kd];exact aV _) r.bx ne;have on:=fn.1.trans ol;refine aE.t (uN on)<|aC.of (u.os T.fi)<|Nc (u.os T.fi)<|WC.of<|bc on (by have:=kG;omega) ?_;exact⟨by omega,⟨_,rfl⟩,_,_,_,B.aCg r.bx (fn.2.trans kd),A,by rw[dO,v];rfl,fn.2.trans kd,bC lt C,bD⟩
end
section
variable {k:Nat}{g:Gh}
theorem x6{t:Int}(r:aJ c g m h)(P:Nat->Nat->Mo->Prop)(p0:P 0 0 m)
  (stp:∀i j m s,P i j m->m.slots[i]?=aA s->j<s.bJ.length->(s.bJ[j]?=aA (aA t)->yK m s j/\P i (j+1) (m.give i j w))/\(s.bJ[j]?≠aA (aA t)->P i (j+1) m))
  (nxt:∀i m s,P i s.bJ.length m->m.slots[i]?=aA s->P (i+1) 0 m)
  (q:∀i m' g' h',P i 0 m'->m'.slots.length<=i->aJ c g' m' h'->bL c g h g' h'->R .aH h'):WC (run pg (k+5) 31 [.ref (c.b+1),.int t,.int w]) h R:=by
 refine aT rfl rfl<|WB.of<|Cm ?_;refine uo (λi Z h'=>i<=64/\(∃v4 v5,Z=[aA (.ref<|c.b+1),aA (.int t),aA (.int w),aA (.int i),v4,v5])/\∃g' m',aJ c g' m' h'/\P i 0 m'/\bL c g h g' h') 64 (λi Z h' y=>y.1) (λi Z h' y=>?_) FU 0 _ h (by rw[eZ];omega) ⟨jZ _,⟨_,_,rfl⟩,g,m,r,p0,bL.refl⟩;obtain⟨_,⟨v4,v5,rfl⟩,g',m',r',p',f'⟩:=y;refine oQ _<|aC.of (r'.at 1)<|uc r' ?_;show if decide (i<(m'.slots.length:Int))=aB then _ else _
 by_cases ci:i<m'.slots.length
 .rw[if_pos (by simpa)];have sn:=r'.W.sn;obtain⟨s,es⟩:∃s,m'.slots[i]?=aA s:=⟨_,eN ci⟩;have hm:=bX es;have e1:cM (m'.slots.map λs=>AV.ref s.a) i=aA (.ref s.a):=nq (by rw[fH,es];rfl);have nl:s.bJ.length<=2:=by rw[(r'.W.sw _ hm).2];exact ic
  have nl':((s.lt c.room).bJ.map oI).length=s.bJ.length:=aU ..;refine gE _<|aC.of (r'.at 1)<|WC.of<|gI (cN r'.kH.1) e1<|WB.of<|lO<|Cg ?_;refine aC.of (r'.cJ hm) ⟨tq (by omega) (by omega),?_⟩;refine Hn (λj Z h''=>(∃v5,Z=[aA (.ref<|c.b+1),aA (.int t),aA (.int w),aA (.int i),aA (.ref s.a),v5])/\∃g2 m2 s2,aJ c g2 m2 h''/\P i j m2/\bL c g h g2 h''/\m2.slots[i]?=aA s2/\s2.a=s.a/\s2.bJ=s.bJ) (by rw[eZ,oR];omega) ⟨⟨_,rfl⟩,g',m',s,r',p',f',es,rfl,rfl⟩ (λj Z h'' hj y=>?_)<|λZ h'' y=>?_
  .obtain⟨⟨v5,rfl⟩,g2,m2,s2,r2,p2,f2,es2,ea,en⟩:=y;rw[nl',<- en]at hj;have e2:cM (s2.bJ.map oI) (j:Int)=aA (oI ((s2.bJ)[j]?).join):=Uh hj;obtain⟨y1,y2⟩:=stp i j m2 s2 p2 es2 hj;rw[<- ea,Int.zero_add];refine iZ _<|gE _<|aC.of (r2.cJ<|bX es2)<|aC.of e2 ?_;cases eo:(s2.bJ[j]?).join with
   |none=>exact WC.of<|By rfl ⟨⟨_,rfl⟩,g2,m2,s2,r2,y2 (λz=>by rw[z]at eo;cases eo),f2,es2,rfl,en⟩|some u=>
    refine aE.dc (λz=>?_) λz=>?_
    .have e3:s2.bJ[j]?=aA (aA t):=by rw[eN hj]at eo ⊢;rw[show s2.bJ[j]=aA u from eo,show u=t from z]
     obtain⟨G,p3⟩:=y1 e3;refine aC.of (r2.at 1)<|Zj r2 es2 rfl G λv g3 h3 r3 f3=>?_;exact⟨⟨_,rfl⟩,g3,_,_,r3,p3,f2.trans f3,(Hy r2.W.tk es2).1,rfl,en⟩
    .exact⟨⟨_,rfl⟩,g2,m2,s2,r2,y2 (λw=>z (by rw[w]at eo;exact(dR eo).symm)),f2,es2,rfl,en⟩
  .obtain⟨⟨v5,rfl⟩,g2,m2,s2,r2,p2,f2,es2,ea,en⟩:=y;rw[nl',<- en]at p2;exact⟨by omega,⟨_,_,rfl⟩,g2,m2,r2,nxt i m2 s2 p2 es2,f2⟩
 .rw[if_neg (by simpa using ci)];exact q i m' g' h' p' (by omega) r' f'
end
section
variable {k:Nat}{g:Gh}
theorem q8{v:Int}(ev:v=c.room)(es:s'={ s with fi:=aA m.nw })(r:aJ c g m h)(hs:m.slots[i]?=aA s)(ews:s.ws=s.wi.map aA)(hw:kY s.wi)(hf:s.fi=aD)
  (P:Nat->Nat->Mo->Prop)(Q:Mo->Prop)(qm:∀m,Q m->s'∈m.slots)(q0:s'.d1 c.room=aD->Q (m.cX i s'))
  (q1:∀x,s'.d1 c.room=aA x->∃w,s'.d3 c.room=aA w/\P 0 0 (m.cX i s')/\∀i j m s,P i j m->m.slots[i]?=aA s->j<s.bJ.length->(s.bJ[j]?=aA (aA s'.tk)->yK m s j/\P i (j+1) (m.give i j w))/\(s.bJ[j]?≠aA (aA s'.tk)->P i (j+1) m))
  (nxt:∀i m s,P i s.bJ.length m->m.slots[i]?=aA s->P (i+1) 0 m)(q2:∀n m2,P n 0 m2->m2.slots.length<=n->Q m2)
  (q:∀m2 g' h',Q m2->aJ c g' (m2.jmp c.room s') h'->bL c g h g' h'->R .aH h'):WC (run pg (k+7) 30 [.ref (c.b+1),.ref s.a,.int v]) h R:=by
 subst ev;have hm:=bX hs;have t:=r.jn hm;rw[ews,Ow]at t;have wl:s.wi.length=s.row.nw:=by rw[<- (r.W.sw s hm).1];exact aU ..
 refine aT rfl rfl<|aC.of (r.cJ hm)<|aC.of (r.cJ hm)<|aC.of (r.cJ hm)<|WC.of<|xM (cN t)<|aC.of (r.cJ hm)<|K5 wl hw ?_;rw[show(s.lt c.room).row.fw (s.lt c.room).pc s.wi c.room (oI (s.lt c.room).dZ) = .tup (s.dt c.room) from Ws];refine aC.of rfl<|aC.of rfl<|aC.of (r.cJ hm) ?_;have nb:c.b+1≠s.a:=(rH (r.at 1) (r.cJ hm) (λz=>by cases z));refine aC.of ((aX nb).trans (r.at 1))<|aC.of bD ?_;have A:gG "finished" (.int m.nw) (gG "deed" (.tup<|s.dt c.room)<|(s.lt c.room).fs (s.a+2))=(s'.lt c.room).fs (s.a+2):=by rw[es];unfold Sl.lt;rw[show({ s with fi:=aA m.nw }:Sl).dd c.room = .tup (s.dt c.room) from xq rfl];rfl
 have d:s'.a=s.a:=by rw[es]
 have u:s'.fi.isSome=aB:=by rw[es];rfl
 have a:=r.ua hs d (by rw[es]) (by rw[es]) (by rw[es]) (by rw[es]);rw[<- A,<- DL]at a;have kd:=(r.qo hm).1;have fr:∀{B C:bG},bL c g h g ((h.put s.a B).put s.a C):=(bL.put kd).trans (bL.put kd);have o:=a.Bj (bX<|xH (m:=m) (s':=s') hs) u;rw[d]at o;refine aC.of o ?_;have fin:=λm2 g2 f v2 l (f2:bL c g h g2 f) (y:Q m2)=>p9 (k:=k+3) (v2:=v2) l (qm m2 y) u λg' h' D E=>q m2 g' h' y D (f2.trans<|bL.t7 E);rw[d]at fin;have e:s'.dt c.room=[.int s'.pc,oI (s'.d1 c.room),oI (s'.d2 c.room),oI (s'.d3 c.room),oI (s'.d4 c.room),(s'.ft c.room).getD .aH]:=rfl;cases b:s'.d1 c.room with
 |none=>rw[b]at e;rw[e];exact fin _ _ _ _ a fr<|q0 b
 |some x=>obtain⟨w,F,p0,p⟩:=q1 x b;rw[b,F]at e;rw[e]at o ⊢;exact aC.of o<|aC.of o<|x6 a P p0 p nxt λn m2 g2 f G l2 l f2=>fin m2 g2 f _ l (fr.trans f2) (q2 n m2 G l2)
end
section
variable {k:Nat}{g:Gh}
inductive Tl(c:Cf)(m:Mo)(i:Nat)(s s':Sl)(Z:Mo->Prop):Prop
 |mk (P:Nat->Nat->Mo->Prop) (Q:Mo->Prop) (_:s'={ s with fi:=aA m.nw }) (_:s.ws=s.wi.map aA) (_:kY s.wi) (_:s.fi=aD) (_:∀m,Q m->s'∈m.slots) (_:s'.d1 c.room=aD->Q (m.cX i s'))
  (_:∀x,s'.d1 c.room=aA x->∃w,s'.d3 c.room=aA w/\P 0 0 (m.cX i s')/\∀i j m s,P i j m->m.slots[i]?=aA s->j<s.bJ.length->(s.bJ[j]?=aA (aA s'.tk)->yK m s j/\P i (j+1) (m.give i j w))/\(s.bJ[j]?≠aA (aA s'.tk)->P i (j+1) m))
  (_:∀i m s,P i s.bJ.length m->m.slots[i]?=aA s->P (i+1) 0 m) (_:∀n m2,P n 0 m2->m2.slots.length<=n->Q m2) (_:∀m2,Q m2->Z (m2.jmp c.room s'))
theorem p5(r:aJ c g m h)(et:ts=jW aG (qL m.wk m.nw))(P:Xj->Mo->Prop)(p0:P ts { m with wk:=m.wk.filter λp=>!decide (p.2.2<=m.nw) })
  (stp:∀t ts m,P (t::ts) m->c.room=m.sd.mem.length/\(m.slot t=aD->P ts m)/\∀i s,m.slots[i]?=aA s->s.tk=t->∃s',Tl c m i s s' (P ts))
  (q:∀m' g' h',P [] m'->aJ c g' m' h'->bL c g h g' h'->R .aH h'):WC (run pg (k+8) 29 [.ref (c.b+1),.ref (c.b+11)]) h R:=by
 have tl:ts.length<64:=by rw[et,(Ng aG<|qL m.wk m.nw).length_eq];unfold qL;rw[aU];exact zG r.W.wl
 refine aT rfl rfl<|WB.of<|lO<|mU ?_;refine aC.of (r.at 1)<|aC.of (r.at 6)<|aC.of (r.at 1)<|XJ r.xf r.W.wl λn C kx e hn f on=>?_;have D:=(r.fresh Kp.refl hn).wkU kx e (oC r.W.wn) (zG r.W.wl);have f1:bL c g h ⟨g.sl,g.kf,λi=>if i=n then 28 else g.kd i⟩ C:=⟨kx.nx,λi d A hb=>⟨((bL.kx r (by decide) ⟨_,rfl⟩ kx).ob i d A hb).1,(if_neg (by omega)).trans A⟩⟩;rw[<- et]at on;refine nO on ?_;refine qN (λj l h'=>h'.ob n=aA (.lst aB<|ts.map .int)/\(∃v2 B,l=[aA (.ref<|c.b+1),aA (.ref<|c.b+11),v2,B])/\∃g' m',aJ c g' m' h'/\P (ts.drop j) m'/\g'.kd n=28/\n<h'.nx/\bL c g h g' h') (by rw[aU,eZ];omega) ⟨on,⟨_,_,rfl⟩,_,_,D,p0,if_pos rfl,f,f1⟩ (λ_ _ _ y=>y.1) (λj x l h' E y=>?_)<|λl h' y=>?_
 .obtain⟨on,⟨v2,B,rfl⟩,g',m',a,b,kd,lt,nx⟩:=y;obtain⟨t,ht,rfl⟩:=jR E;rw[Gw ht]at b;obtain⟨rm,F,G⟩:=stp t _ m' b;refine iZ _<|gE _<|aC.of (a.at 1)<|GH a ?_;cases o:m'.slot t with
  |none=>exact⟨on,⟨_,_,rfl⟩,g',m',a,F o,kd,lt,nx⟩|some s=>have hm:s∈m'.slots:=cf o;obtain⟨i,d⟩:=Qb hm;have et:s.tk=t:=of_decide_eq_true (Px (p:=λs:Sl=>decide (s.tk=t)) o);obtain⟨s',⟨H,Q,I,u,hw,J,K,L,M,w,N,z⟩⟩:=G i s d et;refine aC.of (a.at 11)<|q8 (v:=((m'.sd.mem.map AV.int).length:Int)) (by rw[aU,rm]) I a d u hw J H Q K L M w N λO g2 U S T f2=>?_;have fn:=f2.ob n lt kd (dF r.bx hn);exact⟨fn.1.trans on,⟨_,_,rfl⟩,g2,_,T,z O S,fn.2,bC lt f2.nx,nx.trans f2⟩
 .obtain⟨_,_,g',m',a,b,_,_,nx⟩:=y;rw[aU,Dd]at b;exact q m' g' h' b a nx
end
section
variable {l:YF}
def Sl.dn(room:Int)(s:Sl):Prop:=s.fi.isSome=aB/\s.ft room=aD
def dP(s:Sl):Option (Int×Hc×Hc):=match s.row with
 |.store _ _ d=>aA (s.tk,((s.ws[1]?).join).map (·+d),(s.ws[0]?).join)
 |_=>aD
theorem wW{p:Int×Hc×Hc}(h:dP s=aA p):p.1=s.tk:=by unfold dP at h;split at h<;>cases h;rfl
abbrev pU(l:YF):Prop:=(l.map (·.tk)).Pairwise (·<·)
theorem pU.eq(h:pU l)(hs:s∈l)(hz:z∈l)(e:z.tk=s.tk):z=s:=by have b:=vG hz h;rw[e]at b;exact dR<|b.symm.trans<|vG hs h
theorem pU.ix{k:Nat}(h:pU l)(hk:l[k]?=aA z)(hs:l[i]?=aA s)(e:z.tk=s.tk):k=i:=by
 have nd:(l.map (·.tk)).Nodup:=h.imp kh;have a:(l.map (·.tk))[k]?=aA z.tk:=by rw[fH,hk];rfl
 have b:(l.map (·.tk))[i]?=aA z.tk:=by rw[fH,hs,e];rfl
 obtain⟨ha,a⟩:=List.getElem?_eq_some_iff.mp a;obtain⟨hb,b⟩:=List.getElem?_eq_some_iff.mp b;exact(Dj nd).mp (a.trans b.symm)
theorem ub(hs:l[i]?=aA s):s'∈l.set i s':=bX (mI (List.getElem?_eq_some_iff.mp hs).1)
theorem FZ{k:Nat}(hs:l[i]?=aA s)(hk:(l.set i s')[k]?=aA z):(k=i/\z=s')\/(k≠i/\l[k]?=aA z):=by
 by_cases w:i=k
 .subst w;rw[mI (List.getElem?_eq_some_iff.mp hs).1]at hk;exact .inl ⟨rfl,(dR hk).symm⟩
 .rw[kZ w]at hk;exact .inr ⟨λe=>w e.symm,hk⟩
theorem aJc(h:pU l)(hs:l[i]?=aA s)(hz:z∈l.set i s'):z=s'\/(z∈l/\z.tk≠s.tk):=by
 obtain⟨k,a⟩:=Qb hz;rcases FZ hs a with⟨_,e⟩|⟨ne,e⟩
 .exact .inl e
 .exact .inr ⟨bX e,λw=>ne (h.ix e hs w)⟩
theorem Na(hs:l[i]?=aA s)(hz:z∈l)(e:z.tk≠s.tk):z∈l.set i s':=by obtain⟨k,a⟩:=Qb hz;refine bX<|(kZ λw=>?_).trans a;subst w;rw[hs]at a;cases a;exact e rfl
theorem AU:((l.filterMap dP).map (·.1)).Sublist (l.map (·.tk)):=by
 induction l with
 |nil=>exact .slnil|cons z l a=>
  rw[mH];split
  .exact a.cons _
  .rw[jC,wW ‹_›];exact a.cons_cons _
theorem F8{f:Int->Bool}:(l.filterMap dP).filter (λp=>f p.1)=(l.filter λs=>f s.tk).filterMap dP:=by
 induction l with
 |nil=>rfl|cons z l a=>
  rw[mH,jA];cases e:dP z with
  |none=>
   rw[a];split
   .rw[mH,e]
   .rfl
  |some p=>
   rw[jA,wW e];split
   .rw[mH,e,a]
   .exact a
theorem zw(hs:l[i]?=aA s)(ek:dP s'=dP s):(l.set i s').filterMap dP=l.filterMap dP:=by
 induction l generalizing i with
 |nil=>rfl|cons z l a=>
  cases i with
  |zero=>cases hs;rw[Qp,mH,mH,ek]|succ i=>rw[Qo,mH,mH,a hs]
theorem zx{v w:Hc×Hc}(h:pU l)(hs:l[i]?=aA s)(e1:dP s=aA (s.tk,w))(e2:dP s'=aA (s.tk,v)):(l.set i s').filterMap dP=eU (l.filterMap dP) s.tk v/\aY (l.filterMap dP) s.tk=aA w:=by
 have hm:(s.tk,w)∈l.filterMap dP:=List.mem_filterMap.mpr ⟨s,bX hs,e1⟩;refine⟨?_,nC ((vN AU h).imp kh) hm⟩;unfold eU;rw[if_pos (List.any_eq_true.mpr ⟨_,hm,decide_eq_true rfl⟩)];clear hm;induction l generalizing i with
 |nil=>cases hs|cons z l c=>
  have a:=List.pairwise_cons.mp h;cases i with
  |zero=>cases hs;rw[Qp,mH,mH,e1,e2,jC,if_pos rfl];refine congrArg _ ((Dl λp b=>?_).trans (KZ _)).symm;refine if_neg λw=>?_;have:=a.1 p.1 (AU.subset<|List.mem_map.mpr ⟨p,b,rfl⟩);rw[w]at this;exact bp _ this
  |succ i=>
   rw[Qo,mH,mH,c a.2 hs];cases e:dP z with
   |none=>rfl|some p=>rw[jC,if_neg (by rw[wW e];exact kh<|a.1 s.tk<|List.mem_map.mpr ⟨s,bX hs,rfl⟩)]
theorem o8{t:Int}(h:pU l):∃n,l.filter (λs=>decide (s.tk<t))=l.take n:=by
 induction l with
 |nil=>exact⟨0,rfl⟩|cons z l b=>
  have a:=List.pairwise_cons.mp h;rw[jA];split
  .obtain⟨n,e⟩:=b a.2;exact⟨n+1,by rw[e,LH]⟩
  .rename_i w;refine⟨0,List.filter_eq_nil_iff.mpr λs c y=>w ?_⟩;have:=a.1 s.tk (List.mem_map.mpr ⟨s,c,rfl⟩);exact decide_eq_true<|bu this<|of_decide_eq_true y
theorem o5{t:Int}{k:Nat}(h:pU l)(e:(l.filter<|λs=>decide (s.tk<t))[k]?=aA s):l[k]?=aA s:=by
 obtain⟨n,en⟩:=o8 h;rw[en,KO]at e;split at e
 .exact e
 .cases e
theorem DH{t:Int}{l:Xj}:(lW t l).Sublist l:=by have:=List.reverse_sublist.mpr (JY (λu=>decide (t<=u)) (l:=l.reverse));rw[List.reverse_reverse]at this;exact this
theorem Zn{wk:Dc (Int×Int)}{f:Int×Int×Int->Bool}{g:Int}:oB (wk.filter f) g<=oB wk g:=Int.ofNat_le.mpr (List.filter_sublist.filter _).length_le
theorem BW{β:Type}{d:Dc β}(h:pU l)(nd:(d.map (·.1)).Nodup)(hd:∀p∈d,∃s∈l,s.tk=p.1):d.length<=l.length:=by
 have:=Pt nd λx a=>by obtain⟨p,b,rfl⟩:=List.mem_map.mp a;obtain⟨s,hs,e⟩:=hd p b;exact List.mem_map.mpr ⟨s,hs,e⟩
 rwa [aU,aU]at this
theorem Vg{t:Int}(h:pX bg t p=aA b):(∃q∈bg,q.1=b)/\t<b:=by
 unfold pX Af at h;split at h
 .cases h
 .rename_i w;cases h;obtain⟨q,a,e⟩:=List.mem_map.mp (Jt λz=>w (by rw[z];rfl));rw[Dn]at a;refine⟨⟨q,a.1,e⟩,?_⟩;have:=a.2;unfold mL at this;rw[bS,decide_eq_true_eq]at this;rw[<- e];exact this.1
theorem K0{l:List (Int×Hc×Hc)}(h:uP p dr l=aA (aA (u,w))):∃q∈l,q.1=u/\q.2.2=aA w:=by
 induction l with
 |nil=>cases h|cons q l a=>
  obtain⟨t,sp,v⟩:=q;unfold uP at h;split at h
  .cases h
  .split at h
   .cases v with
    |none=>cases h|some v=>cases h;exact⟨_,fV,rfl,rfl⟩
   .obtain⟨q,b,e⟩:=a h;exact⟨q,jD _ b,e⟩
end
section
variable {nw nw' tks':Int}{K K':Int->Prop}
def vE(c:Cf)(g:Int):Int:=(c.tb.getD g.toNat (1,1)).1
def Mo.xI(m:Mo)(u:Int):Prop:=∃z∈m.slots,z.tk=u/\(dP z).isSome=aB
structure nY(c:Cf)(nw bQ:Int)(K:Int->Prop)(dW:Dc Int)(bg:Dc (Int×Hc))(s:Sl):Prop where
 t0:0<=s.tk
 t1:s.tk<bQ
 p0:0<=s.pc
 hr:c.rs[s.pc.toNat]?=aA s.row
 wl:s.ws.length=s.row.nw
 nl:s.bJ.length=s.row.nw
 wo:∀w,aA w∈s.ws->wd w
 nm:∀u,aA u∈s.bJ->u<s.tk
 hw:∀w,s.dZ=aA w->wd w
 pu:s.put<=nw
 s0:s.st=aD->s.fi=aD/\s.src=aD
 s1:∀τ,s.st=aA τ->s.put<τ/\τ<=nw/\aD∉s.ws
 f1:∀φ,s.fi=aA φ->φ<=nw/\∃τ,s.st=aA τ/\φ=τ+mT c.tb s.row
 sr:∀u,s.src=aA u->(u<s.tk/\K u)\/(aY dW u).isSome=aB
 ld:∀x y d,s.row = .load x y d->s.st.isSome=aB->0<=cell s.wi 0+d/\cell s.wi 0+d<c.room->s.dZ.isSome=aB/\∃e,(s.tk,e)∈bg
 of:s.of=aD
theorem nY.go(i:nY c nw bQ K dW bg s)(hn:nw<=nw')(ht:bQ<=tks')(hs:∀u,(u<s.tk/\K u)\/(aY dW u).isSome=aB->(u<s.tk/\K' u)\/(aY gon' u).isSome=aB)(hb:∀e,(s.tk,e)∈bg->(s.tk,e)∈bg'):nY c nw' tks' K' gon' bg' s:=
 ⟨i.t0,Pp i.t1 ht,i.p0,i.hr,i.wl,i.nl,i.wo,i.nm,i.hw,pM i.pu hn,i.s0,λb e=>have z:=i.s1 b e;⟨z.1,pM z.2.1 hn,z.2.2⟩,λf e=>have z:=i.f1 f e;⟨pM z.1 hn,z.2⟩,λu e=>hs u (i.sr u e),λx y d e a p=>have z:=i.ld x y d e a p;⟨z.1,z.2.imp λ_=>hb _⟩,i.of⟩
structure MI(c:Cf)(ts:Xj)(G:Nat->Nat->Int->Prop)(e:Int)(m:Mo):Prop where
 so:pU m.slots
 sl:∀s∈m.slots,nY c e m.bQ m.xI m.dW m.bg s
 sz:(m.slots.length:Int)<=c.sz
 wn:(m.wk.map (·.1)).Nodup
 w1:∀p∈m.wk,e<p.2.2/\∃s∈m.slots,s.tk=p.1/\s.fi=aD/\p.2.1=s.row.eA/\∃τ,s.st=aA τ/\p.2.2=τ+mT c.tb s.row
 w2:∀s∈m.slots,s.st.isSome=aB->s.fi=aD->s.tk∈ts\/∃p∈m.wk,p.1=s.tk
 w3:∀g,oB m.wk g<=vE c g
 tn:ts.Nodup
 td:∀s∈m.slots,s.tk∈ts->s.fi=aD/\∃τ,s.st=aA τ/\τ+mT c.tb s.row=m.nw
 kp:m.kp=m.slots.filterMap dP
 bn:(m.bg.map (·.1)).Nodup
 b1:∀p∈m.bg,∃s∈m.slots,s.tk=p.1/\sI s.row=aB/\s.st.isSome=aB
 fl:∀x,(∀u∈m.fl x,u<m.bQ)/\((m.fl x).length:Int)<=m.bQ
 sd:m.sd.ok
 rm:c.room=m.sd.mem.length
 st:∀p∈m.gX,(aY m.dW p.2).isSome=aB
 l1:m.gX.length<=m.cD.length
 l2:m.dW.length<=m.cD.length
 ah:0<=m.ah
 t0:0<=m.bQ
 nb:∀k s l u,m.slots[k]?=aA s->s.bJ[l]?=aA (aA u)->(∃z∈m.slots,z.tk=u/\¬z.dn c.room)\/G k l u->s.ws[l]?=aA aD
theorem MI.weak(I:MI c ts G e m)(h:∀k l u,G' k l u->G k l u):MI c ts G' e m:={ I with nb:=λk s l u a b w=>I.nb k s l u a b (w.imp id<|h k l u) }
theorem MI.tS(I:MI c ts G e m)(h:0<=a):MI c ts G e { m with ah:=a }:=⟨I.so,I.sl,I.sz,I.wn,I.w1,I.w2,I.w3,I.tn,I.td,I.kp,I.bn,I.b1,I.fl,I.sd,I.rm,I.st,I.l1,I.l2,h,I.t0,I.nb⟩
theorem MI.cut{t:Int}(I:MI c ts G e m):MI c ts G e (m.cut t):=by
 have kf:∀{β:Type}{d:Dc β}{p:Int×β},p∈d->p.1<t->p∈d.filter λp=>!decide (t<=p.1):=λj hl=>List.mem_filter.mpr ⟨j,by rw[decide_eq_false (Int.not_le.mpr hl)];rfl⟩;have v:∀{β:Type}{d:Dc β}{p:Int×β},(p∈d.filter λp=>!decide (t<=p.1))->p∈d/\p.1<t:=λj=>by rw[Dn]at j;exact⟨j.1,by simpa using j.2⟩
 have o:∀{s},s∈m.slots->s.tk<t->s∈(m.cut t).slots:=λi hl=>List.mem_filter.mpr ⟨i,decide_eq_true hl⟩;have n:∀{s},s∈(m.cut t).slots->s∈m.slots/\s.tk<t:=λi=>by have:=List.mem_filter.mp i;exact⟨this.1,of_decide_eq_true this.2⟩
 refine⟨vN (List.filter_sublist.map _) I.so,λs i=>?_,pM (Int.ofNat_le.mpr (pN ..)) I.sz,oC I.wn,λp j=>?_,λs i a b=>?_,λg=>pM Zn (I.w3 g),I.tn,λs i=>I.td s (n i).1,?_,oC I.bn,λp j=>?_,λx=>⟨λu q=>(I.fl x).1 u (DH.subset q),pM (Int.ofNat_le.mpr DH.length_le) (I.fl x).2⟩,I.sd,I.rm,I.st,I.l1,I.l2,I.ah,I.t0,λk s l u a b w=>I.nb k s l u (o5 I.so a) b (w.imp (λ⟨z,r,w⟩=>⟨z,(n r).1,w⟩) id)⟩
 .obtain⟨i,hl⟩:=n i;refine(I.sl s i).go (jX _) (jX _) (λu q=>q.imp (λ⟨a,b⟩=>⟨a,?_⟩) id) λe he=>kf he hl;obtain⟨z,r,e,b⟩:=b;exact⟨z,o r (by rw[e];exact bu a hl),e,b⟩
 .obtain⟨j,hl⟩:=v j;obtain⟨a,s,i,e,b⟩:=I.w1 p j;exact⟨a,s,o i (e▸hl),e,b⟩
 .obtain⟨i,hl⟩:=n i;exact(I.w2 s i a b).imp id λ⟨p,j,e⟩=>⟨p,kf j (e▸hl),e⟩
 .show m.kp.filter _=(m.slots.filter _).filterMap dP;rw[I.kp,F8 (f:=λx=>!decide (t<=x))];refine congrArg _<|Pw λs _=>?_;by_cases h:s.tk<t
  .rw[decide_eq_true h,decide_eq_false (Int.not_le.mpr h)];rfl
  .rw[decide_eq_false h,decide_eq_true (Int.not_lt.mp h)];rfl
 .obtain⟨j,hl⟩:=v j;obtain⟨s,i,e,b⟩:=I.b1 p j;exact⟨s,o i (e▸hl),e,b⟩
theorem F7(er:s'.row=s.row):(dP s').isSome=(dP s).isSome:=by unfold dP;rw[er];split<;>rfl
theorem MI.set{ts':Xj}{wk':Dc (Int×Int)}{kp':Dc (Hc×Hc)}{a:Int}(I:MI c ts G e m)(hs:m.slots[i]?=aA s)(et:s'.tk=s.tk)(er:s'.row=s.row)(en:s'.bJ=s.bJ)(S:nY c e m.bQ m.xI m.dW bg' s')
  (wn:(wk'.map (·.1)).Nodup) (w1:∀p∈wk',(p∈m.wk/\p.1≠s.tk)\/(e<p.2.2/\s.tk=p.1/\s'.fi=aD/\p.2.1=s.row.eA/\∃τ,s'.st=aA τ/\p.2.2=τ+mT c.tb s.row)) (w2:∀p∈m.wk,p∈wk') (w3:∀g,oB wk' g<=vE c g) (w4:s'.st.isSome=aB->s'.fi=aD->∃p∈wk',p.1=s.tk)
  (tn:ts'.Nodup) (t1:∀t∈ts,t≠s.tk->t∈ts') (td:∀t∈ts',t∈ts/\t≠s.tk) (kp:kp'=(m.slots.set i s').filterMap dP)
  (bn:(bg'.map (·.1)).Nodup) (b1:∀p∈bg',p∈m.bg\/(p.1=s.tk/\sI s.row=aB/\s'.st.isSome=aB)) (b2:∀p∈m.bg,p∈bg') (b3:s.st.isSome=aB->s'.st.isSome=aB) (ha:0<=a)
  (nd:¬s'.dn c.room->¬s.dn c.room) (hG:∀k l u,G' k l u->(∃z∈m.slots,z.tk=u/\¬z.dn c.room)\/G k l u) (hw:∀l u,s.bJ[l]?=aA (aA u)->s.ws[l]?=aA aD->(∃z∈m.slots,z.tk=u/\¬z.dn c.room)\/G' i l u->s'.ws[l]?=aA aD) :
  MI c ts' G' e { m with slots:=m.slots.set i s',wk:=wk',kp:=kp',bg:=bg',ah:=a }:=by
 have hm:=bX hs;have old:∀{z},z∈m.slots->z≠s->z∈m.slots.set i s':=λf h=>Na hs f λw=>h (I.so.eq hm f w);have cs:∀{z},z∈m.slots.set i s'->z=s'\/(z∈m.slots/\z.tk≠s.tk):=λf=>aJc I.so hs f;have st:∀u,m.xI u->({ m with slots:=m.slots.set i s',wk:=wk',kp:=kp',bg:=bg',ah:=a }:Mo).xI u:=λu ⟨z,f,e,b⟩=>by
  by_cases w:z=s
  .exact⟨s',ub hs,by rw[et,<- w];exact e,by rw[F7 er,<- w];exact b⟩
  .exact⟨z,old f w,e,b⟩
 refine⟨by show(Qf _<|m.slots.set i s').Pairwise _;rw[gz hs et];exact I.so,λz f=>?_,by show((m.slots.set i s').length:Int)<=_;rw[pO];exact I.sz,wn,λp o=>?_,λz f a b=>?_,w3,tn,λz f ht=>?_,kp,bn,λp o=>?_,I.fl,I.sd,I.rm,I.st,I.l1,I.l2,ha,I.t0,λk z l u r hn w=>?_⟩
 .have go:∀{z},nY c e m.bQ m.xI m.dW bg' z->nY c e m.bQ ({ m with slots:=m.slots.set i s',wk:=wk',kp:=kp',bg:=bg',ah:=a }:Mo).xI m.dW bg' z:=λS=>S.go (jX _) (jX _) (λu B=>B.imp (λw=>⟨w.1,st u w.2⟩) id) λ_=>id;rcases cs f with rfl|⟨f,_⟩
  .exact go S
  .exact go<|(I.sl z f).go (jX _) (jX _) (λ_=>id) λe=>b2 _
 .rcases w1 p o with⟨o,ne⟩|⟨n,j,q,C,D⟩
  .obtain⟨n,z,f,j,q⟩:=I.w1 p o;exact⟨n,z,Na hs f (j▸ne),j,q⟩
  .exact⟨n,s',ub hs,et.trans j,q,er▸C,er▸D⟩
 .rcases cs f with rfl|⟨f,ne⟩
  .rw[et];exact .inr<|w4 a b
  .exact(I.w2 z f a b).imp (λh=>t1 _ h ne) λ⟨p,o,e⟩=>⟨p,w2 p o,e⟩
 .obtain⟨n,j⟩:=td _ ht;rcases cs f with rfl|⟨f,ne⟩
  .exact absurd et j
  .exact I.td z f n
 .rcases b1 p o with o|⟨n,j,q⟩
  .obtain⟨z,f,n,j,q⟩:=I.b1 p o;by_cases w:z=s
   .subst w;exact⟨s',ub hs,et.trans n,er▸j,b3 q⟩
   .exact⟨z,old f w,n,j,q⟩
  .exact⟨s',ub hs,et.trans n.symm,er▸j,q⟩
 .have x:(∃z∈m.slots,z.tk=u/\¬z.dn c.room)\/G' k l u:=w.imp (λ⟨y,v,e,d⟩=>by
   rcases cs v with rfl|⟨v,_⟩
   .exact⟨s,hm,et.symm.trans e,nd d⟩
   .exact⟨y,v,e,d⟩) id
  have A:=x.elim .inl (hG k l u);rcases FZ hs r with⟨rfl,rfl⟩|⟨ne,r⟩
  .rw[en]at hn;exact hw l u hn (I.nb k s l u hs hn A) x
  .exact I.nb k z l u r hn A
end
theorem MI.GN(I:MI c ts G e m)(hm:s∈m.slots)(ni:aD∈s.ws):s.st=aD/\s.fi=aD/\s.src=aD:=by
 have S:=I.sl s hm;have st:s.st=aD:=by
  cases e:s.st with
  |none=>rfl|some a=>exact absurd ni (S.s1 a e).2.2
 exact⟨st,S.s0 st⟩
theorem MI.Kn(I:MI c ts G e m)(hm:s∈m.slots)(st:s.st=aD):s.tk∉ts/\∀p∈m.wk,p.1≠s.tk:=by
 refine⟨λh=>?_,λp b w=>?_⟩
 .obtain⟨_,d,e,_⟩:=I.td s hm h;rw[st]at e;cases e
 .obtain⟨_,z,f,g,_,_,d,a,_⟩:=I.w1 p b;rw[I.so.eq hm f (g.trans w),st]at a;cases a
theorem MI.Ao{b:Int}(I:MI c ts G e m):0<=Ao (m.slot b):=by
 cases h:m.slot b with
 |none=>exact jX _|some z=>exact(I.sl z<|cf h).p0
theorem rD{d:Int}(er:s.row = .store x y d):dP s=aA (s.tk,((s.ws[1]?).join).map (·+d),(s.ws[0]?).join):=by unfold dP;rw[er]
theorem MI.gv(I:MI c ts G e m)(hs:m.slots[i]?=aA s)(hj:s.ws[j]?=aA aD):yK m s j:=by
 refine⟨(I.GN (bX hs)<|bX hj).2.1,(List.getElem?_eq_some_iff.mp hj).1,λx y d a=>?_,λt p b f=>?_⟩
 .refine⟨_,by rw[I.kp];exact(zx I.so hs (rD a)<|rD a).2,λe=>?_,λe=>?_⟩
  .subst e;rw[hj];rfl
  .subst e;rw[hj];rfl
 .obtain⟨⟨q,g,e⟩,_⟩:=Vg f;obtain⟨s,hs,h,_⟩:=I.b1 q g;exact⟨s,by rw[<- e,<- h];exact vG hs I.so⟩
theorem MI.word(I:MI c ts G e m)(hs:m.slots[i]?=aA s)(hj:s.ws[j]?=aA aD)(hw:wd w)(hg:∀k l u,G' k l u->G k l u)(hn:∀u,s.bJ[j]?=aA (aA u)->(∀z∈m.slots,z.tk=u->z.dn c.room)/\¬G' i j u):MI c ts G' e { m with slots:=m.slots.set i { s with ws:=s.ws.set j (aA w) },kp:=(m.slots.set i { s with ws:=s.ws.set j (aA w) }).filterMap dP }:=by
 have hm:=bX hs;have S:=I.sl s hm;obtain⟨st,fi,sr⟩:=I.GN hm (bX hj);obtain⟨n1,n2⟩:=I.Kn hm st;have ns:∀{p:Prop},s.st.isSome=aB->p:=λh=>by rw[st]at h;cases h
 refine I.set hs rfl rfl rfl ⟨S.t0,S.t1,S.p0,S.hr,by show(s.ws.set j<|aA w).length=_;rw[pO];exact S.wl,S.nl,λv hv=>?_,S.nm,S.hw,S.pu,S.s0,λτ e=>ns (by rw[show s.st=aA τ from e];rfl),S.f1,S.sr,λx y d _ h=>ns h,S.of⟩ I.wn (λp hp=>.inl ⟨hp,n2 p hp⟩) (λ_=>id) I.w3 (λh=>ns h) I.tn (λ_ h _=>h) (λt h=>⟨h,λw=>n1 (w▸h)⟩) rfl I.bn (λ_=>.inl) (λ_=>id) id I.ah (λ_ h=>by have:=h.1;rw[fi]at this;cases this) (λk l u h=>.inr (hg k l u h)) λl u a b w'=>?_
 .rcases Dp hv with h|h
  .exact S.wo v h
  .cases h;exact hw
 .by_cases h:j=l
  .subst h;obtain⟨h1,h2⟩:=hn u a;exact(w'.elim (λ⟨z,hz,e,d⟩=>d (h1 z hz e)) h2).elim
  .exact(kZ h).trans b
theorem MI.give(I:MI c ts G e m)(hs:m.slots[i]?=aA s)(hj:s.ws[j]?=aA aD)(hw:wd w)(hg:∀k l u,G' k l u->G k l u)(hn:∀u,s.bJ[j]?=aA (aA u)->(∀z∈m.slots,z.tk=u->z.dn c.room)/\¬G' i j u):MI c ts G' e (m.give i j w):=by
 have W:=I.word hs hj hw hg hn;have jl:=(List.getElem?_eq_some_iff.mp hj).1;unfold Mo.give;rw[hs];dsimp only;split
 .rename_i x y d ev a b;have nl:s.ws.length=2:=by rw[(I.sl s<|bX hs).wl,a];rfl
  have key:∀v,dP { s with ws:=s.ws.set j (aA w) }=aA (s.tk,v)->(MI c ts G' e { m.cX i { s with ws:=s.ws.set j (aA w) }with kp:=eU m.kp s.tk v }/\ev=(((s.ws[1]?).join).map (·+d),(s.ws[0]?).join)):=λv g=>by obtain⟨k1,k2⟩:=zx I.so hs (rD a) g;rw[k1,<- I.kp]at W;rw[<- I.kp,b]at k2;exact⟨W,dR k2⟩
  split
  .rename_i h;subst h;obtain⟨K,rfl⟩:=key _ ((rD (s:={ s with ws:=s.ws.set 0 (aA w) }) a).trans (by show aA (s.tk,((s.ws.set 0<|aA w)[1]?).join.map (·+d),((s.ws.set 0<|aA w)[0]?).join)=_;rw[kZ (by decide),mI jl]));exact K
  .rename_i h;have:j=1:=by omega
   subst this;obtain⟨K,rfl⟩:=key _ ((rD (s:={ s with ws:=s.ws.set 1 (aA w) }) a).trans (by show aA (s.tk,((s.ws.set 1<|aA w)[1]?).join.map (·+d),((s.ws.set 1<|aA w)[0]?).join)=_;rw[mI jl,kZ (by decide)]));unfold Mo.place;split
   .exact K
   .exact(K.tS W.Ao).cut
 .rename_i f;have b:(m.slots.set i { s with ws:=s.ws.set j (aA w) }).filterMap dP=m.kp:=(zw hs (by
   unfold dP;split
   .rename_i x y d a;exact absurd (by rw[I.kp];exact(zx I.so hs (rD a)<|rD a).2)<|f x y d _ a
   .rfl)).trans I.kp.symm
  rw[b]at W;exact W
theorem x9(hp:pU m.slots)(hs:m.slots[i]?=aA s)(hz:z∈m.slots)(hl:z.tk<s.tk):z∈(m.give i j w).slots:=by
 have a:z∈m.slots.set i { s with ws:=s.ws.set j (aA w) }:=Na hs hz (kh hl);unfold Mo.give;rw[hs];dsimp only;split
 .split
  .exact a
  .unfold Mo.place;split
   .exact a
   .exact List.mem_filter.mpr ⟨a,decide_eq_true (bu hl (Vg ‹_›).2)⟩
 .exact a
def Mo.ct(m:Mo):Int×Int×Hd×Bool:=(m.nw,m.bQ,m.cD,m.brk)
theorem Zi:(m.give i j w).ct=m.ct:=by
 unfold Mo.give;split
 .rfl
 .split
  .split
   .rfl
   .unfold Mo.place;split<;>rfl
  .rfl
section
variable {nw:Int}{K:Int->Prop}
structure lC(c:Cf):Prop where
 rs:∀r∈c.rs,rK r
 tb:Tz c.tb
 sz:c.sz<=32
 w0:1<=c.wd
 w8:c.wd<=8
 rm:c.room<=80
theorem IL(S:nY c nw bQ K dW bg s):kY s.wi:=λx a=>by
 obtain⟨o,b,rfl⟩:=List.mem_map.mp a;cases o with
 |none=>exact⟨by decide,by decide⟩|some v=>exact S.wo v b
theorem Ox(h:aD∉s.ws):s.ws=s.wi.map aA:=by
 unfold Sl.wi;rw[iC];refine((Dl λo a=>?_).trans (KZ _)).symm;cases o with
 |none=>exact absurd a h|some v=>rfl
theorem nY.ok(S:nY c nw bQ K dW bg s)(X:lC c):rK s.row:=X.rs _ (bX S.hr)
theorem Gm(S:nY c nw bQ K dW bg s)(X:lC c)(h:s.d3 c.room=aA w):wd w:=by
 have ww:=IL S;have key:∀r,rK r->aN.ft s.wi c.room r=aD->aN.Fm s.wi s.dZ r=aA w->wd w:=λr ok f h=>by
  cases r with
  |way v x y z=>
   cases h;have a:=fh ww (i:=0);have b:=fh ww (i:=1);exact aPo a.1 a.2 b.1 b.2 λe=>by have f:cond v.sr (if cell s.wi 1=0 then aA (AV.tup [.str "nought",.int (cell s.wi 0)]) else aD) aD=aD:=f;rw[e.1,if_pos e.2]at f;cases f
  |set x v=>cases h;exact ok.2|move x y=>cases h;exact fh ww|load x y d=>exact S.hw w h|store x y d=>cases h;exact fh ww|_=>cases h
 unfold Sl.d3 nF Sl.ft at h;split at h
 .exact key _ (S.ok X) ‹_› h
 .cases h
theorem Zo(ok:rK r)(h:0<=p):0<=r.gs p ws:=by
 cases r with
 |go t=>exact ok|fZ x t=>show 0<=ite _ _ _;split;exact ok.2;omega|_=>show 0<=p+1;omega
end
section
variable {t nw:Int}{K:Int->Prop}
abbrev nG:Nat->Nat->Int->Prop:=λ_ _ _=>False
theorem AI(h:s.d1 c.room=aA w):s.ft c.room=aD/\aN.fx s.row=aA w:=by
 unfold Sl.d1 nF at h;split at h
 .exact⟨‹_›,h⟩
 .cases h
theorem Gk(S:nY c nw bQ K dW bg s)(st:s.st.isSome=aB)(f:s.ft c.room=aD)(h:(aN.fx s.row).isSome=aB\/(dP s).isSome=aB):∃w,s.d3 c.room=aA w:=by
 have ld:=S.ld;unfold Sl.d3;rw[f];unfold Sl.ft at f;unfold dP at h;revert h f ld
 cases s.row with
 |load x y d=>
  intro f _ ld;have f:(if 0<=cell s.wi 0+d/\cell s.wi 0+d<c.room then aD else aA (AV.tup [.str "place",.int (cell s.wi 0+d)]))=aD:=f;by_cases a:0<=cell s.wi 0+d/\cell s.wi 0+d<c.room
  .exact Option.isSome_iff_exists.mp (ld x y d rfl st a).1
  .rw[if_neg a]at f;cases f
 |fZ x t=>intro _ h _;rcases h with h|h<;>cases h
 |go t=>intro _ h _;rcases h with h|h<;>cases h
 |fault v=>intro f;cases f|_=>exact λ_ _ _=>⟨_,rfl⟩
theorem MI.fin(I:MI c (t::ts) nG m.nw m)(hs:m.slots[i]?=aA s)(et:s.tk=t):MI c ts (λ_ _ u=>u=s.tk) m.nw (m.cX i { s with fi:=aA m.nw }):=by
 have hm:=bX hs;have S:=I.sl s hm;obtain⟨fi,o,st,f⟩:=I.td s hm (et▸fV);have tn:=List.nodup_cons.mp I.tn;have nd:¬s.dn c.room:=λh=>by have:=h.1;rw[fi]at this;cases this
 refine I.set hs rfl rfl rfl ⟨S.t0,S.t1,S.p0,S.hr,S.wl,S.nl,S.wo,S.nm,S.hw,S.pu,λh=>(by rw[show s.st=aD from h]at st;cases st),S.s1,λx h=>?_,S.sr,S.ld,S.of⟩ I.wn (λp g=>.inl ⟨g,λw=>?_⟩) (λ_=>id) I.w3 (λ_ h=>nomatch h) tn.2 (λu d ne=>(List.mem_cons.mp d).resolve_left λw=>ne (w.trans et.symm)) (λu d=>⟨jD _ d,λw=>tn.1 (by rw[<- et,<- w];exact d)⟩) (I.kp.trans (zw (s':={ s with fi:=aA m.nw }) hs rfl).symm) I.bn (λ_=>.inl) (λ_=>id) id I.ah (λ_=>nd) (λk l u h=>.inl ⟨s,hm,h.symm,nd⟩) λl u a b y=>b
 .cases h;exact⟨jX _,o,st,f.symm⟩
 .obtain⟨j,z,q,r,_,_,v,e,n⟩:=I.w1 p g;rw[I.so.eq hm q (r.trans w)]at e n;rw[st]at e;cases e;rw[n,f]at j;exact bp _ j
theorem E8:(m.jmp c.room s).ct=m.ct:=by
 unfold Mo.jmp;split
 .split<;>rfl
 .rfl
theorem p4{Z:Mo->Prop}(X:lC c)(I:MI c (t::ts) nG m.nw m)(hs:m.slots[i]?=aA s)(et:s.tk=t)(hZ:∀m',MI c ts nG m'.nw m'->m'.ct=m.ct->Z m'):∃s',Tl c m i s s' Z:=by
 have hm:=bX hs;have S:=I.sl s hm;obtain⟨fi,E,st,K⟩:=I.td s hm (et▸fV);have F:=I.fin hs et;obtain⟨s',o⟩:∃s':Sl,s'={ s with fi:=aA m.nw }:=⟨_,rfl⟩;rw[<- o]at F;have tk:s'.tk=s.tk:=by rw[o]
 have j:s'∈(m.cX i s').slots:=ub hs;have v:=F.sl s' j;refine⟨s',⟨λp B d=>MI c ts (λk l u=>u=s.tk/\(p<k\/(p=k/\B<=l))) m.nw d/\s'∈d.slots/\d.ct=m.ct,λd=>MI c ts nG m.nw d/\s'∈d.slots/\d.ct=m.ct,o,Ox (S.s1 E st).2.2,IL S,fi,λd h=>h.2.1,λ_=>⟨F.weak λ_ _ _=>lP,j,rfl⟩,λx G=>?_,λp d z h _=>⟨h.1.weak λk l u ⟨a,b⟩=>⟨a,.inl (by omega)⟩,h.2⟩,λn d h _=>⟨h.1.weak λ_ _ _=>lP,h.2⟩,λd h=>?_⟩⟩
 .obtain⟨f,fx⟩:=AI G;obtain⟨w,hw⟩:=Gk v (by rw[o];rw[st];rfl) f (.inl (by rw[fx];rfl));refine⟨w,hw,⟨F.weak λk l u h=>h.1,j,rfl⟩,λp B d z h q L=>⟨λhn=>?_,λhn=>⟨h.1.weak λk l u ⟨a,b⟩=>⟨a,by omega⟩,h.2⟩⟩⟩;obtain⟨g,C,A⟩:=h;rw[tk]at hn;have r:=g.nb p z B s.tk q hn (.inr ⟨rfl,.inr ⟨rfl,aV _⟩⟩);refine⟨g.gv q r,g.give q r (Gm v X hw) (λk l u ⟨a,b⟩=>⟨a,by omega⟩) λu D=>?_,x9 g.so q C (by rw[tk];exact(g.sl z<|bX q).nm _ (bX hn)),Zi.trans A⟩;rw[hn]at D;cases D;refine⟨λy H e=>?_,λh=>by omega⟩;rw[g.so.eq C H (e.trans tk.symm)];exact⟨by rw[o];rfl,f⟩
 .obtain⟨g,C,A⟩:=h;have J:d.nw=m.nw:=congrArg (·.1) A;have g:MI c ts nG d.nw d:=J▸g;refine hZ _ ?_<|E8.trans A;unfold Mo.jmp;split
  .split
   .exact g
   .have:0<=(s'.d4 c.room).getD 0:=by
     unfold Sl.d4 nF;split
     .exact Zo (v.ok X) v.p0
     .exact jX _
    exact(g.tS this).cut
  .exact g
end
section
variable {t:Int}
theorem MI.XX(I:MI c [] nG (m.nw-1) m):MI c (jW aG<|qL m.wk m.nw) nG m.nw { m with wk:=m.wk.filter λp=>!decide (p.2.2<=m.nw) }:=by
 have pm:=Ng aG (qL m.wk m.nw);have i:∀{p:Int×Int×Int},(p∈m.wk.filter λp=>!decide (p.2.2<=m.nw))↔p∈m.wk/\m.nw<p.2.2:=λ{p}=>by simp
 refine⟨I.so,λs f=>(I.sl s f).go (by omega) (jX _) (λ_=>id) λ_=>id,I.sz,oC I.wn,λp d=>⟨(i.mp d).2,(I.w1 p (i.mp d).1).2⟩,λs f a b=>?_,λg=>pM Zn (I.w3 g),pm.nodup_iff.mpr (oC I.wn),λs f ht=>?_,I.kp,I.bn,I.b1,I.fl,I.sd,I.rm,I.st,I.l1,I.l2,I.ah,I.t0,I.nb⟩
 .rcases I.w2 s f a b with h|⟨p,d,e⟩
  .cases h
  .by_cases w:p.2.2<=m.nw
   .exact .inl<|pm.mem_iff.mpr<|List.mem_map.mpr ⟨p,List.mem_filter.mpr ⟨d,decide_eq_true w⟩,e⟩
   .exact .inr ⟨p,i.mpr ⟨d,Int.not_le.mp w⟩,e⟩
 .obtain⟨p,d,e⟩:=List.mem_map.mp (pm.mem_iff.mp ht);obtain⟨d,w⟩:=List.mem_filter.mp d;obtain⟨r,z,l,n,j,_,o,k,q⟩:=I.w1 p d;have w:=of_decide_eq_true w;rw[I.so.eq f l (n.trans e)]at j k q;exact⟨j,o,k,by show _=m.nw;omega⟩
theorem aa{β:Type}{l:Dc β}(h:∀p∈l,p.1≠x):aY l x=aD:=by unfold aY;rw[List.find?_eq_none.mpr λp a z=>h p a (of_decide_eq_true z)];rfl
theorem Ia{r:aN}:∃n:Nat,n<5/\r.eA=n:=by
 cases r with
 |way w=>cases w<;>first|exact⟨0,by decide,rfl⟩|exact⟨1,by decide,rfl⟩|exact⟨2,by decide,rfl⟩
 |load=>exact⟨3,by decide,rfl⟩|store=>exact⟨3,by decide,rfl⟩|set=>exact⟨0,by decide,rfl⟩|move=>exact⟨0,by decide,rfl⟩|_=>exact⟨4,by decide,rfl⟩
theorem Bn(X:lC c):cM (c.tb.map dQ) r.eA=aA (dQ (vE c r.eA,mT c.tb r))/\1<=mT c.tb r:=by
 obtain⟨h1,a⟩:=X.tb;obtain⟨n,hn,e⟩:=@Ia r;have hl:n<c.tb.length:=by omega
 have b:c.tb.getD n (1,1)=c.tb[n]:=by rw[tH,eN hl];rfl
 unfold vE mT;rw[e,oR,b];exact⟨L2.nq (by rw[fH,eN hl];rfl),(a _<|KS hl).2.1⟩
theorem y8{wk:Dc (Int×Int)}{p:Int×Int×Int}{g:Int}:oB (wk++[p]) g=oB wk g+if p.2.1=g then 1 else 0:=by
 unfold oB;rw[bz,dO];congr 1
 by_cases h:p.2.1=g
 .rw[if_pos h,jA,decide_eq_true h];rfl
 .rw[if_neg h,jA,decide_eq_false h];rfl
theorem MI.sP{l:Option (Int×Hc×Int)}(I:MI c ts G e m)(h:m.sP c.room s=aA l):(l=aD/\∀x y d,s.row = .load x y d->¬(0<=cell s.wi 0+d/\cell s.wi 0+d<c.room))\/∃p u w,l=aA (p,u,w)/\sI s.row=aB/\wd w/\∀v,u=aA v->(v<s.tk/\m.xI v)\/(aY m.dW v).isSome=aB:=by
 unfold Mo.sP at h;split at h
 .rename_i x y d g;have j:sI s.row=aB:=by rw[g];rfl
  split at h
  .split at h
   .cases h
   .cases h;exact .inr ⟨_,_,_,rfl,j,fh I.sd.mw,λv b=>.inr (I.st _<|rj b)⟩
   .rename_i u w hl;cases h;obtain⟨q,f,k,o⟩:=K0 hl;rw[List.mem_reverse,Dn,I.kp]at f;obtain⟨z,n,a⟩:=List.mem_filterMap.mp f.1;refine .inr ⟨_,_,_,rfl,j,?_,λv b=>.inl ⟨?_,z,n,?_,by rw[a];rfl⟩⟩
    .unfold dP at a;split at a
     .cases a;exact(I.sl z n).wo w (bX (i:=0)<|Option.join_eq_some_iff.mp o)
     .cases a
    .cases b;rw[<- k];exact of_decide_eq_true f.2
    .cases b;rw[<- (wW a),k]
  .rename_i r;cases h;exact .inl ⟨rfl,λt A B e=>by rw[g]at e;cases e;exact r⟩
 .rename_i nl;cases h;exact .inl ⟨rfl,λx y d e=>absurd e (nl x y d)⟩
theorem aKl{t:Int×Int}:(m.start c t i s).ct=m.ct:=by
 unfold Mo.start;split
 .split<;>rfl
 .rfl
theorem MI.start(X:lC c)(I:MI c [] nG m.nw m)(hs:m.slots[i]?=aA s)(hp:s.put<m.nw)(st:s.st=aD)(hw:s.ws.all km=aB) :
  ∃t,wm c m s/\cM (c.tb.map dQ) s.row.eA=aA (dQ t)/\aY m.wk s.tk=aD/\m.wk.length<63/\MI c [] nG m.nw (m.start c t i s):=by
 have hm:=bX hs;have S:=I.sl s hm;obtain⟨fi,sr⟩:=S.s0 st;obtain⟨_,n⟩:=I.Kn hm st;have nn:aD∉s.ws:=λh=>nomatch List.all_eq_true.mp hw aD h;have bg:∀p∈m.bg,p.1≠s.tk:=λp hp w=>by obtain⟨z,o,C,_,B⟩:=I.b1 p hp;rw[I.so.eq hm o (C.trans w),st]at B;cases B
 obtain⟨D,tl⟩:=Bn X;have sz:=I.sz;have:=X.sz;have bl:=BW I.so I.bn λp hp=>(I.b1 p hp).imp λ_ z=>⟨z.1,z.2.1⟩;have wl:=BW I.so I.wn λp hp=>(I.w1 p hp).2.imp λ_ z=>⟨z.1,z.2.1⟩;refine⟨_,⟨fi,Ox nn,aa bg,λx y d j=>aa λp hp w=>?_,by omega,I.rm⟩,D,aa n,by omega,?_⟩
 .rw[I.kp]at hp;obtain⟨z,o,k⟩:=List.mem_filterMap.mp hp;rw[I.so.eq hm o ((wW k).symm.trans w)]at k;unfold dP at k;rw[j]at k;cases k
 unfold Mo.start;split
 .rename_i E;have key:∀(src dZ:Hc) (f:Dc (Int×Hc)),(∀u,src=aA u->(u<s.tk/\m.xI u)\/(aY m.dW u).isSome=aB)->(∀w,dZ=aA w->wd w)->(∀x y d,s.row = .load x y d->0<=cell s.wi 0+d/\cell s.wi 0+d<c.room->dZ.isSome=aB/\∃e,(s.tk,e)∈f)->(f.map (·.1)).Nodup->(∀p∈f,p∈m.bg\/(p.1=s.tk/\sI s.row=aB))->(∀p∈m.bg,p∈f) ->
    MI c [] nG m.nw { m.cX i { s with src:=src,dZ:=dZ,st:=aA m.nw }with bg:=f,wk:=m.wk++[(s.tk,s.row.eA,m.nw+mT c.tb s.row)] }:=λsrc dZ f q r A F G H=>by
   refine I.set hs rfl rfl rfl ⟨S.t0,S.t1,S.p0,S.hr,S.wl,S.nl,S.wo,S.nm,r,S.pu,(nofun),λL h=>(by cases h;exact⟨hp,jX _,nn⟩),(λJ h=>by rw[show s.fi=aA J from h]at fi;cases fi),q,λx y d j _=>A x y d j,S.of⟩ (Ag I.wn<|aa n) (λp hp=>?_) (λp hp=>cc _ hp) (λg=>?_) (λ_ _=>⟨_,iJ _ (List.mem_singleton.mpr rfl),rfl⟩) I.tn (λ_ h=>nomatch h) (λ_ h=>nomatch h) (I.kp.trans (zw (s':={ s with src:=src,dZ:=dZ,st:=aA m.nw }) hs rfl).symm) F (λp hp=>(G p hp).imp id λw=>⟨w.1,w.2,rfl⟩) H (λ_=>rfl) I.ah (λ_ h=>by have:=h.1;rw[fi]at this;cases this) (λ_ _ _ h=>h.elim) λl u a b M=>b
   .rcases List.mem_append.mp hp with hp|hp
    .exact .inl ⟨hp,n p hp⟩
    .cases List.mem_singleton.mp hp;exact .inr ⟨by show m.nw<m.nw+mT c.tb s.row;omega,rfl,fi,rfl,_,rfl,rfl⟩
   .rw[y8];split
    .rename_i h;have h:s.row.eA=g:=h;rw[h]at E;omega
    .have:=I.w3 g;omega
  split
  .exact I
  .rename_i l hl;rcases I.sP hl with⟨rfl,h⟩|⟨p,u,w,rfl,q,r,A⟩
   .exact key s.src s.dZ m.bg S.sr S.hw (λx y d j K=>absurd K (h x y d j)) I.bn (λ_=>.inl) λ_=>id
   .exact key u (aA w) (m.bg++[(s.tk,p,u)]) A (λv e=>by cases e;exact r) (λx y d j _=>⟨rfl,_,iJ _ (List.mem_singleton.mpr rfl)⟩) (Ag I.bn<|aa bg) (λp hp=>(List.mem_append.mp hp).imp id λh=>by rw[List.mem_singleton.mp h];exact⟨rfl,q⟩) λp hp=>cc _ hp
 .exact I
end
section
variable {a:Nat}
theorem aRh(h:rK r):∀x∈r.fT,0<=x/\x<8:=by
 cases r with
 |way w x y z=>intro v hv;rcases List.mem_cons.mp hv with rfl|hv;exact h.2.1;rw[List.mem_singleton.mp hv];exact h.2.2
 |store x y d=>intro v hv;rcases List.mem_cons.mp hv with rfl|hv;exact h.1;rw[List.mem_singleton.mp hv];exact h.2
 |move x y=>intro v hv;rw[List.mem_singleton.mp hv];exact h.2|load x y d=>intro v hv;rw[List.mem_singleton.mp hv];exact h.2|fZ x t=>intro v hv;rw[List.mem_singleton.mp hv];exact h.1|_=>exact λ_ h=>nomatch h
theorem MI.en(X:lC c)(I:MI c [] nG e m)(hl:(m.slots.length:Int)<c.sz)(hr:c.rs[m.ah.toNat]?=aA row)(ht:m.bQ<9000):mm c m row:=by
 have:=X.sz;refine⟨hr,I.ah,X.rs _ (bX hr),I.t0,λs d=>(I.sl s d).t1,λy u h=>(I.fl y).1 u (LC h),λp a=>?_,aa λp a w=>?_,by omega,?_,λx=>?_⟩
 .rw[I.kp]at a;obtain⟨z,b,f⟩:=List.mem_filterMap.mp a;rw[wW f];exact(I.sl z b).t1
 .obtain⟨z,b,g,_⟩:=I.b1 p a;have:=(I.sl z b).t1;rw[g,w]at this;exact bp _ this
 .have:=aRx dP m.slots;rw[I.kp];omega
 .have:=(I.fl x).2;omega
theorem MI.enter(I:MI c [] nG m.nw m)(hl:(m.slots.length:Int)<c.sz)(hr:c.rs[m.ah.toNat]?=aA row):MI c [] nG m.nw (m.enter row a):=by
 obtain⟨s0,d⟩:∃s0,s0=m.ax row a:=⟨_,rfl⟩;have ml:∀{z},z∈m.slots->z∈m.slots++[s0]:=λh=>cc _ h;have cs:∀{z},z∈m.slots++[s0]->z∈m.slots\/z=s0:=λh=>(List.mem_append.mp h).imp id List.mem_singleton.mp;have lt:=λz b=>(I.sl z b).t1;unfold Mo.enter;rw[<- d];have le:m.bQ<=m.bQ+1:=by omega
 refine⟨?_,λz b=>?_,?_,I.wn,λp i=>?_,λz b h=>?_,I.w3,I.tn,(λ_ _ h=>nomatch h),?_,I.bn,λp i=>(I.b1 p i).imp λz h=>⟨ml h.1,h.2⟩,λx=>?_,I.sd,I.rm,I.st,I.l1,I.l2,I.ah,pM I.t0 le,λk z l u e hn w=>?_⟩
 .show(Qf _<|m.slots++[s0]).Pairwise _;rw[hJ,Qj];refine⟨I.so,Ql ..,λx n y f=>?_⟩;obtain⟨z,b,rfl⟩:=List.mem_map.mp n;rw[List.mem_singleton.mp f,d];exact lt z b
 .rcases cs b with b|rfl
  .exact(I.sl z b).go (jX _) le (λu hu=>hu.imp (λh=>⟨h.1,h.2.imp λ_ y=>⟨ml y.1,y.2⟩⟩) id) λ_=>id
  .subst d;refine⟨I.t0,JM _,I.ah,hr,Dk ..,(aU ..).trans jo,(λw h=>nomatch aRr h),λu h=>?_,(nofun),jX _,λ_=>⟨rfl,rfl⟩,(nofun),(nofun),(nofun),(λ_ _ _ _ h=>nomatch h),rfl⟩;obtain⟨x,_,h⟩:=List.mem_map.mp h;exact(I.fl x).1 u (LC h)
 .show((m.slots++[s0]).length:Int)<=_;rw[dO];exact hl
 .obtain⟨o,z,b,h⟩:=I.w1 p i;exact⟨o,z,ml b,h⟩
 .rcases cs b with b|rfl
  .exact I.w2 z b h
  .rw[d]at h;cases h
 .show gy m.kp row m.bQ=(m.slots++[s0]).filterMap dP;rw[List.filterMap_append,<- I.kp];subst d;cases row<;>first|rfl|exact(rS _).symm
 .show(∀u∈oZ m.fl row m.bQ x,u<m.bQ+1)/\((oZ m.fl row m.bQ x).length:Int)<=m.bQ+1;have old:(∀u∈m.fl x,u<m.bQ+1)/\((m.fl x).length:Int)<=m.bQ+1:=⟨λu hu=>Pp ((I.fl x).1 u hu) le,pM (I.fl x).2 le⟩;cases j:aN.fx row with
  |some y=>
   rw[show oZ m.fl row m.bQ=mD m.fl y (m.fl y++[m.bQ]) by unfold oZ;rw[j]];unfold mD;by_cases h:x=y
   .subst h;rw[if_pos rfl];refine⟨λu hu=>?_,by rw[dO];exact Int.add_le_add_right (I.fl x).2 1⟩;rcases List.mem_append.mp hu with hu|hu
    .exact old.1 u hu
    .rw[List.mem_singleton.mp hu];exact JM _
   .rw[if_neg h];exact old
  |none=>rw[show oZ m.fl row m.bQ=m.fl by unfold oZ;rw[j]];exact old
 .have e:(m.slots++[s0])[k]?=aA z:=e;by_cases h:k<m.slots.length
  .rw[xU h]at e;have b:=bX e;refine I.nb k z l u e hn<|.inl ?_;obtain⟨y,f,g,q⟩:=w.resolve_right id;rcases cs f with f|rfl
   .exact⟨y,f,g,q⟩
   .have:=(I.sl z b).nm u (bX hn);have:=lt z b;rw[d]at g;have g:m.bQ=u:=g;omega
  .rw[Qa (LN h)]at e;have:=List.mem_singleton.mp (bX e);subst this;subst d;have hl:=(List.getElem?_eq_some_iff.mp hn).1;show(eR row.nw aD)[l]?=_;rw[Di,if_pos];rw[show(m.ax row a).bJ=row.fT.map λx=>(m.fl x).getLast? from rfl,aU,jo]at hl;exact hl
theorem MI.fX(X:lC c):∀(l:Xj) (j:Nat) (m:Mo) (s:Sl),MI c [] nG e m->m.slots[i]?=aA s->(∀x∈l,0<=x/\x<8)->(∀k,j<=k->k<j+l.length->s.ws[k]?=aA aD) ->
  m.wR c.room i j l/\MI c [] nG e (m.fX c.room i j l)/\(m.fX c.room i j l).ct=m.ct/\∃s',(m.fX c.room i j l).slots[i]?=aA s'/\s'.st=s.st
 |[],_,m,s,I,g,_,_=>⟨trivial,I,rfl,s,g,rfl⟩
 |x::l,j,m,s,I,g,p,hw=>by
  have n:=λy C=>p y (jD _ C);have B:=hw j (aV _) (by rw[iB];omega);cases d:rE c.room (((s.bJ[j]?).join).bind m.slot) (cell m.sd.bx x) with
  |none=>
   obtain⟨q,r,t⟩:=MI.fX X l (j+1) m s I g n λk a b=>hw k (by omega) (by rw[iB];omega);have e:m.fX c.room i j (x::l)=m.fX c.room i (j+1) l:=by rw[Hz g,d]
   rw[e];exact⟨⟨p x fV,s,g,λ_=>q,λw h=>by rw[d]at h;cases h⟩,r,t⟩
  |some w=>
   have key:(∀u,s.bJ[j]?=aA (aA u)->∀z∈m.slots,z.tk=u->z.dn c.room)/\wd w:=by
    cases f:((s.bJ[j]?).join).bind m.slot with
    |none=>rw[f]at d;cases d;refine⟨λu o z A e=>?_,fh I.sd.bw⟩;rw[o]at f;have f:m.slot u=aD:=f;unfold Mo.slot at f;rw[<- e,vG A I.so]at f;cases f
    |some y=>
     rw[f]at d;unfold rE at d;dsimp only at d;split at d
     .rename_i D;obtain⟨v,_,E⟩:=Option.bind_eq_some_iff.mp f;refine⟨λu o z A e=>?_,Gm (I.sl y<|cf E) X d⟩;rw[o]at f;have f:m.slot u=aA y:=f;unfold Mo.slot at f;rw[<- e,vG A I.so]at f;cases f;refine⟨D,?_⟩;unfold Sl.d3 nF at d;split at d
      .assumption
      .cases d
     .cases d
   have F:=I.give g B key.2 (λ_ _ _=>id) λu o=>⟨key.1 u o,id⟩;obtain⟨q,r,t,s',G,H⟩:=MI.fX X l (j+1) (m.give i j w) _ F ((Hy (j:=j) (w:=w) I.so g).1) n λk a b=>(kZ (by omega)).trans (hw k (by omega) (by rw[iB];omega));have e:m.fX c.room i j (x::l)=(m.give i j w).fX c.room i (j+1) l:=by rw[Hz g,d]
   rw[e];exact⟨⟨p x fV,s,g,(λh=>by rw[d]at h;cases h),λJ h=>by rw[d]at h;cases h;exact⟨I.gv g B,q⟩⟩,r,t.trans Zi,s',G,H⟩
theorem MI.uC(X:lC c)(I:MI c [] nG m.nw m)(hl:(m.slots.length:Int)<c.sz)(ha:m.ah<c.rs.length)(ht:m.bQ<9000) :
  ∃row,mm c m row/\m.sd.bx.length=8/\(∀a,(m.enter row a).wR c.room m.slots.length 0 row.fT)/\∀a dr gs,MI c [] nG m.nw (m.uC c row a dr gs)/\(m.uC c row a dr gs).ct=(m.nw,m.bQ+1,m.cD,m.brk):=by
 have h0:=I.ah;obtain⟨row,hr⟩:∃row,c.rs[m.ah.toNat]?=aA row:=⟨_,eN (by omega)⟩;have ok:=X.rs _ (bX hr);have key:=λa=>MI.fX X row.fT 0 (m.enter row a) (m.ax row a) (I.enter hl hr) KJ (aRh ok) λk _ f=>by show(eR row.nw aD)[k]?=_;rw[Di,if_pos (by rw[<- jo];omega)]
 refine⟨row,I.en X hl hr ht,I.sd.bl,λa=>(key a).1,λa dr gs=>?_⟩;obtain⟨_,J,ct,s',d,st⟩:=key a;unfold Mo.uC;dsimp only;rw[d];have hm:=bX d;have S:=J.sl s' hm;obtain⟨fi,_⟩:=S.s0 st;refine⟨J.set (ts':=[]) d rfl rfl rfl ⟨S.t0,S.t1,S.p0,S.hr,S.wl,S.nl,S.wo,S.nm,S.hw,S.pu,S.s0,S.s1,S.f1,S.sr,S.ld,S.of⟩ J.wn (λp e=>.inl ⟨e,((J.Kn hm st).2) p e⟩) (λ_=>id) J.w3 (λh=>by rw[show s'.st=aD from st]at h;cases h) J.tn (λ_ h=>nomatch h) (λ_ h=>nomatch h) (J.kp.trans (zw (s':={ s' with dr:=if sI s'.row=aB then dr else s'.dr,ch:=aN.qA s'.pc gs s'.row }) d rfl).symm) J.bn (λ_=>.inl) (λ_=>id) id ?_ (λ_ h=>by have:=h.1;rw[fi]at this;cases this) (λ_ _ _ h=>h.elim) λl u a b g=>b,ct⟩;have p0:=S.p0;have ok:=S.ok X;revert ok
 cases s'.row with
 |fZ x t=>intro ok;show 0<=ite _ _ _;split;exact ok.2;omega|go t=>exact id|_=>intro _;show 0<=s'.pc+1;omega
end
section
variable {rest:YF}{nw:Int}{K:Int->Prop}
theorem Jl{β:Type}{l:Dc β}{v:β}:aY (eU l x v) y=if x=y then aA v else aY l y:=by
 unfold aY eU;by_cases e:x=y
 .subst e;rw[if_pos rfl];split
  .rename_i z;induction l with
   |nil=>cases z|cons p l a=>
    rw[jC,nP];by_cases w:p.1=x
    .simp[w]
    .rw[rR,decide_eq_false w]at z;rw[if_neg w,decide_eq_false w];exact a z
  .rename_i z;rw[Dg,List.find?_eq_none.mpr (λp b w=>z (List.any_eq_true.mpr ⟨p,b,w⟩))];simp
 .rw[if_neg e];split
  .rename_i z;clear z;induction l with
   |nil=>rfl|cons p l a=>
    rw[jC,nP,nP];by_cases w:p.1=x
    .rw[if_pos w,show decide (p.1=y)=aG from decide_eq_false λz=>e (w.symm.trans z)];exact a
    .rw[if_neg w];split
     .rfl
     .exact a
  .rw[Dg];simp[e]
theorem Kv{v:Int}(h:(aY dW y).isSome=aB):(aY (eU dW x v) y).isSome=aB:=by
 rw[Jl];split
 .rfl
 .exact h
theorem L3{β:Type}{l:Dc β}{v:β}{p:Int×β}(h:p∈eU l x v):p∈l\/p.2=v:=by
 unfold eU at h;split at h
 .obtain⟨q,a,e⟩:=List.mem_map.mp h;split at e
  .exact .inr (by rw[<- e])
  .exact .inl<|e▸a
 .rcases List.mem_append.mp h with h|h
  .exact .inl h
  .exact .inr (by rw[List.mem_singleton.mp h])
theorem Ab{β:Type}{l:Dc β}{p:Int×β}:p∈nA l x↔p∈l/\p.1≠x:=by unfold nA;rw[Dn,decide_eq_true_eq]
theorem MI.off{sl:Hd}(I:MI c [] nG e m)(es:m.slots=s::rest)(hf:s.fi.isSome=aB)(kp:kp'=rest.filterMap dP)(bn:(bg.map (·.1)).Nodup)(b1:∀p∈bg,p∈m.bg/\(sI s.row=aB->p.1≠s.tk))(b2:∀p∈m.bg,p.1≠s.tk->p∈bg)(g1:∀u,(aY m.dW u).isSome=aB->(aY gon' u).isSome=aB)(g2:(dP s).isSome=aB->(aY gon' s.tk).isSome=aB)(st:∀p∈sto',(aY gon' p.2).isSome=aB)(l1:sto'.length<=sl.length)(l2:gon'.length<=sl.length)(sd:sd'.ok)(rm:c.room=sd'.mem.length) :
  MI c [] nG e { m with slots:=rest,cD:=sl,sd:=sd',kp:=kp',bg:=bg,gX:=sto',dW:=gon' }:=by
 have so:=I.so;rw[es]at so;have d:=List.pairwise_cons.mp so;have n:∀{z},z∈rest->z∈m.slots:=λh=>by rw[es];exact jD _ h
 have ms:∀{z},z∈m.slots->z=s\/z∈rest:=λh=>by rw[es]at h;exact List.mem_cons.mp h
 have lt:∀z∈rest,s.tk<z.tk:=λz a=>d.1 _ (List.mem_map.mpr ⟨z,a,rfl⟩);have ne:∀{z},z∈m.slots->z.fi=aD->z∈rest:=λh f=>(ms h).resolve_left λw=>by rw[w]at f;rw[f]at hf;cases hf
 refine⟨d.2,λz a=>?_,?_,I.wn,λp d=>?_,λz a=>I.w2 z (n a),I.w3,I.tn,(λ_ _ h=>nomatch h),kp,bn,λp d=>?_,I.fl,sd,rm,st,l1,l2,I.ah,I.t0,λk z l u o hn w=>?_⟩
 .refine(I.sl z<|n a).go (jX _) (jX _) (λu q=>?_) λe he=>b2 _ he (JN<|lt z a);rcases q with⟨i,y,hy,g,b⟩|h
  .rcases ms hy with rfl|hy
   .rw[<- g];exact .inr<|g2 b
   .exact .inl ⟨i,y,hy,g,b⟩
  .exact .inr<|g1 u h
 .have:=I.sz;rw[es,iB]at this;show(rest.length:Int)<=_;omega
 .obtain⟨i,z,a,g,b,j⟩:=I.w1 p d;exact⟨i,z,ne a b,g,b,j⟩
 .obtain⟨i,g⟩:=b1 p d;obtain⟨z,a,b,j,r⟩:=I.b1 p i;refine⟨z,(ms a).resolve_left λw=>?_,b,j,r⟩;subst w;exact g j b.symm
 .refine I.nb (k+1) z l u (es▸o) hn<|.inl ?_;obtain⟨y,hy,h⟩:=w.resolve_right id;exact⟨y,n hy,h⟩
theorem qv(h:∀x y d,s.row ≠ .store x y d):dP s=aD:=by
 unfold dP;split
 .exact absurd ‹_› (h _ _ _)
 .rfl
theorem UL(S:nY c nw bQ K dW bg s)(X:lC c)(st:s.st.isSome=aB)(f:s.ft c.room=aD){sd:Sd}(h:sd.ok):(sd.fc (s.d1 c.room) (s.d2 c.room) (s.d3 c.room)<|s.d4 c.room).ok/\(sd.fc (s.d1 c.room) (s.d2 c.room) (s.d3 c.room)<|s.d4 c.room).mem.length=sd.mem.length:=by
 have p:0<=(s.d4 c.room).getD 0:=by unfold Sl.d4;rw[f];exact Zo (S.ok X) S.p0
 have w:wd ((s.d3 c.room).getD 0):=by
  cases e:s.d3 c.room with
  |none=>exact⟨by decide,by decide⟩|some v=>exact Gm S X e
 unfold Sd.fc;split
 .exact⟨⟨p,(pO ..).trans h.bl,Ov h.bw w,h.mw⟩,rfl⟩
 .exact⟨⟨p,h.bl,h.bw,Ov h.mw w⟩,pO ..⟩
 .exact⟨⟨p,h.bl,h.bw,h.mw⟩,rfl⟩
theorem MI.take(X:lC c)(I:MI c [] nG e m)(es:m.slots=s::rest)(hf:s.fi.isSome=aB)(hl:m.cD.length<900) :
  wu c m { s with of:=aA m.nw }/\MI c [] nG e (m.take c.room { s with of:=aA m.nw } rest)/\(m.take c.room { s with of:=aA m.nw } rest).nw=m.nw/\(m.take c.room { s with of:=aA m.nw } rest).bQ=m.bQ/\(m.take c.room { s with of:=aA m.nw } rest).cD.length=m.cD.length+1/\((m.take c.room { s with of:=aA m.nw } rest).brk=m.brk\/(m.take c.room { s with of:=aA m.nw } rest).slots=[]):=by
 have hm:s∈m.slots:=es▸fV;have S:=I.sl s hm;obtain⟨C,D⟩:=Option.isSome_iff_exists.mp hf;obtain⟨_,E,l,_⟩:=S.f1 C D;have st:s.st.isSome=aB:=by rw[l];rfl
 have ww:=Ox (S.s1 E l).2.2;have so:=I.so;rw[es]at so;have b:=List.pairwise_cons.mp so;have r:(∀x y d,s.row ≠ .store x y d)->∀p∈m.kp,p.1≠s.tk:=λh p b w=>by rw[I.kp]at b;obtain⟨z,hz,o⟩:=List.mem_filterMap.mp b;rw[I.so.eq hm hz ((wW o).symm.trans w),qv h]at o;cases o
 have l1:=I.l1;have l2:=I.l2;have inr:∀x y d,s.row = .load x y d->s.ft c.room=aD->∃e,(s.tk,e)∈m.bg:=λx y d a f=>(S.ld x y d a st (by
  unfold Sl.ft at f;rw[a]at f;have f:(if 0<=cell s.wi 0+d/\cell s.wi 0+d<c.room then aD else aA (AV.tup [.str "place",.int (cell s.wi 0+d)]))=aD:=f;by_cases q:0<=cell s.wi 0+d/\cell s.wi 0+d<c.room
  .exact q
  .rw[if_neg q]at f;cases f)).2
 have ins:∀x y d,s.row = .store x y d->s.ft c.room=aD->s.d2 c.room=aA (cell s.wi 1+d)/\0<=cell s.wi 1+d/\cell s.wi 1+d<c.room:=λx y d a f=>by
  refine⟨by unfold Sl.d2;rw[f,a];rfl,?_⟩;unfold Sl.ft at f;rw[a]at f;have f:(if 0<=cell s.wi 1+d/\cell s.wi 1+d<c.room then aD else aA (AV.tup [.str "place",.int (cell s.wi 1+d)]))=aD:=f;by_cases q:0<=cell s.wi 1+d/\cell s.wi 1+d<c.room
  .exact q
  .rw[if_neg q]at f;cases f
 have gn:∀u,s.src=aA u->(aY m.dW u).isSome=aB:=λu A=>(S.sr u A).resolve_left λ⟨j,z,hz,g,_⟩=>by
  rw[es]at hz;rcases List.mem_cons.mp hz with rfl|hz
  .exact kh j g.symm
  .have L:s.tk<z.tk:=b.1 _ (List.mem_map.mpr ⟨z,hz,rfl⟩);omega
 refine⟨⟨hf,ww,(aU ..).trans S.wl,λx F=>?_,λp j g=>?_,I.sd.bl,?_,λf=>⟨λx y d a=>⟨⟨_,(ins x y d a f).1⟩,?_,by omega,by omega⟩,λx y d a=>⟨aa (r λ_ _ _ h=>by rw[show s.row=_ from a]at h;cases h),?_⟩⟩,λf u A=>?_,hl⟩,?_⟩
 .obtain⟨f,fx⟩:=AI F;exact⟨Yo (S.ok X) fx,Gk (s:=s) S st f (.inl (by rw[show aN.fx s.row=_ from fx];rfl))⟩
 .have f:s.ft c.room=aD:=by
   cases f:s.ft c.room with
   |none=>rfl|some v=>have g:s.d2 c.room=aA p:=g;unfold Sl.d2 at g;rw[f]at g;cases g
  have j:s.d1 c.room=aD:=j;have g:s.d2 c.room=aA p:=g;have a:∃x y d,s.row = .store x y d:=by
   unfold Sl.d1 at j;unfold Sl.d2 at g;rw[f]at j g;revert j g
   cases s.row with
   |store x y d=>exact λ_ _=>⟨x,y,d,rfl⟩|load=>exact λh _=>nomatch h|_=>exact nofun
  obtain⟨x,y,d,a⟩:=a;obtain⟨G,H⟩:=ins x y d a f;rw[G]at g;cases g;rw[<- I.rm];exact⟨H,Gk (s:=s) S st f (.inr (by rw[rD a];rfl))⟩
 .have:=X.rm;have:=I.rm;omega
 .have:=(zx (i:=0) (s:=s) I.so (by rw[es];rfl) (rD a)<|rD (s:=s) a).2;rw[<- I.kp]at this;exact⟨_,this⟩
 .obtain⟨e,he⟩:=inr x y d a f;exact⟨e,nC I.bn he⟩
 .have:=gn u A;unfold Mo.note;split
  .exact Option.isSome_iff_exists.mp<|Kv this
  .exact Option.isSome_iff_exists.mp this
  .exact Option.isSome_iff_exists.mp this
 unfold Mo.take Mo.Bq;cases f:s.ft c.room with
 |some v=>
  rw[show Sl.ft c.room { s with of:=aA m.nw }=aA v from f];have J:=I.cut (t:=s.tk);unfold Mo.cut at J;rw[es,jA,decide_eq_false (bp _)]at J;have k:∀x:AV,m.cD.length<=(m.cD++[x]).length:=λx=>by rw[dO];exact jL _
  exact⟨⟨J.so,J.sl,J.sz,J.wn,J.w1,J.w2,J.w3,J.tn,J.td,J.kp,J.bn,J.b1,J.fl,J.sd,J.rm,J.st,dF J.l1 (k _),dF J.l2 (k _),J.ah,J.t0,J.nb⟩,rfl,rfl,dO,.inr (List.filter_eq_nil_iff.mpr λz hz h=>bp _ (bu (of_decide_eq_true h)<|b.1 _<|List.mem_map.mpr ⟨z,hz,rfl⟩))⟩
 |none=>
  rw[show Sl.ft c.room { s with of:=aA m.nw }=aD from f];obtain⟨B,K⟩:=UL S X st f I.sd;have rm:=I.rm.trans (congrArg _ K.symm);have kp:=I.kp;rw[es,mH]at kp;have k:∀{x:AV}{n:Nat},n<=m.cD.length->n<=(m.cD++[x]).length:=λh=>by rw[dO];exact LO h
  have ne:∀{z},z∈rest->z.tk≠s.tk:=λhz=>JN (b.1 _<|List.mem_map.mpr ⟨_,hz,rfl⟩);dsimp only;unfold Mo.note;split
  .rename_i x y d a;have a:s.row = .store x y d:=a;rw[rD a]at kp;refine⟨I.off es hf ?_ I.bn (λp b=>⟨b,λh=>by rw[a]at h;cases h⟩) (λp b _=>b) (λu=>Kv) (λ_=>by rw[Jl,if_pos rfl];rfl) (λp b=>?_) ?_ ?_ B rm,rfl,rfl,dO,.inl rfl⟩
   .show nA m.kp s.tk=_;rw[kp];unfold nA;rw[jA,decide_eq_false λh=>h rfl];refine List.filter_eq_self.mpr λp b=>decide_eq_true ?_;obtain⟨z,hz,o⟩:=List.mem_filterMap.mp b;rw[wW o];exact ne hz
   .rcases L3 b with h|h
    .exact Kv<|I.st p h
    .rw[h,Jl];exact(if_pos rfl).symm▸rfl
   .rw[dO];exact dF DK<|LU l1
   .rw[dO];exact dF DK<|LU l2
  .rename_i x y d a;rw[qv λ_ _ _ h=>by rw[a]at h;cases h]at kp;exact⟨I.off es hf kp (oC I.bn) (λp b=>⟨(Ab.mp b).1,λ_=>(Ab.mp b).2⟩) (λp b h=>Ab.mpr ⟨b,h⟩) (λ_=>id) (λh=>by rw[qv λ_ _ _ h=>by rw[a]at h;cases h]at h;cases h) I.st (k l1) (k l2) B rm,rfl,rfl,dO,.inl rfl⟩
  .rename_i j g;have j:∀x y d,s.row ≠ .store x y d:=j;rw[qv j]at kp;exact⟨I.off es hf kp I.bn (λp b=>⟨b,λh=>by revert h g;cases s.row with|load x y d=>exact λh _=>absurd rfl (h x y d)|_=>exact λ_ h=>nomatch h⟩) (λp b _=>b) (λ_=>id) (λh=>by rw[qv j]at h;cases h) I.st (k l1) (k l2) B rm,rfl,rfl,dO,.inl rfl⟩
end
section
variable {e' t:Int}{sd:Sd}
theorem MI.skip(I:MI c (t::ts) nG e m)(h:m.slot t=aD):MI c ts nG e m:=by
 have ne:∀s∈m.slots,s.tk≠t:=λs d w=>by unfold Mo.slot at h;rw[<- w,vG d I.so]at h;cases h
 exact { I with w2:=λs d a b=>(I.w2 s d a b).imp (λh=>(List.mem_cons.mp h).resolve_left (ne s d)) id,tn:=(List.nodup_cons.mp I.tn).2,td:=λs d h=>I.td s d (jD _ h) }
theorem MI.Ko(I:MI c [] nG m.nw m):MI c [] nG m.nw { m with nw:=m.nw+1 }:=⟨I.so,I.sl,I.sz,I.wn,I.w1,I.w2,I.w3,I.tn,(λ_ _ h=>nomatch h),I.kp,I.bn,I.b1,I.fl,I.sd,I.rm,I.st,I.l1,I.l2,I.ah,I.t0,I.nb⟩
theorem MI.emp(I:MI c [] nG e m)(h:m.slots=[]):MI c [] nG e' m:=by
 have no:∀{p:Sl->Prop},¬ ∃s∈m.slots,p s:=λ⟨s,hs,_⟩=>by rw[h]at hs;cases hs
 exact { I with sl:=λs hs=>(no (p:=λ_=>True) ⟨s,hs,trivial⟩).elim,w1:=λp hp=>(no (I.w1 p hp).2).elim,w2:=I.w2,td:=I.td,nb:=I.nb }
theorem L4(X:lC c)(s0:0<=c.sz)(ok:sd.ok)(rm:c.room=sd.mem.length):MI c [] nG 0 (ia sd):=by
 have w3:∀g,0<=vE c g:=λg=>by
  unfold vE;rw[tH];cases h:c.tb[g.toNat]? with
  |none=>exact(by decide:(0:Int)<=1)|some p=>have:=(X.tb.2 p<|bX h).1;show 0<=p.1;omega
 exact⟨.nil,(λ_ h=>nomatch h),s0,.nil,(λ_ h=>nomatch h),(λ_ h=>nomatch h),w3,.nil,(λ_ h=>nomatch h),rfl,.nil,(λ_ h=>nomatch h),λx=>⟨(λ_ h=>nomatch h),jX _⟩,ok,rm,(λ_ h=>nomatch h),aV _,aV _,ok.pc,jX _,(λ_ _ _ _ h=>nomatch h)⟩
def Mo.sU(m:Mo)(p w:Int):Mo:={ m with sd:=⟨m.sd.pc,m.sd.bx,m.sd.mem.set p.toNat w⟩,gX:=nA m.gX p }
def Mo.lK(m:Mo)(p w:Int):Mo:=match m.slots with
 |[]=>{ m.sU p w with ah:=m.sd.pc }
 |s::_=>{ (m.sU p w).cut s.tk with ah:=m.sd.pc }
theorem MI.lK{p w:Int}(I:MI c [] nG e m)(hw:wd w):MI c [] nG e (m.lK p w)/\(m.lK p w).slots=[]/\(m.lK p w).ct=m.ct:=by
 have J:MI c [] nG e (m.sU p w):=⟨I.so,I.sl,I.sz,I.wn,I.w1,I.w2,I.w3,I.tn,I.td,I.kp,I.bn,I.b1,I.fl,⟨I.sd.pc,I.sd.bl,I.sd.bw,Ov I.sd.mw hw⟩,by show _=((m.sd.mem.set p.toNat w).length:Int);rw[pO];exact I.rm,λq a=>I.st q (Ab.mp a).1,dF (pN ..) I.l1,I.l2,I.ah,I.t0,I.nb⟩;unfold Mo.lK;split
 .exact⟨J.tS I.sd.pc,‹_›,rfl⟩
 .rename_i s rest b;refine⟨J.cut.tS I.sd.pc,?_,rfl⟩;show m.slots.filter _=[];have so:=I.so;rw[b]at so ⊢;refine List.filter_eq_nil_iff.mpr λz hz h=>?_;have h:=of_decide_eq_true h;rcases List.mem_cons.mp hz with rfl|hz
  .exact bp _ h
  .exact bp _<|bu h<|(List.pairwise_cons.mp so).1 _ (List.mem_map.mpr ⟨z,hz,rfl⟩)
structure TI(c:Cf)(n:Int)(m:Mo):Prop where
 I:MI c [] nG n m
 nw:m.nw=n
 tk:m.bQ<=8*n
 sl:(m.cD.length:Int)<=8*n
 bk:m.brk=aB->m.slots=[]
theorem TI.lK{n p w:Int}(T:TI c n m)(hw:wd w):TI c n (m.lK p w)/\(m.lK p w).slots=[]:=by obtain⟨a,b,ct⟩:=T.I.lK hw;have d:(m.lK p w).nw=m.nw:=congrArg (·.1) ct;have e:(m.lK p w).bQ=m.bQ:=congrArg (·.2.1) ct;have f:(m.lK p w).cD=m.cD:=congrArg (·.2.2.1) ct;exact⟨⟨a,d.trans T.nw,e▸T.tk,f▸T.sl,λ_=>b⟩,b⟩
end
section
variable {k:Nat}{g:Gh}
theorem aOh{y z:AV}{k:aP}(e:h.ob n=aA (.aR kvs))(hk:fN y=aA k)(q1:∀v,bR kvs k=aA v->V1 v (h.put n<|.aR<|tY kvs k))(q2:bR kvs k=aD->V1 z h):We (Dm.g .pop (.ref n) [y,z]) h V1:=by
 show We (zK (.ref n) [y,z]) h V1;unfold We zK;simp only[tX e,hk];cases l:bR kvs k with
 |none=>exact q2 l|some v=>exact q1 v l
theorem aJ.o0(r:aJ c g m h):h.ob c.b=aA (.ins 21 [("window",.ref (c.b+1)),("ledger",.ref (c.b+11))]):=r.at 0
theorem aBa{sd:Sd}(h0:0<=p)(h1:p<sd.mem.length)(hl:sd.mem.length<=80)(q:R (Sd.av ⟨sd.pc,sd.bx,sd.mem.set p.toNat w⟩) h):WC (run pg (k+2) 23 [sd.av,.int p,.int w]) h R:=by refine aT rfl rfl<|Zt ?_;rw[decide_eq_true ⟨h0,h1⟩];exact Ms h0 h1 hl q
theorem K3(r:aJ c g m h)(h0:0<=p)(h1:p<m.sd.mem.length)(hl:m.sd.mem.length<=80)(q:∀v h',aJ c g (m.sU p w) h'->h.nx<=h'.nx->R v h'):WC (run pg (k+3) 117 [.ref (c.b+11),.int p,.int w]) h R:=by
 refine aT rfl rfl<|aC.of (r.at 11)<|aBa h0 h1 hl<|aC.of rfl<|aC.of rfl<|aC.of (r.at 11) ?_;have a:=r.Jg (sd':=⟨m.sd.pc,m.sd.bx,m.sd.mem.set p.toNat w⟩) (b':=m.brk);refine aC.of (a.at 11)<|aE.t (B:=False) rfl<|aC.of rfl<|aE.t (sH<|a.at 13)<|WC.of<|aOh (a.at 13) rfl (λv e=>?_) λe=>?_
 .rw[xx];exact q _ _ (a.GO)<|aV _
 .rw[iY]at e;have e:aY m.gX p=aD:=by cases l:aY m.gX p with|none=>rfl|some v=>rw[l]at e;cases e
  refine q _ _ ?_<|aV _;unfold Mo.sU;rw[show nA m.gX p=m.gX from List.filter_eq_self.mpr λz b=>decide_eq_true λw=>by unfold aY at e;rw[MA,List.find?_eq_none]at e;exact e z b<|decide_eq_true w]
  exact a
theorem aAz(r:aJ c g m h)(hh:m.eB c = .aH)(h0:0<=p)(h1:p<m.sd.mem.length)(hl:m.sd.mem.length<=80)(q:∀v g' h',aJ c g' (m.lK p w) h'->h.nx<=h'.nx->R v h'):WC (run pg (k+4) 127 [.ref c.b,.int p,.int w]) h R:=by
 refine aT rfl rfl<|aC.of r.o0<|FI r hh<|aC.of r.o0<|aC.of (r.at 11)<|K3 r h0 h1 hl λv h1 b u=>aC.of b.o0 (aC.of (b.at 1)<|uc b ?_);have fin:∀{g2 f j},aJ c g2 j f->j.sd=(m.sU p w).sd->h.nx<=f.nx->{ j with ah:=m.sd.pc }=m.lK p w->_:=λ{g2 f j} i d n e=>(show eG (run pg<|k+3) (bO<|bO<|bO<|bO Uk) [aA (.ref c.b),aA (.int p),aA (.int w),aA (.ref<|c.b+1)] f (λ_ h1=>R .aH h1) R (λ_ _=>False) λ_ _=>False from by
  have o:f.ob (c.b+11)=aA (.ins 20<|{ j with sd:=⟨m.sd.pc,m.sd.bx,m.sd.mem.set p.toNat w⟩ }.lf c):=by rw[i.at 11];unfold Mo.lf;rw[d];rfl
  refine aC.of i.o0<|aC.of o<|aC.of (i.at 1) ?_;have l:=i.tS (a:=m.sd.pc);exact aC.of l.o0<|aC.of (l.at 11)<|WC.of<|kK (cN<|l.at 12)<|q _ _ _ (by rw[<- e];exact l) n)
 cases d:m.slots with
 |nil=>
  have t:¬((m.sU p w).slots.length:Int) > 0:=by show¬((m.slots.length:Int) > 0);rw[d];decide
  exact aE.df t<|fin b rfl u (by unfold Mo.lK;rw[d])
 |cons s rest=>
  have t:((m.sU p w).slots.length:Int) > 0:=by show(m.slots.length:Int) > 0;rw[d,iB];omega
  have hm:s∈(m.sU p w).slots:=by show s∈m.slots;rw[d];exact fV
  have x:cM ((m.sU p w).slots.map λs=>AV.ref s.a) 0=aA (.ref s.a):=by show cM (m.slots.map _) 0=_;rw[d];exact gS
  refine aE.dt t<|aC.of (b.at 1)<|aC.of (b.at 1)<|WC.of<|gI (cN b.kH.1) x<|aC.of (b.cJ hm)<|Bo b λv g2 f i n _=>fin i rfl (dF u n) (by unfold Mo.lK;rw[d])
end
section
variable {k:Nat}{g:Gh}{n:Int}
structure eh(c:Cf)(n:Int)(s:Sl):Prop where
 p0:0<=s.pc
 hr:c.rs[s.pc.toNat]?=aA s.row
 nl:s.bJ.length<=2
 ti:∃τ φ,s.st=aA τ/\s.fi=aA φ/\s.put<τ/\φ=τ+mT c.tb s.row/\φ<n
 of:s.of=aA n
theorem B3(h:m.eB c ≠ .aH)(b:m.brk=aB->m.slots=[]):m.slots=[]:=by
 unfold Mo.eB at h;split at h
 .exact b ‹_›
 .split at h
  .exact(‹_/\_›:_/\_).1
  .exact absurd rfl h
theorem N0(X:lC c)(T:TI c n m)(n0:0<=n)(hn:n<100)(r:aJ c g m h)(hh:m.eB c = .aH)
  (q:∀(ss:YF) a g' m' h',aJ c g' m' h'->TI c (n+1) m'->(∀s∈ss,eh c (n+1) s)->ss.length<=8->h'.ob a=aA (.lst aB<|ss.map λs=>(s.lt c.room).gW)->a<h'.nx->R (.ref a) h'):WC (run pg (k+10) 119 [.ref c.b]) h R:=by
 obtain⟨I,rfl,tk,sl,bk⟩:=T;have w8:=X.w8;have w0:=X.w0;refine aNd r hh λA Q _=>?_;refine aMm Q (by omega) w8 (λl f=>∃ss:YF,l=ss.map (λs=>(s.lt c.room).gW)/\(∀s∈ss,eh c (m.nw+1) s)/\MI c [] nG m.nw f/\f.nw=m.nw+1/\f.bQ=m.bQ/\f.cD.length=m.cD.length+l.length/\(f.brk=aB->f.slots=[])/\(l.length:Int)<=c.wd) ⟨[],rfl,(λ_ h=>nomatch h),I.Ko,rfl,rfl,rfl,bk,by show 0<=_;omega⟩ (λl f s rest p hl x U=>?_) λl f a g2 G p hc H ha v V kd=>?_
 .obtain⟨ss,rfl,A,J,y,K,D,G,_⟩:=p;rw[aU]at hl D;obtain⟨T1,J2,f1,f2,E,f4⟩:=J.take X x U (by omega);have S:=J.sl s (x▸fV);obtain⟨W,Y⟩:=Option.isSome_iff_exists.mp U;obtain⟨a1,Z,a2,B⟩:=S.f1 W Y;refine⟨T1,ss++[{ s with of:=aA f.nw }],by rw[hJ];rfl,λz hz=>?_,J2,f1.trans y,f2.trans K,by rw[E,D,dO,aU];rfl,λhb=>f4.elim (λw=>?_) id,by rw[dO,aU];exact hl⟩
  .rcases List.mem_append.mp hz with hz|hz
   .exact A z hz
   .rw[List.mem_singleton.mp hz];exact⟨S.p0,S.hr,by rw[S.nl];exact ic,⟨Z,W,a2,Y,(S.s1 Z a2).1,B,by omega⟩,by rw[y]⟩
  .have:=G (w▸hb);rw[x]at this;cases this
 obtain⟨ss,rfl,A,J,y,K,D,h3,l8⟩:=p;rw[aU]at D l8;have C:ss.length<=8:=by omega
 refine⟨g2,f,H,λhl=>?_,λhl=>?_⟩
 .have x:=B3 hl h3;exact q ss a g2 f G H ⟨J.emp x,y,by omega,by omega,λ_=>x⟩ A C V v
 have bf:f.brk=aG:=by
  cases e:f.brk with
  |false=>rfl|true=>unfold Mo.eB at hl;rw[if_pos e]at hl;cases hl
 have ct:∀o:Mo,o.ct=f.ct->o.nw=m.nw+1/\o.bQ=m.bQ/\o.cD=f.cD/\o.brk=aG:=λo e=>⟨(congrArg (·.1) e).trans y,(congrArg (·.2.1) e).trans K,congrArg (·.2.2.1) e,(congrArg (·.2.2.2) e).trans bf⟩;refine p5 H rfl (λts o=>MI c ts nG o.nw o/\o.ct=f.ct) ⟨MI.XX (by rw[y,Int.add_sub_cancel];exact J),rfl⟩ (λt ts o p=>⟨p.1.rm,λh=>⟨p.1.skip h,p.2⟩,λi s L M=>p4 X p.1 L M λu a b=>⟨a,b.trans p.2⟩⟩) λo g3 h3 p r3 E=>⟨⟨g3,o,r3⟩,?_⟩;refine aKg r3 (λ_ u=>MI c [] nG u.nw u/\u.ct=f.ct) p (λi u s p L=>⟨λa b d=>?_,λ_=>p⟩) λu h4 p r4 f4=>⟨⟨g3,u,r4⟩,?_⟩
 .obtain⟨t,a1,a2,B,N,a5⟩:=p.1.start X L a b d;have sc:=aKl (m:=u) (c:=c) (i:=i) (s:=s) (t:=t);exact⟨t,a1,a2,B,N,by rw[show(u.start c t i s).nw=u.nw from congrArg (·.1) sc];exact a5,sc.trans p.2⟩
 obtain⟨d1,d2,d3,d4⟩:=ct u p.2;refine n8 r4 (by omega) w8 (λi j=>MI c [] nG j.nw j/\j.ct=(m.nw+1,m.bQ+i,f.cD,aG)) ⟨p.1,by unfold Mo.ct;rw[d1,d2,d3,d4];exact congrArg _<|congrArg (·,_) (JK _).symm⟩ (λi j p hi hl ha=>?_) λi j g5 h5 p hi r5 f5=>?_
 .have M:j.bQ=m.bQ+i:=congrArg (·.2.1) p.2;obtain⟨row,a1,a2,B,N⟩:=p.1.uC X hl ha (by omega);refine⟨row,a1,a2,B,λa dr gs=>?_⟩;obtain⟨b1,b2⟩:=N a dr gs;have b3:(j.uC c row a dr gs).nw=j.nw:=congrArg (·.1) b2;refine⟨b3▸b1,b2.trans ?_⟩;have F:j.nw=m.nw+1:=congrArg (·.1) p.2;have O:j.cD=f.cD:=congrArg (·.2.2.1) p.2;have P:j.brk=aG:=congrArg (·.2.2.2) p.2;rw[F,O,P,M,Int.add_assoc];rfl
 .have F:j.nw=m.nw+1:=congrArg (·.1) p.2;have O:j.cD=f.cD:=congrArg (·.2.2.1) p.2;have P:j.brk=aG:=congrArg (·.2.2.2) p.2;have z4:j.bQ=m.bQ+i:=congrArg (·.2.1) p.2;have ob:=((E.trans f4).trans f5).ob a v kd (dF Q.bx ha);exact q ss a g5 j h5 r5 ⟨F▸p.1,F,by omega,by rw[O];omega,λh=>by rw[P]at h;cases h⟩ A C (ob.1.trans V)<|bC v ((E.trans f4).trans f5).nx
end
section
variable {k:Nat}
theorem aJj{c:Int}(q:∀a b,1<=a->a<=32->1<=b->b<=8->R (.tup [.int a,.int b]) h):WC (run pg (k+2) 49 [.int c]) h R:=by refine aT rfl rfl<|pE (by omega) (by omega) λz z0 z1=>?_;have q1:∀a,1<=a->a<=32->eG (run pg<|k+1) (bO<|bO<|bO Ut) [aA (.int c),aA (.int z),aA (.int a),aD] h (λ_ h1=>R .aH h1) R (λ_ _=>False) λ_ _=>False:=λa a1 a2=>aE.dc (λ_=>q _ _ a1 a2 (by omega) (by omega)) λ_=>q _ _ a1 a2 (by omega) (by omega);exact aE.dc (λ_=>q1 _ (by omega) (by omega)) λ_=>q1 _ (by omega) (by omega)
theorem P4{os:Xv}(o:h.ob n=aA (.lst aB<|os.map oI))(hl:os.length<1000)(q:R (.bl aB) h):WC (run pg (k+1) 50 [.ref n]) h R:=by
 refine aT rfl rfl<|WB.of<|lO<|mU<|nO o ?_;refine qN (λj Z h'=>h'=h/\∃v1,Z=[aA (.ref n),v1]) (by rw[aU,eZ];omega) ⟨rfl,_,rfl⟩ (λ_ _ _ y=>y.1▸o) (λj x Z h' hx y=>?_)<|λZ h' y=>y.1▸q;obtain⟨rfl,v1,rfl⟩:=y;obtain⟨w,_,rfl⟩:=jR hx;cases w with
 |none=>exact iZ _<|gE _ ⟨rfl,_,rfl⟩|some v=>exact iZ _<|gE _ ⟨rfl,_,rfl⟩
structure Fb(size:Int)(s:dS):Prop where
 p0:0<=s.pc
 p1:s.pc<size
 nl:s.bJ.length<=2
 dd:s.dd = .aH\/∃b c d e f,s.dd = .tup [.int s.pc,b,c,d,e,f]
def Yj:aQ->aQ
 |.cons (.uD _ _ b) _=>b
 |_=>.nil
theorem UZ{b:Bool}(e:h.ob n=aA (.lst b xs)):tT h (.ref n)=aA .lst:=by simp only[tT,e]
theorem GB{size:Int}(o:h.ob n=aA (.lst aB<|ss.map dS.gW))(hn:n<h.nx)(hl:ss.length<1000)(hs:∀s∈ss,Fb size s)(q:∀h',Kp h h'->R (.bl aB) h'):WC (run pg (k+2) 51 [.ref n,.int size]) h R:=by
 have big:=kG;refine aT rfl rfl<|aC.of (UZ o)<|WB.of<|lO<|mU<|nO o ?_;refine qN (λj Z h'=>Kp h h'/\∃v1,Z=[aA (.ref n),aA (.int size),v1]) (by rw[aU,eZ];omega) ⟨Kp.refl,_,rfl⟩ (λ_ _ _ y=>y.1.get hn o) (λj x Z h' hx y=>?_)<|λZ h' y=>q h' y.1;obtain⟨kp,v1,rfl⟩:=y;obtain⟨s,hm,rfl⟩:=jR hx;obtain⟨p0,p1,nl,dd⟩:=hs s (bX hm);obtain⟨tk,pc,row,bJ,ch,dr,src,dZ,d,pt,st,fi,of⟩:=s;dsimp only at p0 p1 nl dd;refine iZ _<|gE _ ?_;have n1:h'.nx≠h'.nx+1:=by omega
 have n2:h'.nx+2≠h'.nx+3:=by omega
 have fin:∀{d:AV},eG (run pg<|k+1) (bO<|bO<|bO<|Yj<|bO Us) [aA (.ref n),aA (.int size),aA (dS.gW ⟨tk,pc,row,bJ,ch,dr,src,dZ,d,pt,st,fi,of⟩)] h' (λZ1 h1=>Kp h h1/\∃v1,Z1=[aA (.ref n),aA (.int size),v1]) R (λZ1 h1=>R (.bl aB) h1) λZ1 h1=>Kp h h1/\∃v1,Z1=[aA (.ref n),aA (.int size),v1]:=λ{d}=>by refine WC.of<|Cb rfl<|WC.of<|Oj ((eF n1).trans bM) bM (by rw[aU];show 3+bJ.length<=_;omega)<|WC.of<|Cb rfl<|WC.of<|Oj ((eF n2).trans bM) bM (by rw[dO,aU];show 3+bJ.length+4<=_;omega)<|P4 (os:=[aA tk,aA pc,src]++bJ++[aA pt,st,fi,of]) (bM.trans (by rw[hJ];rfl)) (by rw[dO,dO];show 3+bJ.length+4<_;omega) ?_;exact aE.df (c:=pc<0) (by omega)<|aE.df (c:=pc ≥ size) (by omega) ⟨kp.trans Kp.refl.new.new.new.new.new,_,rfl⟩
 rcases dd with rfl|⟨b,c,e,f,g,rfl⟩
 .exact fin
 .exact fin
end
section
variable {k:Nat}{L:Int}
theorem Zm(q:R (.int r.eA) h):WC (run pg (k+1) 52 [r.av]) h R:=by
 refine aT rfl rfl ?_;cases r with
 |way w x y z=>cases w<;>exact q|_=>exact q
theorem OG{i:Int}(q:R (.bl aB) h):WC (run pg (k+1) 46 [.int i,.int i]) h R:=by
 have:R (.bl<|decide<|i=i) h:=by rw[decide_eq_true rfl];exact q
 exact aT rfl rfl this
inductive nc(L T:Int)(s:dS):Prop
 |put (_:s.st=aD) (_:s.fi=aD) (_:s.dd = .aH)
 |st (τ:Int) (_:s.st=aA τ) (_:s.fi=aD) (_:s.dd = .aH) (_:s.put<τ) (_:τ<=T) (_:T<τ+L)
 |fi (τ:Int) (_:s.st=aA τ) (_:s.fi=aA (τ+L)) (_:∃b c d e f,s.dd = .tup [.int s.pc,b,c,d,e,f]) (_:s.put<τ) (_:τ<=T) (_:τ+L<=T)
theorem HJ{s:dS}(t:nc L T s)(q:R (.bl aB) h):WC (run pg (k+2) 53 [s.gW,.int L,.int T]) h R:=by
 obtain⟨tk,pc,row,bJ,ch,dr,src,dZ,d,pt,st,fi,of⟩:=s;cases t with
 |put e1 e2 e3=>cases e1;cases e2;cases e3;exact aT rfl rfl<|WC.of<|Cc rfl q
 |st τ e1 e2 e3 h1 h2 h3=>
  cases e1;cases e2;cases e3;have q:R (.bl<|decide<|T<τ+L) h:=by rw[decide_eq_true h3];exact q
  exact aT rfl rfl<|WC.of<|Cc rfl<|aE.df (Int.not_le.mpr h1)<|aE.df (by omega) q
 |fi τ e1 e2 e3 h1 h2 h3=>obtain⟨b,c,d',e,f,e3⟩:=e3;dsimp only at e1 e2 e3;subst e1;subst e2;subst e3;exact aT rfl rfl<|WC.of<|Cc rfl<|aE.df (Int.not_le.mpr h1)<|aE.df (by omega)<|aE.dt rfl<|aE.dt h3<|OG q
theorem FR(p0:0<=p)(hr:c.rs[p.toNat]?=aA r):cM (c.rs.map aN.av) p=aA r.av:=by obtain⟨n,rfl⟩:=bo p0;rw[oR]at hr;exact L2.nq (by rw[fH,hr];rfl)
theorem P7(X:lC c)(o:h.ob n=aA (.lst aB<|ss.map dS.gW))(or:h.ob nr=aA (.lst aB<|c.rs.map aN.av))(hl:ss.length<1000)(hs:∀s∈ss,0<=s.pc/\c.rs[s.pc.toNat]?=aA s.row/\s.of=aA T/\(∃φ,s.fi=aA φ/\φ<T)/\nc (mT c.tb s.row) T s)(q:R (.bl aB) h):WC (run pg (k+3) 55 [.ref n,.ref nr,.tup (c.tb.map dQ),.int T]) h R:=by refine aT rfl rfl<|WB.of<|lO<|mU<|nO o ?_;refine qN (n:=n) (bb:=aB) (xs:=ss.map dS.gW) (λj Z h'=>h'=h/\∃v1 v2,Z=[aA (.ref n),aA (.ref nr),aA (.tup<|c.tb.map dQ),aA (.int T),v1,v2]) (by rw[aU,eZ];omega) ⟨rfl,_,_,rfl⟩ (λ_ _ _ y=>y.1▸o) (λj x Z h' hx y=>?_) (λZ h' y=>by rw[y.1];exact q);obtain⟨rfl,v1,v2,rfl⟩:=y;obtain⟨s,hm,rfl⟩:=jR hx;obtain⟨p0,hr,ho,⟨φ,hf,hp⟩,tm⟩:=hs s (bX hm);have w:=λR q=>HJ (k:=k) (h:=h') (R:=R) tm q;obtain⟨tk,pc,row,bJ,ch,dr,src,dZ,d,pt,st,fi,of⟩:=s;cases ho;cases hf;dsimp only at p0 hr;obtain⟨ta,_⟩:=Bn X (r:=row);refine iZ _<|gE _<|WC.of<|gI (cN or) (FR p0 hr)<|Zm (k:=k+1)<|aC.of ta ?_;exact aE.nt (c:=T=T) rfl<|aE.df (c:=φ ≥ T) (by omega)<|w _ ⟨rfl,_,_,rfl⟩
theorem t6{b1:Bool}{ys:Hd}{g:AV->aF->M aF}{body:aF->M Out}(I:Nat->aF->AH->Prop)(hl:xs.length=ys.length)(hn:xs.length<FU)(i0:I 0 Z h)
  (il:∀i Z h,I i Z h->h.ob n1=aA (.lst b1 xs))
  (turn:∀(i:Nat) x y Z h,xs[i]?=aA x->ys[i]?=aA y->I i Z h->We (g (.tup [x,y]) Z) h λZ1 h1=>Wt (body Z1) h1 (I<|i+1) R N (I<|i+1))
  (done:∀Z h,I xs.length Z h->N Z h):Wt (kW (jv (jQ n1)<|mE ys) g body FU 0 Z) h N R B C:=by
 refine zI I xs.length (λi Z h d a=>?_) (λZ h a=>⟨?_,done Z h a⟩) FU 0 Z h (jZ _) (by omega) i0
 .have g1:=il _ _ _ a;have b:=eN d;have c:=eN (show i<ys.length by omega);exact⟨_,by simp only[jv,sQ g1,mE,b,c],turn i _ _ Z h b c a⟩
 .have g1:=il _ _ _ a;simp[jv,sQ g1,mE]
def kT(l:Xj)(s:dS):Xj:=if s.st.isSome=aB/\s.fi=aD then l.set s.row.eA.toNat (l.getD s.row.eA.toNat 0+1) else l
theorem Vx:(ss.foldl kT l).length=l.length:=by
 induction ss generalizing l with
 |nil=>rfl|cons s ss a=>
  rw[Dh,a];unfold kT;split
  .exact pO ..
  .rfl
theorem WD{g:Nat}(hg:g<l.length):(ss.foldl kT l).getD g 0=l.getD g 0+(ss.filter λs=>decide (s.st.isSome=aB/\s.fi=aD/\s.row.eA.toNat=g)).length:=by
 induction ss generalizing l with
 |nil=>exact(JK _).symm|cons s ss e=>
  rw[Dh];by_cases c:s.st.isSome=aB/\s.fi=aD
  .rw[show kT l s=l.set s.row.eA.toNat (l.getD s.row.eA.toNat 0+1) from if_pos c,e (by rw[pO];exact hg),jA];by_cases d:s.row.eA.toNat=g
   .rw[if_pos (decide_eq_true ⟨c.1,c.2,d⟩),d,tH,mI hg,iB,Int.natCast_add];show l.getD g 0+1+_=l.getD g 0+(_+1);omega
   .rw[if_neg (by simp[d]),tH,kZ d,<- tH]
  .rw[show kT l s=l from if_neg c,e hg,jA,if_neg (by simpa using λa b=>absurd ⟨a,b⟩ c)]
end
section
variable {k:Nat}
theorem G6(X:lC c)(o:h.ob n=aA (.lst aB<|ss.map dS.gW))(on:n<h.nx)(or:h.ob nr=aA (.lst aB<|c.rs.map aN.av))(ol:nr<h.nx)(hl:ss.length<1000)(hs:∀s∈ss,0<=s.pc/\c.rs[s.pc.toNat]?=aA s.row/\s.of=aD/\nc (mT c.tb s.row) T s)
  (hc:∀g:Nat,((ss.filter λs=>decide (s.st.isSome=aB/\s.fi=aD/\s.row.eA.toNat=g)).length:Int)<=vE c g)(q:∀h',Kp h h'->R (.bl aB) h'):WC (run pg (k+3) 54 [.ref n,.ref nr,.tup (c.tb.map dQ),.int T]) h R:=by
 have big:=kG;have k1:Kp h (h.new<|.lst aB [.int 0,.int 0,.int 0,.int 0,.int 0]):=Kp.refl.new;refine aT rfl rfl<|WB.of<|lO<|mU<|nO (k1.get on o) ?_;refine qN (n:=n) (bb:=aB) (xs:=ss.map dS.gW) (λj Z h'=>Kp h h'/\h.nx<h'.nx/\h'.ob h.nx=aA (.lst aB<|((ss.take j).foldl kT [0,0,0,0,0]).map .int)/\∃v1 v2 v3 v4,Z=[aA (.ref n),aA (.ref nr),aA (.tup<|c.tb.map dQ),aA (.int T),aA (.ref h.nx),v1,v2,v3,v4]) (by rw[aU,eZ];omega) ⟨k1,dA _,bM,_,_,_,_,rfl⟩ (λ_ _ _ y=>y.1.get on o) (λj x Z h' hx y=>?_)<|λZ h' y=>?_
 .obtain⟨kp,lt,ow,v1,v2,v3,v4,rfl⟩:=y;obtain⟨s,hm,rfl⟩:=jR hx;obtain⟨p0,hr,ho,tm⟩:=hs s (bX hm);have w:=λR q=>HJ (k:=k) (h:=h') (R:=R) tm q;have et:(ss.take<|j+1).foldl kT [0,0,0,0,0]=kT ((ss.take j).foldl kT [0,0,0,0,0]) s:=by rw[vO,hm];exact List.foldl_append
  obtain⟨ta,_⟩:=Bn X (r:=s.row);obtain⟨tk,pc,row,bJ,ch,dr,src,dZ,d,pt,st,fi,of⟩:=s;dsimp only at p0 hr ho tm ta;subst ho;obtain⟨g,g5,eg⟩:∃g:Nat,g<5/\row.eA=g:=Ia;refine iZ _<|gE _<|WC.of<|gI (cN<|kp.get ol or) (FR p0 hr)<|Zm (k:=k+1)<|aC.of ta<|w _ ?_;have no:kT ((ss.take j).foldl kT [0,0,0,0,0]) ⟨tk,pc,row,bJ,ch,dr,src,dZ,d,pt,st,fi,aD⟩=(ss.take j).foldl kT [0,0,0,0,0]->h'.ob h.nx=aA (.lst aB<|((ss.take<|j+1).foldl kT [0,0,0,0,0]).map .int):=λe=>by rw[et,e];exact ow
  cases st with
  |none=>exact⟨kp,lt,no (if_neg λz=>nomatch z.1),_,_,_,_,rfl⟩|some τ=>
   cases fi with
   |some φ=>exact⟨kp,lt,no (if_neg λz=>nomatch z.2),_,_,_,_,rfl⟩|none=>
    have gl:g<((ss.take j).foldl kT [0,0,0,0,0]).length:=by rw[Vx];exact g5
    have ex:cM (((ss.take j).foldl kT [0,0,0,0,0]).map AV.int) row.eA=aA (.int<|((ss.take j).foldl kT [0,0,0,0,0]).getD g 0):=by rw[eg];exact L2.nq (by rw[fH,tH,eN gl];rfl)
    refine WC.of<|gI (cN ow) ex<|Co ow (by rw[eg,aU];exact zt gl) ?_;refine⟨kp.put (aV _),lt,?_,_,_,_,_,rfl⟩;rw[bD,et];unfold kT;rw[if_pos ⟨rfl,rfl⟩,eg,oR,uy]
 .obtain⟨kp,lt,ow,v1,v2,v3,v4,rfl⟩:=y;rw[aU,tJ]at ow;refine WB.of ?_;with_reducible refine lO (aPl ?_)
  refine⟨_,_,_,_,rfl,u6 ow,rfl,?_⟩;have l5:(ss.foldl kT [0,0,0,0,0]).length=5:=Vx;refine t6 (n1:=h.nx) (b1:=aB) (λi Z h''=>h''=h'/\∃v3 v4,Z=[aA (.ref n),aA (.ref nr),aA (.tup<|c.tb.map dQ),aA (.int T),aA (.ref h.nx),v1,v2,v3,v4]) (by rw[aU,aU,l5,X.tb.1]) (by rw[aU,l5,eZ];decide) ⟨rfl,_,_,rfl⟩ (λ_ _ _ y=>y.1▸ow) (λi x y Z h'' e1 e2 z=>?_) (λZ h'' y=>by rw[y.1];exact q h' kp);obtain⟨rfl,v3,v4,rfl⟩:=z;obtain⟨a,ha,rfl⟩:=jR e1;obtain⟨p,hp,rfl⟩:=jR e2;refine iZ _<|gE _<|aE.df (c:=a > p.1) ?_ ⟨rfl,_,_,rfl⟩;have i5:i<5:=by rw[<- l5];exact(List.getElem?_eq_some_iff.mp ha).1
  have e:=WD (ss:=ss) (l:=[0,0,0,0,0]) (g:=i) i5;have:=hc i;unfold vE at this;rw[oR,tH,hp]at this;rw[tH,ha]at e;have z:([0,0,0,0,0]:Xj).getD i 0=0:=by
   have:∀i:Nat,i<5->([0,0,0,0,0]:Xj).getD i 0=0:=by decide
   exact this i i5
  rw[z]at e;have e:a=0+_:=e;have this:_<=p.1:=this;omega
end
section
variable {n:Int}
theorem xy(h:s.fi.isSome=aB):∃b c d e f,(s.lt room).dd = .tup [.int (s.lt room).pc,b,c,d,e,f]:=⟨_,_,_,_,_,xq h⟩
theorem CW(p0:0<=p)(h:c.rs[p.toNat]?=aA r):p<c.rs.length:=by have:=(List.getElem?_eq_some_iff.mp h).1;omega
theorem eh.sh(o:eh c n s):Fb c.rs.length (s.lt c.room):=by obtain⟨b,d,_,a,_⟩:=o.ti;exact⟨o.p0,CW o.p0 o.hr,o.nl,.inr (xy (by rw[a];rfl))⟩
theorem eh.tm(o:eh c n s)(X:lC c):(∃φ,(s.lt c.room).fi=aA φ/\φ<n)/\nc (mT c.tb s.row) n (s.lt c.room):=by obtain⟨b,φ,d,a,e,rfl,f⟩:=o.ti;have:=(Bn X (r:=s.row)).2;exact⟨⟨_,a,f⟩,.fi b d a (xy (by rw[a];rfl)) e (by omega) (by omega)⟩
theorem MI.sh(I:MI c [] nG n m)(hs:s∈m.slots):Fb c.rs.length (s.lt c.room):=by
 have S:=I.sl s hs;refine⟨S.p0,CW S.p0 S.hr,by show s.bJ.length<=2;rw[S.nl];exact ic,?_⟩;cases e:s.fi with
 |none=>exact .inl (by show s.dd c.room=_;unfold Sl.dd;rw[e])|some φ=>exact .inr<|xy (by rw[e];rfl)
theorem MI.IM(I:MI c [] nG n m)(hs:s∈m.slots)(st:s.st.isSome=aB)(fi:s.fi=aD):∃p∈m.wk,p.1=s.tk/\p.2.1=s.row.eA/\n<p.2.2/\∃τ,s.st=aA τ/\p.2.2=τ+mT c.tb s.row:=by obtain⟨p,a,e⟩:=(I.w2 s hs st fi).resolve_left nofun;obtain⟨f,z,g,h,_,b,d⟩:=I.w1 p a;rw[I.so.eq hs g (h.trans e)]at b d;exact⟨p,a,e,b,f,d⟩
theorem MI.tm(I:MI c [] nG n m)(hs:s∈m.slots):nc (mT c.tb s.row) n (s.lt c.room):=by
 have S:=I.sl s hs;have dd:s.fi=aD->(s.lt c.room).dd = .aH:=λe=>by show s.dd c.room=_;unfold Sl.dd;rw[e]
 cases e:s.st with
 |none=>exact .put e (S.s0 e).1 (dd (S.s0 e).1)|some b=>
  obtain⟨i,j,_⟩:=S.s1 b e;cases f:s.fi with
  |none=>obtain⟨p,_,_,_,d,g,a,h⟩:=I.IM hs (by rw[e];rfl) f;rw[e]at a;cases a;exact .st b e f (dd f) i j<|h▸d
  |some k=>obtain⟨d,g,a,h⟩:=S.f1 k f;rw[e]at a;cases a;subst h;exact .fi b e f (xy (by rw[f];rfl)) i j d
theorem MI.cn(I:MI c [] nG n m)(g:Nat):(((m.slots.map λs=>s.lt c.room).filter λs=>decide (s.st.isSome=aB/\s.fi=aD/\s.row.eA.toNat=g)).length:Int)<=vE c g:=by
 refine pM (Int.ofNat_le.mpr ?_)<|I.w3 g;rw[KD,aU];have:=Pt (l₁:=(m.slots.filter<|(λs=>decide (s.st.isSome=aB/\s.fi=aD/\s.row.eA.toNat=g)) ∘ λs=>s.lt c.room).map (·.tk)) (l₂:=(m.wk.filter λp=>decide (p.2.1=(g:Int))).map (·.1)) (vN (List.filter_sublist.map _)<|I.so.imp kh) λx d=>by obtain⟨s,a,rfl⟩:=List.mem_map.mp d;obtain⟨a,h⟩:=List.mem_filter.mp a;obtain⟨f,j,b⟩:=of_decide_eq_true h;obtain⟨p,hp,e1,e2,_⟩:=I.IM a f j;refine List.mem_map.mpr ⟨p,List.mem_filter.mpr ⟨hp,decide_eq_true ?_⟩,e1⟩;obtain⟨i,_,e⟩:=@Ia s.row;have b:s.row.eA.toNat=g:=b;rw[e2,<- b,e];rfl
 rwa [aU,aU]at this
end
section
variable {k:Nat}{g:Gh}
theorem aJ.Jo(r:aJ c g m h)(p:Nat×bG)(hp:p∈c.lo):p.1<h.nx/\h.ob p.1=aA p.2:=by obtain⟨a,b,G⟩:=r.G;have z:=G.lo p hp;exact⟨bC z.2.2.1 r.bx,z.2.2.2⟩
theorem Zu(r:aJ c g m h)(q:∀h',Kp h h'->h'.ob h.nx=aA (.lst aB<|m.slots.map λs=>(s.lt c.room).gW)->h.nx<h'.nx->R (.ref h.nx) h'):WC (run pg (k+2) 122 [.ref c.b]) h R:=by
 have sn:=r.W.sn;have big:=kG;refine aT rfl rfl<|WC.of<|jq<|mU<|aC.of r.o0<|aC.of (r.at 1)<|nO r.kH.1 ?_;refine Wb (λj a b h'=>h'=h/\(∃v0,b=[v0])/\a=((m.slots.take j).map λs=>(s.lt c.room).gW)) (by rw[aU,eZ];omega) ⟨rfl,⟨_,rfl⟩,rfl⟩ (λ_ _ _ _ y=>y.1▸r.kH.1) (λj x a b h' d y=>?_)<|λa b h' y=>?_
 .obtain⟨rfl,⟨v0,rfl⟩,rfl⟩:=y;obtain⟨s,hr,rfl⟩:=jR d;have e:m.slots.take (j+1)=m.slots.take j++[s]:=by rw[vO,hr];rfl
  refine Bw<|cF _<|aC.of (r.cJ<|bX hr)<|Nc (r.cJ<|bX hr) ⟨?_,rfl,⟨_,rfl⟩,?_⟩
  .have f:(m.slots.take j).length<=m.slots.length:=by rw[mJ];omega
   rw[aU];omega
  .rw[e,hJ];rfl
 .obtain⟨rfl,⟨v0,rfl⟩,rfl⟩:=y;rw[aU,tJ];exact q _ Kp.refl.new bM<|dA _
theorem aAm{u:AV}{b:Bool}(e:h.ob n=aA (.lst aB [u,v]))(q:Q (if b=aB then v else u) h):WC (Op.g .ix (.ref n)<|.int<|if b=aB then 1 else 0) h Q:=by
 cases b with
 |true=>exact WC.of<|gI (cN e) rfl q|false=>exact WC.of<|gI (cN e) rfl q
theorem Zz(z:m.eB c ≠ .aH):lV (m.eB c)=aG:=by
 unfold Mo.eB at z ⊢;split
 .rfl
 .split
  .rfl
  .rename_i a b;rw[if_neg a,if_neg b]at z;exact absurd rfl z
end
section
variable {g:Gh}
noncomputable abbrev G9:aQ:=bO (bO<|bO<|bO<|bO<|bO<|bO Ur)
theorem G8{calm:Bool}{sd0:Sd}{sz wd:Int}{v10 v11 v12:Option AV}(X:lC c)(hi:i<40)(lo0:(0,bG.lst aG (ns.map AV.int))∈c.lo)(lo1:(nr,bG.lst aB (c.rs.map aN.av))∈c.lo)(sm:0<sd0.mem.length)(rm:c.room=sd0.mem.length)(r:aJ c g m h)(T:TI c i m)
  (qn:∀v10 v11 v12 g m h,aJ c g m h->TI c (i+1:Nat) m->N [aA (.ref 0),aA (.bl calm),aA (.ref nr),aA sd0.av,aA (.int sz),aA (.int wd),aA (.tup<|c.tb.map dQ),aA (.ref gu),aA (.ref c.b),aA (.int<|1+(i:Int)),v10,v11,v12] h)(qb:∀Z h,B Z h) :
  eG (run pg 23) (Yj G9) [aA (.ref 0),aA (.bl calm),aA (.ref nr),aA sd0.av,aA (.int sz),aA (.int wd),aA (.tup<|c.tb.map dQ),aA (.ref gu),aA (.ref c.b),aA (.int<|1+(i:Int)),v10,v11,v12] h N R B N:=by
 refine aC.of r.o0<|yt (k:=21) r ?_;by_cases z:m.eB c = .aH
 rotate_left
 .exact aE.t (b:=!lV (m.eB c)) (by rw[Zz z];rfl)<|qb _ _
 rw[z];refine aC.of r.o0<|N0 (k:=13) X T (by omega) (by omega) r z λss a g1 m1 h1 r1 T1 os sl oa la=>?_;obtain⟨ln,on⟩:=r1.Jo _ lo1;have eT:(i:Int)+1=1+i:=Int.add_comm ..;rw[eT]at T1 os;have oa':h1.ob a=aA (.lst aB<|(ss.map λs=>s.lt c.room).map dS.gW):=by rw[oa,iC];rfl
 have l1:(ss.map λs=>s.lt c.room).length<1000:=by rw[aU];omega
 refine WC.of<|kK (cN on) ?_;rw[aU];refine GB (k:=21) oa' la l1 (λs hs=>?_) λh2 k2=>?_
 .obtain⟨s,h1,rfl⟩:=List.mem_map.mp hs;exact(os s h1).sh
 refine P7 (k:=20) X (k2.get la oa') (k2.get ln on) l1 (λs hs=>?_) ?_
 .obtain⟨s,h1,rfl⟩:=List.mem_map.mp hs;have o:=os s h1;exact⟨o.p0,o.hr,o.of,o.tm X⟩
 have r2:=r1.keep k2;refine aC.of r2.o0<|Zu (k:=21) r2 λh3 k3 o3 l3=>?_;have r3:=r2.keep k3;obtain⟨ln3,on3⟩:=r3.Jo _ lo1;have o3':h3.ob h2.nx=aA (.lst aB<|(m1.slots.map λs=>s.lt c.room).map dS.gW):=by rw[o3,iC];rfl
 have l2:(m1.slots.map λs=>s.lt c.room).length<1000:=by rw[aU];have:=r1.W.sn;omega
 refine WC.of<|kK (cN on3) ?_;rw[aU];refine GB (k:=21) o3' l3 l2 (λs hs=>?_) λh4 k4=>?_
 .obtain⟨s,h1,rfl⟩:=List.mem_map.mp hs;exact T1.I.sh h1
 refine G6 (k:=20) X (k4.get l3 o3') (bC l3 k4.nx) (k4.get ln3 on3) (bC ln3 k4.nx) l2 (λs hs=>?_) T1.I.cn λh5 k5=>?_
 .obtain⟨s,h1,rfl⟩:=List.mem_map.mp hs;have S:=T1.I.sl s h1;exact⟨S.p0,S.hr,S.of,T1.I.tm h1⟩
 have r5:=r3.keep (k4.trans k5);have T5:TI c (i+1:Nat) m1:=by rw[show((i+1:Nat):Int)=1+i by omega];exact T1
 refine aC.of r5.o0<|yt (k:=21) r5 ?_;by_cases z5:m1.eB c = .aH
 rotate_left
 .exact aE.f (b:=lV (m1.eB c)) (Zz z5)<|qn _ _ _ _ _ _ r5 T5
 rw[z5];obtain⟨_,e0⟩:=r5.Jo _ lo0;refine tW (k:=22) (by decide) e0 λc6=>pE (k:=22) (by omega) (by omega) λz6 _ _=>aE.dc (λ_=>?_) λ_=>qn _ _ _ _ _ _ r5 T5;refine tW (k:=22) (by decide) e0 λc5=>pE (k:=22) (by omega) (by omega) λz7 z70 z71=>?_;have ml:m1.sd.mem.length=sd0.mem.length:=by have:=T1.I.rm;omega
 have sm':(0:Int)<sd0.mem.length:=by omega
 have room:=X.rm;refine aC.of r5.o0<|aE.dt (by rw[aU];exact sm') ?_;rw[aU];refine aAz (k:=19) r5 z5 (mF _ (by omega)) (by rw[ml];exact mV _ sm') (by omega) λv g6 h6 r6 n6=>?_;obtain⟨T6,e6⟩:=T5.lK (p:=z7%sd0.mem.length) (w:=z7 / 900%8) ⟨by omega,by omega⟩;refine aC.of r6.o0<|Zu (k:=21) r6 λh7 k7 o7 l7=>?_;rw[e6]at o7;have k8:Kp h7 (h7.new<|.lst aB []):=Kp.refl.new;refine WC.of<|Oq rfl (ya (k8.get l7 o7) bM) ?_;exact qn _ _ _ _ _ _ (r6.keep<|k7.trans k8) T6
theorem aBe:∃ms:Xj,iR (ns.map AV.int) (aA 7) (aA 63)=ms.map AV.int/\ms.length<=56:=by
 refine⟨(ns.drop<|HT.bY ns.length 0<|aA 7).take (HT.bY ns.length ns.length (aA 63)-HT.bY ns.length 0 (aA 7)),?_,?_⟩
 .unfold iR;rw[aU,Qh,Qg]
 .rw[show(aA 7:Hc)=aA ((7:Nat):Int) from rfl,show(aA 63:Hc)=aA ((63:Nat):Int) from rfl,HT.jc,HT.jc,mJ];refine dF (LP _ _) ?_;rcases Qt 7 ns.length with h|h
  .rw[Dr h];exact LR (LP 63 _) 7
  .rw[Qu h];exact dF (LR (LQ 63 _) _) (by rw[LS];exact jZ _)
theorem keeps:Keeps pg 24 56:=by
 have big:sizeLine=16777216:=rX;refine Keeps.of λns hns=>WC.we (aT rfl rfl ?_);have e0:(h0 ns).ob 0=aA (.lst aG<|ns.map AV.int):=rfl;have z0:0<(h0 ns).nx:=LV;generalize h0 ns=h at e0 z0 ⊢;refine tW (k:=22) (by decide) e0 λc0=>?_;obtain⟨ms,em,lm⟩:=aBe (ns:=ns);refine ju<|WC.of<|Cd e0 ?_;rw[em];have k1:Kp h (h.new<|.lst aB<|ms.map AV.int):=Kp.refl.new;refine aBf (k:=19) bM (dA _) (by omega) λh2 nr rs k2 lr Rw rl=>?_;have k2:=k1.trans k2;have e2:=k2.get z0 e0;refine tW (k:=22) (by decide) e2 λc1=>tW (k:=22) (by decide) e2 λc2=>aKi (k:=21) λh3 bx mem k3 bw bl mw m0 ml=>?_;have e3:=(k2.trans k3).get z0 e0;refine tW (k:=22) (by decide) e3 λc3=>aJj (k:=21) λsz wd s1 s2 d1 d2=>?_;refine tW (k:=22) (by decide) e3 λc4=>aMg (k:=21) λh5 tb k5 tok=>?_;have k25:=(k2.trans k3).trans k5;have e5:=k25.get z0 e0;have z5:=bC z0 k25.nx;have orr:=(k3.trans k5).get lr Rw.1;have lr5:=bC lr (k3.trans k5).nx;refine tW (k:=22) (by decide) e5 λc5=>AZ (k:=19) e5 hns λh6 gu Sg k6 Gg Lg=>?_;have e6:=k6.get z5 e5;have z6:=bC z5 k6.nx;refine tW (k:=22) (by decide) e6 λc6=>AZ (k:=19) e6 hns λh7 nv Sn k7 Gn Ln=>?_;have k57:=k6.trans k7;have G:nV ⟨h7.nx,rs,sz,wd,tb,gu,nv,(mem.length:Int),[(0,.lst aG (ns.map AV.int)),(nr,.lst aB (rs.map aN.av))]⟩ 10 Sg Sn h7:=by
  refine⟨Gg.kp (jZ _) λj hj=>k7.ob j (Lg j hj).2,Gn.kp (jZ _) λ_ _=>rfl,λj hj hj'=>lA _ (bC (Lg j hj).2 (Ln j hj').1),λj hj=>bC (Lg j hj).2 k7.nx,λj hj=>(Ln j hj).2,λp hp=>?_⟩;have low:∀{x:Nat}{o:bG},x<h5.nx->h5.ob x=aA o->x∉Sg/\x∉Sn/\x<h7.nx/\h7.ob x=aA o:=λ{x o} hx ho=>⟨λz=>lA _ (bC hx (Lg x z).1),λz=>lA _ (bC (bC hx k6.nx) (Ln x z).1),bC hx k57.nx,k57.get hx ho⟩;rcases List.mem_cons.mp hp with rfl|hp
  .exact low z5 e5
  .rw[List.mem_singleton.mp hp];exact low lr5 orr
 refine L5 (k:=20) (sd:=⟨0,bx,mem⟩) rfl (k57.get lr5 orr) (bC lr5 k57.nx) G λg8 h8 r8 k8=>⟨rfl,?_⟩;have X:lC ⟨h7.nx,rs,sz,wd,tb,gu,nv,(mem.length:Int),[(0,.lst aG (ns.map AV.int)),(nr,.lst aB (rs.map aN.av))]⟩:=⟨Rw.2,tok,s2,d1,d2,by show(mem.length:Int)<=80;omega⟩;have I:=L4 (sd:=⟨0,bx,mem⟩) X (by show 0<=sz;omega) ⟨jX _,bl,bw,mw⟩ rfl;generalize hc:(⟨h7.nx,rs,sz,wd,tb,gu,nv,(mem.length:Int),[(0,.lst aG (ns.map AV.int)),(nr,.lst aB (rs.map aN.av))]⟩:Cf)=c at X I r8;have ecb:h7.nx=c.b:=by rw[<- hc]
 have ers:c.rs=rs:=by rw[<- hc]
 have etb:c.tb=tb:=by rw[<- hc]
 have erm:c.room=mem.length:=by rw[<- hc]
 have elo:c.lo=[(0,.lst aG (ns.map AV.int)),(nr,.lst aB (rs.map aN.av))]:=by rw[<- hc]
 clear hc;rw[ecb];subst ers;subst etb;have lo0:(0,bG.lst aG (ns.map AV.int))∈c.lo:=by rw[elo];exact fV
 have lo1:(nr,bG.lst aB (c.rs.map aN.av))∈c.lo:=by rw[elo];exact jD _ fV
 have T0:TI c (0:Nat) (ia ⟨0,bx,mem⟩):=⟨I,rfl,jX _,jX _,λh=>nomatch h⟩;refine WB.of<|lO<|aPg<|aAm (b:=decide (sz > 12)) bM ?_;obtain⟨j,ej,hj⟩:∃j:Int,(if decide (sz > 12)=aB then AV.int 17 else AV.int 37) = .int j/\1<=j/\j<=37:=by
  split
  .exact⟨17,rfl,by decide,by decide⟩
  .exact⟨37,rfl,by decide,by decide⟩
 rw[ej];refine aC.of rfl ⟨by rw[tq (j:=j) (by omega) (by omega)];rfl,?_⟩;refine Hn (lo:=1) (λi Z h'=>(∃v9 v10 v11 v12,Z=[aA (.ref 0),aA (.bl<|!decide (c0%3=1)),aA (.ref nr),aA (Sd.av ⟨0,bx,mem⟩),aA (.int sz),aA (.int wd),aA (.tup<|c.tb.map dQ),aA (.ref gu),aA (.ref c.b),v9,v10,v11,v12])/\∃g m,aJ c g m h'/\TI c i m) (by rw[eZ];omega) ⟨⟨_,_,_,_,rfl⟩,g8,_,r8.keep Kp.refl.new,T0⟩ (λi Z h' hi y=>?_)<|λZ h' y=>rfl;obtain⟨⟨v9,v10,v11,v12,rfl⟩,g,m,r,T⟩:=y;exact iZ _<|gE _<|G8 (ns:=ns) (sd0:=⟨0,bx,mem⟩) X (by omega) lo0 lo1 m0 erm r T (λv10 v11 v12 g m h r T=>⟨⟨_,_,_,_,rfl⟩,g,m,r,T⟩) λZ h=>rfl
end
def fL:Xk:=[21,102,109,116,123,130,137,145,152,159,166,173,180,187,194,201,208,215,222,229,815,822,829,836,871,878,885,892,899,906,913,920,927,934,941,1037,1044,1051,1058,1065,1072,1079,1086,1093,1098,1103,1110,1117,1122,1129,1136,1143,1150,1157,1164,1171,1178,243,250,257,278,285,292,299,306,327,347,354,361,381,388,395,415,422,429,448,455,474,481,488,508,515,522,541,546,553,558,565,570,591,598,605,610,617,638,643,650,657,664,669,676,683,688,693,698,719,726,733,740,761,768,775,782,789,796,801,850,857,962,969,976,983,988,995,1002,1009,1016,1023]
def cs:YI:=[(6,260),(7,309),(8,330),(9,364),(10,398),(11,432),(12,458),(13,491),(14,525),(15,573),(16,620),(17,701),(18,743),(19,804),(20,860),(21,1026)]
theorem zy{α:Type}{x:Str}{v:α}(h:([]:List (Str×α)).lookup x=aA v):False:=by cases h
theorem zZ{α:Type}{x k:Str}{v u:α}{r:List (Str×α)}(h:((k,u)::r).lookup x=aA v):(x=k/\v=u)\/r.lookup x=aA v:=by
 rw[jB]at h;split at h
 .rename_i q;exact .inl ⟨eq_of_beq q,(dR h).symm⟩
 .exact .inr h
theorem aUm{α:Type}{x:Nat}{v:α}(h:([]:List (Nat×α)).lookup x=aA v):False:=by cases h
theorem aUl{α:Type}{x k:Nat}{v u:α}{r:List (Nat×α)}(h:((k,u)::r).lookup x=aA v):(x=k/\v=u)\/r.lookup x=aA v:=by
 rw[jB]at h;split at h
 .rename_i q;exact .inl ⟨eq_of_beq q,(dR h).symm⟩
 .exact .inr h
theorem Jj{α β:Type} [BEq α] {p:β->Bool}{k:α}{v:β}:∀{l:List (α×β)},l.lookup k=aA v->p v=aB->(l.filter λe=>p e.2).lookup k=aA v
 |[],h,_=>by cases h
 | (a,b)::l,h,hp=>by
  rw[jB]at h;by_cases e:(k==a)=aB
  .rw[e]at h;cases h;rw[KC (p:=λe:α×β=>p e.2) (a:=(a,v)) hp,jB,e]
  .rw[Bool.not_eq_true]at e;rw[e]at h;by_cases hb:p b=aB
   .rw[KC (p:=λe:α×β=>p e.2) (a:=(a,b)) hb,jB,e];exact Jj h hp
   .rw[aRu (p:=λe:α×β=>p e.2) (a:=(a,b)) hb];exact Jj h hp
theorem J5{α:Type}{x:Str×Nat}{v:α}(h:([]:List ((Str×Nat)×α)).lookup x=aA v):False:=by cases h
theorem Jk{α:Type}{x y:Str}{m:Nat}{v u:α}{r:List ((Str×Nat)×α)}(h:(((y,m),u)::r).lookup (x,n)=aA v):(x=y/\n=m/\v=u)\/r.lookup (x,n)=aA v:=by
 rw[jB]at h;split at h
 .rename_i q;have q:=eq_of_beq q;cases q;exact .inl ⟨rfl,rfl,(dR h).symm⟩
 .exact .inr h
theorem all_mk{l:Ri}{w:bV}{K:bI}{h:bH}{mg:Str->Xl}{fa:Addr} (X:K.In h) (G:h.Ns iK mg) (hfa:mg "law"=aA (.ref fa)) {fds:List eW} (D:jF K Gp fL fds) (lb:∀v,bindArgs (fds.getD 56 default) ⟨[v],[]⟩=pure [(("_law_script":Str),v)]) (oN:rp K pr fL=aB) (oF:CF K pr cs=aB) (oM:CH K pr fL cs=aB) (oK:CG K pr fL cs=aB)
  {HF:Tok}{HG:Tok}{aMe:Tok}{aMd:Tok}{Hw:Addr}{aKt aKu aKv aKw aKx aKy aKz aLa aLb aLc t10_WAYS t11_WAYS:Tok}{XB:YM}{O4:Nat}{aKf:YJ}{zS:Addr}{Kq:Obj}{aMf:Tok}
  (Pd:vQ K iK "Guesser"=aA (aA<|.ref 309))(Fh:Binds K (fds.getD 66 default) ["self","first"] [yA aG])(Fg:Binds K (fds.getD 69 default) ["self","many","begin"] [vS 1 HF])(Fi:Binds K (fds.getD 72 default) ["self","many","long"] [vS 4 HG])(Fp:Ed K (.ref 309) "__getattribute__"=aA (aA<|.builtin "type.__getattribute__"))(Fo:Ru K 309 (.type "type")=aB)(Fj:Rm K (.ref 309) (.type "type") "__init__"=aA (.val<|.ref 278))(Oz:vQ K iK "BITS"=aA (aA<|.int 64 aMe))(Oy:vQ K iK "BEYOND"=aA (aA<|.int 18446744073709551616 aMd))(Pc:vQ K iK "WAYS"=aA (aA<|.ref Hw))(Jf:K.lookup Hw=aA ⟨.type "tuple",XB,.seq #[nS "sum" aKt,nS "less" aKu,nS "times" aKv,nS "share" aKw,nS "rest" aKx,nS "both" aKy,nS "some" aKz,nS "odd" aLa,nS "up" aLb,nS "down" aLc,nS "below" t10_WAYS,nS "same" t11_WAYS] O4,aKf⟩)(Pb:vQ K iK "GROUPS"=aA (aA<|.ref zS))(Je:K.lookup zS=aA Kq)(Gy:Dw Qy (λ_=>aA Kq) zS (([("times",1),("share",2),("rest",2),("load",3),("store",3),("jump",4),("go",4),("fault",4)]:Xu).map λp=>(p.1,rV p.2))=aB)(Ky:Dv (λ_=>aA Kq) zS=(([("times",1),("share",2),("rest",2),("load",3),("store",3),("jump",4),("go",4),("fault",4)]:Xu).map λp=>(p.1,rV p.2)).map λp=>(Rz l.prog w).hash p.1)(Pa:vQ K iK "GREATEST_COUNT"=aA (aA<|.int 3 aMf)) :
  ∃fd:eW,(∀(s:aI) (v:Value),jw s fd ⟨[v],[]⟩ [("_law_script",v)])/\∀base:bH,K.In base->base.Ns iK mg->iN l.prog w K mg base (kP l.prog w) (2*24+2) fa fd ["_law_script"] (Nh K):=by
 have e:=hfa.symm.trans (CI X G D oN 56 _ rfl);cases e;have O:Fa l.prog w pr ⟨K,λkvs a=>(kvs=([("times",1),("share",2),("rest",2),("load",3),("store",3),("jump",4),("go",4),("fault",4)]:Xu)/\a=zS)\/False,λi=>cs.lookup i⟩ mg (λi=>fL.getD i 0) (λi=>fds.getD i default):=by
  refine⟨λi d hd=>?_,λi d hd=>?_,λx v hx=>?_,λx hx=>?_,λkvs a ht=>?_,λf cs hx=>?_,λm dp hx c i hi=>?_,λx n c i dv hx=>?_,λy cs hx=>?_,λx m i hx=>?_⟩
  .exact jF.get D i d hd
  .exact CI X G D oN i d hd
  .rcases zZ hx with⟨rfl,rfl⟩|hx
   .exact⟨_,.int 64,vP X G Oz,⟨_,rfl⟩,λ_ _=>.int _⟩
   rcases zZ hx with⟨rfl,rfl⟩|hx
   .exact⟨_,.int 18446744073709551616,vP X G Oy,⟨_,rfl⟩,λ_ _=>.int _⟩
   rcases zZ hx with⟨rfl,rfl⟩|hx
   .exact⟨_,.ref Hw,vP X G Pc,rfl,λ_ _=>.tup (ys:=[.str "sum",.str "less",.str "times",.str "share",.str "rest",.str "both",.str "some",.str "odd",.str "up",.str "down",.str "below",.str "same"]) (.inr ⟨_,_,_,Jf,rfl,rfl,(by decide:12<=sizeLine),(.cons ⟨_,rfl⟩<|.cons ⟨_,rfl⟩<|.cons ⟨_,rfl⟩<|.cons ⟨_,rfl⟩<|.cons ⟨_,rfl⟩<|.cons ⟨_,rfl⟩<|.cons ⟨_,rfl⟩<|.cons ⟨_,rfl⟩<|.cons ⟨_,rfl⟩<|.cons ⟨_,rfl⟩<|.cons ⟨_,rfl⟩<|.cons ⟨_,rfl⟩ .nil)⟩) (.cons (.str _)<|.cons (.str _)<|.cons (.str _)<|.cons (.str _)<|.cons (.str _)<|.cons (.str _)<|.cons (.str _)<|.cons (.str _)<|.cons (.str _)<|.cons (.str _)<|.cons (.str _)<|.cons (.str _) .nil)⟩
   rcases zZ hx with⟨rfl,rfl⟩|hx
   .exact⟨_,.ref zS,vP X G Pb,rfl,λ_ _=>.lI (.inl ⟨rfl,rfl⟩)⟩
   rcases zZ hx with⟨rfl,rfl⟩|hx
   .exact⟨_,.int 3,vP X G Pa,⟨_,rfl⟩,λ_ _=>.int _⟩
   exact(zy hx).elim
  .exact Q1 X G oN x hx
  .rcases ht with⟨rfl,rfl⟩|ht
   .exact AM.G0 Je Gy (by decide +kernel) Ky
   .exact ht.elim
  .exact P8 oF f cs hx
  .exact Q0 D oM m dp hx c i hi
  .refine P9 X G D oK (λx n c i dv hx hv=>?_) x n c i dv hx;have hx:=Jj (p:=λv=>!v.2.2.isEmpty) hx (by cases dv with|nil=>exact absurd rfl hv|cons _ _=>rfl);replace hx:tI (x,n) [(("Paths",1),(11,72,[.int 4])),(("Last",0),(9,66,[.bl aG])),(("Counts",1),(10,69,[.int 1]))]=aA (c,i,dv):=hx
   rcases Jk hx with⟨rfl,rfl,e⟩|hx
   .cases e;exact⟨_,[vS 4 HG],[.int 4],rfl,Fi,(.cons ⟨_,rfl⟩ .nil),λ_ _=>(.cons (.int _) .nil)⟩
   rcases Jk hx with⟨rfl,rfl,e⟩|hx
   .cases e;exact⟨_,[yA aG],[.bl aG],rfl,Fh,(.cons rfl .nil),λ_ _=>(.cons (.bl _) .nil)⟩
   rcases Jk hx with⟨rfl,rfl,e⟩|hx
   .cases e;exact⟨_,[vS 1 HF],[.int 1],rfl,Fg,(.cons ⟨_,rfl⟩ .nil),λ_ _=>(.cons (.int _) .nil)⟩
   exact(J5 hx).elim
  .exact(zy hx).elim
  .obtain⟨r,h1,h2⟩:=Option.bind_eq_some_iff.mp hx;clear hx;rcases zZ h1 with⟨rfl,rfl⟩|h1
   .rcases zZ h2 with⟨rfl,rfl⟩|h2
    .exact⟨_,309,rfl,vP X G Pd,(jF.get (f0:=default) D 60 _ rfl).fn.kp,Fp,Fo,Fj,rfl⟩
    exact(zy h2).elim
   exact(zy h1).elim
 have hk:Keeps pr.ir 24 56:=by rw[D5];exact keeps
 exact⟨_,λs v=>.of_eq (lb v),λbase _ _=>I0 (T:=⟨K,λkvs a=>(kvs=([("times",1),("share",2),("rest",2),("load",3),("store",3),("jump",4),("go",4),("fault",4)]:Xu)/\a=zS)\/False,λi=>cs.lookup i⟩) O (i:=56) rfl hk⟩
end AMx
open PySem PySem.W PyProof.Rows
theorem PySem.Challenge.cw_aheadmill_k38_work_lasts_holds : PySem.Challenge.rw_aheadmill_k38_work_lasts.Holds := by
 refine PySem.W.Fast.te0 ?_;k_fill
 refine AM.walk (k:=2*24+2) (x:="_law_script") (l:=MF) rfl rfl ⟨rfl,by decide,by decide⟩ (λw h Y=>W.kIn_of Y) ?F
 case F=>
  intro w mg fa h KX G hmg;refine' AMx.all_mk KX G hmg ?D ?lb ?oN ?oF ?oM ?oK ?Pd ?Fh ?Fg ?Fi ?Fp ?Fo ?Fj ?Oz ?Oy ?Pc ?Jf ?Pb ?Je ?Gy ?Ky ?Pa
  case D=>
   unfold AMx.Gp AMx.fL;repeat' first
    |exact AM.jF.nil
    | (apply AM.jF.one (dV:=.none);(case l=>k_is);(case c=>k_is);(case k=>k_is);(case b=>first|exact L2.Binds.all λus hl=>by obtain⟨v0,rfl⟩:=AM.Ob hl;rfl|exact L2.Binds.all λus hl=>by obtain⟨v0,v1,rfl⟩:=AM.jk hl;rfl|exact L2.Binds.all λus hl=>by obtain⟨v0,v1,v2,rfl⟩:=AM.Oc hl;rfl|exact L2.Binds.all λus hl=>by obtain⟨v0,v1,v2,v3,rfl⟩:=AM.Od hl;rfl|exact L2.Binds.all λus hl=>by obtain⟨v0,v1,v2,v3,v4,rfl⟩:=AM.HS hl;rfl|exact L2.Binds.all λus hl=>by obtain⟨v0,v1,v2,v3,v4,v5,rfl⟩:=AM.HU hl;rfl);(case s=>exact⟨by kernel_rfl,by kernel_rfl,by kernel_rfl,by decide +kernel,by kernel_rfl,by decide +kernel,by decide +kernel⟩))
    | (apply AM.jF.one;(case l=>k_is);(case c=>k_is);(case k=>k_is);(case b=>apply AM.xb rfl;(case l=>k_is);(case hs=>rfl);(case h=>first|exact λus hl=>by rw[rS]at hl ⊢;obtain⟨v0,v1,rfl⟩:=AM.jk hl;exact⟨_,rfl,rfl⟩|exact λus hl=>by rw[rS]at hl ⊢;obtain⟨v0,v1,v2,rfl⟩:=AM.Oc hl;exact⟨_,rfl,rfl⟩|exact λus hl=>by rw[rS]at hl ⊢;obtain⟨v0,v1,v2,v3,rfl⟩:=AM.Od hl;exact⟨_,rfl,rfl⟩|exact λus hl=>by rw[rS]at hl ⊢;obtain⟨v0,v1,v2,v3,v4,v5,v6,v7,rfl⟩:=AM.HV hl;exact⟨_,rfl,rfl⟩));(case s=>exact⟨by kernel_rfl,by kernel_rfl,by kernel_rfl,by decide +kernel,by kernel_rfl,by decide +kernel,by decide +kernel⟩))
  (case lb=>exact λv=>rfl)
  (case Fh=>apply AM.xb rfl;(case l=>k_is);(case hs=>rfl);(case h=>exact λus hl=>by have hl:us.length=1:=(by simpa using hl);obtain⟨v0,rfl⟩:=AM.Ob hl;exact⟨_,rfl,rfl⟩))
  (case Fg=>apply AM.xb rfl;(case l=>k_is);(case hs=>rfl);(case h=>exact λus hl=>by have hl:us.length=2:=(by simpa using hl);obtain⟨v0,v1,rfl⟩:=AM.jk hl;exact⟨_,rfl,rfl⟩))
  (case Fi=>apply AM.xb rfl;(case l=>k_is);(case hs=>rfl);(case h=>exact λus hl=>by have hl:us.length=2:=(by simpa using hl);obtain⟨v0,v1,rfl⟩:=AM.jk hl;exact⟨_,rfl,rfl⟩))
  (case Pd|Fp|Fo|Fj|Oz|Oy|Pc|Jf|Pb|Je=>k_is)
  (case Gy|Ky=>rfl)
  (case Pa=>k_is)
  (all_goals kernel_rfl)
