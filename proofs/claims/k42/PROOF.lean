import PyProof.Rows.All
import OpenK.KLine
import Wide.FinOn
import KE.KTops
import KE.KItem
import KE.KIsAll
import KE.KDictSum
import KE.KBits
import KE.KPairTest
import PySem.Challenge.RW_aheadmill_k42_names_told
set_option Elab.async false
set_option linter.all false
set_option maxRecDepth 100000
set_option exponentiation.threshold 2000
set_option maxHeartbeats 0
set_option compiler.extract_closed false
set_option bootstrap.genMatcherCode false
set_option genSizeOf false
local macro_rules | `(tactic| omega)=>`(tactic| lia)
section
set_option hygiene false
local macro_rules | `(command| $d:definition) => `(command| noncomputable $d:definition)
open PySem PySem.W PyProof.Rows
namespace PySem.W.Fast
abbrev _root_.Hq:=Option Int
abbrev _root_.Hs:=List Value
abbrev _root_.Ht:=List Int
abbrev _root_.Hu:=List (Addr×Obj)
abbrev _root_.Xx:=List Addr
abbrev _root_.Xy:=Option Value
abbrev _root_.Xz:=List Stmt
abbrev _root_.Ya:=List Obj
abbrev _root_.Yb:=List Str
abbrev _root_.Yd:=Array Value
abbrev _root_.Ye:=List (Nat×Nat)
abbrev _root_.Yg:=Option Nat
abbrev _root_.Yh:=List Nat
abbrev _root_.Yi:=List (Option Int)
abbrev _root_.Yj:=List (Option Nat)
abbrev _root_.Yk:=List (Str×Int)
abbrev _root_.Ym:=List (Str×Value)
abbrev _root_.Yo:=List (Str×Addr)
abbrev _root_.Yp:=Option (Option Value)
abbrev _root_.Yq:=List (Int×Int)
abbrev _root_.Ys:=List Env
abbrev _root_.Yt:=List (Nat×Addr)
abbrev _root_.ZC:=Array (Option Value)
abbrev _root_.ZD:=List (Nat×Bool)
abbrev _root_.ZE:=List Bool
abbrev _root_.ZF:=Option Addr
local macro_rules|`(!$x:ident)=>`($x=$x)|`(-$x:ident)=>`(λP=>Subtype.val (p:=λt=>t=qB 12 ($x P)) ⟨_,by dsimp only[Be,ua,iw,aq,xK,uT,tB,rL,oZ,oC,nI,mM,lY,lI,kW,kD,jV,jM,iS,iC,hJ,gU,gK,gF,fV,fQ,fM,fA,eI,qH,qh,bO,dN,eB,eK,eL,eQ,List.set,List.cons_append,List.nil_append,qB,qe,qg]⟩)|`(!($n:num,$a,*))=>do let r←(a.getElems.zipIdx n.getNat).mapM λ(x,i)=>`(.str $x $(Lean.quote i));`(#[$r,*])
def Ls:Xz->Nat->Stmt|a::_,0=>a|_::l,n+1=>Ls l n | [],_=>.Pass (.mk 0 0 0 0)
def Bf:Stmt->Xz | .FunctionDef _ _ b _ _ _ _ _ _ _=>b | .ClassDef _ _ _ b _ _ _ _ _ _ _=>b|_=>[]
def xN:Stmt->Arguments | .FunctionDef _ p _ _ _ _ _ _ _ _=>p|_=>default
def Bh:Stmt->Scope | .FunctionDef _ _ _ _ _ _ s _ _ _=>s | .ClassDef _ _ _ _ _ _ s _ _ _ _=>s|_=>default
def qb(s:String)(x:Data):Obj:=⟨.type s,.none,x,#[]⟩
def qd(P:Params)(n:Str)(i:Nat)(v:Value):DictEntry:=⟨PySem.PyData.keyHash P n,.str n i,v⟩
def qr(P:Params)(n:Str)(i v:Nat):DictEntry:=qd P n i (.ref v)
def qS(n:Nat):Stmt:=Ls PySem.Challenge.pw_aheadmill_k42_names_told.main.body n
def qe:Ya->Ya|x::_::l=>x::qe l|l=>l
def qg:Ya->Ya|_::y::l=>y::qg l|_=>[]
def qB:Nat->Ya->BT|0,_=>.nil|_+1,[]=>.nil|n+1,x::l=>.node x (qB n<|qe l) (qB n<|qg l)
def bU:String:=SL.s2766695959194262286x5
def Nf:String:=SL.s5856160107412720595x4
def qz2:String:=SL.s658472552662922059x5
def fX:String:=SL.s14018661285674007319x4
def qz4:String:=SL.s7097527257260152453x26
def FJ:String:=SL.s7174869446012820540x8
def nK:String:=SL.s6070975301684473832x10
def FK:String:=SL.s11030030927630378310x26
def qz8:String:=SL.s10062305145149207511x16
def lJ:String:=SL.s17162191345867700912x4
def az:String:=SL.s5946037652744460706x9
def ba:String:=SL.s4278001404047624695x13
def hU:String:=SL.s2742458400755230247x6
def bc:String:=SL.s4209523147560561109x18
def FI:String:=SL.s14755015743595814543x17
def aJd:String:=SL.s10220274742760427390x26
def aJe:String:=SL.s4290257624100764138x5
def aJf:String:=SL.s4860613602091757760x24
def vA:String:=SL.s11443829558043349243x14
def aJg:String:=SL.s6511155373996960695x17
def aJh:String:=SL.s12411053484034534018x21
def qn0:Str:="<module>"
def au:Str:="/claim/cut.py"
def ES:Str:="__main__"
def fW:Str:="__name__"
def nJ:Str:="aheadmill.errors"
def mN:Str:="__doc__"
def qn6:Str:="__package__"
def qn7:Str:="__loader__"
def qn8:Str:="__spec__"
def qn9:Str:="__annotations__"
def aFk:Str:="__builtins__"
def aFm:Str:="__file__"
def aFo:Str:="__cached__"
def gL:Str:="MillError"
def gM:Str:="__module__"
def pA:Str:="__qualname__"
def gN:Str:="__firstlineno__"
def gO:Str:="__static_attributes__"
def rM:Str:="__weakref__"
def Mr:Str:="Nought"
def Ms:Str:="NoPlace"
def Mu:Str:="NoTicket"
def Mv:Str:="Busy"
def aw:Str:="aheadmill.words"
def Mx:Str:="Halted"
def aGx:Str:="BITS"
def aGz:Str:="BEYOND"
def aHa:Str:="WAYS"
def aHb:Str:="sum"
def aHc:Str:="less"
def EU:Str:="times"
def EV:Str:="share"
def EW:Str:="rest"
def aHd:Str:="both"
def aHe:Str:="some"
def aHf:Str:="odd"
def aHg:Str:="up"
def aHh:Str:="down"
def aHi:Str:="below"
def aHj:Str:="same"
def EX:Str:="one"
def aHk:Str:="other"
def uX:Str:="aheadmill.rows"
def aHl:Str:="GROUPS"
def aHm:Str:="load"
def aHn:Str:="store"
def aHo:Str:="jump"
def aHp:Str:="go"
def aHq:Str:="fault"
def aHr:Str:="row"
def aHs:Str:="words"
def aHt:Str:="at"
def cQ:Str:="aheadmill.guessers"
def aHu:Str:="GREATEST_COUNT"
def aHv:Str:="held"
def aHw:Str:="window"
def aHx:Str:="ledger"
def aHy:Str:="put"
def ub:Str:="aheadmill.fetching"
def aHz:Str:="guesser"
def Mz:Str:="Tally"
def uc:Str:="__init__"
def aIa:Str:="likely"
def aIb:Str:="move"
def aFl:Str:="levels"
def tD:Str:="__dict__"
def fB:Str:="Guesser"
def iy:Str:="guess"
def iz:Str:="heed"
def aFn:Str:="learned"
def Md:Str:="Always"
def Me:Str:="Last"
def aFp:Str:="first"
def aFq:Str:="lately"
def Mf:Str:="Counts"
def Mg:Str:="tally"
def Mh:Str:="Paths"
def aFr:Str:="length"
def aFs:Str:="trail"
def Mi:Str:="Listed"
def aFt:Str:="truths"
def Mj:Str:="Turned"
def tE:Str:="aheadmill.benches"
def Ml:Str:="Chosen"
def uW:Str:="aheadmill.names"
def Mm:Str:="Benches"
def aFu:Str:="table"
def aFv:Str:="ticket"
def aFw:Str:="working"
def lZ:Str:="aheadmill.shelf"
def Mn:Str:="Names"
def aFx:Str:="tickets"
def aFy:Str:="thrown"
def aFz:Str:="filled"
def Mp:Str:="Shelf"
def aGa:Str:="begun"
def aGb:Str:="kept"
def kE:Str:="aheadmill.slots"
def Mq:Str:="Slot"
def ET:Str:="names"
def aGc:Str:="chosen"
def aGd:Str:="dares"
def aGe:Str:="deed"
def aGf:Str:="finished"
def aGg:Str:="off"
def aGh:Str:="source"
def aGi:Str:="started"
def Mt:Str:="Window"
def aGj:Str:="program"
def aGk:Str:="size"
def aGl:Str:="wide"
def aGm:Str:="ahead"
def aGn:Str:="benches"
def aGo:Str:="now"
def aGp:Str:="shelf"
def aGq:Str:="slots"
def pB:Str:="aheadmill.taking"
def Bg:Str:="aheadmill.plain"
def Mw:Str:="Ledger"
def aGr:Str:="nerve"
def aGs:Str:="broken"
def aGt:Str:="gone"
def aGu:Str:="slips"
def aGv:Str:="state"
def aGw:Str:="storers"
def mB:Str:="aheadmill.mill"
def aGy:Str:="TABLE"
def ja:Str:="aheadmill.working"
def My:Str:="Mill"
def iU:Str:="law_aheadmill_k42_names_told"
variable (P:Params)
def tw18134464744952530324:Program:={ PySem.Challenge.rw_aheadmill_k42_names_told.row.toRowW.1 with main:={ PySem.Challenge.rw_aheadmill_k42_names_told.row.toRowW.1.main with body:=[(qS 0),(qS 2),(qS 3),(qS 4),(qS 5),(qS 6),(qS 7),(qS 9),(qS 10),(qS 11),(qS 12),(qS 13),(qS 14),(qS 15),(qS 16),(qS 17),(qS 19),(qS 20),(qS 21),(qS 22),(qS 23),(qS 24),(qS 25),(qS 26),(qS 27),(qS 29),(qS 30),(qS 31),(qS 32),(qS 33),(qS 35),(qS 36),(qS 37),(qS 38),(qS 39),(qS 40),(qS 41),(qS 42),(qS 43),(qS 44),(qS 46),(qS 48),(qS 50),(qS 52),(qS 53),(qS 55),(qS 56),(qS 57),(qS 58),(qS 60),(qS 61),(qS 62),(qS 63),(qS 64),(qS 65),(qS 67),(qS 68),(qS 69),(qS 70),(qS 71),(qS 72),(qS 74),(qS 75),(qS 76),(qS 78),(qS 79),(qS 80),(qS 81),(qS 82),(qS 83),(qS 84),(qS 85),(qS 86),(qS 87),(qS 88),(qS 89),(qS 90),(qS 91),(qS 92),(qS 93),(qS 94),(qS 95),(qS 96),(qS 97)] } }
theorem te18134464744952530324:!tw18134464744952530324:=rfl
def tw11881303599141558809:Params->Frag:=λ_=>[]
theorem te11881303599141558809:!tw11881303599141558809:=rfl
def tF:Stmt->Str | .FunctionDef n _ _ _ _ _ _ _ _ _=>n | .ClassDef n _ _ _ _ _ _ _ _ _ _=>n|_=>default
def jb:Stmt->Pos | .FunctionDef _ _ _ _ _ _ _ _ _ p=>p|_=>.mk 0 0 0 0
def ax(s:Stmt):Yb:=((Bh s).names.filter λx=>x.2 == .local||x.2 == .cell).map λx=>x.1
def FE:Yb->Nat->Hs | [],_=>[] | x::l,n=>.str x n::FE l (n+1)
def Nc(s:Stmt)(i:Nat):Obj:=qb bU (.seq (FE (ax s) i).toArray 0)
def iT(c j:Nat):Stmt:=Ls (Bf<|qS c) j
def Na(c j:Nat):Str:=tF (qS c) ++ .ofString "."++tF (iT c j)
def qR(P:Params)(s i v:Nat):DictEntry:=qr P (tF<|qS s) i v
def qQ(P:Params)(c j i v:Nat):DictEntry:=qr P (tF<|iT c j) i v
def qW(a b c:List DictEntry):Array DictEntry:=(a++b++c).toArray
def qV(P:Params)(c:Nat):Nat->Ye->List DictEntry|_,[]=>[] | j,(i,a)::l=>qQ P c j i a::qV P c (j+1) l
def qY(c:Nat):Nat->Ye->Ye|_,[]=>[] | j,(_,a)::l=>((jb<|iT c j).line,a-1)::qY c (j+1) l
def Lu:Ye:=[(579,278),(587,285),(596,292),(605,299),(612,306)]
def Lv:Ye:=[(924,541),(930,546),(941,553),(947,558),(954,565),(960,570)]
def Lw:Ye:=[(991,591),(1002,598),(1011,605),(1017,610),(1028,617)]
def Lx:Ye:=[(1058,638),(1064,643),(1074,650),(1086,657),(1096,664),(1102,669),(1112,676),(1120,683),(1126,688),(1132,693),(1138,698)]
def Ly:Ye:=[(1174,719),(1181,726),(1188,733),(1196,740)]
def Lz:Ye:=[(1242,761),(1249,768),(1258,775),(1267,782),(1277,789),(1286,796),(1292,801)]
def Ma:Ye:=[(1547,962),(1556,969),(1564,976),(1571,983),(1577,988),(1584,995),(1591,1002),(1598,1009),(1605,1016),(1615,1023)]
def qE(P:Params):List DictEntry:=[(qd P mN 166 .none),(qd P qn6 167 .none),(qd P qn7 168<|.builtin qz4),(qd P qn8 169 .none),(qr P qn9 170 6),(qr P aFk 171 4),(qd P aFm 173<|.str au 172),(qd P aFo 174 .none),(qR P 0 193 21),(qR P 2 213 31),(qR P 3 229 44),(qR P 4 245 56),(qR P 5 261 68),(qR P 6 277 80),(qR P 7 293 92),(qd P aGx 297<|.int 64 296),(qd P aGz 299<|.int 18446744073709551616 298),(qr P aHa 312 95),(qR P 12 319 102),(qR P 13 327 109),(qR P 14 334 116),(qR P 15 342 123),(qR P 16 350 130),(qR P 17 359 137),(qr P aHl 386 138),(qR P 20 394 145),(qR P 21 402 152),(qR P 22 409 159),(qR P 23 417 166),(qR P 24 426 173),(qR P 25 437 180),(qR P 26 447 187),(qR P 27 459 194),(qR P 29 470 201),(qR P 30 479 208),(qR P 31 491 215),(qR P 32 499 222),(qR P 33 507 229),(qd P aHu 511<|.int 3 510),(qR P 36 560 260),(qR P 37 621 309),(qR P 38 645 330),(qR P 39 688 364),(qR P 40 732 398),(qR P 41 779 432),(qR P 42 812 458),(qR P 43 854 491),(qR P 44 902 525),(qR P 46 970 573),(qR P 48 1037 620),(qR P 50 1148 701),(qR P 52 1218 743),(qR P 53 1311 804),(qR P 55 1321 815),(qR P 56 1330 822),(qR P 57 1342 829),(qR P 58 1351 836),(qR P 60 1399 860),(qR P 61 1409 871),(qR P 62 1418 878),(qR P 63 1427 885),(qR P 64 1435 892),(qR P 65 1443 899),(qR P 67 1455 906),(qR P 68 1464 913),(qR P 69 1476 920),(qR P 70 1485 927),(qR P 71 1495 934),(qR P 72 1506 941),(qr P aGy 1519 947),(qR P 75 1625 1026),(qR P 76 1632 1037),(qR P 78 1642 1044),(qR P 79 1650 1051),(qR P 80 1659 1058),(qR P 81 1673 1065),(qR P 82 1686 1072),(qR P 83 1703 1079),(qR P 84 1717 1086),(qR P 85 1726 1093),(qR P 86 1732 1098),(qR P 87 1738 1103),(qR P 88 1746 1110),(qR P 89 1756 1117),(qR P 90 1767 1124),(qR P 91 1773 1129),(qR P 92 1783 1136),(qR P 93 1790 1143),(qR P 94 1796 1148),(qR P 95 1812 1155),(qR P 96 1822 1162),(qR P 97 1843 1169)]
def qM(P:Params)(e:DictEntry)(n m:Nat):Obj:=qb fX (.dict (e::(qE P).take n).toArray m)
def qJ:Ye->Hs | []=>[] | (a,b)::l=>.int a 0 :: .int 0 0 :: .ref b::qJ l
def qK:Hs:=qJ [(1,20),(5,27),(7,40),(9,52),(11,64),(13,76),(15,88),(21,101),(23,108),(27,115),(29,122),(31,129),(33,136),(59,144),(70,151),(75,158),(77,165),(83,172),(89,179),(99,186),(110,193),(116,200),(121,207),(128,214),(133,221),(137,228),(143,235),(155,270),(172,319),(176,338),(188,372),(199,406),(214,440),(224,466),(235,499),(255,533),(289,583),(317,630),(388,711),(415,753),(471,814),(473,821),(475,828),(487,835),(492,842),(506,870),(513,877),(524,884),(530,891),(535,898),(538,905),(543,912),(551,919),(559,926),(563,933),(568,940),(585,953),(636,1036),(639,1043),(643,1050),(645,1057),(653,1064),(666,1071),(675,1078),(690,1085),(708,1092),(717,1097),(724,1102),(733,1109),(744,1116),(764,1123),(773,1128),(792,1135),(801,1142),(805,1147),(812,1154),(828,1161),(835,1168)]
def qI(n:Nat):Obj:=.mk .none .none (.fields (qK.take n).toArray) #[]
def Nd(a0:Str)(a1:Str)(a2:Stmt)(a3:Stmt):Obj:=(.mk .none .none (.func<|.mk a0 a1 (xN a2) (.stmts<|Bf a2) (Bh a3) 0 [] .none .none .none .none .none .none .none 0) #[])
def FF(a0:Str)(a1:Str)(a2:Stmt)(a3:Stmt)(a4:Str)(a5:Nat)(a6:Nat):Obj:=qb FJ (.func<|.mk a0 a1 (xN a2) (.stmts<|Bf a2) (Bh a3) 3 [] .none .none .none (.str a4 a5) .none (.ref a6) .none 0)
def FG(a0:Str)(a1:Nat)(a2:Str)(a3:Int)(a4:Int)(a5:Nat)(a6:Int)(a7:Nat):Obj:=qb Nf (.fields #[(.str a0 a1),(.str a2<|a1+1),(.str au<|a1+2),(.int a3 0),(.int a4 0),(.int 0 0),(.int 0 0),(.int 3 0),(.ref a5),(.bool .true),(.int 181 0),(.ref<|a5+1),.none,(.ref<|a5+2),(.ref<|a5+3),(.ref<|a5+4),(.int a6 0),(.int a3 0),(.str au a7)])
def Bj(a0:Str)(a1:Nat)(a2:Str):Obj:=qb bU (.seq #[(.str a0 a1),(.str a2<|a1+1)] 0)
def FH(a0:Str)(a1:Nat)(a2:Str)(a3:Str):Obj:=qb bU (.seq #[(.str a0 a1),(.str a2<|a1+1),(.str a3<|a1+2)] 0)
def iD(a0:Str)(a1:Nat)(a2:Int)(a3:Nat)(a4:Int):Obj:=qb Nf (.fields #[(.str a0 a1),(.str a0<|a1+1),(.str au<|a1+2),(.int a2 0),(.int 0 0),(.int 0 0),(.int 0 0),(.int 0 0),(.ref a3),(.bool .false),(.int 181 0),(.ref<|a3+1),.none,.none,.none,.none,(.int a4 0),(.int a2 0),(.str au<|a1+4)])
def iE(a0:Nat)(a1:Nat)(a2:Str)(a3:Nat):Obj:=(.mk (.type qz2) .none .plain #[(.some<|.ref a0),(.some<|.ref 3),(.some<|.ref a1),.none,(.some<|.str a2 a3),.none,(.some<|.ref 0)])
def iW:Obj:=qb FK (.fields #[(.builtin qz8),(.type lJ)])
def iX(a0:Nat):Obj:=qb aJe (.fields #[(.ref a0),(.ref a0),(.ref a0)])
def iY(a0:Nat):Obj:=qb FK (.fields #[(.builtin aJf),(.ref a0)])
def aJb(a0:Str)(a1:Nat)(a2:Str)(a3:Int)(a4:Int)(a5:Nat)(a6:Int):Obj:=qb Nf (.fields #[(.str a0 a1),(.str a2<|a1+1),(.str au<|a1+2),(.int a3 0),(.int a4 0),(.int 0 0),(.int 0 0),(.int 3 0),(.ref a5),(.bool .true),(.int 181 0),(.ref<|a5+1),.none,.none,.none,(.ref<|a5+2),(.int a6 0),(.int a3 0),(.str au<|a1+4)])
def tG(a0:Nat)(a1:Nat):Obj:=qb FI (.fields #[(.str rM a0),(.ref a1),(.builtin aJd),.none])
def uY(a0:Str)(a1:Nat)(a2:Nat)(a3:Nat):Obj:=(.mk (.type lJ) .none (.cls<|.mk a0 [(.type hU)] [(.ref a1),(.type hU)] a2 a0 .true [] [] .false .none .false) #[.none,.none,(.some<|.str a0 a3),(.some<|.str a0<|a3+8),(.some<|.builtin vA),(.some<|.bool .true)])
def uZ(a0:Nat)(a1:Nat):Obj:=qb FI (.fields #[(.str tD a0),(.ref a1),(.builtin aJg),(.builtin aJh)])
def ay(a0:Str)(a1:Nat)(a2:Nat)(a3:Nat)(a4:Nat):Obj:=(.mk (.type lJ) .none (.cls<|.mk a0 [(.ref 309)] [(.ref a1),(.ref 309),(.type hU)] a2 a0 .true [] [] .false .none .false) #[(.some<|.ref a3),.none,(.some<|.str a0 a4),(.some<|.str a0<|a4+8),(.some<|.builtin vA),(.some<|.bool .true)])
def jc(P:Params)(a0:Nat)(a1:Str)(a2:Int)(a3:Nat):Obj:=qb fX (.dict #[(qd P gM a0<|.str nJ 194),(qd P pA (a0+2)<|.str a1<|a0+1),(qd P gN (a0+4)<|.int a2<|a0+3),(qd P gO (a0+5)<|.ref a3)] 4)
def jd(P:Params)(a0:Nat)(a1:Str)(a2:Int)(a3:Nat)(a4:Nat)(a5:Str)(a6:Str)(a7:Nat)(a8:Nat):Obj:=qb fX (.dict #[(qd P gM a0<|.str cQ 508),(qd P pA (a0+2)<|.str a1<|a0+1),(qd P gN (a0+4)<|.int a2<|a0+3),(qd P uc a3<|.ref a4),(qd P a5 (a3+8)<|.ref<|a4+7),(qd P a6 a7<|.ref<|a4+14),(qd P gO a8<|.ref<|a4+15)] 7)
def je(a0:Int)(a1:Nat)(a2:Int)(a3:Int):Obj:=(.mk .none .none (.fields #[(.int a0 0),(.int 4 0),(.ref a1),(.int a2 0),(.int 4 0),(.ref<|a1+7),(.int a3 0),(.int 4 0),(.ref<|a1+14)]) #[])
def ud(P:Params)(a0:Nat)(a1:Int)(a2:Nat):Obj:=qb fX (.dict #[(qd P gM a0<|.str nJ 194),(qd P gN (a0+4)<|.int a1<|a0+3),(qd P gO (a0+5)<|.ref a2),(qd P mN (a0+6) .none)] 2)
def ue(a0:Str)(a1:Nat)(a2:Nat)(a3:Nat)(a4:Nat):Obj:=(.mk (.type lJ) .none (.cls<|.mk a0 [(.ref 31)] [(.ref a1),(.ref 31),(.type nK),(.type az),(.type ba),(.type hU)] a2 a0 .true [] [] .false .none .false) #[(.some<|.ref a3),.none,(.some<|.str a0 a4),(.some<|.str a0<|a4+8),(.some<|.builtin bc),(.some<|.bool .true)])
def aJc(a0:Str)(a1:Stmt)(a2:Nat)(a3:Str)(a4:Nat):Obj:=qb FJ (.func<|.mk uc a0 (xN a1) (.stmts<|Bf a1) (Bh a1) 3 [] (.ref a2) .none .none (.str a3 a4) .none (.ref<|a2+6) .none 0)
def uf(P:Params)(a0:Nat)(a1:Int)(a2:Nat)(a3:Nat)(a4:Nat)(a5:Nat):Obj:=qb fX (.dict #[(qd P gM a0<|.str cQ 508),(qd P gN (a0+4)<|.int a1<|a0+3),(qd P uc a2<|.ref a3),(qd P iy (a2+8)<|.ref<|a3+7),(qd P iz a4<|.ref<|a3+14),(qd P gO a5<|.ref<|a3+15),(qd P mN (a5+1) .none)] 2)
def ug(a0:Int)(a1:Nat)(a2:Int):Obj:=qb bU (.seq #[(.int a0 a1),(.int a2<|a1+1)] 0)
def qU:Ye->Hs | []=>[] | (a,b)::l=>.int a 0 :: .int 4 0 :: .ref b::qU l
def qT(l:Ye):Obj:=.mk .none .none (.fields (qU l).toArray) #[]
def eK(a0:Obj)(a1:Str)(a2:Str)(a3:Stmt)(a4:Stmt)(a5:Nat)(a6:Int)(a7:Int)(a8:Nat)(a9:Int)(a10:Nat)(a11:Str)(a12:Nat):Ya:=[qb bU (.seq #[] 0),(.mk .none .none (.fields #[]) #[]),a0,qb bU (.seq #[] 0),Nd a1 a2 a3 a4,FG a1 a5 a2 a6 a7 a8 a9 a10,FF a1 a2 a3 a4 a11 a12 (a8+5)]
def eL(a0:Str)(a1:Str)(a2:Stmt)(a3:Stmt)(a4:Nat)(a5:Int)(a6:Int)(a7:Nat)(a8:Int)(a9:Str)(a10:Nat):Ya:=[qb bU (.seq #[] 0),(.mk .none .none (.fields #[]) #[]),Nd a0 a1 a2 a3,aJb a0 a4 a1 a5 a6 a7 a8,FF a0 a1 a2 a3 a9 a10 (a7+3)]
def eQ(a0:Obj)(a1:Str)(a2:Stmt)(a3:Nat)(a4:Int)(a5:Int)(a6:Nat)(a7:Int)(a8:Nat)(a9:Str)(a10:Nat):Ya:=[qb bU (.seq #[] 0),(.mk .none .none (.fields #[]) #[]),a0,qb bU (.seq #[] 0),Nd uc a1 a2 a2,FG uc a3 a1 a4 a5 a6 a7 a8,aJc a1 a2 (a6-1) a9 a10]
def qH(s i a:Nat)(m:Str)(k:Nat):Ya:=eK (Nc (qS s)<|i+3) (tF<|qS s) (tF<|qS s) (qS s) (qS s) i (jb<|qS s).line (xN<|qS s).args.length a (i+3+(ax<|qS s).length:Nat) (i+4+(ax<|qS s).length) m k
def qh(s i a:Nat)(m:Str)(k:Nat):Ya:=eL (tF<|qS s) (tF<|qS s) (qS s) (qS s) i (jb<|qS s).line (xN<|qS s).args.length a (i+3:Nat) m k
def bO(c j i a:Nat)(m:Str)(k:Nat):Ya:=eK (Nc (iT c j)<|i+3) (tF<|iT c j) (Na c j) (iT c j) (iT c j) i (jb<|iT c j).line (xN<|iT c j).args.length a (i+3+(ax<|iT c j).length:Nat) (i+4+(ax<|iT c j).length) m k
def dN(c j i a:Nat)(m:Str)(k:Nat):Ya:=eL (tF<|iT c j) (Na c j) (iT c j) (iT c j) i (jb<|iT c j).line (xN<|iT c j).args.length a (i+3:Nat) m k
def eB(c j i a:Nat)(m:Str)(k:Nat):Ya:=eQ (Nc (iT c j)<|i+3) (Na c j) (iT c j) i (jb<|iT c j).line (xN<|iT c j).args.length a (i+3+(ax<|iT c j).length:Nat) (i+4+(ax<|iT c j).length) m k
def eI(P:Params):Ya:=[boot_o_0 P,boot_o_1 P,boot_o_2 P,boot_o_3 P,boot_o_4 P,boot_o_5 P,boot_o_6 P,boot_o_7 P,boot_o_8 P,boot_o_9 P,boot_o_10 P,qb bU (.seq #[] 0),qI 0,iD qn0 182 1 11 185,iE 13 3 ES 164]
def fA(P:Params):Ya:=((eI P).set 3 (qM P (qd P fW 165<|.str nJ 194) 10 11)).set 12 (qI 6)++(qH 0 187 15 ES 164++([qb bU (.seq #[(.type nK)] 0),iW,jc P 203 gL 5 29,qb bU (.seq #[] 0),(.mk .none .none (.fields #[]) #[]),iD gL 198 5 25 201,iE 27 24 nJ 194,qb bU (.seq #[] 0),qb fX (.dict #[(qd P gM 203<|.str nJ 194),(qd P gN 207<|.int 5 206),(qr P gO 208 29),(qr P rM 210 32),(qd P mN 211 .none)] 3),(.mk (.type lJ) .none (.cls<|.mk gL [(.type nK)] [(.ref 31),(.type nK),(.type az),(.type ba),(.type hU)] 30 gL .true [] [] .false .none .false) #[(.some<|.ref 22),.none,(.some<|.str gL 196),(.some<|.str gL 204),(.some<|.builtin bc),(.some<|.bool .true)]),tG 209 31,iX 31,iY 31]))
def fM(P:Params):Ya:=(((fA P).set 3 (qM P (qd P fW 165<|.str nJ 194) 11 12)).set 12 (qI 9)).set 31 ((.mk (.type lJ) .none (.cls<|.mk gL [(.type nK)] [(.ref 31),(.type nK),(.type az),(.type ba),(.type hU)] 30 gL .true [] [(.ref 44)] .false .none .false) #[(.some<|.ref 22),.none,(.some<|.str gL 196),(.some<|.str gL 204),(.some<|.builtin bc),(.some<|.bool .true)]))++([qb bU (.seq #[(.ref 31)] 0),iW,jc P 221 Mr 7 42,qb bU (.seq #[] 0),(.mk .none .none (.fields #[]) #[]),iD Mr 216 7 38 219,iE 40 37 nJ 194,qb bU (.seq #[] 0),ud P 221 7 42,ue Mr 44 43 35 214,iX 44,iY 44])
def fQ(P:Params):Ya:=(((fM P).set 3 (qM P (qd P fW 165<|.str nJ 194) 12 13)).set 12 (qI 12)).set 31 ((.mk (.type lJ) .none (.cls<|.mk gL [(.type nK)] [(.ref 31),(.type nK),(.type az),(.type ba),(.type hU)] 30 gL .true [] [(.ref 44),(.ref 56)] .false .none .false) #[(.some<|.ref 22),.none,(.some<|.str gL 196),(.some<|.str gL 204),(.some<|.builtin bc),(.some<|.bool .true)]))++([qb bU (.seq #[(.ref 31)] 0),iW,jc P 237 Ms 9 54,qb bU (.seq #[] 0),(.mk .none .none (.fields #[]) #[]),iD Ms 232 9 50 235,iE 52 49 nJ 194,qb bU (.seq #[] 0),ud P 237 9 54,ue Ms 56 55 47 230,iX 56,iY 56])
def fV(P:Params):Ya:=(((fQ P).set 3 (qM P (qd P fW 165<|.str nJ 194) 13 14)).set 12 (qI 15)).set 31 ((.mk (.type lJ) .none (.cls<|.mk gL [(.type nK)] [(.ref 31),(.type nK),(.type az),(.type ba),(.type hU)] 30 gL .true [] [(.ref 44),(.ref 56),(.ref 68)] .false .none .false) #[(.some<|.ref 22),.none,(.some<|.str gL 196),(.some<|.str gL 204),(.some<|.builtin bc),(.some<|.bool .true)]))++([qb bU (.seq #[(.ref 31)] 0),iW,jc P 253 Mu 11 66,qb bU (.seq #[] 0),(.mk .none .none (.fields #[]) #[]),iD Mu 248 11 62 251,iE 64 61 nJ 194,qb bU (.seq #[] 0),ud P 253 11 66,ue Mu 68 67 59 246,iX 68,iY 68])
def gF(P:Params):Ya:=(((fV P).set 3 (qM P (qd P fW 165<|.str nJ 194) 14 15)).set 12 (qI 18)).set 31 ((.mk (.type lJ) .none (.cls<|.mk gL [(.type nK)] [(.ref 31),(.type nK),(.type az),(.type ba),(.type hU)] 30 gL .true [] [(.ref 44),(.ref 56),(.ref 68),(.ref 80)] .false .none .false) #[(.some<|.ref 22),.none,(.some<|.str gL 196),(.some<|.str gL 204),(.some<|.builtin bc),(.some<|.bool .true)]))++([qb bU (.seq #[(.ref 31)] 0),iW,jc P 269 Mv 13 78,qb bU (.seq #[] 0),(.mk .none .none (.fields #[]) #[]),iD Mv 264 13 74 267,iE 76 73 nJ 194,qb bU (.seq #[] 0),ud P 269 13 78,ue Mv 80 79 71 262,iX 80,iY 80])
def gK(P:Params):Ya:=(((gF P).set 3 (qM P (qd P fW 165<|.str aw 294) 22 23)).set 12 (qI 33)).set 31 ((.mk (.type lJ) .none (.cls<|.mk gL [(.type nK)] [(.ref 31),(.type nK),(.type az),(.type ba),(.type hU)] 30 gL .true [] [(.ref 44),(.ref 56),(.ref 68),(.ref 80),(.ref 92)] .false .none .false) #[(.some<|.ref 22),.none,(.some<|.str gL 196),(.some<|.str gL 204),(.some<|.builtin bc),(.some<|.bool .true)]))++([qb bU (.seq #[(.ref 31)] 0),iW,jc P 285 Mx 15 90,qb bU (.seq #[] 0),(.mk .none .none (.fields #[]) #[]),iD Mx 280 15 86 283,iE 88 85 nJ 194,qb bU (.seq #[] 0),ud P 285 15 90,ue Mx 92 91 83 278,iX 92,iY 92,qb bU (.seq (!(300,aHb,aHc,EU,EV,EW,aHd,aHe,aHf,aHg,aHh,aHi,aHj)) 0)]++(qH 12 313 96 aw 294++(qH 13 320 103 aw 294++(qH 14 328 110 aw 294++(qH 15 335 117 aw 294)))))
def gU(P:Params):Ya:=((gK P).set 3 (qM P (qd P fW 165<|.str uX 360) 31 32)).set 12 (qI 57)++(qH 16 343 124 aw 294++(qH 17 351 131 aw 294++([qb fX (.dict #[(qd P EU 362<|.int 1 363),(qd P EV 364<|.int 2 365),(qd P EW 366<|.int 2 367),(qd P aHm 368<|.int 3 369),(qd P aHn 370<|.int 3 371),(qd P aHo 372<|.int 4 373),(qd P aHp 374<|.int 4 375),(qd P aHq 376<|.int 4 377)] 8)]++(qH 20 387 139 uX 360++(qH 21 395 146 uX 360++(qH 22 403 153 uX 360++(qH 23 410 160 uX 360++(qH 24 418 167 uX 360++(qH 25 427 174 uX 360)))))))))
def hJ(P:Params):Ya:=((gU P).set 3 (qM P (qd P fW 165<|.str cQ 508) 39 40)).set 12 (qI 78)++(qH 26 438 181 uX 360++(qH 27 448 188 uX 360++(qH 29 462 195 ub 460++(qH 30 471 202 ub 460++(qH 31 480 209 ub 460++(qH 32 492 216 ub 460++(qH 33 500 223 ub 460)))))))
def iC(P:Params):Ya:=((hJ P).set 3 (qM P (qd P fW 165<|.str cQ 508) 40 41)).set 12 (qI 81)++([qb bU (.seq #[] 0),iW,jd P 519 Mz 143 532 243 aIa aIb 551 553,qb bU (.seq #[] 0),je 145 242 148 151,iD Mz 514 143 233 517,iE 235 232 cQ 508]++(bO 36 0 524 237 cQ 508++(bO 36 1 533 244 cQ 508++(bO 36 2 541 251 cQ 508++([qb bU (.seq (!(552,aFl)) 0),qb fX (.dict #[(qd P gM 519<|.str cQ 508),(qd P gN 523<|.int 143 522),(qQ P 36 0 532 243),(qQ P 36 1 540 250),(qQ P 36 2 551 257),(qr P gO 553 258),(qr P tD 555 261),(qr P rM 557 262),(qd P mN 558 .none)] 4),uY Mz 260 259 512,uZ 554 260,tG 556 260,iX 260,iY 260])))))
def iS(P:Params):Ya:=((iC P).set 3 (qM P (qd P fW 165<|.str cQ 508) 41 42)).set 12 (qI 84)++([qb bU (.seq #[] 0),iW,qb fX (.dict (qW [(qd P gM 568<|.str cQ 508),(qd P pA 570<|.str fB 569),(qd P gN 572<|.int 155 571)] (qV P 37 0 Lu) [(qr P gO 614 307)]) 9),qb bU (.seq #[] 0),(qT<|qY 37 0 Lu),iD fB 563 155 268 566,iE 270 267 cQ 508]++(bO 37 0 573 272 cQ 508++(bO 37 1 580 279 cQ 508++(bO 37 2 588 286 cQ 508++(bO 37 3 597 293 cQ 508++(bO 37 4 606 300 cQ 508++([qb bU (.seq (!(613,aFn)) 0),qb fX (.dict (qW [(qd P gM 568<|.str cQ 508),(qd P gN 572<|.int 155 571)] (qV P 37 0 Lu) [(qr P gO 614 307),(qr P tD 616 310),(qr P rM 618 311),(qd P mN 619 .none)]) 4),uY fB 309 308 561,uZ 615 309,tG 617 309,iX 309,iY 309])))))))
def jM(P:Params):Ya:=(((iS P).set 3 (qM P (qd P fW 165<|.str cQ 508) 42 43)).set 12 (qI 87)).set 309 ((.mk (.type lJ) .none (.cls<|.mk fB [(.type hU)] [(.ref 309),(.type hU)] 308 fB .true [] [(.ref 330)] .false .none .false) #[.none,.none,(.some<|.str fB 561),(.some<|.str fB 569),(.some<|.builtin vA),(.some<|.bool .true)]))++([qb bU (.seq #[(.ref 309)] 0),iW,qb fX (.dict #[(qd P gM 629<|.str cQ 508),(qd P pA 631<|.str Md 630),(qd P gN 633<|.int 172 632),(qQ P 38 0 641 327),(qr P gO 642 328)] 5),qb bU (.seq #[] 0),(qT [(174,326)]),iD Md 624 172 317 627,iE 319 316 cQ 508]++(bO 38 0 634 321 cQ 508++([qb bU (.seq #[] 0),qb fX (.dict #[(qd P gM 629<|.str cQ 508),(qd P gN 633<|.int 172 632),(qQ P 38 0 641 327),(qr P gO 642 328),(qd P mN 643 .none)] 2),ay Md 330 329 314 622,iX 330,iY 330])))
def jV(P:Params):Ya:=(((jM P).set 3 (qM P (qd P fW 165<|.str cQ 508) 43 44)).set 12 (qI 90)).set 309 ((.mk (.type lJ) .none (.cls<|.mk fB [(.type hU)] [(.ref 309),(.type hU)] 308 fB .true [] [(.ref 330),(.ref 364)] .false .none .false) #[.none,.none,(.some<|.str fB 561),(.some<|.str fB 569),(.some<|.builtin vA),(.some<|.bool .true)]))++([qb bU (.seq #[(.ref 309)] 0),iW,jd P 653 Me 176 665 347 iy iz 682 685,qb bU (.seq #[] 0),je 178 346 183 186,iD Me 648 176 336 651,iE 338 335 cQ 508,qb bU (.seq #[(.bool .false)] 0)]++(eB 39 0 658 341 cQ 508++(bO 39 1 666 348 cQ 508++(bO 39 2 674 355 cQ 508++([Bj aFp 683 aFq,uf P 653 176 665 347 682 685,ay Me 364 363 333 646,iX 364,iY 364])))))
def kD(P:Params):Ya:=(((jV P).set 3 (qM P (qd P fW 165<|.str cQ 508) 44 45)).set 12 (qI 93)).set 309 ((.mk (.type lJ) .none (.cls<|.mk fB [(.type hU)] [(.ref 309),(.type hU)] 308 fB .true [] [(.ref 330),(.ref 364),(.ref 398)] .false .none .false) #[.none,.none,(.some<|.str fB 561),(.some<|.str fB 569),(.some<|.builtin vA),(.some<|.bool .true)]))++([qb bU (.seq #[(.ref 309)] 0),iW,jd P 696 Mf 188 710 381 iy iz 727 729,qb bU (.seq #[] 0),je 190 380 194 197,iD Mf 691 188 370 694,iE 372 369 cQ 508,qb bU (.seq #[(.int 1 701)] 0)]++(eB 40 0 702 375 cQ 508++(bO 40 1 711 382 cQ 508++(bO 40 2 719 389 cQ 508++([qb bU (.seq (!(728,Mg)) 0),uf P 696 188 710 381 727 729,ay Mf 398 397 367 689,iX 398,iY 398])))))
def kW(P:Params):Ya:=(((kD P).set 3 (qM P (qd P fW 165<|.str cQ 508) 45 46)).set 12 (qI 96)).set 309 ((.mk (.type lJ) .none (.cls<|.mk fB [(.type hU)] [(.ref 309),(.type hU)] 308 fB .true [] [(.ref 330),(.ref 364),(.ref 398),(.ref 432)] .false .none .false) #[.none,.none,(.some<|.str fB 561),(.some<|.str fB 569),(.some<|.builtin vA),(.some<|.bool .true)]))++([qb bU (.seq #[(.ref 309)] 0),iW,jd P 740 Mh 199 754 415 iy iz 772 776,qb bU (.seq #[] 0),je 201 414 207 210,iD Mh 735 199 404 738,iE 406 403 cQ 508,qb bU (.seq #[(.int 4 745)] 0)]++(eB 41 0 746 409 cQ 508++(bO 41 1 755 416 cQ 508++(bO 41 2 763 423 cQ 508++([FH aFr 773 Mg aFs,uf P 740 199 754 415 772 776,ay Mh 432 431 401 733,iX 432,iY 432])))))
def lI(P:Params):Ya:=(((kW P).set 3 (qM P (qd P fW 165<|.str cQ 508) 46 47)).set 12 (qI 99)).set 309 ((.mk (.type lJ) .none (.cls<|.mk fB [(.type hU)] [(.ref 309),(.type hU)] 308 fB .true [] [(.ref 330),(.ref 364),(.ref 398),(.ref 432),(.ref 458)] .false .none .false) #[.none,.none,(.some<|.str fB 561),(.some<|.str fB 569),(.some<|.builtin vA),(.some<|.bool .true)]))++([qb bU (.seq #[(.ref 309)] 0),iW,qb fX (.dict #[(qd P gM 787<|.str cQ 508),(qd P pA 789<|.str Mi 788),(qd P gN 791<|.int 214 790),(qQ P 42 0 799 448),(qQ P 42 1 807 455),(qr P gO 809 456)] 6),qb bU (.seq #[] 0),(qT [(216,447),(220,454)]),iD Mi 782 214 438 785,iE 440 437 cQ 508]++(bO 42 0 792 442 cQ 508++(bO 42 1 800 449 cQ 508++([qb bU (.seq (!(808,aFt)) 0),qb fX (.dict #[(qd P gM 787<|.str cQ 508),(qd P gN 791<|.int 214 790),(qQ P 42 0 799 448),(qQ P 42 1 807 455),(qr P gO 809 456),(qd P mN 810 .none)] 2),ay Mi 458 457 435 780,iX 458,iY 458]))))
def lY(P:Params):Ya:=(((lI P).set 3 (qM P (qd P fW 165<|.str cQ 508) 47 48)).set 12 (qI 102)).set 309 ((.mk (.type lJ) .none (.cls<|.mk fB [(.type hU)] [(.ref 309),(.type hU)] 308 fB .true [] [(.ref 330),(.ref 364),(.ref 398),(.ref 432),(.ref 458),(.ref 491)] .false .none .false) #[.none,.none,(.some<|.str fB 561),(.some<|.str fB 569),(.some<|.builtin vA),(.some<|.bool .true)]))++([qb bU (.seq #[(.ref 309)] 0),iW,jd P 820 Mj 224 832 474 iy iz 849 851,qb bU (.seq #[] 0),je 226 473 230 233,iD Mj 815 224 464 818,iE 466 463 cQ 508]++(bO 43 0 825 468 cQ 508++(bO 43 1 833 475 cQ 508++(bO 43 2 841 482 cQ 508++([qb bU (.seq (!(850,EX)) 0),uf P 820 224 832 474 849 851,ay Mj 491 490 461 813,iX 491,iY 491])))))
def mM(P:Params):Ya:=(((lY P).set 3 (qM P (qd P fW 165<|.str tE 903) 48 49)).set 12 (qI 105)).set 309 ((.mk (.type lJ) .none (.cls<|.mk fB [(.type hU)] [(.ref 309),(.type hU)] 308 fB .true [] [(.ref 330),(.ref 364),(.ref 398),(.ref 432),(.ref 458),(.ref 491),(.ref 525)] .false .none .false) #[.none,.none,(.some<|.str fB 561),(.some<|.str fB 569),(.some<|.builtin vA),(.some<|.bool .true)]))++([qb bU (.seq #[(.ref 309)] 0),iW,jd P 862 Ml 235 877 508 iy iz 895 899,qb bU (.seq #[] 0),je 237 507 243 248,iD Ml 857 235 497 860,iE 499 496 cQ 508,qb bU (.seq #[(.int 16 867)] 0)]++(eB 44 0 868 502 cQ 508++(bO 44 1 878 509 cQ 508++(bO 44 2 886 516 cQ 508++([FH EX 896 aHk Mg,uf P 862 235 877 508 895 899,ay Ml 525 524 494 855,iX 525,iY 525])))))
def nI(P:Params):Ya:=((mM P).set 3 (qM P (qd P fW 165<|.str uW 971) 49 50)).set 12 (qI 108)++([qb bU (.seq #[] 0),iW,qb fX (.dict (qW [(qd P gM 912<|.str tE 903),(qd P pA 914<|.str Mm 913),(qd P gN 916<|.int 255 915)] (qV P 46 0 Lv) [(qr P gO 963 571)]) 10),qb bU (.seq #[] 0),(qT<|qY 46 0 Lv),iD Mm 907 255 531 910,iE 533 530 tE 903]++(bO 46 0 917 535 tE 903++(dN 46 1 925 542 tE 903++(bO 46 2 931 547 tE 903++(dN 46 3 942 554 tE 903++(bO 46 4 948 559 tE 903++(dN 46 5 955 566 tE 903++([Bj aFu 961 aFw,qb fX (.dict (qW [(qd P gM 912<|.str tE 903),(qd P gN 916<|.int 255 915)] (qV P 46 0 Lv) [(qr P gO 963 571),(qr P tD 965 574),(qr P rM 967 575),(qd P mN 968 .none)]) 4),uY Mm 573 572 905,uZ 964 573,tG 966 573,iX 573,iY 573]))))))))
def oC(P:Params):Ya:=((nI P).set 3 (qM P (qd P fW 165<|.str lZ 1038) 50 51)).set 12 (qI 111)++([qb bU (.seq #[] 0),iW,qb fX (.dict (qW [(qd P gM 980<|.str uW 971),(qd P pA 982<|.str Mn 981),(qd P gN 984<|.int 289 983)] (qV P 48 0 Lw) [(qr P gO 1030 618)]) 9),qb bU (.seq #[] 0),(qT<|qY 48 0 Lw),iD Mn 975 289 581 978,iE 583 580 uW 971]++(bO 48 0 985 585 uW 971++(bO 48 1 992 592 uW 971++(bO 48 2 1003 599 uW 971++(dN 48 3 1012 606 uW 971++(bO 48 4 1018 611 uW 971++([qb bU (.seq (!(1029,aFz)) 0),qb fX (.dict (qW [(qd P gM 980<|.str uW 971),(qd P gN 984<|.int 289 983)] (qV P 48 0 Lw) [(qr P gO 1030 618),(qr P tD 1032 621),(qr P rM 1034 622),(qd P mN 1035 .none)]) 4),uY Mn 620 619 973,uZ 1031 620,tG 1033 620,iX 620,iY 620])))))))
def oZ(P:Params):Ya:=((oC P).set 3 (qM P (qd P fW 165<|.str lZ 1038) 51 52)).set 12 (qI 114)++([qb bU (.seq #[] 0),iW,qb fX (.dict (qW [(qd P gM 1047<|.str lZ 1038),(qd P pA 1049<|.str Mp 1048),(qd P gN 1051<|.int 317 1050)] (qV P 50 0 Lx) [(qr P gO 1141 699)]) 15),qb bU (.seq #[] 0),(qT<|qY 50 0 Lx),iD Mp 1042 317 628 1045,iE 630 627 lZ 1038]++(bO 50 0 1052 632 lZ 1038++(dN 50 1 1059 639 lZ 1038++(bO 50 2 1065 644 lZ 1038++(bO 50 3 1075 651 lZ 1038++(bO 50 4 1087 658 lZ 1038++(dN 50 5 1097 665 lZ 1038++(bO 50 6 1103 670 lZ 1038++(bO 50 7 1113 677 lZ 1038++(dN 50 8 1121 684 lZ 1038++(dN 50 9 1127 689 lZ 1038++(dN 50 10 1133 694 lZ 1038++([Bj aGa 1139 aGb,qb fX (.dict (qW [(qd P gM 1047<|.str lZ 1038),(qd P gN 1051<|.int 317 1050)] (qV P 50 0 Lx) [(qr P gO 1141 699),(qr P tD 1143 702),(qr P rM 1145 703),(qd P mN 1146 .none)]) 4),uY Mp 701 700 1040,uZ 1142 701,tG 1144 701,iX 701,iY 701])))))))))))))
def rL(P:Params):Ya:=((oZ P).set 3 (qM P (qd P fW 165<|.str kE 1149) 52 53)).set 12 (qI 117)++([qb bU (.seq #[] 0),iW,qb fX (.dict (qW [(qd P gM 1158<|.str kE 1149),(qd P pA 1160<|.str Mq 1159),(qd P gN 1162<|.int 388 1161)] (qV P 52 0 Ly) [(qr P gO 1211 741)]) 8),qb bU (.seq #[] 0),(qT<|qY 52 0 Ly),iD Mq 1153 388 709 1156,iE 711 708 kE 1149]++(bO 52 0 1163 713 kE 1149++(bO 52 1 1175 720 kE 1149++(bO 52 2 1182 727 kE 1149++(bO 52 3 1189 734 kE 1149++([qb bU (.seq (!(1197,aHt,aGc,aGd,aGe,aGf,aHv,ET,aGg,aHy,aHr,aGh,aGi,aFv,aHs)) 0),qb fX (.dict (qW [(qd P gM 1158<|.str kE 1149),(qd P gN 1162<|.int 388 1161)] (qV P 52 0 Ly) [(qr P gO 1211 741),(qr P tD 1213 744),(qr P rM 1215 745),(qd P mN 1216 .none)]) 4),uY Mq 743 742 1151,uZ 1212 743,tG 1214 743,iX 743,iY 743]))))))
def tB(P:Params):Ya:=((rL P).set 3 (qM P (qd P fW 165<|.str kE 1149) 53 54)).set 12 (qI 120)++([qb bU (.seq #[] 0),iW,qb fX (.dict (qW [(qd P gM 1226<|.str kE 1149),(qd P pA 1228<|.str Mt 1227),(qd P gN 1230<|.int 415 1229)] (qV P 53 0 Lz) [(qr P gO 1304 802)]) 11),qb bU (.seq #[] 0),(qT<|qY 53 0 Lz),iD Mt 1221 415 751 1224,iE 753 750 kE 1149]++(bO 53 0 1231 755 kE 1149++(bO 53 1 1243 762 kE 1149++(bO 53 2 1250 769 kE 1149++(bO 53 3 1259 776 kE 1149++(bO 53 4 1268 783 kE 1149++(bO 53 5 1278 790 kE 1149++(dN 53 6 1287 797 kE 1149++([qb bU (.seq (!(1293,aGm,aGn,ET,aGo,aGj,aGp,aGk,aGq,aFy,aFx,aGl)) 0),qb fX (.dict (qW [(qd P gM 1226<|.str kE 1149),(qd P gN 1230<|.int 415 1229)] (qV P 53 0 Lz) [(qr P gO 1304 802),(qr P tD 1306 805),(qr P rM 1308 806),(qd P mN 1309 .none)]) 4),uY Mt 804 803 1219,uZ 1305 804,tG 1307 804,iX 804,iY 804])))))))))
def uT(P:Params):Ya:=((tB P).set 3 (qM P (qd P fW 165<|.str pB 1352) 57 58)).set 12 (qI 132)++(qH 55 1314 809 Bg 1312++(qH 56 1322 816 Bg 1312++(qH 57 1331 823 Bg 1312++(qH 58 1343 830 Bg 1312))))
def xK(P:Params):Ya:=((uT P).set 3 (qM P (qd P fW 165<|.str pB 1352) 62 63)).set 12 (qI 147)++([qb bU (.seq #[] 0),iW,qb fX (.dict #[(qd P gM 1361<|.str pB 1352),(qd P pA 1363<|.str Mw 1362),(qd P gN 1365<|.int 492 1364),(qQ P 60 0 1375 850),(qQ P 60 1 1384 857),(qr P gO 1392 858)] 6),qb bU (.seq #[] 0),(qT [(494,849),(503,856)]),iD Mw 1356 492 840 1359,iE 842 839 pB 1352]++(bO 60 0 1366 844 pB 1352++(bO 60 1 1376 851 pB 1352++([qb bU (.seq (!(1385,aGs,aGt,aHz,aGr,aGu,aGv,aGw)) 0),qb fX (.dict #[(qd P gM 1361<|.str pB 1352),(qd P gN 1365<|.int 492 1364),(qQ P 60 0 1375 850),(qQ P 60 1 1384 857),(qr P gO 1392 858),(qr P tD 1394 861),(qr P rM 1396 862),(qd P mN 1397 .none)] 4),uY Mw 860 859 1354,uZ 1393 860,tG 1395 860,iX 860,iY 860]++(qH 61 1400 865 pB 1352++(qH 62 1410 872 pB 1352++(qH 63 1419 879 pB 1352++(qH 64 1428 886 pB 1352))))))))
def aq(P:Params):Ya:=((xK P).set 3 (qM P (qd P fW 165<|.str mB 1507) 70 71)).set 12 (qI 168)++(qH 65 1436 893 pB 1352++(qH 67 1446 900 ja 1444++(qH 68 1456 907 ja 1444++(qH 69 1465 914 ja 1444++(qH 70 1477 921 ja 1444++(qH 71 1486 928 ja 1444++(qH 72 1496 935 ja 1444++([ug 2 1509 1,ug 1 1511 3,ug 1 1513 6,ug 1 1515 2,ug 1 1517 1,qb bU (.seq #[(.ref 942),(.ref 943),(.ref 944),(.ref 945),(.ref 946)] 0)]))))))))
def iw(P:Params):Ya:=((aq P).set 3 (qM P (qd P fW 165<|.str mB 1507) 71 72)).set 12 (qI 171)++([qb bU (.seq #[] 0),iW,qb fX (.dict (qW [(qd P gM 1527<|.str mB 1507),(qd P pA 1529<|.str My 1528),(qd P gN 1531<|.int 585 1530)] (qV P 75 0 Ma) [(qr P gO 1618 1024)]) 14),qb bU (.seq #[] 0),(qT<|qY 75 0 Ma),iD My 1522 585 951 1525,iE 953 950 mB 1507,qb bU (.seq #[(.int 8 1532),(.int 2 1533),.none,.none,.none] 0)]++(eB 75 0 1534 956 mB 1507++(bO 75 1 1548 963 mB 1507++(bO 75 2 1557 970 mB 1507++(bO 75 3 1565 977 mB 1507++(dN 75 4 1572 984 mB 1507++(bO 75 5 1578 989 mB 1507++(bO 75 6 1585 996 mB 1507++(bO 75 7 1592 1003 mB 1507++(bO 75 8 1599 1010 mB 1507++(bO 75 9 1606 1017 mB 1507++([Bj aHx 1616 aHw,qb fX (.dict (qW [(qd P gM 1527<|.str mB 1507),(qd P gN 1531<|.int 585 1530)] (qV P 75 0 Ma) [(qr P gO 1618 1024),(qr P tD 1620 1027),(qr P rM 1622 1028),(qd P mN 1623 .none)]) 4),uY My 1026 1025 1520,uZ 1619 1026,tG 1621 1026,iX 1026,iY 1026]))))))))))))
def ua(P:Params):Ya:=((iw P).set 3 (qM P (qd P fW 165<|.str iU 1633) 83 84)).set 12 (qI 207)++(qH 76 1626 1031 mB 1507++(qH 78 1635 1038 iU 1633++(qH 79 1643 1045 iU 1633++(qH 80 1651 1052 iU 1633++(qH 81 1660 1059 iU 1633++(qH 82 1674 1066 iU 1633++(qH 83 1687 1073 iU 1633++(qH 84 1704 1080 iU 1633++(qH 85 1718 1087 iU 1633++(qh 86 1727 1094 iU 1633++(qh 87 1733 1099 iU 1633++(qH 88 1739 1104 iU 1633))))))))))))
def Be(P:Params):Ya:=((ua P).set 3 (qM P (qd P fW 165<|.str iU 1633) 92 93)).set 12 (qI 234)++(qH 89 1747 1111 iU 1633++(qH 90 1757 1118 iU 1633++(qh 91 1768 1125 iU 1633++(qH 92 1774 1130 iU 1633++(qH 93 1784 1137 iU 1633++(qh 94 1791 1144 iU 1633++(qH 95 1797 1149 iU 1633++(qH 96 1813 1156 iU 1633++(qH 97 1823 1163 iU 1633)))))))))
def tw1123721790843070001:Params->Heap:=λP=>Subtype.val (p:=λt=>t=(.mk (eI P).toArray (.mk [] [] [] 0 [] [] .false #[] [] 0 .false .false .false 0 [2000,10,10] .false 0 .true [] [] 0 .false))) ⟨_,by dsimp only[eI,qH,qh,bO,dN,eB,eK,eL,eQ,List.set,List.cons_append,List.nil_append]⟩
theorem te1123721790843070001:!tw1123721790843070001:=rfl
def tw657089752120002864:Xz:=[(qS 0),(qS 1),(qS 2)]
theorem te657089752120002864:!tw657089752120002864:=rfl
def tw929130376466005384:Xz:=[(qS 3)]
theorem te929130376466005384:!tw929130376466005384:=rfl
def tw11810535253968453653:Xz:=[(qS 4)]
theorem te11810535253968453653:!tw11810535253968453653:=rfl
def tw14140634292233146428:Xz:=[(qS 5)]
theorem te14140634292233146428:!tw14140634292233146428:=rfl
def tw7925768530908975378:Xz:=[(qS 6)]
theorem te7925768530908975378:!tw7925768530908975378:=rfl
def tw13762283091147397577:Xz:=[(qS 7),(qS 8),(qS 9),(qS 10),(qS 11),(qS 12),(qS 13),(qS 14),(qS 15)]
theorem te13762283091147397577:!tw13762283091147397577:=rfl
def tw11623181419287751862:Xz:=[(qS 16),(qS 17),(qS 18),(qS 19),(qS 20),(qS 21),(qS 22),(qS 23),(qS 24),(qS 25)]
theorem te11623181419287751862:!tw11623181419287751862:=rfl
def tw17964666031407411075:Xz:=[(qS 26),(qS 27),(qS 28),(qS 29),(qS 30),(qS 31),(qS 32),(qS 33),(qS 34),(qS 35)]
theorem te17964666031407411075:!tw17964666031407411075:=rfl
def tw2325742208511401927:Xz:=[(qS 36)]
theorem te2325742208511401927:!tw2325742208511401927:=rfl
def tw3433530700359904440:Xz:=[(qS 37)]
theorem te3433530700359904440:!tw3433530700359904440:=rfl
def tw4184992682202363624:Xz:=[(qS 38)]
theorem te4184992682202363624:!tw4184992682202363624:=rfl
def tw13721131866368090014:Xz:=[(qS 39)]
theorem te13721131866368090014:!tw13721131866368090014:=rfl
def tw10428989324264322126:Xz:=[(qS 40)]
theorem te10428989324264322126:!tw10428989324264322126:=rfl
def tw10313097412837007176:Xz:=[(qS 41)]
theorem te10313097412837007176:!tw10313097412837007176:=rfl
def tw10113057254548518066:Xz:=[(qS 42)]
theorem te10113057254548518066:!tw10113057254548518066:=rfl
def tw5799725777362454093:Xz:=[(qS 43)]
theorem te5799725777362454093:!tw5799725777362454093:=rfl
def tw11098166145956703272:Xz:=[(qS 44),(qS 45)]
theorem te11098166145956703272:!tw11098166145956703272:=rfl
def tw15524005063833697032:Xz:=[(qS 46),(qS 47)]
theorem te15524005063833697032:!tw15524005063833697032:=rfl
def tw4558138019573520965:Xz:=[(qS 48),(qS 49)]
theorem te4558138019573520965:!tw4558138019573520965:=rfl
def tw1740148790984425138:Xz:=[(qS 50)]
theorem te1740148790984425138:!tw1740148790984425138:=rfl
def tw3113246720011855518:Xz:=[(qS 51),(qS 52)]
theorem te3113246720011855518:!tw3113246720011855518:=rfl
def tw6267394051069220689:Xz:=[(qS 53)]
theorem te6267394051069220689:!tw6267394051069220689:=rfl
def tw7309668613286356284:Xz:=[(qS 54),(qS 55),(qS 56),(qS 57),(qS 58),(qS 59)]
theorem te7309668613286356284:!tw7309668613286356284:=rfl
def tw15996376414460464763:Xz:=[(qS 60),(qS 61),(qS 62),(qS 63),(qS 64)]
theorem te15996376414460464763:!tw15996376414460464763:=rfl
def tw1982973081196692083:Xz:=[(qS 65),(qS 66),(qS 67),(qS 68),(qS 69),(qS 70),(qS 71),(qS 72),(qS 73),(qS 74)]
theorem te1982973081196692083:!tw1982973081196692083:=rfl
def tw7832315712038560846:Xz:=[(qS 75)]
theorem te7832315712038560846:!tw7832315712038560846:=rfl
def tw8260312275438990889:Xz:=[(qS 76),(qS 77),(qS 78),(qS 79),(qS 80),(qS 81),(qS 82),(qS 83),(qS 84),(qS 85),(qS 86),(qS 87),(qS 88)]
theorem te8260312275438990889:!tw8260312275438990889:=rfl
def tw11943467866292926139:Xz:=[(qS 89),(qS 90),(qS 91),(qS 92),(qS 93),(qS 94),(qS 95),(qS 96),(qS 97)]
theorem te11943467866292926139:!tw11943467866292926139:=rfl
def tw13770295412578912438:Params->Heap:=λP=>Subtype.val (p:=λt=>t=(.mk (Be P).toArray (.mk [] [] [] 0 [] [] .false #[] [] 0 .false .false .false 0 [2000,10,10] .false 0 .true [] [] 0 .false))) ⟨_,by dsimp only[Be,ua,iw,aq,xK,uT,tB,rL,oZ,oC,nI,mM,lY,lI,kW,kD,jV,jM,iS,iC,hJ,gU,gK,gF,fV,fQ,fM,fA,eI,qH,qh,bO,dN,eB,eK,eL,eQ,List.set,List.cons_append,List.nil_append]⟩
theorem te13770295412578912438:!tw13770295412578912438:=rfl
def tw11821412059950601352:PySem.Program:=Challenge.pw_aheadmill_k42_names_told
theorem te11821412059950601352:!tw11821412059950601352:=rfl
def tw9897145914084891619:Params->BT:=-eI
def tw3625438346350112805:Params->BT:=-fA
def tw7833186716781247984:Params->BT:=-fM
def tw11636367393847043251:Params->BT:=-fQ
def tw5453645423777692872:Params->BT:=-fV
def tw2523434151498518665:Params->BT:=-gF
def tw8267160958813171743:Params->BT:=-gK
def tw12884092330759081624:Params->BT:=-gU
def tw6073630230058002552:Params->BT:=-hJ
def tw9209066621414513:Params->BT:=-iC
def tw14735895002192223445:Params->BT:=-iS
def tw12891843010003645656:Params->BT:=-jM
def tw15368754417111880219:Params->BT:=-jV
def tw13180262169607854327:Params->BT:=-kD
def tw17590965263857191904:Params->BT:=-kW
def tw7520563699075837672:Params->BT:=-lI
def tw7301106571415008642:Params->BT:=-lY
def tw14066035843000100533:Params->BT:=-mM
def tw8337611998617186949:Params->BT:=-nI
def tw15967169022487550408:Params->BT:=-oC
def tw10445791536099306304:Params->BT:=-oZ
def tw7816932269049616461:Params->BT:=-rL
def tw16744820628311873518:Params->BT:=-tB
def tw15251560284305898888:Params->BT:=-uT
def tw11309629246937363173:Params->BT:=-xK
def tw10633438578515096936:Params->BT:=-aq
def tw16715004321684276803:Params->BT:=-iw
def tw17077258992159450689:Params->BT:=-ua
def tw10979700869187024567:Params->BT:=-Be
theorem te9897145914084891619:!tw9897145914084891619:=rfl
theorem te3625438346350112805:!tw3625438346350112805:=rfl
theorem te7833186716781247984:!tw7833186716781247984:=rfl
theorem te11636367393847043251:!tw11636367393847043251:=rfl
theorem te5453645423777692872:!tw5453645423777692872:=rfl
theorem te2523434151498518665:!tw2523434151498518665:=rfl
theorem te8267160958813171743:!tw8267160958813171743:=rfl
theorem te12884092330759081624:!tw12884092330759081624:=rfl
theorem te6073630230058002552:!tw6073630230058002552:=rfl
theorem te9209066621414513:!tw9209066621414513:=rfl
theorem te14735895002192223445:!tw14735895002192223445:=rfl
theorem te12891843010003645656:!tw12891843010003645656:=rfl
theorem te15368754417111880219:!tw15368754417111880219:=rfl
theorem te13180262169607854327:!tw13180262169607854327:=rfl
theorem te17590965263857191904:!tw17590965263857191904:=rfl
theorem te7520563699075837672:!tw7520563699075837672:=rfl
theorem te7301106571415008642:!tw7301106571415008642:=rfl
theorem te14066035843000100533:!tw14066035843000100533:=rfl
theorem te8337611998617186949:!tw8337611998617186949:=rfl
theorem te15967169022487550408:!tw15967169022487550408:=rfl
theorem te10445791536099306304:!tw10445791536099306304:=rfl
theorem te7816932269049616461:!tw7816932269049616461:=rfl
theorem te16744820628311873518:!tw16744820628311873518:=rfl
theorem te15251560284305898888:!tw15251560284305898888:=rfl
theorem te11309629246937363173:!tw11309629246937363173:=rfl
theorem te10633438578515096936:!tw10633438578515096936:=rfl
theorem te16715004321684276803:!tw16715004321684276803:=rfl
theorem te17077258992159450689:!tw17077258992159450689:=rfl
theorem te10979700869187024567:!tw10979700869187024567:=rfl
end PySem.W.Fast
end
open_top PySem.W.Fast.te0 for PySem.Challenge.rw_aheadmill_k42_names_told
local macro_rules | `(command| $d:definition) => `(command| noncomputable $d:definition)
open Array renaming length_toList->cg,toList->JW,getElem?_toList->JV
open Bool renaming true->aB,false->aH,eq_iff_iff->ki,false_ne_true->fZ,and_eq_true->bT,false_eq_true->Cy,or_eq_true->kj,not_eq_true'->JX
open False renaming elim->lN
open Function renaming comp_def->kr
open Iff renaming rfl->Qc
open Int renaming fmod_eq_emod_of_nonneg->KI,fdiv_eq_ediv_of_nonneg->Qe,toNat_natCast->rT,le_trans->rS,lt_trans->vP,lt_or_eq_of_le->Qg,emod_nonneg->mE,emod_lt_of_pos->mP,one_mul->KL,pow_pos->KM,lt_of_lt_of_le->Dk,le_refl->iG,ediv_nonneg->Qd,eq_ofNat_of_zero_le->cq,le_of_lt->Qf,toNat_of_nonneg->Qi,ne_of_lt->vk,lt_irrefl->xU,lt_succ->Qh,ne_of_gt->KJ,add_zero->Dj
open List renaming set->fH,cons_append->fF,nil_append->fG,range->Ra,filterMap_cons->jO,mem_cons_self->fP,mem_cons_of_mem->hW,mem_append_left->vQ,getElem_inj->Dv,getElem?_set_self->mQ,getElem?_set_ne->lO,mem_append_right->iI,size_toArray->gZ,any_eq_false->KR,length_cons->jC,lookup->rX,map_cons->iH,length_map->aU,append_nil->jY,of_mem_zip->Qx,replicate->eN,length->LV,length_take->lP,getElem?_append_right->lh,getElem?_replicate->Du,getElem?_append_left->rW,getElem?_map->fO,getElem?_take_of_lt->aTm,mem_of_getElem?->bX,length_append->dQ,length_replicate->Dx,length_drop->vm,length_set->tN,all_cons->jX,any_cons->rV,eraseIdx_cons_succ->aTk,foldl->Qn,replicate_succ->Rb,flatten_cons->LG,append_assoc->tM,foldl_cons->LJ,length_singleton->Qt,eraseIdxIfInBounds_toArray->aTj,map_nil->LY,length_nil->Qr,filter_cons->jB,length_filter_le->pF,forIn_cons->Qo,lookup_cons->jD,any_eq_true->KS,getElem?_eq_getElem->eM,getElem_mem->LR,getElem_of_mem->Qq,Pairwise->KO,pairwise_mergeSort->aTp,mergeSort_perm->MB,getElem?_toArray->LP,eq_nil_of_length_eq_zero->Dp,mem_cons->rY,not_mem_nil->oO,getElem?_eq_none->LM,drop_eq_getElem_cons->Qj,take_succ_cons->Rj,drop_zero->KZ,take_of_length_le->Ri,zipIdx_cons->MF,zipIdx_nil->MG,forIn_nil->LK,getElem?_eq_none_iff->LN,getElem?_zip_eq_some->LQ,zip_cons_cons->Eb,length_zip->LW,not_any_eq_all_not->MD,dropLast_eq_take->KW,all_eq_true->KQ,set_comm->Rc,filterMap_cons_some->Qk,exists_cons_of_length_eq_add_one->xX,map_map->jE,getElem?_take->Qp,map_drop->Qv,map_take->Qw,take_length->pH,getD_eq_getElem?_getD->Ds,flatten_replicate_singleton->LH,map_set->Dy,map_replicate->LZ,map_append->gB,mem_or_eq_of_mem_set->Ea,any_map->KU,map_congr_left->lj,filter_map->LD,find?_some->Qm,mem_of_find?_eq_some->cv,find?_cons->nP,take_add_one->pG,filter_append->xY,filter_congr->Ql,take_zero->Rk,getElem_take->LS,set_set->Rh,length_reverse->Qs,drop_length->Dn,getLast?_eq_getElem?->aTn,find?_append->Dr,nodup_append->MC,dropWhile_sublist->KY,dropLast_concat_getLast->aTi,getLast?_concat->LU,getElem_map->Dw,pairwise_cons->Qz,filter_sublist->LF,set_cons_zero->Rg,set_cons_succ->Rf,ext_getElem?->LB,getElem?_set->LO,pairwise_append->Qy,pairwise_singleton->vn,set_eq_take_append_cons_drop->aTq,getElem?_concat_length->LL,map->Qu,getElem?_of_mem->Dt,reverse_reverse->ME,filterMap_append->Dq,take_append_of_le_length->aTr,map_id->LX,mem_filter->Dz,mem_of_getLast?->MA,length_filterMap_le->aTo,eq_of_mem_replicate->LA,filter_cons_of_pos->LC,filter_cons_of_neg->aTl
open List.Nodup renaming length_le_of_subset->KN
open List.Pairwise renaming nil->ky,imp->KP,sublist->xW
open List.Perm renaming eq_of_pairwise->aTh
open Nat renaming lt_of_lt_of_le->bA,lt_irrefl->oP,ne_of_lt->bQ,le_trans->dG,le_of_lt->mS,ne_of_gt->kL,le_refl->aV,le_of_eq->Rn,lt_succ_self->cF,zero_le->kM,le_succ->hA,min_le_right->MM,add_comm->MH,le_of_not_lt->vo,lt_succ_of_lt->iJ,not_lt_zero->Ed,le_add_right->mR,zero_lt_one->MQ,le_succ_of_le->Ec,le_total->Ro,min_eq_left->vp,min_eq_right->Rr,sub_self->Ee,ble->Rm,le_of_ble_eq_true->MJ,lt_of_le_of_lt->lu,pow_le_pow_right->MN,lt_succ_of_le->MK,succ_lt_succ->xZ,succ_le_succ->vq,zero_sub->MR,sub_eq_zero_of_le->MO,add_sub_cancel_left->aTs,min_le_left->ML,sub_le_sub_right->MP
open Ne renaming symm->kN
open OfNat renaming ofNat->MU
open Option renaming some->aA,none->aD,getD_none->MV,isSome_map->Rt,bind_some->jP,map_some->yA,isSome->ly,map_map->MX,map_eq_none_iff->MW,or_none->cw
open Option.some renaming inj->dI
open Prod renaming ext->Ru
open PyProof renaming noPylong_of_log2->NA
open PyProof.Rows renaming AllBare->vO,assignInOrder_nil->NW,assignInOrder_cons->Es,callWith_type1->vv,envOfC->vV,callWith_builtin1->aTt,slicePart_none->OC,slot_tuple_getitem->MY,subscriptTail_builtinR->OD,IntsAre->cu,intBits_le->Ey
open PyProof.Rows.IsTup renaming new->Dl
open PyProof.Rows.KTD renaming tabLook->Ei,flatLooks->Rx,hashesOf->Eh
open PyProof.V.Flat renaming int->MZ
open PySem renaming Arguments->Py,Scope->gH,Params->bV,Program->cA,Heap->bI,World->bW,Paired->lz,sysModules->tT,tupleKind->dz,Within->Sr,mainGlobals->jG,builtinsNs->Sy,bootBuiltins->mT,Around->cM,Shared->aI,wpAny->aS,storeName->Tn,Expr->aK,model->aY,backTo->lQ,starEach->eF,wpAny_mono->wj,wpAny_Name->Tr,wpAny_loadName_local->OL,wpAny_loadName_cell->OK,wpAny_execs_nil->Tu,swapsWith->vX,assign->dh,assignInOrder->Er,assignEach->sD,Operator->rZ,inplaceOp->Td,wpAny_assign_Name->OG,holding->mx,standAt->Fa,wpAny_bind->aQ,wpAny_holding->pI,wpAny_standAt->nj,swapsWithSole->OE,swappedStores->my,PassesOwn->vt,wpAny_passesOwn->fg,pyNext->tS,letOwnedTupleGo->Te,pyIter->wg,wpAny_pure->cB,rawInt->yI,wpAny_pyNext_list_item->OQ,wpAny_pyNext_list_end->Tx,foldedSetIterable->Ew,binaryOp->eV,unaryOp->Fb,compareOp->dJ,CmpOp->pE,behindInMarks->wa,wpAny_truthy_bool->fh,lastMarks->Ez,sizeLine_eq->oR,getMethod->Tc,codeAny->tQ,attributeBase->mq,plainObj_wpAny_Assign_Attribute->aVs,FuncData->eS,BindsTo->kh,wpAny_call->wh,codeAny_mono->wb,wpAny_Call_Name_kw->ee,Keyword->tL,backToKw->yF,keywordEach->yH,NameKind->tO,bindL->dj,bindC->di,cellsFrom->Sz,mem_of_lookup->vy,concat_meets->Tb,noFill_tuple_add->Th,seq_tuple_add->Tl,IsPart->xV,wpAny_field->kP,getItem->dq,wpAny_callSpecial?_slot->ei,wpAny_call_entry->fc,wpAny_newObj_type->tU,seqIndex_of->Tj,subscripted->To,sliceBounds->dw,call_list_seq->NY,typeIs_int->Tp,wpAny_Call_method_late->OF,call_meets->Et,callerA->yG,call->Ss,valueAt->ed,atKey->yE,tupleKind_room_in1->mz,call_meetsIn->dk,closureFor->Ta,wpAny_comprehension_free->OI,wpAny_specialOf->OR,wpAny_pyIter_list->na,Fin->Se,seqItems?->du,codeAny_call_builtin->NZ,wpAny_newList->OM,codeAny_builtin->Eu,wpAny_seqItems->nS,wpAny_tryCatch->wq,wpAny_rule->nc,argBest->vU,wpAny_updateSeq->Tz,wpAny_letGo->fe,plainId_quiet->Ti,intItems->wc,numAt->vW,field->tR,wpAny_setField->Fd,firstArgMember->OA,wpAny_of_eq->Tv,wpAny_handled->OJ,wpAny_pyIter_tuple->wm,callType_new->NX,unpackItems->Tq,wpAny_nextOf_list_end->ON,ZipApart->mn,IsZip->mF,IsPair->jA,wpAny_setField_rec->nh,wpAny_onRaise->Fc,wpAny_updateSeq_pair->Ua,wpAny_attempt->OH,wpAny_pyIter_enum->OO,wpAny_pyIter_zip->OP,methodCallForm->Tf,methodCallPos->OB,bindName->mv,wpAny_bindName->Ts,strKind->Su,Str->cX
open PySem.Around renaming under_plainId->Pz
open PySem.AutoListH renaming list___mul___list_int_3->aTg
open PySem.AutoSeq1 renaming wpAny_loadPart'->Cw
open PySem.Builtin renaming bitAnd->rQ,bitOr->km,bitXor->ko
open PySem.Builtin.List renaming listTooLong->JY
open PySem.Builtin.Slice renaming sliceAdjust->Qa,slicePlaces->Cz
open PySem.Builtin.SmallTypes renaming nextOf->rP,ownedTupleIsFree->Dd,ownedTupleHandOut->JZ
open PySem.Calls renaming Name_function_global->KA,callWith_builtin->Qb,evalArgs_plain->KB
open PySem.Challenge renaming pw_aheadmill_k42_names_told->aTu,rw_aheadmill_k42_names_told->NB
open PySem.Code renaming quiet_builtin->KC
open PySem.EqMixed renaming eq_bool_str->aTv,eq_int_str->aTw,eq_str_bool->aTx,eq_str_int->aTy,ne_bool_str->aTz,ne_int_str->aUa,ne_str_bool->aUb,ne_str_int->aUc
open PySem.EqNone renaming eq_none_none->aUh,eq_none_bool->aUf,eq_none_int->aUg,eq_none_str->aUi,eq_bool_none->aUd,eq_int_none->aUe,eq_str_none->aUj,ne_none_none->aUo,ne_none_bool->aUm,ne_none_int->aUn,ne_none_str->aUp,ne_bool_none->aUk,ne_int_none->aUl,ne_str_none->aUq
open PySem.F renaming slot_tuple_add->Sb,entry_tuple_add->Rz,args_tuple_add_2->Ry,slot_int_rmul->KH,args_dict_pop_2->aUr,args_dict_pop_3->NG,slot_dict_pop->Sa,entry_dict_pop->NH,slot_dict_get->mf,entry_dict_get->Ej,args_dict_get_2->NC,args_dict_get_3->ND,slot_dict_setdefault->NN,entry_dict_setdefault->aUt,args_dict_setdefault_3->aUs,plain_min->NM,entry_min->NJ,entry_min_loop->Ek,plain_min_loop->md,slot_tuple_iterator_next->xS,entry_tuple_iterator_next->Dg,args_tuple_iterator_next_1->De,slot_zip_next->Dh,entry_zip_next->KG,args_zip_next_1->KD,plainAttrs_list->NL,slot_list_append->aUu,type_list_append->aUw,plainAttrs_dict->NK,type_dict_get->NO,type_dict_setdefault->aUv
open PySem.Heap renaming lt_size->cY,SameBut->xT,get?_push_of_some->cT,get?_push_size->gA,size_push->rR,get?_update_self->vj,get?_update_other->ck,ExtBut->ku
open PySem.Heap.SameBut renaming update->Di
open PySem.NameKind renaming free->jF,cell->lq
open PySem.Obj renaming mapSeq->vr,isFreed_of_fields->MT,data_mapFields->Ef,cls_mapFields->MS
open PySem.Paired renaming length->Eg
open PySem.PyData renaming str->Rv,int->sA
open PySem.SeqAt.EqAt renaming int_str->NS,str_int->NT
open PySem.Shared renaming heap->Sv
open PySem.Spec renaming lookup->NP
open PySem.Str renaming ofString->vT
open PySem.Value renaming isStrOf->NU,int->yD,str->nR,none->vz,bool->dg,ref->kO,type->Sw
open PySem.W renaming Frag->bJ,instObj->yC,lookIn->Eo,plainGet->vx,hasDictIn->En,findIn->nQ,handedIn->Em,plainGet_of->Sm,isFn->vw,plainOver->Sn,takerIn->Sq,makesIn->Sk,emptyDict->yB,keepIn->tP,callWith_K->El,callWith_K0->Sg,cellsFrom_some->NR,fnOf->mj,codeIn->Sh,OpenLaw->Sf,WalkO->NQ,kitOne->Sj,kia_one->cz,specialIn->Ep,readsIn->So,findCls->Si,nsIn->vS,mg_of->vR
open PySem.W.SL renaming s2766695959194262286x5->aVg,s5856160107412720595x4->aVl,s658472552662922059x5->aVp,s14018661285674007319x4->aVc,s7097527257260152453x26->aVq,s7174869446012820540x8->aVr,s6070975301684473832x10->aVn,s11030030927630378310x26->aUz,s10062305145149207511x16->aUx,s17162191345867700912x4->aVe,s5946037652744460706x9->aVm,s4278001404047624695x13->aVi,s2742458400755230247x6->aVf,s4209523147560561109x18->aVh,s14755015743595814543x17->aVd,s10220274742760427390x26->aUy,s4290257624100764138x5->aVj,s4860613602091757760x24->aVk,s11443829558043349243x14->aVa,s6511155373996960695x17->aVo,s12411053484034534018x21->aVb
open PySem.Walks renaming dictKeys->NV
open Subtype renaming val->eU
open Sum renaming inl->sC,inr->da
open Sum.inl renaming inj->mm
open True renaming intro->oQ
set_option hygiene false
namespace L2
open PySem PySem.Spec PyProof.Rows
variable {A:cM}{C a b dx it:Addr}{E Q:Value->aI->Prop}{N ps:Yb}{P prog:cA}{apos p pos pos':Pos}{base h h':bI}{body:Xz}{c e tg:aK}{d':Drawn}{es:List aK}{fd:eS}{fp:Xx}{g':Array GenState}{i j t':Nat}{kw:Ym}{m qual x:Str}{mA mg:Str->Xy}{op':pE}{outer:Ys}{ap:Hu}{s s':aI}{scope:gH}{u:Value}{us:Hs}{w:bW}
abbrev aP:=Sum Int Str
def zX:aP->Value->Bool
 |.inl k,v=>Value.isInt k v
 |.inr x,v=>NU x v
def J3(w:bW):aP->Int
 |.inl k=>hashInt k
 |.inr x=>hashStr w x
theorem sS:∀{k:aP}{v:Value},zX k v=aB->(∃i t,k=sC i/\v=yD i t)\/(∃x t,k=da x/\v=nR x t)
 |.inl i,v,h=>by obtain⟨t,e⟩:=Value.isInt_shape h;exact .inl ⟨i,t,rfl,e⟩
 |.inr x,v,h=>by obtain⟨t,e⟩:=Value.isStrOf_shape h;exact .inr ⟨x,t,rfl,e⟩
theorem J4(i:Int)(t:Tok):zX (.inl i) (.int i t)=aB:=by simp[zX,Value.isInt]
theorem J5(x:Str)(t:Tok):zX (.inr x) (.str x t)=aB:=by simp[zX,NU]
theorem J6(a b:Int):decide ((sC a:aP)=sC b)=(a==b):=by
 by_cases e:a=b
 .subst e;simp
 .have h:¬(sC a:aP)=sC b:=λq=>e (mm q);rw[decide_eq_false h];exact(beq_eq_false_iff_ne.mpr e).symm
theorem J9(a b:Str):decide ((da a:aP)=da b)=decide (a=b):=by
 by_cases e:a=b
 .simp
 .have h:¬(da a:aP)=da b:=λq=>e (Sum.inr.inj q);rw[decide_eq_false h,decide_eq_false e]
theorem J7(a:Int)(b:Str):decide ((sC a:aP)=da b)=aH:=decide_eq_false (nofun)
theorem J8(a:Str)(b:Int):decide ((da a:aP)=sC b)=aH:=decide_eq_false (nofun)
def gS(prog:cA)(w:bW):PySem.KeyKind prog w aP where
 is:=zX
 hash:=J3 w
 inj:=λv a b ha hb=>by
  rcases sS ha with⟨i,t,rfl,rfl⟩|⟨x,t,rfl,rfl⟩
  .rcases sS hb with⟨j,u,rfl,e⟩|⟨y,u,rfl,e⟩
   .injection e with e1 _;rw[e1]
   .exact nomatch e
  .rcases sS hb with⟨j,u,rfl,e⟩|⟨y,u,rfl,e⟩
   .exact nomatch e
   .injection e with e1 _;rw[e1]
 byValue:=λk v h=>by rcases sS h with⟨i,t,rfl,rfl⟩|⟨x,t,rfl,rfl⟩<;>rfl
 pyHash:=λhv h=>by
  rcases sS hv with⟨i,t,rfl,rfl⟩|⟨x,t,rfl,rfl⟩
  .exact wpAny_pyHash_int h
  .exact wpAny_pyHash_str h
 eqBool:=λhu hv h=>by
  rcases sS hu with⟨i,t,rfl,rfl⟩|⟨x,t,rfl,rfl⟩
  .rcases sS hv with⟨j,u,rfl,rfl⟩|⟨y,u,rfl,rfl⟩
   .rw[J6]at h;exact wpAny_eqBool_int h
   .rw[J7]at h;exact NS i t y u _ _ _ _ h
  .rcases sS hv with⟨j,u,rfl,rfl⟩|⟨y,u,rfl,rfl⟩
   .rw[J8]at h;exact NT x t j u _ _ _ _ h
   .rw[J9]at h;exact wpAny_eqBool_str h
 «strs»:=λk x t v h=>by
  rcases sS h with⟨i,u,rfl,e⟩|⟨y,u,rfl,e⟩
  .exact nomatch e
  .injection e with e1 _;subst e1;cases v<;>rfl
theorem Q0(prog:cA)(w:bW)(i:Int)(t:Tok):(gS prog w).is (.inl i) (.int i t)=aB:=J4 i t
theorem Q1(prog:cA)(w:bW)(x:Str)(t:Tok):(gS prog w).is (.inr x) (.str x t)=aB:=J5 x t
set_option genCtorIdx true in
inductive V where
 |aG|bl (b:Bool)|int (i:Int)|str (x:Str)|mX (b:Array UInt8)|yv (b:UInt64)|ref (a:Addr)|ty (n:String)
 deriving DecidableEq
abbrev _root_.Xw:=List V
abbrev _root_.Yl:=List (Str×V)
variable {v y:V}{vs xs:Xw}
def RelV:V->Value->Prop
 |.aG,u=>u=vz
 |.bl b,u=>u=dg b
 |.int i,u=>∃t,u=yD i t
 |.str x,u=>∃t,u=nR x t
 |.mX b,u=>∃t,u=Value.bytes b t
 |.yv b,u=>∃t,u=Value.float b t
 |.ref a,u=>u=kO a
 |.ty n,u=>u=Sw n
abbrev Vals:Xw->Hs->Prop:=lz RelV
theorem Vals.length{xs:Xw}{us:Hs}(r:Vals xs us):xs.length=us.length:=Eg r
theorem Vals.get:∀{xs:Xw}{us:Hs}{i:Nat}{x:V},Vals xs us->xs[i]?=aA x->∃u,us[i]?=aA u/\RelV x u
 |_,_,_,_,.nil,e=>by simp at e
 |_,_,0,_,.cons r _,e=>by simp at e;subst e;exact⟨_,rfl,r⟩
 |_,_,i+1,x,.cons _ t,e=>by obtain⟨u,a,b⟩:=Vals.get t (by simpa);exact⟨u,by simpa using a,b⟩
theorem Vals.set{x:V}{u:Value}(r:RelV x u):∀{xs:Xw}{us:Hs} (i:Nat),Vals xs us->Vals (xs.set i x) (us.set i u)
 |_,_,_,.nil=>.nil
 |_,_,0,.cons _ t=>.cons r t
 |_,_,i+1,.cons q t=>.cons q (Vals.set r i t)
theorem Vals.append:∀{xs ys:Xw}{us ws:Hs},Vals xs us->Vals ys ws->Vals (xs++ys) (us++ws)
 |_,_,_,_,.nil,s=>s
 |_,_,_,_,.cons r t,s=>.cons r (Vals.append t s)
theorem Vals.take:∀{xs:Xw}{us:Hs} (n:Nat),Vals xs us->Vals (xs.take n) (us.take n)
 |_,_,0,_=>.nil
 |_,_,_+1,.nil=>.nil
 |_,_,n+1,.cons r t=>.cons r (Vals.take n t)
theorem Vals.drop:∀{xs:Xw}{us:Hs} (n:Nat),Vals xs us->Vals (xs.drop n) (us.drop n)
 |_,_,0,r=>r
 |_,_,_+1,.nil=>.nil
 |_,_,n+1,.cons _ t=>Vals.drop n t
theorem Vals.none_of:∀{xs:Xw}{us:Hs}{i:Nat},Vals xs us->xs[i]?=aD->us[i]?=aD:=λ{xs us i} r e=>by have a:=r.length;have b:=List.getElem?_eq_none_iff.mp e;exact List.getElem?_eq_none_iff.mpr (by lia)
def iA:Option V->Xy->Prop
 |some v,aA u=>RelV v u
 |none,aD=>True
 |_,_=>False
def KV{κ:Type}:List (κ×V)->List (κ×Value)->Prop:=lz λ(p:κ×V) (q:κ×Value)=>p.1=q.1/\RelV p.2 q.2
def kV:aP->V
 |.inl i=>.int i
 |.inr x=>.str x
set_option genCtorIdx true in
inductive HO where
 |lst (xs:Xw)
 |tup (xs:Xw)
 |dK (kvs:List (aP×V))|dT (kvs:List (List aP×V))
 |set (S:Int->Bool) (n:Nat)
 |ins (C dx:Addr) (fs:Yl)
 |own (x:Addr)
 |xd (fs:Yl)
 |met (f x:Addr)
 |Nl (lo hi:Int)
 |dD (o:Obj) (u:HO)
 |bj (ps:Yd)
 |ext (φ:bI->Prop)
variable {o:HO}
abbrev Hp:=Addr->Option HO
variable {H H':Hp}
def bG(H:Hp)(a:Addr)(o:HO):Hp:=λb=>if b=a then aA o else H b
theorem gG:bG H a o a=aA o:=by unfold bG;rw[if_pos rfl]
theorem bZ(h:b≠a):bG H a o b=H b:=by unfold bG;rw[if_neg h]
theorem rH{u:HO}(h:H a=aA o)(h':H b=aA u)(d:o≠u):a≠b:=by intro e;subst e;rw[h]at h';exact d<|dI h'
theorem jT(h:H a=aA o)(h':H b=aD):a≠b:=by intro e;subst e;rw[h]at h';cases h'
section
variable (P:cA)(w:bW)
def hB(H:Hp)(h:bI)(a:Addr):HO->Prop
 |.lst xs=>xs.length<=sizeLine/\∃(its:Hs) (n:Nat),Vals xs its/\h.get? a=aA { cls:=.type "list",data:=.seq its.toArray n }
 |.tup xs=>xs.length<=sizeLine/\∃its:Hs,Vals xs its/\IsTup h a its.toArray
 |.dK kvs=>kvs.length<=sizeLine/\(a==tT)=aH/\∃vs,KV kvs vs/\h.DictOf (gS P w) a vs
 |.dT kvs=>kvs.length<=sizeLine/\(a==tT)=aH/\∃xs:List (List aP×Addr×Value),
  lz (λ(p:List aP×V) (q:List aP×Addr×Value)=>p.1=q.1/\H q.2.1=aA (.tup<|p.1.map kV)/\RelV p.2 q.2.2) kvs xs /\
  ∃o es ep,h.get? a=aA o/\o.ExactDict/\o.data = .dict es ep/\es.toList=xs.map (entryOfKey<|dz<|gS P w)/\(xs.map (·.1)).Nodup
 |.set S n=>h.SetOf (intKind P w) a S n
 |.ins C dx fs=>H dx=aA (.own a)/\fs.length<=1000/\dx≠a/\h.get? a=aA (yC C dx) /\
  ∃mA,h.Ns1 dx mA/\(∀f,iA (fs.lookup f) (mA f))/\Sr mA (fs.map (·.1))
 |.own _=>∃o,h.get? a=aA o
 |.xd fs=>∃mA,h.Ns1 a mA/\∀f,iA (fs.lookup f) (mA f)
 |.Nl lo hi=>∃t u v,h.get? a=aA { cls:=.type "range",data:=.fields #[.int lo t,.int hi u,.int 1 v] }
 |.dD o u=>h.get? a=aA o/\hB H h a u
 |.bj ps=>h.get? a=aA { cls:=.none,data:=.fields ps }
 |.met f x=>h.get? a=aA (W.methodObj (.ref f)<|.ref x)
 |.ext φ=>φ h/\(∃o,h.get? a=aA o)/\∀h1 h2:bI,φ h1->(∀o,h1.get? a=aA o->h2.get? a=aA o)->φ h2
def eW(H:Hp)(h:bI):Prop:=∀a o,H a=aA o->hB P w H h a o
end
theorem hB.lt(x:hB P w H h a o):a<h.objs.size:=by
 cases o with
 |lst xs=>obtain⟨_,_,_,_,e⟩:=x;exact cY e|tup xs=>obtain⟨_,_,_,p⟩:=x;exact p.lt|dK b=>obtain⟨_,_,_,_,o,_,_,e,_⟩:=x;exact cY e|dT b=>obtain⟨_,_,_,_,o,_,_,e,_⟩:=x;exact cY e|set S n=>obtain⟨o,_,_,_,e,_⟩:=x;exact cY e|ins C c fs=>obtain⟨_,_,_,e,_⟩:=x;exact cY e|own y=>obtain⟨_,e⟩:=x;exact cY e|xd fs=>obtain⟨_,⟨_,_,_,e,_⟩,_⟩:=x;exact cY e|Nl lo d=>obtain⟨_,_,_,e⟩:=x;exact cY e|dD ob u=>obtain⟨e,_⟩:=x;exact cY e|bj ps=>exact cY<|x|met f y=>exact cY<|x|ext g=>obtain⟨_,⟨_,e⟩,_⟩:=x;exact cY e
theorem Paired.Ke{α β:Type}{F G:α->β->Prop}:∀{l₁:List α}{l₂:List β},lz F l₁ l₂->(∀a b,F a b->G a b)->lz G l₁ l₂
 |_,_,.nil,_=>.nil
 |_,_,.cons r t,f=>.cons (f _ _ r) (Paired.Ke t f)
theorem hB.vC(x:hB P w H h a o)(k:∀b u,(b=a\/H b=aA (.own a))->h.get? b=aA u->h'.get? b=aA u)
  (ho:∀b,H b=aA (.own a)->H' b=aA (.own a)) (ht:∀b xs,H b=aA (.tup xs)->H' b=aA (.tup xs)):hB P w H' h' a o:=by
 induction o with
 |lst xs=>obtain⟨z,j,n,r,e⟩:=x;exact⟨z,j,n,r,k _ _ (.inl rfl) e⟩|tup xs=>obtain⟨z,j,r,ob,e,c⟩:=x;exact⟨z,j,r,ob,k _ _ (.inl rfl) e,c⟩|dK l=>obtain⟨z,y,s,r,ob,g,i,e,c⟩:=x;exact⟨z,y,s,r,ob,g,i,k _ _ (.inl rfl) e,c⟩|dT l=>obtain⟨z,y,xs,r,ob,g,i,e,c⟩:=x;exact⟨z,y,xs,Paired.Ke r λp q z=>⟨z.1,ht _ _ z.2.1,z.2.2⟩,ob,g,i,k _ _ (.inl rfl) e,c⟩
 |set S n=>obtain⟨ob,g,i,t,e,c⟩:=x;exact⟨ob,g,i,t,k _ _ (.inl rfl) e,c⟩|ins C D fs=>obtain⟨d,z,ne,e,m,⟨od,g,i,A,c⟩,r⟩:=x;exact⟨ho _ d,z,ne,k _ _ (.inl rfl) e,m,⟨od,g,i,k _ _ (.inr d) A,c⟩,r⟩
 |own y=>obtain⟨ob,e⟩:=x;exact⟨ob,k _ _ (.inl rfl) e⟩|xd fs=>obtain⟨m,⟨od,g,i,e,c⟩,r⟩:=x;exact⟨m,⟨od,g,i,k _ _ (.inl rfl) e,c⟩,r⟩|Nl lo E=>obtain⟨t,u,v,e⟩:=x;exact⟨t,u,v,k _ _ (.inl rfl) e⟩|dD ob u B=>obtain⟨e,q⟩:=x;exact⟨k _ _ (.inl rfl) e,B q⟩|bj ps=>have e:=x;exact k a _ (.inl rfl) e
 |met f y=>have e:=x;exact k a _ (.inl rfl) e
 |ext F=>obtain⟨p,⟨o,e⟩,st⟩:=x;exact⟨st _ _ p λo q=>k _ _ (.inl rfl) q,⟨o,k _ _ (.inl rfl) e⟩,st⟩
theorem eW.lt(x:eW P w H h)(e:H a=aA o):a<h.objs.size:=(x a o e).lt
theorem eW.fresh(x:eW P w H h)(e:h.objs.size<=a):H a=aD:=by
 cases q:H a with
 |none=>rfl|some u=>exact absurd (bA (x.lt q) e)<|oP _
theorem eW.kept(x:eW P w H h)(k:∀b u,h.get? b=aA u->h'.get? b=aA u):eW P w H h':=λa o e=>
 (x a o e).vC (λb u _ q=>k b u q) (λ_ q=>q) λ_ _ q=>q
theorem eW.laid(x:eW P w H h)(k:∀b u,h.get? b=aA u->h'.get? b=aA u)(hp:h.objs.size<=a)(new:hB P w (bG H a o) h' a o):eW P w (bG H a o) h':=λb u e=>by
 have hn:=x.fresh hp;by_cases hb:b=a
 .subst hb;rw[gG]at e;cases e;exact new
 .rw[bZ hb]at e;exact(x b u e).vC (λc v _ q=>k c v q) (λc q=>by rw[bZ (jT q hn)];exact q) λc xs q=>by rw[bZ (jT q hn)];exact q
def Rd(H:Hp)(a:Addr)(u:HO):Prop:=H a=aA u\/∃o,H a=aA (.dD o u)
theorem Rd.ok{u:HO}(r:Rd H a u)(x:eW P w H h):hB P w H h a u:=by
 rcases r with r|⟨o,r⟩
 .exact x a u r
 .obtain⟨_,q⟩:=x a _ r;exact q
def fq:Option HO->Prop
 |some (.lst _)=>True
 |some (.dK _)=>True
 |some (.dT _)=>True
 |some (.set _ _)=>True
 |some (.ins _ _ _)=>True
 |some (.ext _)=>True
 |_=>False
section
variable {x e:Addr}{o':HO}
theorem eW.write(ok:eW P w H h)(mu:fq (H x))(he:e=x\/H e=aA (.own x))(k:∀b u,b≠e->h.get? b=aA u->h'.get? b=aA u)(heo:∃u,h'.get? e=aA u)
  (new:hB P w (bG H x o') h' x o'):eW P w (bG H x o') h':=λb u q=>by
 have d:∀c y,H c=aA (.own y)->c≠x:=λc y r z=>by subst z;rw[r]at mu;exact mu
 have f:∀c xs,H c=aA (.tup xs)->c≠x:=λc xs r z=>by subst z;rw[r]at mu;exact mu
 by_cases hb:b=x
 .subst hb;rw[gG]at q;cases q;exact new
 .rw[bZ hb]at q;by_cases a:b=e
  .have g:H b=aA (.own x):=by
    rcases he with z|z
    .exact absurd (a.trans z) hb
    .rw[a];exact z
   rw[q]at g;cases g;obtain⟨v,i⟩:=heo;exact⟨v,a▸i⟩
  .refine(ok b u q).vC (λc v hc r=>k c v ?_ r) (λc r=>by rw[bZ (d c b r)];exact r) λc xs r=>by rw[bZ (f c xs r)];exact r
   rcases hc with rfl|hc
   .exact a
   .rintro rfl
    rcases he with z|z
    .exact d c b hc z
    .rw[hc]at z;cases z;exact hb rfl
end
structure Un(fs ex:Xx)(H H':Hp)(h h':bI):Prop where
 keep:∀b o,h.get? b=aA o->H b=aD->b∉fs->b∉ex->h'.get? b=aA o
 slot:∀b o,h.get? b=aA o->H b=aD->b∈fs->b∉ex->∃sl,h'.get? b=aA { o with slots:=sl }
 free:∀b o,h.get? b=aA o->H b=aD->b∉ex->H' b=aD
 there:∀b o,h.get? b=aA o->b∉ex->∃o',h'.get? b=aA o'
 vH:∀b xs,H b=aA (.tup xs)->H' b=aA (.tup xs)
 qC:∀b o u,H b=aA (.dD o u)->H' b=aA (.dD o u)
 vF:∀b ps,H b=aA (.bj ps)->∃more,H' b=aA (.bj<|ps++more)
section
variable {fs fs' ex ex':Xx}{H1 H2:Hp}{h1 h2:bI}{x e:Addr}
theorem Un.any(u:Un fs ex H H1 h h1){ob:Obj}(q:h.get? b=aA ob)(n:H b=aD)(hx:b∉ex):∃sl,h1.get? b=aA { ob with slots:=sl }:=by
 by_cases hb:b∈fs
 .exact u.slot b ob q n hb hx
 .exact⟨ob.slots,u.keep b ob q n hb hx⟩
theorem Un.kept(k:∀b u,h.get? b=aA u->h'.get? b=aA u):Un fs ex H H h h':=
 ⟨λb ob q _ _ _=>k b ob q,λb ob q _ _ _=>⟨ob.slots,k b ob q⟩,λ_ _ _ n _=>n,λb ob q _=>⟨ob,k b ob q⟩,λ_ _ q=>q,λ_ _ _ q=>q,λ_ ps q=>⟨#[],by rw[q];simp⟩⟩
theorem Un.refl:Un fs ex H H h h:=Un.kept λ_ _ q=>q
theorem Un.laid(k:∀b u,h.get? b=aA u->h'.get? b=aA u)(hp:h.objs.size<=a)(hn:H a=aD):Un fs ex H (bG H a o) h h' where
 keep:=λb u q _ _ _=>k b u q
 slot:=λb u q _ _ _=>⟨u.slots,k b u q⟩
 free:=λb u q n _=>by rw[bZ (bQ<|bA (cY q) hp)];exact n
 there:=λb u q _=>⟨u,k b u q⟩
 vH:=λb xs q=>by rw[bZ (jT q hn)];exact q
 qC:=λb u xs q=>by rw[bZ (jT q hn)];exact q
 vF:=λb ps q=>⟨#[],by rw[bZ (jT q hn),q];simp⟩
theorem Un.write(mu:fq (H x))(he:e=x\/H e=aA (.own x))(k:∀b u,b≠e->h.get? b=aA u->h'.get? b=aA u)(heo:∃u,h'.get? e=aA u):Un fs ex H (bG H x o) h h':=by
 have c:∀b,H b=aD->b≠x:=λb n z=>by subst z;rw[n]at mu;exact mu
 have hb:∀b,H b=aD->b≠e:=λb n z=>by
  subst z;rcases he with r|r
  .exact c b n r
  .rw[n]at r;cases r
 have hm:∀b u,H b=aA u->¬fq (aA u)->b≠x:=λb u q nm z=>by subst z;rw[q]at mu;exact nm mu
 refine⟨λb u q n _ _=>k b u (hb b n) q,λb u q n _ _=>⟨u.slots,k b u (hb b n) q⟩,λb u q n _=>by rw[bZ (c b n)];exact n,λb u q _=>?_,
  λb xs q=>by rw[bZ (hm b _ q λz=>z)];exact q,λb u xs q=>by rw[bZ (hm b _ q λz=>z)];exact q,λb ps q=>⟨#[],by rw[bZ (hm b _ q λz=>z),q];simp⟩⟩
 by_cases a:b=e
 .subst a;exact heo
 .exact⟨u,k b u a q⟩
end
def Ca(h:bI)(H:Hp):Xx:=(Ra h.objs.size).filter λa=>(H a).isSome
def wY(h:bI)(H:Hp):bI:=W.hideAll h (Ca h H)
theorem E2(h:bI)(H:Hp):(wY h H).objs.size=h.objs.size:=W.hideAll_size _ _
theorem E1{o:Obj}(e:h.get? b=aA o)(n:H b=aD):(wY h H).get? b=aA o:=
 W.hideAll_get _ e λhm=>by have q:=(List.mem_filter.mp hm).2;rw[n]at q;simp at q
theorem U6{o:Obj}(e:(wY h H).get? b=aA o):h.get? b=aA o/\H b=aD:=by
 have a:=W.of_hideAll (Ca h H) e;refine⟨a,?_⟩;cases q:H b with
 |none=>rfl|some x=>have hm:b∈Ca h H:=List.mem_filter.mpr ⟨List.mem_range.mpr (cY a),by simp[q]⟩;have z:(wY h H).get? b=aD:=W.hideAll_none (Ca h H) hm;rw[z]at e;cases e
structure Mod(K:bJ)(mg:Str->Xy)(base:bI):Prop where
 ib:K.In base
 glob:base.Ns jG mg
 blt:∃mb,base.Ns Sy mb/\∀x:Str,x≠"__name__"->mb x=mT x
 nolimit:base.NoLimit
structure Cx where
 prog:cA
 w:bW
 K:bJ
 mg:Str->Xy
 base:bI
 A:cM
 N:Yb
 s₀:aI
 H₀:Hp
 env:Env
 outer:Ys
 stack:Ys
 ex:Xx
 fn:Str->Bool
 calm:Bool
 pn:Hu
 xe:Value->aI->Prop
variable {X:Cx}
def qA(l:Ys):Xx:=l.filterMap (·.frame)
noncomputable abbrev Cx.fs(X:Cx):Xx:=qA X.outer
def ot(sc:gH)(x:Str):Prop:=sc.names.lookup x=aA .local\/sc.names.lookup x=aA .cell\/sc.names.lookup x=aA .free
def wB(sc:gH)(x:Str):Prop:=sc.names.lookup x=aA .local\/sc.names.lookup x=aA .cell
def OT(env:Env)(h:bI)(m:Str->Xy)(x:Str)(u:Value):Prop:=
 (env.kindOf x=aA .local/\m x=aA u)\/((env.kindOf x=aA .cell\/env.kindOf x=aA .free)/\∃c,env.cells.lookup x=aA c/\h.IsCell c (aA u))
structure Cx.Ok(X:Cx):Prop where
 mod:Mod X.K X.mg X.base
 kind:X.env.scope.kind = .function
 glob:X.env.globals=jG
 blt:X.env.builtins=Sy
 above:X.s₀.heap.objs.size<=X.env.locals
 inj:∀x y c,X.env.cells.lookup x=aA c->X.env.cells.lookup y=aA c->x=y
 has:∀x,(X.env.kindOf x=aA .cell\/X.env.kindOf x=aA .free)->∃c,X.env.cells.lookup x=aA c
 xx:∀x c,X.fn x=aB->X.env.cells.lookup x=aA c->X.s₀.heap.objs.size<=c
 hd:X.calm=aB->X.A.handled=aD
 frames:X.A.frames=aA X.stack
 Ob:X.stack=X.outer\/(X.stack=X.env::X.outer/\X.env.frame=aA X.env.locals)
 yp:∀b∈X.ex,b≠X.env.locals/\∀x c,X.env.cells.lookup x=aA c->c≠b
 bs:∀b o,X.base.get? b=aA o->X.s₀.heap.get? b=aA o/\X.H₀ b=aD
 wK:X.base.objs.size<=X.s₀.heap.objs.size
 Aq:∀b o,X.base.get? b=aA o->b∉X.ex
 qf:∀b∈X.ex,b∉X.fs
 qD:X.s₀.heap.FunFrames X.base X.outer
 gp:∀b∈X.fs,X.H₀ b=aD
structure Inv(X:Cx)(ap:Hu)(Z:List (Option V))(H:Hp)(s:aI):Prop where
 ok:X.Ok
 os:s.os=X.s₀.os
 bare:vO s.gens
 base:Un X.fs X.ex X.H₀ H X.s₀.heap s.heap
 loc:∃m,s.heap.Ns X.env.locals m/\∀(i:Nat) (x:Str) (v:V),X.N[i]?=aA x->Z[i]?=aA (aA v)->ot X.env.scope x->∃u,RelV v u/\OT X.env s.heap m x u
 cell:∀x c,X.env.cells.lookup x=aA c->∃v,s.heap.IsCell c v
 free:H X.env.locals=aD
 pZ:∀x c,X.env.cells.lookup x=aA c->H c=aD
 pin:∀p∈X.pn++ap,s.heap.get? p.1=aA p.2/\H p.1=aD/\p.1≠X.env.locals/\p.1∉X.fs/\∀v,p.2.data ≠ .cell v
 aZ:eW X.prog X.w H s.heap
 len:Z.length=X.N.length
section
variable {Z:List (Option V)}
theorem Cx.Ok.T8(ok:X.Ok){o:Obj}(e:X.base.get? b=aA o):b∉X.fs:=λhb=>by have:=(ok.qD.mem hb).1;rw[e]at this;cases this
theorem Inv.bs(I:Inv X ap Z H s):∀b o,X.base.get? b=aA o->s.heap.get? b=aA o/\H b=aD:=λb o e=>
 ⟨I.base.keep b o (I.ok.bs b o e).1 (I.ok.bs b o e).2 (I.ok.T8 e) (I.ok.Aq b o e),I.base.free b o (I.ok.bs b o e).1 (I.ok.bs b o e).2 (I.ok.Aq b o e)⟩
theorem Inv.bk(I:Inv X ap Z H s):∀b o,X.base.get? b=aA o->s.heap.get? b=aA o:=λb o e=>(I.bs b o e).1
theorem Inv.mod(I:Inv X ap Z H s):Mod X.K X.mg X.base:=I.ok.mod
theorem Inv.fL(I:Inv X ap Z H s):X.K.In s.heap:=I.ok.mod.ib.keeps I.bk
theorem Inv.lt(I:Inv X ap Z H s):X.env.locals<s.heap.objs.size:=let ⟨_,hn,_⟩:=I.loc;hn.lt
theorem Inv.sz(I:Inv X ap Z H s):X.s₀.heap.objs.size<=s.heap.objs.size:=dG I.ok.above (mS I.lt)
theorem Inv.U0(I:Inv X ap Z H s)(h:s.heap.objs.size<=a):a∉X.fs:=λhb=>by obtain⟨_,o,b,_⟩:=I.ok.qD.mem hb;exact absurd (bA (cY b)<|dG I.sz h)<|oP _
theorem Inv.yU(I:Inv X ap Z H s):∀x c,X.env.cells.lookup x=aA c->c≠X.env.locals:=λx c e z=>by obtain⟨v,o,d,hd⟩:=I.cell x c e;obtain⟨m,⟨f,g,h,a,b,_⟩,_⟩:=I.loc;rw[z,a]at d;cases d;rw[b]at hd;cases hd
theorem Inv.qD(I:Inv X ap Z H s):s.heap.FunFrames X.base X.outer:=by
 have all:∀l,(∀b∈qA l,b∈X.fs)->X.s₀.heap.FunFrames X.base l->s.heap.FunFrames X.base l:=by
  intro l;induction l with
  |nil=>intro _ _;trivial|cons env r f=>intro d hl;obtain⟨g,⟨L,o,a,hn,h,hd⟩,hr⟩:=hl;have c:=d L (by unfold qA;rw[jO,a];exact fP);obtain⟨sl,e⟩:=I.base.slot L o h (I.ok.gp L c) c λz=>I.ok.qf L z c;exact⟨g,⟨L,_,a,hn,e,hd⟩,f (λb hb=>d b (by unfold qA;rw[jO,a];exact hW _ hb)) hr⟩
 exact all X.outer (λ_ hb=>hb) I.ok.qD
theorem Inv.stack(I:Inv X ap Z H s):s.heap.FunFrames X.base X.stack:=by
 rcases I.ok.Ob with e|⟨e,a⟩
 .rw[e];exact I.qD
 .rw[e];obtain⟨m,hn,_⟩:=I.loc;exact .cons (by rw[I.ok.kind];decide) a hn (Heap.get?_none_of_le<|dG I.ok.wK I.ok.above) I.qD
theorem Inv.Oc(I:Inv X ap Z H s):∀b∈qA X.stack,b∈X.env.locals::X.fs:=λb hb=>by
 rcases I.ok.Ob with e|⟨e,a⟩
 .rw[e]at hb;exact hW _ hb
 .rw[e]at hb;unfold qA at hb;rw[jO,a]at hb;exact hb
theorem Inv.HJ(I:Inv X ap Z H s):∀b∈qA X.stack,H b=aD:=λb hb=>by
 rcases List.mem_cons.mp (I.Oc b hb)with e|hb
 .rw[e];exact I.free
 .obtain⟨_,o,a,_⟩:=I.ok.qD.mem hb;exact I.base.free b o a (I.ok.gp b hb) λz=>I.ok.qf b z hb
theorem Inv.step{ch:Xx}(I:Inv X ap Z H s)
  (hch:∀b∈ch,(b∈X.ex\/X.s₀.heap.objs.size<=b)/\b≠X.env.locals/\(∀x c,X.env.cells.lookup x=aA c->c≠b)/\∀p∈X.pn++ap,p.1≠b)
  (keep:∀b o,b≠X.env.locals->b∉X.fs->b∉ch->s.heap.get? b=aA o->H b=aD->h'.get? b=aA o)
  (slot:∀b o,b≠X.env.locals->b∈X.fs->b∉ch->s.heap.get? b=aA o->H b=aD->∃sl,h'.get? b=aA { o with slots:=sl })(free:∀b o,b∉ch->s.heap.get? b=aA o->H b=aD->H' b=aD)
  (there:∀b o,b∉ch->s.heap.get? b=aA o->∃o',h'.get? b=aA o')
  (vH:∀b xs,H b=aA (.tup xs)->H' b=aA (.tup xs))(qC:∀b o u,H b=aA (.dD o u)->H' b=aA (.dD o u))(vF:∀b ps,H b=aA (.bj ps)->∃more,H' b=aA (.bj<|ps++more))
  (ns:∀m,s.heap.Ns X.env.locals m->h'.Ns X.env.locals m)(aZ:eW X.prog X.w H' h')(hg:vO g') :
  Inv X ap Z H' { s with heap:=h',gens:=g',drawn:=d',toks:=t' }:=by
 have t:∀b o,X.s₀.heap.get? b=aA o->b≠X.env.locals:=λb o e=>bQ (bA (cY e) I.ok.above);have g:∀b o,X.s₀.heap.get? b=aA o->b∉X.ex->b∉ch:=λb o e a hb=>by
  rcases(hch b hb).1 with z|z
  .exact a z
  .exact absurd (bA (cY e) z)<|oP _
 have cellK:∀x c,X.env.cells.lookup x=aA c->∀v,s.heap.IsCell c v->h'.IsCell c v:=λx c e v ⟨o,j,hd⟩=>by
  have f:=λz=>(hch c z).2.2.1 x c e rfl;by_cases A:c∈X.fs
  .obtain⟨sl,q⟩:=slot c o (I.yU x c e) A f j (I.pZ x c e);exact⟨_,q,hd⟩
  .exact⟨o,keep c o (I.yU x c e) A f j (I.pZ x c e),hd⟩
 refine⟨I.ok,I.os,hg,⟨λb o e n hb a=>?_,λb o e n hb a=>?_,λb o e n a=>?_,λb o e a=>?_,λb xs e=>vH b xs (I.base.vH b xs e),λb o xs e=>qC b o xs (I.base.qC b o xs e),λb ps e=>?_⟩,?_,λx c e=>?_,?_,λx c e=>?_,λp B=>?_,aZ,I.len⟩
 .exact keep b o (t b o e) hb (g b o e a) (I.base.keep b o e n hb a)<|I.base.free b o e n a
 .obtain⟨sl,h⟩:=I.base.slot b o e n hb a;obtain⟨y,w⟩:=slot b _ (t b o e) hb (g b o e a) h (I.base.free b o e n a);exact⟨y,w⟩
 .obtain⟨o',h⟩:=I.base.there b o e a;exact free b o' (g b o e a) h<|I.base.free b o e n a
 .obtain⟨o',h⟩:=I.base.there b o e a;exact there b o' (g b o e a) h
 .obtain⟨C,h⟩:=I.base.vF b ps e;obtain⟨D,w⟩:=vF b _ h;exact⟨C++D,by rw[w,Array.append_assoc]⟩
 .obtain⟨m,hn,hl⟩:=I.loc;refine⟨m,ns m hn,λi x v h w E=>?_⟩;obtain⟨u,r,l⟩:=hl i x v h w E;refine⟨u,r,?_⟩;rcases l with l|⟨k,c,e,z⟩
  .exact .inl l
  .exact .inr ⟨k,c,e,cellK x c e _ z⟩
 .obtain⟨v,z⟩:=I.cell x c e;exact⟨v,cellK x c e v z⟩
 .obtain⟨m,⟨o,_,_,j,_⟩,_⟩:=I.loc;exact free _ o (λz=>(hch _ z).2.1 rfl) j I.free
 .obtain⟨v,o,j,hd⟩:=I.cell x c e;exact free c o (λz=>(hch c z).2.2.1 x c e rfl) j<|I.pZ x c e
 .obtain⟨e,n,ne,nf,d⟩:=I.pin p B;have f:=λz=>(hch p.1 z).2.2.2 p B rfl;exact⟨keep p.1 p.2 ne nf f e n,free p.1 p.2 f e n,ne,nf,d⟩
theorem Inv.un(I:Inv X ap Z H s)(u:Un X.fs [] H H' s.heap h')(aZ:eW X.prog X.w H' h'):Inv X ap Z H' { s with heap:=h',toks:=t' }:=by
 obtain⟨m,⟨o,i,j,f,r⟩,_⟩:=id I.loc;obtain⟨sl,g⟩:=u.any f I.free (by simp);exact I.step (ch:=[]) (nofun) (λb o _ hb _ e n=>u.keep b o e n hb (by simp)) (λb o _ hb _ e n=>u.slot b o e n hb (by simp)) (λb o _ e n=>u.free b o e n (by simp)) (λb o _ e=>u.there b o e (by simp)) u.vH u.qC u.vF (λk hm=>by obtain⟨l,c,d,a,h⟩:=hm;rw[f]at a;cases a;exact⟨_,c,d,g,h⟩) aZ I.bare
theorem Inv.call{ch:Xx}(I:Inv X ap Z H s)(u:Un (qA X.stack) ch H H' s.heap h')(aZ:eW X.prog X.w H' h')(hg:vO g')
  (hch:∀b∈ch,(b∈X.ex\/X.s₀.heap.objs.size<=b)/\b≠X.env.locals/\(∀x c,X.env.cells.lookup x=aA c->c≠b)/\∀p∈X.pn++ap,p.1≠b) :
  Inv X ap Z H' { s with heap:=h',gens:=g',drawn:=d',toks:=t' }:=by
 obtain⟨m,⟨o,k,l,i,r⟩,_⟩:=id I.loc;obtain⟨sl,f⟩:=u.any i I.free λz=>(hch _ z).2.1 rfl;exact I.step hch (λb o f hb a e n=>u.keep b o e n (λz=>(List.mem_cons.mp<|I.Oc b z).elim f hb) a) (λb o _ _ a e n=>u.any e n a) (λb o a e n=>u.free b o e n a) (λb o a e=>u.there b o e a) u.vH u.qC u.vF (λq hm=>by obtain⟨t,g,h,d,j⟩:=hm;rw[i]at d;cases d;exact⟨_,g,h,f,j⟩) aZ hg
theorem Inv.turned(I:Inv X ap Z H s)(k:∀b o,b≠it->s.heap.get? b=aA o->h'.get? b=aA o)(hn:H it=aD)(hL:it≠X.env.locals)
  (h1:it∈X.ex\/X.s₀.heap.objs.size<=it)(h2:∀x c,X.env.cells.lookup x=aA c->c≠it)(h3:∀p∈X.pn++ap,p.1≠it):Inv X ap Z H { s with heap:=h',toks:=t' }:=by
 have d:∀b u,H b=aA u->b≠it:=λb u e z=>by rw[z,hn]at e;cases e
 refine I.step (ch:=[it]) (λb hb=>?_) (λb o _ _ a e _=>k b o (λz=>a (by simp[z])) e) (λb o _ _ a e _=>⟨o.slots,k b o (λz=>a (by simp[z])) e⟩) (λ_ _ _ _ n=>n)
  (λb o a e=>⟨o,k b o (λz=>a (by simp[z])) e⟩) (λ_ _ e=>e) (λ_ _ _ e=>e) (λb ps e=>⟨#[],by rw[e];simp⟩) (λm hm=>?_) (λb u e=>?_) I.bare
 .have e:b=it:=by simpa using hb
  subst e;exact⟨h1,hL,h2,h3⟩
 .obtain⟨o,f,g,h,r⟩:=hm;exact⟨o,f,g,k _ o (kN hL) h,r⟩
 .refine(I.aZ b u e).vC (λc v a q=>k c v ?_ q) (λ_ q=>q) λ_ _ q=>q;rcases a with z|z
  .rw[z];exact d b u e
  .exact d c _ z
theorem Inv.tok(I:Inv X ap Z H s)(t:Nat):Inv X ap Z H { s with toks:=t }:=I.un Un.refl I.aZ
theorem Inv.kept{t':Nat}(I:Inv X ap Z H s)(k:∀b u,s.heap.get? b=aA u->h'.get? b=aA u):Inv X ap Z H { s with heap:=h',toks:=t' }:=I.un (Un.kept k) (I.aZ.kept k)
theorem Inv.laid{a:Addr}{o:HO}{t':Nat}(I:Inv X ap Z H s)(k:∀b u,s.heap.get? b=aA u->h'.get? b=aA u)(hp:s.heap.objs.size<=a)(new:hB X.prog X.w (bG H a o) h' a o) :
 Inv X ap Z (bG H a o) { s with heap:=h',toks:=t' }:=I.un (Un.laid k hp<|I.aZ.fresh hp) (I.aZ.laid k hp new)
theorem Inv.write{x e:Addr}{o:HO}{t':Nat}(I:Inv X ap Z H s)(mu:fq (H x))(he:e=x\/H e=aA (.own x))(k:∀b u,b≠e->s.heap.get? b=aA u->h'.get? b=aA u)(heo:∃u,h'.get? e=aA u)
 (new:hB X.prog X.w (bG H x o) h' x o):Inv X ap Z (bG H x o) { s with heap:=h',toks:=t' }:=I.un (Un.write mu he k heo) (I.aZ.write mu he k heo new)
theorem Inv.iu{pins':Hu}(I:Inv X ap Z H s)(h:∀p∈pins',s.heap.get? p.1=aA p.2/\H p.1=aD/\p.1≠X.env.locals/\p.1∉X.fs/\∀v,p.2.data ≠ .cell v):Inv X pins' Z H s:=
 ⟨I.ok,I.os,I.bare,I.base,I.loc,I.cell,I.free,I.pZ,λp a=>(List.mem_append.mp a).elim (λz=>I.pin p (vQ _ z)) (h p),I.aZ,I.len⟩
theorem CV(hN:N.Nodup)(a:N[i]?=aA x)(b:N[j]?=aA x):i=j:=by obtain⟨e,c⟩:=List.getElem?_eq_some_iff.mp a;obtain⟨f,d⟩:=List.getElem?_eq_some_iff.mp b;exact(Dv hN).mp (c.trans d.symm)
theorem aLz{M:Model}{Q:Unit->aI->Prop}(I:Inv X ap Z H s)(hN:X.N.Nodup)(hi:X.N[i]?=aA x)(hx:wB X.env.scope x)(r:RelV v u)
  (h:∀s',Inv X ap (Z.set i<|aA v) H s'->(∃a,xT a s.heap s'.heap/\(a=X.env.locals\/X.env.cells.lookup x=aA a))->Q () s')(hf:X.fn x=aB\/X.env.scope.names.lookup x=aA .local:=by first|exact .inl rfl|exact .inr rfl|assumption):aS M A (Tn X.env x u) Q E s:=by
 obtain⟨m,hn,hl⟩:=id I.loc;have F:(X.env.scope.kind == .class||(X.env.scope.kind == .module&&X.env.locals != X.env.globals))=aH:=by rw[I.ok.kind];rfl
 have w:i<Z.length:=by rw[I.len];exact(List.getElem?_eq_some_iff.mp hi).1
 have yU:=I.yU;have tracked:∀{a:Addr}{D:bI},(∃o,s.heap.get? a=aA o/\H a=aD)->xT a s.heap D->eW X.prog X.w H D:=λ{a D} ha f b ob e=>by
  obtain⟨_,_,l⟩:=ha;refine(I.aZ b ob e).vC (λc N hc q=>(f.2 c ?_).trans q) (λ_ q=>q) λ_ _ q=>q;rintro rfl
  rcases hc with rfl|hc
  .rw[l]at e;cases e
  .rw[l]at hc;cases hc
 rcases hx with hk|hk
 .refine wpAny_storeName_local hk hn (λD P f=>?_) F;obtain⟨oL,_,_,R,_⟩:=id hn;refine h _ ⟨I.ok,I.os,I.bare,⟨λb o e n hb hx=>?_,λb o e n hb hx=>?_,I.base.free,λb o e hx=>?_,I.base.vH,I.base.qC,I.base.vF⟩,⟨_,P,λj y S g t T=>?_⟩,λy c e=>?_,I.free,I.pZ,λp U=>?_,tracked ⟨oL,R,I.free⟩ f,by simpa using I.len⟩ ⟨_,f,.inl rfl⟩
  .exact(f.2 b<|bQ<|bA (cY e) I.ok.above).trans (I.base.keep b o e n hb hx)
  .obtain⟨sl,g⟩:=I.base.slot b o e n hb hx;exact⟨sl,(f.2 b<|bQ<|bA (cY e) I.ok.above).trans g⟩
  .obtain⟨W,g⟩:=I.base.there b o e hx;exact⟨W,(f.2 b<|bQ<|bA (cY e) I.ok.above).trans g⟩
  .by_cases B:j=i
   .subst B;rw[hi]at g;cases g;rw[mQ w]at t;cases t;exact⟨u,r,.inl ⟨hk,by simp⟩⟩
   .rw[lO (kN B)]at t;obtain⟨Y,ZG,q⟩:=hl j y S g t T;refine⟨Y,ZG,?_⟩;rcases q with⟨k,e⟩|⟨k,c,e,z⟩
    .refine .inl ⟨k,?_⟩;have:y≠x:=λe=>B (CV hN g<|e▸hi);simp[this,e]
    .exact .inr ⟨k,c,e,z.sameBut f (yU y c e)⟩
  .obtain⟨N,z⟩:=I.cell y c e;exact⟨N,z.sameBut f (yU y c e)⟩
  .obtain⟨e,n,ne,nf,d⟩:=I.pin p U;exact⟨(f.2 p.1 ne).trans e,n,ne,nf,d⟩
 .have C:X.fn x=aB:=by
   rcases hf with z|z
   .exact z
   .rw[z]at hk;cases hk
  obtain⟨c,hc⟩:=I.ok.has x (.inl hk);obtain⟨N,z⟩:=I.cell x c hc;refine wpAny_storeName_cell I.ok.kind hk hc z<|λD G f=>?_;obtain⟨oc,J,K⟩:=id z;refine h { s with heap:=D } ⟨I.ok,I.os,I.bare,⟨λb o e n hb hx=>?_,λb o e n hb hx=>?_,I.base.free,λb o e hx=>?_,I.base.vH,I.base.qC,I.base.vF⟩,⟨m,hn.sameBut f (kN<|yU x c hc),λj y S g t T=>?_⟩,λy O e=>?_,I.free,I.pZ,λp U=>?_,tracked ⟨oc,J,I.pZ x c hc⟩ f,by simpa using I.len⟩ ⟨c,f,.inr hc⟩
  .exact(f.2 b<|bQ<|bA (cY e)<|I.ok.xx x c C hc).trans (I.base.keep b o e n hb hx)
  .obtain⟨sl,g⟩:=I.base.slot b o e n hb hx;exact⟨sl,(f.2 b<|bQ<|bA (cY e)<|I.ok.xx x c C hc).trans g⟩
  .obtain⟨W,g⟩:=I.base.there b o e hx;exact⟨W,(f.2 b<|bQ<|bA (cY e)<|I.ok.xx x c C hc).trans g⟩
  .by_cases B:j=i
   .subst B;rw[hi]at g;cases g;rw[mQ w]at t;cases t;exact⟨u,r,.inr ⟨.inl hk,c,hc,G⟩⟩
   .rw[lO (kN B)]at t;obtain⟨Y,ZG,q⟩:=hl j y S g t T;refine⟨Y,ZG,?_⟩;rcases q with q|⟨k,O,e,z'⟩
    .exact .inl q
    .refine .inr ⟨k,O,e,z'.sameBut f ?_⟩;rintro rfl
     exact B<|CV hN g<|I.ok.inj _ _ _ e hc▸hi
  .by_cases L:O=c
   .subst L;exact⟨_,G⟩
   .obtain⟨w2,z2⟩:=I.cell y O e;exact⟨w2,z2.sameBut f L⟩
  .obtain⟨e,n,ne,nf,d⟩:=I.pin p U;refine⟨(f.2 p.1 ?_).trans e,n,ne,nf,d⟩;intro q;rw[q,J]at e;have q':=dI e;exact d N<|q'▸K
theorem ji{M:Model}{Q:Unit->aI->Prop}(I:Inv X ap Z H s)(hN:X.N.Nodup)(hi:X.N[i]?=aA x)(hx:wB X.env.scope x)(r:RelV v u)
  (h:∀s',Inv X ap (Z.set i<|aA v) H s'->Q () s')(hf:X.fn x=aB\/X.env.scope.names.lookup x=aA .local:=by first|exact .inl rfl|exact .inr rfl|assumption):aS M A (Tn X.env x u) Q E s:=
 aLz I hN hi hx r (λs' a _=>h s' a) hf
theorem Inv.VV{ch:Xx}(I:Inv X ap Z H s)(ho:s'.os=s.os)(u:Un (qA X.stack) ch H H' s.heap s'.heap)(aZ:eW X.prog X.w H' s'.heap)(hg:vO s'.gens)
  (hch:∀b∈ch,(b∈X.ex\/X.s₀.heap.objs.size<=b)/\b≠X.env.locals/\(∀x c,X.env.cells.lookup x=aA c->c≠b)/\∀p∈X.pn++ap,p.1≠b):Inv X ap Z H' s':=by
 obtain⟨d,f,g,h,a⟩:=s';have e:=ho;subst e;exact I.call u aZ hg hch
end
abbrev XK:=Value->ZF->Hp->Prop
abbrev St:=List (Option V)
variable {Z:St}
abbrev VK:=V->Hp->Prop
abbrev TE:=St->Hp->VK->Prop
variable {tb te:TE}
abbrev TT:=St->Hp->(Bool->Hp->Prop)->Prop
variable {tc:TT}
abbrev TA:=St->Hp->(Xw->Hp->Prop)->Prop
structure Ends where
 nx:St->Hp->Prop
 rt:VK
 bk:St->Hp->Prop:=λ_ _=>False
 ct:St->Hp->Prop:=λ_ _=>False
abbrev TS:=Ends->St->Hp->Prop
def EP(X:Cx)(ap:Hu)(Z:St)(Q:VK)(u:Value)(s':aI):Prop:=∃v H',Inv X ap Z H' s'/\RelV v u/\Q v H'
def TP(X:Cx)(ap:Hu)(Z:St)(Q:Bool->Hp->Prop)(b:Bool)(s':aI):Prop:=∃H',Inv X ap Z H' s'/\Q b H'
def AP(X:Cx)(ap:Hu)(Z:St)(Q:Xw->Hp->Prop)(us:Hs)(s':aI):Prop:=∃vs H',Inv X ap Z H' s'/\Vals vs us/\Q vs H'
def SP(X:Cx)(ap:Hu)(D:Ends)(f:Flow)(s':aI):Prop:=
 match f with
 |.next=>∃Z' H',Inv X ap Z' H' s'/\D.nx Z' H'
 |.brk=>∃Z' H',Inv X ap Z' H' s'/\D.bk Z' H'
 |.cont=>∃Z' H',Inv X ap Z' H' s'/\D.ct Z' H'
 |.ret u=>∃v Z' H',Inv X ap Z' H' s'/\RelV v u/\D.rt v H'
def PE(X:Cx)(e:aK)(t:TE):Prop:=
 ∀(ap:Hu) (s:aI) (Z:St) (H:Hp) (Q:VK),Inv X ap Z H s->t Z H Q->aS (aY X.prog X.w) X.A (eval e X.env) (EP X ap Z Q) X.xe s
def PT(X:Cx)(e:aK)(t:TT):Prop:=
 ∀(ap:Hu) (s:aI) (Z:St) (H:Hp) (Q:Bool->Hp->Prop),Inv X ap Z H s->t Z H Q->aS (aY X.prog X.w) X.A (isTrue e X.env<|eval e X.env) (TP X ap Z Q) X.xe s
def PW(X:Cx)(e:aK)(t:TT):Prop:=
 ∀(whole:Sem Value) (ap:Hu) (s:aI) (Z:St) (H:Hp) (Q:Bool->Hp->Prop),Inv X ap Z H s->t Z H Q->aS (aY X.prog X.w) X.A (isTrue e X.env whole) (TP X ap Z Q) X.xe s
theorem PW.pt{t:TT}(h:PW X e t):PT X e t:=h _
def PA(X:Cx)(es:List aK)(t:TA):Prop:=
 ∀(pos:Pos) (ap:Hu) (s:aI) (Z:St) (H:Hp) (Q:Xw->Hp->Prop),Inv X ap Z H s->t Z H Q->aS (aY X.prog X.w) X.A (spliced<|lQ pos<|eF es X.env) (AP X ap Z Q) X.xe s
def PS(X:Cx)(st:Stmt)(t:TS):Prop:=
 ∀(ap:Hu) (s:aI) (Z:St) (H:Hp) (D:Ends),Inv X ap Z H s->t D Z H->aS (aY X.prog X.w) X.A (exec st X.env) (SP X ap D) X.xe s
def sE(X:Cx)(st:Xz)(t:TS):Prop:=
 ∀(ap:Hu) (s:aI) (Z:St) (H:Hp) (D:Ends),Inv X ap Z H s->t D Z H->aS (aY X.prog X.w) X.A (execs st X.env) (SP X ap D) X.xe s
theorem bC{α:Type}{t:Sem α}{Q Q':α->aI->Prop}{M:Model}(h:aS M A t Q E s)(hQ:∀a s,Q a s->Q' a s):aS M A t Q' E s:=wj h hQ λ_ _ x=>x
section
def aNl(i:Nat):TE:=λZ H Q=>∃v,Z[i]?=aA (aA v)/\Q v H
def tC(v:V):TE:=λ_ H Q=>Q v H
theorem aBk(hN:X.N[i]?=aA x)(hv:ot X.env.scope x)(hd:(x==("__debug__":Str))=aH:=by decide)(hcd:(x==("__classdict__":Str))=aH:=by decide):PE X (.Name x pos) (aNl i):=by
 intro ap s d H Q I h;obtain⟨v,e,h⟩:=h;obtain⟨m,hn,hl⟩:=I.loc;obtain⟨u,r,l⟩:=hl i x v hN e hv;have fin:EP X ap d Q u s:=⟨v,H,I,r,h⟩;rcases l with⟨hk,hm⟩|⟨hk,c,b,a⟩
 .exact Tr (OL I.ok.kind hk hn hm fin) hd
 .rcases hk with hk|hk
  .exact Tr (OK I.ok.kind hk b a fin) hd
  .exact Tr (wpAny_loadName_free I.ok.kind hk b a fin hcd) hd
theorem DP{i j pos}:PE X (.Constant (.int i) j pos) (tC<|.int i):=λ_ _ _ H _ I h=>wpAny_Constant_int ⟨.int i,H,I.tok _,⟨_,rfl⟩,h⟩
theorem Ll{b j pos}:PE X (.Constant (.bool b) j pos) (tC<|.bl b):=λ_ _ _ H _ I h=>Constant_bool ⟨.bl b,H,I,rfl,h⟩
theorem Lm{j pos}:PE X (.Constant .none j pos) (tC .aG):=λ_ _ _ H _ I h=>Constant_none ⟨.aG,H,I,rfl,h⟩
theorem DQ{x j pos}:PE X (.Constant (.str x) j pos) (tC<|.str x):=λ_ _ _ H _ I h=>Calls.Constant_str ⟨.str x,H,I.tok _,⟨_,rfl⟩,h⟩
def Gl(X:Cx)(x:Str):Prop:=X.env.kindOf x=aA .globalImplicit
theorem rq(I:Inv X ap Z H s)(hg:Gl X x)(hm:X.mg x=aA u)(h:Q u s)
  (hd:(x==("__debug__":Str))=aH:=by decide):aS (aY X.prog X.w) X.A (eval (.Name x pos) X.env) Q E s:=
 KA I.ok.kind hg (Calls.loadGlobal_global (by rw[I.ok.glob];exact I.mod.glob.keeps I.bk) hm h) hd
theorem xD(I:Inv X ap Z H s)(hg:Gl X x)(hm:X.mg x=aD)(hv:mT x=aA u)(h:Q u s)
  (hn:x≠"__name__":=by decide)(hd:(x==("__debug__":Str))=aH:=by decide):aS (aY X.prog X.w) X.A (eval (.Name x pos) X.env) Q E s:=by
 obtain⟨c,a,b⟩:=I.mod.blt;exact KA I.ok.kind hg (Calls.loadGlobal_builtin (by rw[I.ok.glob];exact I.mod.glob.keeps I.bk) hm (by rw[I.ok.blt];exact a.keeps I.bk) ((b x hn).trans hv) h) hd
theorem DO(hg:Gl X x)(hm:X.mg x=aA u)(r:RelV v u)(hd:(x==("__debug__":Str))=aH:=by decide):PE X (.Name x pos) (tC v):=
 λ_ _ _ H _ I h=>rq I hg hm ⟨v,H,I,r,h⟩ hd
theorem aAk(hg:Gl X x)(hm:X.mg x=aD)(hv:mT x=aA u)(r:RelV v u)(hn:x≠"__name__":=by decide)(hd:(x==("__debug__":Str))=aH:=by decide):PE X (.Name x pos) (tC v):=
 λ_ _ _ H _ I h=>xD I hg hm hv ⟨v,H,I,r,h⟩ hn hd
variable {a b:aK}{ta:TE}
variable {tA tB':TT}{rest:List aK}
def aMn(t u:TT):TT:=λZ H Q=>t Z H λc H1=>if c=aB then u Z H1 Q else Q aH H1
def tOr(t u:TT):TT:=λZ H Q=>t Z H λc H1=>if c=aB then Q aB H1 else u Z H1 Q
def aNc(t:TT):TT:=λZ H Q=>t Z H λc H1=>Q (!c) H1
theorem aDr(ha:PT X a tA):PW X (.BoolOp .And [a] pos) tA:=by
 intro d ap s b H Q I h;refine isTrue_and<|bC (ha ap s b H Q I h) λc s1 e=>?_;cases c with
 |true=>exact isTrue_and_nil e|false=>exact e
theorem aDu(ha:PT X a tA):PW X (.BoolOp .Or [a] pos) tA:=by
 intro d ap s b H Q I h;refine isTrue_or<|bC (ha ap s b H Q I h) λc s1 e=>?_;cases c with
 |false=>exact isTrue_or_nil e|true=>exact e
theorem aDq(ha:PT X a tA)(hb:PW X (.BoolOp .And (b::rest) pos) tB'):PW X (.BoolOp .And (a::b::rest) pos) (aMn tA tB'):=by
 intro g ap s d H Q I h;refine isTrue_and<|bC (ha ap s d H _ I h) λc s1 ⟨H1,e,f⟩=>?_;cases c with
 |true=>exact hb g ap s1 d H1 Q e f|false=>exact⟨H1,e,f⟩
theorem aDt(ha:PT X a tA)(hb:PW X (.BoolOp .Or (b::rest) pos) tB'):PW X (.BoolOp .Or (a::b::rest) pos) (tOr tA tB'):=by
 intro g ap s d H Q I h;refine isTrue_or<|bC (ha ap s d H _ I h) λc s1 ⟨H1,e,f⟩=>?_;cases c with
 |true=>exact⟨H1,e,f⟩|false=>exact hb g ap s1 d H1 Q e f
theorem aDm(ha:PT X a tA):PT X (.UnaryOp .Not a pos) (aNc tA):=by intro ap s b H Q I h;exact isTrue_not<|ha ap s b H (λc H1=>Q (!c) H1) I h
theorem aBd{op}{t:TE}(h:PE X a t):PE X (.BoolOp op [a] pos) t:=λap s b H Q I hw=>BoolOp_one (h ap s b H Q I hw)
def tIf(t:TT)(ta tb:TE):TE:=λZ H Q=>t Z H λc H1=>if c=aB then ta Z H1 Q else tb Z H1 Q
theorem aAv(hc:PT X c tA)(ha:PE X a ta)(hb:PE X b tb):PE X (.IfExp c a b pos) (tIf tA ta tb):=by
 intro ap s e H Q I h;refine wpAny_IfExp<|bC (hc ap s e H _ I h) λd s1 ⟨H1,f,g⟩=>?_;cases d with
 |true=>exact ha ap s1 e H1 Q f g|false=>exact hb ap s1 e H1 Q f g
end
def dM(K:bJ)(H:Hp)(a:Addr)(xs:Xw):Prop:=
 Rd H a (.lst xs) \/
  ∃(o:Obj) (its:Yd) (n:Nat),K.lookup a=aA o/\o.cls = .type "list"/\o.dict=aD/\o.data = .seq its n/\its.size<=sizeLine/\Vals xs its.toList
def eC(K:bJ)(H:Hp)(a:Addr)(xs:Xw):Prop:=
 Rd H a (.tup xs) \/
  ∃(o:Obj) (its:Yd) (n:Nat),K.lookup a=aA o/\o.cls = .type "tuple"/\o.data = .seq its n/\its.size<=sizeLine/\Vals xs its.toList
def OW:Value->Option V
 |.none=>aA .aG
 |.bool b=>aA (.bl b)
 |.int i _=>aA (.int i)
 |.str x _=>aA (.str x)
 |.bytes b _=>aA (.mX b)
 |.float b _=>aA (.yv b)
 |.ref a=>aA (.ref a)
 |.type n=>aA (.ty n)
 |_=>aD
theorem RelV.abs{x:V}(r:RelV x u):OW u=aA x:=by
 cases x with
 |aG=>cases r;rfl|bl _=>cases r;rfl|int _=>obtain⟨t,rfl⟩:=r;rfl|str _=>obtain⟨t,rfl⟩:=r;rfl|mX _=>obtain⟨t,rfl⟩:=r;rfl|yv _=>obtain⟨t,rfl⟩:=r;rfl|ref _=>cases r;rfl|ty _=>cases r;rfl
theorem RelV.inj{x:V}(r:RelV x u)(q:RelV y u):x=y:=dI (r.abs.symm.trans q.abs)
theorem Vals.inj:∀{xs ys:Xw}{us:Hs},Vals xs us->Vals ys us->xs=ys
 |_,_,_,.nil,.nil=>rfl|_,_,_,.cons r t,.cons a b=>by rw[r.inj a,Vals.inj t b]
section
variable {ys:Xw}
theorem dM.of{K:bJ}(h:H a=aA (.lst xs)):dM K H a xs:=.inl (.inl h)
theorem eC.of{K:bJ}(h:H a=aA (.tup xs)):eC K H a xs:=.inl (.inl h)
theorem Inv.list(I:Inv X ap Z H s)(h:dM X.K H a xs):∃its:Hs,Vals xs its/\PlainL s.heap a its.toArray/\xs.length<=sizeLine:=by
 rcases h with h|⟨o,its,n,b,c,hd,d,f,r⟩
 .obtain⟨z,its,n,r,e⟩:=h.ok I.aZ;exact⟨its,r,⟨_,n,e,rfl,rfl,rfl⟩,z⟩
 .refine⟨its.toList,r,⟨o,n,I.fL a o b,c,hd,by simpa using d⟩,?_⟩;have e:=r.length;simp only[cg]at e;lia
theorem Inv.tuple(I:Inv X ap Z H s)(h:eC X.K H a xs):∃its:Hs,Vals xs its/\IsTup s.heap a its.toArray/\xs.length<=sizeLine:=by
 rcases h with h|⟨o,its,n,b,c,d,f,r⟩
 .obtain⟨z,its,r,p⟩:=h.ok I.aZ;exact⟨its,r,p,z⟩
 .refine⟨its.toList,r,⟨o,I.fL a o b,c,n,by simpa using d⟩,?_⟩;have e:=r.length;simp only[cg]at e;omega
theorem Inv.BX(I:Inv X ap Z H s)(h:dM X.K H a xs)(h':dM X.K H a ys):xs=ys:=by
 obtain⟨c,r,⟨o,n,e,_,_,d⟩,_⟩:=I.list h;obtain⟨b,i,⟨j,k,f,_,_,g⟩,_⟩:=I.list h';rw[e]at f;cases f;rw[d]at g;injection g with d1 _;have:c=b:=by simpa using congrArg JW d1
 subst this;exact r.inj i
theorem Inv.IE(I:Inv X ap Z H s)(h:eC X.K H a xs)(h':eC X.K H a ys):xs=ys:=by
 obtain⟨c,r,⟨o,e,_,n,d⟩,_⟩:=I.tuple h;obtain⟨b,i,⟨j,f,_,k,g⟩,_⟩:=I.tuple h';rw[e]at f;cases f;rw[d]at g;injection g with d1 _;have:c=b:=by simpa using congrArg JW d1
 subst this;exact r.inj i
end
section
variable {st:Stmt}{rest:Xz}{t u:TS}
def HS:TS:=λD Z H=>D.nx Z H
def aNj(t u:TS):TS:=λD Z H=>t { D with nx:=u D } Z H
theorem aDj:sE X [] HS:=λ_ _ a H _ I h=>Tu ⟨a,H,I,h⟩
theorem aDi(h1:PS X st t)(h2:sE X rest u):sE X (st::rest) (aNj t u):=by
 intro ap s b H D I h;refine wpAny_execs_cons<|bC (h1 ap s b H { D with nx:=u D } I h) λf s1 q=>?_;cases f with
 |next=>obtain⟨a,c,d,q⟩:=q;exact h2 ap s1 a c D d q
 |ret v=>exact q|brk=>exact q|cont=>exact q
def aMr:TS:=λD Z H=>D.bk Z H
def aMs:TS:=λD Z H=>D.ct Z H
theorem aDc:PS X (.Pass pos) HS:=λ_ _ a H _ I h=>wpAny_Pass ⟨a,H,I,h⟩
theorem aCt:PS X (.Break pos) aMr:=λ_ _ a H _ I h=>wpAny_Break ⟨a,H,I,h⟩
theorem aCu:PS X (.Continue pos) aMs:=λ_ _ a H _ I h=>wpAny_Continue ⟨a,H,I,h⟩
theorem Inv.quiet(I:Inv X ap Z H s):interactive X.env=aH:=by simp[interactive,I.ok.kind]
def aMu(te:TE):TS:=λD Z H=>te Z H λ_ H1=>D.nx Z H1
theorem aCv(he:PE X e te)(hs:vX e aD pos.line X.env=pure aH:=by rfl):PS X (.Expr e pos) (aMu te):=by intro ap s a H D I h;exact wpAny_Expr_any (bC (he ap s a H _ I h) λv s1 ⟨x,H1,b,d,c⟩=>⟨a,H1,b,c⟩) I.quiet hs
def aNh(te:TE):TS:=λD Z H=>te Z H D.rt
theorem aDd(he:PE X e te):PS X (.Return (aA e) pos) (aNh te):=by intro ap s a H D I h;exact wpAny_Return_some<|bC (he ap s a H _ I h) λv s1 ⟨x,H1,b,c,d⟩=>⟨x,a,H1,b,c,d⟩
def aNi:TS:=λD _ H=>D.rt .aG H
theorem aDe:PS X (.Return aD pos) aNi:=λ_ _ a H _ I h=>wpAny_Return_none ⟨.aG,a,H,I,rfl,h⟩
def aMy(c:TT)(t u:TS):TS:=λD Z H=>c Z H λb H1=>if b=aB then t D Z H1 else u D Z H1
theorem aCz{a b:Xz}(hc:PT X c tc)(ha:sE X a t)(hb:sE X b u):PS X (.If c a b pos) (aMy tc t u):=by
 intro ap s e H D I h;refine wpAny_If<|bC (hc ap s e H _ I h) λd s1 ⟨H1,f,g⟩=>?_;cases d with
 |true=>exact ha ap s1 e H1 D f g|false=>exact hb ap s1 e H1 D f g
def aNa:TS:=λ_ _ _=>False
theorem aDa:PS X st aNa:=λ_ _ _ _ _ _ h=>h.elim
end
abbrev TG:=V->St->Hp->(St->Hp->Prop)->Prop
abbrev yP:=Xw->St->Hp->(St->Hp->Prop)->Prop
def PG(X:Cx)(target:aK)(t:TG):Prop:=
 ∀(ap:Hu) (s:aI) (Z:St) (H:Hp) (v:V) (u:Value) (Q:St->Hp->Prop),Inv X ap Z H s->RelV v u->t v Z H Q ->
  aS (aY X.prog X.w) X.A (dh target X.env u) (λ_ s'=>∃Z' H',Inv X ap Z' H' s'/\Q Z' H') X.xe s
def oo(X:Cx)(ts:List aK)(t:yP):Prop:=
 ∀(ap:Hu) (s:aI) (Z:St) (H:Hp) (vs:Xw) (us:Hs) (Q:St->Hp->Prop),Inv X ap Z H s->Vals vs us->t vs Z H Q ->
  aS (aY X.prog X.w) X.A (Er ((sD ts X.env).map (·.2)) us) (λ_ s'=>∃Z' H',Inv X ap Z' H' s'/\Q Z' H') X.xe s
abbrev Ft:=V->V->V->Hp->(Hp->Prop)->Prop
def Fp(X:Cx)(t:Ft):Prop:=
 ∀(ap:Hu) (s:aI) (Z:St) (H:Hp) (o i v:V) (ov iv u:Value) (Q:Hp->Prop),Inv X ap Z H s->RelV o ov->RelV i iv->RelV v u->t o i v H Q ->
  aS (aY X.prog X.w) X.A (setItem ov iv u) (λ_ s'=>∃H',Inv X ap Z H' s'/\Q H') X.xe s
abbrev xh:=V->V->Hp->VK->Prop
def xf(X:Cx)(op:rZ)(t:xh):Prop:=
 ∀(ap:Hu) (s:aI) (Z:St) (H:Hp) (x y:V) (v u:Value) (Q:VK),Inv X ap Z H s->RelV x v->RelV y u->t x y H Q ->
  aS (aY X.prog X.w) X.A (Td op v u) (EP X ap Z Q) X.xe s
def Zq(i:Nat):TG:=λv Z H Q=>Q (Z.set i<|aA v) H
theorem aBl(hN:X.N.Nodup)(hi:X.N[i]?=aA x)(hx:wB X.env.scope x)(hf:X.fn x=aB\/X.env.scope.names.lookup x=aA .local:=by first|exact .inl rfl|exact .inr rfl|assumption):PG X (.Name x pos) (Zq i):=by intro ap s b H v u Q I r h;exact OG<|ji I hN hi hx r (λc a=>⟨_,H,a,h⟩) hf
def B6:yP:=λvs Z H Q=>vs=[]/\Q Z H
def B5(t:TG)(u:yP):yP:=λvs Z H Q=>∃v r,vs=v::r/\t v Z H λZ' H'=>u r Z' H' Q
theorem aBp:oo X [] B6:=by intro ap s a H b us Q I r h;obtain⟨e,h⟩:=h;subst e;exact NW ⟨a,H,I,h⟩
theorem aBo{t:TG}{u:yP}(h1:PG X e t)(h2:oo X es u)
  (hs:(sD (e::es) X.env).map (·.2)=dh e X.env::(sD es X.env).map (·.2):=by rfl):oo X (e::es) (B5 t u):=by
 intro ap s b H i us Q I r h;obtain⟨v,j,c,h⟩:=h;subst c;cases r with
 |cons r d=>rw[hs];exact Es<|bC (h1 ap s b H _ _ _ I r h) λ_ s1 ⟨a,H1,f,g⟩=>h2 ap s1 a H1 _ _ Q f d g
def zl(to ti:TE)(t:Ft):TG:=λv Z H Q=>to Z H λo H1=>ti Z H1 λi H2=>t o i v H2 λH3=>Q Z H3
theorem aBn{o i:aK}{to ti:TE}{t:Ft}(ho:PE X o to)(hi:PE X i ti)(hs:Fp X t)
  (ha:∀v,dh (.Subscript o i pos) X.env v=(do
   let ov <- mx [v] (eval o X.env)
   let iv <- mx [v,ov] (eval i X.env)
   Fa pos
   mx [v,ov,iv] (setItem ov iv v)
   release [v,ov,iv] []):=by intro _;rfl):PG X (.Subscript o i pos) (zl to ti t):=by
 intro ap s a H v u Q I r h;refine aQ<|pI<|bC (ho ap s a H _ I h) λov s1 b=>?_;obtain⟨x,H1,c,d,e⟩:=b;refine aQ<|pI<|bC (hi ap s1 a H1 _ c e) λiv s2 b=>?_;obtain⟨y,f,g,j,k⟩:=b;exact aQ<|nj<|aQ<|pI<|bC (hs ap s2 a f x y v ov iv u _ g d j r k) λ_ p ⟨l,m,n⟩=>wpAny_release ⟨a,l,m,n⟩
def HM(te:TE)(g:TG):TS:=λD Z H=>te Z H λx H1=>g x Z H1 D.nx
theorem aCr{g:TG}(he:PE X e te)(hg:PG X tg g)(hs:OE [tg] e pos.line X.env=pure aH:=by rfl)(hw:my [tg] e X.env=pure aD:=by rfl)
  (h1:(sD [tg] X.env).map (·.2)=[dh tg X.env]:=by rfl):PS X (.Assign [tg] e pos) (HM te g):=by
 intro ap s a H D I h;refine wpAny_Assign_stores (bC (he ap s a H _ I h) λv s1 ⟨x,H1,b,c,d⟩=>?_) hs hw;rw[h1];exact bC (hg ap s1 a H1 x v _ b c d) λ_ s2 q=>q
def aMp(i:Nat)(te:TE)(ti:xh):TS:=λD Z H=>∃x,Z[i]?=aA (aA x)/\te Z H λy H1=>ti x y H1 λz H2=>D.nx (Z.set i<|aA z) H2
theorem aCs{op:rZ}{ti:xh}(hN:X.N.Nodup)(hi:X.N[i]?=aA x)(hx:wB X.env.scope x)(he:PE X e te)(ho:xf X op ti)(hf:X.fn x=aB\/X.env.scope.names.lookup x=aA .local:=by first|exact .inl rfl|exact .inr rfl|assumption) :
  PS X (.AugAssign (.Name x pos') op e pos) (aMp i te ti):=by
 intro ap s j H D I h;obtain⟨v,n,h⟩:=h;obtain⟨m,hn,hl⟩:=I.loc;have f:ot X.env.scope x:=by rcases hx with k|k;exact .inl k;exact .inr<|.inl k
 obtain⟨u,r,l⟩:=hl i x v hi n f;refine wpAny_AugAssign_Name ?_;have go:aS (aY X.prog X.w) X.A (eval e X.env) (λw b=>aS (aY X.prog X.w) X.A (Td op u w) (λr d=>aS (aY X.prog X.w) X.A (Tn X.env x r) (λ_=>SP X ap D .next) X.xe d) X.xe b) X.xe s:=by refine bC (he ap s j H _ I h) λw s1 g=>?_;obtain⟨y,H1,o,p,q⟩:=g;refine bC (ho ap s1 j H1 v y u w _ o r p q) λz s2 g=>?_;obtain⟨G,t,A,B,C⟩:=g;exact ji A hN hi hx B (λJ E=>⟨_,t,E,C⟩) hf
 rcases l with⟨hk,hm⟩|⟨hk,c,F,a⟩
 .exact OL I.ok.kind hk hn hm go
 .rcases hk with hk|hk
  .exact OK I.ok.kind hk F a go
  .rcases hx with k|k
   .have:X.env.scope.names.lookup x=aA .free:=hk;rw[k]at this;cases this
   .have:X.env.scope.names.lookup x=aA .free:=hk;rw[k]at this;cases this
def Jk(f:Int->Int->Int):xh:=λx y H Q=>∃i j,x = .int i/\y = .int j/\Q (.int<|f i j) H
theorem G2:xf X .Add (Jk λi j=>i+j):=by intro ap s Z H x y v u Q I r1 r2 h;obtain⟨i,j,e1,e2,q⟩:=h;subst e1;subst e2;obtain⟨t,rfl⟩:=r1;obtain⟨t',rfl⟩:=r2;exact iadd_int ⟨.int _,H,I.tok _,⟨_,rfl⟩,q⟩
theorem G3:xf X .Sub (Jk λi j=>i-j):=by intro ap s Z H x y v u Q I r1 r2 h;obtain⟨i,j,e1,e2,q⟩:=h;subst e1;subst e2;obtain⟨t,rfl⟩:=r1;obtain⟨t',rfl⟩:=r2;exact isub_int ⟨.int _,H,I.tok _,⟨_,rfl⟩,q⟩
def aNm(c:TT)(tb:TS):TS:=λD Z H=>∃W:Nat->St->Hp->Prop,(∃m,W m Z H)/\∀m Z H,W m Z H ->
 c Z H λb H1=>if b=aB then∃N:St->Hp->Prop,(∀Z' H',N Z' H'->∃m',m'<m/\W m' Z' H')/\tb { D with nx:=N,ct:=N,bk:=D.nx } Z H1 else D.nx Z H1
theorem aDh{tb:TS}(hp:vt (aY X.prog X.w) X.A X.env X.xe)(hc:PT X c tc)(hb:sE X body tb):PS X (.While c body [] pos) (aNm tc tb):=by
 intro ap s t H D I h;obtain⟨W,⟨m0,w0⟩,turn⟩:=h;refine wpAny_While<|codeAny_whileLoop (λn u=>∃e o,Inv X ap e o u/\W n e o) ?_ m0 ⟨t,H,I,w0⟩;rintro n s1 ⟨d,H1,w,w1⟩
 refine fg hp<|bC (hc ap s1 d H1 _ w<|turn n d H1 w1) λb s2 ⟨p,q,i⟩=>?_;cases b with
 |true=>
  obtain⟨N,r,i⟩:=i;refine fg hp<|bC (hb ap s2 d p _ q i) λf x j=>?_;cases f with
  |next=>obtain⟨a,g,k,l⟩:=j;obtain⟨m,hm,w3⟩:=r a g l;exact⟨m,hm,a,g,k,w3⟩
  |cont=>obtain⟨a,g,k,l⟩:=j;obtain⟨m,hm,w3⟩:=r a g l;exact⟨m,hm,a,g,k,w3⟩
  |brk=>exact j|ret v=>exact j
 |false=>exact Tu ⟨d,p,q,i⟩
structure It where
 go:Nat->Hp->Prop
 vi:Nat->Hp->V->Hp->Prop
 stop:Nat->Hp->Prop
def lS(X:Cx)(ap:Hu)(H:Hp)(b:Addr):Prop:=
 H b=aD/\b≠X.env.locals/\b∉X.fs/\(b∈X.ex\/X.s₀.heap.objs.size<=b)/\(∀x c,X.env.cells.lookup x=aA c->c≠b)/\∀p∈X.pn++ap,p.1≠b
theorem Inv.uG(I:Inv X ap Z H s)(hb:s.heap.objs.size<=b)(hn:H' b=aD):lS X ap H' b:=by
 refine⟨hn,kL (bA I.lt hb),I.U0 hb,.inr (dG I.sz hb),λx c e z=>?_,λp a z=>?_⟩
 .obtain⟨v,q⟩:=I.cell x c e;exact absurd (bA q.lt<|z▸hb)<|oP _
 .exact absurd (bA (cY (I.pin p a).1)<|z▸hb)<|oP _
structure Turn(P:cA)(w:bW)(K:bJ)(tg:aK)(J:It)(fp:Xx)(it:Addr)(tn:Nat->bI->Prop):Prop where
 mem:it∈fp
 obj:∀i h,tn i h->∀b∈fp,∃o,h.get? b=aA o/\∀v,o.data ≠ .cell v
 keep:∀i h h',tn i h->(∀b∈fp,∀o,h.get? b=aA o->h'.get? b=aA o)->tn i h'
 item:∀(X:Cx),X.prog=P->X.w=w->X.K=K->X.calm=aB->∀(i:Nat) (ap:Hu) (s:aI) (Z:St) (H:Hp) (E:Value->aI->Prop),Inv X ap Z H s->(∀b∈fp,lS X ap H b)->tn i s.heap->J.go i H ->
  aS (aY P w) X.A (tS<|.ref it) (λr s1=>∃u,r=aA u /\
   aS (aY P w) X.A (Te tg (.ref it) u) (λ_ s2=>∃x H',Inv X ap Z H' s2/\RelV x u/\J.vi i H x H'/\tn (i+1) s2.heap/\∀b∈fp,H' b=aD) E s1) E s
 done:∀(X:Cx),X.prog=P->X.w=w->X.K=K->X.calm=aB->∀(i:Nat) (ap:Hu) (s:aI) (Z:St) (H:Hp) (E:Value->aI->Prop),Inv X ap Z H s->(∀b∈fp,lS X ap H b)->tn i s.heap->J.stop i H ->
  aS (aY P w) X.A (tS<|.ref it) (λr s1=>r=aD/\Inv X ap Z H s1) E s
 self:∀(A:cM) (i:Nat) (s:aI) (Q:Value->aI->Prop) (E:Value->aI->Prop),tn i s.heap->Q (.ref it) s->aS (aY P w) A (wg<|.ref it) Q E s
abbrev TI:=St->Hp->(It->Hp->Prop)->Prop
def Um(X:Cx)(ap:Hu)(Z:St)(tg:aK)(R:It->Hp->Prop)(itv:Value)(s2:aI):Prop:=
 ∃(it:Addr) (fp:Xx) (tn:Nat->bI->Prop) (J:It) (H':Hp),itv = .ref it/\Inv X ap Z H' s2/\Turn X.prog X.w X.K tg J fp it tn/\tn 0 s2.heap/\(∀b∈fp,lS X ap H' b)/\R J H'
def PI(X:Cx)(tg cR:aK)(wi:TI):Prop:=
 ∀(ap:Hu) (s:aI) (Z:St) (H:Hp) (R:It->Hp->Prop),Inv X ap Z H s->wi Z H R ->
  aS (aY X.prog X.w) X.A (eval cR X.env) (λv s1=>aS (aY X.prog X.w) X.A (wg v) (Um X ap Z tg R) X.xe s1) X.xe s
theorem zp{M:Model}{o:Obj}{n:String}{vs:Yd}{Q:Unit->aI->Prop}(ho:s.heap.get? it=aA o)(hc:o.cls = .type n)(hd:o.data = .fields vs)
    (hn:["enumerate","zip","dict_itemiterator","dict_reverseitemiterator","odict_iterator","itertools.zip_longest","itertools.pairwise"].contains n=aH)(hQ:Q () s):aS M A (Te tg (.ref it) u) Q E s:=by
  cases tg<;>first
    |exact cB hQ
    | (cases u<;>first
        |exact cB hQ
        | (refine aQ (wpAny_load ho ?_)
           rw[hc,hd];show aS M A (if(["enumerate","zip","dict_itemiterator","dict_reverseitemiterator","odict_iterator","itertools.zip_longest","itertools.pairwise"].contains n&&vs[0]?==aA (yI _))=aB then _ else _) Q E s;rw[if_neg (by intro h;rw[hn]at h;cases h)];exact cB hQ))
def Fj(K:bJ)(a:Addr):It:=
 ⟨λi H=>∃xs x,dM K H a xs/\xs[i]?=aA x,λi H x H'=>H'=H/\∀xs,dM K H a xs->xs[i]?=aA x,λi H=>∃xs,dM K H a xs/\xs.length<=i⟩
def Fl(K:bJ)(a:Addr):It:=
 ⟨λi H=>∃xs x,eC K H a xs/\xs[i]?=aA x,λi H x H'=>H'=H/\∀xs,eC K H a xs->xs[i]?=aA x,λi H=>∃xs,eC K H a xs/\xs.length<=i⟩
def oh(lo:Int)(n:Nat):It:=⟨λi _=>i<n,λi H x H'=>H'=H/\x = .int (lo+i),λi _=>n<=i⟩
theorem aOn{K:bJ}(a it:Addr):Turn P w K tg (Fj K a) [it] it (λi h=>h.IsListIter it a i) where
 mem:=by simp
 obj:=λi h st b hb=>by
  have e:b=it:=by simpa using hb
  subst e;obtain⟨o,e,c,d⟩:=st;exact⟨o,e,λv z=>by rw[d]at z;cases z⟩
 keep:=λi h g st k=>st.at λo e=>k it (by simp) o e
 item:=by intro X m hw n C i ap s D H E I j st q;subst m hw n;obtain⟨xs,x,l,r⟩:=q;obtain⟨t,y,p,F⟩:=I.list l;obtain⟨u,G,J⟩:=y.get r;obtain⟨f0,f1,f2,A,f4,B⟩:=j it (by simp);refine OQ st p.isList (x:=u) (by simpa using G) λg f L=>?_;have M:=I.turned (t':=s.toks) (λb o hb e=>(L.2 b hb).trans e) f0 f1 A f4 B;obtain⟨o,e,c,d⟩:=id f;exact⟨u,rfl,zp (s:={ s with heap:=g }) e c d (by decide) ⟨x,H,M,J,⟨rfl,λQ N=>by rw[I.BX N l];exact r⟩,f,λb hb=>(j b hb).1⟩⟩
 done:=by intro X m hw n C i ap s D H E I j st q;subst m hw n;obtain⟨xs,l,r⟩:=q;obtain⟨t,y,p,F⟩:=I.list l;obtain⟨f0,f1,f2,A,f4,B⟩:=j it (by simp);have hl:=y.length;exact Tx (I.ok.hd C) st p.isList (by simp;lia) λg O=>⟨rfl,I.turned (t':=s.toks) (λb o hb e=>O b o hb e) f0 f1 A f4 B⟩
 self:=λ_ _ _ _ _ st h=>wpAny_pyIter_listiter st h
theorem aOq{K:bJ}(a it:Addr):Turn P w K tg (Fl K a) [it] it (λi h=>h.IsTupleIter it a i) where
 mem:=by simp
 obj:=λi h st b hb=>by
  have e:b=it:=by simpa using hb
  subst e;obtain⟨o,e,c,d⟩:=st;exact⟨o,e,λv z=>by rw[d]at z;cases z⟩
 keep:=λi h j st k=>st.at λo e=>k it (by simp) o e
 item:=by intro X n hw q C i ap s D H E I l st r;subst n hw q;obtain⟨xs,x,m,t⟩:=r;obtain⟨f,y,p,F⟩:=I.tuple m;obtain⟨u,G,J⟩:=y.get t;obtain⟨f0,f1,f2,A,f4,B⟩:=l it (by simp);refine wpAny_pyNext_tuple_item st (show s.heap.IsTuple a f.toArray from p) (x:=u) (by simpa using G) λj g L=>?_;have M:=I.turned (t':=s.toks) (λb o hb e=>(L.2 b hb).trans e) f0 f1 A f4 B;obtain⟨o,e,c,d⟩:=id g;exact⟨u,rfl,zp (s:={ s with heap:=j }) e c d (by decide) ⟨x,H,M,J,⟨rfl,λQ N=>by rw[I.IE N m];exact t⟩,g,λb hb=>(l b hb).1⟩⟩
 done:=by intro X n hw q C i ap s D H E I l st r;subst n hw q;obtain⟨xs,m,t⟩:=r;obtain⟨f,y,p,F⟩:=I.tuple m;obtain⟨f0,f1,f2,A,f4,B⟩:=l it (by simp);have hl:=y.length;exact wpAny_pyNext_tuple_end (I.ok.hd C) st (show s.heap.IsTuple a f.toArray from p) (by simp;omega) λj O=>⟨rfl,I.turned (t':=s.toks) (λb o hb e=>O b o hb e) f0 f1 A f4 B⟩
 self:=λ_ _ _ _ _ st h=>wpAny_pyIter_tupleiter st h
theorem aOo{K:bJ}(it:Addr)(lo:Int)(n:Nat):Turn P w K tg (oh lo n) [it] it (λi h=>IsRangeIter h it (lo+(i:Nat)*1) ((n:Int)-(i:Nat)) 1) where
 mem:=by simp
 obj:=λi h st b hb=>by
  have e:b=it:=by simpa using hb
  subst e;exact⟨_,st,λv z=>by have r:=z;cases r⟩
 keep:=λi h d st k=>k it (by simp) _ st
 item:=by intro X m hw p f i ap s q H E I c st g;subst m hw p;obtain⟨f0,f1,f2,j,f4,l⟩:=c it (by simp);refine(Walks.range (prog:=X.prog) (w:=X.w) (I.ok.hd f) it lo 1 n).item i s _ _ g st λv d tk u a kk=>?_;obtain⟨t,rfl⟩:=u;have x:Inv X ap q H { s with heap:=d,toks:=tk }:=I.turned (λb o hb e=>kk b o (by simpa) e) f0 f1 j f4 l;refine⟨_,rfl,zp a rfl rfl (rfl) ⟨.int (lo+i),H,x,⟨t,?_⟩,⟨rfl,rfl⟩,a,λb hb=>(c b hb).1⟩⟩;rw[Int.mul_one]
 done:=by intro X m hw p f i ap s q H E I c st g;obtain⟨f0,f1,f2,j,f4,l⟩:=c it (by simp);exact wpAny_pyNext_range_end (I.ok.hd f) st (by have:n<=i:=g;lia) λd y=>⟨rfl,I.turned (λb o hb e=>y b o hb e) f0 f1 j f4 l⟩
 self:=λ_ _ _ _ _ st h=>wpAny_pyIter_rangeiter st h
theorem GB{R:It->Hp->Prop}{lo hi:Int}{t u v:Tok}{tk:Nat}(I:Inv X ap Z H s)(h1:-(2 ^ 62)<=lo)(h2:lo<2 ^ 62)(h3:-(2 ^ 62)<=hi)(h4:hi<2 ^ 62)
  (q:R (oh lo (hi-lo).toNat) H):aS (aY X.prog X.w) X.A (wg<|.ref s.heap.objs.size) (Um X ap Z tg R) E { s with heap:=s.heap.push { cls:=.type "range",data:=.fields #[.int lo t,.int hi u,.int 1 v] },toks:=tk }:=by
 refine wpAny_pyIter_range (IsRange.new ..) (small_one h1 h2 h3 h4) ?_;have a:Inv X ap Z H { s with heap:=s.heap.push { cls:=.type "range",data:=.fields #[.int lo t,.int hi u,.int 1 v] },toks:=tk }:=I.kept λb o e=>cT _ e;refine⟨(s.heap.push { cls:=.type "range",data:=.fields #[.int lo t,.int hi u,.int 1 v] }).objs.size,[(s.heap.push { cls:=.type "range",data:=.fields #[.int lo t,.int hi u,.int 1 v] }).objs.size],_,_,H,rfl,
  a.kept λb o e=>cT _ e,aOo _ lo (hi-lo).toNat,?_,λb hb=>?_,q⟩
 .have c:lo+((0:Nat):Int)*1=lo:=by simp
  have d:(((hi-lo).toNat:Nat):Int)-((0:Nat):Int)=Builtin.Range.rangeSize lo hi 1:=by rw[rangeSize_one];split<;>lia
  rw[c,d];exact gA _ rfl
 .have e:b=(s.heap.push { cls:=.type "range",data:=.fields #[.int lo t,.int hi u,.int 1 v] }).objs.size:=by simpa using hb
  subst e;exact a.uG (aV _)<|a.aZ.fresh<|aV _
def F0(ta:TA):TI:=λZ H R=>ta Z H λvs H1=>∃j:Int,vs=[.int j]/\-(2 ^ 62)<=j/\j<2 ^ 62/\R (oh 0 j.toNat) H1
def F1(ta:TA):TI:=λZ H R=>ta Z H λvs H1=>∃i j:Int,vs=[.int i,.int j]/\(-(2 ^ 62)<=i/\i<2 ^ 62/\-(2 ^ 62)<=j/\j<2 ^ 62)/\R (oh i (j-i).toNat) H1
theorem aBs{a:aK}{ta:TA}(hg:Gl X "range")(hm:X.mg "range"=aD)(ha:PA X [a] ta)(hs:eF [a] X.env=[(aH,eval a X.env)]:=by rfl):PI X tg (.Call (.Name "range" p) [a] [] pos) (F0 ta):=by
 intro ap s c H R I h;refine Call_<|xD I hg hm boot_range<|vv (bC (ha pos ap s c H _ I h) λus s1 ⟨k,H1,d,f,b⟩=>?_) hs rfl;obtain⟨j,e,b,g,q⟩:=b;subst e;cases f with
 |cons r i=>cases i;obtain⟨t,rfl⟩:=r;exact call_range_1<|GB d (by decide) (by lia) b g (by simpa)
theorem aBt{a b:aK}{ta:TA}(hg:Gl X "range")(hm:X.mg "range"=aD)(ha:PA X [a,b] ta)(hs:eF [a,b] X.env=[(aH,eval a X.env),(aH,eval b X.env)]:=by rfl)(hs2:eF [b] X.env=[(aH,eval b X.env)]:=by rfl) :
  PI X tg (.Call (.Name "range" p) [a,b] [] pos) (F1 ta):=by
 intro ap s f H R I h;refine Call_<|xD I hg hm boot_range<|vv (bC (ha pos ap s f H _ I h) λus s1 ⟨u,H1,g,k,c⟩=>?_) (by rw[hs,hs2]) (by rw[hs2];rfl);obtain⟨i,j,e,⟨c,l,m,n⟩,q⟩:=c;subst e;cases k with
 |cons r d=>
  cases d with
  |cons o d=>cases d;obtain⟨t,rfl⟩:=r;obtain⟨v,rfl⟩:=o;exact call_range_2<|GB g c l m n q
def aMw(wi:TI)(g:TG)(tb:TS):TS:=λD σ H=>wi σ H λJ H1=>∃W:Nat->Nat->St->Hp->Prop,(∃m,W 0 m σ H1)/\∀i m σ H,W i m σ H ->
 (J.stop i H/\D.nx σ H)\/(J.go i H/\∃N:St->Hp->Prop,(∀σ' H',N σ' H'->∃m',m'<m/\W (i+1) m' σ' H')/\∀x H',J.vi i H x H'->g x σ H' λσ2 H2=>tb { D with nx:=N,ct:=N,bk:=D.nx } σ2 H2)
def Az(fp:Xx)(h:bI):Hu:=fp.filterMap λb=>(h.get? b).map λo=>(b,o)
theorem Aj{o:Obj}(hb:b∈fp)(e:h.get? b=aA o):(b,o)∈Az fp h:=List.mem_filterMap.mpr ⟨b,hb,by rw[e];rfl⟩
theorem CW{p:Addr×Obj}(hp:p∈Az fp h):p.1∈fp/\h.get? p.1=aA p.2:=by
 obtain⟨b,hb,e⟩:=List.mem_filterMap.mp hp;cases q:h.get? b with
 |none=>rw[q]at e;cases e|some o=>rw[q]at e;have a:=dI e;subst a;exact⟨hb,q⟩
theorem Inv.pinned(I:Inv X ap Z H s)(hf:∀b∈fp,lS X ap H b)(ho:∀b∈fp,∃o,s.heap.get? b=aA o/\∀v,o.data ≠ .cell v):Inv X (ap++Az fp s.heap) Z H s:=
 I.iu λp c=>(List.mem_append.mp c).elim (λz=>I.pin p (iI _ z)) λz=>by obtain⟨hb,e⟩:=CW z;obtain⟨f0,f1,f2,_⟩:=hf p.1 hb;obtain⟨o,a,d⟩:=ho p.1 hb;rw[e]at a;cases a;exact⟨e,f0,f1,f2,d⟩
theorem Inv.Cc{pl:Hu}(I:Inv X (ap++pl) Z H s):Inv X ap Z H s:=I.iu λp a=>I.pin p (iI _<|vQ _ a)
theorem aCy{cR:aK}{wi:TI}{g:TG}{tb:TS}(hp:vt (aY X.prog X.w) X.A X.env X.xe)(hc:X.calm=aB)(hi:PI X tg cR wi)(hg:PG X tg g)(hb:sE X body tb)
  (hs:∀x,Ew cR X.env x=pure x:=by intro _;rfl):PS X (.For tg cR body [] pos) (aMw wi g tb):=by
 intro ap s L H D I h;refine wpAny_For (bC (hi ap s L H _ I h) λv s1 U=>bC U λV s2 Y=>?_) hs;obtain⟨it,w,tn,J,Z,e,I2,T,C,f2,W,⟨m0,w0⟩,turn⟩:=Y;subst e;have fR:∀{p:Hp},(∀b∈w,p b=aD)->∀b∈w,lS X ap p b:=λhn b hb=>⟨hn b hb,(f2 b hb).2⟩;refine codeAny_forLoop_any (λn O=>∃i c p,Inv X ap c p O/\tn i O.heap/\(∀b∈w,p b=aD)/\W i n c p) ?_ m0 ⟨0,L,Z,I2,C,λb hb=>(f2 b hb).1,w0⟩;rintro n P ⟨i,j,B,Q,y,z,w3⟩
 rcases turn i n j B w3 with⟨stop,qn⟩|⟨go,N,hN,step⟩
 .refine fg hp<|bC (T.done X rfl rfl rfl hc i ap P j B X.xe Q (fR z) y stop) λr s4 ⟨hr,I4⟩=>?_;subst hr;exact Tu ⟨j,B,I4,qn⟩
 .refine fg hp<|bC (T.item X rfl rfl rfl hc i ap P j B X.xe Q (fR z) y go) λr s4 ⟨u,hr,h4⟩=>?_;subst hr;refine fg hp<|bC h4 λ_ R zq=>?_;obtain⟨x,S,I5,r5,y5,t,F⟩:=zq;refine fg hp<|bC (hg _ R j S x u _ (I5.pinned (fR F)<|T.obj _ _ t) r5<|step x S y5) λ_ s6 ⟨G,H6,I6,q6⟩=>?_;refine fg hp<|bC (hb _ s6 G H6 _ I6 q6) λf K q=>?_;have again:∀{a:St}{k:Hp},Inv X (ap++Az w R.heap) a k K->N a k->∃m,m<n/\∃i c p,Inv X ap c p K/\tn i K.heap/\(∀b∈w,p b=aD)/\W i m c p:=λ{a k} l A=>by obtain⟨m',hm,w7⟩:=hN a k A;refine⟨m',hm,i+1,a,k,l.Cc,T.keep _ _ _ t λb hb o e=>(l.pin (b,o)<|iI _<|iI _<|Aj hb e).1,λb hb=>?_,w7⟩;obtain⟨o,e,d⟩:=T.obj _ _ t b hb;exact(l.pin (b,o)<|iI _<|iI _<|Aj hb e).2.1
  cases f with
  |next=>obtain⟨a,k,l,A⟩:=q;exact again l A|cont=>obtain⟨a,k,l,A⟩:=q;exact again l A|brk=>obtain⟨a,k,l,q⟩:=q;exact⟨a,k,l.Cc,q⟩|ret v=>obtain⟨x7,a,k,l,r7,q⟩:=q;exact⟨x7,a,k,l.Cc,r7,q⟩
abbrev R2:=V->V->Hp->VK->Prop
variable {r r':R2}
def cV(X:Cx)(f:Value->Value->Sem Value)(r:R2):Prop:=
 ∀(ap:Hu) (s:aI) (Z:St) (H:Hp) (x y:V) (v u:Value) (Q:VK),Inv X ap Z H s->RelV x v->RelV y u->r x y H Q ->
  aS (aY X.prog X.w) X.A (f v u) (EP X ap Z Q) X.xe s
def xj(X:Cx)(f:Value->Sem Value)(r:V->Hp->VK->Prop):Prop:=
 ∀(ap:Hu) (s:aI) (Z:St) (H:Hp) (x:V) (v:Value) (Q:VK),Inv X ap Z H s->RelV x v->r x H Q ->
  aS (aY X.prog X.w) X.A (f v) (EP X ap Z Q) X.xe s
def jH(X:Cx)(f:Value)(r:Xw->Hp->VK->Prop):Prop:=
 ∀(ap:Hu) (s:aI) (Z:St) (H:Hp) (xs:Xw) (us:Hs) (Q:VK),Inv X ap Z H s->Vals xs us->r xs H Q ->
  aS (aY X.prog X.w) X.A (call f us) (EP X ap Z Q) X.xe s
def OV(X:Cx)(r:V->Hp->(Bool->Hp->Prop)->Prop):Prop:=
 ∀(ap:Hu) (s:aI) (Z:St) (H:Hp) (x:V) (v:Value) (Q:Bool->Hp->Prop),Inv X ap Z H s->RelV x v->r x H Q ->
  aS (aY X.prog X.w) X.A (truthy v) (TP X ap Z Q) X.xe s
def Bv(r:R2)(ta tb:TE):TE:=λZ H Q=>ta Z H λx H1=>tb Z H1 λy H2=>r x y H2 Q
def tUn(r:V->Hp->VK->Prop)(ta:TE):TE:=λZ H Q=>ta Z H λx H1=>r x H1 Q
def rI(C:Int->Int->Prop)(g:Int->Int->V):R2:=λx y H Q=>∃i j,x = .int i/\y = .int j/\C i j/\Q (g i j) H
def oD(g:Int->Int->V):R2:=λx y H Q=>∃i j,x = .int i/\y = .int j/\Q (g i j) H
def rU(g:Int->V):V->Hp->VK->Prop:=λx H Q=>∃i,x = .int i/\Q (g i) H
section
variable {a b:aK}{ta tc:TE}
theorem Gb(ha:PE X a ta)(hb:PE X b tb){R:V->V->Hp->Prop}(I:Inv X ap Z H s)
  (h:ta Z H λx H1=>tb Z H1 λy H2=>R x y H2){f:Value->Value->Sem Value}
  (hf:∀v u s2 x y H2,Inv X ap Z H2 s2->RelV x v->RelV y u->R x y H2->aS (aY X.prog X.w) X.A (f v u) Q X.xe s2) :
  aS (aY X.prog X.w) X.A (eval a X.env) (λv s₁=>aS (aY X.prog X.w) X.A (eval b X.env) (λu s₂=>aS (aY X.prog X.w) X.A (f v u) Q X.xe s₂) X.xe s₁) X.xe s:=by
 refine bC (ha ap s Z H _ I h) λv s1 ⟨x,H1,c,d,e⟩=>?_;exact bC (hb ap s1 Z H1 _ c e) λu s2 ⟨y,H2,g,i,j⟩=>hf v u s2 x y H2 g d i j
theorem aBe{op:rZ}(ho:cV X (eV op) r)(ha:PE X a ta)(hb:PE X b tb):PE X (.BinOp a op b pos) (Bv r ta tb):=by intro ap s c H Q I h;exact wpAny_BinOp<|Gb ha hb I h λv u s2 x y d e f g q=>ho ap s2 c d x y v u Q e f g q
theorem aBj{op:UnaryOp}{r:V->Hp->VK->Prop}(ho:xj X (Fb op) r)(ha:PE X a ta):PE X (.UnaryOp op a pos) (tUn r ta):=by intro ap s b H Q I h;exact UnaryOp_<|bC (ha ap s b H _ I h) λv s1 ⟨x,H1,c,d,e⟩=>ho ap s1 b H1 x v Q c d e
theorem ip{f:Value->Value->Sem Value}{C:Int->Int->Prop}{g:Int->Int->Int}
  (rule:∀(i j:Int) (t u:Tok) (s:aI) (Q:Value->aI->Prop) (E:Value->aI->Prop),C i j->Q (.int (g i j) s.toks) { s with toks:=s.toks+1 }->aS (aY X.prog X.w) X.A (f (.int i t)<|.int j u) Q E s) :
  cV X f (rI C λi j=>.int (g i j)):=by
 intro ap s e H x y v u Q I a b h;obtain⟨i,j,rfl,rfl,c,q⟩:=h;obtain⟨t,rfl⟩:=a;obtain⟨d,rfl⟩:=b;exact rule i j t d s _ _ c ⟨.int (g i j),H,I.tok _,⟨_,rfl⟩,q⟩
theorem tm{f:Value->Value->Sem Value}{g:Int->Int->Int}
  (rule:∀(i j:Int) (t u:Tok) (s:aI) (Q:Value->aI->Prop) (E:Value->aI->Prop),Q (.int (g i j) s.toks) { s with toks:=s.toks+1 }->aS (aY X.prog X.w) X.A (f (.int i t)<|.int j u) Q E s) :
  cV X f (oD λi j=>.int (g i j)):=by
 intro ap s d H x y v u Q I a b h;obtain⟨i,j,rfl,rfl,q⟩:=h;obtain⟨t,rfl⟩:=a;obtain⟨c,rfl⟩:=b;exact rule i j t c s _ _ ⟨.int (g i j),H,I.tok _,⟨_,rfl⟩,q⟩
theorem As{f:Value->Value->Sem Value}{g:Int->Int->Bool}
  (rule:∀(i j:Int) (t u:Tok) (s:aI) (Q:Value->aI->Prop) (E:Value->aI->Prop),Q (.bool<|g i j) s->aS (aY X.prog X.w) X.A (f (.int i t)<|.int j u) Q E s) :
  cV X f (oD λi j=>.bl (g i j)):=by
 intro ap s d H x y v u Q I a b h;obtain⟨i,j,rfl,rfl,q⟩:=h;obtain⟨t,rfl⟩:=a;obtain⟨c,rfl⟩:=b;exact rule i j t c s _ _ ⟨.bl (g i j),H,I,rfl,q⟩
def Ff(i j:Int):Prop:=0<=j/\j<=1000000/\i.natAbs<2 ^ 64
theorem aOu(k:Nat):(0:Int)<=2 ^ k:=by exact Int.natCast_nonneg _
theorem V2:cV X (eV .Add) (oD λi j=>.int (i+j)):=tm λ_ _ _ _ _ _ _ q=>add_int q
theorem Y3:cV X (eV .Sub) (oD λi j=>.int (i-j)):=tm λ_ _ _ _ _ _ _ q=>sub_int q
theorem X0:cV X (eV .Mod) (rI (λ_ j=>0<j) λi j=>.int (i%j)):=ip λi j _ _ _ _ _ hc q=>by have h1:(0:Int)<j:=hc;exact mod_int' (by omega) (by rw[KI i (by omega)];exact q)
theorem X8:cV X (eV .Pow) (rI Ff λi j=>.int (i ^ j.toNat)):=ip λ_ _ _ _ _ _ _ a q=>pow_int_small a.1 a.2.1 a.2.2 q
theorem Y0:cV X (eV .LShift) (rI Ff λi j=>.int (i*2 ^ j.toNat)):=ip λ_ _ _ _ _ _ _ hc q=>lshift_int_small hc.1 hc.2.1 hc.2.2 q
theorem Y1:cV X (eV .RShift) (rI (λ_ j=>0<=j) λi j=>.int (i / 2 ^ j.toNat)):=ip λi j _ _ _ _ _ hc q=>rshift_int hc (by rw[Qe i (aOu _)];exact q)
theorem V4:cV X (eV .BitAnd) (oD λi j=>.int (rQ i j)):=tm λ_ _ _ _ _ _ _ q=>and_int q
theorem X7:cV X (eV .BitOr) (oD λi j=>.int (km i j)):=tm λ_ _ _ _ _ _ _ q=>or_int q
theorem Y4:cV X (eV .BitXor) (oD λi j=>.int (ko i j)):=tm λ_ _ _ _ _ _ _ q=>xor_int q
theorem unI{f:Value->Sem Value}{g:Int->Int}
  (rule:∀(i:Int) (t:Tok) (s:aI) (Q:Value->aI->Prop) (E:Value->aI->Prop),Q (.int (g i) s.toks) { s with toks:=s.toks+1 }->aS (aY X.prog X.w) X.A (f<|.int i t) Q E s) :
  xj X f (rU λi=>.int (g i)):=by
 intro ap s b H x v Q I a h;obtain⟨i,rfl,q⟩:=h;obtain⟨t,rfl⟩:=a;exact rule i t s _ _ ⟨.int (g i),H,I.tok _,⟨_,rfl⟩,q⟩
theorem aOv:xj X (Fb .USub) (rU λi=>.int (-i)):=unI λ_ _ _ _ _ q=>neg_int q
end
def Nq:V->V->Bool
 |.aG,.aG=>aB | .aG,.int _=>aB | .int _,.aG=>aB | .aG,.bl _=>aB | .bl _,.aG=>aB | .aG,.str _=>aB | .str _,.aG=>aB
 |.int _,.int _=>aB | .bl _,.bl _=>aB | .str _,.str _=>aB | .mX _,.mX _=>aB
 |.int _,.str _=>aB | .str _,.int _=>aB | .bl _,.str _=>aB | .str _,.bl _=>aB
 |_,_=>aH
def FR:R2:=λx y H Q=>Nq x y=aB/\Q (.bl<|decide<|x=y) H
def FZ:R2:=λx y H Q=>Nq x y=aB/\Q (.bl<|!decide (x=y)) H
theorem Xd{i j:Int}:decide (V.int i=V.int j)=(i==j):=by rw[ki];simp
theorem Xb{i j:Bool}:decide (V.bl i=V.bl j)=(i==j):=by rw[ki];simp
theorem Xf{i j:Str}:decide (V.str i=V.str j)=(i==j):=by rw[ki];simp
theorem Xc{i j:Array UInt8}:decide (V.mX i=V.mX j)=(i.toList==j.toList):=by rw[ki];cases i;cases j;simp
section
variable {a b:aK}{ta tc:TE}
theorem eO{Q:VK}{k k':Bool}(I:Inv X ap Z H s)(q:Q (.bl k) H)(e:k=k'):EP X ap Z Q (.bool k') s:=by subst e;exact⟨.bl k,H,I,rfl,q⟩
theorem V8:cV X (dJ .Eq) FR:=by
 intro ap s Z H x y v u Q I rx ry h;obtain⟨hs,q⟩:=h;cases x with
 |aG=>
  cases rx;cases y with
  |aG=>cases ry;exact aUh<|eO I q (by simp)|bl j=>cases ry;exact aUf<|eO I q (by simp)|int j=>obtain⟨t',rfl⟩:=ry;exact aUg<|eO I q (by simp)|str j=>obtain⟨t',rfl⟩:=ry;exact aUi<|eO I q (by simp)|_=>exact absurd (show aH=aB from hs) fZ
 |bl i=>
  cases rx;cases y with
  |aG=>cases ry;exact aUd<|eO I q (by simp)|bl j=>cases ry;exact eq_bool<|eO I q Xb|str j=>obtain⟨t',rfl⟩:=ry;exact aTv<|eO I q (by simp)|_=>exact absurd (show aH=aB from hs) fZ
 |int i=>
  obtain⟨t,rfl⟩:=rx;cases y with
  |aG=>cases ry;exact aUe<|eO I q (by simp)|int j=>obtain⟨t',rfl⟩:=ry;exact eq_int<|eO I q Xd|str j=>obtain⟨t',rfl⟩:=ry;exact aTw<|eO I q (by simp)|_=>exact absurd (show aH=aB from hs) fZ
 |str i=>
  obtain⟨t,rfl⟩:=rx;cases y with
  |aG=>cases ry;exact aUj<|eO I q (by simp)|bl j=>cases ry;exact aTx<|eO I q (by simp)|int j=>obtain⟨t',rfl⟩:=ry;exact aTy<|eO I q (by simp)|str j=>obtain⟨t',rfl⟩:=ry;exact eq_str<|eO I q Xf|_=>exact absurd (show aH=aB from hs) fZ
 |mX i=>
  obtain⟨t,rfl⟩:=rx;cases y with
  |mX j=>obtain⟨t',rfl⟩:=ry;exact W.eq_bytes<|eO I q Xc|_=>exact absurd (show aH=aB from hs) fZ
 |_=>cases y<;>exact absurd (show aH=aB from hs) fZ
theorem X2:cV X (dJ .NotEq) FZ:=by
 intro ap s Z H x y v u Q I rx ry h;obtain⟨hs,q⟩:=h;cases x with
 |aG=>
  cases rx;cases y with
  |aG=>cases ry;exact aUo<|eO I q<|rfl|bl j=>cases ry;exact aUm<|eO I q<|rfl|int j=>obtain⟨t',rfl⟩:=ry;exact aUn<|eO I q<|rfl|str j=>obtain⟨t',rfl⟩:=ry;exact aUp<|eO I q (by simp)|_=>exact absurd (hs) fZ
 |bl i=>
  cases rx;cases y with
  |aG=>cases ry;exact aUk<|eO I q<|rfl|bl j=>cases ry;exact ne_bool<|eO I q<|congrArg not Xb|str j=>obtain⟨t',rfl⟩:=ry;exact aTz<|eO I q<|rfl|_=>exact absurd (hs) fZ
 |int i=>
  obtain⟨t,rfl⟩:=rx;cases y with
  |aG=>cases ry;exact aUl<|eO I q<|rfl|int j=>obtain⟨t',rfl⟩:=ry;exact ne_int<|eO I q<|congrArg not Xd|str j=>obtain⟨t',rfl⟩:=ry;exact aUa<|eO I q<|rfl|_=>exact absurd (hs) fZ
 |str i=>
  obtain⟨t,rfl⟩:=rx;cases y with
  |aG=>cases ry;exact aUq<|eO I q (by simp)|bl j=>cases ry;exact aUb<|eO I q (by simp)|int j=>obtain⟨t',rfl⟩:=ry;exact aUc<|eO I q (by simp)|str j=>obtain⟨t',rfl⟩:=ry;exact ne_str<|eO I q<|congrArg not Xf|_=>exact absurd (hs) fZ
 |mX i=>
  obtain⟨t,rfl⟩:=rx;cases y with
  |mX j=>obtain⟨t',rfl⟩:=ry;exact W.ne_bytes<|eO I q<|congrArg not Xc|_=>exact absurd (hs) fZ
 |_=>cases y<;>exact absurd (show aH=aB from hs) fZ
theorem W9:cV X (dJ .Lt) (oD λi j=>.bl (decide<|i<j)):=As λ_ _ _ _ _ _ _ q=>lt_int q
theorem W8:cV X (dJ .LtE) (oD λi j=>.bl (decide<|i<=j)):=As λ_ _ _ _ _ _ _ q=>le_int q
theorem W4:cV X (dJ .Gt) (oD λi j=>.bl (decide<|j<i)):=As λ_ _ _ _ _ _ _ q=>gt_int q
theorem W3:cV X (dJ .GtE) (oD λi j=>.bl (decide<|j<=i)):=As λ_ _ _ _ _ _ _ q=>ge_int q
theorem W7:cV X (dJ .Is) (λx y H Q=>y = .aG/\Q (.bl<|decide<|x = .aG) H):=by
 intro ap s c H x y v u Q I a b h;obtain⟨rfl,q⟩:=h;cases b;refine is_none_gen<|eO I q ?_;cases x<;>first
  | (cases a;rfl)
  | (obtain⟨t,rfl⟩:=a;rfl)
theorem X6:cV X (dJ .IsNot) (λx y H Q=>y = .aG/\Q (.bl<|!decide (x = .aG)) H):=by
 intro ap s c H x y v u Q I a b h;obtain⟨rfl,q⟩:=h;cases b;refine isnot_none_gen<|eO I q ?_;cases x<;>first
  | (cases a;rfl)
  | (obtain⟨t,rfl⟩:=a;rfl)
theorem cV.or{f:Value->Value->Sem Value}(h:cV X f r)(h':cV X f r'):cV X f (λx y H Q=>r x y H Q\/r' x y H Q):=by
 intro ap s a H x y v u Q I b c q;rcases q with q|q
 .exact h ap s a H x y v u Q I b c q
 .exact h' ap s a H x y v u Q I b c q
theorem aAq{op:pE}(ho:cV X (dJ op) r)(ha:PE X a ta)(hb:PE X b tb)(hm:wa op b=aH):PE X (.Compare a [op] [b] pos) (Bv r ta tb):=by intro ap s c H Q I h;exact wpAny_Compare1 (Gb ha hb I h λv u s2 x y d e f g q=>ho ap s2 c d x y v u Q e f g q) hm
def HX(t:TE):TT:=λZ H Q=>t Z H λx H'=>∃k,x = .bl k/\Q k H'
theorem aDl{op:pE}(ho:cV X (dJ op) r)(ha:PE X a ta)(hb:PE X b tb)(hm:wa op b=aH):PT X (.Compare a [op] [b] pos) (HX<|Bv r ta tb):=by
 intro ap s d H Q I h;refine wpAny_isTrue_Compare1 (bC (ha ap s d H _ I h) λv s1 ⟨x,H1,f,g,i⟩=>bC (hb ap s1 d H1 _ f i) λu s2 ⟨y,j,l,m,n⟩=>bC (ho ap s2 d j x y v u _ l g m n) λc w ⟨z,o,p,q,k,e,t⟩=>?_) hm
 subst e;cases q;exact fh ⟨o,p,t⟩
def Of(r r':R2)(ta tb tc:TE):TE:=λZ H Q=>ta Z H λx H1=>tb Z H1 λy H2=>r x y H2 λz H3=>∃k,z = .bl k /\
 (if k=aB then tc Z H3 λw' H4=>r' y w' H4 Q else Q (.bl aH) H3)
theorem aAp{op:pE}(ho:cV X (dJ op) r)(ho':cV X (dJ op') r')(ha:PE X a ta)(hb:PE X b tb)(hc:PE X c tc)
  (hm:Ez [op,op'] [b,c]=aH:=by with_unfolding_all rfl):PE X (.Compare a [op,op'] [b,c] pos) (Of r r' ta tb tc):=by
 intro ap s f H Q I h;refine Compare_chain (bC (ha ap s f H _ I h) λv s1 ⟨x,H1,m,n,o⟩=>chain_link (bC (hb ap s1 f H1 _ m o) λu s2 ⟨y,p,q,g,t⟩=>bC (ho ap s2 f p x y v u _ q n g t) λd w ⟨z,i,j,A,k,e,l⟩=>?_)) hm
 subst e;cases A;refine fh ?_;cases k with
 |false=>exact ite_ff ⟨.bl aH,i,j,rfl,l⟩|true=>exact ite_tt<|chain_last<|bC (hc ap w f i _ j l) λB C ⟨D,E,F,G,J⟩=>ho' ap C f E y D u B Q F g G J
theorem aDk{op:pE}(ho:cV X (dJ op) r)(ho':cV X (dJ op') r')(ha:PE X a ta)(hb:PE X b tb)(hc:PE X c tc)
  (hm:Ez [op,op'] [b,c]=aH:=by with_unfolding_all rfl):PT X (.Compare a [op,op'] [b,c] pos) (HX<|Of r r' ta tb tc):=by
 intro ap s f H Q I h;refine isTrue_chain (bC (ha ap s f H _ I h) λv s1 ⟨x,H1,m,n,o⟩=>test_link (bC (hb ap s1 f H1 _ m o) λu s2 ⟨y,p,q,g,t⟩=>bC (ho ap s2 f p x y v u _ q n g t) λd w ⟨z,i,j,A,k,e,l⟩=>?_)) hm
 subst e;cases A;refine fh ?_;cases k with
 |false=>obtain⟨S,B,C⟩:=l;cases B;exact ite_ff ⟨i,j,C⟩
 |true=>refine ite_tt<|test_last<|bC (hc ap w f i _ j l) λD E ⟨F,G,J,K,L⟩=>bC (ho' ap E f G y F u D _ J g K L) λT U ⟨V,M,N,O,k2,P,R⟩=>?_;subst P;cases O;exact fh ⟨M,N,R⟩
def yQ(K:bJ)(x:V)(H:Hp)(k:Bool):Prop:=
 match x with
 |.aG=>k=aH
 |.bl b=>k=b
 |.int i=>k=(i != 0)
 |.str y=>y.length<=sizeLine/\k=((y.length:Int) != 0)
 |.mX y=>y.size<=sizeLine/\k=((y.size:Int) != 0)
 |.ref p=>(∃xs,dM K H p xs/\k = !xs.isEmpty)\/(∃xs,eC K H p xs/\k = !xs.isEmpty)\/∃kvs,H p=aA (.dK kvs)/\k = !kvs.isEmpty
 |_=>False
theorem G7{κ:Type}{kvs:List (κ×V)}{vs:List (κ×Value)}(r:KV kvs vs):(!vs.isEmpty) = !kvs.isEmpty:=by cases r<;>rfl
theorem AL{its:Hs}(r:Vals xs its):(!its.toArray.isEmpty) = !xs.isEmpty:=by cases r<;>simp
theorem aa:(sizeLine:Nat)<2 ^ 63:=by decide
theorem Cb:OV X (λx H Q=>∃k,yQ X.K x H k/\Q k H):=by
 intro ap s Z H x v Q I rx h;obtain⟨k,e,q⟩:=h;have hl:=aa;have hs:sizeLine=16777216:=oR;cases x with
 |aG=>cases rx;have e':k=aH:=e;subst e';exact truthy_none ⟨H,I,q⟩
 |bl b=>cases rx;have e':k=b:=e;subst e';exact fh ⟨H,I,q⟩
 |int i=>obtain⟨t,rfl⟩:=rx;have e':k=(i != 0):=e;subst e';exact PySem.P.truthy_int ⟨H,I,q⟩
 |str y=>obtain⟨t,rfl⟩:=rx;obtain⟨hy,e'⟩:y.length<=sizeLine/\k=((y.length:Int) != 0):=e;subst e';exact PySem.P.truthy_str (by omega) ⟨H,I.tok _,q⟩
 |mX y=>obtain⟨t,rfl⟩:=rx;obtain⟨hy,e'⟩:y.size<=sizeLine/\k=((y.size:Int) != 0):=e;subst e';exact W.truthy_bytes (by omega) ⟨H,I.tok _,q⟩
 |ref p=>
  cases rx;have e':(∃xs,dM X.K H p xs/\k = !xs.isEmpty)\/(∃xs,eC X.K H p xs/\k = !xs.isEmpty)\/∃kvs,H p=aA (.dK kvs)/\k = !kvs.isEmpty:=e;rcases e' with⟨xs,hx,e'⟩|⟨xs,hx,e'⟩|⟨kvs,hx,e'⟩
  .subst e';obtain⟨its,r,pl,hz⟩:=I.list hx;have hlen:=r.length;exact wpAny_truthy_list pl.isList (by simp only[gZ];omega) ⟨H,I.tok _,by rw[AL r];exact q⟩
  .subst e';obtain⟨its,r,pl,hz⟩:=I.tuple hx;have hlen:=r.length;exact truthy_tuple pl (by simp only[gZ];omega) ⟨H,I.tok _,by rw[AL r];exact q⟩
  .subst e';obtain⟨hz,hS,vs,r,m⟩:kvs.length<=sizeLine/\(p==tT)=aH/\∃vs,KV kvs vs/\s.heap.DictOf (gS X.prog X.w) p vs:=I.aZ p _ hx;have hlen:kvs.length=vs.length:=Eg r;exact wpAny_truthy_dict hS m (by omega) ⟨H,I.tok _,by rw[G7 r];exact q⟩
 |_=>exact(show False from e).elim
theorem aDn(ha:PE X a ta)(he:∀whole,isTrue a X.env whole=(do let v <- whole;Fa a.pos;mx [v] (truthy v))) :
  PT X a (λZ H Q=>ta Z H λx H'=>∃k,yQ X.K x H' k/\Q k H'):=by
 intro ap s Z H Q I h;exact isTrue_plain (bC (ha ap s Z H _ I h) λv s1 ⟨x,H1,b,c,d⟩=>Cb ap s1 Z H1 x v Q b c d)<|he _
theorem V3:cV X (eV .Add) (λx y H Q=>∃i j,x = .str i/\y = .str j/\i.length+j.length<=sizeLine/\Q (.str<|i++j) H):=by intro ap s Z H x y v u Q I rx ry h;obtain⟨i,j,rfl,rfl,hz,q⟩:=h;obtain⟨t,rfl⟩:=rx;obtain⟨t',rfl⟩:=ry;exact add_str (λt' tk=>⟨.str (i++j),H,I.tok _,⟨_,rfl⟩,q⟩) hz
theorem jr{x:V}(r:Vals [x] us):∃u,us=[u]/\RelV x u:=by
 cases r with
 |cons a b=>cases b;exact⟨_,rfl,a⟩
theorem xQ{x:V}(r:Vals [x,y] us):∃u w',us=[u,w']/\RelV x u/\RelV y w':=by
 cases r with
 |cons a b=>
  cases b with
  |cons c d=>cases d;exact⟨_,_,rfl,a,c⟩
theorem WK(hc:X.calm=aB):jH X (.builtin "max") (λxs H Q=>∃i j,xs=[.int i,.int j]/\Q (.int<|if j > i then j else i) H):=by
 intro ap s b H xs us Q I r h;obtain⟨i,j,rfl,q⟩:=h;obtain⟨u,c,rfl,⟨t,rfl⟩,⟨d,rfl⟩⟩:=xQ r;refine max_two_ints (I.ok.hd hc) λe tk k=>⟨_,H,I.kept k,?_,q⟩;by_cases a:j > i
 .rw[if_pos a,if_pos a];exact⟨_,rfl⟩
 .rw[if_neg a,if_neg a];exact⟨_,rfl⟩
theorem WL(hc:X.calm=aB):jH X (.builtin "min") (λxs H Q=>∃i j,xs=[.int i,.int j]/\Q (.int<|if j<i then j else i) H):=by
 intro ap s b H xs us Q I r h;obtain⟨i,j,rfl,q⟩:=h;obtain⟨u,c,rfl,⟨t,rfl⟩,⟨d,rfl⟩⟩:=xQ r;refine min_two_ints (I.ok.hd hc) λe tk k=>⟨_,H,I.kept k,?_,q⟩;by_cases a:j<i
 .rw[if_pos a,if_pos a];exact⟨_,rfl⟩
 .rw[if_neg a,if_neg a];exact⟨_,rfl⟩
theorem WD:jH X (.type "int") (λxs H Q=>(∃i,xs=[.int i]/\Q (.int i) H)\/∃k,xs=[.bl k]/\Q (.int<|if k then 1 else 0) H):=by
 intro ap s b H xs us Q I r h;rcases h with⟨i,rfl,q⟩|⟨k,rfl,q⟩
 .obtain⟨u,rfl,t,rfl⟩:=jr r;exact call_int_int ⟨.int i,H,I,⟨_,rfl⟩,q⟩
 .obtain⟨u,rfl,a⟩:=jr r;cases a;exact call_int_bool ⟨.int (if k then 1 else 0),H,I.tok _,⟨_,rfl⟩,q⟩
end
structure yN(h:bI)(x dx C:Addr)(mA:Str->Xy):Prop where
 obj:h.get? x=aA (yC C dx)
 ns:h.Ns1 dx mA
 ne:dx≠x
theorem N2(n:h.Ns1 dx mA):∃od,h.get? dx=aA od/\∀name,Eo name od=aA (mA name):=by
 obtain⟨o,c,j,d,hd,f,_,hm⟩:=n;refine⟨o,d,λname=>?_⟩;have e:=hm name;unfold nsFind findBy at e;rw[<- Array.find?_toList]at e;unfold Eo;rw[hd];dsimp only;split
 .rename_i y q;rw[q]at e;exact congrArg aA e
 .rename_i q;rw[q]at e;have a:c.toList.any (·.refKey)=aH:=by rw[KR];intro y g;obtain⟨z,t,b⟩:=f y (Array.mem_toList_iff.mp g);simp[DictEntry.refKey,b]
  have i:=a▸fZ;rw[if_neg i];exact congrArg aA e
theorem yN.look{x:Addr}(I:yN h x dx C mA):∃od,W.InstAt h x (yC C dx) C (aA od)/\∀name,Eo name od=aA (mA name):=
 let ⟨od,a,hl⟩:=N2 I.ns
 ⟨od,⟨I.obj,rfl,rfl,a⟩,hl⟩
section
variable {K:bJ}{x f:Addr}{name:Str}{v:Value}
theorem B9{expr:Bool}(X:K.In s.heap)(I:yN s.heap x dx C mA)(hg:vx K C name=aB)(hh:En K C=aB)
  (ha:nQ K (.ref C) name=aA aD)(hv:mA name=aA v)(hv':Em v=aB)(h:Q v { s with toks:=s.toks+1 }) :
  aS (aY prog w) A (getAttr (.ref x) name expr) Q E s:=by
 obtain⟨od,J,hl⟩:=I.look;exact W.get_value X J (Sm hg).1 (W.findObj_own hh ha rfl (by rw[hl,hv])) hv' h
theorem C0{pl:Sem Bool}{Q:Value×Hs->aI->Prop}(X:K.In s.heap)(I:yN s.heap x dx C mA)(hg:vx K C name=aB)
  (hf:nQ K (.ref C) name=aA (aA<|.ref f)) (ht:vw K (.ref f)=aB) (hv:mA name=aD) (h:Q (.ref f,[.ref x]) s) :
  aS (aY prog w) A (Tc (.ref x) name pl) Q E s:=by
 obtain⟨od,J,hl⟩:=I.look;exact W.method_fn X J (Sm hg).1 (Sm hg).2 hf (beq_iff_eq.mp ht) (by show(Eo name od).map (·.isSome)=aA aH;rw[hl,hv];rfl) h
theorem aKo{ns:Yb}{Q:Unit->aI->Prop}(X:K.In s.heap)(I:yN s.heap x dx C mA)
  (hs:nQ K (.ref C) "__setattr__"=aA (aA<|.builtin "object.__setattr__")) (hp:Sn K C=aB) (ht:Sq K C name=aA aD) (hh:En K C=aB)
  (hw:Sr mA ns) (hsz:ns.length<=sizeLine)
  (h:∀h',yN h' x dx C (λy=>if y=name then aA v else mA y)->xT dx s.heap h'->Q () { s with heap:=h',toks:=s.toks+2 }) :
  aS (aY prog w) A (setAttr (.ref x) name v) Q E s:=by
 obtain⟨od,J,hl⟩:=I.look;refine W.set_plain X J hs<|W.osa_open X J hp ht λb=>?_;obtain⟨m,i,d⟩:=W.any_some hh;have j:=I.obj;refine aQ<|cB<|aQ<|aQ<|wpAny_loadPart j<|aQ<|W.Looks.here (W.looks_clsIn X i) ?_;rw[d];refine cB<|aQ<|cB<|aQ ?_;refine wpAny_nsSet1 I.ns λh' a c=>?_;obtain⟨n,k,l,e,f,g⟩:=a.count (PySem.Within.cons name v hw);exact aQ<|wpAny_lookBehind e (by rw[f];exact pastItsLine_dict<|dG g (by rw[jC];lia))<|cB<|h _ ⟨(c.2 _<|kN I.ne).trans I.obj,a,I.ne⟩ c
theorem O5{R:Result->aI->Prop}{vs:Hs}(X:K.In s.heap)(hm:Sk K C=aB)
  (hi:nQ K (.ref C) "__init__"=aA (aA<|.ref f))(hf:W.typeIn K (.ref f)=aA (.type "function"))
  (h:tQ (aY prog w) (A.under<|.builtin "type.__call__" ⟨.ref C::vs,kw⟩) (.call (.ref f) ⟨.ref (s.heap.objs.size+1)::vs,kw⟩) (W.InitBack (s.heap.objs.size+1) R)
   { s with heap:=(s.heap.push yB).push (yC C s.heap.objs.size) }) :
  tQ (aY prog w) A (.call (.ref C) ⟨vs,kw⟩) R s:=by
 exact W.make_core (W.makes_of X hm) (W.looks_findIn X hi) (λself=>W.bind_fn X self hf) (.inl rfl) h
end
def jU(f:Str)(v:V):Yl->Yl
 |[]=>[(f,v)]
 | (g,x)::r=>if g=f then(g,v)::r else(g,x)::jU f v r
theorem CB(f g:Str)(v:V):∀fs:Yl,(jU f v fs).lookup g=if g=f then aA v else fs.lookup g
 |[]=>by
  show rX g [(f,v)]=_;by_cases h:g=f
  .have hb:=beq_iff_eq.mpr h;simp only[rX,hb,if_pos h]
  .have hb:=beq_eq_false_iff_ne.mpr h;simp only[rX,hb,if_neg h]
 | (k,x)::r=>by
  rw[show jU f v ((k,x)::r)=(if k=f then(k,v)::r else(k,x)::jU f v r) from rfl];by_cases a:k=f
  .rw[if_pos a];by_cases h:g=k
   .have hb:=beq_iff_eq.mpr h;simp only[rX,hb,if_pos (h.trans a)]
   .have hb:=beq_eq_false_iff_ne.mpr h;simp only[rX,hb,if_neg (λe:g=f=>h (e.trans a.symm))]
  .rw[if_neg a];by_cases h:g=k
   .have hb:=beq_iff_eq.mpr h;simp only[rX,hb,if_neg (λe:g=f=>a (h.symm.trans e))]
   .have hb:=beq_eq_false_iff_ne.mpr h;simp only[rX,hb];exact(CB f g v r)
theorem Jr(f:Str)(v:V):∀fs:Yl,f∈(jU f v fs).map (·.1)/\∀g,g∈fs.map (·.1)->g∈(jU f v fs).map (·.1)
 |[]=>⟨by simp[jU],λg h=>by simp at h⟩
 | (k,x)::r=>by
  obtain⟨b,c⟩:=Jr f v r;rw[show jU f v ((k,x)::r)=(if k=f then(k,v)::r else(k,x)::jU f v r) from rfl];by_cases a:k=f
  .rw[if_pos a];subst a;exact⟨(.head _),λg h=>by simpa using h⟩
  .rw[if_neg a];refine⟨?_,λg h=>?_⟩
   .rw[iH];exact hW _ b
   .rw[iH]at h ⊢;rcases List.mem_cons.mp h with e|e
    .exact List.mem_cons.mpr<|.inl e
    .exact hW _<|c g e
theorem BV(f:Str)(v:V):∀fs:Yl,(jU f v fs).length<=fs.length+1
 |[]=>by simp[jU]
 | (k,x)::r=>by
  have b:=BV f v r;rw[show jU f v ((k,x)::r)=(if k=f then(k,v)::r else(k,x)::jU f v r) from rfl];by_cases a:k=f
  .rw[if_pos a,jC,jC];lia
  .rw[if_neg a,jC,jC];lia
theorem iA.some_of{o:Xy}(r:iA (aA v) o):∃u,o=aA u/\RelV v u:=by
 cases o with
 |none=>exact(r).elim|some u=>exact⟨u,rfl,r⟩
theorem iA.none_of{o:Xy}(r:iA aD o):o=aD:=by
 cases o with
 |none=>rfl|some u=>exact(r).elim
theorem D7(r:RelV v u):Em u=aB:=by
 cases v with
 |aG=>cases(r);rfl|bl b=>cases(r);rfl|int i=>obtain⟨t,e⟩:=(r);cases e;rfl|str x=>obtain⟨t,e⟩:=(r);cases e;rfl|mX b=>obtain⟨t,e⟩:=(r);cases e;rfl|yv b=>obtain⟨t,e⟩:=(r);cases e;rfl|ref a=>cases(r);rfl|ty n=>cases(r);rfl
section
variable {fs fs':Yl}
theorem Jh(aZ:eW P w H h)(e:H a=aA (.ins C dx fs)):∃mA,yN h a dx C mA/\(∀f,iA (fs.lookup f) (mA f))/\Sr mA (fs.map (·.1))/\fs.length<=1000/\H dx=aA (.own a):=by obtain⟨d,z,ne,ob,mA,n,r,q⟩:=(show hB P w H h a (.ins C dx fs) from aZ a _ e);exact⟨mA,⟨ob,n,ne⟩,r,q,z,d⟩
end
structure mV(K:bJ)(C:Addr):Prop where
 pg:vx K C Str.empty=aB
 hd:En K C=aB
 po:Sn K C=aB
 sa:nQ K (.ref C) "__setattr__"=aA (aA<|.builtin "object.__setattr__")
theorem mV.get{K:bJ}(c:mV K C)(f:Str):vx K C f=aB:=c.pg
def wC(K:bJ)(C:Addr)(f:Str):Prop:=nQ K (.ref C) f=aA aD
theorem wC.aOb{K:bJ}{f:Str}(n:wC K C f):Sq K C f=aA aD:=by unfold Sq;rw[show nQ K (.ref C) f=aA aD from n];rfl
structure xb(K:bJ)(C:Addr)(m:Str)(f:Addr):Prop where
 at_:nQ K (.ref C) m=aA (aA<|.ref f)
 fn:vw K (.ref f)=aB
 kp:tP K (.ref f)=aB
section
variable {fs:Yl}{f:Str}
theorem Zw{b:Bool}(I:Inv X ap Z H s)(e:H a=aA (.ins C dx fs))(c:mV X.K C)(n:wC X.K C f)(l:fs.lookup f=aA v)
  (h:∀u s',Inv X ap Z H s'->RelV v u->Q u s'):aS (aY X.prog X.w) A (getAttr (.ref a) f b) Q E s:=by
 obtain⟨i,O,r,_,_,_⟩:=Jh I.aZ e;obtain⟨u,g,d⟩:=iA.some_of (by rw[<- l];exact r f);exact B9 I.fL O (c.get f) c.hd n g (D7 d)<|h u _ (I.tok _) d
theorem Zx{g:Addr}{pl:Sem Bool}{Q:Value×Hs->aI->Prop}(I:Inv X ap Z H s)(e:H a=aA (.ins C dx fs))(c:mV X.K C)(k:xb X.K C m g)(l:fs.lookup m=aD)
  (h:Q (.ref g,[.ref a]) s):aS (aY X.prog X.w) A (Tc (.ref a) m pl) Q E s:=by
 obtain⟨b,O,r,_,_,_⟩:=Jh I.aZ e;have hn:=iA.none_of (by rw[<- l];exact r m);exact C0 I.fL O (c.get m) k.at_ k.fn hn h
theorem GV{Q:Unit->aI->Prop}(I:Inv X ap Z H s)(e:H a=aA (.ins C dx fs))(c:mV X.K C)(n:wC X.K C f)(hl:fs.length<1000)(ry:RelV y u)
  (h:∀s',Inv X ap Z (bG H a<|.ins C dx<|jU f y fs) s'->Q () s'):aS (aY X.prog X.w) A (setAttr (.ref a) f u) Q E s:=by
 obtain⟨i,O,r,wi,_,j⟩:=Jh I.aZ e;have k:(fs.map (·.1)).length<=sizeLine:=by rw[aU,oR];lia
 refine aKo I.fL O c.sa c.po n.aOb c.hd wi k λl d m=>h _ ?_;have hd:∃o,l.get? dx=aA o:=let ⟨o,_,_,p,_⟩:=d.ns;⟨o,p⟩;refine I.write (e▸oQ) (.inr j) (λb q hb z=>(m.2 b hb).trans z) hd ?_;refine⟨by rw[bZ O.ne];exact j,?_,O.ne,d.obj,_,d.ns,λg=>?_,λg t=>?_⟩
 .have:=BV f y fs;lia
 .show iA ((jU f y fs).lookup g) (if g=f then aA u else i g);rw[CB];by_cases q:g=f
  .rw[if_pos q,if_pos q];exact ry
  .rw[if_neg q,if_neg q];exact r g
 .by_cases q:g=f
  .rw[q];exact(Jr f y fs).1
  .refine(Jr f y fs).2 g (wi g λz=>t ?_);show(if g=f then aA u else i g)=aD;rw[if_neg q];exact z
theorem Inv.made(I:Inv X ap Z H s):Inv X ap Z (bG (bG H s.heap.objs.size<|.own<|s.heap.objs.size+1) (s.heap.objs.size+1)<|.ins C s.heap.objs.size [])
  { s with heap:=(s.heap.push yB).push (yC C s.heap.objs.size) }:=by
 have e1:(s.heap.push yB).get? s.heap.objs.size=aA yB:=gA s.heap rfl;have e2:((s.heap.push yB).push (yC C s.heap.objs.size)).get? (s.heap.objs.size+1)=aA (yC C s.heap.objs.size):=by have:=gA (s.heap.push yB) (o:=yC C s.heap.objs.size) rfl;rwa [rR]at this
 have e3:(s.heap.push yB).Ns s.heap.objs.size (λ_=>aD):=⟨yB,#[],_,e1,rfl,(λe he=>absurd he (by simp)),λ_=>rfl⟩;have I1:=I.laid (o:=.own (s.heap.objs.size+1)) (t':=s.toks) (λb u q=>cT _ q) (aV _) ⟨_,e1⟩;refine I1.laid (λb u q=>cT _ q) (Rn<|rR _ _) ?_;have ne:s.heap.objs.size≠s.heap.objs.size+1:=bQ (cF _);refine⟨by rw[bZ ne,gG],kM _,ne,e2,λ_=>aD,(Heap.Ns1.of_empty e3).at λo q=>cT _ q,λ_=>oQ,λy hy=>absurd rfl hy⟩
theorem PL{env:Env}{f:Str}(hb:mq e f env (eval e env)=eval e env)
  (h:aS (aY prog w) A (eval e env) (λo s₁=>aS (aY prog w) A (getAttr o f aB) Q E s₁) E s):aS (aY prog w) A (eval (.Attribute e f pos) env) Q E s:=
 Attribute_any_ h (by rw[arm_eval_Attribute,hb])
end
def aMv(K:bJ)(ta:TE)(f:Str):TE:=λZ H Q=>ta Z H λx H1=>∃a C dx fs v,x = .ref a/\H1 a=aA (.ins C dx fs)/\mV K C/\wC K C f/\fs.lookup f=aA v/\Q v H1
def aKh(K:bJ)(ta tv:TE)(f:Str):TS:=λD Z H=>tv Z H λy H1=>ta Z H1 λx H2=>∃a C dx fs,x = .ref a/\H2 a=aA (.ins C dx fs)/\mV K C/\wC K C f/\fs.length<1000 /\
 D.nx Z (bG H2 a<|.ins C dx<|jU f y fs)
def Ui(X:Cx)(op:rZ)(rd:V->V->Hp->VK->Prop):Prop:=
 ∀(ap:Hu) (s:aI) (Z:St) (H:Hp) (x y:V) (u v:Value) (Q:VK),Inv X ap Z H s->RelV x u->RelV y v->rd x y H Q->aS (aY X.prog X.w) X.A (Td op u v) (EP X ap Z Q) X.xe s
def aKi(K:bJ)(ta tv:TE)(rd:V->V->Hp->VK->Prop)(f:Str):TS:=λD Z H=>ta Z H λx H1=>∃a C dx fs v,x = .ref a/\H1 a=aA (.ins C dx fs)/\mV K C/\wC K C f/\fs.lookup f=aA v /\
 tv Z H1 λy H2=>rd v y H2 λz H3=>∃dx' fs',H3 a=aA (.ins C dx' fs')/\fs'.length<1000/\D.nx Z (bG H3 a<|.ins C dx'<|jU f z fs')
section
variable {o value:aK}{f:Str}{tpos:Pos}{ta tv:TE}
theorem aAt(he:PE X e ta)(hb:mq e f X.env (eval e X.env)=eval e X.env):PE X (.Attribute e f pos) (aMv X.K ta f):=by intro ap s b H Q I h;refine PL hb<|bC (he ap s b H _ I h) λu s1 d=>?_;obtain⟨x,H1,g,i,a,C,o,fs,v,ex,j,c,n,l,q⟩:=d;subst ex;obtain rfl:u=kO a:=i;exact Zw g j c n l λp s2 k m=>⟨v,H1,k,m,q⟩
theorem aCw(ha:PE X o ta)(hv:PE X value tv)(hs:vX value (aA<|.Attribute o f pos') pos.line X.env=pure aH):PS X (.Assign [.Attribute o f pos'] value pos) (aKh X.K ta tv f):=by intro ap s b H D I h;refine aVs (bC (hv ap s b H _ I h) λu s1 ⟨y,H1,d,e,q⟩=>bC (ha ap s1 b H1 _ d q) λg s2 ⟨x,r,i,j,a,C,t,fs,ex,k,c,n,l,m⟩=>?_) hs;subst ex;obtain rfl:g=kO a:=j;exact GV i k c n l e λv p=>⟨b,_,p,m⟩
theorem aCx{op:rZ}{rd:V->V->Hp->VK->Prop}(ha:PE X o ta)(hv:PE X value tv)(hop:Ui X op rd):PS X (.AugAssign (.Attribute o f tpos) op value pos) (aKi X.K ta tv rd f):=by intro ap s b H D I h;refine wpAny_AugAssign_AttributeAny<|bC (ha ap s b H _ I h) λg s1 d=>?_;obtain⟨x,H1,i,j,a,C,N,fs,v,ex,k,c,n,l,q⟩:=d;subst ex;obtain rfl:g=kO a:=j;refine Zw i k c n l λu s2 m p=>bC (hv ap s2 b H1 _ m q) λw3 r ⟨y,t,w,A,B⟩=>bC (hop ap r b t v y u w3 _ w p A B) λO P d=>?_;obtain⟨z,Q,E,F,G,J,e,K,L⟩:=d;exact GV E e c n K F λR M=>⟨b,_,M,L⟩
def aJi:V->V->Hp->VK->Prop:=λx y H Q=>∃i j,x = .int i/\y = .int j/\Q (.int<|i+j) H
theorem F6:Ui X .Add aJi:=by
 rintro ap s Z H x y u v Q I rx ry ⟨i,j,rfl,rfl,q⟩
 obtain⟨t,rfl⟩:=(show∃t,u=yD i t from rx);obtain⟨t',rfl⟩:=(show∃t',v=yD j t' from ry);exact PyProof.Rows.iadd_int ⟨.int (i+j),H,I.tok _,⟨_,rfl⟩,q⟩
end
structure fJ(k:Nat)(A:cM):Prop where
 hd:A.handled=aD
 dp:A.depth+3*k+5<recursionLimit
 un:A.units+16*k+200<cLine
theorem fJ.mono{k:Nat}(r:fJ k A)(h:j<=k):fJ j A:=⟨r.hd,by have:=r.dp;lia,by have:=r.un;lia⟩
theorem fJ.deeper{k:Nat}{A:cM}(r:fJ (k+1) A)(env:Env):fJ k (A.deeper env):=
 ⟨r.hd,by have:=r.dp;show A.depth+1+3*k+5<_;lia,by have:=r.un;show A.units+3+16*k+200<_;lia⟩
theorem O4:(A.under<|.builtin "type.__call__" ⟨.ref C::us,kw⟩).depth=A.depth+1:=by first|rfl|simp[Code.weight]
theorem O6:(A.under<|.builtin "type.__call__" ⟨.ref C::us,kw⟩).units=A.units+1:=by first|rfl|simp[Code.cUnits]
theorem fJ.make{k:Nat}(r:fJ (k+1) A)(C:Addr)(us:Hs)(kw:Ym):fJ k (A.under<|.builtin "type.__call__" ⟨.ref C::us,kw⟩):=
 ⟨r.hd,by have:=r.dp;rw[O4];lia,by have:=r.un;rw[O6];lia⟩
theorem fJ.depth{k:Nat}{A:cM}(r:fJ k A):A.depth<recursionLimit:=by have:=r.dp;lia
theorem fJ.units{k:Nat}{A:cM}(r:fJ k A):A.units+64<cLine:=by have:=r.un;lia
def jk:TA:=λ_ H Q=>Q [] H
def Oh(ta:TE)(tr:TA):TA:=λZ H Q=>ta Z H λx H1=>tr Z H1 λxs H2=>Q (x::xs) H2
section
variable {t:TA}
theorem ao:PA X [] jk:=λ_ _ _ _ H Q I h=>Calls.spliced_nil ⟨[],H,I,.nil,h⟩
theorem xH(ha:PE X e te)(hr:PA X es t)(hs:eF (e::es) X.env=(aH,eval e X.env)::eF es X.env:=by rfl):PA X (e::es) (Oh te t):=by intro pos ap s a H Q I h;rw[hs];show aS _ _ (spliced<|(aH,eval e X.env)::lQ pos (eF es X.env)) _ _ s;refine Calls.spliced_cons<|bC (ha ap s a H _ I h) λu s1 b=>?_;obtain⟨x,H1,c,d,f⟩:=b;exact bC (hr pos ap s1 a H1 _ c f) λus s2 ⟨xs,g,i,j,k⟩=>⟨x::xs,g,i,.cons d j,k⟩
def aNk(t:TA):TE:=λZ H Q=>t Z H λxs H1=>xs.length<=sizeLine/\∀p,H1 p=aD->Q (.ref p) (bG H1 p<|.tup xs)
def aMz(t:TA):TE:=λZ H Q=>t Z H λxs H1=>xs.length<=sizeLine/\∀p,H1 p=aD->Q (.ref p) (bG H1 p<|.lst xs)
theorem aBi{x1}(h:PA X es t):PE X (.Tuple es x1 pos) (aNk t):=by intro ap s c H Q I d;refine wpAny_Tuple_spliced<|bC (h pos ap s c H _ I d) λus s1 ⟨xs,H1,a,r,z,q⟩=>⟨r.length▸z,?_⟩;have f:=a.aZ.fresh (aV _);refine⟨.ref s1.heap.objs.size,bG H1 s1.heap.objs.size (.tup xs),a.laid (λb u e=>cT _ e) (aV _) ?_,rfl,q _ f⟩;exact⟨z,us,r,⟨_,gA _ rfl,rfl,_,rfl⟩⟩
theorem aAx(h:PA X es t):PE X (.List es pos) (aMz t):=by intro ap s c H Q I d;refine wpAny_List_spliced<|bC (h pos ap s c H _ I d) λus s1 ⟨xs,H1,a,r,z,q⟩=>⟨r.length▸z,?_⟩;have f:=a.aZ.fresh (aV _);refine⟨.ref s1.heap.objs.size,bG H1 s1.heap.objs.size (.lst xs),a.laid (λb u e=>cT _ e) (aV _) ?_,rfl,q _ f⟩;exact⟨z,us,0,r,gA _ rfl⟩
end
abbrev Sp:=Xw->Hp->VK->XK->Prop
variable {sp:Sp}
abbrev nT:=Ys->Hp->aI->XK->Value->aI->Prop
variable {CX:nT}
structure yJ(P:cA)(w:bW)(K:bJ)(mg:Str->Xy)(base:bI)(A:cM)(outer:Ys)(s:aI)(H:Hp):Prop where
 frames:A.frames=aA outer
 mod:Mod K mg base
 bs:∀b o,base.get? b=aA o->s.heap.get? b=aA o/\H b=aD
 wK:base.objs.size<=s.heap.objs.size
 qD:s.heap.FunFrames base outer
 gp:∀b∈qA outer,H b=aD
 aZ:eW P w H s.heap
 bare:vO s.gens
def CE(outer:Ys)(P:cA)(w:bW)(H:Hp)(s:aI)(Q:VK)(u:Value)(s':aI):Prop:=
 ∃v H',s'.os=s.os/\vO s'.gens/\Un (qA outer) [] H H' s.heap s'.heap/\eW P w H' s'.heap/\RelV v u/\Q v H'
def CR(CX:nT)(outer:Ys)(P:cA)(w:bW)(H:Hp)(s:aI)(Q:VK)(E:XK)(r:Result)(s':aI):Prop:=
 match r with
 |.ok (.ret u)=>CE outer P w H s Q u s'
 |.ok _=>False
 |.error e=>CX outer H s E e s'
structure iL(P:cA)(w:bW)(K:bJ)(mg:Str->Xy)(base:bI)(CX:nT)(k:Nat)(f:Addr)(fd:eS)(ps:Yb)(sp:Sp):Prop where
 len:∀vs H Q E,sp vs H Q E->vs.length=ps.length
 run:∀(A:cM) (outer:Ys) (s:aI) (H:Hp) (args:Args) (us:Hs) (vs:Xw) (Q:VK) (E:XK),fJ k A->yJ P w K mg base A outer s H->kh s fd args (ps.zip us)->Vals vs us->sp vs H Q E ->
  tQ (aY P w) A (.call (.ref f) args) (CR CX outer P w H s Q E) s
theorem iL.imp{K:bJ}{k:Nat}{f:Addr}{sp':Sp}(F:iL P w K mg base CX k f fd ps sp)
  (h:∀vs H Q E,sp' vs H Q E->sp vs H Q E):iL P w K mg base CX k f fd ps sp':=
 ⟨λvs H Q E q=>F.len vs H Q E (h _ _ _ _ q),λA outer s H args us vs Q E hr he hb a b=>F.run A outer s H args us vs Q E hr he hb a (h _ _ _ _ b)⟩
theorem yJ.make{K:bJ}(e:yJ P w K mg base A outer s H)(C:Addr)(us:Hs)(kw:Ym) :
 yJ P w K mg base (A.under<|.builtin "type.__call__" ⟨.ref C::us,kw⟩) outer s H:=⟨by first|exact e.frames|(simpa[Code.envs]),e.mod,e.bs,e.wK,e.qD,e.gp,e.aZ,e.bare⟩
theorem Inv.Hm(I:Inv X ap Z H s):yJ X.prog X.w X.K X.mg X.base X.A X.stack s H:=
 ⟨I.ok.frames,I.ok.mod,I.bs,dG I.ok.wK I.sz,I.stack,I.HJ,I.aZ,I.bare⟩
theorem Inv.after{Q:VK}(I:Inv X ap Z H s)(h:CE X.stack X.prog X.w H s Q u s'):EP X ap Z Q u s':=by obtain⟨v,c,os,bare,un,aZ,r,q⟩:=h;obtain⟨e,g,d,t,a⟩:=s';obtain rfl:a=s.os:=os;exact⟨v,c,I.call un aZ bare (λb z=>absurd z (by simp)),r,q⟩
def HP(sp:Sp)(dvs:Xw)(E:XK)(t:TA):TE:=λZ H Q=>t Z H λvs H1=>sp (vs++dvs) H1 Q E
def HQ(C:Addr)(sp:Sp)(dvs:Xw)(E:XK)(t:TA):TE:=λZ H Q=>t Z H λvs H1=>∀x dx,H1 x=aD->H1 dx=aD->dx≠x ->
 sp (.ref x::(vs++dvs)) (bG (bG H1 dx<|.own x) x<|.ins C dx []) (λv H2=>v = .aG/\Q (.ref x) H2) E
def Binds(K:bJ)(fd:eS)(ps:Yb)(ds:Hs):Prop:=
 ∀(s:aI) (us:Hs),K.In s.heap->(us++ds).length=ps.length->kh s fd ⟨us,[]⟩ (ps.zip<|us++ds)
theorem Binds.all{K:bJ}(h:∀us:Hs,us.length=ps.length->bindArgs fd ⟨us,[]⟩=pure (ps.zip us)):Binds K fd ps []:=λs us _ hl=>by rw[jY]at hl ⊢;exact .of_eq<|h us hl
def sF(CX:nT)(X:Cx)(E:XK):Prop:=∀(ap:Hu) (Z:St) (H:Hp) (s:aI) (e:Value) (s':aI),Inv X ap Z H s->CX X.stack H s E e s'->X.xe e s'
section
variable {k:Nat}{f:Addr}{dvs:Xw}{ds:Hs}{E:XK}{o:aK}{ta:TE}{t:TA}
theorem Nn{Q:VK}(F:iL X.prog X.w X.K X.mg X.base CX k f fd ps sp)(hr:fJ k X.A)(hb:Binds X.K fd ps ds)(hd:Vals dvs ds)(hx:sF CX X E)
  (I:Inv X ap Z H s)(r:Vals vs us)(h:sp (vs++dvs) H Q E):aS (aY X.prog X.w) X.A (call (.ref f) us) (EP X ap Z Q) X.xe s:=by
 have b:=r.append hd;have hl:(us++ds).length=ps.length:=by rw[<- b.length];exact F.len _ _ _ _ h
 refine wh<|wb (F.run X.A X.stack s H ⟨us,[]⟩ (us++ds) (vs++dvs) Q E hr I.Hm (hb s us I.fL hl) b h) λr c a=>?_;cases r with
 |error e=>exact hx ap Z H s e c I a|ok fl=>
  cases fl with
  |ret u=>exact I.after a|next=>exact lN a|brk=>exact lN a|cont=>exact lN a
theorem aAm(F:iL X.prog X.w X.K X.mg X.base CX k f fd ps sp)(hr:fJ k X.A)(hg:Gl X x)(hm:X.mg x=aA (.ref f))(hk:tP X.K (.ref f)=aB)(hb:Binds X.K fd ps ds)(hd:Vals dvs ds)(hx:sF CX X E)
  (ha:PA X (e::es) t) (hdb:(x==("__debug__":Str))=aH:=by decide) (he:eF (e::es) X.env=(aH,eval e X.env)::eF es X.env:=by rfl) (hpl:(lQ pos<|eF es X.env).any (·.1)=aH:=by rfl) :
  PE X (.Call (.Name x p) (e::es) [] pos) (HP sp dvs E t):=by
 intro ap s b H Q I h;refine ee<|rq I hg hm ?_ hdb;refine El I.ok.mod.ib hk (bC (ha pos ap s b H _ I h) λus s1 ⟨c,H1,a,r,q⟩=>⟨a.fL,?_⟩) he hpl;exact Nn F hr hb hd hx a r q
theorem aAn(F:iL X.prog X.w X.K X.mg X.base CX k f fd ps sp)(hr:fJ k X.A)(hg:Gl X x)(hm:X.mg x=aA (.ref f))(hk:tP X.K (.ref f)=aB)(hb:Binds X.K fd ps ds)(hd:Vals dvs ds)(hx:sF CX X E)
  (hdb:(x==("__debug__":Str))=aH:=by decide):PE X (.Call (.Name x p) [] [] pos) (HP sp dvs E jk):=by
 intro ap s Z H Q I h;refine ee<|rq I hg hm ?_ hdb;exact Sg I.fL hk<|Nn F hr hb hd hx I .nil h
structure Mk(K:bJ)(C f:Addr):Prop where
 makes:Sk K C=aB
 init:nQ K (.ref C) "__init__"=aA (aA<|.ref f)
 fn:vw K (.ref f)=aB
 kp:tP K (.ref C)=aB
theorem GP{Q:VK}(M:Mk X.K C f)(F:iL X.prog X.w X.K X.mg X.base CX k f fd ps sp)(hr:fJ (k+1) X.A)(hb:Binds X.K fd ps ds)(hd:Vals dvs ds)
  (hx:sF CX X E)(I:Inv X ap Z H s)(r:Vals vs us)
  (h:∀x dx,H x=aD->H dx=aD->dx≠x->sp (.ref x::(vs++dvs)) (bG (bG H dx<|.own x) x<|.ins C dx []) (λv H2=>v = .aG/\Q (.ref x) H2) E) :
  aS (aY X.prog X.w) X.A (call (.ref C) us) (EP X ap Z Q) X.xe s:=by
 have c:=h (s.heap.objs.size+1) s.heap.objs.size (I.aZ.fresh<|hA _) (I.aZ.fresh<|aV _) (bQ<|cF _);have b:=Inv.made (C:=C) I;have d:Vals (V.ref (s.heap.objs.size+1)::(vs++dvs)) (kO (s.heap.objs.size+1)::(us++ds)):=.cons rfl (r.append hd);have hl:(kO (s.heap.objs.size+1)::us++ds).length=ps.length:=by have e:=d.length;rw[F.len _ _ _ _ c]at e;exact e.symm
 refine wh (O5 I.fL M.makes M.init (beq_iff_eq.mp M.fn) (wb (F.run _ X.stack _ _ ⟨kO (s.heap.objs.size+1)::us,[]⟩ (kO (s.heap.objs.size+1)::(us++ds)) _ _ E (hr.make C us [])
  (b.Hm.make C us []) (hb _ (kO (s.heap.objs.size+1)::us) b.fL hl) d c) λr g a=>?_))
 cases r with
 |error e=>exact hx ap Z _ _ e g b a|ok fl=>
  cases fl with
  |ret u=>obtain⟨v,i,j,l,ev,m⟩:=b.after a;subst ev;exact⟨l,⟨V.ref (s.heap.objs.size+1),i,j,rfl,m⟩⟩
  |next=>exact lN a|brk=>exact lN a|cont=>exact lN a
theorem aAy(M:Mk X.K C f)(F:iL X.prog X.w X.K X.mg X.base CX k f fd ps sp)(hr:fJ (k+1) X.A)(hg:Gl X x)(hm:X.mg x=aA (.ref C))(hb:Binds X.K fd ps ds)(hd:Vals dvs ds)(hx:sF CX X E)
  (ha:PA X (e::es) t) (hdb:(x==("__debug__":Str))=aH:=by decide) (he:eF (e::es) X.env=(aH,eval e X.env)::eF es X.env:=by rfl) (hpl:(lQ pos<|eF es X.env).any (·.1)=aH:=by rfl) :
  PE X (.Call (.Name x p) (e::es) [] pos) (HQ C sp dvs E t):=by
 intro ap s b H Q I h;refine ee<|rq I hg hm ?_ hdb;refine El I.ok.mod.ib M.kp (bC (ha pos ap s b H _ I h) λus s1 ⟨c,H1,a,r,q⟩=>⟨a.fL,?_⟩) he hpl;exact GP M F hr hb hd hx a r q
theorem aAz(M:Mk X.K C f)(F:iL X.prog X.w X.K X.mg X.base CX k f fd ps sp)(hr:fJ (k+1) X.A)(hg:Gl X x)(hm:X.mg x=aA (.ref C))(hb:Binds X.K fd ps ds)(hd:Vals dvs ds)(hx:sF CX X E)
  (hdb:(x==("__debug__":Str))=aH:=by decide):PE X (.Call (.Name x p) [] [] pos) (HQ C sp dvs E jk):=by
 intro ap s Z H Q I h;refine ee<|rq I hg hm ?_ hdb;exact Sg I.fL M.kp<|GP M F hr hb hd hx I .nil h
end
def PK(X:Cx)(kws:List tL)(t:TA):Prop:=
 ∀(pos:Pos) (ap:Hu) (s:aI) (Z:St) (H:Hp) (Q:Xw->Hp->Prop),Inv X ap Z H s->t Z H Q->aS (aY X.prog X.w) X.A (evalAll<|(yF pos<|yH kws X.env).map (·.2)) (AP X ap Z Q) X.xe s
section
variable {k:Nat}{f:Addr}{ks:Yb}{E:XK}{K9:Pos}{o:aK}{kws:List tL}{ta:TE}{t tk:TA}{nm:Option Str}
theorem aBz:PK X [] jk:=λ_ _ _ _ H Q I h=>wpAny_evalAll_nil ⟨[],H,I,.nil,h⟩
theorem aBy(ha:PE X e te)(hr:PK X kws t):PK X (⟨nm,e,K9⟩::kws) (Oh te t):=by intro pos ap s a H Q I h;show aS _ _ (evalAll<|(do let v <- eval e X.env;Fa pos;pure v)::(yF pos<|yH kws X.env).map (·.2)) _ _ s;exact wpAny_evalAll_cons<|aQ<|bC (ha ap s a H _ I h) λu s1 ⟨x,H1,b,c,d⟩=>aQ (nj<|cB<|bC (hr pos ap s1 a H1 _ b d) λus s2 ⟨xs,f,g,i,j⟩=>⟨x::xs,f,g,.cons c i,j⟩)
variable {g:Hs->Hs->Hs}{gV:Xw->Xw->Xw}
end
structure ny(N P:Yb)(sc:gH):Prop where
 kind:sc.kind = .function
 co:sc.isCoroutine=aH
 gen:sc.isGenerator=aH
 nd:N.Nodup
 pre:N.take P.length=P
 par:∀x∈P,sc.names.lookup x=aA .local\/sc.names.lookup x=aA .cell
 T9:∀y∈sc.names,y.2 ≠ .free
theorem Vu{kindOf:Str->Option tO}{x:Str}:∀{binds:Ym}{m:Str->Xy},(∀v,(x,v)∉binds)->dj kindOf binds m x=m x
 |[],_,_=>rfl
 | (n,v)::r,m,h=>by
  unfold dj;rw[Vu λw hw=>h w (hW _ hw)];split
  .have:x≠n:=by rintro rfl;exact h v fP
   simp[this]
  .rfl
theorem Vs{kindOf:Str->Option tO}{x:Str}:∀{binds:Ym}{m:Str->Xy},(∀v,(x,v)∉binds)->di kindOf binds m x=m x
 |[],_,_=>rfl
 | (n,v)::r,m,h=>by
  unfold di;rw[Vs λw hw=>h w (hW _ hw)];split
  .rfl
  .have:x≠n:=by rintro rfl;exact h v fP
   simp[this]
theorem Vt{kindOf:Str->Option tO}{x:Str}{v:Value}:∀{P:Yb}{vs:Hs}{i:Nat}{m:Str->Xy},P.Nodup->P[i]?=aA x->vs[i]?=aA v->kindOf x=aA .local ->
  dj kindOf (P.zip vs) m x=aA v
 |[],_,_,_,_,h,_,_=>by simp at h
 |_::_,[],_,_,_,_,h,_=>by simp at h
 |p::P,w::vs,0,m,nd,a,b,c=>by simp at a b;subst a;subst b;show dj kindOf ((p,w)::P.zip vs) m p=_;unfold dj;rw[Vu λv d=>(List.nodup_cons.mp nd).1 (Qx d).1,if_pos c];simp
 |p::P,w::vs,i+1,m,nd,a,b,c=>by unfold dj;exact Vt (List.nodup_cons.mp nd).2 (by simpa) (by simpa) c
theorem Vr{kindOf:Str->Option tO}{x:Str}{v:Value}:∀{P:Yb}{vs:Hs}{i:Nat}{m:Str->Xy},P.Nodup->P[i]?=aA x->vs[i]?=aA v->kindOf x≠aA .local ->
  di kindOf (P.zip vs) m x=aA v
 |[],_,_,_,_,h,_,_=>by simp at h
 |_::_,[],_,_,_,_,h,_=>by simp at h
 |p::P,w::vs,0,m,nd,a,b,c=>by simp at a b;subst a;subst b;show di kindOf ((p,w)::P.zip vs) m p=_;unfold di;rw[Vs λv d=>(List.nodup_cons.mp nd).1 (Qx d).1,if_neg c];simp
 |p::P,w::vs,i+1,m,nd,a,b,c=>by unfold di;exact Vr (List.nodup_cons.mp nd).2 (by simpa) (by simpa) c
def start(N:Yb)(vs:Xw):St:=vs.map aA++eN (N.length-vs.length) aD
def wU(CX:nT)(P:cA)(w:bW)(K:bJ)(mg:Str->Xy)(base:bI)(N:Yb)(qual:Str)(scope:gH)(f:Addr)(cd:Value)(A:cM)(outer:Ys)(s:aI)(H:Hp)(E:XK):Cx where
 prog:=P
 w:=w
 K:=K
 mg:=mg
 base:=base
 A:=A.deeper (vV qual scope s.heap.objs.size f cd)
 N:=N
 s₀:=s
 H₀:=H
 env:=vV qual scope s.heap.objs.size f cd
 outer:=outer
 stack:=vV qual scope s.heap.objs.size f cd::outer
 ex:=[]
 calm:=aB
 fn:=λ_=>aB
 pn:=[]
 xe:=λe s'=>aS (aY P w) (A.deeper<|vV qual scope s.heap.objs.size f cd) (leaving (vV qual scope s.heap.objs.size f cd) e) (λ_ s''=>CX outer H s E e s'') (λe' s''=>CX outer H s E e' s'') s'
theorem Wb{sc:gH}{n:Nat}(h:sc.names.lookup x=aA .cell):∃c,(Sz n sc.names []).lookup x=aA c:=by exact Option.isSome_iff_exists.mp<|NR sc.names n []<|.inl h
theorem G1{K:bJ}{f:Addr}{cd:Value}{s1:aI}{E:XK}
  (S:ny N ps scope)(hd:A.handled=aD)(e0:yJ P w K mg base A outer s H)(hl:vs.length=ps.length)(r:Vals vs us)
  (x:InCallC s s.heap.objs.size (dj (vV qual scope s.heap.objs.size f cd).kindOf (ps.zip us) λ_=>aD) (Sz (s.heap.objs.size+1) scope.names []) (di (vV qual scope s.heap.objs.size f cd).kindOf (ps.zip us) λ_=>aD) s1) :
  Inv (wU CX P w K mg base N qual scope f cd A outer s H E) [] (start N vs) H s1:=by
 have B:ps.length<=N.length:=by have:=congrArg LV S.pre;rw[lP]at this;lia
 obtain⟨m,tk,rfl,o⟩:=x.done;have g:∀b:Addr,b∉(wU CX P w K mg base N qual scope f cd A outer s H E).ex:=λb z=>absurd (show b∈([]:Xx) from z) (by simp);refine⟨⟨e0.mod,S.kind,rfl,rfl,aV _,λy z c m d=>?_,λy hy=>?_,λy c _ h=>?_,λ_=>hd,Around.frames_deeper e0.frames,.inr ⟨rfl,rfl⟩,λb z=>absurd z (g b),e0.bs,e0.wK,λb _ _=>g b,λb z=>absurd z (g b),e0.qD,e0.gp⟩,
  rfl,e0.bare,Un.kept o,⟨_,x.toInCall.ns,λi y v m d D=>?_⟩,λy c h=>⟨_,x.cell y c h⟩,e0.aZ.fresh (aV _),λy c h=>?_,λp j=>absurd (show p∈([]:Hu) from j) (by simp),e0.aZ.kept o,?_⟩
 .exact name_of_addr x.apart (vy m)<|vy d
 .have hy:=hy;rcases hy with hy|hy
  .exact Wb hy
  .exact absurd rfl<|S.T9 _<|vy hy
 .exact mS<|x.above y c<|vy h
 .have n:i<vs.length:=by
   unfold start at d;by_cases n:i<vs.length
   .exact n
   .rw[lh (by simpa using n)]at d;rw[Du]at d;split at d<;>cases d
  have ha:vs[i]?=aA v:=by
   unfold start at d;rw[rW (by simpa),fO]at d;cases e:vs[i]? with
   |none=>rw[e]at d;cases d|some a=>rw[e]at d;cases d;rfl
  obtain⟨u,t,C⟩:=r.get ha;have j:ps[i]?=aA y:=by rw[<- S.pre,aTm (by lia)];exact m
  have l:ps.Nodup:=by rw[<- S.pre];exact S.nd.sublist<|List.take_sublist _ _
  refine⟨u,C,?_⟩;rcases S.par y (bX j)with k|k
  .exact .inl ⟨k,Vt l j t k⟩
  .obtain⟨c,e⟩:=Wb k;refine .inr ⟨.inl k,c,e,?_⟩;have q:=x.cell y c e;rw[Vr l j t (by show scope.names.lookup y≠_;rw[k];decide)]at q;exact q
 .exact e0.aZ.fresh<|mS<|x.above y c<|vy h
 .unfold start;show _=N.length;rw[dQ,aU,Dx];lia
theorem A1{K:bJ}{k:Nat}{f:Addr}{name:Str}{params:Py}{dV kV doc pm cdv ct oc:Value}{an od:ZF}
  {osl:ZC}(lk:K.lookup f=aA ⟨oc,od,.func (mj name qual params body scope dV kV doc pm an cdv ct),osl⟩)(hcd:Sh K cdv qual=aB)(S:ny N ps scope)
  (len:∀vs H Q E,sp vs H Q E->vs.length=ps.length)
  (Iy:∀(A:cM) (outer:Ys) (s:aI) (H:Hp) (vs:Xw) (Q:VK) (E:XK),fJ k (A.deeper<|vV qual scope s.heap.objs.size f cdv)->sp vs H Q E ->
   ∃t,sE (wU CX P w K mg base N qual scope f cdv A outer s H E) body t/\t { nx:=λ_ H'=>Q .aG H',rt:=Q } (start N vs) H) :
  iL P w K mg base CX (k+1) f (mj name qual params body scope dV kV doc pm an cdv ct) ps sp:=by
 refine⟨len,λA outer s H args us vs Q E hr g hb r h=>?_⟩;have l:=g.mod.ib.keeps λb o e=>(g.bs b o e).1;have lim:=g.mod.nolimit.keeps λb o e=>(g.bs b o e).1;have c:∀y∈ps.zip us,scope.names.lookup y.1=aA .local\/(scope.names.lookup y.1=aA .cell/\((Sz (s.heap.objs.size+1) scope.names []).lookup y.1).isSome=aB):=λ⟨n,v⟩ m=>by
  rcases S.par n (Qx m).1 with q|q
  .exact .inl q
  .exact .inr ⟨q,NR _ _ _ (.inl q)⟩
 refine codeAny_call_function hr.depth (l _ _ lk) rfl S.co S.gen rfl (W.codeRec_of l hcd)<|hb _ _ _ _ ?_;refine wpAny_newFunctionEnv_cells S.kind c λenv he s1 x=>?_;subst he;refine⟨lim.keeps x.toInCall.keep,codeAny_func ?_⟩;obtain⟨t,ht,p⟩:=Iy A outer s H vs Q E (hr.deeper _) h;have I:Inv (wU CX P w K mg base N qual scope f cdv A outer s H E) [] (start N vs) H s1:=G1 S hr.hd g (len _ _ _ _ h) r x;refine wj (ht [] s1 (start N vs) H _ I p) (λfl i d=>?_) λe i d=>d;have fin:∀{a:St} {H':Hp}{v:V}{u:Value},Inv (wU CX P w K mg base N qual scope f cdv A outer s H E) [] a H' i->RelV v u->Q v H'->CE outer P w H s Q u i:=
  λ{a H' v u} J j q=>⟨v,H',J.os,J.bare,J.base,J.aZ,j,q⟩
 cases fl with
 |ret u=>obtain⟨v,a,H',J,j,q⟩:=d;exact fin J j q
 |next=>obtain⟨a,H',J,q⟩:=d;exact fin (v:=V.aG) J rfl q
 |brk=>obtain⟨_,_,_,q⟩:=d;exact lN q
 |cont=>obtain⟨_,_,_,q⟩:=d;exact lN q
section
variable {t:TA}{id T:String}{r:Xw->Hp->VK->Prop}
def HN(r:Xw->Hp->VK->Prop)(t:TA):TE:=λZ H Q=>t Z H λvs H1=>r vs H1 Q
theorem Ay(hc:jH X (.builtin id) r) (hg:Gl X x) (hm:X.mg x=aD) (hv:mT x=aA (.builtin id)) (ha:PA X (e::es) t) (hn:x≠"__name__":=by decide) (hdb:(x==("__debug__":Str))=aH:=by decide)
  (he:eF (e::es) X.env=(aH,eval e X.env)::eF es X.env:=by rfl) (hpl:(lQ pos<|eF es X.env).any (·.1)=aH:=by rfl):PE X (.Call (.Name x p) (e::es) [] pos) (HN r t):=by
 intro ap s a H Q I h;exact ee<|xD I hg hm hv (aTt (bC (ha pos ap s a H _ I h) λus s1 ⟨b,H1,c,d,f⟩=>hc ap s1 a H1 b us Q c d f) he hpl) hn hdb
theorem aAo(hc:jH X (.type T) r) (hg:Gl X x) (hm:X.mg x=aD) (hv:mT x=aA (.type T)) (ha:PA X (e::es) t) (hn:x≠"__name__":=by decide) (hdb:(x==("__debug__":Str))=aH:=by decide)
  (he:eF (e::es) X.env=(aH,eval e X.env)::eF es X.env:=by rfl) (hpl:(lQ pos<|eF es X.env).any (·.1)=aH:=by rfl):PE X (.Call (.Name x p) (e::es) [] pos) (HN r t):=by
 intro ap s a H Q I h;exact ee<|xD I hg hm hv (vv (bC (ha pos ap s a H _ I h) λus s1 ⟨b,H1,c,d,f⟩=>hc ap s1 a H1 b us Q c d f) he hpl) hn hdb
end
end L2
namespace HT
open PySem PyProof.Rows
variable {Q:Value->aI->Prop}{hi:Hq}{sl:Addr}{vl vu:Value}
section
open PySem.SeqAt
open PySem.AutoSeq1 (wpAny_loadPart')
open PySem.MeetsSeq PySem.MeetsSeq2 PySem.MeetsSeq3
end
section
variable {prog:cA}{w:bW}{A:cM}{E:Value->aI->Prop}{s:aI}
theorem WT{t b:Addr}{vs ws:Hs}(ht:IsTup s.heap t vs.toArray)(hb:IsTup s.heap b ws.toArray)(hv:vs≠[])
  (h1:ws=[]->Q (.ref t) s)(h2:ws≠[]->Q (.ref s.heap.objs.size) { s with heap:=s.heap.push { cls:=.type "tuple",data:=.seq (vs++ws).toArray } })
  (hsz:vs.length+ws.length<=sizeLine):aS (aY prog w) A (eV .Add (.ref t)<|.ref b) Q E s:=by
 obtain⟨⟨cls,dd,data,sl⟩,h,i,n,hd⟩:=id ht;obtain⟨⟨j,c,data2,d⟩,a,f,k,g⟩:=id hb;simp only at i hd f g;subst i hd f g;have e:vs.toArray++ws.toArray=(vs++ws).toArray:=by simp
 by_cases hw:ws=[]
 .exact Tb ⟨_,h,rfl⟩ ⟨_,a,rfl⟩ Th Tl Sb Rz (Ry _ _)
   (tuple_addW1 t b vs.toArray ws.toArray n k dd c sl d (by simpa) (by simp[hw])) ⟨h,a,h1 hw⟩
 .refine Tb ⟨_,h,rfl⟩ ⟨_,a,rfl⟩ Th Tl Sb Rz (Ry _ _)
   (tuple_addW2 t b vs.toArray ws.toArray n k dd c sl d (by simpa) (by simpa)<|hsz) ⟨h,a,?_⟩
  rw[e];exact h2 hw
def cC(n d:Nat):Hq->Nat
 |none=>d
 |some v=>if v<0 then(v+(n:Int)).toNat else min v.toNat n
theorem Np(n d:Nat):cC n d aD=d:=rfl
theorem jf(n d k:Nat):cC n d (aA (k:Int))=min k n:=by show(if k<0 then(k+(n:Int)).toNat else min (k:Int).toNat n)=min k n;rw[if_neg (by lia),rT]
theorem aWg(n d:Nat)(hd:d<=n)(o:Hq):cC n d o<=n:=by
 cases o with
 |none=>exact hd|some v=>
  show(if v<0 then(v+n).toNat else min v.toNat n)<=n;by_cases a:v<0
  .rw[if_pos a];lia
  .rw[if_neg a];exact MM _ _
theorem Wj(v:Int)(n d:Nat):(if v<0 then max (v+(n:Int)) 0 else min v (n:Int))=((cC n d (aA v):Nat):Int):=by
 show(if v<0 then max (v+n) 0 else min v n)=(((if v<0 then(v+n).toNat else min v.toNat n):Nat):Int);by_cases a:v<0
 .simp only[if_pos a];lia
 .simp only[if_neg a];lia
theorem OY(lo hi:Hq)(n:Nat):Qa lo hi 1 (n:Int)=(((cC n 0 lo:Nat):Int),((cC n n hi:Nat):Int)):=by
 have h1:¬(1<0):=by lia
 unfold Qa;refine Ru ?_ ?_
 .cases lo with
  |none=>rfl|some v=>exact Wj v n 0
 .cases hi with
  |none=>rfl|some v=>exact Wj v n n
theorem aCg(i j:Nat):Cz (i:Int) (j:Int) 1=j-i:=by
 unfold Cz;have a:(1:Int) > 0:=by lia
 simp only[a,if_true,Int.ediv_one];split<;>lia
theorem GY{v:Value}{o:Hq}{Q:Hq->aI->Prop}(p:xV v o)(h:Q o s):aS (aY prog w) A (Builtin.Slice.slicePartIndex v) Q E s:=by
 cases p with
 |none=>exact OC h|int i t=>exact slicePart_int h
theorem aKv{lo:Hq}{n:Nat}{Q:Int×Int×Nat->aI->Prop}(hs:s.heap.IsSliceOf sl vl vu .none)(pl:xV vl lo)(pu:xV vu hi)
  (h:Q (((cC n 0 lo:Nat):Int),1,cC n n hi-cC n 0 lo) s):aS (aY prog w) A (Builtin.Slice.sliceApplied (.ref sl)<|pure (n:Int)) Q E s:=by
 obtain⟨os,a,c,b⟩:=id hs;refine aQ<|aQ<|kP a b (x:=vl) rfl<|aQ<|kP a b (x:=vu) rfl<|aQ<|kP a b rfl<|cB ?_;refine aQ<|OC ?_;refine aQ<|GY pl<|aQ<|GY pu<|aQ<|cB ?_;show aS _ _ (match Qa lo hi 1 n with|(lo,hi)=>pure (lo,(1:Int),Cz lo hi 1)) _ _ s;rw[OY lo hi n];show aS _ _ (pure (((cC n 0 lo:Nat):Int),1,Cz ((cC n 0 lo:Nat):Int) ((cC n n hi:Nat):Int) 1)) _ _ s;rw[aCg];exact cB h
theorem aBx(xs:Yd)(i k:Nat):((Ra k).filterMap λ(m:Nat)=>xs[((i:Int)+(m:Int)*1).toNat]?).toArray=((xs.toList.drop i).take k).toArray:=by
 have e:(λ(m:Nat)=>xs[(i+(m:Int)*1).toNat]?)=λm=>xs[i+m]?:=by
  funext m
  have:(i+(m:Int)*1).toNat=i+m:=by lia
  rw[this]
 rw[e];have:=pick_run xs i k;rw[List.filterMap_map]at this;have a:((λx=>xs[x]?) ∘ λx=>i+x)=λm=>xs[i+m]?:=rfl;rw[a]at this;rw[this]
theorem B8{t:Addr}{items:Yd}{lo:Hq}(ht:IsTup s.heap t items)(hs:s.heap.IsSliceOf sl vl vu .none)(pl:xV vl lo)(pu:xV vu hi)
  (hw:¬(cC items.size 0 lo=0/\cC items.size items.size hi=items.size))
  (h:Q (.ref s.heap.objs.size) { s with heap:=s.heap.push { cls:=.type "tuple",data:=.seq ((items.toList.drop<|cC items.size 0 lo).take (cC items.size items.size hi-cC items.size 0 lo)).toArray } })
  (hsz:items.size<=sizeLine):aS (aY prog w) A (dq (.ref t)<|.ref sl) Q E s:=by
 have a:sizeOk (.seq ((items.toList.drop<|cC items.size 0 lo).take (cC items.size items.size hi-cC items.size 0 lo)).toArray):=by show((items.toList.drop<|cC items.size 0 lo).take (cC items.size items.size hi-cC items.size 0 lo)).toArray.size<=sizeLine;rw[gZ,lP,vm,cg];omega
 obtain⟨os,b,c,f⟩:=id hs;have d:s.TypeIs (.ref sl) "slice":=⟨os,b,c⟩;unfold dq;try with_reducible refine pI ?_
 first|refine aQ<|cB ?_|skip
 refine aQ<|wpAny_sequenceKey ht.typeIs (rfl) ?_;refine aQ (ei ht.typeIs MY
  (fc MY ht.typeIs entry_tuple_getitem ?_<|args_tuple_getitem _ _))
 show aS _ _ (Builtin.Tuple.tupleItemsOf (.ref t)>>=_) _ _ s;refine aQ<|tupleItemsOf_ ht ?_;refine aQ<|wpAny_typeOf d ?_;refine aQ<|aKv hs pl pu ?_;have e:¬((((cC items.size 0 lo:Nat):Int)==0&&(1:Int)==1&&(cC items.size items.size hi-cC items.size 0 lo)==items.size)=aB):=by intro q;rw[bT,bT]at q;have g:=eq_of_beq q.1.1;have i:=eq_of_beq q.2;exact hw ⟨by lia,by lia⟩
 show aS _ _ (if(((cC items.size 0 lo:Nat):Int)==0&&1==1&&(cC items.size items.size hi-cC items.size 0 lo)==items.size)=aB then _ else _) _ _ s;rw[if_neg e,aBx];first
  |exact aQ<|tU (cB ⟨_,rfl,cB h⟩) a|exact aQ<|tU (aQ<|cB<|cB ⟨_,rfl,cB h⟩) a|exact aQ<|aQ<|tU (cB<|cB ⟨_,rfl,cB h⟩) a|exact aQ<|aQ<|tU (cB ⟨_,rfl,cB h⟩) a
end
end HT
namespace L2
open PySem PySem.Spec PyProof.Rows
variable {H:Hp}{T:String}{X:Cx}{e:aK}{i:Int}{its its':Hs}{j n t':Nat}{p:Addr}{ap:Hu}{pos:Pos}{r:V->Hq->Hq->Hp->VK->Prop}{s:aI}{u v:Value}{x y:V}{xs ys:Xw}{Z:St}
abbrev TO:=St->Hp->(Hq->Hp->Prop)->Prop
def PO(X:Cx)(e:Option aK)(t:TO):Prop:=
 ∀(ap:Hu) (s:aI) (Z:St) (H:Hp) (Q:Hq->Hp->Prop),Inv X ap Z H s->t Z H Q ->
  aS (aY X.prog X.w) X.A (evalPart e X.env) (λu s'=>∃o H',Inv X ap Z H' s'/\xV u o/\Q o H') X.xe s
def aNb:TO:=λ_ H Q=>Q aD H
def aNg(t:TE):TO:=λZ H Q=>t Z H λx H1=>∃i,x = .int i/\Q (aA i) H1
section
variable {te:TE}{lo hi:Option aK}{tl th:TO}{p2:Pos}
theorem aCj:PO X aD aNb:=by intro ap s Z H Q I h;exact cB ⟨aD,H,I,.none,h⟩
theorem aCk(h:PE X e te):PO X (aA e) (aNg te):=by intro ap s a H Q I hw;refine bC (h ap s a H _ I hw) λu s1 b=>?_;obtain⟨x,H1,c,d,f⟩:=b;obtain⟨i,rfl,q⟩:=f;obtain⟨t,rfl⟩:=d;exact⟨aA i,H1,c,.int i t,q⟩
def yO(X:Cx)(r:V->Hq->Hq->Hp->VK->Prop):Prop:=
 ∀(ap:Hu) (s:aI) (Z:St) (H:Hp) (x:V) (v vl vu:Value) (lo hi:Hq) (sl:Addr) (Q:VK),Inv X ap Z H s->RelV x v->s.heap.IsSliceOf sl vl vu .none->xV vl lo->xV vu hi->r x lo hi H Q ->
  ∃T id,typeLookup (.type T) "__getitem__"=pure (aA<|.builtin id)/\s.TypeIs v T/\aS (aY X.prog X.w) X.A (dq v<|.ref sl) (EP X ap Z Q) X.xe s
theorem yO.or{r':V->Hq->Hq->Hp->VK->Prop}(h:yO X r)(h':yO X r'):yO X (λx lo hi H Q=>r x lo hi H Q\/r' x lo hi H Q):=by
 intro ap s a H x v vl b lo hi sl Q I c d pl pu q;rcases q with q|q
 .exact h ap s a H x v vl b lo hi sl Q I c d pl pu q
 .exact h' ap s a H x v vl b lo hi sl Q I c d pl pu q
def tSl(r:V->Hq->Hq->Hp->VK->Prop)(te:TE)(tl th:TO):TE:=λZ H Q=>te Z H λx H1=>tl Z H1 λl H2=>th Z H2 λu H3=>r x l u H3 Q
theorem aBg(hr:yO X r)(he:PE X e te)(hl:PO X lo tl)(hu:PO X hi th):PE X (.Subscript e (.Slice lo hi aD p2) pos) (tSl r te tl th):=by intro ap s a H Q I h;refine Subscript_<|bC (he ap s a H _ I h) λv s1 d=>?_;obtain⟨x,H1,i,j,k⟩:=d;refine wpAny_Slice<|bC (hl ap s1 a H1 _ i k) λvl s2 ⟨l,m,n,pl,o⟩=>bC (hu ap s2 a m _ n o) λf c d=>?_;obtain⟨u,g,p,pu,t⟩:=d;refine cB ?_;have w:Inv X ap a g { c with heap:=c.heap.push { cls:=.type "slice",data:=.fields #[vl,f,.none] } }:=p.kept λb ob q=>cT _ q;obtain⟨T,id,y,ht,z⟩:=hr ap { c with heap:=c.heap.push { cls:=.type "slice",data:=.fields #[vl,f,.none] } } a g x v vl f l u c.heap.objs.size Q w j (Heap.IsSliceOf.new ..) pl pu t;exact tail_any ht y z (by with_unfolding_all rfl)
def gh(xs:Xw)(lo hi:Hq):Xw:=(xs.drop<|HT.cC xs.length 0 lo).take (HT.cC xs.length xs.length hi-HT.cC xs.length 0 lo)
theorem Wx(xs:Xw)(lo hi:Hq):(gh xs lo hi).length<=xs.length:=by unfold gh;rw[lP,vm];lia
def aJs(K:bJ):V->Hq->Hq->Hp->VK->Prop:=λx lo hi H Q=>∃a xs,x = .ref a/\eC K H a xs /\
 ¬(HT.cC xs.length 0 lo=0/\HT.cC xs.length xs.length hi=xs.length)/\∀p,H p=aD->Q (.ref p) (bG H p<|.tup<|gh xs lo hi)
theorem aKu:yO X (aJs X.K):=by intro ap s Z H x v vl vu lo hi sl Q I rx hs pl pu h;obtain⟨a,xs,rfl,hx,hw,q⟩:=h;cases rx;obtain⟨its,r,ht,hz⟩:=I.tuple hx;have hlen:its.toArray.size=xs.length:=r.length.symm;refine⟨"tuple",_,PyProof.Rows.slot_tuple_getitem.lookup,ht.typeIs,?_⟩;refine HT.B8 ht hs pl pu (hlen▸hw) ?_<|hlen▸hz;rw[hlen];refine⟨.ref s.heap.objs.size,_,I.laid (λb ob q=>cT _ q) (aV _) ?_,rfl,q _ (I.aZ.fresh<|aV _)⟩;exact⟨dG (Wx xs lo hi) hz,_,(r.drop<|HT.cC xs.length 0 lo).take (HT.cC xs.length xs.length hi-HT.cC xs.length 0 lo),Dl _ _⟩
def aJj(K:bJ):R2:=λx y H Q=>∃a b xs ys,x = .ref a/\y = .ref b/\eC K H a xs/\eC K H b ys/\xs≠[]/\xs.length+ys.length<=sizeLine /\
 (ys=[]->Q (.ref a) H)/\(ys≠[]->∀p,H p=aD->Q (.ref p) (bG H p<|.tup<|xs++ys))
theorem Vals.Kr{us:Hs}(r:Vals xs us):us=[]↔xs=[]:=by
 cases r with
 |nil=>simp|cons _ _=>simp
theorem V6:cV X (eV .Add) (aJj X.K):=by intro ap s Z H x y v u Q I g i h;obtain⟨a,b,xs,ys,rfl,rfl,ha,hb,j,e,k,q2⟩:=h;cases g;cases i;obtain⟨its,d,p1,_⟩:=I.tuple ha;obtain⟨f,c,p2,_⟩:=I.tuple hb;refine HT.WT p1 p2 (λz=>j (d.Kr.mp z)) (λz=>⟨.ref a,H,I,rfl,k (c.Kr.mp z)⟩) (λz=>?_) (by rw[<- d.length,<- c.length];exact e);refine⟨.ref s.heap.objs.size,_,I.laid (λb ob q=>cT _ q) (aV _) ?_,rfl,q2 (λw=>z (c.Kr.mpr w)) _ (I.aZ.fresh<|aV _)⟩;exact⟨dQ▸e,_,d.append c,Dl _ _⟩
end
def jS(n:Nat)(i:Int):Yg:=if 0<=i then(if i<n then aA i.toNat else aD) else if -(n:Int)<=i then aA (i+n).toNat else aD
def cN{α:Type}(xs:List α)(i:Int):Option α:=(jS xs.length i).bind λj=>xs[j]?
theorem AY(h:jS n i=aA j):seqIndex? i n=aA j/\j<n/\-(n:Int)<=i/\i<n:=by
 unfold jS at h;by_cases h0:0<=i
 .rw[if_pos h0]at h;by_cases a:i<n
  .rw[if_pos a]at h;have e:=dI h;exact⟨by rw[Tj h0 a,e],by lia,by lia,a⟩
  .rw[if_neg a]at h;cases h
 .rw[if_neg h0]at h;by_cases a:-n<=i
  .rw[if_pos a]at h;have e:=dI h;exact⟨by rw[seqIndex_neg (by lia) a,e],by lia,a,by lia⟩
  .rw[if_neg a]at h;cases h
theorem Fv{α:Type}{xs:List α}{v:α}(h:cN xs i=aA v):∃j,seqIndex? i xs.length=aA j/\xs[j]?=aA v/\j<xs.length/\-(xs.length:Int)<=i/\i<xs.length:=by
 unfold cN at h;cases e:jS xs.length i with
 |none=>rw[e]at h;cases h|some j=>rw[e]at h;obtain⟨a,b,c,d⟩:=AY e;exact⟨j,a,h,b,c,d⟩
theorem oy{α:Type}{xs:List α}{v:α}(h:xs[j]?=aA v):cN xs (j:Int)=aA v:=by
 have hj:=(List.getElem?_eq_some_iff.mp h).1;have e:jS xs.length j=aA j:=by unfold jS;rw[if_pos (by lia),if_pos (by lia)];simp
 unfold cN;rw[e];exact h
def Fq(b:aK):Prop:=∀o i,To b aH o i=operate [o,i] (dq o i)
def pL(X:Cx)(r:R2):Prop:=
 ∀(value slice:aK) (ap:Hu) (s:aI) (Z:St) (H:Hp) (x y:V) (v u:Value) (Q:VK),Inv X ap Z H s->RelV x v->RelV y u->r x y H Q ->
  To slice aH v u=operate [v,u] (dq v u)->aS (aY X.prog X.w) X.A (subscriptTail value slice v u) (EP X ap Z Q) X.xe s
def Ul(X:Cx)(id:String)(r:V->Xw->Hp->VK->Prop):Prop:=
 ∀(ap:Hu) (s:aI) (Z:St) (H:Hp) (x:V) (xs:Xw) (v:Value) (us:Hs) (Q:VK),Inv X ap Z H s->RelV x v->Vals xs us->r x xs H Q ->
  aS (aY X.prog X.w) X.A (call (.builtin id)<|v::us) (EP X ap Z Q) X.xe s
section
variable {a b:aK}{ta tb:TE}
theorem pL.or{r r':R2}(h:pL X r)(h':pL X r'):pL X (λx y H Q=>r x y H Q\/r' x y H Q):=by
 intro value slice ap s a H x y v u Q I b c q d;rcases q with q|q
 .exact h value slice ap s a H x y v u Q I b c q d
 .exact h' value slice ap s a H x y v u Q I b c q d
theorem aAw{r:R2}(hr:pL X r)(ha:PE X a ta)(hb:PE X b tb)(hs:Fq b):PE X (.Subscript a b pos) (Bv r ta tb):=by intro ap s c H Q I h;exact Subscript_<|Gb ha hb I h λv u s2 x y d e f g q=>hr a b ap s2 c d x y v u Q e f g q (hs _ _)
def FW(K:bJ):R2:=λx y H Q=>∃p xs i v,x = .ref p/\y = .int i/\dM K H p xs/\cN xs i=aA v/\Q v H
def FY(K:bJ):R2:=λx y H Q=>∃p xs i v,x = .ref p/\y = .int i/\eC K H p xs/\cN xs i=aA v/\Q v H
def FX:R2:=λx y H Q=>∃z i c,x = .str z/\y = .int i/\z.length<=sizeLine/\cN z.cps.toList i=aA c/\Q (.str ⟨#[c]⟩) H
theorem H7:pL X (FW X.K):=by
 intro value slice ap s f H x y v u Q I g k h e;obtain⟨p,xs,i,z,rfl,rfl,l,he,q⟩:=h;cases g;obtain⟨t,rfl⟩:=k;obtain⟨b,r,pl,A⟩:=I.list l;obtain⟨j,a,m,B,n,o⟩:=Fv he;obtain⟨w,C,c⟩:=r.get m;have hl:=r.length;have hn:=aa;have fin:EP X ap f Q w s:=⟨z,H,I,c,q⟩;by_cases h0:0<=i
 .have d:i.toNat=j:=by rw[Tj h0 o]at a;exact dI a
  exact item_listR pl.isList h0 (by lia) (by rw[d];simpa) fin e
 .have d:(i+(b.toArray.size:Int)).toNat=j:=by rw[seqIndex_neg (by omega) n]at a;rw[gZ,<- hl];exact dI a
  exact OD pl.isList.typeIs slot_list_getitem.lookup
   (wpAny_getItem_list_neg pl.isList (by omega) (by rw[gZ]<;>lia) (by lia) (by rw[d];simpa) ⟨rfl,fin⟩) e
theorem I7:pL X (FY X.K):=by
 intro value slice ap s b H x y v u Q I c d h e;obtain⟨p,xs,i,z,rfl,rfl,f,he,q⟩:=h;cases c;obtain⟨t,rfl⟩:=d;obtain⟨g,r,pl,m⟩:=I.tuple f;obtain⟨j,k,l,n,o,A⟩:=Fv he;obtain⟨w,B,a⟩:=r.get l;have hl:=r.length;have hn:=aa;have fin:EP X ap b Q w s:=⟨z,H,I,a,q⟩;exact OD pl.typeIs slot_tuple_getitem.lookup
  (getItem_tuple pl (by lia) (by lia) (by rw[gZ,<- hl];exact k) (by simpa) ⟨rfl,fin⟩) e
theorem I0:pL X FX:=by
 intro value slice ap s Z H x y v u Q I rx ry h hs;obtain⟨z,i,c,rfl,rfl,hz,he,q⟩:=h;obtain⟨t,rfl⟩:=rx;obtain⟨t',rfl⟩:=ry;obtain⟨j,h1,h2,h3,h4,h5⟩:=Fv he;have hl:z.cps.toList.length=z.length:=by simp[Str.length]
 rw[hl]at h1 h4 h5;have hn:=aa;exact tail_any (typeIs_str s z t) slot_str_getitem.lookup (getItem_str (c:=c) (by
  have e1:decide (i < -(2 ^ 63:Int))=aH:=decide_eq_false (by lia);have e2:decide (i ≥ 2 ^ 63)=aH:=decide_eq_false (by lia);rw[e1,e2,Bool.or_false]) (by rw[h1];simpa using h2) ⟨.str ⟨#[c]⟩,H,I.tok _,⟨_,rfl⟩,q⟩) hs
def Ng(K:bJ):R2:=λx y H Q=>FW K x y H Q\/FY K x y H Q\/FX x y H Q
theorem H9:pL X (Ng X.K):=H7.or (I7.or I0)
theorem O7(its:Hs)(n j:Nat)(u:Value):vr (·.setIfInBounds j u) { cls:=.type "list",data:=.seq its.toArray n }={ cls:=.type "list",data:=.seq (its.set j u).toArray n }:=by simp[vr]
theorem Inv.lst(I:Inv X ap Z H s)(h:H p=aA (.lst xs)) :
  ∃(its:Hs) (n:Nat),Vals xs its/\s.heap.get? p=aA { cls:=.type "list",data:=.seq its.toArray n }/\xs.length<=sizeLine:=by
 obtain⟨z,its,n,r,e⟩:=I.aZ p _ h;exact⟨its,n,r,e,z⟩
theorem Inv.O0{n':Nat}{f:Obj->Obj}(I:Inv X ap Z H s)(h:H p=aA (.lst xs))
  (ho:s.heap.get? p=aA { cls:=.type "list",data:=.seq its.toArray n })(hf:f { cls:=.type "list",data:=.seq its.toArray n }={ cls:=.type "list",data:=.seq its'.toArray n' })(r:Vals ys its')(hz:ys.length<=sizeLine)(t:Nat) :
  Inv X ap Z (bG H p<|.lst ys) { s with heap:=s.heap.update p f,toks:=t }:=by
 have e:(s.heap.update p f).get? p=aA { cls:=.type "list",data:=.seq its'.toArray n' }:=by rw[vj f ho (by rw[hf]<;>rfl),hf]
 refine I.write (by rw[h];trivial) (.inl rfl) (λb u hb q=>(ck _ _<|kN hb).trans q) ⟨_,e⟩ ?_;exact⟨hz,its',n',r,e⟩
def GA:V->V->V->Hp->(Hp->Prop)->Prop:=λo i v H Q=>∃p xs k j,o = .ref p/\i = .int k/\H p=aA (.lst xs)/\jS xs.length k=aA j/\Q (bG H p<|.lst<|xs.set j v)
theorem aKn:Fp X GA:=by
 intro ap s m H o i v B C u Q I w x y h;obtain⟨p,xs,k,j,rfl,rfl,e,z,q⟩:=h;cases w;obtain⟨t,rfl⟩:=x;obtain⟨a,n,r,c,A⟩:=I.lst e;obtain⟨b,D,f,g⟩:=AY z;have hl:=r.length;have hn:=aa;have l:Inv X ap m (bG H p<|.lst<|xs.set j v) { s with heap:=s.heap.update p (vr (·.setIfInBounds j u)) }:=
  I.O0 e c (O7 a n j u) (r.set y j) (by rw[tN];exact A) s.toks
 by_cases h0:0<=k
 .have d:k.toNat=j:=by rw[Tj h0 g]at b;exact dI b
  exact W.ki_setAt c h0 (by lia) (by rw[gZ,<- hl];exact g) (by rw[d];exact⟨_,l,q⟩)
 .have d:(k+(a.toArray.size:Int)).toNat=j:=by rw[seqIndex_neg (by omega) f]at b;rw[gZ,<- hl];exact dI b
  exact W.ki_setBack c (by omega) (by rw[gZ,<- hl];exact f) (by lia) (by rw[d];exact⟨_,l,q⟩)
theorem aKx(lo hi:Hq)(n:Nat):(dw lo hi aD n).1=((HT.cC n 0 lo:Nat):Int)/\(dw lo hi aD n).2.1=((HT.cC n n hi:Nat):Int)/\(dw lo hi aD n).2.2=1:=by
 refine⟨?_,?_,rfl⟩
 .cases lo with
  |none=>simp[dw,HT.cC]|some i=>
   simp only[dw,HT.cC,MV,show(1:Int) > 0 by decide,if_true];by_cases h:i<0
   .simp only[h,if_true]<;>omega
   .simp only[h,if_false]<;>omega
 .cases hi with
  |none=>simp[dw,HT.cC]|some i=>
   simp only[dw,HT.cC,MV,show(1:Int) > 0 by decide,if_true];by_cases h:i<0
   .simp only[h,if_true]<;>omega
   .simp only[h,if_false]<;>omega
theorem aKw(its:Hs)(lo hi:Hq):slicePick its.toArray lo hi aD=((its.drop<|HT.cC its.length 0 lo).take (HT.cC its.length its.length hi-HT.cC its.length 0 lo)).toArray:=by obtain⟨a,b,c⟩:=aKx lo hi its.toArray.size;unfold slicePick;rw[a,b,c];simp only[sliceRange_one,pick_run]<;>rfl
def aJr(K:bJ):V->Hq->Hq->Hp->VK->Prop:=λx lo hi H Q=>∃a xs,x = .ref a/\dM K H a xs/\∀p,H p=aD->Q (.ref p) (bG H p<|.lst<|gh xs lo hi)
theorem aKt:yO X (aJr X.K):=by intro ap s Z H x v vl vu lo hi sl Q I rx hs pl pu h;obtain⟨a,xs,rfl,hx,q⟩:=h;cases rx;obtain⟨its,r,ht,hz⟩:=I.list hx;have hlen:=r.length;refine⟨"list",_,slot_list_getitem.lookup,ht.isList.typeIs,?_⟩;refine wpAny_getItem_list_slice ht.isList hs pl pu .none (by simp) ?_ (by rw[gZ]<;>lia);rw[aKw,<- hlen];refine⟨.ref s.heap.objs.size,_,I.laid (λb ob q=>cT _ q) (aV _) ?_,rfl,q _ (I.aZ.fresh<|aV _)⟩;exact⟨dG (Wx xs lo hi) hz,_,0,(r.drop<|HT.cC xs.length 0 lo).take (HT.cC xs.length xs.length hi-HT.cC xs.length 0 lo),gA _ rfl⟩
def sN:V->Bool
 |.aG=>aB
 |.bl _=>aB
 |.int _=>aB
 |.str _=>aB
 |_=>aH
def uC:V->V->Bool
 |.aG,.aG=>aB
 |.bl a,.bl b=>a==b
 |.bl a,.int b=>(if a then 1 else 0)==b
 |.int a,.bl b=>a==(if b then 1 else 0)
 |.int a,.int b=>a==b
 |.str a,.str b=>a==b
 |_,_=>aH
theorem YX{A:cM}(ry:RelV y u)(rx:RelV x v)(fy:sN y=aB)(fx:sN x=aB):SeqAt.EqAt A s u v (uC y x):=by
 cases y with
 |aG=>
  cases ry;cases x with
  |aG=>cases rx;exact SeqAt.EqAt.same _|bl b=>cases rx;exact SeqAt.EqAt.none_bool b|int b=>obtain⟨t,rfl⟩:=rx;exact SeqAt.EqAt.none_int b t|str b=>obtain⟨t,rfl⟩:=rx;exact SeqAt.EqAt.none_str b t|_=>exact absurd (show aH=aB from fx) fZ
 |bl a=>
  cases ry;cases x with
  |aG=>cases rx;exact SeqAt.EqAt.bool_none a|bl b=>cases rx;exact SeqAt.EqAt.bool_bool a b|int b=>obtain⟨t,rfl⟩:=rx;exact SeqAt.EqAt.bool_int a b t|str b=>obtain⟨t,rfl⟩:=rx;exact SeqAt.EqAt.bool_str a b t|_=>exact absurd (show aH=aB from fx) fZ
 |int a=>
  obtain⟨t',rfl⟩:=ry;cases x with
  |aG=>cases rx;exact SeqAt.EqAt.int_none a t'|bl b=>cases rx;exact SeqAt.EqAt.int_bool a t' b|int b=>obtain⟨t,rfl⟩:=rx;exact SeqAt.EqAt.int_int a t' b t|str b=>obtain⟨t,rfl⟩:=rx;exact NS a t' b t|_=>exact absurd (show aH=aB from fx) fZ
 |str a=>
  obtain⟨t',rfl⟩:=ry;cases x with
  |aG=>cases rx;exact SeqAt.EqAt.str_none a t'|bl b=>cases rx;exact SeqAt.EqAt.str_bool a t' b|int b=>obtain⟨t,rfl⟩:=rx;exact NT a t' b t|str b=>obtain⟨t,rfl⟩:=rx;exact SeqAt.EqAt.str_str a t' b t|_=>exact absurd (show aH=aB from fx) fZ
 |_=>exact absurd (show aH=aB from fy) fZ
def mI(x:V)(u:Value):Bool:=match u with
 |.none=>uC .aG x
 |.bool b=>uC (.bl b) x
 |.int i _=>uC (.int i) x
 |.str z _=>uC (.str z) x
 |_=>aH
theorem Xt(r:RelV y u)(f:sN y=aB):mI x u=uC y x:=by
 cases y with
 |aG=>cases r;rfl|bl b=>cases r;rfl|int i=>obtain⟨t,rfl⟩:=r;rfl|str z=>obtain⟨t,rfl⟩:=r;rfl|_=>exact absurd (f) fZ
theorem ou{x:V}:∀{xs:Xw}{us:Hs},Vals xs us->xs.all sN=aB->us.any (mI x)=xs.any λy=>uC y x
 |_,_,.nil,_=>rfl|y::xs,u::us,.cons r t,f=>by rw[jX,bT]at f;rw[rV,rV,Xt r f.1,ou t f.2]
theorem sx{A:cM}{s:aI}{x:V}{v:Value}(rx:RelV x v)(fx:sN x=aB):∀{xs:Xw}{us:Hs},Vals xs us->xs.all sN=aB->∀u∈us,SeqAt.EqAt A s u v (mI x u)
 |_,_,.nil,_=>λu hu=>by cases hu
 |y::xs,u::us,.cons r t,f=>λa hu=>by
  rw[jX,bT]at f;rcases List.mem_cons.mp hu with rfl|hu
  .rw[Xt r f.1];exact YX r rx f.1 fx
  .exact sx rx fx t f.2 a hu
def zw(x:V)(xs:Xw):Bool:=xs.any λy=>uC y x
def FT(K:bJ)(neg:Bool):R2:=λx y H Q=>∃p xs,y = .ref p/\(dM K H p xs\/eC K H p xs)/\sN x=aB/\xs.all sN=aB/\Q (.bl<|if neg then !zw x xs else zw x xs) H
theorem W6:cV X (dJ .In) (FT X.K aH):=by
 intro ap s e H x y v u Q I b c h;obtain⟨p,xs,rfl,hq,fx,fs,q⟩:=h;cases c;rcases hq with hq|hq
 .obtain⟨a,r,pl,d⟩:=I.list hq;refine SeqAt.in_listAt (mI x) pl.isList (λw hw=>sx b fx r fs w (by simpa using hw)) ⟨.bl _,H,I,rfl,?_⟩;rw[show a.toArray.any (mI x)=a.any (mI x) by simp,ou r fs];exact q
 .obtain⟨a,r,pl,d⟩:=I.tuple hq;refine SeqAt.in_tupleAt (mI x) pl (λw hw=>sx b fx r fs w (by simpa using hw)) ⟨.bl _,H,I,rfl,?_⟩;rw[show a.toArray.any (mI x)=a.any (mI x) by simp,ou r fs];exact q
theorem X5:cV X (dJ .NotIn) (FT X.K aB):=by
 intro ap s e H x y v u Q I b c h;obtain⟨p,xs,rfl,hq,fx,fs,q⟩:=h;cases c;rcases hq with hq|hq
 .obtain⟨a,r,pl,d⟩:=I.list hq;refine SeqAt.notIn_listAt (mI x) pl.isList (λw hw=>sx b fx r fs w (by simpa using hw)) ⟨.bl _,H,I,rfl,?_⟩;rw[show a.toArray.any (mI x)=a.any (mI x) by simp,ou r fs];exact q
 .obtain⟨a,r,pl,d⟩:=I.tuple hq;refine SeqAt.notIn_tupleAt (mI x) pl (λw hw=>sx b fx r fs w (by simpa using hw)) ⟨.bl _,H,I,rfl,?_⟩;rw[show a.toArray.any (mI x)=a.any (mI x) by simp,ou r fs];exact q
theorem WG:jH X (.builtin "len") (λxs H Q=>∃p ys,xs=[.ref p]/\(dM X.K H p ys\/eC X.K H p ys)/\Q (.int ys.length) H):=by
 intro ap s e H xs us Q I r h;obtain⟨p,ys,rfl,hq,q⟩:=h;obtain⟨u,rfl,c⟩:=jr r;cases c;have hn:=aa;rcases hq with hq|hq
 .obtain⟨a,b,pl,d⟩:=I.list hq;have hlen:=b.length;exact Calls.call_len_list pl.isList (by simp only[gZ]<;>omega) ⟨.int ys.length,H,I.tok _,⟨s.toks+1,by rw[gZ,hlen]⟩,q⟩
 .obtain⟨a,b,pl,d⟩:=I.tuple hq;have hlen:=b.length;exact len_tuple pl (by simp only[gZ]<;>omega) ⟨.int ys.length,H,I.tok _,⟨s.toks+1,by rw[gZ,hlen]⟩,q⟩
theorem WH:jH X (.builtin "len") (λxs H Q=>∃z,xs=[.str z]/\z.length<=sizeLine/\Q (.int z.length) H):=by intro ap s a H xs us Q I r h;obtain⟨z,rfl,b,q⟩:=h;obtain⟨u,rfl,t,rfl⟩:=jr r;have hn:=aa;exact len_str (by lia) ⟨.int z.length,H,I.tok _,⟨_,rfl⟩,q⟩
theorem jH.or{f:Value}{r r':Xw->Hp->VK->Prop}(h:jH X f r)(h':jH X f r'):jH X f (λxs H Q=>r xs H Q\/r' xs H Q):=by
 intro ap s a H xs us Q I rs q;rcases q with q|q
 .exact h ap s a H xs us Q I rs q
 .exact h' ap s a H xs us Q I rs q
theorem WJ:jH X (.type "list") (λxs H Q=>∃p ys,xs=[.ref p]/\(dM X.K H p ys\/eC X.K H p ys)/\∀l,H l=aD->Q (.ref l) (bG H l<|.lst ys)):=by
 intro ap s m H xs us Q I r h;obtain⟨p,ys,rfl,hq,q⟩:=h;obtain⟨u,rfl,t⟩:=jr r;cases t;have fin:∀a,Vals ys a->ys.length<=sizeLine->∀c d,(∀b k,s.heap.get? b=aA k->c.get? b=aA k) ->
   c.get? s.heap.objs.size=aA { cls:=.type "list",dict:=aD,data:=.seq a.toArray d,slots:=#[] }->EP X ap m Q (.ref s.heap.objs.size) { s with heap:=c }:=λa f g c d kp e=>
  ⟨.ref s.heap.objs.size,_,I.laid kp (aV _) (show hB X.prog X.w _ c _ (.lst ys) from⟨g,a,d,f,e⟩),rfl,q _ (I.aZ.fresh<|aV _)⟩
 rcases hq with hq|hq
 .obtain⟨a,f,pl,g⟩:=I.list hq;have hlen:=f.length;obtain⟨o,i,j,n,hd⟩:=pl.isList;exact NY p (.inl rfl) i j hd (λc d kp e=>fin a f g c d kp e) (by simp only[gZ]<;>omega)
 .obtain⟨a,f,pl,g⟩:=I.tuple hq;have hlen:=f.length;obtain⟨o,i,j,n,hd⟩:=pl;exact NY p (.inr rfl) i j hd (λc d kp e=>fin a f g c d kp e) (by simp only[gZ]<;>omega)
theorem WR:jH X (.type "tuple") (λxs H Q=>∃p ys,xs=[.ref p]/\((dM X.K H p ys/\∀l,H l=aD->Q (.ref l) (bG H l<|.tup ys))\/(eC X.K H p ys/\Q (.ref p) H))):=by
 intro ap s g H xs us Q I r h;obtain⟨p,ys,rfl,h⟩:=h;obtain⟨u,rfl,k⟩:=jr r;cases k;rcases h with⟨d,q⟩|⟨d,q⟩
 .obtain⟨a,f,pl,i⟩:=I.list d;have hlen:=f.length;refine call_tuple_list pl.isList (λc kp=>?_) (by simp only[gZ]<;>omega);have j:Inv X ap g H { s with heap:=c }:=I.kept kp;have m:Inv X ap g (bG H c.objs.size<|.tup ys) { s with heap:=c.push { cls:=.type "tuple",data:=.seq a.toArray } }:=
   j.laid (λb o e=>cT _ e) (aV _) (show hB X.prog X.w _ _ _ (.tup ys) from⟨i,a,f,Dl _ _⟩)
  exact⟨.ref c.objs.size,_,m,rfl,q _ (j.aZ.fresh<|aV _)⟩
 .obtain⟨a,f,pl,i⟩:=I.tuple d;exact call_tuple_same pl ⟨.ref p,H,I,rfl,q⟩
def Oq(K:bJ)(T:String)(x:V)(H:Hp):Prop:=match x with
 |.str _=>T="str"
 |.int _=>T="int"
 |.ref p=>(T="list"/\∃xs,dM K H p xs)\/(T="tuple"/\∃o,K.lookup p=aA o/\o.cls = .type "tuple"/\o.dict=aD) \/
  (T="dict"/\((∃kvs,H p=aA (.dK kvs))\/∃kvs,H p=aA (.dT kvs)))\/(T="set"/\∃S n,H p=aA (.set S n))
 |_=>False
theorem IJ(I:Inv X ap Z H s)(r:RelV x v)(ty:Oq X.K T x H) :
  s.TypeIs v T/\∀a,v = .ref a->∃ob,s.heap.get? a=aA ob/\ob.dict=aD:=by
 cases x with
 |str z=>obtain⟨t,rfl⟩:=r;cases(ty);exact⟨typeIs_str s z t,nofun⟩
 |int i=>obtain⟨t,rfl⟩:=r;cases(ty);exact⟨Tp s i t,nofun⟩
 |ref p=>
  cases r;rcases ty with⟨rfl,xs,g⟩|⟨rfl,o,b,h,hd⟩|⟨rfl,b⟩|⟨rfl,S,n,b⟩
  .obtain⟨j,_,pl,_⟩:=I.list g;refine⟨pl.isList.typeIs,λa e=>?_⟩;cases e;obtain⟨o,n,e,c,hd,_⟩:=pl;exact⟨o,e,hd⟩
  .refine⟨⟨o,I.fL p o b,h⟩,λa e=>?_⟩;cases e;exact⟨o,I.fL _ o b,hd⟩
  .have z:∃o,s.heap.get? p=aA o/\o.ExactDict:=by
    rcases b with⟨d,b⟩|⟨d,b⟩
    .obtain⟨_,_,_,_,o,_,_,e,ex,_⟩:=I.aZ p _ b;exact⟨o,e,ex⟩
    .obtain⟨_,_,_,_,o,_,_,e,ex,_⟩:=I.aZ p _ b;exact⟨o,e,ex⟩
   obtain⟨o,e,ex⟩:=z;refine⟨⟨o,e,ex.1⟩,λa f=>?_⟩;cases f;exact⟨o,e,ex.2.1⟩
  .obtain⟨o,_,_,_,e,ex,_⟩:=I.aZ p _ b;refine⟨⟨o,e,ex.1⟩,λa f=>?_⟩;cases f;exact⟨o,e,ex.2.1⟩
 |_=>exact lN ty
def aMq(K:bJ)(T:String)(r:V->Xw->Hp->VK->Prop)(to:TE):TE:=λZ H Q=>to Z H λx H1=>Oq K T x H1/\r x [] H1 Q
def tBM(K:bJ)(T:String)(r:V->Xw->Hp->VK->Prop)(to:TE)(t:TA):TE:=λZ H Q=>to Z H λx H1=>Oq K T x H1/\t Z H1 λxs H2=>r x xs H2 Q
variable {o:aK}{es:List aK}{to:TE}{t:TA}{name:Str}{apos sJ:Pos}{id:String}{r:V->Xw->Hp->VK->Prop}
theorem aAl(pa:PlainAttrs T) (slot:Slot T name id) (hty:typeOf (.builtin id)=pure (.type "method_descriptor")) (hm:Ul X id r) (ho:PE X o to)
  (Iw:mq o name X.env (eval o X.env)=eval o X.env:=by rfl) (Jb:(apos.endLine==sJ.line)=aB:=by rfl):PE X (.Call (.Attribute o name apos) [] [] sJ) (aMq X.K T r to):=by
 intro ap s a H Q I h;refine wpAny_Call_method0_late Iw Jb<|bC (ho ap s a H _ I h) λv s1 d=>?_;obtain⟨x,H1,b,c,ty,e⟩:=d;obtain⟨f,g⟩:=IJ b c ty;exact⟨T,id,pa,slot,hty,f,g,Qb rfl (PySem.evalArgs_none<|hm ap s1 a H1 x [] v [] Q b c .nil e)⟩
theorem DM(pa:PlainAttrs T) (slot:Slot T name id) (hty:typeOf (.builtin id)=pure (.type "method_descriptor")) (hm:Ul X id r) (ho:PE X o to) (ha:PA X (e::es) t)
  (Iw:mq o name X.env (eval o X.env)=eval o X.env:=by rfl)
  (D9:((lQ sJ<|eF (e::es) X.env).all (λx=>!x.1)&&(yF sJ<|yH [] X.env).all (λx=>x.1.isSome)
  &&decide ((e::es).length+([]:List tL).length+(if([]:List tL).isEmpty then 0 else 1)<30))=aB:=by rfl)
  (Jb:(apos.endLine==sJ.line)=aB:=by rfl) (hs:eF (e::es) X.env=(aH,eval e X.env)::eF es X.env:=by rfl) (E6:(lQ sJ<|eF es X.env).any (·.1)=aH:=by rfl) :
  PE X (.Call (.Attribute o name apos) (e::es) [] sJ) (tBM X.K T r to t):=by
 intro ap s a H Q I h;refine OF Iw D9 Jb rfl<|bC (ho ap s a H _ I h) λv s1 f=>?_;obtain⟨x,H1,b,c,ty,g⟩:=f;obtain⟨i,j⟩:=IJ b c ty;refine⟨T,id,pa,slot,hty,i,j,?_⟩;have d:=ha sJ ap s1 a H1 _ b g;rw[hs]at d ⊢;exact Qb (by show(aH||(lQ sJ<|eF es X.env).any (·.1))=aH;rw[E6]<;>rfl)<|KB<|bC d λus s2 ⟨k,l,m,n,p⟩=>hm ap s2 a l x k v us Q m c n p
end
def fm(X:Cx)(id:String)(r:V->Xw->Hp->VK->Prop):Prop:=
 ∀(ap:Hu) (s:aI) (Z:St) (H:Hp) (x:V) (xs:Xw) (v:Value) (us:Hs) (Q:VK),Inv X ap Z H s->RelV x v->Vals xs us->r x xs H Q ->
  aS (aY X.prog X.w) X.A (call (.builtin id)<|v::us) (EP X ap Z Q) X.xe s
theorem Vals.one:∀{x:V}{us:Hs},Vals [x] us->∃u,us=[u]/\RelV x u
 |_,_,.cons r .nil=>⟨_,rfl,r⟩
theorem Vals.zero:∀{us:Hs},Vals [] us->us=[]
 |_,.nil=>rfl
theorem Vals.dropLast{xs:Xw}{us:Hs}(h:Vals xs us):Vals xs.dropLast us.dropLast:=by
 induction h with
 |nil=>exact .nil|cons r t a=>
  cases t with
  |nil=>exact .nil|cons q b=>exact .cons r a
theorem Vals.rep{xs:Xw}{us:Hs}(h:Vals xs us):∀k:Nat,Vals (eN k xs).flatten (eN k us).flatten
 |0=>.nil
 |k+1=>by exact Vals.append h<|Vals.rep h k
theorem YZ{α:Type}(l:List α):l.eraseIdx (l.length-1)=l.dropLast:=by
 induction l with
 |nil=>rfl|cons a r c=>
  cases r with
  |nil=>rfl|cons b r=>
   have e:(a::b::r).length-1=((b::r).length-1)+1:=by have d:(a::b::r).length=r.length+2:=rfl;have f:(b::r).length=r.length+1:=rfl;lia
   rw[e,aTk,c];all_goals rfl
theorem Yz(its:Hs):∀(k:Nat) (acc:Hs),
  Qn (λx1 x2=>x1++x2) acc.toArray (eN k its.toArray)=(acc++(eN k its).flatten).toArray
 |0,acc=>by simp
 |k+1,acc=>by
  have e:acc.toArray++its.toArray=(acc++its).toArray:=by simp
  have a:(acc++its)++(eN k its).flatten=acc++(eN (k+1) its).flatten:=by rw[Rb,LG,tM]
  rw[<- a,<- Yz its k (acc++its),<- e,Rb,LJ]
section
variable {l b:Addr}{zs:Xw}
theorem Inv.CH{f:Yd->Yd}(I:Inv X ap Z H s)(hH:H l=aA (.lst xs))
  (e:s.heap.get? l=aA { cls:=.type "list",data:=.seq its.toArray n })(hf:f its.toArray=its'.toArray)(hv:Vals ys its')(hz:ys.length<=sizeLine) :
  Inv X ap Z (bG H l<|.lst ys) { s with heap:=s.heap.update l (vr f),toks:=t' }:=by
 have q:=PySem.IsL.update e f;rw[hf]at q;refine I.write (hH▸trivial) (.inl rfl) (λb u hb a=>(ck s.heap (vr f)<|kN hb).trans a) ⟨_,q⟩ ?_;exact⟨hz,its',_,hv,q⟩
theorem Inv.BZ(I:Inv X ap Z H s)(hv:Vals ys its)(hz:ys.length<=sizeLine) :
  Inv X ap Z (bG H s.heap.objs.size<|.lst ys) { s with heap:=s.heap.push { cls:=.type "list",data:=.seq its.toArray },toks:=t' }:=
 I.laid (λ_ _ q=>cT _ q) (aV _) ⟨hz,its,0,hv,gA _ rfl⟩
theorem Inv.fresh(I:Inv X ap Z H s):H s.heap.objs.size=aD:=I.aZ.fresh (aV _)
theorem Inv.uR(I:Inv X ap Z H s)(hH:H l=aA (.lst xs)):xs.length<=sizeLine/\∃(its:Hs) (n:Nat),Vals xs its/\xs.length=its.length/\s.heap.get? l=aA { cls:=.type "list",data:=.seq its.toArray n }:=by obtain⟨z,its,n,r,e⟩:=I.aZ l _ hH;exact⟨z,its,n,r,r.length,e⟩
theorem U1(h:n<=sizeLine):JY n=aH:=by exact decide_eq_false (by lia)
end
def FL:V->Xw->Hp->VK->Prop:=λx vs H Q=>∃l xs y,x = .ref l/\vs=[y]/\H l=aA (.lst xs)/\xs.length<sizeLine/\Q .aG (bG H l<|.lst<|xs++[y])
theorem Q4:fm X "list.append" FL:=by intro ap s g H x i v us Q I c d h;obtain⟨l,xs,y,rfl,rfl,b,j,q⟩:=h;cases c;obtain⟨u,rfl,f⟩:=d.one;obtain⟨z,a,n,r,hl,e⟩:=I.uR b;refine Et F.slot_list_append ⟨_,e,rfl⟩ F.entry_list_append (F.args_list_append_2 _ _) (PySem.list_append l a.toArray n u (by rw[gZ];lia)) ⟨e,?_⟩;refine⟨.aG,_,I.CH b e (by simp) (r.append<|.cons f .nil) ?_,rfl,q⟩;rw[dQ,Qt];lia
def aJo:V->Xw->Hp->VK->Prop:=λx vs H Q=>∃l xs y,x = .ref l/\vs=[]/\H l=aA (.lst xs)/\xs[xs.length-1]?=aA y/\Q y (bG H l<|.lst xs.dropLast)
theorem Q8:fm X "list.pop" aJo:=by
 intro ap s m H x o v us Q I f g h;obtain⟨l,xs,y,rfl,rfl,d,i,q⟩:=h;cases f;have b:=g.zero;subst b;obtain⟨z,a,n,r,hl,e⟩:=I.uR d;obtain⟨u,j,k⟩:=r.get i;have c:a.toArray[a.toArray.size-1]?=aA u:=by show a.toArray[a.length-1]?=aA u;rw[<- JV,<- hl];exact j
 refine Et F.slot_list_pop ⟨_,e,rfl⟩ F.entry_list_pop (F.args_list_pop_1 _) (MeetsSeq.list_pop_last l a.toArray n u c (by rw[gZ];lia)) ⟨e,?_⟩;refine⟨y,_,I.CH d e ?_ r.dropLast ?_,k,q⟩
 .show a.toArray.eraseIdxIfInBounds (a.toArray.size-1)=a.dropLast.toArray;rw[gZ,aTj,YZ]
 .rw[List.length_dropLast];lia
def FN:R2:=λx y H Q=>∃l b xs zs,x = .ref l/\y = .ref b/\H l=aA (.lst xs)/\H b=aA (.lst zs)/\xs.length+zs.length<=sizeLine/\∀p,H p=aD->Q (.ref p) (bG H p<|.lst<|xs++zs)
theorem V5:cV X (eV .Add) FN:=by
 intro ap s p H x y v u Q I d f h;obtain⟨l,b,xs,zs,rfl,rfl,g,i,t,q⟩:=h;cases d;cases f;obtain⟨z,c,n,r,hl,e⟩:=I.uR g;obtain⟨w,a,A,j,k,m⟩:=I.uR i;refine PySem.P.add_list e m ?_ (by rw[gZ,gZ];omega);have o:c.toArray++a.toArray=(c++a).toArray:=by simp
 rw[o];exact⟨.ref _,_,I.BZ (r.append j) (by rw[dQ];omega),rfl,q _ I.fresh⟩
def aJp:R2:=λx y H Q=>∃l k xs,x = .ref l/\y = .int k/\H l=aA (.lst xs)/\-(2 ^ 63)<=k/\k<2 ^ 63/\xs.length*k.toNat<=sizeLine /\
 ∀p,H p=aD->Q (.ref p) (bG H p<|.lst (eN k.toNat xs).flatten)
theorem M5{α:Type}(xs:List α)(k:Nat):(eN k xs).flatten.length=k*xs.length:=by
 induction k with
 |zero=>simp|succ k a=>rw[Rb,LG,dQ,a,Nat.succ_mul,MH]
theorem X9:cV X (eV .Mult) aJp:=by
 intro ap s E H x y v u Q I p w h;obtain⟨l,k,xs,rfl,rfl,A,B,C,o,q⟩:=h;cases p;obtain⟨t,rfl⟩:=w;obtain⟨z,b,n,r,hl,e⟩:=I.uR A;have hlen:b.toArray.size*k.toNat<=sizeLine:=by rw[gZ,<- hl];exact o
 have d:¬b.toArray.size*k.toNat > (2 ^ 63-1) / 8:=by
  have:sizeLine<=(2 ^ 63-1) / 8:=by decide
  lia
 have f:¬(!Builtin.List.listFitsIndex k)=aB:=by rw[fitsIndex_both B C];exact fZ
 have c:¬JY (b.toArray.size*k.toNat)=aB:=by rw[U1 hlen];exact fZ
 have g:Qn (λi j=>i++j) #[] (eN (if b.toArray.isEmpty=aB then 0 else k.toNat) b.toArray)=(eN k.toNat b).flatten.toArray:=by
  have f0:∀m:Nat,Qn (λi j=>i++j) #[] (eN m b.toArray)=(eN m b).flatten.toArray:=λm=>by have:=Yz b m [];exact this
  rw[f0];cases b with
  |nil=>simp|cons a G=>rw[if_neg (by simp)]
 refine wpAny_binaryOp_repeat_ref (rfl) ⟨_,e,rfl⟩ (λD=>Tp D k t) noFill_list_mul F.fills_int_mul KH repeat_list F.slot_int_index.lookup
  (Et KH (Tp s k t) F.entry_int_rmul (F.args_int_rmul_2 _ _) (int___rmul___int_list k t l b.toArray n)
   ⟨e,rfl,⟨_,e,rfl⟩,Et F.slot_list_mul ⟨_,e,rfl⟩ F.entry_list_mul (F.args_list_mul_2 _ _) (aTg l b.toArray n k t f d c) ⟨e,?_⟩⟩)
 rw[g];exact⟨.ref _,_,I.BZ (r.rep k.toNat) (by rw[M5,Nat.mul_comm];exact o),rfl,q _ I.fresh⟩
end L2
namespace Att
open PySem PySem.W PySem.Calls PyProof.Rows
variable {P:bV}{h:bI}{l:OpenLaw}{n:Nat}
theorem F9:∀(ns:Ht) (vs:Hs),WellAll P h vs (ns.map WData.int)->cu vs ns:=by
 intro ns;induction ns with
 |nil=>intro vs w;rw[LY]at w;cases w;exact .nil
 |cons n ns c=>
  intro vs w;rw[iH]at w;cases w with
  |cons a b=>cases a;exact .cons _ _<|c _ b
theorem aKj(hn:l.most=aA n){args:List WData}{vals:Hs}
  (AJ:l.row.toRowW.claim.pre args=aB)(hwl:WellAll P h vals args) :
  ∃a vs ns,vals=[kO a]/\args=[WData.list (ns.map WData.int)]/\h.get? a=aA { cls:=.type "list",data:=.seq vs.toArray }/\cu vs ns/\ns.length<=n:=by
 have f:WShape.hasAll [] args [.list .int]=aB:=(pre_splitW AJ).1;have g:l.pre.holds [] { args:=args }=aB:=(pre_splitW AJ).2;obtain⟨d,r,rfl,i,j⟩:=hasAllW_cons f;obtain rfl:=hasAllW_nil j;obtain⟨xs,rfl,k⟩:=hasW_list i;obtain⟨ns,rfl⟩:=items_int k;have hlen:ns.length<=n:=by
  unfold OpenLaw.pre at g;have c:(WTm.not<|.lt (.lit<|.int (n:Int))<|.len<|.arg 0).holds [] { args:=[.list (ns.map .int)] }=aB:=by have c:=(holds_andW g).1;rw[hn]at c;exact c
  have e:=condW_of c (w_not<|w_lt w_lit<|w_len_list<|w_arg rfl);rw[aU]at e;refine vo λq=>?_;have m:(n:Int)<((ns.length:Nat):Int):=by omega
  first
   | (rw[decide_eq_true m]at e;exact absurd e (by decide))
   | (simp at e;lia)
 cases hwl with
 |cons w1 w2=>
  cases w2;cases w1 with
  |list o b=>exact⟨_,_,ns,rfl,rfl,o,F9 ns _ b,hlen⟩
theorem aCo(l:OpenLaw)(args:List WData):l.row.toRowW.claim.post args (.bool aB) args=aB:=
 postW_of (r:=l.row.toRowW) (X:=(aB==aB))
  (show WShape.has [] (.bool aB) .bool=aB by first|rfl|decide|simp[WShape.has,WShape.arms,WShape.armsAll])
  (show(WTm.eq .res<|.lit<|.bool aB).value [] { args:=args,res:=aA (.bool aB),after:=args }=aA (.bool<|aB==aB) from w_eq_bool (w_res rfl) w_lit) rfl
theorem PJ{q:cA}{loose:Yb}{XP:(Str->Xy)->bI->Prop}{YP:bW->bI->Prop}{d:DefRec}
  (hn:l.most=aA n)(hdf:d.params.defaults=[])
  (call:∀(w:bW) (s₀ s₁:aI) (mg mb:Str->Xy) (fa:Addr) (o:Obj) (pm cd doc:Value) (a:Addr) (vs:Hs) (ns:Ht),
   Ground q loose [] XP w s₀ mg mb s₁.heap->YP w s₁.heap ->
   s₁.heap.get? fa=aA o->o.data = .func (docDef d.name d.params d.body d.scope pm cd doc)->s₁.heap.CodeRec cd d.name->mg d.name=aA (.ref fa) ->
   s₁.heap.get? a=aA { cls:=.type "list",data:=.seq vs.toArray }->cu vs ns->ns.length<=n->s₁.gens=#[] ->
   tQ (aY l.prog w) yG (.call (.ref fa) ⟨[.ref a],[]⟩) (λr s'=>r = .ok (.ret<|.bool aB)/\OldK s₁.heap s'.heap/\s'.os=s₁.os/\vO s'.gens) s₁) :
  WalkO q loose XP YP l.row.toRowW d [] (λf vs=>Ss f vs):=by
 intro w s₀ s₁ mg mb G Y fa o pm cd doc k kV m hd e i g p args vals as b j s h t;obtain rfl:k = .none:=Dflts.none i hdf;obtain rfl:kV = .none:=Dflts.noKw i;obtain⟨a,vs,ns,rfl,rfl,c,hints,hlen⟩:=aKj hn b h;refine enter_call<|wb (call w s₀ s₁ mg mb fa o pm cd doc a vs ns G Y m (fd_plain hd) e g c hints hlen p) λr s' u=>?_;obtain⟨rfl,v,x,y⟩:=u;exact⟨.inl ⟨.bool aB,.bool aB,[],rfl,λ_=>rfl,.bool aB,aCo l _,λ_=>⟨ky,λ_ hm=>(nomatch hm)⟩⟩,v,x,y⟩
end Att
namespace L2
open PySem PySem.Spec PyProof.Rows
variable {A:cM}{CX:nT}{E Q:Value->aI->Prop}{H H':Hp}{N':Yb}{P:cA}{X:Cx}{a:Addr}{fd:eS}{fp:Xx}{h':bI}{kvs:List (List aP×V)}{mg:Str->Xy}{o:Option V}{outer:Ys}{ap:Hu}{pos:Pos}{r u:Value}{s:aI}{scope:gH}{sp:Sp}{tc:TT}{te:TE}{us:Hs}{v y:V}{w:bW}{x:Str}{xs:List (List aP×Addr×Value)}{Z Z':St}
theorem IM:∀{vs:Hs}{ns:Ht},cu vs ns->Vals (ns.map V.int) vs
 |_,_,.nil=>.nil
 |_,_,.cons n t h=>.cons ⟨t,rfl⟩ (IM h)
def xc(H:Hp):Prop:=∀b,H b=aD\/∃o xs,H b=aA (.dD o<|.lst xs)
theorem L9{K:bJ}{mb:Str->Xy}{k:Nat}{fa:Addr}{s₁:aI}{vs:Hs}{ns:Ht}
  (KX:K.In s₁.heap)(hns:s₁.heap.Ns jG mg)(hb:s₁.heap.Ns Sy mb)(hbb:∀x:Str,x≠"__name__"->mb x=mT x)(E3:s₁.heap.NoLimit)(hg:s₁.gens=#[])
  (ha:s₁.heap.get? a=aA { cls:=.type "list",data:=.seq vs.toArray })(hi:cu vs ns)(hl:ns.length<=sizeLine)(hr:fJ k yG)
  (F:∀base:bI,K.In base->base.Ns jG mg->iL P w K mg base CX k fa fd [x] sp)(D8:∀(s:aI) (u:Value),kh s fd ⟨[u],[]⟩ [(x,u)])
  (hsp:∀H:Hp,xc H->dM K H a (ns.map V.int)->sp [.ref a] H (λv _=>v = .bl aB) λ_ _ _=>False)
  (hCX:∀H e s',CX [] H s₁ (λ_ _ _=>False) e s'->False) :
  tQ (aY P w) yG (.call (.ref fa) ⟨[.ref a],[]⟩) (λr s'=>r = .ok (.ret<|.bool aB)/\OldK s₁.heap s'.heap/\s'.os=s₁.os/\vO s'.gens) s₁:=by
 have D:=IM hi;have f:=hi.length;have core:∀H:Hp,xc H->dM K H a (ns.map V.int)->eW P w H s₁.heap->(∀b,H b≠aD->b=a)->(H a≠aD->K.lookup a=aD) ->
   tQ (aY P w) yG (.call (.ref fa) ⟨[.ref a],[]⟩) (λr s'=>r = .ok (.ret<|.bool aB)/\OldK s₁.heap s'.heap/\s'.os=s₁.os/\vO s'.gens) s₁:=by
  intro H E J aZ G L;have base_of:∀{b:Addr}{o:Obj},s₁.heap.get? b=aA o->H b=aD->(wY s₁.heap H).get? b=aA o:=λe n=>E1 e n;have A:∀{b:Addr}{o:Obj}{i:Array DictEntry}{j:Nat},s₁.heap.get? b=aA o->o.data = .dict i j->H b=aD:=λ{b o i j} e d=>by
   cases q:H b with
   |none=>rfl|some u=>have B:=G b (by rw[q];simp);subst B;rw[ha]at e;cases e;have M:=d;cases M
  have c:∀{b:Addr}{m:Str->Xy},s₁.heap.Ns b m->(wY s₁.heap H).Ns b m:=λ{b m} ⟨o,i,j,e,d,r⟩=>⟨o,i,j,base_of e (A e d),d,r⟩;have l:=λb o e=>base_of (KX b o e) (by
   cases q:H b with
   |none=>rfl|some u=>have B:=G b (by rw[q];simp);subst B;rw[L (by rw[q];simp)]at e;cases e)
  have N:Mod K mg (wY s₁.heap H):=⟨l,c hns,⟨mb,c hb,hbb⟩,let ⟨O,Q,R⟩:=E3;⟨O,c Q,R⟩⟩;have S:yJ P w K mg (wY s₁.heap H) yG [] s₁ H:=⟨rfl,N,λb o e=>U6 e,Rn (E2 _ _),trivial,λb hb=>absurd (show b∈([]:Xx) from hb) (by simp),aZ,.of_eq hg⟩;refine wb ((F _ l<|c hns).run yG [] s₁ H ⟨[.ref a],[]⟩ [.ref a] [.ref a] _ _ hr S (D8 s₁<|.ref a) (.cons rfl .nil) (hsp H E J)) λr s' h=>?_;cases r with
  |error e=>exact(hCX H e s' h).elim|ok fl=>
   cases fl with
   |next=>exact lN h|brk=>exact lN h|cont=>exact lN h|ret u=>
    obtain⟨v,Y,os,bare,un,p,T,q⟩:=h;have U:=q;subst U;obtain rfl:u=dg aB:=T;refine⟨rfl,OldK.of_keep λb o e=>?_,os,bare⟩;cases q:H b with
    |none=>exact un.keep b o e q (by intro z;exact absurd (show b∈([]:Xx) from z) (by simp)) (by simp)|some u=>
     rcases E b with z|⟨ob,xs,z⟩
     .rw[q]at z;cases z
     .have W:=un.qC b ob _ z;obtain⟨I,_⟩:=aZ b _ z;obtain⟨X,_⟩:=p b _ W;rw[e]at I;cases I;exact X
 cases C:K.lookup a with
 |some o=>have e:=KX a o C;rw[ha]at e;cases e;refine core (λ_=>aD) (λ_=>.inl rfl) (.inr ⟨_,vs.toArray,_,C,rfl,rfl,rfl,by rw[gZ,f];exact hl,by simpa using D⟩) (λb u z=>by have t:=z;cases t) (λb z=>absurd rfl z) λz=>absurd rfl z
 |none=>
  refine core (λb=>if b=a then aA (.dD { cls:=.type "list",data:=.seq vs.toArray } (.lst<|ns.map V.int)) else aD) (λb=>?_) (.inl<|.inr ⟨{ cls:=.type "list",data:=.seq vs.toArray },if_pos rfl⟩) (λb u z=>?_) (λb z=>?_) λ_=>C
  .by_cases hb:b=a
   .exact .inr ⟨_,_,if_pos hb⟩
   .exact .inl<|if_neg hb
  .by_cases hb:b=a
   .have t:=(if_pos hb).symm.trans z;cases t;subst hb;exact⟨ha,by rw[aU];exact hl,vs,_,D,ha⟩
   .have t:=(if_neg hb).symm.trans z;cases t
  .by_cases hb:b=a
   .exact hb
   .exact absurd (if_neg hb) z
theorem aPl{l:Sf}{n k:Nat}{q:cA}{loose:Yb}{XP:(Str->Xy)->bI->Prop}{YP:bW->bI->Prop}{d:DefRec}{K:bV->bJ}{CX:bW->nT}{sp:bW->Sp}
  (hn:l.most=aA n)(hn2:n<=sizeLine)(hdf:d.params.defaults=[])(hr:fJ k yG)
  (hY:∀(w:bW) (h:bI),YP w h->(K w.params).In h)
  (F:∀(w:bW) (mg:Str->Xy) (fa:Addr) (h:bI),(K w.params).In h->h.Ns jG mg->mg d.name=aA (.ref fa) ->
   ∃fd:eS,(∀(s:aI) (u:Value),kh s fd ⟨[u],[]⟩ [(x,u)]) /\
    ∀base:bI,(K w.params).In base->base.Ns jG mg->iL l.prog w (K w.params) mg base (CX w) k fa fd [x] (sp w))
  (hsp:∀(w:bW) (H:Hp) (a:Addr) (ns:Ht),ns.length<=n->xc H->dM (K w.params) H a (ns.map V.int)->sp w [.ref a] H (λv _=>v = .bl aB) λ_ _ _=>False)
  (hCX:∀(w:bW) (H:Hp) (s:aI) (e:Value) (s':aI),CX w [] H s (λ_ _ _=>False) e s'->False) :
  NQ q loose XP YP l.row.toRowW d [] (λf vs=>Ss f vs):=by
 refine Att.PJ hn hdf λw s₀ s₁ mg mb fa o pm cd doc a vs ns G Y ho hd hcd hmg E5 hints hlen hg=>?_;have KX:=hY w _ Y;obtain⟨fd,hb,hF⟩:=F w mg fa _ KX G.T.g hmg;exact L9 KX G.T.g G.T.b G.T.builtins G.T.nolimit hg E5 hints (dG hlen hn2) hr hF hb (λH hO hS=>hsp w H a ns hlen hO hS) λH e s'=>hCX w H s₁ e s'
def yh(s:Stmt):Py:=match s with
 |.FunctionDef _ a _ _ _ _ _ _ _ _=>a
 |_=>{ posonlyargs:=[],args:=[],vararg:=aD,kwonlyargs:=[],kw_defaults:=[],kwarg:=aD,defaults:=[] }
def gj(s:Stmt):Xz:=match s with
 |.FunctionDef _ _ b _ _ _ _ _ _ _=>b
 |_=>[]
def pU(s:Stmt):gH:=match s with
 |.FunctionDef _ _ _ _ _ _ sc _ _ _=>sc
 |_=>{ kind:=.function,names:=[],isGenerator:=aH,isCoroutine:=aH }
abbrev E0:XK:=λ_ _ _=>False
section
variable {κ:Type} [DecidableEq κ]
def fN(kvs:List (κ×V))(k:κ):Option V:=(kvs.find? λkv=>decide (kv.1=k)).map (·.2)
def putK(kvs:List (κ×V))(k:κ)(v:V):List (κ×V):=
 if(kvs.any λkv=>decide (kv.1=k))=aB then kvs.map (λkv=>if kv.1=k then(kv.1,v) else kv) else kvs++[(k,v)]
def sL(kvs:List (κ×V))(k:κ):List (κ×V):=kvs.filter λkv=>decide (kv.1≠k)
theorem Ou{p:κ×V}{r:List (κ×V)}{k:κ}(e:p.1=k):fN (p::r) k=aA p.2:=by simp[fN,e]
theorem Ot{p:κ×V}{r:List (κ×V)}{k:κ}(e:¬p.1=k):fN (p::r) k=fN r k:=by simp[fN,e]
theorem IL(k:κ):∀kvs:List (κ×V),(kvs.any λkv=>decide (kv.1=k))=(fN kvs k).isSome
 |[]=>rfl|p::r=>by
  rw[rV];by_cases e:p.1=k
  .simp only[Ou e,decide_eq_true e,Bool.true_or,Option.isSome_some]
  .rw[Ot e,decide_eq_false e];exact IL k r
theorem Jw(kvs:List (κ×V))(k:κ)(v:V):(putK kvs k v).length<=kvs.length+1:=by
 unfold putK;split
 .rw[aU];lia
 .rw[dQ,jC,Qr];lia
theorem iA.rk{u:Xy}(r:iA o u):o.isSome=u.isSome:=by
 cases o with
 |none=>cases u with
  |none=>rfl|some _=>exact(r).elim
 |some _=>cases u with
  |none=>exact(r).elim|some _=>rfl
theorem iA.getD{o:Option V}{u:Xy}{d:V}{d':Value}(r:iA o u)(rd:RelV d d'):RelV (o.getD d) (u.getD d'):=by
 cases o with
 |none=>cases u with
  |none=>exact rd|some _=>exact(r).elim
 |some _=>cases u with
  |none=>exact(r).elim|some _=>exact r
theorem KV.val{kvs:List (κ×V)}{vs:List (κ×Value)}(r:KV kvs vs)(k:κ):iA (fN kvs k) (ed vs k):=by
 induction r with
 |nil=>exact oQ|@cons p q ps a h t f=>
  obtain⟨d,g⟩:=h;by_cases e:p.1=k
  .have c:=d.symm.trans e;have b:ed (q::a) k=aA q.2:=by simp[ed,c]
   rw[Ou e,b];exact g
  .have c:¬q.1=k:=λz=>e (d.trans z);have b:ed (q::a) k=ed a k:=by simp[ed,c]
   rw[Ot e,b];exact f
theorem KV.any{kvs:List (κ×V)}{vs:List (κ×Value)}(r:KV kvs vs)(k:κ):(kvs.any λkv=>decide (kv.1=k))=vs.any λkv=>decide (kv.1=k):=by
 induction r with
 |nil=>rfl|cons h t a=>rw[rV,rV,a,h.1]
theorem KV.Ni{kvs:List (κ×V)}{vs:List (κ×Value)}(r:KV kvs vs)(k:κ)(ry:RelV y u) :
  KV (kvs.map λkv=>if kv.1=k then(kv.1,y) else kv) (vs.map λkv=>if kv.1=k then(kv.1,u) else kv):=by
 induction r with
 |nil=>exact .nil|@cons p q ps d h t b=>
  rw[iH,iH];refine .cons ?_ b;obtain⟨a,c⟩:=h;by_cases e:p.1=k
  .rw[if_pos e,if_pos (a.symm.trans e)];exact⟨a,ry⟩
  .rw[if_neg e,if_neg (λz=>e (a.trans z))];exact⟨a,c⟩
theorem KV.put{kvs:List (κ×V)}{vs:List (κ×Value)}(r:KV kvs vs)(k:κ)(ry:RelV y u):KV (putK kvs k y) (stored vs k u):=by
 unfold putK stored;rw[r.any k];by_cases e:(vs.any λa=>decide (a.1=k))=aB
 .rw[if_pos e,if_pos e];exact r.Ni k ry
 .rw[if_neg e,if_neg e];exact Paired.snoc r ⟨rfl,ry⟩
theorem KV.drop{kvs:List (κ×V)}{vs:List (κ×Value)}(r:KV kvs vs)(k:κ):KV (sL kvs k) (without vs k):=by
 unfold sL without;induction r with
 |nil=>exact .nil|@cons p q ps i h t d=>
  obtain⟨c,f⟩:=h;rw[jB,jB];by_cases e:p.1=k
  .have a:¬decide (p.1≠k)=aB:=by simp[e]
   have b:¬decide (q.1≠k)=aB:=by simp[c.symm.trans e]
   rw[if_neg a,if_neg b];exact d
  .have g:¬q.1=k:=λz=>e (c.trans z);have a:decide (p.1≠k)=aB:=by simp[e]
   have b:decide (q.1≠k)=aB:=by simp[g]
   rw[if_pos a,if_pos b];exact .cons ⟨c,f⟩ d
theorem KV.length{kvs:List (κ×V)}{vs:List (κ×Value)}(r:KV kvs vs):kvs.length=vs.length:=Eg r
theorem YO(kvs:List (κ×V))(k:κ):(sL kvs k).length<=kvs.length:=pF _ _
end
theorem sR{k:aP}(r:RelV (kV k) u):(gS P w).is k u=aB:=by
 cases k with
 |inl i=>obtain⟨t,e⟩:=(r);subst e;exact Q0 P w i t|inr x=>obtain⟨t,e⟩:=(r);subst e;exact Q1 P w x t
theorem AU{P:cA}{w:bW}:∀{ks:List aP}{us:Hs},Vals (ks.map kV) us->ItemsAre (gS P w) ks us
 |[],_,r=>by cases r;exact .nil
 |k::ks,_,r=>by
  cases r with
  |cons h t=>exact .cons (sR h)<|AU t
abbrev KT(H:Hp):List (List aP×V)->List (List aP×Addr×Value)->Prop:=lz λp q=>p.1=q.1/\H q.2.1=aA (.tup<|p.1.map kV)/\RelV p.2 q.2.2
theorem KT.val(r:KT H kvs xs)(k:List aP):iA (fN kvs k) ((yE xs k).map (·.2)):=by
 induction r with
 |nil=>exact oQ|@cons p q ps a h t f=>
  obtain⟨d,_,g⟩:=h;by_cases e:p.1=k
  .have c:=d.symm.trans e;have b:yE (q::a) k=aA q.2:=by simp[yE,c]
   rw[Ou e,b];exact g
  .have c:¬q.1=k:=λz=>e (d.trans z);have b:yE (q::a) k=yE a k:=by simp[yE,c]
   rw[Ot e,b];exact f
theorem KT.Ni(r:KT H kvs xs)(k:List aP)(ry:RelV y u) :
  KT H (kvs.map λkv=>if kv.1=k then(kv.1,y) else kv) (xs.map<|putAt k u):=by
 induction r with
 |nil=>exact .nil|@cons p q ps f h t c=>
  rw[iH];refine .cons ?_ c;obtain⟨a,b,d⟩:=h;unfold putAt;by_cases e:p.1=k
  .rw[if_pos e,if_pos (a.symm.trans e)];exact⟨a,b,ry⟩
  .rw[if_neg e,if_neg (λz=>e (a.trans z))];exact⟨a,b,d⟩
theorem KT.put(r:KT H kvs xs)(k:List aP){b:Addr}(hb:H b=aA (.tup<|k.map kV))(ry:RelV y u) :
  KT H (putK kvs k y) (storedH xs k b u):=by
 have e:(kvs.any λa=>decide (a.1=k))=(yE xs k).isSome:=by rw[IL,(r.val k).rk,Rt]
 unfold putK storedH;rw[e];by_cases q:(yE xs k).isSome=aB
 .rw[if_pos q,if_pos q];exact r.Ni k ry
 .rw[if_neg q,if_neg q];exact Paired.snoc r ⟨rfl,hb,ry⟩
theorem KT.keeps(r:KT H kvs xs)(ht:∀b ys,H b=aA (.tup ys)->H' b=aA (.tup ys)):KT H' kvs xs:=
 Paired.Ke r λ_ _ z=>⟨z.1,ht _ _ z.2.1,z.2.2⟩
section
variable {h:bI}
theorem GC{u:HO}(ok:eW P w H h)(e:Rd H a u):hB P w H h a u:=e.ok ok
theorem yZ{kvs:List (aP×V)}(ok:eW P w H h)(e:Rd H a (.dK kvs)):kvs.length<=sizeLine/\(a==tT)=aH/\∃vs,KV kvs vs/\h.DictOf (gS P w) a vs:=
 show hB P w H h a (.dK kvs) from GC ok e
theorem qa{kvs:List (aP×V)}(ok:eW P w H h)(e:H a=aA (.dK kvs)):kvs.length<=sizeLine/\(a==tT)=aH/\∃vs,KV kvs vs/\h.DictOf (gS P w) a vs:=yZ ok (.inl e)
theorem zY{ks:List aP}(ok:eW P w H h)(e:H a=aA (.tup<|ks.map kV)):(dz<|gS P w).is h ks a:=by obtain⟨_,b,r,o,c,d,n,f⟩:=(show hB P w H h a (.tup<|ks.map kV) from ok a _ e);exact⟨o,b.toArray,n,c,d,f,by simpa using AU r⟩
theorem zF(ok:eW P w H h)(e:Rd H a (.dT kvs)):kvs.length<=sizeLine/\(a==tT)=aH /\
  ∃xs,KT H kvs xs/\h.DictOfH (dz<|gS P w) a xs:=by
 obtain⟨z,y,xs,r,o,c,d,f,g,i,j,k⟩:=(show hB P w H h a (.dT kvs) from GC ok e);refine⟨z,y,xs,r,o,c,d,f,g,i,j,λx hx=>?_,k⟩;have all:∀{l:List (List aP×V)}{m:List (List aP×Addr×Value)},KT H l m->∀x∈m,(dz<|gS P w).is h x.1 x.2.1:=by
  intro l m q;induction q with
  |nil=>intro x hx;exact nomatch hx|@cons p q ps s b t n=>
   intro x hx;rcases List.mem_cons.mp hx with e|hx
   .subst e;exact zY ok<|b.1▸b.2.1
   .exact n x hx
 exact all r x hx
theorem YR(ok:eW P w H h)(e:H a=aA (.dT kvs)):kvs.length<=sizeLine/\(a==tT)=aH /\
 ∃xs,KT H kvs xs/\h.DictOfH (dz<|gS P w) a xs:=zF ok (.inl e)
end
def lR(H:Hp)(a:Addr)(y:V)(r:Option V):Prop:=
 (∃kvs k,Rd H a (.dK kvs)/\y=kV k/\r=fN kvs k)\/∃kvs k b,Rd H a (.dT kvs)/\y = .ref b/\H b=aA (.tup<|k.map kV)/\r=fN kvs k
def nq(H:Hp)(a:Addr)(y v:V)(H':Hp):Prop:=
 (∃kvs k,H a=aA (.dK kvs)/\y=kV k/\kvs.length<sizeLine/\H'=bG H a (.dK<|putK kvs k v)) \/
 ∃kvs k b,H a=aA (.dT kvs)/\y = .ref b/\H b=aA (.tup<|k.map kV)/\kvs.length<sizeLine/\H'=bG H a (.dT<|putK kvs k v)
theorem lR.k{H:Hp}{a:Addr}{kvs:List (aP×V)}{k:aP}(e:H a=aA (.dK kvs)):lR H a (kV k) (fN kvs k):=.inl ⟨kvs,k,.inl e,rfl,rfl⟩
theorem nq.k{H:Hp}{a:Addr}{kvs:List (aP×V)}{k:aP}{v:V}(e:H a=aA (.dK kvs))(hl:kvs.length<sizeLine):nq H a (kV k) v (bG H a<|.dK<|putK kvs k v):=.inl ⟨kvs,k,e,rfl,hl,rfl⟩
theorem Inv.big(I:Inv X ap Z H s):tT<s.heap.objs.size:=by have h:=(I.mod.glob.keeps I.bk).lt;exact Nat.lt_trans (by decide) h
theorem XT(hu:A.units+1<cLine)(I:Inv X ap Z H s)(g:lR H a y (aA v))(ry:RelV y u)(h:∀w' s',Inv X ap Z H s'->RelV v w'->Q w' s') :
  aS (aY X.prog X.w) A (dq (.ref a) u) Q E s:=by
 rcases g with⟨d,k,e,f,l⟩|⟨d,k,b,e,f,j,l⟩
 .subst f;obtain⟨z,hd,n,rel,dd⟩:=yZ I.aZ e;obtain⟨w',hw,c⟩:=iA.some_of (by rw[l];exact rel.val k);exact wpAny_getItem_of (sR ry) dd.mapOf hw<|h w' _ (I.tok _) c
 .subst f;cases(ry);obtain⟨z,hd,xs,rel,dd⟩:=zF I.aZ e;obtain⟨w',hw,c⟩:=iA.some_of (by rw[l];exact rel.val k);obtain⟨p,m,i⟩:=Option.map_eq_some_iff.mp hw;refine wpAny_getItem_heap (mz hu) (zY I.aZ j) dd m ?_;rw[i];exact h w' _ (I.tok _) c
theorem XU(hu:A.units+1<cLine)(I:Inv X ap Z H s)(g:lR H a y o)(ry:RelV y u)(h:∀s',Inv X ap Z H s'->Q (.bool o.isSome) s') :
  aS (aY X.prog X.w) A (dJ .In u<|.ref a) Q E s:=by
 rcases g with⟨c,k,e,d,l⟩|⟨c,k,b,e,d,f,l⟩
 .subst d;obtain⟨z,hd,i,rel,dd⟩:=yZ I.aZ e;refine wpAny_in_of (sR ry) hd dd.mapOf ?_;rw[<- (rel.val k).rk,<- l];exact h _<|I.tok _
 .subst d;cases(ry);obtain⟨z,hd,xs,rel,dd⟩:=zF I.aZ e;refine wpAny_in_heap (mz hu) (zY I.aZ f) hd dd ?_;have q:=(rel.val k).rk;rw[Rt]at q;rw[<- q,<- l];exact h _<|I.tok _
theorem XV(hu:A.units+1<cLine)(I:Inv X ap Z H s)(g:lR H a y o)(ry:RelV y u)(h:∀s',Inv X ap Z H s'->Q (.bool<|!o.isSome) s') :
  aS (aY X.prog X.w) A (dJ .NotIn u<|.ref a) Q E s:=by
 rcases g with⟨c,k,e,d,l⟩|⟨c,k,b,e,d,f,l⟩
 .subst d;obtain⟨z,hd,i,rel,dd⟩:=yZ I.aZ e;refine wpAny_notIn_of (sR ry) hd dd.mapOf ?_;rw[<- (rel.val k).rk,<- l];exact h _<|I.tok _
 .subst d;cases(ry);obtain⟨z,hd,xs,rel,dd⟩:=zF I.aZ e;refine wpAny_notIn_heap (mz hu) (zY I.aZ f) hd dd ?_;have q:=(rel.val k).rk;rw[Rt]at q;rw[<- q,<- l];exact h _<|I.tok _
theorem yf{t':Nat}{ob:HO}(I:Inv X ap Z H s)(mu:fq (H a))(hs:xT a s.heap h')(he:∃q,h'.get? a=aA q)(new:hB X.prog X.w (bG H a ob) h' a ob) :
  Inv X ap Z (bG H a ob) { s with heap:=h',toks:=t' }:=
 I.write mu (.inl rfl) (λb q hb z=>(hs.2 b hb).trans z) he new
theorem yi{kvs:List (aP×V)}{vs:List (aP×Value)}(z:kvs.length<=sizeLine)(hd:(a==tT)=aH)(rel:KV kvs vs)(dd:h'.DictOf (gS P w) a vs) :
 hB P w H' h' a (.dK kvs):=⟨z,hd,vs,rel,dd⟩
theorem XX{Q:Unit->aI->Prop}(hu:A.units+1<cLine)(I:Inv X ap Z H s)(g:nq H a y v H')(ry:RelV y u)(rv:RelV v r)(h:∀s',Inv X ap Z H' s'->Q () s') :
  aS (aY X.prog X.w) A (setItem (.ref a) u r) Q E s:=by
 rcases g with⟨d,k,e,j,l,m⟩|⟨d,k,b,e,j,p,l,m⟩
 .subst j m;obtain⟨z,hd,x,rel,dd⟩:=qa I.aZ e;have n:=rel.length▸z;have hl:(putK d k v).length<=sizeLine:=by have:=Jw d k v;lia
  refine wpAny_setItem_pairs (hsz:=n) (sR ry) dd λt f o=>h _ ?_;have he:∃q,t.get? a=aA q:=let ⟨q,_,_,i,_⟩:=f;⟨q,i⟩;exact yf I (e▸oQ) o he<|yi hl hd (rel.put k rv) f
 .subst j m;cases(ry);obtain⟨z,hd,xs,rel,dd⟩:=YR I.aZ e;have n:xs.length<=sizeLine:=by rw[<- Eg rel];exact z
  have hl:(putK d k v).length<=sizeLine:=by have:=Jw d k v;lia
  refine wpAny_setItem_heap (hsz:=n) (mz hu) (zY I.aZ p) dd λt f o=>h _ ?_;obtain⟨q,B,C,i,D,F,G,_,J⟩:=f;refine yf I (e▸oQ) o ⟨q,i⟩ ⟨hl,hd,_,(rel.put k p rv).keeps λc K w=>?_,q,B,C,i,D,F,G,J⟩;rw[bZ (rH w e<|nofun)];exact w
section
variable {kvs:List (aP×V)}{k:aP}
theorem Xa{more:Hs}(I:Inv X ap Z H s)(e:H a=aA (.dK kvs))(ry:RelV (kV k) u)(l:fN kvs k=aA v)(hm:more=[]\/∃x,more=[x])
  (h:∀w' s',Inv X ap Z (bG H a<|.dK<|sL kvs k) s'->RelV v w'->Q w' s'):aS (aY X.prog X.w) A (call (.builtin "dict.pop")<|.ref a::u::more) Q E s:=by
 obtain⟨z,hd,d,rel,dd⟩:=qa I.aZ e;obtain⟨w',hw,c⟩:=iA.some_of (by rw[<- l];exact rel.val k);have f:(keyPart u).isSome=aB:=by
  cases k with
  |inl i=>obtain⟨t,q⟩:=(ry);subst q;rfl|inr x=>obtain⟨t,q⟩:=(ry);subst q;rfl
 have ha:argsOk "dict.pop" ⟨.ref a::u::more,[]⟩:=by
  rcases hm with q|⟨x,q⟩
  .subst q;exact aUr _ _
  .subst q;exact NG _ _ _
 refine dk Sa dd.typeIs NH ha (meets_dict_pop_there (gS X.prog X.w) a (sR ry) more hm f)
  ⟨d,w',dd,rel.length▸z,hw,λg b j=>h w' _ ?_ c⟩
 have he:∃q,g.get? a=aA q:=let ⟨q,_,_,m,_⟩:=b;⟨q,m⟩;exact yf I (e▸oQ) j he<|yi (dG (YO kvs k) z) hd (rel.drop k) b
theorem XW(I:Inv X ap Z H s)(e:H a=aA (.dK kvs))(ry:RelV (kV k) u)(l:fN kvs k=aD)(h:∀s',Inv X ap Z H s'->Q r s') :
  aS (aY X.prog X.w) A (call (.builtin "dict.pop") [.ref a,u,r]) Q E s:=by
 obtain⟨z,hd,b,rel,dd⟩:=qa I.aZ e;have hn:=iA.none_of (by rw[<- l];exact rel.val k);have c:(keyPart u).isSome=aB:=by
  cases k with
  |inl i=>obtain⟨t,q⟩:=(ry);subst q;rfl|inr x=>obtain⟨t,q⟩:=(ry);subst q;rfl
 exact dk Sa dd.typeIs NH (NG _ _ _) (meets_dict_pop_default (gS X.prog X.w) a (sR ry) hd c r) ⟨b,dd,hn,h _ (I.tok _)⟩
end
theorem YC(I:Inv X ap Z H s)(g:lR H a y o):s.TypeIs (.ref a) "dict":=by
 rcases g with⟨c,k,e,_,_⟩|⟨c,k,b,e,_,_,_⟩
 .obtain⟨_,_,d,_,dd⟩:=yZ I.aZ e;exact dd.typeIs
 .obtain⟨_,_,xs,_,dd⟩:=zF I.aZ e;exact dd.typeIs
theorem YE(h:bI)(hb:tT<h.objs.size):hB P w H (h.push { cls:=.type "dict",data:=.dict #[] }) h.objs.size (.dK []):=
 ⟨kM _,beq_eq_false_iff_ne.mpr (kN<|bQ hb),[],.nil,Heap.DictOf.new h⟩
def aMt:TE:=λ_ H Q=>∀p,H p=aD->Q (.ref p) (bG H p<|.dK [])
theorem aAs:PE X (.Dict [] [] pos) aMt:=λap s Z H Q I h=>wpAny_Dict_empty ⟨.ref s.heap.objs.size,_,I.laid (λ_ _ q=>cT _ q) (aV _) (YE s.heap I.big),rfl,h _ (I.aZ.fresh<|aV _)⟩
section
variable {d:V}
theorem XR(hu:A.units+1<cLine)(I:Inv X ap Z H s)(g:lR H a y o)(ry:RelV y u)(h:∀w' s',Inv X ap Z H s'->RelV (o.getD .aG) w'->Q w' s') :
  aS (aY X.prog X.w) A (call (.builtin "dict.get") [.ref a,u]) Q E s:=by
 rcases g with⟨kvs,k,e,ey,l⟩|⟨kvs,k,b,e,ey,eb,l⟩
 .subst ey;obtain⟨z,hd,vs,rel,dd⟩:=yZ I.aZ e;refine dk mf dd.typeIs Ej (NC _ _) (meets_dict_get (gS X.prog X.w) a (sR ry) hd) ⟨_,dd.mapOf,h _ _ (I.tok _) ?_⟩;rw[l];exact(rel.val k).getD rfl
 .subst ey;cases(show u=kO b from ry);obtain⟨z,hd,xs,rel,dd⟩:=zF I.aZ e;refine dk mf dd.typeIs Ej (NC _ _) (meetsH_dict_get (dz<|gS X.prog X.w) a b hd) ⟨mz hu,k,xs,zY I.aZ eb,dd,h _ _ (I.tok _) ?_⟩;rw[l];exact(rel.val k).getD rfl
theorem XS(hu:A.units+1<cLine)(I:Inv X ap Z H s)(g:lR H a y o)(ry:RelV y u)(rd:RelV d r)(h:∀w' s',Inv X ap Z H s'->RelV (o.getD d) w'->Q w' s') :
  aS (aY X.prog X.w) A (call (.builtin "dict.get") [.ref a,u,r]) Q E s:=by
 rcases g with⟨c,k,e,f,l⟩|⟨c,k,b,e,f,i,l⟩
 .subst f;obtain⟨z,hd,j,rel,dd⟩:=yZ I.aZ e;refine dk mf dd.typeIs Ej (ND _ _ _) (meets_dict_get_default (gS X.prog X.w) a (sR ry) hd r) ⟨_,dd.mapOf,h _ _ (I.tok _) ?_⟩;rw[l];exact(rel.val k).getD rd
 .subst f;cases(show u=kO b from ry);obtain⟨z,hd,xs,rel,dd⟩:=zF I.aZ e;refine dk mf dd.typeIs Ej (ND _ _ _) (meetsH_dict_get_default (dz<|gS X.prog X.w) a b hd r) ⟨mz hu,k,xs,zY I.aZ i,dd,h _ _ (I.tok _) ?_⟩;rw[l];exact(rel.val k).getD rd
end
theorem ff{P:Prop}(h:aH=aB):P:=Bool.noConfusion h
theorem cJ{P:Prop}{α:Type}{a:α}(h:aD=aA a):P:=by cases h
inductive kQ(P:cA)(w:bW)(outer:Ys)(H:Hp)(s:aI)(E:XK)(e:Value)(s':aI):Prop
theorem pw{s':aI}{e:Value}(h:kQ P w outer H s (λ_ _ _=>False) e s'):False:=nomatch h
theorem Aw{K:bJ}{base:bI}{N:Yb}{qual:Str}{f:Addr}{cd:Value}{E:XK} :
 sF (kQ P w) (wU (kQ P w) P w K mg base N qual scope f cd A outer s H E) E:=λ_ _ _ _ _ _ _ h=>nomatch h
def Uo(CX:nT)(X:Cx)(EE:St->XK):Prop:=∀(ap:Hu) (Z:St) (H:Hp) (s:aI) (e:Value) (s':aI),Inv X ap Z H s->CX X.stack H s (EE Z) e s'->X.xe e s'
section
variable {k:Nat}{f:Addr}{ps:Yb}{EE:St->XK}{p:Pos}{e:aK}{es:List aK}{t:TA}
theorem GO{Q:VK}{vs:Xw}(F:iL X.prog X.w X.K X.mg X.base CX k f fd ps sp)(hr:fJ k X.A)(hb:Binds X.K fd ps [])(hx:Uo CX X EE)
  (I:Inv X ap Z H s)(r:Vals vs us)(h:sp vs H Q (EE Z)):aS (aY X.prog X.w) X.A (call (.ref f) us) (EP X ap Z Q) X.xe s:=by
 have hl:(us++[]).length=ps.length:=by rw[jY,<- r.length];exact F.len _ _ _ _ h
 have a:=hb s us I.fL hl;rw[jY]at a;refine wh<|wb (F.run X.A X.stack s H ⟨us,[]⟩ us vs Q (EE Z) hr I.Hm a r h) λr c b=>?_;cases r with
 |error e=>exact hx ap Z H s e c I b|ok fl=>
  cases fl with
  |ret u=>exact I.after b|next=>exact lN b|brk=>exact lN b|cont=>exact lN b
end
def pT(cells:Yo)(x:Str×tO)(cs:Yo):Yo:=if(x.2==jF)=aB then(match cells.lookup x.1 with
 |some c=>(x.1,c)::cs
 |none=>cs) else cs
def wM(scope:gH)(env:Env):Yo:=scope.names.foldl (λcs x=>pT env.cells x cs) []
theorem Za{α β:Type}{st:α->β->β}:∀{l:List α}{f:α->β->Sem (ForInStep β)} (c:β),(∀x∈l,∀c,f x c=pure (.yield<|st x c))->forIn l c f=pure (l.foldl (λc x=>st x c) c)
 |[],f,c,h=>rfl|x::l,f,c,h=>by rw[Qo,h x fP];exact Za (st x c) λy a=>h y (hW _ a)
theorem WV{env:Env}(h:∀x∈scope.names,x.2 = .free->∃c,env.cells.lookup x.1=aA c):Ta scope env=pure (wM scope env):=by
 simp only[Ta];rw[Za (st:=pT env.cells) [] (λx d c=>by
  obtain⟨n,kind⟩:=x;by_cases b:kind = .free
  .obtain⟨a,ha⟩:=h _ d b;subst b;simp[pT,cellOf,ha]
  .have:(kind==jF)=aH:=by simpa
   simp[pT,this])]
 rfl
theorem Wi{cells:Yo}:∀(l:List (Str×tO)) (cs:Yo),(∀x c,cs.lookup x=aA c->cells.lookup x=aA c)->∀x c,(l.foldl (λcs x=>pT cells x cs) cs).lookup x=aA c->cells.lookup x=aA c
 |[],cs,h=>h
 |y::l,cs,h=>Wi l _ (by
  intro x c e;change (pT cells y cs).lookup x=aA c at e;unfold pT at e;split at e
  .split at e
   .rename_i b a;rw[jD]at e;split at e
    .rename_i q;have:=eq_of_beq q;subst this;rw[a];exact e
    .exact h x c e
   .exact h x c e
  .exact h x c e)
theorem Wh{cells:Yo}:∀(l:List (Str×tO)) (cs:Yo) (x:Str),((∃c,cs.lookup x=aA c)\/((x,jF)∈l/\∃c,cells.lookup x=aA c))->∃c,(l.foldl (λcs x=>pT cells x cs) cs).lookup x=aA c
 |[],cs,x,h=>by
  rcases h with h|⟨h,_⟩
  .exact h
  .cases h
 |y::l,cs,x,h=>by
  refine Wh l _ x ?_;rcases h with⟨c,e⟩|⟨hm,c,e⟩
  .left;change ∃c,(pT cells y cs).lookup x=aA c;unfold pT;split
   .split
    .rename_i a _;rw[jD];split
     .exact⟨a,rfl⟩
     .exact⟨c,e⟩
    .exact⟨c,e⟩
   .exact⟨c,e⟩
  .rcases List.mem_cons.mp hm with q|q
   .left;subst q;simp[pT,e]
   .exact .inr ⟨q,c,e⟩
theorem CC{env:Env}(hk:env.scope.kind = .function):∀{names:List (Str×tO)}{x:Str},names.lookup x=aA .free->env.kindOf x=aA .cell ->
  (names.map λ(n,k)=>if(k==jF&&env.scope.kind == .function&&env.kindOf n==aA .cell) then(n,lq) else(n,k)).lookup x=aA .cell
 |[],_,h,_=>by simp at h
 | (n,k)::r,x,h,b=>by
  have c:=@CC env hk r x;show rX x ((if(k==jF&&env.scope.kind == .function&&env.kindOf n==aA .cell)=aB then(n,lq) else(n,k))::_)=_;cases a:x==n with
  |true=>simp only[jD,a]at h;cases h;have:=eq_of_beq a;subst this;simp[hk,b]
  |false=>
   simp only[jD,a]at h;by_cases d:(k==jF&&env.scope.kind == .function&&env.kindOf n==aA .cell)=aB
   .rw[if_pos d];simp only[jD,a];exact c h b
   .rw[if_neg d];simp only[jD,a];exact c h b
theorem Kb{env:Env}:∀{names:List (Str×tO)}{x:Str}{k:tO},(∀y∈names,y.2 ≠ .cell) ->
  (names.map λ(n,k)=>if(k==jF&&env.scope.kind == .function&&env.kindOf n==aA .cell) then(n,lq) else(n,k)).lookup x=aA k->k = .cell\/k = .free->(x,jF)∈names
 |[],_,_,_,h,_=>by simp at h
 | (n,k)::r,x,d,hn,h,hk=>by
  have f:=@Kb env r x d λy g=>hn y (hW _ g);have a:rX x ((if(k==jF&&env.scope.kind == .function&&env.kindOf n==aA .cell)=aB then(n,lq) else(n,k))::(r.map λ(n,k)=>if(k==jF&&env.scope.kind == .function&&env.kindOf n==aA .cell) then(n,lq) else(n,k)))=aA d:=h;cases c:x==n with
  |true=>
   have e:=eq_of_beq c;subst e;by_cases b:(k==jF&&env.scope.kind == .function&&env.kindOf x==aA .cell)=aB
   .have:k = .free:=by simp only[bT]at b;exact eq_of_beq b.1.1
    subst this;exact fP
   .rw[if_neg b]at a;simp only[jD,c]at a;cases a;rcases hk with hk|hk
    .exact absurd hk<|hn _ fP
    .have hk:=hk;subst hk;exact fP
  |false=>
   have i:(r.map λ(n,k)=>if(k==jF&&env.scope.kind == .function&&env.kindOf n==aA .cell) then(n,lq) else(n,k)).lookup x=aA d:=by
    by_cases b:(k==jF&&env.scope.kind == .function&&env.kindOf n==aA .cell)=aB
    .rw[if_pos b]at a;simpa only[jD,c]using a
    .rw[if_neg b]at a;simpa only[jD,c]using a
   exact hW _<|f i hk
def Cx.comp(X:Cx)(N':Yb)(scope:gH)(s3:aI)(H3:Hp)(C:Addr)(fp:Xx):Cx:=
 { X with N:=N',s₀:=s3,H₀:=H3,env:=compEnvC scope (wM scope X.env) C X.env,outer:=X.stack,ex:=fp,fn:=λ_=>aH,pn:=[],xe:=λ_ _=>False }
structure oS(X:Cx)(N':Yb)(scope:gH):Prop where
 kind:scope.kind = .function
 Lf:∀y∈scope.names,y.2 ≠ .cell
 CA:∀y∈scope.names,y.2 = .local->scope.names.lookup y.1=aA .local
 free:∀y∈scope.names,y.2 = .free->X.env.scope.names.lookup y.1=aA .cell
section
variable {C:Addr}
theorem oS.Wk(hs:oS X N' scope)(ok:X.Ok):Ta scope X.env=pure (wM scope X.env):=
 WV λx a b=>ok.has x.1 (.inl<|hs.free x a b)
theorem gd{c:Addr}(h:(wM scope X.env).lookup x=aA c):X.env.cells.lookup x=aA c:=Wi _ [] (λx c e=>by simp at e) x c h
theorem oS.has(hs:oS X N' scope)(ok:X.Ok){x:Str}(h:(x,jF)∈scope.names):∃c,(wM scope X.env).lookup x=aA c:=
 Wh _ [] x (.inr ⟨h,ok.has x (.inl<|hs.free _ h rfl)⟩)
theorem Inv.yX(I:Inv X ap Z H s)(hs:oS X N' scope)(hf:∀b∈fp,lS X ap H b/\b≠C)(hC:s.heap.objs.size<=C):(X.comp N' scope s H C fp).Ok where
 mod:=I.ok.mod
 kind:=hs.kind
 glob:=I.ok.glob
 blt:=I.ok.blt
 above:=hC
 inj:=λx y c a d=>I.ok.inj x y c (gd a) (gd d)
 has:=λx hx=>by
  rcases hx with hx|hx
  .exact hs.has I.ok<|Kb hs.Lf hx<|.inl rfl
  .exact hs.has I.ok<|Kb hs.Lf hx<|.inr rfl
 xx:=λx c h=>ff h
 hd:=I.ok.hd
 frames:=I.ok.frames
 Ob:=.inl rfl
 yp:=λb hb=>⟨(hf b hb).2,λx c e=>(hf b hb).1.2.2.2.2.1 x c (gd e)⟩
 bs:=λb o e=>I.bs b o e
 wK:=dG I.ok.wK I.sz
 Aq:=λb o e hb=>by
  rcases(hf b hb).1.2.2.2.1 with z|z
  .exact I.ok.Aq b o e z
  .exact absurd (bA (bA (cY e) I.ok.wK) z)<|oP _
 qf:=λb hb f=>by
  rcases List.mem_cons.mp (I.Oc b f)with e|e
  .exact(hf b hb).1.2.1 e
  .exact(hf b hb).1.2.2.1 e
 qD:=I.stack
 gp:=I.HJ
theorem Inv.comp{h4:bI}{t:Nat}{m0:Str->Xy}(I:Inv X ap Z H s)(hs:oS X N' scope)(hf:∀b∈fp,lS X ap H b/\b≠C)(hC:s.heap.objs.size<=C)
  (k:∀b o,s.heap.get? b=aA o->h4.get? b=aA o) (hn:h4.Ns C m0) (hl:Z'.length=N'.length)
  (hσ:∀(i:Nat) x v,N'[i]?=aA x->Z'[i]?=aA (aA v)->scope.names.lookup x=aA .free/\(x,jF)∈scope.names/\∃j:Nat,X.N[j]?=aA x/\Z[j]?=aA (aA v)) :
  Inv (X.comp N' scope s H C fp) [] Z' H { s with heap:=h4,toks:=t } where
 ok:=I.yX hs hf hC
 os:=rfl
 bare:=I.bare
 base:=Un.kept k
 loc:=⟨m0,hn,λi x v g h _=>by
  obtain⟨l,hm,j,n,q⟩:=hσ i x v g h;obtain⟨m,_,hl⟩:=I.loc;have a:=hs.free _ hm rfl;obtain⟨u,r,lk⟩:=hl j x v n q (.inr<|.inl a);refine⟨u,r,.inr ⟨.inl (CC I.ok.kind l a),?_⟩⟩;rcases lk with⟨z,_⟩|⟨_,c,w,y⟩
  .rw[show X.env.kindOf x=aA .cell from a]at z;cases z
  .obtain⟨B,f⟩:=hs.has I.ok hm;have:=gd f;rw[w]at this;cases this;obtain⟨o,d,hd⟩:=y;exact⟨c,f,o,k _ _ d,hd⟩⟩
 cell:=λx c e=>by obtain⟨v,o,d,hd⟩:=I.cell x c (gd e);exact⟨v,o,k _ _ d,hd⟩
 free:=I.aZ.fresh hC
 pZ:=λx c e=>I.pZ x c (gd e)
 pin:=λp A=>by cases A
 aZ:=I.aZ.kept k
 len:=hl
end
noncomputable abbrev nZ(us:Hs)(k:Nat):Obj:={ cls:=.type "list",data:=.seq us.toArray k }
theorem Bz{α:Type}{M:Model}{t:Sem α}{Q:α->aI->Prop}(h:aS M A t Q (λ_ _=>False) s):aS M A t Q E s:=wj h (λ_ _ q=>q) λ_ _ z=>z.elim
section
variable {H2:Hp}{s2:aI}{it:Addr}{tn:Nat->bI->Prop}{J:It}{elt tg cR:aK}
theorem Inv.aOj{D:Addr}{ys:Xw}{k:Nat}(I:Inv X ap Z H s)(hD:lS X ap H D)(ho:s.heap.get? D=aA (nZ us k))(r:Vals ys us)(hz:ys.length<=sizeLine):Inv X ap Z (bG H D<|.lst ys) s:=by
 have hn:=hD.1;refine I.step (ch:=[D]) (λb hb=>?_) (λb o _ _ _ e _=>e) (λb o _ _ _ e _=>⟨o.slots,e⟩) (λb o a e n=>?_) (λb o _ e=>⟨o,e⟩) (λb xs e=>by rw[bZ (jT e hn)];exact e) (λb o u e=>by rw[bZ (jT e hn)];exact e) (λb ps e=>⟨#[],by rw[bZ (jT e hn),e];simp⟩) (λm hm=>hm) (λb u e=>?_) I.bare
 .have e:b=D:=by simpa using hb
  subst e;exact⟨hD.2.2.2.1,hD.2.1,hD.2.2.2.2.1,hD.2.2.2.2.2⟩
 .rw[bZ (λz=>a (by simp[z]))];exact n
 .by_cases hb:b=D
  .subst hb;rw[gG]at e;cases e;exact⟨hz,us,k,r,ho⟩
  .rw[bZ hb]at e;exact(I.aZ b u e).vC (λc v a q=>q) (λc q=>by rw[bZ (jT q hn)];exact q) λc xs q=>by rw[bZ (jT q hn)];exact q
theorem Wo{ct:Option aK}{g:TG}{R:Xw->Hp->Prop}{W:Nat->Nat->Xw->St->Hp->Prop}{m0:Nat}{RR:Value->Addr->Result->aI->Prop}
  (hsc:oS X N' scope)(sO:X.calm=aB)(I2:Inv X ap σ H2 s2)(T:Turn X.prog X.w X.K tg J fp it tn)(st2:tn 0 s2.heap)(f2:∀b∈fp,lS X ap H2 b)
  (hg:∀s H C fp,PG (X.comp N' scope s H C fp) tg g)(hct:∀c,ct=aA c->∀s H C fp,PT (X.comp N' scope s H C fp) c tc)(hct0:ct=aD->∀σ H Q,tc σ H Q->Q aB H)(he:∀s H C fp,PE (X.comp N' scope s H C fp) elt te)
  (hl:σ'.length=N'.length)(hσ:∀(i:Nat) x v,N'[i]?=aA x->σ'[i]?=aA (aA v)->scope.names.lookup x=aA .free/\(x,jF)∈scope.names/\∃j:Nat,X.N[j]?=aA x/\σ[j]?=aA (aA v))
  (w0:W 0 m0 [] σ' H2)
  (turn:∀i m ys σ H,W i m ys σ H->(J.stop i H/\R ys H)\/(J.go i H/\∀x H',J.vi i H x H'->g x σ H' λσ2 H2=>tc σ2 H2 λb H3=>if b=aB then te σ2 H3 λy H4=>ys.length<sizeLine/\∃m',m'<m/\W (i+1) m' (ys++[y]) σ2 H4 else∃m',m'<m/\W (i+1) m' ys σ2 H3))
  (hRR:∀D C s' H' m ys,Inv X ap σ (bG H' D<|.lst ys) s'->H' D=aD->s'.heap.Ns C m->lS X ap (bG H' D<|.lst ys) C->R ys H'->RR (.ref D) C (.ok .next) s') :
  aS (aY X.prog X.w) X.A (newList []) (λacc s₃=>aS (aY X.prog X.w) X.A (newFunctionEnv scope X.env.globals (wM scope X.env) [] X.env.qual aD .none<|aA X.env) (λWc s₄=>tQ (aY X.prog X.w) X.A (.compStart (.ListComp elt [⟨tg,cR,ct.toList,0⟩] scope pos) 0 (.ref it) acc { Wc with scope:=relabel scope X.env }) (RR acc Wc.locals) s₄) E s₃) E s2:=by
 refine tU<|wpAny_newFunctionEnv hsc.Lf (by intro y hy;simp at hy) (λA l f=>?_) hsc.kind;dsimp only at l f ⊢;generalize hH2:s2.heap.push { cls:=.type "list",dict:=aD,data:=.seq ([]:Hs).toArray }=F at l f ⊢;have hC:F.objs.size=s2.heap.objs.size+1:=by rw[<- hH2,rR]
 have hDC:s2.heap.objs.size≠F.objs.size:=by rw[hC];exact bQ<|cF _
 have hCle:s2.heap.objs.size<=F.objs.size:=by rw[hC];exact hA _
 have below:∀b,b<s2.heap.objs.size->b≠F.objs.size/\b≠s2.heap.objs.size:=λb hb=>⟨by rw[hC];exact bQ<|iJ hb,bQ hb⟩;have old:=λb o e=>f.extBut b o (below b<|cY e).1 (cT _<|hH2▸cT _ e);have D5:=f.extBut _ _ hDC (cT _<|hH2▸gA _ rfl);have fD:=I2.uG (aV _) (I2.aZ.fresh<|aV _);have lfp:∀b∈fp,b<s2.heap.objs.size:=λb hb=>by obtain⟨o,e,_⟩:=T.obj 0 _ st2 b hb;exact cY e
 have G:∀b∈s2.heap.objs.size::fp,lS X ap H2 b/\b≠F.objs.size:=λb hb=>by
  rcases List.mem_cons.mp hb with rfl|hb
  .exact⟨fD,hDC⟩
  .exact⟨f2 b hb,(below b<|lfp b hb).1⟩
 have IY:=I2.comp (t:=s2.toks+([]:Ym).length) hsc G hCle old l hl hσ;generalize hDd:s2.heap.objs.size=D at *;generalize hCd:F.objs.size=C at *;have fnD:=λb hb=>(below b<|lfp b hb).2;have ok:=IY.ok;have hg':=hg s2 H2 C (D::fp);have hct':=λc e=>hct c e s2 H2 C (D::fp);have he':=he s2 H2 C (D::fp);have fY:∀{pl:Hu} {H':Hp}{b:Addr},b∈D::fp->H' b=aD->(∀p∈pl,p.1≠b)->lS (X.comp N' scope s2 H2 C<|D::fp) pl H' b:=λ{pl H' b} hb hn q=>
  ⟨hn,(ok.yp b hb).1,ok.qf b hb,.inl hb,(ok.yp b hb).2,λp h=>q p (by simpa[Cx.comp]using h)⟩
 let Iv:Nat->aI->Prop:=λn s'=>∃(i:Nat) (ys:Xw) (us:Hs) (k:Nat) (σ':St) (H':Hp),Inv (X.comp N' scope s2 H2 C<|D::fp) [] σ' H' s'/\tn i s'.heap/\(∀b∈D::fp,H' b=aD)/\s'.heap.get? D=aA (nZ us k)/\Vals ys us/\ys.length<=sizeLine/\W i n ys σ' H'
 have L:∀n s',Iv n s'->∀(K:aI->Prop) P,
   (∀i (ys:Xw) (us:Hs) (k:Nat) (pl:Hu) (a:St) (B:Hp) I,Inv (X.comp N' scope s2 H2 C<|D::fp) ([(D,nZ us k)]++pl) a B I ->
    (∀S:bI,(∀p∈pl,S.get? p.1=aA p.2)->tn (i+1) S)->(∀b∈fp,∃o,(b,o)∈pl)->(∀p∈pl,p.1∈fp)->Vals ys us->ys.length<=sizeLine ->
    (tc a B λb H3=>if b=aB then te a H3 λy H4=>ys.length<sizeLine/\∃m',m'<n/\W (i+1) m' (ys++[y]) a H4 else∃m',m'<n/\W (i+1) m' ys a H3)->K I) ->
   aS (aY X.prog X.w) X.A (tS<|.ref it) (λr s1=>match r with
    |none=>RR (.ref D) C (.ok .next) s1
    |some v=>aS (aY X.prog X.w) X.A (Te tg (.ref it) v) (λ_ s0=>aS (aY X.prog X.w) X.A (dh tg (compEnvC scope (wM scope X.env) C X.env) v) (λ_ s2=>K s2) P s0) P s1) P s':=by
  rintro n s' ⟨i,ys,us,k,M,H3,I3,st3,fr3,hD3,rv3,hz3,w3⟩ K P hK
  have I3':Inv (X.comp N' scope s2 H2 C<|D::fp) [(D,nZ us k)] M H3 s':=I3.iu λp q=>by
   have e:p=(D,nZ us k):=by simpa using q
   subst e;exact⟨hD3,fr3 D fP,(ok.yp D fP).1,ok.qf D fP,λv z=>by cases z⟩
  have fp3:∀{H':Hp},(∀b∈fp,H' b=aD)->∀b∈fp,lS (X.comp N' scope s2 H2 C<|D::fp) [(D,nZ us k)] H' b:=λhn b hb=>fY (hW _ hb) (hn b hb) λp q=>by
   have e:p=(D,nZ us k):=by simpa using q
   subst e;exact kN<|fnD b hb
  have fr3':=λb hb=>fr3 b (hW _ hb);rcases turn i n ys M H3 w3 with⟨stop,hR⟩|⟨go,step⟩
  .refine bC (T.done (X.comp N' scope s2 H2 C<|D::fp) rfl rfl rfl sO i _ s' M H3 P I3' (fp3 fr3') st3 stop) λr s4 ⟨hr,I4⟩=>?_;subst hr;obtain⟨gD,nD,_⟩:=I4.pin (D,nZ us k) (iI _ fP);obtain⟨m,hn,_⟩:=id I4.loc;have IX:=I2.VV (ch:=D::fp) I4.os I4.base I4.aZ I4.bare λb hb=>⟨(G b hb).1.2.2.2.1,(G b hb).1.2.1,(G b hb).1.2.2.2.2.1,(G b hb).1.2.2.2.2.2⟩;refine hRR D C s4 H3 m ys (IX.aOj ⟨nD,fD.2⟩ gD rv3 hz3) nD hn ⟨by rw[bZ (kN hDC)];exact I4.free,?_⟩ hR;have fC:=I2.uG (by rw[hDd];exact hCle) I4.free;exact fC.2
  .refine bC (T.item (X.comp N' scope s2 H2 C<|D::fp) rfl rfl rfl sO i _ s' M H3 P I3' (fp3 fr3') st3 go) λr s4 ⟨u,hr,h4⟩=>?_;subst hr;refine bC h4 λ_ s5 zq=>?_;obtain⟨x,H5,I5,r5,y5,st5,fr5⟩:=zq;have I5':=I5.pinned (fp3 fr5) (T.obj _ _ st5);refine Bz<|bC (hg' _ s5 M H5 x u _ I5' r5<|step x H5 y5) λ_ I ⟨a,B,O,q6⟩=>?_;refine hK i ys us k _ a B I O (λS h=>T.keep _ _ _ st5 λb hb o e=>h (b,o) (Aj hb e)) (λb hb=>?_) (λp q=>(CW q).1) rv3 hz3 q6;obtain⟨o,e,_⟩:=T.obj _ _ st5 b hb;exact⟨o,Aj hb e⟩
 have back:∀{n i:Nat}{ys:Xw}{us:Hs}{k:Nat}{pl:Hu}{a:St}{B:Hp}{I:aI},Inv (X.comp N' scope s2 H2 C<|D::fp) ([(D,nZ us k)]++pl) a B I ->
   (∀S:bI,(∀p∈pl,S.get? p.1=aA p.2)->tn (i+1) S)->(∀b∈fp,∃o,(b,o)∈pl)->Vals ys us->ys.length<=sizeLine->(∃m',m'<n/\W (i+1) m' ys a B)->∃m',m'<n/\Iv m' I:=by
  intro n i ys us k pl a B I O ht d U hz ⟨m',hm,w⟩;obtain⟨gD,nD,_⟩:=O.pin (D,nZ us k) (iI _<|vQ _ fP);refine⟨m',hm,i+1,ys,us,k,a,B,O.iu λp q=>(by cases q),ht _ λp q=>(O.pin p<|iI _<|iI _ q).1,λb hb=>?_,gD,U,hz,w⟩;rcases List.mem_cons.mp hb with rfl|hb
  .exact nD
  .obtain⟨o,ho⟩:=d b hb;exact(O.pin _<|iI _<|iI _ ho).2.1
 have app:∀{n i:Nat}{ys:Xw}{us:Hs}{k:Nat}{pl:Hu}{a:St}{Y:Hp}{s7:aI}{y:V}{v:Value}{P:Value->aI->Prop},Inv (X.comp N' scope s2 H2 C<|D::fp) ([(D,nZ us k)]++pl) a Y s7 ->
   (∀S:bI,(∀p∈pl,S.get? p.1=aA p.2)->tn (i+1) S)->(∀b∈fp,∃o,(b,o)∈pl)->(∀p∈pl,p.1∈fp)->Vals ys us->RelV y v->ys.length<sizeLine->(∃m',m'<n/\W (i+1) m' (ys++[y]) a Y) ->
   aS (aY X.prog X.w) X.A (call (.builtin "list.append") [.ref D,v]) (λ_ s8=>∃m',m'<n/\Iv m' s8) P s7:=by
  intro n i ys us k pl a Y s7 y v P Z ht d N U ry hz ⟨m',hm,w⟩;obtain⟨gD,nD,_⟩:=Z.pin (D,nZ us k) (iI _<|vQ _ fP);have hus:us.length<sizeLine:=by rw[<- U.length];exact hz
  refine append_at (hsz:=by rw[gZ];exact mS hus) gD λh8 hs8 g8=>?_;have nb:∀b∈D::fp,Y b=aD:=λb hb=>by
   rcases List.mem_cons.mp hb with rfl|hb
   .exact nD
   .obtain⟨o,ho⟩:=d b hb;exact(Z.pin _<|iI _<|iI _ ho).2.1
  have f8:=fY (pl:=[]) (H':=Y) (b:=D) fP nD (λp q=>by cases q);refine⟨m',hm,i+1,ys++[y],us++[v],k+1,a,Y,(Z.iu (pins':=[]) λp q=>(by cases q)).turned (t':=s7.toks) (it:=D) (λb o hb e=>hs8.extBut b o hb e) nD f8.2.1 f8.2.2.2.1 f8.2.2.2.2.1 f8.2.2.2.2.2,
   ht _ λp q=>?_,nb,?_,U.append (.cons ry .nil),?_,w⟩
  .exact hs8.extBut _ _ (fnD _<|N p q) (Z.pin p<|iI _<|iI _ q).1
  .show h8.get? D=_;rw[g8];simp[nZ]
  .rw[dQ];exact hz
 have i0:Iv m0 { s2 with heap:=A,toks:=s2.toks+([]:Ym).length }:=⟨0,[],[],0,σ',H2,IY,T.keep _ _ _ st2 λb _ o e=>old b o e,λb hb=>(G b hb).1.1,D5,.nil,kM _,w0⟩;have loop:tQ (aY X.prog X.w) X.A (.compLoop (.ListComp elt [⟨tg,cR,ct.toList,0⟩] scope pos) 0 (.ref it) (.ref D)<|compEnvC scope (wM scope X.env) C X.env) (RR (.ref D) C) { s2 with heap:=A,toks:=s2.toks+([]:Ym).length }:=by
  cases ct with
  |none=>refine PySem.W.kcp_loop Iv (λn s' hI=>L n s' hI _ _ ?_) m0 i0;intro i ys us k pl a B I O ht d N U hz q6;have q7:=hct0 rfl a B _ q6;rw[if_pos rfl]at q7;refine Bz<|bC (he' _ I a B _ O q7) λv s7 ⟨y,Y,Z,r7,hz7,w7⟩=>?_;exact app Z ht d N U r7 hz7 w7
  |some c=>
   refine PySem.W.kct_loop Iv (λn s' hI=>L n s' hI _ _ ?_) m0 i0;intro i ys us k pl a B I O ht d N U hz q6;refine Bz<|bC (hct' c rfl _ I a B _ O q6) λb s7 ⟨Y,Z,q7⟩=>?_;cases b with
   |true=>rw[if_pos rfl]at q7 ⊢;refine Bz<|bC (he' _ s7 a Y _ Z q7) λv s8 ⟨y,H8,I8,r8,hz8,w8⟩=>?_;exact app I8 ht d N U r8 hz8 w8
   |false=>rw[if_neg fZ]at q7 ⊢;exact back Z ht d U hz q7
 exact codeAny_compStart_list loop<|T.self _ 0 _ _ _ (T.keep _ _ _ st2 λb _ o e=>old b o e) loop
def Og(wi:TI)(imp:St->St)(g:TG)(tc:TT)(te:TE):TE:=λσ H Q=>wi σ H λJ H1=>∃(W:Nat->Nat->Xw->St->Hp->Prop) (m0:Nat),W 0 m0 [] (imp σ) H1/\∀i m ys σ' H',W i m ys σ' H' ->
 (J.stop i H'/\∀D,H' D=aD->Q (.ref D) (bG H' D<|.lst ys))\/(J.go i H'/\∀x H2,J.vi i H' x H2->g x σ' H2 λσ3 H3=>tc σ3 H3 λb H4=>if b=aB then te σ3 H4 λy H5=>ys.length<sizeLine/\∃m',m'<m/\W (i+1) m' (ys++[y]) σ3 H5 else∃m',m'<m/\W (i+1) m' ys σ3 H4)
variable {ct:Option aK}{wi:TI}{imp:St->St}{g:TG}
theorem aAr(hsc:oS X N' scope)(sO:X.calm=aB)(hi:PI X tg cR wi)
  (hg:∀s H C fp,PG (X.comp N' scope s H C fp) tg g) (hct:∀c,ct=aA c->∀s H C fp,PT (X.comp N' scope s H C fp) c tc) (hct0:ct=aD->∀Z H Q,tc Z H Q->Q aB H) (he:∀s H C fp,PE (X.comp N' scope s H C fp) elt te)
  (himp:∀Z:St,(imp Z).length=N'.length)
  (hσ:∀(Z:St) (i:Nat) x v,N'[i]?=aA x->(imp Z)[i]?=aA (aA v)->scope.names.lookup x=aA .free/\(x,jF)∈scope.names/\∃j:Nat,X.N[j]?=aA x/\Z[j]?=aA (aA v))
  (Jd:∀x,Ew cR X.env x=pure x):PE X (.ListComp elt [⟨tg,cR,ct.toList,0⟩] scope pos) (Og wi imp g tc te):=by
 intro ap s Z H Q I h;refine OI rfl Jd (hsc.Wk I.ok) hsc.kind hsc.CA ?_;refine bC (hi ap s Z H _ I h) λv s1 k=>bC k λl s2 n=>?_;obtain⟨it,fp,tn,J,u,e,p,T,d,f2,W,m0,w0,turn⟩:=n;subst e;refine Wo hsc sO p T d f2 hg hct hct0 he (himp Z) (hσ Z) w0 turn ?_;intro D C w y m z q r hn a t;exact⟨m,hn,λA f=>⟨.ref D,_,q.turned (λb o hb e=>f.extBut b o hb e) a.1 a.2.1 a.2.2.2.1 a.2.2.2.2.1 a.2.2.2.2.2,rfl,t D r⟩⟩
theorem aDf{i:Nat}{y:Str}{py pC:Pos}(hN:X.N.Nodup)(hi':X.N[i]?=aA y)(hy:X.env.scope.names.lookup y=aA .local)
  (hsw:vX (.ListComp elt [⟨tg,cR,ct.toList,0⟩] scope pos) (aA<|.Name y py) pC.line X.env=pure aB) (hsc:oS X N' scope) (sO:X.calm=aB) (hi:PI X tg cR wi)
  (hg:∀s H C fp,PG (X.comp N' scope s H C fp) tg g) (hct:∀c,ct=aA c->∀s H C fp,PT (X.comp N' scope s H C fp) c tc) (hct0:ct=aD->∀Z H Q,tc Z H Q->Q aB H) (he:∀s H C fp,PE (X.comp N' scope s H C fp) elt te)
  (himp:∀Z:St,(imp Z).length=N'.length)
  (hσ:∀(Z:St) (i:Nat) x v,N'[i]?=aA x->(imp Z)[i]?=aA (aA v)->scope.names.lookup x=aA .free/\(x,jF)∈scope.names/\∃j:Nat,X.N[j]?=aA x/\Z[j]?=aA (aA v))
  (Jd:∀x,Ew cR X.env x=pure x):PS X (.Assign [.Name y py] (.ListComp elt [⟨tg,cR,ct.toList,0⟩] scope pos) pC) (HM (Og wi imp g tc te)<|Zq i):=by
 intro ap s Z H D I h;rw[exec_Assign_Name_used _ _ _ _ hsw];refine aQ<|nj<|aQ ?_;refine aQ (wj (OI rfl Jd (hsc.Wk I.ok) hsc.kind hsc.CA ?_)
  (λ_ t A=>cB (cB A)) λ_ _ e=>e)
 refine bC (hi ap s Z H _ I h) λv s1 B=>bC B λE s2 F=>?_;obtain⟨it,fp,tn,J,U,e,G,T,l,f2,W,m0,w0,turn⟩:=F;subst e;refine Wo hsc sO G T l f2 hg hct hct0 he (himp Z) (hσ Z) w0 turn ?_;intro d C t K m L u M hn a N;obtain⟨k,O,P,n,f,R⟩:=id hn;have q:Inv X (ap++[(C,k)]) Z (bG K d<|.lst L) t:=u.iu λp S=>(List.mem_append.mp S).elim (λz=>u.pin p (iI _ z)) λz=>by
  have e:p=(C,k):=by simpa using z
  subst e;exact⟨n,a.1,a.2.1,a.2.2.1,λv z=>by rw[f]at z;cases z⟩
 refine OG<|ji q hN hi' (.inl hy) (v:=.ref d) rfl (λV w=>?_)<|.inr hy;exact⟨m,⟨k,O,P,((w.pin (C,k)<|iI _<|iI _ fP).1),f,R⟩,λY r=>⟨_,_,w.Cc.turned (λb o hb e=>r.extBut b o hb e) a.1 a.2.1 a.2.2.2.1 a.2.2.2.2.1 a.2.2.2.2.2,N d M⟩⟩
end
end L2
namespace AM
open PySem PySem.Spec PyProof.Rows L2
variable {A:cM}{E:XK}{H H':Hp}{O O':HO}{P prog:cA}{Q:VK}{S1 S2:Nat->bI->Prop}{X:Cx}{a i1 i2 it l l1 l2 z:Addr}{apos kq p p2 pos py tp:Pos}{args elts es ts:List aK}{b bb:Bool}{c e tg:aK}{env:Env}{ep n tk:Nat}{fd:eS}{gY ys:Xw}{h':bI}{i j:Int}{items:Yd}{ns:Ht}{op':pE}{ap:Hu}{ps:Yb}{s:aI}{scope:gH}{sp:Sp}{sts:Xz}{tb:TE}{us:List (aP×V)}{w:bW}{x' y':V}{Y Y':Xx}{Z':L2.St}
def yK(K:bJ)(H:Hp)(_:Nat)(x y:V)(b:Bool):Prop:=∃(a c:Addr) (xs:Xw),x = .ref a/\y = .ref c/\dM K H a xs/\dM K H c []/\b=xs.isEmpty
section
variable {Z:L2.St}
theorem CJ(I:Inv X ap Z H s){xs:Xw}(h:dM X.K H a xs):∃its:Hs,Vals xs its/\s.heap.IsList a its.toArray:=by obtain⟨its,r,p,_⟩:=I.list h;exact⟨its,r,p.isList⟩
theorem yK.rc(I:Inv X ap Z H s){c:Addr}(hu:A.units+n<cLine)(h:yK X.K H n (.ref a) (.ref c) b):SeqAt.RcAt A s (.ref a) (.ref c) b/\SeqAt.RcNeAt A s (.ref a) (.ref c) (!b):=by
 obtain⟨_,_,xs,e1,e2,h1,h2,rfl⟩:=h;cases e1;cases e2;have h0:A.units<cLine:=by omega
 obtain⟨us,r1,p1⟩:=CJ I h1;obtain⟨vs,r2,p2⟩:=CJ I h2;cases r2;cases r1 with
 |nil=>exact⟨SeqAt.RcAt.lists (e:=λ_=>aB) p1 p2 rfl h0 λj z=>absurd z (Ed j),SeqAt.RcNeAt.lists (e:=λ_=>aB) p1 p2 rfl h0 λj z=>absurd z (Ed j)⟩|cons _ _=>exact⟨SeqAt.RcAt.lists_lengths p1 p2 rfl h0,SeqAt.RcNeAt.lists_lengths p1 p2 rfl h0⟩
def aJl(K:bJ):R2:=λx y H Q=>FR x y H Q\/∃b a c,x = .ref a/\y = .ref c/\yK K H 12 x y b/\Q (.bl b) H
def aJn(K:bJ):R2:=λx y H Q=>FZ x y H Q\/∃b a c,x = .ref a/\y = .ref c/\yK K H 12 x y b/\Q (.bl<|!b) H
theorem V9(hu:X.A.units+12<cLine):cV X (dJ .Eq) (aJl X.K):=by
 intro ap s Z H x y v u Q I d e h;rcases h with h|⟨b,a,c,rfl,rfl,h,q⟩
 .exact V8 ap s Z H x y v u Q I d e h
 .cases d;cases e;exact(yK.rc I hu h).1 _ _ _ _ ⟨.bl b,H,I,rfl,q⟩
theorem X3(hu:X.A.units+12<cLine):cV X (dJ .NotEq) (aJn X.K):=by
 intro ap s Z H x y v u Q I d e h;rcases h with h|⟨b,a,c,rfl,rfl,h,q⟩
 .exact X2 ap s Z H x y v u Q I d e h
 .cases d;cases e;exact(yK.rc I hu h).2 _ _ _ _ ⟨.bl (!b),H,I,rfl,q⟩
end
def aJm:R2:=λx y H Q=>∃a v,x = .ref a/\lR H a y (aA v)/\Q v H
theorem G9(hu:X.A.units+1<cLine):pL X aJm:=by
 intro value slice ap s Z H x y o i Q I e f h hs;obtain⟨a,v,rfl,g,q⟩:=h;cases e;have j:=YC I g;have hl:=PySem.F.slot_dict_getitem.lookup;have k:aS (aY X.prog X.w) X.A (dq (.ref a) i) (EP X ap Z Q) X.xe s:=XT hu I g f λm s3 l d=>⟨v,H,l,d,q⟩;refine aQ ?_;refine aQ<|OR j hl ?_;have fin:aS (aY X.prog X.w) X.A (To slice aH (.ref a) i) (λr b=>aS (aY X.prog X.w) X.A (letTemporaryGo value (.ref a) r>>=λ_=>pure r) (EP X ap Z Q) X.xe b) X.xe s:=by rw[hs];exact wpAny_operating<|wj k (λr b c=>aQ (wpAny_letTemporaryGo<|cB c)) λ_ _ x=>x
 first
  |exact cB<|aQ fin|exact aQ<|cB<|aQ fin|exact aQ fin
def FV(neg:Bool):R2:=λy x H Q=>∃a o,x = .ref a/\lR H a y o/\Q (.bl<|if neg then !o.isSome else o.isSome) H
theorem W5(hu:X.A.units+1<cLine):cV X (dJ .In) (FV aH):=by intro ap s Z H x y v u Q I b c h;obtain⟨a,o,rfl,g,q⟩:=h;cases c;exact XU hu I g b λs3 d=>⟨.bl o.isSome,H,d,rfl,q⟩
theorem X4(hu:X.A.units+1<cLine):cV X (dJ .NotIn) (FV aB):=by intro ap s Z H x y v u Q I b c h;obtain⟨a,o,rfl,g,q⟩:=h;cases c;exact XV hu I g b λs3 d=>⟨.bl (!o.isSome),H,d,rfl,q⟩
def aJq:V->V->V->Hp->(Hp->Prop)->Prop:=λo i v H Q=>∃a H',o = .ref a/\nq H a i v H'/\Q H'
theorem aKm(hu:X.A.units+1<cLine):Fp X (λo i v H Q=>GA o i v H Q\/aJq o i v H Q):=by
 intro ap s Z H o i v e f u Q I b c d h;rcases h with h|⟨a,k,rfl,g,q⟩
 .exact aKn ap s Z H o i v e f u Q I b c d h
 .cases b;exact XX hu I g c d λs4 j=>⟨_,j,q⟩
def FO:V->Xw->Hp->VK->Prop:=λx vs H Q=>∃a y o,x = .ref a/\lR H a y o/\((vs=[y]/\Q (o.getD .aG) H)\/∃z,vs=[y,z]/\Q (o.getD z) H)
theorem Q5(hu:X.A.units+1<cLine):fm X "dict.get" FO:=by
 intro ap s m H x n v us Q I e d h;obtain⟨a,y,o,rfl,g,h⟩:=h;cases e;rcases h with⟨rfl,q⟩|⟨z,rfl,q⟩
 .obtain⟨u,rfl,f⟩:=d.one;exact XR hu I g f λi j c b=>⟨_,H,c,b,q⟩
 .obtain⟨p,r,rfl,k,l⟩:=xQ d;exact XS hu I g k l λi j c b=>⟨_,H,c,b,q⟩
def FP:V->Xw->Hp->VK->Prop:=λx vs H Q=>∃a kvs k,x = .ref a/\H a=aA (.dK kvs) /\
 ((vs=[kV k]/\∃v,fN kvs k=aA v/\Q v (bG H a<|.dK<|sL kvs k))\/∃z,vs=[kV k,z]/\(∀v,fN kvs k=aA v->Q v (bG H a<|.dK<|sL kvs k))/\(fN kvs k=aD->Q z H))
theorem Q6:fm X "dict.pop" FP:=by
 intro ap s t H x w v us Q I j f h;obtain⟨a,d,k,rfl,e,h⟩:=h;cases j;rcases h with⟨rfl,v,l,q⟩|⟨z,rfl,m,n⟩
 .obtain⟨u,rfl,o⟩:=f.one;exact Xa I e o l (.inl rfl) λp g c b=>⟨v,_,c,b,q⟩
 .obtain⟨y,A,rfl,i,r⟩:=xQ f;cases l:fN d k with
  |some v=>exact Xa I e i l (.inr ⟨_,rfl⟩) λp g c b=>⟨v,_,c,b,m v l⟩|none=>exact XW I e i l λg c=>⟨z,H,c,r,n l⟩
def FQ:V->Xw->Hp->VK->Prop:=λx vs H Q=>∃a kvs k z,x = .ref a/\H a=aA (.dK kvs)/\vs=[kV k,z]/\kvs.length<sizeLine/\(∀v,fN kvs k=aA v->Q v H)/\(fN kvs k=aD->Q z (bG H a<|.dK<|putK kvs k z))
theorem Q7:fm X "dict.setdefault" FQ:=by
 intro ap s y H x A v us Q I i j h;obtain⟨a,b,k,z,rfl,e,rfl,B,m,n⟩:=h;cases i;obtain⟨C,o,rfl,p,f⟩:=xQ j;obtain⟨r,hd,ws,rel,dd⟩:=qa I.aZ e;refine dk NN dd.typeIs aUt (aUs _ _ _) (kt_meets_setdefault (gS X.prog X.w) a (sR p) hd o)
  ⟨ws,dd,rel.length▸r,λD hw=>?_,λhn t c u=>?_⟩
 .cases l:fN b k with
  |none=>have:ed ws k=aD:=iA.none_of (by rw[<- l];exact rel.val k);rw[this]at hw;exact cJ hw
  |some v=>obtain⟨w2,d,g⟩:=iA.some_of (by rw[<- l];exact rel.val k);rw[d]at hw;cases hw;exact⟨v,H,I.tok _,g,m v l⟩
 .have l:fN b k=aD:=by
   cases l:fN b k with
   |none=>rfl|some v=>obtain⟨w2,d,g⟩:=iA.some_of (by rw[<- l];exact rel.val k);rw[d]at hn;cases hn
  have he:∃q,t.get? a=aA q:=let ⟨q,_,_,w,_⟩:=c;⟨q,w⟩;refine⟨z,_,yf I (e▸oQ) u he (yi ?_ hd (rel.put k f) c),f,n l⟩;have:=Jw b k z;lia
theorem BB{k:aP}{v:Value}(h:zX k v=aB):RelV (kV k) v:=by
 rcases sS h with⟨i,t,rfl,rfl⟩|⟨x,t,rfl,rfl⟩
 .exact⟨t,rfl⟩
 .exact⟨t,rfl⟩
theorem BK{kvs:List (aP×V)}{vs:List (aP×Value)}(r:KV kvs vs):∀{i:Nat}{k:aP}{x:Value},vs[i]?=aA (k,x)->∃v,kvs[i]?=aA (k,v):=by
 induction r with
 |nil=>intro i k x e;simp at e|@cons p q ps b h t a=>
  intro i k x e;cases i with
  |zero=>simp at e;subst e;exact⟨p.2,by simp;exact Ru h.1 rfl⟩
  |succ i=>simpa using a (by simpa)
def NF(X:Cx)(a:Addr):Prop:=∀o u,X.H₀ a≠aA (.dD o u)
section
variable {Z:L2.St}{kvs:List (aP×V)}{o:Obj}
theorem rg(I:Inv X ap Z H s)(e:H a=aA (.dK kvs)):NF X a:=λo u z=>by have:=I.base.qC a o u z;rw[e]at this;cases this
theorem G0(I:Inv X ap Z H s)(e:H a=aA (.dK kvs)):∃o,s.heap.get? a=aA o/\Inv X ap Z (bG H a<|.dD o<|.dK kvs) s:=by obtain⟨z,y,d,r,ob,f,g,b,c⟩:=id (I.aZ a _ e);have mu:fq (H a):=e▸oQ;have ob':hB X.prog X.w (bG H a<|.dD ob<|.dK kvs) s.heap a (.dD ob<|.dK kvs):=⟨b,z,y,d,r,ob,f,g,b,c⟩;have:=I.un (t':=s.toks) (Un.write mu (.inl rfl) (λ_ _ _ q=>q) ⟨ob,b⟩) (eW.write I.aZ mu (.inl rfl) (λ_ _ _ q=>q) ⟨ob,b⟩ ob');exact⟨ob,b,this⟩
theorem rh(I:Inv X ap Z H s)(e:H a=aA (.dD o<|.dK kvs))(nf:NF X a):Inv X ap Z (bG H a<|.dK kvs) s:=by
 have d:∀b,H b=aD->b≠a:=λb n z=>by rw[z,e]at n;cases n
 refine⟨I.ok,I.os,I.bare,⟨I.base.keep,I.base.slot,λb u q n g=>?_,I.base.there,λb xs q=>?_,λb x u q=>?_,λb ps q=>?_⟩,I.loc,I.cell,?_,λx c q=>?_,λp h=>?_,λb u q=>?_,I.len⟩
 .have:=I.base.free b u q n g;rw[bZ (d b this)];exact this
 .have h1:=I.base.vH b xs q;rw[bZ (λz=>by rw[z,e]at h1;cases h1)];exact h1
 .rw[bZ (λz=>by rw[z]at q;exact nf x u q)];exact I.base.qC b x u q
 .obtain⟨m,h1⟩:=I.base.vF b ps q;exact⟨m,by rw[bZ (λz=>by rw[z,e]at h1;cases h1)];exact h1⟩
 .rw[bZ (d _ I.free)];exact I.free
 .rw[bZ (d _<|I.pZ x c q)];exact I.pZ x c q
 .obtain⟨h1,f,i⟩:=I.pin p h;exact⟨h1,by rw[bZ (d _ f)];exact f,i⟩
 .by_cases hb:b=a
  .subst hb;rw[gG]at q;cases q;exact(I.aZ b _ e).2
  .rw[bZ hb]at q;exact(I.aZ b u q).vC (λ_ _ _ r=>r) (λc r=>by rw[bZ (λz=>by rw[z,e]at r;cases r)];exact r) λc xs r=>by rw[bZ (λz=>by rw[z,e]at r;cases r)];exact r
def Fi(a:Addr)(o:Obj)(kvs:List (aP×V)):It:=
 ⟨λi H=>H a=aA (.dD o<|.dK kvs)/\i<kvs.length,λi H x H'=>H'=H/\∃k v,kvs[i]?=aA (k,v)/\x=kV k,λi H=>H a=aA (.dD o<|.dK kvs)/\kvs.length=i⟩
theorem Zc(I:Inv X ap Z H s)(e:H a=aA (.dD o<|.dK kvs)){es:Array DictEntry}(hd:o.data = .dict es ep):∃vs,KV kvs vs/\Heap.DictAt (gS X.prog X.w) s.heap a vs ep:=by obtain⟨c,z,y,vs,r,ob,f,g,b,h,d,i⟩:=I.aZ a _ e;rw[c]at b;cases b;rw[hd]at d;cases d;exact⟨vs,r,o,es,c,h,hd,i⟩
theorem aOl{K:bJ}(a it:Addr)(hai:a≠it){es:Array DictEntry}(hd:o.data = .dict es ep):Turn P w K tg (Fi a o kvs) [it] it (λi h=>h.IsKeyIter it a i kvs.length ep) where
 mem:=by simp
 obj:=λi h st b hb=>by
  have e:b=it:=by simpa using hb
  subst e;obtain⟨o,e,c,d⟩:=st;exact⟨o,e,λv z=>by rw[d]at z;cases z⟩
 keep:=λi h j st k=>by obtain⟨o,e,c,d⟩:=st;exact⟨o,k it (by simp) o e,c,d⟩
 item:=by intro X l hw m n i ap s Z H E I hf st p;subst l hw m;obtain⟨e,F⟩:=p;obtain⟨g,r,q⟩:=Zc I e hd;have hl:=r.length;obtain⟨f0,f1,f2,t,f4,u⟩:=hf it (by simp);have W:=NV (knd:=gS X.prog X.w) (I.ok.hd n) it a hai g ep;refine W.item i s _ _ (by lia) ⟨hl▸st,q⟩ λv j tk B C D=>?_;obtain⟨k,x,G,B⟩:=B;obtain⟨y,J⟩:=BK r G;have L:Inv X ap Z H { s with heap:=j,toks:=tk }:=I.turned (λb o hb e=>D b o (by simpa) e) f0 f1 t f4 u;obtain⟨f,_⟩:=C;rw[<- hl]at f;obtain⟨O,M,ci,N⟩:=id f;exact⟨v,rfl,zp M ci N (rfl) ⟨kV k,H,L,BB B,⟨rfl,k,y,J,rfl⟩,f,λb hb=>(hf b hb).1⟩⟩
 done:=by intro X l hw m n i ap s Z H E I hf st p;subst l hw m;obtain⟨e,F⟩:=p;obtain⟨g,r,q⟩:=Zc I e hd;have hl:=r.length;obtain⟨f0,f1,f2,t,f4,u⟩:=hf it (by simp);have W:=NV (knd:=gS X.prog X.w) (I.ok.hd n) it a hai g ep;exact W.done s _ _ ⟨by rw[<- hl];rw[<- F]at st;exact st,q⟩ λj tk D=>⟨rfl,I.turned (λb o hb e=>D b o (by simpa using hb) e) f0 f1 t f4 u⟩
 self:=λA i s Q E st h=>by obtain⟨o,e,c,d⟩:=st;exact wpAny_pyIter_keyiter ⟨o,e,c,d⟩ h
def E8(tl:TE):TI:=λZ H R=>tl Z H λx H1=>∃a kvs,x = .ref a/\H1 a=aA (.dK kvs)/\∀o,R (Fi a o kvs) (bG H1 a<|.dD o<|.dK kvs)
theorem aBq{l:aK}{tl:TE}(hl:PE X l tl):PI X tg l (E8 tl):=by
 intro ap s Z H R I h;refine bC (hl ap s Z H _ I h) λv s1 k=>?_;obtain⟨x,H1,i,m,n⟩:=k;obtain⟨a,d,e,ha,q⟩:=n;subst e;cases m;obtain⟨o,f,g⟩:=G0 i ha;obtain⟨z,y,p,r,ob,t,A,c,u,j,w⟩:=i.aZ a _ ha;rw[f]at c;cases c;have hl:=r.length;refine wpAny_pyIter_dict y ⟨o,t,f,u,j,w⟩ ?_;have eD:=cY f;refine⟨s1.heap.objs.size,[s1.heap.objs.size],_,_,_,rfl,g.kept λb o e=>cT _ e,aOl a _ (bQ eD) j,⟨_,gA _ rfl,rfl,by rw[hl];rfl⟩,λb hb=>?_,q o⟩;have e:b=s1.heap.objs.size:=by simpa using hb
 subst e;exact g.uG (aV _)<|g.aZ.fresh<|aV _
def Tw(H0:Hp)(Q:Hp->Prop)(H:Hp):Prop:=∃a k0 o kvs,H0 a=aA (.dK k0)/\H a=aA (.dD o<|.dK kvs)/\Q (bG H a<|.dK kvs)
theorem aBh{t:TE}(h:PE X e t):PE X e (λZ H Q=>t Z H λx=>Tw H (Q x)):=by intro ap s Z H Q I q;refine bC (h ap s Z H _ I q) λv s1 b=>?_;obtain⟨x,H1,c,d,a,k,o,f,g,i,j⟩:=b;exact⟨x,_,rh c i (rg I g),d,j⟩
def Xn(H:Hp)(D:Ends):Ends:=⟨λZ=>Tw H (D.nx Z),λv=>Tw H (D.rt v),λZ=>Tw H (D.bk Z),λZ=>Tw H (D.ct Z)⟩
theorem aDg{st:Stmt}{t:TS}(h:PS X st t):PS X st (λD Z H=>t (Xn H D) Z H):=by
 intro ap s Z H D I q;refine bC (h ap s Z H _ I q) λf s1 h1=>?_;cases f with
 |next=>obtain⟨b,H1,c,a,j,o,d,e,g,i⟩:=h1;exact⟨b,_,rh c g (rg I e),i⟩|brk=>obtain⟨b,H1,c,a,j,o,d,e,g,i⟩:=h1;exact⟨b,_,rh c g (rg I e),i⟩|cont=>obtain⟨b,H1,c,a,j,o,d,e,g,i⟩:=h1;exact⟨b,_,rh c g (rg I e),i⟩|ret u=>obtain⟨v,b,H1,c,k,a,j,o,d,e,g,i⟩:=h1;exact⟨v,b,_,rh c g (rg I e),k,i⟩
end
theorem aPb{bs:ZE}:∀{us:Hs},Vals (bs.map V.bl) us->us=bs.map dg:=by
 induction bs with
 |nil=>intro us r;cases r;rfl|cons b bs a=>
  intro us r;cases r with
  |cons h t=>have c:=h;subst c;rw[a t];rfl
theorem Ov:∀{us:Hs},Vals (ns.map V.int) us->cu us ns:=by
 induction ns with
 |nil=>intro us r;cases r;exact .nil|cons n ns a=>
  intro us r;cases r with
  |cons h t=>obtain⟨k,rfl⟩:=(h);exact .cons n k<|a t
theorem Jj:∀{us:Hs}{ns:Ht},cu us ns->Vals (ns.map V.int) us
 |_,_,.nil=>.nil
 |_,_,.cons n t r=>.cons ⟨t,rfl⟩ (Jj r)
theorem aJt(bs:ZE):(Ra bs.length).any (λi=>(bs[i]?).getD aH)=bs.any id:=by
 rw[ki,KS,KS];constructor
 .rintro ⟨i,c,h⟩
  have a:=List.mem_range.mp c;rw[eM a]at h;exact⟨bs[i],LR a,h⟩
 .rintro ⟨b,hb,h⟩
  obtain⟨i,c,e⟩:=Qq hb;exact⟨i,List.mem_range.mpr c,by rw[eM c,e];exact h⟩
def kX(rev:Bool)(ns:Ht):Ht:=ns.mergeSort (λa b=>if rev then decide (b<=a) else decide (a<=b))
theorem Nx{rev:Bool}{ns':Ht}(hp:ns'.Perm ns)(ho:Ordered rev ns'):ns'=kX rev ns:=by
 have hs:KO (λa b=>(if rev then decide (b<=a) else decide (a<=b))=aB) (kX rev ns):=by
  refine aTp ?_ ?_ ns
  .intro a b c;cases rev<;>simp<;>lia
  .intro a b;cases rev<;>simp<;>lia
 refine aTh ?_ ?_ hs<|hp.trans (MB _ _).symm
 .intro a b _ _;cases rev<;>simp<;>lia
 .unfold Ordered at ho;cases rev with
  |true=>exact KP (λh=>by simpa) (by simpa)|false=>exact KP (λh=>by simpa) (by simpa)
section
variable {Z:L2.St}
theorem VW(hc:X.calm=aB):jH X (.builtin "any") (λxs H Q=>∃(a:Addr) (bs:ZE),xs=[.ref a]/\dM X.K H a (bs.map V.bl)/\Q (.bl<|bs.any id) H):=by
 intro ap s Z H xs us Q I r h;obtain⟨a,bs,rfl,g,q⟩:=h;obtain⟨u,rfl,j⟩:=r.one;cases j;obtain⟨l,m,p,z⟩:=I.list g;have e:=aPb m;subst e;have t:X.A.in1.handled=aD:=I.ok.hd hc;obtain⟨ob,h1,w,n,x⟩:=p.isList;refine call_any_walk<|na p.isList ?_;refine⟨s.heap.objs.size,_,_,_,_,_,λi=>(bs[i]?).getD aH,rfl,Walks.list t s.heap.objs.size a (bQ<|cY h1) (bs.map dg).toArray,⟨⟨_,gA _ rfl,rfl,rfl⟩,⟨ob,cT _ h1,w,n,x⟩⟩,λi v A B C c d=>?_,λD tk k=>?_⟩
 .dsimp only at c d;rw[LP,fO]at c;cases e:bs[i]? with
  |none=>rw[e]at c;cases c|some b=>rw[e]at c d;have f:=dI c;subst f;exact fh d
 .have hl:(bs.map dg).toArray.size=bs.length:=by simp
  rw[hl,aJt];refine⟨.bl _,H,I.kept λb o e=>k b o ?_ (cT _ e),rfl,q⟩;intro hb;have y:b=s.heap.objs.size:=by simpa using hb
  subst y;exact absurd (cY e)<|oP _
theorem WO(b:Bool)(I:Inv X ap Z H s)(hq:dM X.K H l (ns.map V.int))(hn:ns.length<64)(q:∀D,H D=aD->Q (.ref D) (bG H D<|.lst<|(kX b ns).map V.int)) :
  aS (aY X.prog X.w) X.A (call (.builtin "sorted") [.ref l] [(vT "reverse",.bool b)]) (EP X ap Z Q) X.xe s:=by
 obtain⟨a,c,p,k⟩:=I.list hq;have hl:a.length=ns.length:=by have:=c.length;simpa using this.symm
 refine sorted_ints_rev p.isList (Ov c) (by lia) λout f g d h=>?_;have e:=Nx d h;subst e;obtain⟨i,j⟩:=sortedAll_at s.heap a out;refine⟨.ref _,_,I.laid (o:=.lst ((kX b ns).map V.int)) (λb u z=>sortedAll_old z) (hA _) ⟨?_,out.toList,i,Jj g,by rw[j]⟩,rfl,q _ (I.aZ.fresh<|hA _)⟩;have:=d.length_eq;rw[aU];have:64<=sizeLine:=by decide
 lia
theorem CN(l:Addr)(d:Value):Builtin.min { pos:=[.ref l],kw:=[(vT "default",d)] }=(do
   let it <- wg (.ref l)
   let S <- newList []
   again (.builtin "min.loop" { pos:=[it,.none,S],kw:=[(vT "default",d)] })):=by
  with_unfolding_all rfl
theorem Wg(a d:Value):checkBuiltinCall "min" { pos:=[a],kw:=[(vT "default",d)] }=pure ():=by with_unfolding_all rfl
theorem P9(I S:Addr)(d:Value)(n:Str):∃k:Option (Array Value)->Sem Se,Builtin.«min.loop» { pos:=[.ref I,.none,.ref S],kw:=[(n,d)] }=(du (.ref S)>>=k) /\
  ∃(h:Value->Sem Xy) (k2:Xy->Sem Se),k (aA #[])=((tryCatch (tS<|.ref I) h)>>=k2)/\k2 aD=(rule "min.default">>=λ_=>ret d):=by
 refine⟨_,by with_unfolding_all rfl,_,_,by with_unfolding_all rfl,by with_unfolding_all rfl⟩
theorem WM(hc:X.calm=aB){d:Value}{v:V}(I:Inv X ap Z H s)(hq:dM X.K H l [])(rd:RelV v d)(q:Q v H) :
  aS (aY X.prog X.w) X.A (call (.builtin "min") [.ref l] [(vT "default",d)]) (EP X ap Z Q) X.xe s:=by
 obtain⟨its,rv,p,hz⟩:=I.list hq;cases rv;have hh:=I.ok.hd hc;obtain⟨ob,h1,h2,n,h3⟩:=p.isList;refine wh<|NZ NM NJ ?_;rw[Wg];refine cB ?_;rw[CN];refine aQ<|na p.isList<|aQ<|OM ?_;refine cB ⟨KC _ (by decide +kernel),Eu Ek ?_⟩;obtain⟨k,e1,hd,k2,e2,e3⟩:=P9 s.heap.objs.size (s.heap.push { cls:=.type "list_iterator",data:=.fields #[.ref l,.int 0 0] }).objs.size d (vT "default");rw[e1];refine aQ<|nS (gA _ rfl) rfl ?_;show aS _ _ (k<|aA #[]) _ _ _;rw[e2];refine aQ<|wq<|Tx (items:=#[]) (l:=l) (i:=0) hh ?_ ?_ rfl λh' eb=>?_
 .exact⟨_,cT _ (gA _ rfl),rfl,rfl⟩
 .exact⟨ob,cT _ (cT _ h1),h2,n,h3⟩
 .rw[e3];refine aQ<|nc<|cB ?_;refine⟨v,H,I.kept (t':=s.toks) λb o e=>eb b o ?_ (cT _<|cT _ e),rd,q⟩;intro hb;subst hb;exact absurd (cY e)<|oP _
theorem DN{x nm:Str}{id:String}{kp:Pos}{kc:aK}{t:TE}{z:V}{r:V->Hp->VK->Prop}(hc:∀ap s Z H v u zu Q,Inv X ap Z H s->RelV v u->RelV z zu->r v H Q->aS (aY X.prog X.w) X.A (call (.builtin id) [u] [(nm,zu)]) (EP X ap Z Q) X.xe s)
  (hg:Gl X x)(hm:X.mg x=aD)(hv:mT x=aA (.builtin id))(ha:PE X e t)(hk:PE X kc (tC z))(hs:eF [e] X.env=[(aH,eval e X.env)])(hn:x≠"__name__":=by decide)(hdb:(x==("__debug__":Str))=aH:=by decide) :
  PE X (.Call (.Name x p) [e] [⟨aA nm,kc,kp⟩] pos) (λZ H Q=>t Z H λv H1=>r v H1 Q):=by
 intro ap s Z H Q I h;refine ee<|xD I hg hm hv ?_ hn hdb;have pa:=xH ha ao hs;have j:PK X [⟨aA nm,kc,kp⟩] (Oh (tC z) jk):=aBy hk aBz;obtain⟨y,rest,b⟩:∃y rest,lQ pos (eF [e] X.env)=(aH,y)::rest:=by rw[hs];exact⟨_,_,rfl⟩
 have c:(lQ pos<|eF [e] X.env).any (·.1)=aH:=by rw[hs];rfl
 refine callWith_builtin_kwB c rfl ?_;have h1:=pa pos ap s Z H (λa H1=>match a with
  |[v]=>r v H1 Q
  |_=>False) I h
 rw[b]at h1 ⊢;refine evalArgs_kw rfl ?_;refine bC h1 λus s1 d=>?_;obtain⟨a,H1,k,l,i⟩:=d;obtain⟨v,rfl⟩:∃v,a=[v]:=by
  match a,i with
  |[v],_=>exact⟨v,rfl⟩
 obtain⟨u,rfl,m⟩:=l.one;refine bC (j pos ap s1 Z H1 (λzs f=>zs=[z]/\f=H1) k ⟨rfl,rfl⟩) λws s2 d=>?_;obtain⟨zs,f,n,o,q,w⟩:=d;subst q w;obtain⟨zu,rfl,g⟩:=o.one;exact hc ap s2 Z f v u zu Q n m g i
end
def sV:Ht->Int
 |[]=>0
 |n::r=>r.foldl (λm x=>if x<m then x else m) n
theorem Kg:∀(r:Ht) (n:Int),(r.foldl (λm x=>if x<m then x else m) n∈n::r)/\∀a∈n::r,r.foldl (λm x=>if x<m then x else m) n<=a
 |[],n=>by simp
 |x::r,n=>by
  obtain⟨h1,b⟩:=Kg r (if x<n then x else n);rw[LJ];refine⟨?_,λa ha=>?_⟩
  .rcases List.mem_cons.mp h1 with e|e
   .rw[e];split<;>simp
   .exact hW _<|hW _ e
  .have c:=b _ (fP ..);have d:(if x<n then x else n)<=x/\(if x<n then x else n)<=n:=by split<;>lia
   rcases List.mem_cons.mp ha with rfl|ha
   .exact rS c d.2
   .rcases List.mem_cons.mp ha with rfl|ha
    .exact rS c d.1
    .exact b a<|hW _ ha
theorem Kh(h:ns≠[]):sV ns∈ns:=by
 cases ns with
 |nil=>exact absurd rfl h|cons n r=>exact(Kg r n).1
theorem P6{a:Int}(h:a∈ns):sV ns<=a:=by
 cases ns with
 |nil=>cases h|cons n r=>exact(Kg r n).2 a h
theorem P5{M:Int}(h1:M∈ns)(h2:∀a∈ns,M<=a):M=sV ns:=by have b:=P6 h1;have c:=h2 _ (Kh<|List.ne_nil_of_mem h1);lia
section
variable {R:Result->aI->Prop}{I:Addr}{fp wr:Xx}{P:Nat->Value->Prop}{St:Nat->bI->Prop}
theorem P7(nm:Str)(d:Value)(W:Walks prog w A.in1 I fp wr n P St)(bt:Nat->Nat->Bool)(Iz:CmpOf prog w A.in1 .Lt P bt)(S:Addr)(hSf:S∉fp) :
  ∀(k j:Nat) (s:aI) (vb:Value) (c:Nat),n-(j+1)=k->j+1<=n->St (j+1) s.heap->P (vU bt j) vb->s.heap.get? S=aA { cls:=.type "list",dict:=aD,data:=.seq #[vb,vb] c,slots:=#[] } ->
  (∀v h' tk,P (vU bt<|n-1) v->(∀b o,b∉wr->b≠S->s.heap.get? b=aA o->h'.get? b=aA o)->R (.ok<|.ret v) { s with heap:=h',toks:=tk }) ->
  tQ (aY prog w) A (.builtin "min.loop" ⟨[.ref I,.none,.ref S],[(nm,d)]⟩) R s:=by
 have hSw:S∉wr:=λh=>hSf (W.sub _ h);have zt:(toString "min"++toString ".loop":String)="min.loop":=by decide
 intro k;induction k with
 |zero=>
  intro j s vb c hk hj hst hPb hS hR;have hin:j+1=n:=by omega
  refine Eu Ek ?_;rw[Pz md _];show aS _ A.in1 (du (.ref S)>>=_) _ _ s;refine aQ<|nS hS rfl ?_;show aS _ A.in1 (tryCatch (tS<|.ref I) _>>=_) _ _ s;refine aQ<|wq<|W.done s _ _ (hin▸hst) λh' tk hk'=>?_;have hS':=hk' S _ hSw hS;show aS _ A.in1 (updateSeq S (λ_=>#[])>>=_) _ _ _;refine aQ ?_;refine Tz hS' rfl<|aQ<|fe<|cB ?_;exact hR vb _ tk (by rw[<- hin];exact hPb) λb o hbw hbS e=>(ck _ _<|kN hbS).trans (hk' b o hbw e)
 |succ k ih=>
  intro j s vb c hk hj hst hPb hS hR;have eD:j+1<n:=by omega
  refine Eu Ek ?_;rw[Pz md _];show aS _ A.in1 (du (.ref S)>>=_) _ _ s;refine aQ<|nS hS rfl ?_;show aS _ A.in1 (tryCatch (tS<|.ref I) _>>=_) _ _ s;refine aQ<|wq<|W.item (j+1) s _ _ eD hst λv h' tk hP hst' hk'=>?_;have hS':=hk' S _ hSw hS;show aS _ A.in1 (tryCatch (mx [v,v]<|richCompare .Lt v vb>>=_) _>>=_) _ _ _;refine aQ<|wq<|pI<|aQ<|Iz (j+1) (vU bt j) v vb _ _ _ hP hPb ?_;refine aQ<|pI<|fh ?_;refine aQ<|fe<|cB ?_;cases hb:bt (j+1) (vU bt j) with
  |true=>
   simp only[if_true];refine aQ ?_;refine Tz hS' rfl<|aQ<|fe ?_;rw[zt];refine cB ⟨Ti md _,ih (j+1) _ v _ (by omega) eD (W.frame _ _ _ hst' λb hbf o e=>?_) (by simp only[vU,hb,if_true];exact hP) (vj _ hS' rfl) λv' h'' tk'' hP' hk''=>?_⟩
   .exact(ck _ _ (λh:S=b=>hSf (by rw[h];exact hbf))).trans e
   .exact hR v' h'' tk'' hP' λb o hbw hbS e=>hk'' b o hbw hbS ((ck _ _<|kN hbS).trans (hk' b o hbw e))
  |false=>simp only[Cy,if_false];refine aQ<|fe ?_;rw[zt];refine cB ⟨Ti md _,ih (j+1) _ vb c (by omega) eD hst' (by simp only[vU,hb,Cy,if_false];exact hPb) hS' λv' h'' tk'' hP' hk''=>?_⟩;exact hR v' h'' tk'' hP' λb o hbw hbS e=>hk'' b o hbw hbS (hk' b o hbw e)
theorem P8(nm:Str)(d:Value)(W:Walks prog w A.in1 I fp wr n P St)(bt:Nat->Nat->Bool)(Iz:CmpOf prog w A.in1 .Lt P bt)(S:Addr)(hSf:S∉fp)(hn:0<n){c:Nat}(hst:St 0 s.heap)
  (hS:s.heap.get? S=aA { cls:=.type "list",dict:=aD,data:=.seq #[] c,slots:=#[] })
  (hR:∀v h' tk,P (vU bt<|n-1) v->(∀b o,b∉wr->b≠S->s.heap.get? b=aA o->h'.get? b=aA o)->R (.ok<|.ret v) { s with heap:=h',toks:=tk }) :
  tQ (aY prog w) A (.builtin "min.loop" ⟨[.ref I,.none,.ref S],[(nm,d)]⟩) R s:=by
 have hSw:S∉wr:=λh=>hSf (W.sub _ h);have zt:(toString "min"++toString ".loop":String)="min.loop":=by decide
 refine Eu Ek ?_;rw[Pz md _];show aS _ A.in1 (du (.ref S)>>=_) _ _ s;refine aQ<|nS hS rfl ?_;show aS _ A.in1 (tryCatch (tS<|.ref I) _>>=_) _ _ s;refine aQ<|wq<|W.item 0 s _ _ hn hst λv h' tk hP hst' hk'=>?_;have hS':=hk' S _ hSw hS;show aS _ A.in1 (updateSeq S (λ_=>#[v,v])>>=_) _ _ _;refine aQ ?_;refine Tz hS' rfl ?_;rw[zt];refine cB ⟨Ti md _,P7 nm d W bt Iz S hSf _ 0 _ v _ rfl hn (W.frame _ _ _ hst' λb hbf o e=>?_) hP (vj _ hS' rfl) λv' h'' tk'' hP' hk''=>?_⟩
 .exact(ck _ _ (λh:S=b=>hSf (by rw[h];exact hbf))).trans e
 .exact hR v' h'' tk'' hP' λb o hbw hbS e=>hk'' b o hbw hbS ((ck _ _<|kN hbS).trans (hk' b o hbw e))
end
section
variable {Z:L2.St}
theorem WN(hc:X.calm=aB){d:Value}(I:Inv X ap Z H s)(hq:dM X.K H l (ns.map V.int))(hne:ns≠[])(q:Q (.int<|sV ns) H) :
  aS (aY X.prog X.w) X.A (call (.builtin "min") [.ref l] [(vT "default",d)]) (EP X ap Z Q) X.xe s:=by
 obtain⟨its,rv,p,hz⟩:=I.list hq;have hi:=Ov rv;have hh:=I.ok.hd hc;obtain⟨xs,e⟩:=hi.allInts.items;have hns:ns=xs.toList.map (·.1):=by rw[<- hi.numsOf,<- nums_intItems,<- e]
 have hsz:0<xs.size:=by have:ns.length≠0:=λz=>hne (Dp z);rw[hns,aU,cg]at this;lia
 have hl:s.heap.IsList l (wc xs):=by rw[<- e];exact p.isList
 obtain⟨ob,h1,h2,n,h3⟩:=id hl;refine wh<|NZ NM NJ ?_;rw[Wg];refine cB ?_;rw[CN];refine aQ<|na hl<|aQ<|OM ?_;have eD:=cY h1;refine cB ⟨KC _ (by decide +kernel),?_⟩;refine P8 (vT "default") d (Walks.list (A:=X.A.in1) hh s.heap.objs.size l (bQ eD)<|wc xs) (λi j=>decide (vW xs i<vW xs j)) (CmpOf.ints_lt (vW xs)<|λ_ _=>intItems_at) _ ?_ (by simpa[wc]using hsz) ?_ (gA _ rfl) λv h' tk hP hk=>?_
 .intro hm;have hs2:(s.heap.push { cls:=.type "list_iterator",data:=.fields #[.ref l,.int 0 0] }).objs.size=s.heap.objs.size+1:=rR ..;rw[hs2]at hm;simp only[rY,oO,or_false]at hm;rcases hm with hm|hm
  .exact absurd hm<|kL<|cF _
  .exact absurd hm<|kL<|iJ eD
 .exact⟨⟨_,cT _ (gA _ rfl),rfl,rfl⟩,ob,cT _ (cT _ h1),h2,n,h3⟩
 .have hP':(wc xs)[vU (λi j=>decide (vW xs i<vW xs j)) (xs.size-1)]?=aA v:=by simpa[wc]using hP
  obtain⟨t,rfl⟩:=intItems_at hP';obtain⟨b1,b2⟩:=argBest_lt (vW xs) (xs.size-1);have em:vW xs (vU (λi j=>decide (vW xs i<vW xs j))<|xs.size-1)=sV ns:=by
   refine P5 ?_ λa ha=>?_
   .rw[hns,numAt_eq];exact getD_mem (by rw[aU,cg];lia)
   .rw[hns]at ha;obtain⟨j,hj,rfl⟩:=mem_getD ha;rw[aU,cg]at hj;rw[<- numAt_eq];exact b2 j (by omega)
  rw[em];refine⟨.int (sV ns),H,I.kept (t':=tk) λb o e=>hk b o ?_ ?_ (cT _<|cT _ e),⟨t,rfl⟩,q⟩
  .intro hm;simp only[rY,oO,or_false]at hm;exact absurd hm<|bQ<|cY e
  .have:=cY e;have hs2:(s.heap.push { cls:=.type "list_iterator",data:=.fields #[.ref l,.int 0 0] }).objs.size=s.heap.objs.size+1:=rR ..;rw[hs2];exact bQ<|iJ this
theorem WQ:jH X (.builtin "sorted") (λxs H Q=>∃(a:Addr) (ns:Ht),xs=[.ref a]/\dM X.K H a (ns.map V.int)/\ns.length<64/\∀D,H D=aD->Q (.ref D) (bG H D<|.lst<|(kX aH ns).map V.int)):=by
 intro ap s Z H xs us Q I r h;obtain⟨l,ns,rfl,g,hn,q⟩:=h;obtain⟨u,rfl,i⟩:=r.one;cases i;obtain⟨c,d,p,t⟩:=I.list g;have hl:c.length=ns.length:=by have:=d.length;simpa using this.symm
 refine sorted_ints p.isList (Ov d) (by lia) λout j k f v=>?_;have e:=Nx (rev:=aH) f (by unfold Ordered;simpa);subst e;obtain⟨m,n⟩:=sortedAll_at s.heap c out;refine⟨.ref _,_,I.laid (o:=.lst ((kX aH ns).map V.int)) (λb u z=>sortedAll_old z) (hA _) ⟨?_,out.toList,m,Jj k,by rw[n]⟩,rfl,q _ (I.aZ.fresh<|hA _)⟩;have:=f.length_eq;rw[aU];have:64<=sizeLine:=by decide
 lia
variable {k:Nat}{f:Addr}
variable {kS:Addr}{us:Hs}{ks:Ht}{keys:Yd}{e e1:Nat}{E:Value->aI->Prop}{P:Se->aI->Prop}
end
theorem aPa{us:Hs}:∀{ys:Xw},us.length=ys.length->(∀(j:Nat) v y,us[j]?=aA v->ys[j]?=aA y->RelV y v)->Vals ys us:=by
 induction us with
 |nil=>intro ys hl _;cases ys with
  |nil=>exact .nil|cons _ _=>simp at hl
 |cons u us a=>intro ys hl h;cases ys with
  |nil=>simp at hl|cons y ys=>exact .cons (h 0 u y rfl rfl)<|a (by simpa using hl) λj v z b c=>h (j+1) v z (by simpa) (by simpa)
theorem WI(hc:X.calm=aB):jH X (.type "list") (λxs H Q=>∃(a:Addr) (kvs:List (aP×V)),xs=[.ref a]/\H a=aA (.dK kvs)/\∀D,H D=aD->Q (.ref D) (bG H D<|.lst<|kvs.map λp=>kV p.1)):=by intro ap s L H xs us Q I r h;obtain⟨a,kvs,rfl,ha,q⟩:=h;obtain⟨u,rfl,f⟩:=r.one;cases f;obtain⟨z,y,c,d,ob,g,i,l,m,n,t⟩:=I.aZ a _ ha;have w:Heap.DictAt (gS X.prog X.w) s.heap a c i:=⟨ob,g,l,m,n,t⟩;have A:=d.length;refine W.kdl_call (W.kdl_dict y) (I.ok.hd hc) w (by lia) λM tk acc B C E b=>?_;refine⟨.ref s.heap.objs.size,_,I.laid (o:=.lst (kvs.map λp=>kV p.1)) C (aV _) ⟨by rw[aU];exact z,acc.toList,B,aPa (by rw[cg,b.1,aU];lia) λj v y F e=>?_,E⟩,rfl,q _ (I.aZ.fresh<|aV _)⟩;obtain⟨k,x,G,J⟩:=b.2 j v (by rw[<- JV];exact F);obtain⟨N,K⟩:=BK d G;rw[fO,K]at e;cases e;exact BB J
theorem VX:jH X (.type "dict") (λxs H Q=>∃(a:Addr) (kvs:List (aP×V)),xs=[.ref a]/\H a=aA (.dK kvs)/\∀D,H D=aD->Q (.ref D) (bG H D<|.dK kvs)):=by intro ap s i H xs us Q I r h;obtain⟨a,kvs,rfl,ha,q⟩:=h;obtain⟨u,rfl,d⟩:=r.one;cases d;obtain⟨c,hd,ws,rel,dd⟩:=qa I.aZ ha;refine PySem.kt_call_dict hd dd (rel.length▸c) λj f g=>?_;refine⟨.ref s.heap.objs.size,_,I.laid (λb u e=>?_) (aV _) (yi c (beq_eq_false_iff_ne.mpr<|kN<|bQ I.big) rel f),rfl,q _ (I.aZ.fresh<|aV _)⟩;rw[g.2 b (bQ<|cY e)];exact cT _ e
section
variable {E:Value->aI->Prop}
theorem R9{t:Addr}{i:Nat}{x:Value}{Q:Value->aI->Prop}(u1:s.heap.IsTupleIter it t i)(u2:s.heap.IsTuple t items)(gx:items[i]?=aA x)
  (hQ:∀h',h'.IsTupleIter it t (i+1)->xT it s.heap h'->Q x { s with heap:=h' }):aS (aY prog w) A (rP<|.ref it) Q E s:=by
 obtain⟨o,a,b,d1⟩:=id u1;obtain⟨d,c,_,e,d2⟩:=u2;refine aQ<|ei u1.typeIs xS<|fc xS u1.typeIs Dg ?_<|De _;show aS _ _ (tR (.ref it) 0>>=_) _ _ s;refine aQ<|kP a d1 rfl ?_;show aS _ _ (if(kO t==vz)=aB then _ else _) _ _ s;rw[if_neg (show¬((kO t==vz)=aB) from fZ)];show aS _ _ (tR (.ref it) 1>>=_) _ _ s;refine aQ<|kP a d1 rfl ?_;show aS _ _ (du (.ref t)>>=_) _ _ s;refine aQ<|nS c d2 ?_;simp only[rT,gx];refine aQ<|Fd a d1 (by simp)<|cB ⟨x,rfl,cB (hQ _ ?_ (Di ..))⟩;exact⟨_,vj _ a (MT<|Ef d1 _),(MS ..).trans b,by rw[Ef d1];simp[yI]⟩
theorem CQ{t:Addr}{i:Nat}{Q:Value->aI->Prop}(hh:A.handled=aD)(u1:s.heap.IsTupleIter it t i)(u2:s.heap.IsTuple t items)(gx:items[i]?=aD)
  (hE:∀h' e,ku it s.heap h'->(∃o,h'.get? e=aA o/\o.cls = .type "StopIteration")->E (.ref e) { s with heap:=h' }):aS (aY prog w) A (rP<|.ref it) Q E s:=by
 obtain⟨o,e1,c1,d1⟩:=id u1;obtain⟨p2,e2,_,n2,d2⟩:=u2;unfold rP;refine aQ<|ei (name:=vT "__next__") u1.typeIs xS<|fc xS u1.typeIs Dg ?_<|De _;show aS _ _ (tR (.ref it) 0>>=_) _ _ s;refine aQ<|kP e1 d1 rfl ?_;show aS _ _ (if(kO t==vz)=aB then _ else _) _ _ s;rw[if_neg (show¬((kO t==vz)=aB) from fZ)];show aS _ _ (tR (.ref it) 1>>=_) _ _ s;refine aQ<|kP e1 d1 rfl ?_;show aS _ _ (du (.ref t)>>=_) _ _ s;refine aQ<|nS e2 d2 ?_;simp only[rT,gx];refine aQ<|nc<|aQ<|Fd e1 d1 (by simp) ?_;show aS _ _ (newExc (.type "StopIteration") []>>=_) _ _ _;refine aQ ?_;simp only[newExc];refine aQ<|tU ?_ (by size_fits);refine aQ (m:=OA _ _)<|Tv (by first|rfl|(simp only[OA];rfl)) ?_;refine tU ?_ (by size_fits);simp only[raiseNew];refine aQ<|OJ ?_;(first|rw[show A.in1.handled=aD from hh] | rw[hh]);refine aQ<|cB<|wpAny_throw ?_;exact hE _ _ (((Di ..).extBut.push _).push _) ⟨_,gA _ rfl,rfl⟩
end
theorem YN(hh:A.handled=aD)(it l:Addr)(hne:l≠it)(items:Yd):Draws prog w A it [it,l] items.size (λi v=>items[i]?=aA v) (λi h=>h.IsTupleIter it l i/\h.IsTuple l items) where
 live:=λ_ _ u=>u.1.elim λo p=>⟨o,p.1⟩
 frame:=λ_ _ _ st c=>⟨st.1.at λo e=>c it (.head _) o e,let ⟨o,f,r⟩:=st.2;⟨o,c l (.tail _<|.head _) o f,r⟩⟩
 item:=λi s Q E d st g=>R9 st.1 st.2 (x:=items[i]) (by simp[d]) λj a b=>g _ j s.toks (by simp[d]) ⟨a,st.2.extBut b.extBut hne⟩ b
 done:=λs Q E st k=>CQ hh st.1 st.2 (by simp) k
abbrev rn(l:Addr):Obj:={ cls:=.type "tuple_iterator",data:=.fields #[.ref l,.int 0 0] }
abbrev Hl(n:Addr):Obj:={ cls:=.type "enumerate",data:=.fields #[.none,.bool aH,.ref n,yI 0,.none,.none] }
theorem O8(l:Addr)(items:Yd)(n:Nat)(aN:ZF)(sl:ZC) :
  Meets (Builtin.«enumerate.__new__» ⟨[.type "enumerate",.ref l],[]⟩) (λ_ R s=>s.heap.get? l=aA { cls:=.type "tuple",dict:=aN,data:=.seq items n,slots:=sl } /\
   R (.ok<|.ret<|.ref (s.heap.push<|rn l).objs.size)
    { s with heap:=(s.heap.push<|rn l).push (Hl s.heap.objs.size) }):=
 .of_wp λprog w A R s h=>by
  obtain⟨hp,g,d,tk,os⟩:=s;obtain⟨e1,h⟩:=h;have sb:=sub_enumerate;have v1:Heap.IsTuple (Sv ⟨hp,g,d,tk,os⟩) l items:=⟨_,e1,rfl,n,rfl⟩;wp_walk using Cw e1
  refine wpAny_stack_any λst=>cB ?_;split
  .rename_i c _ _ _ _ _;cases(c==Sw "enumerate")
   .wp_walk using Cw e1,wm v1
    exact⟨_,rfl,h⟩
   .wp_walk using Cw e1,wm v1
    exact⟨_,rfl,h⟩
  .wp_walk using Cw e1,wm v1
   exact⟨_,rfl,h⟩
theorem WA{E:Value->aI->Prop}{Q:Value->aI->Prop}(v1:s.heap.IsTuple l items)
  (h:∀h',IsEnum h' (s.heap.objs.size+1) s.heap.objs.size 0 .none->h'.IsTupleIter s.heap.objs.size l 0->h'.objs.size=s.heap.objs.size+2->(∀b o,s.heap.get? b=aA o->h'.get? b=aA o)->Q (.ref<|s.heap.objs.size+1) { s with heap:=h' }):aS (aY prog w) A (call (.type "enumerate") [.ref l]) Q E s:=by
 obtain⟨⟨c,aN,dt,sl⟩,e1,c1,n,d1⟩:=v1;cases(c1);cases(d1);refine NX F.called_enumerate (rfl) (F.typeCall_enumerate_1 _) (F.newCall_enumerate_1 _) (λobj=>F.args_object_init_2 obj _) F.entry_enumerate_new (O8 l items n aN sl) ⟨e1,?_⟩;have z1:(s.heap.push<|rn l).objs.size=s.heap.objs.size+1:=rR ..;rw[z1];have q1:IsEnum ((s.heap.push<|rn l).push
   (Hl s.heap.objs.size)) (s.heap.objs.size+1) s.heap.objs.size 0 .none:=by
  have:=gA (s.heap.push<|rn l)
   (o:=(Hl s.heap.objs.size)) rfl
  rw[z1]at this;exact this
 exact⟨⟨_,q1,rfl⟩,h _ q1 ⟨_,cT _ (gA _ rfl),rfl,rfl⟩ (by rw[rR,z1]) λb o x=>cT _ (cT _ x)⟩
set_option genCtorIdx true in
inductive AV where
 |aG|bl (b:Bool)|int (i:Int)|str (x:Str)|tup (xs:List AV)|ref (n:Nat)|lF (kvs:Yk)
 deriving Inhabited
abbrev _root_.Hr:=List AV
abbrev _root_.Yf:=List (Str×AV)
variable {dv xs:Hr}{kvs:List (aP×AV)}{v x y:AV}
set_option genCtorIdx true in
inductive bB where
 |lst (mu:Bool) (xs:Hr)
 |aN (kvs:List (aP×AV))
 |dF (kvs:List (aP×AV))
 |ins (c:Nat) (fs:Yf)
variable {o:bB}
def bB.mu:bB->Bool
 |.lst m _=>m
 |_=>aB
structure AH where
 nx:Nat
 ob:Nat->Option bB
variable {R:AV->AH->Prop}{h:AH}
def AH.put(h:AH)(n:Nat)(o:bB):AH:=⟨h.nx,λm=>if m=n then aA o else h.ob m⟩
def AH.new(h:AH)(o:bB):AH:=⟨h.nx+1,λm=>if m=h.nx then aA o else h.ob m⟩
set_option genCtorIdx true in
inductive Res(α:Type) where
 |ok (a:α) (h:AH)
 |bad
abbrev M(α:Type):=AH->Res α
variable {dp:Nat->Option (Hr->M AV)}{g':AV->AV->M AV}
def M.ret{α:Type}(a:α):M α:=λh=>.ok a h
def M.bad{α:Type}:M α:=λ_=>.bad
def M.bind{α β:Type}(m:M α)(k:α->M β):M β:=λh=>match m h with
 |.ok a h'=>k a h'
 |.bad=>.bad
def M.guard{α:Type}(p:Prop) [Decidable p] (m:M α):M α:=λh=>if p then m h else .bad
structure Tab where
 K:bJ
 G:Yk->Addr->Prop
 C:Nat->ZF
variable {T:Tab}
mutual
inductive aW(T:Tab)(Y:Xx)(H:Hp):AV->V->Prop where
 |aG:aW T Y H .aG .aG
 |bl (b:Bool):aW T Y H (.bl b) (.bl b)
 |int (i:Int):aW T Y H (.int i) (.int i)
 |str (x:Str):aW T Y H (.str x) (.str x)
 |tup {a:Addr}{xs:Hr}{ys:Xw} (hq:eC T.K H a ys) (hr:bE T Y H xs ys):aW T Y H (.tup xs) (.ref a)
 |ref {n:Nat}{a:Addr} (e:Y[n]?=aA a):aW T Y H (.ref n) (.ref a)
 |lF {kvs:Yk}{a:Addr} (e:T.G kvs a):aW T Y H (.lF kvs) (.ref a)
inductive bE(T:Tab)(Y:Xx)(H:Hp):Hr->Xw->Prop where
 |nil:bE T Y H [] []
 |cons {x:AV}{y:V}{xs:Hr}{ys:Xw} (h:aW T Y H x y) (hs:bE T Y H xs ys):bE T Y H (x::xs) (y::ys)
end
structure Ext(Y:Xx)(H:Hp)(Y':Xx)(H':Hp):Prop where
 pre:∀(n:Nat) a,Y[n]?=aA a->Y'[n]?=aA a
 tup:∀b xs,H b=aA (.tup xs)->H' b=aA (.tup xs)
 dD:∀b o u,H b=aA (.dD o u)->H' b=aA (.dD o u)
theorem Ext.refl:Ext Y H Y H:=⟨λ_ _ e=>e,λ_ _ e=>e,λ_ _ _ e=>e⟩
theorem Ext.trans{ρ1 ρ2:Xx}{H1 H2:Hp}(a:Ext ρ H ρ1 H1)(b:Ext ρ1 H1 ρ2 H2):Ext ρ H ρ2 H2:=
 ⟨λn x e=>b.pre n x (a.pre n x e),λn x e=>b.tup n x (a.tup n x e),λn x u e=>b.dD n x u (a.dD n x u e)⟩
theorem Ext.ur{K:bJ}(e:Ext Y H Y' H'){xs:Xw}(h:eC K H a xs):eC K H' a xs:=by
 rcases h with(h|⟨o,h⟩)|h
 .exact .inl<|.inl<|e.tup _ _ h
 .exact .inl<|.inr ⟨o,e.dD _ _ _ h⟩
 .exact .inr h
mutual
theorem aW.ext{T:Tab}{Y Y':Xx}{H H':Hp}(e:Ext Y H Y' H'):∀{x:AV}{y:V},aW T Y H x y->aW T Y' H' x y
 |_,_,.aG=>.aG
 |_,_,.bl b=>.bl b
 |_,_,.int i=>.int i
 |_,_,.str x=>.str x
 |_,_,.tup a hr=>.tup (e.ur a) (bE.ext e hr)
 |_,_,.ref q=>.ref (e.pre _ _ q)
 |_,_,.lF q=>.lF q
theorem bE.ext{T:Tab}{Y Y':Xx}{H H':Hp}(e:Ext Y H Y' H'):∀{xs:Hr}{ys:Xw},bE T Y H xs ys->bE T Y' H' xs ys
 |_,_,.nil=>.nil
 |_,_,.cons h a=>.cons (aW.ext e h) (bE.ext e a)
end
theorem bE.length{T:Tab}{Y:Xx}{H:Hp}:∀{xs:Hr}{ys:Xw},bE T Y H xs ys->xs.length=ys.length
 |_,_,.nil=>rfl|_,_,.cons _ a=>congrArg (·+1) a.length
theorem bE.get{T:Tab}{Y:Xx}{H:Hp}:∀{xs:Hr}{ys:Xw}{i:Nat}{x:AV},bE T Y H xs ys->xs[i]?=aA x->∃y,ys[i]?=aA y/\aW T Y H x y
 |_,_,_,_,.nil,e=>by simp at e
 |_,_,0,_,.cons h _,e=>by simp at e;subst e;exact⟨_,rfl,h⟩
 |_,_,i+1,x,.cons _ a,e=>by obtain⟨y,b,c⟩:=bE.get a (by simpa);exact⟨y,by simpa using b,c⟩
theorem bE.append{T:Tab}{Y:Xx}{H:Hp}:∀{xs zs:Hr}{ys ws:Xw},bE T Y H xs ys->bE T Y H zs ws->bE T Y H (xs++zs) (ys++ws)
 |_,_,_,_,.nil,s=>s
 |_,_,_,_,.cons h a,s=>.cons h (bE.append a s)
theorem bE.set{T:Tab}{Y:Xx}{H:Hp}{x:AV}{y:V}(r:aW T Y H x y):∀{xs:Hr}{ys:Xw} (i:Nat),bE T Y H xs ys->bE T Y H (xs.set i x) (ys.set i y)
 |_,_,_,.nil=>.nil
 |_,_,0,.cons _ t=>.cons r t
 |_,_,i+1,.cons q t=>.cons q (bE.set r i t)
theorem bE.take{T:Tab}{Y:Xx}{H:Hp}:∀{xs:Hr}{ys:Xw} (n:Nat),bE T Y H xs ys->bE T Y H (xs.take n) (ys.take n)
 |_,_,0,_=>.nil
 |_,_,_+1,.nil=>.nil
 |_,_,n+1,.cons r t=>.cons r (bE.take n t)
theorem bE.drop{T:Tab}{Y:Xx}{H:Hp}:∀{xs:Hr}{ys:Xw} (n:Nat),bE T Y H xs ys->bE T Y H (xs.drop n) (ys.drop n)
 |_,_,0,r=>r
 |_,_,_+1,.nil=>.nil
 |_,_,n+1,.cons _ t=>bE.drop n t
theorem bE.ints{T:Tab}{Y:Xx}{H:Hp}:∀(ns:Ht),bE T Y H (ns.map AV.int) (ns.map V.int)
 |[]=>.nil
 |n::ns=>.cons (.int n) (bE.ints ns)
def pK(K:bJ)(H:Hp)(a:Addr)(xs:Xw):Prop:=
 (∃o,H a=aA (.dD o<|.lst xs)) \/
  ∃(o:Obj) (its:Yd) (n:Nat),K.lookup a=aA o/\o.cls = .type "list"/\o.dict=aD/\o.data = .seq its n/\its.size<=sizeLine/\Vals xs its.toList
theorem pK.sq{K:bJ}{xs:Xw}(h:pK K H a xs):dM K H a xs:=by
 rcases h with h|h
 .exact .inl<|.inr h
 .exact .inr h
theorem pK.ext{K:bJ}{xs:Xw}(e:Ext Y H Y' H')(h:pK K H a xs):pK K H' a xs:=by
 rcases h with⟨o,h⟩|h
 .exact .inl ⟨o,e.dD _ _ _ h⟩
 .exact .inr h
def nW(T:Tab)(Y:Xx)(H:Hp)(a:Addr):bB->Prop
 |.lst aB xs=>∃ys,H a=aA (.lst ys)/\bE T Y H xs ys
 |.lst aH xs=>∃ys,pK T.K H a ys/\bE T Y H xs ys
 |.aN kvs=>∃ks ys,H a=aA (.dK<|ks.zip ys)/\ks=kvs.map (·.1)/\bE T Y H (kvs.map (·.2)) ys
 |.dF kvs=>∃o ks ys,H a=aA (.dD o<|.dK<|ks.zip ys)/\ks=kvs.map (·.1)/\bE T Y H (kvs.map (·.2)) ys
 |.ins c fs=>∃C dx ks ys,T.C c=aA C/\H a=aA (.ins C dx<|ks.zip ys)/\ks=fs.map (·.1)/\bE T Y H (fs.map (·.2)) ys
theorem nW.ext{T:Tab}{Y Y':Xx}{H H':Hp}{a:Addr}{o:bB}(r:nW T Y H a o)(e:Ext Y H Y' H')(k:o.mu=aB->H' a=H a):nW T Y' H' a o:=by
 cases o with
 |lst m xs=>
  cases m with
  |true=>obtain⟨b,h,r⟩:=r;exact⟨b,by rw[k rfl];exact h,r.ext e⟩|false=>obtain⟨b,h,r⟩:=r;exact⟨b,h.ext e,r.ext e⟩
 |aN g=>obtain⟨d,b,h,f,r⟩:=r;exact⟨d,b,by rw[k rfl];exact h,f,r.ext e⟩|dF g=>obtain⟨o,d,b,h,f,r⟩:=r;exact⟨o,d,b,by rw[k rfl];exact h,f,r.ext e⟩|ins c fs=>obtain⟨C,i,d,b,j,h,f,r⟩:=r;exact⟨C,i,d,b,j,by rw[k rfl];exact h,f,r.ext e⟩
structure bR(T:Tab)(Y:Xx)(h:AH)(H:Hp):Prop where
 len:Y.length=h.nx
 pW:∀(n:Nat) o,h.ob n=aA o->n<h.nx
 obj:∀(n:Nat) o a,h.ob n=aA o->Y[n]?=aA a->nW T Y H a o
 inj:∀(n m:Nat) a o u,h.ob n=aA o->h.ob m=aA u->o.mu=aB->u.mu=aB->Y[n]?=aA a->Y[m]?=aA a->n=m
theorem bR.at(R:bR T Y h H){n:Nat}{o:bB}(e:h.ob n=aA o):∃a,Y[n]?=aA a/\nW T Y H a o:=by have hn:=R.pW n o e;rw[<- R.len]at hn;exact⟨Y[n],by simp[hn],R.obj n o _ e (by simp[hn])⟩
theorem Kq(r:nW T Y H a o)(m:o.mu=aB):∃u,H a=aA u:=by
 cases o with
 |lst k xs=>
  cases k with
  |true=>obtain⟨b,h,_⟩:=r;exact⟨_,h⟩|false=>exact ff m
 |aN d=>obtain⟨e,b,h,_⟩:=r;exact⟨_,h⟩|dF d=>obtain⟨o,e,b,h,_⟩:=r;exact⟨_,h⟩|ins c fs=>obtain⟨C,f,e,b,_,h,_⟩:=r;exact⟨_,h⟩
theorem Ext.jN{o:HO}(hn:H a=aD):Ext Y H Y (bG H a o):=
 ⟨λ_ _ e=>e,λb xs e=>by rw[bZ (jT e hn)];exact e,λb u xs e=>by rw[bZ (jT e hn)];exact e⟩
theorem bR.keep(R:bR T Y h H){o:HO}(hn:H a=aD):bR T Y h (bG H a o):=
 ⟨R.len,R.pW,λn u b e q=>(R.obj n u b e q).ext (.jN hn) λm=>by obtain⟨w,hw⟩:=Kq (R.obj n u b e q) m;rw[bZ (jT hw hn)],R.inj⟩
theorem bR.alloc(R:bR T Y h H)(hn:H a=aD)(ho:nW T (Y++[a]) (bG H a O) a o):bR T (Y++[a]) (h.new o) (bG H a O)/\Ext Y H (Y++[a]) (bG H a O):=by
 have ex:Ext Y H (Y++[a]) (bG H a O):=⟨λn x e=>by have hl:=(List.getElem?_eq_some_iff.mp e).1;rw[rW hl];exact e,(Ext.jN (Y:=Y) hn).tup,(Ext.jN (Y:=Y) hn).dD⟩
 have old:∀{n:Nat}{b:Addr},n<h.nx->(Y++[a])[n]?=aA b->Y[n]?=aA b:=λ{n b} hl e=>by rw[rW (R.len▸hl)]at e;exact e
 have at_:∀{b:Addr},(Y++[a])[h.nx]?=aA b->b=a:=λ{b} e=>by rw[<- R.len]at e;simp at e;exact e.symm
 refine⟨⟨by simp[AH.new,R.len],λn u e=>?_,λn u b e q=>?_,λn m b u v f d l p i j=>?_⟩,ex⟩
 .simp only[AH.new]at e ⊢;by_cases c:n=h.nx
  .lia
  .rw[if_neg c]at e;have:=R.pW n u e;lia
 .simp only[AH.new]at e;by_cases c:n=h.nx
  .rw[if_pos c]at e;cases e;subst c;rw[at_ q];exact ho
  .rw[if_neg c]at e;have r:=old (R.pW n u e) q;refine(R.obj n u b e r).ext ex λm=>?_;obtain⟨w,hw⟩:=Kq (R.obj n u b e r) m;rw[bZ (jT hw hn)]
 .simp only[AH.new]at f d;have no:∀{k:Nat}{y:bB},h.ob k=aA y->y.mu=aB->(Y++[a])[k]?=aA b->b≠a:=λ{k y} e m q=>by obtain⟨w,hw⟩:=Kq (R.obj k y b e<|old (R.pW k y e) q) m;exact jT hw hn
  by_cases c:n=h.nx
  .subst c;by_cases g:m=h.nx
   .exact g.symm
   .rw[if_neg g]at d;exact absurd (at_ i)<|no d p j
  .rw[if_neg c]at f;by_cases g:m=h.nx
   .subst g;exact absurd (at_ j)<|no f l i
   .rw[if_neg g]at d;exact R.inj n m b u v f d l p (old (R.pW n u f) i)<|old (R.pW m v d) j
theorem bR.write(R:bR T Y h H){o':bB}(e:h.ob n=aA o)(m:o.mu=aB)(m':o'.mu=aB)(q:Y[n]?=aA a)(hO:H a=aA O)(nt:∀xs,O ≠ .tup xs)(nf:∀x u,O ≠ .dD x u)
  (ho:nW T Y (bG H a O') a o'):bR T Y (h.put n o') (bG H a O')/\Ext Y H Y (bG H a O'):=by
 have ex:Ext Y H Y (bG H a O'):=⟨λ_ _ z=>z,λb xs z=>by
   rw[bZ (rH z hO λw=>nt xs w.symm)];exact z,λb x u z=>by
   rw[bZ (rH z hO λw=>nf x u w.symm)];exact z⟩
 refine⟨⟨R.len,λk u z=>?_,λk u b z w=>?_,λk l b u v d f i p w1 w2=>?_⟩,ex⟩
 .simp only[AH.put]at z;by_cases c:k=n
  .subst c;exact R.pW _ _ e
  .rw[if_neg c]at z;exact R.pW k u z
 .simp only[AH.put]at z;by_cases c:k=n
  .rw[if_pos c]at z;cases z;subst c;rw[q]at w;cases w;exact ho
  .rw[if_neg c]at z;refine(R.obj k u b z w).ext ex λmu=>?_;rw[bZ];rintro rfl
   exact c<|R.inj k n b u o z e mu m w q
 .simp only[AH.put]at d f;have back:∀{j:Nat}{y:bB},(if j=n then aA o' else h.ob j)=aA y->y.mu=aB->∃g,h.ob j=aA g/\g.mu=aB:=λ{j y} z mu=>by
   by_cases c:j=n
   .subst c;exact⟨o,e,m⟩
   .rw[if_neg c]at z;exact⟨y,z,mu⟩
  obtain⟨r,g1,k1⟩:=back d i;obtain⟨s,g2,k2⟩:=back f p;exact R.inj k l b r s g1 g2 k1 k2 w1 w2
structure vY(Y:Xx)(H H':Hp):Prop where
 ur:∀K b xs,eC K H b xs->eC K H' b xs
 xd:∀b o fs,H b=aA (.dD o<|.xd fs)->H' b=aA (.dD o<|.xd fs)
 B3:∀K b xs,pK K H b xs->pK K H' b xs
mutual
theorem aW.ext2{T:Tab}{Y:Xx}{H H':Hp}(e:vY Y H H'):∀{x:AV}{y:V},aW T Y H x y->aW T Y H' x y
 |_,_,.aG=>.aG
 |_,_,.bl b=>.bl b
 |_,_,.int i=>.int i
 |_,_,.str x=>.str x
 |_,_,.tup a hr=>.tup (e.ur _ _ _ a) (bE.ext2 e hr)
 |_,_,.ref q=>.ref q
 |_,_,.lF q=>.lF q
theorem bE.ext2{T:Tab}{Y:Xx}{H H':Hp}(e:vY Y H H'):∀{xs:Hr}{ys:Xw},bE T Y H xs ys->bE T Y H' xs ys
 |_,_,.nil=>.nil
 |_,_,.cons h a=>.cons (aW.ext2 e h) (bE.ext2 e a)
end
theorem nW.ext2{T:Tab}{Y:Xx}{H H':Hp}{a:Addr}{o:bB}(r:nW T Y H a o)(e:vY Y H H')(k:o.mu=aB->H' a=H a):nW T Y H' a o:=by
 cases o with
 |lst m xs=>
  cases m with
  |true=>obtain⟨b,h,r⟩:=r;exact⟨b,by rw[k rfl];exact h,r.ext2 e⟩|false=>obtain⟨b,h,r⟩:=r;exact⟨b,e.B3 _ _ _ h,r.ext2 e⟩
 |aN g=>obtain⟨d,b,h,f,r⟩:=r;exact⟨d,b,by rw[k rfl];exact h,f,r.ext2 e⟩|dF g=>obtain⟨o,d,b,h,f,r⟩:=r;exact⟨o,d,b,by rw[k rfl];exact h,f,r.ext2 e⟩|ins c fs=>obtain⟨C,i,d,b,j,h,f,r⟩:=r;exact⟨C,i,d,b,j,by rw[k rfl];exact h,f,r.ext2 e⟩
theorem Xu{o:Obj}{kz:List (aP×V)}(hO:H a=aA (.dD o<|.dK kz)):vY Y H (bG H a<|.dK kz):=by
 have ne:∀b u,H b=aA u->(∀x y,u ≠ .dD x (.dK y))->b≠a:=λb u e n z=>by rw[z,hO]at e;cases e;exact n _ _ rfl
 refine⟨λK b xs h=>?_,λb x fs h=>by rw[bZ (ne b _ h λ_ _ z=>by cases z)];exact h,λK b xs h=>?_⟩
 .rcases h with(h|⟨x,h⟩)|h
  .exact .inl<|.inl (by rw[bZ (ne b _ h λ_ _ z=>by cases z)];exact h)
  .exact .inl<|.inr ⟨x,by rw[bZ (ne b _ h λ_ _ z=>by cases z)];exact h⟩
  .exact .inr h
 .rcases h with⟨x,h⟩|h
  .exact .inl ⟨x,by rw[bZ (ne b _ h λ_ _ z=>by cases z)];exact h⟩
  .exact .inr h
theorem bR.Om(R:bR T Y h H)(e:h.ob n=aA (.dF kvs))(q:Y[n]?=aA a) :
  ∃o kz,H a=aA (.dD o<|.dK kz)/\bR T Y (h.put n<|.aN kvs) (bG H a<|.dK kz):=by
 obtain⟨o,m,p,d,r,s⟩:=R.obj n _ a e q;have ex:=Xu (Y:=Y) d;refine⟨o,_,d,⟨R.len,λk u z=>?_,λk u b z w=>?_,λk l b u v f g t x w1 w2=>?_⟩⟩
 .simp only[AH.put]at z;by_cases c:k=n
  .subst c;exact R.pW _ _ e
  .rw[if_neg c]at z;exact R.pW k u z
 .simp only[AH.put]at z;by_cases c:k=n
  .rw[if_pos c]at z;cases z;subst c;rw[q]at w;cases w;exact⟨m,p,gG,r,s.ext2 ex⟩
  .rw[if_neg c]at z;refine(R.obj k u b z w).ext2 ex λmu=>?_;rw[bZ];rintro rfl
   exact c<|R.inj k n b u _ z e mu rfl w q
 .simp only[AH.put]at f g;have back:∀{j:Nat}{y:bB},(if j=n then aA (.aN kvs) else h.ob j)=aA y->y.mu=aB->∃i,h.ob j=aA i/\i.mu=aB:=λ{j y} z mu=>by
   by_cases c:j=n
   .subst c;exact⟨_,e,rfl⟩
   .rw[if_neg c]at z;exact⟨y,z,mu⟩
  obtain⟨A,g1,k1⟩:=back f t;obtain⟨B,g2,k2⟩:=back g x;exact R.inj k l b A B g1 g2 k1 k2 w1 w2
abbrev Rl(α β:Type):=Xx->Hp->α->β->Prop
def W{α β:Type}(T:Tab)(Rp:Rl α β)(r:Res α)(Y:Xx)(H:Hp)(Q:β->Hp->Prop)(E:XK):Prop:=match r with
 |.ok a h=>∀Y' b H',Ext Y H Y' H'->bR T Y' h H'->Rp Y' H' a b->Q b H'
 |.bad=>False
section
variable {α β γ δ:Type}{Rp:Rl α β}{Rq:Rl γ δ}{Q:β->Hp->Prop}
theorem W.ext{r:Res α}(w:W T Rp r Y H Q E)(e:Ext Y H Y' H'):W T Rp r Y' H' Q E:=by
 cases r with
 |ok a h=>exact λc b d x R q=>w c b d (e.trans x) R q|bad=>exact w
theorem W.bind{m:M α}{k:α->M γ}{Q2:δ->Hp->Prop}(w:W T Rq (M.bind m k h) ρ H Q2 E)
  (f:∀ρ1 x y h1 H1,Ext ρ H ρ1 H1->bR T ρ1 h1 H1->Rp ρ1 H1 x y->W T Rq (k x h1) ρ1 H1 Q2 E->Q y H1):W T Rp (m h) ρ H Q E:=by
 unfold M.bind at w;cases e:m h with
 |ok a h1=>rw[e]at w;exact λρ1 y H1 x R q=>f ρ1 a y h1 H1 x R q (w.ext x)
 |bad=>rw[e]at w;exact w
theorem W.ok{a:α}{b:β}(w:W T Rp (.ok a h) Y H Q E)(e:Ext Y H Y' H')(R:bR T Y' h H')(q:Rp Y' H' a b):Q b H':=w Y' b H' e R q
theorem W.here{a:α}{b:β}(w:W T Rp (.ok a h) Y H Q E)(R:bR T Y h H)(q:Rp Y H a b):Q b H:=w Y b H .refl R q
end
abbrev aF:=List (Option AV)
variable {B C N:aF->AH->Prop}{m m0 ma mb mc:aF->M AV}{mr:aF->M Hr}{Z:aF}
def cW(T:Tab)(Y:Xx)(H:Hp)(Z:aF)(Z':L2.St):Prop:=Z.length=Z'.length/\∀(i:Nat) v,Z[i]?=aA (aA v)->∃v',Z'[i]?=aA (aA v')/\aW T Y H v v'
theorem cW.ext{T:Tab}{Y Y':Xx}{H H':Hp}{Z:aF}{Z':L2.St}(S:cW T Y H Z Z')(e:Ext Y H Y' H'):cW T Y' H' Z Z':=
 ⟨S.1,λi v q=>let ⟨c,a,b⟩:=S.2 i v q;⟨c,a,b.ext e⟩⟩
theorem cW.set{T:Tab}{Y:Xx}{H:Hp}{Z:aF}{Z':L2.St}(S:cW T Y H Z Z'){v:AV}{v':V}(r:aW T Y H v v')(i:Nat):cW T Y H (Z.set i<|aA v) (Z'.set i<|aA v'):=by
 refine⟨by simp[S.1],λj u q=>?_⟩;by_cases c:i=j
 .subst c;by_cases hl:i<Z.length
  .rw[mQ hl]at q;cases q;exact⟨v',mQ (S.1▸hl),r⟩
  .rw[LM (by simpa using hl)]at q;exact cJ q
 .rw[lO c]at q;obtain⟨w,a,b⟩:=S.2 j u q;exact⟨w,by rw[lO c];exact a,b⟩
def QE(X:Cx)(T:Tab)(E:XK)(e:aK)(m:aF->M AV):Prop:=
 ∃t,PE X e t/\∀Y Z Z' h H Q,bR T Y h H->cW T Y H Z Z'->W T (aW T) (m Z h) Y H Q E->t Z' H Q
def QA(X:Cx)(T:Tab)(E:XK)(es:List aK)(m:aF->M Hr):Prop:=
 ∃t,PA X es t/\∀Y Z Z' h H Q,bR T Y h H->cW T Y H Z Z'->W T (bE T) (m Z h) Y H Q E->t Z' H Q
abbrev RB:Rl Bool Bool:=λ_ _ a b=>a=b
def QT(X:Cx)(T:Tab)(E:XK)(e:aK)(m:aF->M Bool):Prop:=
 ∃t,PT X e t/\∀Y Z Z' h H Q,bR T Y h H->cW T Y H Z Z'->W T RB (m Z h) Y H Q E->t Z' H Q
def QW(X:Cx)(T:Tab)(E:XK)(e:aK)(m:aF->M Bool):Prop:=
 ∃t,PW X e t/\∀Y Z Z' h H Q,bR T Y h H->cW T Y H Z Z'->W T RB (m Z h) Y H Q E->t Z' H Q
theorem QW.qt{m:aF->M Bool}(h:QW X T E e m):QT X T E e m:=let ⟨t,a,b⟩:=h;⟨t,a.pt,b⟩
def dX(X:Cx)(T:Tab)(E:XK)(f:Value->Value->Sem Value)(g:AV->AV->M AV):Prop:=
 ∃r,cV X f r/\∀Y h H x y x' y' Q,bR T Y h H->aW T Y H x x'->aW T Y H y y'->W T (aW T) (g x y h) Y H Q E->r x' y' H Q
def Ur(X:Cx)(T:Tab)(E:XK)(f:Value->Sem Value)(g:AV->M AV):Prop:=
 ∃r,xj X f r/\∀Y h H x x' Q,bR T Y h H->aW T Y H x x'->W T (aW T) (g x h) Y H Q E->r x' H Q
def xa(X:Cx)(T:Tab)(E:XK)(g:AV->AV->M AV):Prop:=
 ∃r,pL X r/\∀Y h H x y x' y' Q,bR T Y h H->aW T Y H x x'->aW T Y H y y'->W T (aW T) (g x y h) Y H Q E->r x' y' H Q
def nU(X:Cx)(T:Tab)(E:XK)(f:Value)(g:Hr->M AV):Prop:=
 ∃r,jH X f r/\∀Y h H xs gY Q,bR T Y h H->bE T Y H xs gY->W T (aW T) (g xs h) Y H Q E->r gY H Q
def rE(i j:Int):Bool:=decide (i.natAbs<2 ^ 64)||decide (j.natAbs<2 ^ 64)||(decide (i.natAbs<2 ^ 1000)&&decide (j.natAbs<2 ^ 1000))
def pV(j:Int):Bool:=decide (0<j)&&decide (j<2 ^ 1000)
def xI(i j:Int):Bool:=decide (0<=j)&&decide (j<=1000000)&&decide (i.natAbs<2 ^ 64)
def ag(h:AH)(n:Nat):Option (List AV):=match h.ob n with
 |some (.lst aB xs)=>aA xs
 |_=>aD
theorem CI(e:ag h n=aA xs):h.ob n=aA (.lst aB xs):=by
 unfold ag at e;split at e
 .rename_i q;cases e;exact q
 .cases e
def ql(n m:Nat):M AV:=λh=>match ag h n with
 |some xs=>(match ag h m with
  |some ys=>if xs.length+ys.length<=sizeLine then .ok (.ref h.nx) (h.new<|.lst aB<|xs++ys) else .bad
  |none=>.bad)
 |none=>.bad
def Zf:AV->AV->M AV
 |.int i,.int j=>M.ret (.int<|i+j)
 |.str i,.str j=>M.guard (i.length+j.length<=sizeLine) (M.ret<|.str<|i++j)
 |.tup xs,.tup ys=>M.guard (xs.length+ys.length<=sizeLine) (M.ret<|.tup<|xs++ys)
 |.ref n,.ref m=>ql n m
 |_,_=>M.bad
def mJ(p:Int->Int->Bool)(f:Int->Int->Int):AV->AV->M AV
 |.int i,.int j=>λh=>if p i j=aB then .ok (.int<|f i j) h else .bad
 |_,_=>M.bad
def zl:AV->AV->M AV:=mJ (λ_ _=>aB) HSub.hSub
def qw(x y:AV):M AV:=match x with
 |.ref n=>match y with
  |.int k=>λh=>match h.ob n with
   |some (.lst aB xs)=>if 0<=k/\xs.length*k.toNat<=sizeLine/\k<2 ^ 63 then .ok (.ref h.nx) (h.new<|.lst aB (eN k.toNat xs).flatten) else .bad
   |_=>.bad
  |_=>M.bad
 |_=>mJ rE HMul.hMul x y
def Zh:AV->AV->M AV:=mJ (λ_ j=>pV j) HDiv.hDiv
def Zp:AV->AV->M AV:=mJ (λ_ j=>decide (0<j)) HMod.hMod
def Zs:AV->AV->M AV:=mJ xI λi j=>i ^ j.toNat
def Zt:AV->AV->M AV:=mJ xI λi j=>i*2 ^ j.toNat
def Zu:AV->AV->M AV:=mJ (λ_ j=>decide (0<=j)) λi j=>i / 2 ^ j.toNat
def Zg:AV->AV->M AV:=mJ (λ_ _=>aB) rQ
def Zr:AV->AV->M AV:=mJ (λ_ _=>aB) km
def Zv:AV->AV->M AV:=mJ (λ_ _=>aB) ko
def qo(f:Int->Int->Bool):AV->AV->M AV
 |.int i,.int j=>M.ret (.bl<|f i j)
 |_,_=>M.bad
def Zm:AV->AV->M AV:=qo λi j=>decide (i<j)
def Zl:AV->AV->M AV:=qo λi j=>decide (i<=j)
def Zj:AV->AV->M AV:=qo λi j=>decide (j<i)
def Zi:AV->AV->M AV:=qo λi j=>decide (j<=i)
def uB:AV->AV->Option Bool
 |.aG,.aG=>aA aB | .aG,.int _=>aA aH | .int _,.aG=>aA aH | .aG,.bl _=>aA aH | .bl _,.aG=>aA aH | .aG,.str _=>aA aH | .str _,.aG=>aA aH
 |.int i,.int j=>aA (decide<|i=j) | .bl i,.bl j=>aA (decide<|i=j) | .str i,.str j=>aA (decide<|i=j)
 |.int _,.str _=>aA aH | .str _,.int _=>aA aH | .bl _,.str _=>aA aH | .str _,.bl _=>aA aH
 |_,_=>aD
def jL:AV->Bool
 |.aG=>aB | .bl _=>aB | .int _=>aB | .str _=>aB
 |_=>aH
def Ho:AV->AV->Bool
 |.aG,.aG=>aB
 |.bl a,.bl b=>a==b
 |.bl a,.int b=>(if a then 1 else 0)==b
 |.int a,.bl b=>a==(if b then 1 else 0)
 |.int a,.int b=>a==b
 |.str a,.str b=>a==b
 |_,_=>aH
def uq(h:AH):AV->Option (Bool×Hr)
 |.tup xs=>aA (aH,xs)
 |.ref n=>match h.ob n with
  |some (.lst _ xs)=>aA (aB,xs)
  |_=>aD
 |_=>aD
def sM(h:AH)(x y:AV):Option Bool:=match uq h x,uq h y with
 |some (aB,xs),aA (aB,[])=>aA xs.isEmpty
 |_,_=>aD
def zN(x y:AV):M AV:=λh=>match uB x y with
 |some b=>.ok (.bl b) h
 |none=>match sM h x y with
  |some b=>.ok (.bl b) h
  |none=>.bad
def zR(x y:AV):M AV:=λh=>match uB x y with
 |some b=>.ok (.bl<|!b) h
 |none=>match sM h x y with
  |some b=>.ok (.bl<|!b) h
  |none=>.bad
def nC:AV->Bool
 |.aG=>aB
 |_=>aH
def Ih(x y:AV):M AV:=if nC y=aB then M.ret (.bl<|nC x) else M.bad
def Ii(x y:AV):M AV:=if nC y=aB then M.ret (.bl<|!nC x) else M.bad
def gR(x:AV)(xs:Hr):Bool:=xs.any λy=>Ho y x
def dW(h:AH):AV->Option (List AV)
 |.tup xs=>aA xs
 |.ref n=>match h.ob n with
  |some (.lst _ xs)=>aA xs
  |_=>aD
 |_=>aD
def eZ:AV->Option aP
 |.int i=>aA (.inl i)
 |.str s=>aA (.inr s)
 |_=>aD
def gE(h:AH):AV->Option (List<|aP×AV)
 |.ref n=>match h.ob n with
  |some (.aN kvs)=>aA kvs
  |_=>aD
 |_=>aD
def bL(kvs:List (aP×AV))(k:aP):Option AV:=(kvs.find? λkv=>decide (kv.1=k)).map (·.2)
def gT(kvs:List (aP×AV))(k:aP)(v:AV):List (aP×AV):=
 if(kvs.any λkv=>decide (kv.1=k))=aB then kvs.map (λkv=>if kv.1=k then(kv.1,v) else kv) else kvs++[(k,v)]
def uA(kvs:List (aP×AV))(k:aP):List (aP×AV):=kvs.filter λkv=>decide (kv.1≠k)
def uJ(neg:Bool)(x y:AV):M AV:=λh=>match dW h y with
 |some xs=>if(jL x&&xs.all jL)=aB then .ok (.bl<|if neg then !gR x xs else gR x xs) h else
  .bad
 |none=>.bad
def nB(neg:Bool)(x y:AV):M AV:=λh=>match gE h y with
 |some kvs=>match eZ x with
  |some k=>.ok (.bl<|if neg then !(bL kvs k).isSome else(bL kvs k).isSome) h
  |none=>.bad
 |none=>uJ neg x y h
def qx:AV->M AV
 |.int i=>M.ret (.int<|-i)
 |_=>M.bad
def gr(x y:AV):M AV:=λh=>match y with
 |.int i=>match x with
  |.str z=>if z.length<=sizeLine then match cN z.cps.toList i with
   |some c=>.ok (.str ⟨#[c]⟩) h
   |none=>.bad
   else .bad
  |x=>match (dW h x).bind λxs=>cN xs i with
   |some v=>.ok v h
   |none=>.bad
 |_=>.bad
def yY(h:AH):AV->Option (List<|aP×AV)
 |.ref n=>match h.ob n with
  |some (.dF kvs)=>aA kvs
  |_=>aD
 |_=>aD
def zi(x y:AV):M AV:=λh=>match yY h x with
 |some kvs=>match (eZ y).bind (bL kvs) with
  |some v=>.ok v h
  |none=>.bad
 |none=>gr x y h
def uK(x y:AV):M AV:=λh=>match gE h x with
 |some kvs=>match (eZ y).bind (bL kvs) with
  |some v=>.ok v h
  |none=>.bad
 |none=>zi x y h
def jo(h:AH):AV->Option Bool
 |.aG=>aA aH
 |.bl b=>aA b
 |.int i=>aA (i != 0)
 |.str y=>if y.length<=sizeLine then aA ((y.length:Int) != 0) else aD
 |.tup xs=>aA (!xs.isEmpty)
 |.ref n=>match h.ob n with
  |some (.lst _ xs)=>aA (!xs.isEmpty)
  |some (.aN kvs)=>aA (!kvs.isEmpty)
  |_=>aD
 |_=>aD
def dH(x:AV):M Bool:=λh=>match jo h x with
 |some b=>.ok b h
 |none=>.bad
section
variable (hK:X.K=T.K)
theorem zV{α β:Type}{Rp:Rl α β}{p:Prop}[Decidable p]{m:M α}{Q:β->Hp->Prop}(w:W T Rp (M.guard p m h) Y H Q E):p/\W T Rp (m h) Y H Q E:=by
 unfold M.guard at w;by_cases a:p
 .rw[if_pos a]at w;exact⟨a,w⟩
 .rw[if_neg a]at w;exact w.elim
theorem sX{f:Value->Value->Sem Value}{C:Int->Int->Prop}{p:Int->Int->Bool}{g:Int->Int->Int}(ho:cV X f (rI C λi j=>.int (g i j)))(hc:∀i j,p i j=aB->C i j):dX X T E f (mJ p g):=by
 refine⟨_,ho,λd h H x y e k Q R b c w=>?_⟩;cases x with
 |int i=>
  cases y with
  |int j=>
   cases b;cases c;simp only[mJ]at w;by_cases a:p i j=aB
   .rw[if_pos a]at w;exact⟨i,j,rfl,rfl,hc i j a,w.here R (.int _)⟩
   .rw[if_neg a]at w;cases w
  |_=>exact w.elim
 |_=>exact w.elim
theorem Au{f:Value->Value->Sem Value}{g:Int->Int->Bool}(ho:cV X f (oD λi j=>.bl (g i j))):dX X T E f (qo g):=by
 refine⟨_,ho,λc h H x y d e Q R a b w=>?_⟩;cases x with
 |int i=>
  cases y with
  |int j=>cases a;cases b;exact⟨i,j,rfl,rfl,W.here w R (.bl _)⟩
  |_=>exact w.elim
 |_=>exact w.elim
theorem Bk{f:Value->Value->Sem Value}{g:Int->Int->V}(h:cV X f (oD g)):cV X f (rI (λ_ _=>True) g):=
 λap s c H x y v u Q I d e ⟨i,j,a,b,_,q⟩=>h ap s c H x y v u Q I d e ⟨i,j,a,b,q⟩
theorem aAh:dX X T E (eV .Sub) zl:=sX (Bk Y3) λ_ _ _=>trivial
theorem Y6:dX X T E (eV .BitAnd) Zg:=sX (Bk V4) λ_ _ _=>trivial
theorem aAd:dX X T E (eV .BitOr) Zr:=sX (Bk X7) λ_ _ _=>trivial
theorem aAi:dX X T E (eV .BitXor) Zv:=sX (Bk Y4) λ_ _ _=>trivial
theorem Z8:dX X T E (eV .Mod) Zp:=sX X0 λ_ _ h=>of_decide_eq_true h
theorem DZ(h:xI i j=aB):Ff i j:=by simp only[xI,bT,decide_eq_true_eq]at h;exact⟨h.1.1,h.1.2,h.2⟩
theorem aAe:dX X T E (eV .Pow) Zs:=sX X8 λ_ _ h=>DZ h
theorem aAf:dX X T E (eV .LShift) Zt:=sX Y0 λ_ _ h=>DZ h
theorem aAg:dX X T E (eV .RShift) Zu:=sX Y1 λ_ _ h=>of_decide_eq_true h
theorem R4(h:rE i j=aB):IntMulOk i j:=by
 simp only[rE,kj,bT,decide_eq_true_eq]at h;rcases h with(h|h)|⟨a,b⟩
 .exact .of_left<|Ey h
 .exact .of_right<|Ey h
 .exact .of_bits (dG (Ey a) (by decide))<|dG (Ey b) (by decide)
theorem X1:cV X (eV .Mult) (rI IntMulOk λi j=>.int (i*j)):=ip λ_ _ _ _ _ _ _ hc q=>mul_int q hc
theorem log2_lt{j:Int}(h:j<2 ^ 1000)(h0:0<j):j.natAbs.log2<9000:=by
 have hn:j.natAbs<2 ^ 1000:=by omega
 have:j.natAbs.log2<1000:=(Nat.log2_lt (by lia)).mpr hn;lia
theorem W2:cV X (eV .FloorDiv) (rI (λ_ j=>0<j/\j<2 ^ 1000) λi j=>.int (i / j)):=ip λi j _ _ _ _ _ hc q=>by have h1:(0:Int)<j:=hc.1;exact floordiv_int (by omega) (by rw[Qe i (by omega)];exact q)<|.inl<|NA<|log2_lt hc.2 hc.1
theorem Xj(h:pV j=aB):0<j/\j<2 ^ 1000:=by simp only[pV,bT,decide_eq_true_eq]at h;exact h
theorem Y9:dX X T E (eV .FloorDiv) Zh:=sX W2 λ_ _ h=>Xj h
theorem Z7:dX X T E (dJ .Lt) Zm:=Au W9
theorem Z6:dX X T E (dJ .LtE) Zl:=Au W8
theorem Z1:dX X T E (dJ .Gt) Zj:=Au W4
theorem Z0:dX X T E (dJ .GtE) Zi:=Au W3
theorem Xr(rx:aW T Y H x x')(ry:aW T Y H y y')(e:uB x y=aA b):Nq x' y'=aB/\decide (x'=y')=b:=by
 cases rx<;>cases ry<;>first
  | (cases e;done)
  |exact⟨rfl,(decide_eq_false nofun).trans (dI e)⟩
  | (obtain rfl:=dI e;exact⟨rfl,by simp⟩)
theorem Hy(r:aW T Y H x x')(f:jL x=aB):sN x'=aB:=by cases r<;>first|rfl|exact ff f
theorem Hz{Y:Xx}{H:Hp}:∀{xs:Hr}{ys:Xw},bE T Y H xs ys->xs.all jL=aB->ys.all sN=aB
 |_,_,.nil,_=>rfl|_,_,.cons h a,f=>by rw[jX,bT]at f ⊢;exact⟨Hy h f.1,Hz a f.2⟩
theorem YY(rx:aW T Y H x x')(ry:aW T Y H y y')(fx:jL x=aB)(fy:jL y=aB):uC x' y'=Ho x y:=by
 cases rx<;>first|cases fx;done|skip
 all_goals (cases ry<;>first|rfl|cases fy)
theorem HE(hK:X.K=T.K){k:Bool}(R:bR T Y h H)(r:aW T Y H x x')(e:uq h x=aA (k,xs)):∃a ys,x' = .ref a/\bE T Y H xs ys/\(k=aB->dM X.K H a ys)/\(k=aH->eC X.K H a ys):=by
 cases r with
 |tup d hr=>cases e;exact⟨_,_,rfl,hr,(nofun),λ_=>hK▸d⟩
 |@ref n a q=>
  simp only[uq]at e;cases o:h.ob n with
  |none=>rw[o]at e;cases e|some u=>
   rw[o]at e;cases u with
   |lst m ys=>
    cases e;cases m with
    |true=>obtain⟨zs,b,c⟩:=R.obj n _ a o q;exact⟨_,_,rfl,c,λ_=>.inl (.inl b),nofun⟩|false=>obtain⟨zs,b,c⟩:=R.obj n _ a o q;exact⟨_,_,rfl,c,λ_=>hK▸b.sq,nofun⟩
   |_=>exact cJ e
 |_=>exact cJ e
theorem Xs(hK:X.K=T.K)(R:bR T Y h H)(rx:aW T Y H x x')(ry:aW T Y H y y')(e:sM h x y=aA b):∃a c,x' = .ref a/\y' = .ref c/\yK X.K H 12 x' y' b:=by
 unfold sM at e;split at e
 .rename_i xs d f;cases e;obtain⟨a,us,rfl,g,l1,_⟩:=HE hK R rx d;obtain⟨c,j,rfl,i,l2,_⟩:=HE hK R ry f;cases i;exact⟨a,c,rfl,rfl,a,c,us,rfl,rfl,l1 rfl,l2 rfl,by cases g<;>rfl⟩
 .exact cJ e
theorem Y8(hK:X.K=T.K)(hu:X.A.units+12<cLine):dX X T E (dJ .Eq) zN:=by
 refine⟨_,V9 hu,λm h H x y n o Q R f g w=>?_⟩;unfold zN at w;cases e:uB x y with
 |none=>
  simp only[e]at w;cases d:sM h x y with
  |none=>simp only[d]at w;exact w.elim|some b=>simp only[d]at w;obtain⟨a,c,i,j,q⟩:=Xs hK R f g d;exact .inr ⟨b,a,c,i,j,q,W.here w R (.bl _)⟩
 |some b=>simp only[e]at w;obtain⟨k,l⟩:=Xr f g e;exact .inl ⟨k,by rw[l];exact W.here w R<|.bl _⟩
theorem aAa(hK:X.K=T.K)(hu:X.A.units+12<cLine):dX X T E (dJ .NotEq) zR:=by
 refine⟨_,X3 hu,λm h H x y n o Q R f g w=>?_⟩;unfold zR at w;cases e:uB x y with
 |none=>
  simp only[e]at w;cases d:sM h x y with
  |none=>simp only[d]at w;exact w.elim|some b=>simp only[d]at w;obtain⟨a,c,i,j,q⟩:=Xs hK R f g d;exact .inr ⟨b,a,c,i,j,q,W.here w R (.bl _)⟩
 |some b=>simp only[e]at w;obtain⟨k,l⟩:=Xr f g e;exact .inl ⟨k,by rw[l];exact W.here w R<|.bl _⟩
theorem Aa(r:aW T Y H x x'):decide (x' = .aG)=nC x:=by cases r<;>simp[nC]
theorem Z4:dX X T E (dJ .Is) Ih:=by
 refine⟨_,W7,λc h H x y d f Q R a b w=>?_⟩;unfold Ih at w;by_cases e:nC y=aB
 .rw[if_pos e]at w;rw[<- Aa b]at e;exact⟨of_decide_eq_true e,by rw[Aa a];exact W.here w R<|.bl _⟩
 .rw[if_neg e]at w;exact w.elim
theorem Z5:dX X T E (dJ .IsNot) Ii:=by
 refine⟨_,X6,λc h H x y d f Q R a b w=>?_⟩;unfold Ii at w;by_cases e:nC y=aB
 .rw[if_pos e]at w;rw[<- Aa b]at e;exact⟨of_decide_eq_true e,by rw[Aa a];exact W.here w R<|.bl _⟩
 .rw[if_neg e]at w;exact w.elim
theorem aOz:Ur X T E (Fb .USub) qx:=by
 refine⟨_,aOv,λb h H x c Q R a w=>?_⟩;cases x with
 |int i=>cases a;exact⟨i,rfl,W.here w R (.int _)⟩|_=>exact w.elim
theorem Jg{Y:Xx}{H:Hp}{x:AV}{x':V}(rx:aW T Y H x x')(fx:jL x=aB):∀{xs:Hr}{ys:Xw},bE T Y H xs ys->xs.all jL=aB->zw x' ys=gR x xs
 |_,_,.nil,_=>rfl|_,_,.cons h a,f=>by rw[jX,bT]at f;have:=Jg rx fx a f.2;unfold zw gR at this ⊢;rw[rV,rV,this,YY h rx f.1 fx]
theorem rB{m:Bool}(R:bR T Y h H)(e:h.ob n=aA (.lst m xs))(q:Y[n]?=aA a):∃ys,dM T.K H a ys/\bE T Y H xs ys:=by
 have r:=R.obj n _ a e q;cases m with
 |true=>obtain⟨ys,b,c⟩:=r;exact⟨ys,.of b,c⟩|false=>obtain⟨ys,b,c⟩:=r;exact⟨ys,b.sq,c⟩
theorem jg(R:bR T Y h H)(r:aW T Y H x x')(e:dW h x=aA xs):∃p ys,x' = .ref p/\(dM T.K H p ys\/eC T.K H p ys)/\bE T Y H xs ys:=by
 cases r with
 |tup b hr=>cases e;exact⟨_,_,rfl,.inr b,hr⟩|@ref n a q=>
  simp only[dW]at e;cases o:h.ob n with
  |none=>rw[o]at e;cases e|some u=>
   rw[o]at e;cases u with
   |lst m ys=>cases e;obtain⟨zs,d,f⟩:=rB R o q;exact⟨_,zs,rfl,.inl d,f⟩
   |aN g=>cases e|dF _=>cases e|ins c fs=>exact cJ e
 |_=>exact cJ e
inductive hX(T:Tab)(Y:Xx)(H:Hp):List (aP×AV)->List (aP×V)->Prop where
 |nil:hX T Y H [] []
 |cons {k:aP}{v:AV}{y:V}{xs:List (aP×AV)}{ys:List (aP×V)} (h:aW T Y H v y) (t:hX T Y H xs ys):hX T Y H ((k,v)::xs) ((k,y)::ys)
theorem Nk{Y:Xx}{H:Hp}:∀{kvs:List (aP×AV)}{ys:Xw},bE T Y H (kvs.map (·.2)) ys->hX T Y H kvs ((kvs.map (·.1)).zip ys)
 |[],_,.nil=>.nil
 | (k,v)::kvs,_,.cons h t=>.cons h (Nk t)
theorem aKa(r:hX T Y H kvs us):∃ys,us=(kvs.map (·.1)).zip ys/\bE T Y H (kvs.map (·.2)) ys:=by
 induction r with
 |nil=>exact⟨[],rfl,.nil⟩|cons h t a=>obtain⟨ys,e,r⟩:=a;exact⟨_::ys,by rw[e];rfl,.cons h r⟩
theorem GJ(r:hX T Y H kvs us):kvs.length=us.length:=by
 induction r with
 |nil=>rfl|cons h t a=>rw[jC,jC,a]
theorem bh{k:aP}(r:hX T Y H kvs us):(∀v,bL kvs k=aA v->∃y,fN us k=aA y/\aW T Y H v y)/\(bL kvs k=aD->fN us k=aD):=by
 induction r with
 |nil=>exact⟨(λv h=>cJ h),λ_=>rfl⟩|@cons b v y xs c h t d=>
  by_cases e:b=k
  .subst e;refine⟨λi a=>?_,λa=>?_⟩
   .simp[bL]at a;subst a;exact⟨y,by simp[fN],h⟩
   .simp[bL]at a
  .have f:bL ((b,v)::xs) k=bL xs k:=by simp[bL,e]
   have g:fN ((b,y)::c) k=fN c k:=by simp[fN,e]
   rw[f,g];exact d
theorem GL{k:aP}(r:hX T Y H kvs us):(fN us k).isSome=(bL kvs k).isSome:=by
 obtain⟨a,b⟩:=bh r;cases e:bL kvs k with
 |none=>rw[b e];rfl|some v=>obtain⟨y,c,_⟩:=a v e;rw[c];rfl
theorem aJy{k:aP}(r:hX T Y H kvs us):(kvs.any λkv=>decide (kv.1=k))=us.any λkv=>decide (kv.1=k):=by
 induction r with
 |nil=>rfl|cons h t a=>rw[rV,rV,a]
theorem aJz{k:aP}{y:V}(r:hX T Y H kvs us)(h:aW T Y H v y):hX T Y H (kvs++[(k,v)]) (us++[(k,y)]):=by
 induction r with
 |nil=>exact .cons h .nil|cons a t b=>exact .cons a b
theorem aKc{k:aP}{y:V}(r:hX T Y H kvs us)(h:aW T Y H v y):hX T Y H (kvs.map λkv=>if kv.1=k then(kv.1,v) else kv) (us.map λkv=>if kv.1=k then(kv.1,y) else kv):=by
 induction r with
 |nil=>exact .nil|@cons b d f xs g c t a=>
  by_cases e:b=k
  .simp only[iH,e];exact .cons h a
  .simp only[iH,e];exact .cons c a
theorem GK{k:aP}{y:V}(r:hX T Y H kvs us)(h:aW T Y H v y):hX T Y H (gT kvs k v) (putK us k y):=by
 unfold gT putK;rw[aJy r];split
 .exact aKc r h
 .exact aJz r h
theorem aKb{k:aP}(r:hX T Y H kvs us):hX T Y H (uA kvs k) (sL us k):=by
 induction r with
 |nil=>exact .nil|@cons b d f xs g c t a=>
  unfold uA sL;by_cases e:b=k
  .simp only[jB,e,ne_eq];exact a
  .simp only[jB,e,ne_eq];exact .cons c a
theorem hX.ext{Y Y':Xx}{H H':Hp}{kvs:List (aP×AV)}{us:List (aP×V)}(r:hX T Y H kvs us)(e:Ext Y H Y' H'):hX T Y' H' kvs us:=by
 induction r with
 |nil=>exact .nil|cons h t a=>exact .cons (h.ext e) a
theorem wV(R:bR T Y h H)(r:aW T Y H x x')(e:gE h x=aA kvs):∃n a us,x = .ref n/\Y[n]?=aA a/\h.ob n=aA (.aN kvs)/\x' = .ref a/\H a=aA (.dK us)/\hX T Y H kvs us:=by
 cases r with
 |@ref n a q=>
  simp only[gE]at e;cases o:h.ob n with
  |none=>rw[o]at e;cases e|some u=>
   rw[o]at e;cases u with
   |aN b=>cases e;obtain⟨f,g,c,rfl,d⟩:=R.obj n _ a o q;exact⟨n,a,_,rfl,q,o,rfl,c,Nk d⟩
   |_=>exact cJ e
 |_=>exact cJ e
theorem YA(R:bR T Y h H)(r:aW T Y H x x')(e:yY h x=aA kvs):∃a us,x' = .ref a/\Rd H a (.dK us)/\hX T Y H kvs us:=by
 cases r with
 |@ref n a q=>
  simp only[yY]at e;cases o:h.ob n with
  |none=>rw[o]at e;cases e|some u=>
   rw[o]at e;cases u with
   |dF b=>cases e;obtain⟨ob,f,g,c,rfl,d⟩:=R.obj n _ a o q;exact⟨a,_,rfl,.inr ⟨ob,c⟩,Nk d⟩
   |_=>exact cJ e
 |_=>exact cJ e
theorem He(e:H a=aA (.dK us))(r:hX T Y H kvs us):nW T Y H a (.aN kvs):=by obtain⟨b,c,d⟩:=aKa r;subst c;exact⟨_,b,e,rfl,d⟩
theorem sT{k:aP}(r:aW T Y H x x')(e:eZ x=aA k):x'=kV k:=by cases r<;>simp[eZ]at e<;>(subst e)<;>rfl
include hK in
theorem Z3
   :dX X T E (dJ .In) (uJ aH):=by
  refine⟨_,W6,λY h H x y x' y' Q R a c w=>?_⟩;unfold uJ at w;cases e:dW h y with
  |none=>rw[e]at w;cases w
  |some xs=>
    rw[e]at w;by_cases f:(jL x&&xs.all jL)=aB
    · simp only[if_pos f]at w
      rw[bT]at f;obtain⟨p,d,g,h1,b⟩:=jg R c e;refine⟨p,d,g,hK▸h1,Hy a f.1,Hz b f.2,?_⟩;rw[Jg a f.1 b f.2];exact w.here R<|.bl _
    · simp only[if_neg f]at w
      exact w.elim
include hK in
theorem aAc:dX X T E (dJ .NotIn) (uJ aB):=by
 refine⟨_,X5,λY h H x y x' y' Q R a c w=>?_⟩;unfold uJ at w;cases e:dW h y with
 |none=>rw[e]at w;cases w
 |some xs=>
  rw[e]at w;by_cases f:(jL x&&xs.all jL)=aB
  .simp only[if_pos f]at w;rw[bT]at f;obtain⟨p,d,g,h1,b⟩:=jg R c e;refine⟨p,d,g,hK▸h1,Hy a f.1,Hz b f.2,?_⟩;rw[Jg a f.1 b f.2];exact w.here R<|.bl _
  .simp only[if_neg f]at w;exact w.elim
theorem PF(r:bE T Y H xs ys)(e:cN xs i=aA v):∃v',cN ys i=aA v'/\aW T Y H v v':=by
 unfold cN at e ⊢;rw[<- r.length];cases q:jS xs.length i with
 |none=>rw[q]at e;cases e|some j=>rw[q]at e;exact r.get e
include hK in
theorem J0:xa X T E gr:=by
 refine⟨_,H9,λY h H x y f y' Q R g ry w=>?_⟩;cases y with
 |int i=>
  cases ry;have a:∀xs v,dW h x=aA xs->cN xs i=aA v->(W T (aW T) (.ok v h) Y H Q E)->Ng X.K f (.int i) H Q:=λxs v e1 e2 w=>by
   obtain⟨p,k,rfl,hq,hr⟩:=jg R g e1;obtain⟨l,m,rv⟩:=PF hr e2;rcases hq with hq|hq
   .exact .inl ⟨p,k,i,l,rfl,rfl,hK▸hq,m,w.here R rv⟩
   .exact .inr<|.inl ⟨p,k,i,l,rfl,rfl,hK▸hq,m,w.here R rv⟩
  have go:(match (dW h x).bind λxs=>cN xs i with
   |some v=>Res.ok v h
   |none=>Res.bad)=gr x (.int i) h->Ng X.K f (.int i) H Q:=λe=>by
    rw[<- e]at w;cases s:dW h x with
    |none=>rw[s]at w;cases w|some xs=>
     rw[s]at w;simp only[jP]at w;cases q:cN xs i with
     |none=>rw[q]at w;cases w|some v=>rw[q]at w;exact a xs v s q w
  cases x with
  |str z=>
   cases g;simp only[gr]at w;by_cases d:z.length<=sizeLine
   .rw[if_pos d]at w;cases q:cN z.cps.toList i with
    |none=>rw[q]at w;cases w|some c=>rw[q]at w;exact .inr<|.inr ⟨z,i,c,rfl,rfl,d,q,w.here R (.str _)⟩
   .rw[if_neg d]at w;cases w
  |aG=>exact go rfl|bl b=>exact go rfl|int j=>exact go rfl|tup xs=>exact go rfl|ref n=>exact go rfl|lF n=>exact go rfl
 |_=>exact w.elim
include hK in
theorem Z2(hu:X.A.units+1<cLine):dX X T E (dJ .In) (nB aH):=by
 obtain⟨r0,p0,e⟩:=(Z3 hK:dX X T E (dJ .In) (uJ aH));refine⟨_,p0.or (W5 hu),λf h H x y x' y' Q R b c w=>?_⟩;unfold nB at w;cases d:gE h y with
 |none=>simp only[d]at w;exact .inl<|e f h H _ _ _ _ Q R b c w|some i=>
  simp only[d]at w;cases k:eZ x with
  |none=>simp only[k]at w;exact w.elim|some k'=>simp only[k]at w;obtain⟨n,a,us,rfl,_,_,rfl,g,r⟩:=wV R c d;refine .inr ⟨a,_,rfl,(sT b k)▸lR.k g,?_⟩;rw[GL r];exact W.here w R<|.bl _
include hK in
theorem aAb(hu:X.A.units+1<cLine):dX X T E (dJ .NotIn) (nB aB):=by
 obtain⟨r0,p0,e⟩:=(aAc hK:dX X T E (dJ .NotIn) (uJ aB));refine⟨_,p0.or (X4 hu),λf h H x y x' y' Q R b c w=>?_⟩;unfold nB at w;cases d:gE h y with
 |none=>simp only[d]at w;exact .inl<|e f h H _ _ _ _ Q R b c w|some i=>
  simp only[d]at w;cases k:eZ x with
  |none=>simp only[k]at w;exact w.elim|some k'=>simp only[k]at w;obtain⟨n,a,us,rfl,_,_,rfl,g,r⟩:=wV R c d;refine .inr ⟨a,_,rfl,(sT b k)▸lR.k g,?_⟩;rw[GL r];exact W.here w R<|.bl _
include hK in
theorem I9(hu:X.A.units+1<cLine):xa X T E uK:=by
 obtain⟨r0,p0,q0⟩:=(J0 hK:xa X T E gr);refine⟨_,p0.or (G9 hu),λY h H x y x' y' Q R f i w=>?_⟩;unfold uK at w;cases d:gE h x with
 |none=>
  simp only[d]at w;unfold zi at w;cases d2:yY h x with
  |none=>simp only[d2]at w;exact .inl<|q0 Y h H _ _ _ _ Q R f i w|some b=>
   simp only[d2]at w;cases k:eZ y with
   |none=>simp only[k]at w;exact w.elim|some e=>
    simp only[k,jP]at w;cases l:bL b e with
    |none=>simp only[l]at w;exact w.elim|some v=>simp only[l]at w;obtain⟨a,us,rfl,g,r⟩:=YA R f d2;obtain⟨j,l2,c⟩:=(bh r).1 v l;refine .inr ⟨a,j,rfl,?_,W.here w R c⟩;rw[sT i k,<- l2];exact .inl ⟨us,e,g,rfl,rfl⟩
 |some b=>
  simp only[d]at w;cases k:eZ y with
  |none=>simp only[k]at w;exact w.elim|some e=>
   simp only[k,jP]at w;cases l:bL b e with
   |none=>simp only[l]at w;exact w.elim|some v=>simp only[l]at w;obtain⟨n,a,us,rfl,_,_,rfl,g,r⟩:=wV R f d;obtain⟨j,l2,c⟩:=(bh r).1 v l;refine .inr ⟨a,j,rfl,?_,W.here w R c⟩;rw[sT i k,<- l2];exact lR.k g
def aJk(K:bJ):R2:=λx y H Q=>∃a b ys,x = .ref a/\y = .ref b/\eC K H a []/\eC K H b ys/\Q (.ref b) H
theorem V7:cV X (eV .Add) (aJk X.K):=by
 intro ap s A H x y v u Q I l m h;obtain⟨a,b,B,rfl,rfl,ha,hb,q⟩:=h;cases l;cases m;obtain⟨o,p,r,_⟩:=I.tuple ha;obtain⟨i,C,t,_⟩:=I.tuple hb;cases p;obtain⟨⟨cls,dd,data,sl⟩,j,w,n,hd⟩:=id r;obtain⟨⟨k,d,data2,e⟩,c,f,z,g⟩:=id t;subst w hd f g;exact Tb ⟨_,j,rfl⟩ ⟨_,c,rfl⟩ Th Tl Sb Rz (Ry _ _)
  (tuple_addW0 a b _ _ n z dd d sl e<|rfl) ⟨j,c,⟨.ref b,H,I,rfl,q⟩⟩
include hK in
theorem Y5:dX X T E (eV .Add) Zf:=by
 refine⟨_,V2.or (V3.or<|V6.or<|V7.or V5),λY h H x y x' y' Q R u v w=>?_⟩;cases x with
 |int i=>
  cases y with
  |int j=>cases u;cases v;exact .inl ⟨i,j,rfl,rfl,W.here w R (.int _)⟩|_=>cases w
 |str i=>
  cases y with
  |str j=>cases u;cases v;obtain⟨A,w⟩:=zV w;exact .inr<|.inl ⟨i,j,rfl,rfl,A,W.here w R (.str _)⟩
  |_=>cases w
 |tup xs=>
  cases y with
  |tup c=>
   obtain⟨h2,w⟩:=zV w;cases u with
   |@tup a _ d hq hr=>
    cases v with
    |@tup b _ f g l=>
     have l1:=hr.length;have l2:=l.length;by_cases h1:xs.length=0
     .have s:=Dp h1;subst s;have s:=Dp l1.symm;subst s;exact .inr<|.inr<|.inr<|.inl ⟨a,b,f,rfl,rfl,hK▸hq,hK▸g,W.here w R (.tup g l)⟩
     refine .inr<|.inr<|.inl ⟨a,b,d,f,rfl,rfl,hK▸hq,hK▸g,λz=>?_,by omega,λz=>?_,λz p o=>?_⟩
     .rw[z]at l1;exact h1 l1
     .subst z;have s:c=[]:=by cases c with|nil=>rfl|cons _ _=>cases l2
      subst s;rw[jY]at w;exact W.here w R<|.tup hq hr
     .exact W.ok w (.jN o) (R.keep o)<|.tup (.of gG)<|((hr.append l).ext (.jN o))
  |_=>cases w
 |ref n=>
  cases y with
  |ref m=>
   cases u with
   |@ref _ a q=>
    cases v with
    |@ref _ b q2=>
     have go:∀xs c,h.ob n=aA (.lst aB xs)->h.ob m=aA (.lst aB c)->W T (aW T) (if xs.length+c.length<=sizeLine then .ok (.ref h.nx) (h.new<|.lst aB<|xs++c) else .bad) Y H Q E->FN (.ref a) (.ref b) H Q:=λxs c r t w=>by
      by_cases A:xs.length+c.length<=sizeLine
      .rw[if_pos A]at w;obtain⟨d,g1,r1⟩:=R.obj n _ a r q;obtain⟨f,g2,r2⟩:=R.obj m _ b t q2;have l1:=r1.length;have l2:=r2.length;refine⟨a,b,d,f,rfl,rfl,g1,g2,by omega,λp o=>?_⟩;have ho:nW T (Y++[p]) (bG H p<|.lst<|d++f) p (.lst aB<|xs++c):=⟨_,gG,(r1.append r2).ext ⟨λk z e=>by rw[rW ((List.getElem?_eq_some_iff.mp e).1)];exact e,(Ext.jN (Y:=Y) o).tup,(Ext.jN (Y:=Y) o).dD⟩⟩
       obtain⟨R',ex⟩:=R.alloc o ho;exact W.ok w ex R'<|.ref (by rw[<- R.len];simp)
      .rw[if_neg A]at w;cases w
     refine .inr<|.inr<|.inr<|.inr ?_;replace w:W T (aW T) (ql n m h) Y H Q E:=w
     unfold ql at w;cases r:ag h n with
     |none=>rw[r]at w;cases w|some xs=>
      cases t:ag h m with
      |none=>rw[r,t]at w;cases w|some c=>rw[r,t]at w;exact go xs c (CI r) (CI t) w
  |_=>cases w
 |_=>cases w
theorem ID(hK:X.K=T.K)(R:bR T Y h H)(r:aW T Y H x x')(e:jo h x=aA b):yQ X.K x' H b:=by
 have emp:∀{xs:Hr}{d:Xw},bE T Y H xs d->(!xs.isEmpty) = !d.isEmpty:=λr=>by cases r<;>rfl
 cases r with
 |aG=>cases e;rfl|bl c=>cases e;rfl|int i=>cases e;rfl|str y=>
  simp only[jo]at e;by_cases f:y.length<=sizeLine
  .rw[if_pos f]at e;cases e;exact⟨f,rfl⟩
  .rw[if_neg f]at e;exact cJ e
 |tup l hr=>cases e;exact .inr<|.inl ⟨_,hK▸l,emp hr⟩|@ref n a q=>
  simp only[jo]at e;cases o:h.ob n with
  |none=>rw[o]at e;cases e|some u=>
   rw[o]at e;cases u with
   |lst m d=>cases e;obtain⟨zs,g,j⟩:=rB R o q;exact .inl ⟨zs,hK▸g,emp j⟩
   |aN k=>
    cases e;obtain⟨t,d,g,j,s⟩:=R.obj n _ a o q;refine .inr<|.inr ⟨_,g,?_⟩;subst j;cases k with
    |nil=>rfl|cons p r=>cases s;rfl
   |dF _=>cases e|ins c fs=>exact cJ e
 |lF q=>cases e
end
def uL(i:Nat):aF->M AV:=λZ h=>match Z[i]? with
 |some (aA v)=>.ok v h
 |_=>.bad
def Uv(m k:M AV):M AV:=m.bind λx=>(dH x).bind λb=>if b=aB then k else M.ret x
def DE(m k:M AV):M AV:=m.bind λx=>(dH x).bind λb=>if b=aB then M.ret x else k
def Uu(m k:M Bool):M Bool:=m.bind λb=>if b=aB then k else M.ret aH
def DD(m k:M Bool):M Bool:=m.bind λb=>if b=aB then M.ret aB else k
def Ab{α:Type}(c:M Bool)(a b:M α):M α:=c.bind λt=>if t=aB then a else b
def sG:AV->Option Bool
 |.bl b=>aA b
 |_=>aD
def gc(g g':AV->AV->M AV)(a b c:M AV):M AV:=a.bind λx=>b.bind λy=>(g x y).bind λz h=>match sG z with
 |some aB=>(c.bind λw=>g' y w) h
 |some aH=>.ok (.bl aH) h
 |none=>.bad
def Wu(a:M AV)(r:M Hr):M Hr:=a.bind λx=>r.bind λxs=>M.ret (x::xs)
def Oo(r:M Hr):M AV:=r.bind λxs=>M.guard (xs.length<=sizeLine) (M.ret<|.tup xs)
def kB(xs:Hr):M AV:=λh=>.ok (.ref h.nx) (h.new<|.lst aB xs)
def uR(r:M Hr):M AV:=r.bind λxs=>M.guard (xs.length<=sizeLine) (kB xs)
def uS(g:AV->AV->M AV)(a b:M AV):M AV:=a.bind λx=>b.bind λy=>g x y
def bY:aK->Bool
 |.Name ..=>aB | .Constant ..=>aB | .BinOp ..=>aB | .UnaryOp ..=>aB | .Compare ..=>aB | .BoolOp ..=>aB | .IfExp ..=>aB
 |.Tuple ..=>aB | .List ..=>aB | .Subscript ..=>aB | .Call ..=>aB | .Attribute ..=>aB | .ListComp ..=>aB
 |.Dict ..=>aB
 |_=>aH
def uP:aK->Bool
 |.ListComp ..=>aB
 |_=>aH
def tq:aK->Bool
 |.Name ..=>aB | .Constant ..=>aB | .BinOp ..=>aB | .Subscript ..=>aB | .Call ..=>aB | .Attribute ..=>aB | .Tuple ..=>aB | .List ..=>aB | .ListComp ..=>aB
 |.Dict ..=>aB
 |_=>aH
theorem fE(h:bY e=aB):eF (e::es) env=(aH,eval e env)::eF es env:=by cases e<;>first|rfl|exact ff h
theorem aKr(h:bY e=aB):Fq e:=λo i=>by cases e<;>first|rfl|exact ff h
theorem GX{t:Option aK}(h:bY e=aB)(hl:uP e=aH):vX e t n env=pure aH:=by cases e<;>first|rfl|(cases hl;done)|(cases h;done)
theorem Nu{x:Value}(h:bY e=aB):Ew e env x=pure x:=by cases e<;>first|rfl|exact ff h
theorem Bq{op:pE}(h:bY e=aB):wa op e=aH:=by cases e<;>first|rfl|exact ff h
theorem aCh(h:tq e=aB):∀whole,isTrue e env whole=(do let v <- whole;Fa e.pos;mx [v] (truthy v)):=λ_=>by cases e<;>first|rfl|exact ff h
theorem tH(h:es.all bY=aB):(lQ pos<|eF es env).any (·.1)=aH:=by
 induction es with
 |nil=>rfl|cons e es a=>rw[jX,bT]at h;rw[fE h.1];have:=a h.2;simp only[lQ]at this ⊢;exact this
section
variable {a b:aK}{mt mu:aF->M Bool}
theorem aFd{i:Nat}{x:Str} (hN:X.N[i]?=aA x) (hv:ot X.env.scope x) (hd:(x==("__debug__":Str))=aH) (hcd:(x==("__classdict__":Str))=aH):QE X T E (.Name x pos) (uL i):=by
 refine⟨_,aBk hN hv hd hcd,λe a b h H Q R S w=>?_⟩;unfold uL at w;cases q:a[i]? with
 |none=>rw[q]at w;exact w.elim|some o=>
  cases o with
  |none=>rw[q]at w;exact w.elim|some v=>rw[q]at w;obtain⟨c,d,r⟩:=S.2 i v q;exact⟨c,d,w.here R r⟩
theorem uU{v':V}(hp:PE X e (tC v'))(r:∀Y H,aW T Y H v v'):QE X T E e (λ_=>M.ret v):=
 ⟨_,hp,λY _ _ h H Q R _ w=>W.here w R (r Y H)⟩
theorem EH:QE X T E e (λ_=>M.bad):=⟨λ_ _ _=>False,λ_ _ _ _ _ _ h=>h.elim,λ_ _ _ _ _ _ _ _ w=>w⟩
theorem Nb:QT X T E e (λ_=>M.bad):=⟨λ_ _ _=>False,λ_ _ _ _ _ _ h=>h.elim,λ_ _ _ _ _ _ _ _ w=>w⟩
theorem jq{α β:Type}{Rp:Rl α β}{ta:TE}(ra:∀Y Z Z' h H Q,bR T Y h H->cW T Y H Z Z'->W T (aW T) (ma Z h) Y H Q E->ta Z' H Q)(rb:∀Y Z Z' h H Q,bR T Y h H->cW T Y H Z Z'->W T (aW T) (mb Z h) Y H Q E->tb Z' H Q){g:AV->AV->M α}{Q:β->Hp->Prop}{F:V->V->Hp->Prop}(R:bR T Y h H)(S:cW T Y H Z Z')(w:W T Rp ((ma Z).bind (λx=>(mb Z).bind λy=>g x y) h) Y H Q E)
  (f:∀Y2 x y x' y' h2 H2,Ext Y H Y2 H2->bR T Y2 h2 H2->aW T Y2 H2 x x'->aW T Y2 H2 y y'->cW T Y2 H2 Z Z'->W T Rp (g x y h2) Y2 H2 Q E->F x' y' H2):ta Z' H λx H1=>tb Z' H1 λy H2=>F x y H2:=
 ra Y Z Z' h H _ R S (W.bind w λa x x' d H1 b e i w1=>rb a Z Z' d H1 _ e (S.ext b) (W.bind w1 λY2 y y' h2 H2 c R2 j w2=>f Y2 x y x' y' h2 H2 (b.trans c) R2 (i.ext c) j ((S.ext b).ext c) w2))
theorem aEv{op:rZ}{g:AV->AV->M AV}(ho:dX X T E (eV op) g)(ha:QE X T E a ma)(hb:QE X T E b mb):QE X T E (.BinOp a op b pos) (λZ=>uS g (ma Z) (mb Z)):=by obtain⟨r,hr,d⟩:=ho;obtain⟨ta,pa,e⟩:=ha;obtain⟨tb,f,i⟩:=hb;exact⟨_,aBe hr pa f,λq Z j h H Q R S w=>jq e i R S w λc x y k l m n _ R2 o p _ w2=>d c m n x y k l Q R2 o p w2⟩
theorem aEn{g:AV->AV->M AV}(ho:xa X T E g)(ha:QE X T E a ma)(hb:QE X T E b mb)(hs:Fq b):QE X T E (.Subscript a b pos) (λZ=>uS g (ma Z) (mb Z)):=by obtain⟨r,hr,d⟩:=ho;obtain⟨ta,pa,e⟩:=ha;obtain⟨tb,f,i⟩:=hb;exact⟨_,aAw hr pa f hs,λq Z j h H Q R S w=>jq e i R S w λc x y k l m n _ R2 o p _ w2=>d c m n x y k l Q R2 o p w2⟩
theorem aEg{op:pE}{g:AV->AV->M AV}(ho:dX X T E (dJ op) g)(ha:QE X T E a ma)(hb:QE X T E b mb)(hm:wa op b=aH):QE X T E (.Compare a [op] [b] pos) (λZ=>uS g (ma Z) (mb Z)):=by obtain⟨r,hr,d⟩:=ho;obtain⟨ta,pa,e⟩:=ha;obtain⟨tb,f,i⟩:=hb;exact⟨_,aAq hr pa f hm,λq Z j h H Q R S w=>jq e i R S w λc x y k l m n _ R2 o p _ w2=>d c m n x y k l Q R2 o p w2⟩
theorem aFc{op:PySem.UnaryOp}{g:AV->M AV}(ho:Ur X T E (Fb op) g)(ha:QE X T E a ma):QE X T E (.UnaryOp op a pos) (λZ=>(ma Z).bind g):=by obtain⟨r,hr,d⟩:=ho;obtain⟨ta,pa,e⟩:=ha;exact⟨_,aBj hr pa,λf Z b h H Q R S w=>e f Z b h H _ R S (W.bind w λc x i j H1 m k l w1=>d c j H1 x i Q k l w1)⟩
theorem Ik(hK:X.K=T.K){γ δ:Type}{Rq:Rl γ δ}{k:Bool->M γ}{Q:δ->Hp->Prop}(R:bR T Y h H)(r:aW T Y H x x')(w:W T Rq ((dH x).bind k h) Y H Q E) :
  ∃d,yQ X.K x' H d/\W T Rq (k d h) Y H Q E:=by
 unfold M.bind dH at w;cases e:jo h x with
 |none=>rw[e]at w;cases w|some d=>rw[e]at w;exact⟨d,ID hK R r e,w⟩
theorem aEk(hc:QT X T E c mt)(ha:QE X T E a ma)(hb:QE X T E b mb):QE X T E (.IfExp c a b pos) (λZ=>Ab (mt Z) (ma Z) (mb Z)):=by
 obtain⟨r,pc,rc⟩:=hc;obtain⟨ta,pa,l⟩:=ha;obtain⟨tb,m,n⟩:=hb;refine⟨_,aAv pc pa m,λo Z e h H Q R S w=>rc o Z e h H _ R S (W.bind w λf d p i H1 j k q w1=>?_)⟩;have g:=q;subst g;cases d with
 |true=>exact l f Z e i H1 Q k (S.ext j) w1|false=>exact n f Z e i H1 Q k (S.ext j) w1
def aMo(K:bJ)(ta tb:TE):TE:=λZ H Q=>ta Z H λx H1=>∃c,yQ K x H1 c/\if c=aB then tb Z H1 Q else Q x H1
def aNe(K:bJ)(ta tb:TE):TE:=λZ H Q=>ta Z H λx H1=>∃c,yQ K x H1 c/\if c=aB then Q x H1 else tb Z H1 Q
def aNd(K:bJ)(ta:TE):TE:=λZ H Q=>ta Z H λx H1=>∃c,yQ K x H1 c/\Q (.bl<|!c) H1
variable {ta:TE}{rest:List aK}
theorem aAj(ha:PE X a ta)(hb:PE X (.BoolOp .And (b::rest) pos) tb):PE X (.BoolOp .And (a::b::rest) pos) (aMo X.K ta tb):=by
 intro ap s f H Q I h;refine BoolOp_and<|bC (ha ap s f H _ I h) λv s1 k=>?_;obtain⟨x,H1,l,g,c,ht,i⟩:=k;refine bC (Cb ap s1 f H1 x v (λd e=>d=c/\e=H1) l g ⟨c,ht,rfl,rfl⟩) λd s2 ⟨e,j,m,n⟩=>?_;subst m;subst n;cases d with
 |true=>exact hb ap s2 f e Q j i|false=>exact⟨x,e,j,g,i⟩
theorem aBf(ha:PE X a ta)(hb:PE X (.BoolOp .Or (b::rest) pos) tb):PE X (.BoolOp .Or (a::b::rest) pos) (aNe X.K ta tb):=by
 intro ap s f H Q I h;refine BoolOp_or<|bC (ha ap s f H _ I h) λv s1 k=>?_;obtain⟨x,H1,l,g,c,ht,i⟩:=k;refine bC (Cb ap s1 f H1 x v (λd e=>d=c/\e=H1) l g ⟨c,ht,rfl,rfl⟩) λd s2 ⟨e,j,m,n⟩=>?_;subst m;subst n;cases d with
 |false=>exact hb ap s2 f e Q j i|true=>exact⟨x,e,j,g,i⟩
theorem aBc(ha:PE X a ta):PE X (.UnaryOp .Not a pos) (aNd X.K ta):=by intro ap s e H Q I h;refine UnaryOp_<|bC (ha ap s e H _ I h) λv s1 f=>?_;obtain⟨x,H1,g,i,c,ht,j⟩:=f;refine not_of<|bC (Cb ap s1 e H1 x v (λd b=>d=c/\b=H1) g i ⟨c,ht,rfl,rfl⟩) λd s2 ⟨b,k,l,m⟩=>?_;subst l;subst m;exact⟨.bl (!d),b,k,rfl,j⟩
theorem EK{op:PySem.BoolOp}(ha:QE X T E a ma):QE X T E (.BoolOp op [a] pos) ma:=let ⟨t,p,r⟩:=ha;⟨t,aBd p,r⟩
theorem aDx(hK:X.K=T.K)(ha:QE X T E a ma)(hb:QE X T E (.BoolOp .And (b::rest) pos) mb):QE X T E (.BoolOp .And (a::b::rest) pos) (λZ=>Uv (ma Z) (mb Z)):=by
 obtain⟨ta,pa,i⟩:=ha;obtain⟨tb,j,k⟩:=hb;refine⟨_,aAj pa j,λl Z c h H Q R S w=>i l Z c h H _ R S (W.bind w λe x o m H1 n f g w1=>?_)⟩;obtain⟨d,td,w2⟩:=Ik hK f g w1;refine⟨d,td,?_⟩;cases d with
 |true=>exact k e Z c m H1 Q f (S.ext n) w2|false=>exact W.here w2 f g
theorem aEw(hK:X.K=T.K)(ha:QE X T E a ma)(hb:QE X T E (.BoolOp .Or (b::rest) pos) mb):QE X T E (.BoolOp .Or (a::b::rest) pos) (λZ=>DE (ma Z) (mb Z)):=by
 obtain⟨ta,pa,i⟩:=ha;obtain⟨tb,j,k⟩:=hb;refine⟨_,aBf pa j,λl Z c h H Q R S w=>i l Z c h H _ R S (W.bind w λe x o m H1 n f g w1=>?_)⟩;obtain⟨d,td,w2⟩:=Ik hK f g w1;refine⟨d,td,?_⟩;cases d with
 |false=>exact k e Z c m H1 Q f (S.ext n) w2|true=>exact W.here w2 f g
theorem aEu(hK:X.K=T.K)(ha:QE X T E a ma):QE X T E (.UnaryOp .Not a pos) (λZ=>(ma Z).bind λx=>(dH x).bind λb=>M.ret (.bl<|!b)):=by obtain⟨ta,pa,f⟩:=ha;refine⟨_,aBc pa,λg Z c h H Q R S w=>f g Z c h H _ R S (W.bind w λi x k l H1 m e j w1=>?_)⟩;obtain⟨d,td,w2⟩:=Ik hK e j w1;exact⟨d,td,W.here w2 e (.bl _)⟩
theorem Wd{r r':R2}{g:AV->AV->M AV}{tc:TE}
  (hg:∀Y h H x y x' y' Q,bR T Y h H->aW T Y H x x'->aW T Y H y y'->W T (aW T) (g x y h) Y H Q E->r x' y' H Q)
  (hg':∀Y h H x y x' y' Q,bR T Y h H->aW T Y H x x'->aW T Y H y y'->W T (aW T) (g' x y h) Y H Q E->r' x' y' H Q)
  (ra:∀Y Z Z' h H Q,bR T Y h H->cW T Y H Z Z'->W T (aW T) (ma Z h) Y H Q E->ta Z' H Q)(rb:∀Y Z Z' h H Q,bR T Y h H->cW T Y H Z Z'->W T (aW T) (mb Z h) Y H Q E->tb Z' H Q)
  (rc:∀Y Z Z' h H Q,bR T Y h H->cW T Y H Z Z'->W T (aW T) (mc Z h) Y H Q E->tc Z' H Q)(R:bR T Y h H)(S:cW T Y H Z Z')
  (w:W T (aW T) (gc g g' (ma Z) (mb Z) (mc Z) h) Y H Q E):Of r r' ta tb tc Z' H Q:=by
 refine jq ra rb R S w λb x y x' y' m n _ R2 o i p w2=>?_;refine hg b m n x y x' y' _ R2 o i<|W.bind w2 λa z F c j k l q w3=>?_;have e:W T (aW T) (match sG z with
  |some aB=>((mc Z).bind λw=>g' y w) c
  |some aH=>Res.ok (.bl aH) c
  |none=>.bad) a j Q E:=w3
 cases z with
 |bl d=>
  cases q;refine⟨d,rfl,?_⟩;cases d with
  |true=>exact rc a Z Z' c j _ l (p.ext k)<|W.bind e λf u s t v A B C D=>hg' f t v y u y' s Q B ((i.ext k).ext A) C D|false=>exact W.here e l<|.bl _
 |_=>exact e.elim
theorem aEe{op:pE}{g:AV->AV->M AV}(ho:dX X T E (dJ op) g)(ho':dX X T E (dJ op') g')(ha:QE X T E a ma)(hb:QE X T E b mb)(hc:QE X T E c mc)
  (hm:Ez [op,op'] [b,c]=aH):QE X T E (.Compare a [op,op'] [b,c] pos) (λZ=>gc g g' (ma Z) (mb Z) (mc Z)):=by
 obtain⟨r,hr,f⟩:=ho;obtain⟨m,d,e⟩:=ho';obtain⟨ta,pa,i⟩:=ha;obtain⟨tb,j,k⟩:=hb;obtain⟨n,pc,rc⟩:=hc;exact⟨_,aAp hr d pa j pc hm,λo Z l h H Q R S w=>Wd f e i k rc R S w⟩
theorem rN(hK:X.K=T.K)(ha:QE X T E a ma)(he:tq a=aB):QT X T E a (λZ=>(ma Z).bind dH):=by
 obtain⟨ta,pa,f⟩:=ha;refine⟨_,aDn pa (aCh he),λg Z b h H Q R S w=>f g Z b h H _ R S (W.bind w λi x l j H1 m c k w1=>?_)⟩;unfold dH at w1;cases e:jo j x with
 |none=>rw[e]at w1;cases w1|some d=>rw[e]at w1;exact⟨d,ID hK c k e,w1.here c rfl⟩
theorem Vy{z:AV}{z':V}{Q:Bool->Hp->Prop}(R:bR T Y h H)(r:aW T Y H z z')(w:W T RB (match sG z with
  |some d=>Res.ok d h
  |none=>.bad) Y H Q E):∃k,z' = .bl k/\Q k H:=by
 cases z with
 |bl d=>cases r;exact⟨d,rfl,W.here w R rfl⟩|_=>exact w.elim
def yy(z:AV):M Bool:=λh=>match sG z with
 |some d=>.ok d h
 |none=>.bad
theorem aIv{op:pE}{g:AV->AV->M AV}(ho:dX X T E (dJ op) g)(ha:QE X T E a ma)(hb:QE X T E b mb)(hm:wa op b=aH):QT X T E (.Compare a [op] [b] pos) (λZ=>(uS g (ma Z)<|mb Z).bind yy):=by obtain⟨r,hr,e⟩:=ho;obtain⟨ta,pa,f⟩:=ha;obtain⟨tb,i,j⟩:=hb;refine⟨_,aDl hr pa i hm,λl Z m h H Q R S w=>?_⟩;have n:W T (aW T) (uS g (ma Z) (mb Z) h) l H (λx o=>∃k,x = .bl k/\Q k o) E:=W.bind w λp z B C H1 D q c w1=>Vy q c w1;exact jq f j R S n λd x y s t u v _ R2 c A _ w2=>e d u v x y s t _ R2 c A w2
theorem aIu{op:pE}{g:AV->AV->M AV}(ho:dX X T E (dJ op) g)(ho':dX X T E (dJ op') g')(ha:QE X T E a ma)(hb:QE X T E b mb)(hc:QE X T E c mc)
  (hm:Ez [op,op'] [b,c]=aH):QT X T E (.Compare a [op,op'] [b,c] pos) (λZ=>(gc g g' (ma Z) (mb Z)<|mc Z).bind yy):=by
 obtain⟨r,hr,f⟩:=ho;obtain⟨u,d,e⟩:=ho';obtain⟨ta,pa,i⟩:=ha;obtain⟨tb,j,l⟩:=hb;obtain⟨v,pc,rc⟩:=hc;refine⟨_,aDk hr d pa j pc hm,λm Z n h H Q R S w=>?_⟩;have o:W T (aW T) (gc g g' (ma Z) (mb Z) (mc Z) h) m H (λx p=>∃k,x = .bl k/\Q k p) E:=W.bind w λq z y A H1 B s t w1=>Vy s t w1;exact Wd f e i l rc R S o
theorem aIw(ha:QT X T E a mt):QT X T E (.UnaryOp .Not a pos) (λZ=>(mt Z).bind λb=>M.ret (!b)):=by obtain⟨ta,pa,e⟩:=ha;refine⟨_,aDm pa,λf Z c h H Q R S w=>e f Z c h H _ R S (W.bind w λg x i l H1 m j k w1=>?_)⟩;have d:=k;subst d;exact W.here w1 j rfl
theorem aIy(ha:QT X T E a mt):QW X T E (.BoolOp .And [a] pos) mt:=let ⟨t,p,r⟩:=ha;⟨t,aDr p,r⟩
theorem aJa(ha:QT X T E a mt):QW X T E (.BoolOp .Or [a] pos) mt:=let ⟨t,p,r⟩:=ha;⟨t,aDu p,r⟩
theorem aIx(ha:QT X T E a mt)(hb:QW X T E (.BoolOp .And (b::rest) pos) mu):QW X T E (.BoolOp .And (a::b::rest) pos) (λZ=>Uu (mt Z) (mu Z)):=by
 obtain⟨ta,pa,g⟩:=ha;obtain⟨tb,i,j⟩:=hb;refine⟨_,aDq pa i,λk Z c h H Q R S w=>g k Z c h H _ R S (W.bind w λd x l m H1 n f o w1=>?_)⟩;have e:=o;subst e;cases x with
 |true=>exact j d Z c m H1 Q f (S.ext n) w1|false=>exact W.here w1 f rfl
theorem aIz(ha:QT X T E a mt)(hb:QW X T E (.BoolOp .Or (b::rest) pos) mu):QW X T E (.BoolOp .Or (a::b::rest) pos) (λZ=>DD (mt Z) (mu Z)):=by
 obtain⟨ta,pa,g⟩:=ha;obtain⟨tb,i,j⟩:=hb;refine⟨_,aDt pa i,λk Z c h H Q R S w=>g k Z c h H _ R S (W.bind w λd x l m H1 n f o w1=>?_)⟩;have e:=o;subst e;cases x with
 |true=>exact W.here w1 f rfl|false=>exact j d Z c m H1 Q f (S.ext n) w1
theorem aDw:QA X T E [] (λ_=>M.ret []):=⟨_,ao,λY _ _ h H Q R _ w=>W.here w R .nil⟩
theorem aDv(ha:QE X T E e m)(hr:QA X T E es mr)(hs:bY e=aB):QA X T E (e::es) (λZ=>Wu (m Z) (mr Z)):=by obtain⟨ta,pa,c⟩:=ha;obtain⟨tr,pr,d⟩:=hr;exact⟨_,xH pa pr (fE hs),λf Z a h H Q R S w=>c f Z a h H _ R S (W.bind w λb x q g H1 i j k w1=>d b Z a g H1 _ j (S.ext i) (W.bind w1 λl xs n r s o R2 p w2=>W.here w2 R2 (.cons (k.ext o) p)))⟩
theorem EB{p:Addr}(hp:H p=aD):Ext Y H (Y++[p]) (bG H p O):=⟨λk z e=>by rw[rW ((List.getElem?_eq_some_iff.mp e).1)];exact e,(Ext.jN (Y:=Y) hp).tup,(Ext.jN (Y:=Y) hp).dD⟩
theorem xG{p:Addr}(R:bR T Y h H)(r:bE T Y H xs gY)(hp:H p=aD)(w:W T (aW T) (kB xs h) Y H Q E):Q (.ref p) (bG H p<|.lst gY):=by obtain⟨a,ex⟩:=R.alloc (o:=.lst aB xs) hp ⟨_,gG,r.ext (EB hp)⟩;exact W.ok w ex a<|.ref (by rw[<- R.len];simp)
theorem Ao{p:Addr}(R:bR T Y h H)(r:bE T Y H xs gY)(hp:H p=aD)(w:W T (aW T) (.ok (.tup xs) h) Y H Q E):Q (.ref p) (bG H p<|.tup gY):=
 W.ok w (.jN hp) (R.keep hp) (.tup (.of gG)<|r.ext<|.jN hp)
theorem aFb{k:Nat}(h:QA X T E es mr):QE X T E (.Tuple es k pos) (λZ=>Oo (mr Z)):=by obtain⟨tr,pr,c⟩:=h;refine⟨_,aBi pr,λd Z a h H Q R S w=>c d Z a h H _ R S (W.bind w λe xs f l H1 m g b w1=>?_)⟩;obtain⟨i,w1⟩:=zV w1;exact⟨b.length▸i,λp j=>Ao g b j w1⟩
theorem aEo(h:QA X T E es mr):QE X T E (.List es pos) (λZ=>uR (mr Z)):=by obtain⟨tr,pr,c⟩:=h;refine⟨_,aAx pr,λd Z a h H Q R S w=>c d Z a h H _ R S (W.bind w λe xs f k H1 l g b w1=>?_)⟩;obtain⟨i,w1⟩:=zV w1;exact⟨b.length▸i,λp j=>xG g b j w1⟩
def tJ(T:Tab)(g:Hr->M AV):Sp:=λvs H Q E=>∃Y h args,bR T Y h H/\bE T Y H args vs/\W T (aW T) (g args h) Y H Q E
inductive Fn(X:Cx)(T:Tab)(E:XK)(x:Str)(g:Hr->M AV):Prop
 |mk (k:Nat) (f:Addr) (fd:eS) (ps:Yb) (_:iL X.prog X.w X.K X.mg X.base (kQ X.prog X.w) k f fd ps (tJ T g)) (_:fJ (k+1) X.A) (_:X.mg x=aA (.ref f)) (_:tP X.K (.ref f)=aB) (_:Binds X.K fd ps []) (_:sF (kQ X.prog X.w) X E):Fn X T E x g
theorem aEb{x:Str}{g:Hr->M AV}(F:Fn X T E x g)(hg:Gl X x)(hd:(x==("__debug__":Str))=aH):QE X T E (.Call (.Name x p) [] [] pos) (λ_=>g []):=by obtain⟨k,f,fd,ps,F,hr,hm,a,hb,b⟩:=F;exact⟨_,aAn F (hr.mono<|hA _) hg hm a hb .nil b hd,λc e d h H Q R S w=>⟨c,h,[],R,.nil,w⟩⟩
theorem aEa{x:Str}{g:Hr->M AV}(F:Fn X T E x g)(hg:Gl X x)(ha:QA X T E (e::es) mr)(hs:(e::es).all bY=aB)(hd:(x==("__debug__":Str))=aH):QE X T E (.Call (.Name x p) (e::es) [] pos) (λZ=>(mr Z).bind g):=by obtain⟨k,f,fd,ps,F,hr,hm,c,hb,d⟩:=F;obtain⟨tr,pr,i⟩:=ha;rw[jX,bT]at hs;refine⟨_,aAm F (hr.mono<|hA _) hg hm c hb .nil d pr hd (fE hs.1) (tH hs.2),λj Z a h H Q R S w=>i j Z a h H _ R S (W.bind w λb xs l m H1 q n o w1=>?_)⟩;rw[jY];exact⟨b,m,xs,n,o,w1⟩
theorem bE.flat{Y:Xx}{H:Hp}{xs:Hr}{ys:Xw}(r:bE T Y H xs ys):∀(k:Nat),bE T Y H (eN k xs).flatten (eN k ys).flatten
 |0=>.nil
 |k+1=>by exact r.append<|bE.flat r k
theorem Z9:dX X T E (eV .Mult) qw:=by
 obtain⟨r,p0,f⟩:=(sX X1 λ_ _ h=>R4 h:dX X T E (eV .Mult) (mJ rE (·*·)));refine⟨_,p0.or X9,λg h H x y s t Q R c d w=>?_⟩;cases x with
 |ref n=>
  refine .inr ?_;cases y with
  |int k=>
   cases d;cases c with
   |@ref _ a q=>
    simp only[qw]at w;cases o:h.ob n with
    |none=>simp only[o]at w;cases w|some u=>
     simp only[o]at w;cases u with
     |lst m xs=>
      cases m with
      |false=>cases w|true=>
       dsimp only at w;by_cases b:0<=k/\xs.length*k.toNat<=sizeLine/\k<2 ^ 63
       .rw[if_pos b]at w;obtain⟨i,j,e⟩:=R.obj n _ a o q;exact⟨a,k,i,rfl,rfl,j,by lia,b.2.2,by rw[<- e.length];exact b.2.1,λp l=>xG R (e.flat _) l w⟩
       .rw[if_neg b]at w;cases w
     |_=>cases w
  |_=>cases w
 |_=>exact .inl<|f g h H _ _ _ _ Q R c d w
end
inductive Out where
 |nx (Z:aF)|ret (v:AV)|brk (Z:aF)|cnt (Z:aF)
variable {body ms:aF->M Out}
inductive jQ where
 |nx (Z:L2.St)|ret (v:V)|brk (Z:L2.St)|cnt (Z:L2.St)
def RO(T:Tab):Rl Out jQ:=λY H a b=>match a,b with
 |.nx Z,.nx Z'=>cW T Y H Z Z'
 |.ret v,.ret v'=>aW T Y H v v'
 |.brk Z,.brk Z'=>cW T Y H Z Z'
 |.cnt Z,.cnt Z'=>cW T Y H Z Z'
 |_,_=>False
def nM(D:Ends):jQ->Hp->Prop
 |.nx Z=>D.nx Z
 |.ret v=>D.rt v
 |.brk Z=>D.bk Z
 |.cnt Z=>D.ct Z
def QS(X:Cx)(T:Tab)(E:XK)(st:Stmt)(m:aF->M Out):Prop:=
 ∃t,PS X st t/\∀Y Z Z' h H D,bR T Y h H->cW T Y H Z Z'->W T (RO T) (m Z h) Y H (nM D) E->t D Z' H
def wD(X:Cx)(T:Tab)(E:XK)(st:Xz)(m:aF->M Out):Prop:=
 ∃t,sE X st t/\∀Y Z Z' h H D,bR T Y h H->cW T Y H Z Z'->W T (RO T) (m Z h) Y H (nM D) E->t D Z' H
def QG(X:Cx)(T:Tab)(E:XK)(tg:aK)(g:AV->aF->M aF):Prop:=
 ∃t,PG X tg t/\∀Y v v' Z Z' h H Q,bR T Y h H->cW T Y H Z Z'->aW T Y H v v'->W T (cW T) (g v Z h) Y H Q E->t v' Z' H Q
def fu(X:Cx)(T:Tab)(E:XK)(uv:List aK)(g:Hr->aF->M aF):Prop:=
 ∃t,oo X uv t/\∀Y vs vs' Z Z' h H Q,bR T Y h H->cW T Y H Z Z'->bE T Y H vs vs'->W T (cW T) (g vs Z h) Y H Q E->t vs' Z' H Q
def GS(m:M Out)(k:aF->M Out):M Out:=m.bind λo=>match o with
 |.nx Z=>k Z
 |.ret v=>M.ret (.ret v)
 |.brk Z=>M.ret (.brk Z)
 |.cnt Z=>M.ret (.cnt Z)
section
variable {a b:aK}{mt:aF->M Bool}{mk:aF->M Out}{st:Stmt}{rest:Xz}{g:AV->aF->M aF}{gs:Hr->aF->M aF}
theorem iV:QS X T E st (λ_=>M.bad):=⟨_,aDa,λ_ _ _ _ _ _ _ _ w=>w⟩
theorem aIt:wD X T E [] (λZ=>M.ret (.nx Z)):=⟨_,aDj,λc Z a h H D R S w=>W.here (b:=jQ.nx a) w R S⟩
theorem aIs(h1:QS X T E st ms)(h2:wD X T E rest mk):wD X T E (st::rest) (λZ=>GS (ms Z) mk):=by
 obtain⟨t,p,r⟩:=h1;obtain⟨u,q,s⟩:=h2;refine⟨_,aDi p q,λi Z f h H D R S w=>r i Z f h H _ R S (W.bind w λg o d h1 H1 k e b w1=>?_)⟩;cases o with
 |nx c=>cases d with
  |nx a=>exact s g c a h1 H1 D e b w1|_=>exact b.elim
 |ret v=>cases d with
  |ret j=>exact(W.here (Q:=nM D) w1 e b:D.rt j H1)|_=>exact b.elim
 |brk c=>cases d with
  |brk a=>exact(W.here (Q:=nM D) w1 e b:D.bk a H1)|_=>exact b.elim
 |cnt c=>cases d with
  |cnt a=>exact(W.here (Q:=nM D) w1 e b:D.ct a H1)|_=>exact b.elim
theorem aIn:QS X T E (.Pass pos) (λZ=>M.ret (.nx Z)):=⟨_,aDc,λc Z a h H D R S w=>W.here (b:=jQ.nx a) w R S⟩
theorem aIf:QS X T E (.Break pos) (λZ=>M.ret (.brk Z)):=⟨_,aCt,λc Z a h H D R S w=>W.here (b:=jQ.brk a) w R S⟩
theorem aIg:QS X T E (.Continue pos) (λZ=>M.ret (.cnt Z)):=⟨_,aCu,λc Z a h H D R S w=>W.here (b:=jQ.cnt a) w R S⟩
theorem aIh(he:QE X T E e m)(hs:bY e=aB)(hlc:uP e=aH):QS X T E (.Expr e pos) (λZ=>(m Z).bind λ_=>M.ret (.nx Z)):=by obtain⟨t,p,r⟩:=he;exact⟨_,aCv p (GX hs hlc),λc Z a h H D R S w=>r c Z a h H _ R S (W.bind w λd x i j H1 f g k w1=>W.here (b:=jQ.nx a) w1 g (S.ext f))⟩
theorem aIo(he:QE X T E e m):QS X T E (.Return (aA e) pos) (λZ=>(m Z).bind λv=>M.ret (.ret v)):=by obtain⟨t,p,r⟩:=he;exact⟨_,aDd p,λc Z a h H D R S w=>r c Z a h H _ R S (W.bind w λd x f j H1 k g i w1=>W.here (b:=jQ.ret f) w1 g i)⟩
theorem aIp:QS X T E (.Return aD pos) (λ_=>M.ret (.ret .aG)):=⟨_,aDe,λc d a h H D R S w=>W.here (b:=jQ.ret .aG) w R .aG⟩
theorem aIl(hc:QT X T E c mt)(ha:wD X T E sts ms)(hb:wD X T E rest mk):QS X T E (.If c sts rest pos) (λZ=>Ab (mt Z) (ms Z) (mk Z)):=by
 obtain⟨p,pc,rc⟩:=hc;obtain⟨ta,pa,j⟩:=ha;obtain⟨tb,k,l⟩:=hb;refine⟨_,aCz pc pa k,λm Z a h H D R S w=>rc m Z a h H _ R S (W.bind w λb d n f H1 g i o w1=>?_)⟩;have e:=o;subst e;cases d with
 |true=>exact j b Z a f H1 D i (S.ext g) w1|false=>exact l b Z a f H1 D i (S.ext g) w1
theorem uV:QG X T E tg (λ_ _=>M.bad):=⟨λ_ _ _ _=>False,λ_ _ _ _ _ _ _ _ _ h=>h.elim,λ_ _ _ _ _ _ _ _ _ _ _ w=>w⟩
theorem Mc{i:Nat}{x:Str}(hN:X.N.Nodup)(hi:X.N[i]?=aA x)(hx:wB X.env.scope x)(hf:X.fn x=aB\/X.env.scope.names.lookup x=aA .local):QG X T E (.Name x pos) (λv Z=>M.ret (Z.set i<|aA v)):=
 ⟨_,aBl hN hi hx hf,λb v c Z a h H Q R S r w=>W.here w R (S.set r i)⟩
def Iu(vs:Hr)(Z:aF):M aF:=match vs with
 |[]=>M.ret Z
 |_=>M.bad
def Iq(g:AV->aF->M aF)(gs:Hr->aF->M aF)(vs:Hr)(σ:aF):M aF:=match vs with
 |v::r=>(g v σ).bind λσ1=>gs r σ1
 |[]=>M.bad
theorem EO:fu X T E [] Iu:=⟨_,aBp,λc d a e b h H Q R S r w=>by
 cases r with
 |nil=>exact⟨rfl,W.here w R S⟩|cons _ _=>exact w.elim⟩
def tK:aK->Bool
 |.Name ..=>aB | .Tuple ..=>aB | .Subscript ..=>aB | .Attribute ..=>aB
 |_=>aH
theorem Oj{t:aK}(h:tK t=aB):sD (t::ts) env=(aH,dh t env)::sD ts env:=by cases t<;>first|rfl|exact ff h
theorem EN(h1:QG X T E tg g)(h2:fu X T E es gs)(ht:tK tg=aB):fu X T E (tg::es) (Iq g gs):=by
 obtain⟨t,p,r⟩:=h1;obtain⟨u,q,s⟩:=h2;refine⟨_,aBo p q (by rw[Oj ht];rfl),λe o f i b h H Q R S j w=>?_⟩;cases j with
 |nil=>cases w|cons k rs=>exact⟨_,_,rfl,r e _ _ i b h H _ R S k (W.bind w λc d a h1 H1 l m n w1=>s c _ _ d a h1 H1 Q m n (rs.ext l) w1)⟩
theorem YT(h:ts.all tK=aB):(sD ts env).length=ts.length/\(sD ts env).findIdx? (·.1)=aD:=by
 induction ts with
 |nil=>exact⟨rfl,rfl⟩|cons t ts a=>rw[jX,bT]at h;rw[Oj h.1];obtain⟨b,c⟩:=a h.2;refine⟨by rw[jC,jC,b],?_⟩;rw[List.findIdx?_cons,c];rfl
end
section
variable {E:Value->aI->Prop}
theorem Xk{it l:Addr}{items:Yd}(hne:l≠it):∀(n i:Nat) (s:aI) (Q:Hs->aI->Prop),s.heap.IsListIter it l i->s.heap.IsList l items->i+n<=items.size ->
  (∀h',h'.IsListIter it l (i+n)->xT it s.heap h'->Q ((items.toList.drop i).take n) { s with heap:=h' })->aS (aY prog w) A (draw (.ref it) n) Q E s
 |0,i,s,Q,hit,_,_,hQ=>by show aS _ _ (pure []) Q E s;exact cB (by simpa using hQ s.heap hit (Heap.SameBut.refl ..))
 |n+1,i,s,Q,hit,ht,hle,hQ=>by
  have eD:i<items.size:=by lia
  show aS _ _ (tS (.ref it)>>=_) Q E s;refine aQ<|OQ hit ht (x:=items[i]) (by simp[eD]) λh₁ hit₁ hs₁=>?_;refine aQ<|pI<|Xk hne n (i+1) _ _ hit₁ (ht.extBut hs₁.extBut hne) (by lia) λh₂ hit₂ hs₂=>cB ?_;have hd:items.toList.drop i=items[i]::items.toList.drop (i+1):=by simp[Qj,eD]
  have:=hQ h₂ (by rw[show i+(n+1)=i+1+n by lia];exact hit₂) (hs₁.trans hs₂);rw[hd,Rj]at this;exact this
theorem aOw{t:Addr}{Q:Hs->aI->Prop}(hh:A.handled=aD)(ht:s.heap.IsList t items)
  (hQ:∀h',ku s.heap.objs.size s.heap h'->Q items.toList { s with heap:=h' }):aS (aY prog w) A (Tq (.ref t) items.size aD) Q E s:=by
 have eD:t≠s.heap.objs.size:=by obtain⟨o,ho,_⟩:=ht;exact bQ<|cY ho
 unfold Tq;refine aQ ?_
 .unfold notIterableAtAll;refine aQ<|OR ht.typeIs PySem.slot_list_iter.lookup ?_;refine cB ?_;simp only[Cy,if_false];refine aQ<|pI<|na ht ?_;have ht0:(s.heap.push { cls:=.type "list_iterator",data:=.fields #[.ref t,.int 0 0] }).IsList t items:=ht.at λo e=>cT _ e;refine aQ<|pI<|Xk eD items.size 0 _ _ ⟨_,gA _ rfl,rfl,rfl⟩ ht0 (by lia) λh₁ hit₁ hs₁=>?_;have D6:List.take items.size (List.drop 0 items.toList)=items.toList:=by rw[KZ];exact Ri (by simp)
  rw[D6];rw[if_neg (by simp)];have ht₁:=ht0.extBut hs₁.extBut eD;refine aQ<|pI<|Tx hh hit₁ ht₁ (by simp) λh₂ he₂=>?_;simp only[Option.isSome_none,Cy,if_false];refine cB<|hQ h₂ λb o hb e=>he₂ b o hb (hs₁.extBut b o hb<|cT _ e)
theorem PB{x1}{t:Addr}{Q:Unit->aI->Prop}(hh:A.handled=aD)(ht:s.heap.IsList t items)
  (hn:(sD elts env).length=items.size)(E7:(sD elts env).findIdx? (·.1)=aD)
  (h:∀h',ku s.heap.objs.size s.heap h'->aS (aY prog w) A (Er ((sD elts env).map (·.2)) items.toList) Q E { s with heap:=h' }) :
  aS (aY prog w) A (dh (.Tuple elts x1 pos) env<|.ref t) Q E s:=by
 refine aQ<|nj ?_;unfold unpack;rw[hn,E7];exact aQ<|pI<|aOw hh ht h
end
section
variable {a b:aK}{mt:aF->M Bool}{mk:aF->M Out}{st:Stmt}{rest:Xz}{g:AV->aF->M aF}{gs:Hr->aF->M aF}
def B7(K:bJ)(n:Nat)(t:yP):TG:=λv Z H Q=>∃a xs,v = .ref a/\(dM K H a xs\/eC K H a xs)/\xs.length=n/\t xs Z H Q
theorem aBm{k:Nat}{t:yP}(hc:X.calm=aB)(h:oo X es t)(hs:es.all tK=aB):PG X (.Tuple es k pos) (B7 X.K es.length t):=by
 obtain⟨hn,hst⟩:=YT (env:=X.env) hs;intro ap s Z H v u Q I r hw;obtain⟨a,xs,e1,hq,hl,hw⟩:=hw;subst e1;cases r;rcases hq with hq|hq
 .obtain⟨its,rv,ht,hz⟩:=I.list hq;refine PB (I.ok.hd hc) ht.isList (by simp[hn,<- hl,rv.length]) hst λh' hx=>?_;have I1:=I.kept (t':=s.toks) λb o e=>hx b o (bQ<|cY e) e;exact h ap _ Z H xs _ Q I1 (by simpa using rv) hw
 .obtain⟨its,rv,ht,hz⟩:=I.tuple hq;refine assign_Tuple_tuple (I.ok.hd hc) ht (by simp[hn,<- hl,rv.length]) hst λh' hx=>?_;have I1:=I.kept (t':=s.toks) λb o e=>hx b o (bQ<|cY e) e;exact h ap _ Z H xs _ Q I1 (by simpa using rv) hw
def zT(n:Nat)(gs:Hr->aF->M aF)(v:AV)(Z:aF):M aF:=λh=>match dW h v with
 |some xs=>if xs.length=n then gs xs Z h else .bad
 |none=>.bad
theorem EM(hK:X.K=T.K)(hc:X.calm=aB){k:Nat}(h:fu X T E es gs)(hs:es.all tK=aB):QG X T E (.Tuple es k pos) (zT es.length gs):=by
 obtain⟨t,p,r⟩:=h;refine⟨_,aBm hc p hs,λc v g d a h H Q R S e w=>?_⟩;unfold zT at w;cases q:dW h v with
 |none=>rw[q]at w;cases w|some xs=>
  rw[q]at w;by_cases hl:xs.length=es.length
  .simp only[if_pos hl]at w;obtain⟨p,b,rfl,f,hr⟩:=jg R e q;exact⟨p,b,rfl,hK▸f,hr.length▸hl,r c xs b d a h H Q R S hr w⟩
  .simp only[if_neg hl]at w;exact w.elim
def qG(o i v:AV):M Unit:=λh=>match o,i with
 |.ref n,.int k=>match h.ob n with
  |some (.lst aB xs)=>match jS xs.length k with
   |some j=>.ok () (h.put n<|.lst aB<|xs.set j v)
   |none=>.bad
  |_=>.bad
 |_,_=>.bad
def nX(o i v:AV):M Unit:=λh=>match gE h o with
 |some kvs=>match o,eZ i with
  |.ref n,aA k=>if kvs.length<sizeLine then .ok () (h.put n<|.aN<|gT kvs k v) else .bad
  |_,_=>.bad
 |none=>qG o i v h
theorem aFe(hu:X.A.units+1<cLine)(ha:QE X T E a ma)(hb:QE X T E b mb)(hs:bY b=aB):QG X T E (.Subscript a b pos) (λv Z=>(ma Z).bind λo=>(mb Z).bind λi=>(nX o i v).bind λ_=>M.ret Z):=by
 obtain⟨ta,pa,L⟩:=ha;obtain⟨tb,N,O⟩:=hb;refine⟨_,aBn pa N (aKm hu) (by intro v;cases b<;>first|rfl|exact ff hs),λZH v D Z P h H Q R S U w=>?_⟩;refine jq L O R S w λc x y x' y' f l V R2 F G I w2=>?_;have m:=U.ext V;cases d:gE f x with
 |some A=>
  refine .inr ?_;obtain⟨n,a,us,rfl,q,o,rfl,g,r⟩:=wV R2 F d;cases k:eZ y with
  |none=>simp only[M.bind,nX,d,k]at w2;cases w2|some Y=>
   by_cases B:A.length<sizeLine
   .simp only[M.bind,nX,d,k,if_pos B]at w2;have ex:Ext c l c (bG l a<|.dK<|putK us Y D):=⟨λ_ _ z=>z,λb xs z=>by
     rw[bZ (rH z g nofun)];exact z,λb x u z=>by
     rw[bZ (rH z g nofun)];exact z⟩
    obtain⟨C,s⟩:=R2.write o rfl rfl q g (nofun) (λ_ _ z=>by cases z) (He gG<|(GK r m).ext ex);refine⟨a,_,rfl,?_,W.ok w2 s C (I.ext s)⟩;rw[sT G k];exact nq.k g (by rw[<- GJ r];exact B)
   .simp only[M.bind,nX,d,k,if_neg B]at w2;cases w2
 |none=>
 refine .inl ?_;have w2:W T (cW T) (((qG x y v).bind λ_=>M.ret Z) f) c l Q E:=by
  have e:(nX x y v) f=qG x y v f:=by simp only[nX,d]
  simp only[M.bind,e]at w2 ⊢;exact w2
 cases x with
 |ref n=>
  cases y with
  |int k=>
   cases G;cases F with
   |@ref _ p q=>
    cases o:f.ob n with
    |none=>simp only[M.bind,qG,o]at w2;cases w2|some u=>
     cases u with
     |lst mu xs=>
      cases mu with
      |true=>
       obtain⟨J,g1,K⟩:=R2.obj n _ p o q;cases j:jS xs.length k with
       |none=>simp only[M.bind,qG,o,j]at w2;cases w2|some t=>
        simp only[M.bind,qG,o,j]at w2;obtain⟨C,s⟩:=R2.write (o':=.lst aB (xs.set t v)) o rfl rfl q g1 (nofun) (λ_ _ z=>by cases z) ⟨_,gG,by
         have:Ext c l c (bG l p<|.lst<|J.set t D):=⟨λ_ _ z=>z,λb xs z=>by
          rw[bZ (rH z g1 nofun)];exact z,λb x u z=>by
          rw[bZ (rH z g1 nofun)];exact z⟩
         exact(bE.set m t K).ext this⟩
        exact⟨p,J,k,t,rfl,rfl,g1,K.length▸j,W.ok w2 s C (I.ext s)⟩
      |false=>simp only[M.bind,qG,o]at w2;cases w2
     |aN _=>simp only[M.bind,qG,o]at w2;cases w2|dF _=>simp only[M.bind,qG,o]at w2;cases w2|ins _ _=>simp only[M.bind,qG,o]at w2;cases w2
  |_=>cases w2
 |_=>cases w2
def swE(ts:List aK)(e:aK)(sc:gH):Sem (Option<|Yb):=my ts e { (default:Env)with scope:=sc }
def Oe{α:Type}:Sem α->Option α
 |.pure x=>aA x
 |_=>aD
theorem HL{α:Type}{s:Sem α}{x:α}(h:Oe s=aA x):s=pure x:=by
 cases s with
 |pure a=>cases h;rfl|_=>exact cJ h
theorem aIe(he:QE X T E e m)(hg:QG X T E tg g)(hs:bY e=aB)(hlc:uP e=aH)(ht:tK tg=aB)(hw:my [tg] e X.env=pure aD):QS X T E (.Assign [tg] e pos) (λσ=>(m σ).bind λv=>(g v σ).bind λσ1=>M.ret (.nx σ1)):=by obtain⟨z,p,r⟩:=he;obtain⟨t,q,s⟩:=hg;refine⟨_,aCr p q (GX hs hlc) hw (by rw[Oj ht];rfl),λf σ a h H D R S w=>r f σ a h H _ R S (W.bind w λd x i j H1 k l n w1=>?_)⟩;exact s d x i σ a j H1 _ l (S.ext k) n<|W.bind w1 λo u c A B C R2 y w2=>W.here (b:=jQ.nx c) w2 R2 y
abbrev gC:=Nat->AH->Option (Option AV)
def RI(T:Tab):Rl gC It:=λY H it J=>∀Y' h' H' i,Ext Y H Y' H'->bR T Y' h' H' ->
 (it i h'=aA aD->J.stop i H')/\∀v,it i h'=aA (aA v)->J.go i H'/\∀x H2,J.vi i H' x H2->∃Y2,Ext Y' H' Y2 H2/\bR T Y2 h' H2/\aW T Y2 H2 v x
def QI(X:Cx)(T:Tab)(E:XK)(tg cR:aK)(mi:aF->M gC):Prop:=
 ∃wi,PI X tg cR wi/\∀Y Z Z' h H R,bR T Y h H->cW T Y H Z Z'->W T (RI T) (mi Z h) Y H R E->wi Z' H R
def kT(it:gC)(g:AV->aF->M aF)(body:aF->M Out):Nat->Nat->aF->M Out
 |0,_,_=>M.bad
 |f+1,i,σ=>λh=>match it i h with
  |none=>.bad
  |some aD=>.ok (.nx σ) h
  |some (aA v)=>((g v σ).bind λσ1=>(body σ1).bind λo=>match o with
   |.nx σ2=>kT it g body f (i+1) σ2
   |.cnt σ2=>kT it g body f (i+1) σ2
   |.brk σ2=>M.ret (.nx σ2)
   |.ret v=>M.ret (.ret v)) h
theorem Ub:∃n:Nat,n=1000000:=⟨_,rfl⟩
def FU:Nat:=Ub.choose
theorem fI:FU=1000000:=Ub.choose_spec
theorem aIk{cR:aK}{mi:aF->M gC}(hp:vt (aY X.prog X.w) X.A X.env X.xe)(hc:X.calm=aB)(hi:QI X T E tg cR mi)(hg:QG X T E tg g)(hb:wD X T E sts ms)(hs:bY cR=aB) :
  QS X T E (.For tg cR sts [] pos) (λZ=>(mi Z).bind λit=>kT it g ms FU 0 Z):=by
 obtain⟨wi,pi,ri⟩:=hi;obtain⟨t,q,s⟩:=hg;obtain⟨u,pb,rb⟩:=hb;refine⟨_,aCy hp hc pi q pb (λx=>Nu hs),λO B C h0 H0 D R0 Y w0=>ri O B C h0 H0 _ R0 Y (W.bind w0 λr it J h1 H1 e1 R1 ZI w1=>?_)⟩;refine⟨λi m j H=>∃A Z h,Ext r H1 A H/\bR T A h H/\cW T A H Z j/\W T (RO T) (kT it g ms m i Z h) A H (nM D) E,⟨FU,r,B,h1,.refl,R1,Y.ext e1,w1⟩,?_⟩;rintro i m j H ⟨A,Z,h,e,R,S,w⟩
 cases m with
 |zero=>cases w|succ f=>
  simp only[kT]at w;cases d:it i h with
  |none=>rw[d]at w;cases w|some o=>
   cases o with
   |none=>rw[d]at w;exact .inl ⟨(ZI A h H i e R).1 d,W.here (b:=jQ.nx j) w R S⟩
   |some v=>
    rw[d]at w;obtain⟨go,yl⟩:=(ZI A h H i e R).2 v d;refine .inr ⟨go,λl n=>∃c F h2,Ext r H1 c n/\bR T c h2 n/\cW T c n F l/\W T (RO T) (kT it g ms f (i+1) F h2) c n (nM D) E,λl n z=>⟨f,cF f,z⟩,λx n y=>?_⟩;obtain⟨c,P,R2,rv⟩:=yl x n y;refine s c v x Z j h n _ R2 (S.ext P) rv<|W.bind (w.ext P) λU V G h3 H3 e3 R3 S3 w3=>?_;refine rb U V G h3 H3 _ R3 S3<|W.bind w3 λI o K h4 H4 e4 L p N=>?_;have eE:=((e.trans P).trans e3).trans e4;cases o with
    |nx k=>cases K with
     |nx a=>exact⟨I,k,h4,eE,L,p,N⟩|_=>cases p
    |cnt k=>cases K with
     |cnt a=>exact⟨I,k,h4,eE,L,p,N⟩|_=>cases p
    |brk k=>cases K with
     |brk a=>exact(W.here (b:=jQ.nx a) N L p:D.nx a H4)|_=>cases p
    |ret v=>cases K with
     |ret v'=>exact(W.here (Q:=nM D) N L p:D.rt v' H4)|_=>cases p
def vN(c:aF->M Bool)(body:aF->M Out):Nat->aF->M Out
 |0,_=>M.bad
 |f+1,σ=>(c σ).bind λb=>if b=aB then((body σ).bind λo=>match o with
  |.nx σ2=>vN c body f σ2
  |.cnt σ2=>vN c body f σ2
  |.brk σ2=>M.ret (.nx σ2)
  |.ret v=>M.ret (.ret v)) else M.ret (.nx σ)
theorem aIr(hp:vt (aY X.prog X.w) X.A X.env X.xe)(hc:QT X T E c mt)(hb:wD X T E sts ms):QS X T E (.While c sts [] pos) (λZ=>vN mt ms FU Z):=by
 obtain⟨ZJ,pc,rc⟩:=hc;obtain⟨u,L,M⟩:=hb;refine⟨_,aDh hp pc L,λx y C h0 H0 D N O w0=>?_⟩;refine⟨λm e H=>∃l Z h,bR T l h H/\cW T l H Z e/\W T (RO T) (vN mt ms m Z h) l H (nM D) E,⟨FU,x,y,h0,N,O,w0⟩,?_⟩;rintro m e H ⟨l,Z,h,R,S,w⟩
 cases m with
 |zero=>cases w|succ f=>
  refine rc l Z e h H _ R S<|W.bind w λA d P U H1 F G V w1=>?_;have B:=V;subst B;cases d with
  |false=>exact(W.here (b:=jQ.nx e) w1 G (S.ext F):D.nx e H1)|true=>
   refine⟨λi q=>∃k n I,bR T k I q/\cW T k q n i/\W T (RO T) (vN mt ms f n I) k q (nM D) E,λi q z=>⟨f,cF f,z⟩,?_⟩;refine M A Z e U H1 _ G (S.ext F)<|W.bind w1 λp o r J K e4 s j t=>?_;cases o with
   |nx g=>cases r with
    |nx a=>exact⟨p,g,J,s,j,t⟩|_=>exact j.elim
   |cnt g=>cases r with
    |cnt a=>exact⟨p,g,J,s,j,t⟩|_=>exact j.elim
   |brk g=>cases r with
    |brk a=>exact(W.here (b:=jQ.nx a) t s j:D.nx a K)|_=>exact j.elim
   |ret v=>cases r with
    |ret Y=>exact(W.here (Q:=nM D) t s j:D.rt Y K)|_=>exact j.elim
end
section
variable {E:Value->aI->Prop}
theorem aDo{t:Addr}{i:Nat}{x:Value}{Q:Value->aI->Prop}(hit:s.heap.IsTupleIter it t i)(ht:s.heap.IsTuple t items)(hx:items[i]?=aA x)
  (hQ:∀h',h'.IsTupleIter it t (i+1)->xT it s.heap h'->Q x { s with heap:=h' }):aS (aY prog w) A (rP<|.ref it) Q E s:=by
 obtain⟨o,a,d,hd⟩:=id hit;obtain⟨ol,b,_,nl,c⟩:=ht;refine aQ<|ei hit.typeIs xS<|fc xS hit.typeIs Dg ?_<|De _;show aS _ _ (tR (.ref it) 0>>=_) _ _ s;refine aQ<|kP a hd rfl ?_;refine aQ<|kP a hd rfl ?_;refine aQ<|nS b c ?_;simp only[rT,hx];exact aQ<|Fd a hd (by simp)<|cB ⟨x,rfl,cB (hQ _ (⟨_,vj _ a (MT<|Ef hd _),(MS ..).trans d,by rw[Ef hd];simp[yI]⟩) (Di ..))⟩
theorem aDp{t:Addr}{i:Nat}{Q:Value->aI->Prop}(hh:A.handled=aD)(hit:s.heap.IsTupleIter it t i)(ht:s.heap.IsTuple t items)(hx:items[i]?=aD)
  (hE:∀h' e,ku it s.heap h'->(∃o,h'.get? e=aA o/\o.cls = .type "StopIteration")->E (.ref e) { s with heap:=h' }):aS (aY prog w) A (rP<|.ref it) Q E s:=by
 obtain⟨o,ho,hc,hd⟩:=id hit;obtain⟨ol,hol,_,nl,hdl⟩:=ht;refine aQ<|ei hit.typeIs xS<|fc xS hit.typeIs Dg ?_<|De _;show aS _ _ (tR (.ref it) 0>>=_) _ _ s;refine aQ<|kP ho hd rfl ?_;refine aQ<|kP ho hd rfl ?_;refine aQ<|nS hol hdl ?_;simp only[rT,hx];refine aQ<|nc<|aQ<|Fd ho hd (by simp) ?_;refine aQ ?_;refine aQ<|tU ?_ (by size_fits);refine aQ<|Tv (by first|rfl|(rfl)) ?_;refine tU ?_ (by size_fits);refine aQ<|OJ ?_;first|rw[show A.in1.handled=aD from hh] | rw[hh]
 exact aQ<|cB<|wpAny_throw<|hE _ _ (((Di ..).extBut.push _).push _) ⟨_,gA _ rfl,rfl⟩
end
structure jJ(prog:cA)(w:bW)(A:cM)(it l:Addr)(S:Nat->bI->Prop)(items:Yd):Prop where
 keep:∀k h h',S k h->(∀b,b=it\/b=l->∀o,h.get? b=aA o->h'.get? b=aA o)->S k h'
 live:∀k h,S k h->∃o,h.get? it=aA o/\o.cls ≠ .type "zip"/\(∀v,o.data ≠ .cell v)
 item:∀k x (s:aI) (Q:Value->aI->Prop) (E:Value->aI->Prop),S k s.heap->items[k]?=aA x->(∀h',S (k+1) h'->xT it s.heap h'->Q x { s with heap:=h' })->aS (aY prog w) A (rP<|.ref it) Q E s
 done:∀k (s:aI) (Q:Value->aI->Prop) (E:Value->aI->Prop),S k s.heap->items[k]?=aD->(∀h' e,ku it s.heap h'->(∃o,h'.get? e=aA o/\o.cls = .type "StopIteration")->E (.ref e) { s with heap:=h' })->aS (aY prog w) A (rP<|.ref it) Q E s
theorem jJ.list(hh:A.handled=aD)(hne:l≠it)(items:Yd):jJ prog w A it l (λk h=>h.IsListIter it l k/\h.IsList l items) items where
 keep:=λk h d st f=>⟨st.1.at λo e=>f it (.inl rfl) o e,st.2.at λo e=>f l (.inr rfl) o e⟩
 live:=λk h st=>let ⟨o,g,i,hd⟩:=st.1;⟨o,g,by rw[i];decide,λv z=>by rw[hd]at z;cases z⟩
 item:=λk x s Q E st c j=>wpAny_nextOf_list_item st.1 st.2 c λd a b=>j d ⟨a,st.2.extBut b.extBut hne⟩ b
 done:=λk s Q E st c m=>ON hh st.1 st.2 c m
theorem jJ.tuple(hh:A.handled=aD)(hne:l≠it)(items:Yd):jJ prog w A it l (λk h=>h.IsTupleIter it l k/\h.IsTuple l items) items where
 keep:=λk h d st f=>⟨st.1.at λo e=>f it (.inl rfl) o e,let ⟨o,e,r⟩:=st.2;⟨o,f l (.inr rfl) o e,r⟩⟩
 live:=λk h st=>let ⟨o,g,i,hd⟩:=st.1;⟨o,g,by rw[i];decide,λv z=>by rw[hd]at z;cases z⟩
 item:=λk x s Q E st c j=>aDo st.1 st.2 c λd a b=>j d ⟨a,let ⟨o,e,r⟩:=st.2;⟨o,b.extBut _ _ hne e,r⟩⟩ b
 done:=λk s Q E st c m=>aDp hh st.1 st.2 c m
section
variable {E:Value->aI->Prop}{TI TO:Addr}{xs ys:Yd}{k:Nat}{a b x y:Value}
theorem oV(P:jJ prog w A i1 l1 S1 xs){h:bI}{c:Addr}(st:S1 k h)(e:ku c h h')(n1:i1≠c)(n2:l1≠c):S1 k h':=P.keep k h h' st λb hb o q=>e b o (by rcases hb with rfl|rfl<;>assumption) q
theorem aTd{Q:Value->aI->Prop}(D:mn z TI TO i1 i2 l1 l2)(P1:jJ prog w A i1 l1 S1 xs)(P2:jJ prog w A i2 l2 S2 ys)(hz:mF s.heap z TI TO .none)(hTI:jA s.heap TI (.ref i1) (.ref i2))(hTO:jA s.heap TO a b)
  (h1:S1 k s.heap) (h2:S2 k s.heap) (hx:xs[k]?=aA x) (hy:ys[k]?=aA y)
  (hQ:∀h',mF h' z TI TO (yI s.heap.objs.size)->jA h' TO x y->S1 (k+1) h'->S2 (k+1) h'->jA h' s.heap.objs.size x y ->
   (∀c o,c≠z->c≠TO->c≠i1->c≠i2->s.heap.get? c=aA o->h'.get? c=aA o)->Q (.ref s.heap.objs.size) { s with heap:=h' }) :
  aS (aY prog w) A (Builtin.«zip.__next__» ⟨[.ref z],[]⟩) (λfin s'=>∃v,fin = .done (.ret v)/\Q v s') E s:=by
 show aS _ _ (tR (.ref z) 2>>=_) _ _ _;refine aQ<|kP hz rfl (x:=.bool aH) rfl ?_;show aS _ _ (tR (.ref z) 3>>=_) _ _ _;refine aQ<|kP hz rfl (x:=.ref TI) rfl<|aQ<|nS hTI rfl ?_;show aS _ _ (Dd (.ref z)>>=_) _ _ _;refine aQ ?_;unfold Dd;refine aQ<|kP hz rfl (x:=.none) rfl<|cB ?_;simp only[if_true];refine aQ<|nc<|aQ<|kP hz rfl (x:=.ref TO) rfl<|aQ<|nh hz (by simp) λha za sa=>?_;replace za:mF ha z TI TO .ellipsis:=za
 refine aQ ?_;simp only[MF,MG,Qo,LK];refine aQ<|aQ<|Fc ?_;show aS _ _ (rP (.ref i1)>>=_) _ _ _;refine aQ<|P1.item k x _ _ _ (oV P1 h1 sa.extBut D.i1z D.l1z) hx λhb pb sb=>cB ?_;have tb:jA hb TO a b:=sb.extBut _ _ D.TOi1 (sa.extBut _ _ D.TOz hTO);refine aQ<|nS tb rfl<|aQ<|Ua tb λhc tc sc=>?_;replace tc:jA hc TO x b:=tc
 refine aQ<|fe<|cB<|aQ<|aQ<|Fc ?_;show aS _ _ (rP (.ref i2)>>=_) _ _ _;refine aQ<|P2.item k y _ _ _ (oV P2 (oV P2 (oV P2 h2 sa.extBut D.i2z D.l2z) sb.extBut D.i12.symm D.l2i1) sc.extBut D.TOi2.symm D.l2TO) hy λhd pd sd=>cB ?_;have td:jA hd TO x b:=sd.extBut _ _ D.TOi2 tc;refine aQ<|nS td rfl<|aQ<|Ua td λhe te se=>?_;replace te:jA he TO x y:=te
 refine aQ<|fe<|cB<|cB<|aQ<|nS te rfl<|aQ<|wpAny_newTuple ?_;have size:he.objs.size=s.heap.objs.size:=by rw[se.1,sd.1,sc.1,sb.1,sa.1]
 have ze:mF he z TI TO .ellipsis:=se.extBut _ _ D.TOz.symm (sd.extBut _ _ D.i2z.symm<|sc.extBut _ _ D.TOz.symm<|sb.extBut _ _ D.i1z.symm za);have kept:∀c o,c≠z->c≠TO->c≠i1->c≠i2->s.heap.get? c=aA o->he.get? c=aA o:=λc o n1 n2 n3 n4 e=>se.extBut _ _ n2 (sd.extBut _ _ n4<|sc.extBut _ _ n2<|sb.extBut _ _ n3<|sa.extBut _ _ n1 e);have pe:S1 (k+1) he:=oV P1 (oV P1 (oV P1 pb sc.extBut D.TOi1.symm D.l1TO) sd.extBut D.i12 D.l1i2) se.extBut D.TOi1.symm D.l1TO;have re:S2 (k+1) he:=oV P2 pd se.extBut D.TOi2.symm D.l2TO;have zlt:z<he.objs.size:=cY ze;show aS _ _ (JZ (.ref z) (.ref he.objs.size)>>=_) _ _ _;refine aQ ?_;unfold JZ;have zf:mF (he.push { cls:=.type "tuple",data:=.seq #[x,y] }) z TI TO .ellipsis:=cT _ ze;refine aQ<|nh zf (by simp) λhg zg sg=>?_;replace zg:mF hg z TI TO (yI he.objs.size):=zg
 refine nh zg (by simp) λhh zh sh=>?_;replace zh:mF hh z TI TO (yI he.objs.size):=zh
 have up:∀c o,c≠z->he.get? c=aA o->hh.get? c=aA o:=λc o n1 e=>sh.extBut _ _ n1 (sg.extBut _ _ n1<|cT _ e);have new:jA hh he.objs.size x y:=sh.extBut _ _ (kL zlt) (sg.extBut _ _ (kL zlt)<|gA _ rfl);rw[size]at zh new;refine cB ⟨_,rfl,?_⟩;show Q (.ref he.objs.size) _;rw[size];exact hQ hh zh (up _ _ D.TOz te) (P1.keep _ _ _ pe λc hc o e=>up c o (by rcases hc with rfl|rfl;exact D.i1z;exact D.l1z) e) (P2.keep _ _ _ re λc hc o e=>up c o (by rcases hc with rfl|rfl;exact D.i2z;exact D.l2z) e) new
  λc o n1 n2 n3 n4 e=>up c o n1 (kept c o n1 n2 n3 n4 e)
theorem aTe{Q:Fin->aI->Prop}(D:mn z TI TO i1 i2 l1 l2)(P1:jJ prog w A i1 l1 S1 xs)(P2:jJ prog w A i2 l2 S2 ys)(hz:mF s.heap z TI TO .none)(hTI:jA s.heap TI (.ref i1) (.ref i2))(hTO:jA s.heap TO a b)
  (h1:S1 k s.heap) (h2:S2 k s.heap) (rf:xs[k]?=aD\/ys[k]?=aD)
  (hE:∀h' e,(∀c o,c≠z->c≠TO->c≠i1->c≠i2->s.heap.get? c=aA o->h'.get? c=aA o)->(∃o,h'.get? e=aA o/\o.cls = .type "StopIteration")->E (.ref e) { s with heap:=h' }) :
  aS (aY prog w) A (Builtin.«zip.__next__» ⟨[.ref z],[]⟩) Q E s:=by
 show aS _ _ (tR (.ref z) 2>>=_) _ _ _;refine aQ<|kP hz rfl (x:=.bool aH) rfl ?_;show aS _ _ (tR (.ref z) 3>>=_) _ _ _;refine aQ<|kP hz rfl (x:=.ref TI) rfl<|aQ<|nS hTI rfl ?_;show aS _ _ (Dd (.ref z)>>=_) _ _ _;refine aQ ?_;unfold Dd;refine aQ<|kP hz rfl (x:=.none) rfl<|cB ?_;simp only[if_true];refine aQ<|nc<|aQ<|kP hz rfl (x:=.ref TO) rfl<|aQ<|nh hz (by simp) λha za sa=>?_;replace za:mF ha z TI TO .ellipsis:=za
 refine aQ ?_;simp only[MF,MG,Qo,LK];refine aQ<|aQ<|Fc ?_;show aS _ _ (rP (.ref i1)>>=_) _ _ _;have sa1:=oV P1 h1 sa.extBut D.i1z D.l1z;cases hx:xs[k]? with
 |none=>
  refine aQ<|P1.done k _ _ _ sa1 hx λhb e sb he=>?_;obtain⟨oe,hoe,hce⟩:=he;have zb:mF hb z TI TO .ellipsis:=sb _ _ D.i1z.symm za;have ne:e≠z:=λq=>by subst q;rw[zb]at hoe;cases hoe;simp at hce
  exact nh zb (by simp) λhc _ sc=>hE hc e (λc o n1 _ n3 _ q=>sc.extBut _ _ n1 (sb _ _ n3<|sa.extBut _ _ n1 q)) ⟨oe,sc.extBut _ _ ne hoe,hce⟩
 |some x=>
  have hy:ys[k]?=aD:=by rcases rf with q|q;rw[hx]at q;cases q;exact q
  refine aQ<|P1.item k x _ _ _ sa1 hx λhb pb sb=>cB ?_;have tb:jA hb TO a b:=sb.extBut _ _ D.TOi1 (sa.extBut _ _ D.TOz hTO);refine aQ<|nS tb rfl<|aQ<|Ua tb λhc tc sc=>?_;refine aQ<|fe<|cB<|aQ<|aQ<|Fc ?_;show aS _ _ (rP (.ref i2)>>=_) _ _ _;refine aQ<|P2.done k _ _ _ (oV P2 (oV P2 (oV P2 h2 sa.extBut D.i2z D.l2z) sb.extBut D.i12.symm D.l2i1) sc.extBut D.TOi2.symm D.l2TO) hy λhd e sd he=>?_;obtain⟨oe,hoe,hce⟩:=he;have zd:mF hd z TI TO .ellipsis:=sd _ _ D.i2z.symm (sc.extBut _ _ D.TOz.symm<|sb.extBut _ _ D.i1z.symm za);have ne:e≠z:=λq=>by subst q;rw[zd]at hoe;cases hoe;simp at hce
  exact nh zd (by simp) λhf _ sf=>hE hf e (λc o n1 n2 n3 n4 q=>sf.extBut _ _ n1 (sd _ _ n4<|sc.extBut _ _ n2<|sb.extBut _ _ n3<|sa.extBut _ _ n1 q)) ⟨oe,sf.extBut _ _ ne hoe,hce⟩
end
def kZ(kd:Bool)(h:bI)(it l:Addr)(k:Nat):Prop:=if kd=aB then h.IsListIter it l k else h.IsTupleIter it l k
def iK(kd:Bool)(h:bI)(l:Addr)(items:Yd):Prop:=if kd=aB then h.IsList l items else h.IsTuple l items
def lC(kd:Bool)(K:bJ)(H:Hp)(a:Addr)(xs:Xw):Prop:=if kd=aB then dM K H a xs else eC K H a xs
def Gz(kd:Bool):String:=if kd=aB then "list_iterator" else "tuple_iterator"
theorem kZ.at{kd:Bool}{h h':bI}{it l:Addr}{k:Nat}(st:kZ kd h it l k)(f:∀o,h.get? it=aA o->h'.get? it=aA o):kZ kd h' it l k:=by
 cases kd with
 |true=>exact Heap.IsListIter.at st f|false=>exact Heap.IsTupleIter.at st f
theorem kZ.live{kd:Bool}{h:bI}{k:Nat}(st:kZ kd h it l k):∃o,h.get? it=aA o/\∀v,o.data ≠ .cell v:=by
 cases kd with
 |true=>obtain⟨o,a,b,hd⟩:=(st);exact⟨o,a,λv z=>by rw[hd]at z;cases z⟩|false=>obtain⟨o,a,b,hd⟩:=(st);exact⟨o,a,λv z=>by rw[hd]at z;cases z⟩
theorem jJ.kd{prog:cA}{w:bW}{A:cM}(hh:A.handled=aD)(kd:Bool){it l:Addr}(hne:l≠it)(items:Yd):jJ prog w A it l (λk h=>kZ kd h it l k/\iK kd h l items) items:=by
 cases kd with
 |true=>exact jJ.list hh hne items|false=>exact jJ.tuple hh hne items
theorem AS(kd:Bool)(h:bI)(l:Addr):kZ kd (h.push { cls:=.type (Gz kd),data:=.fields #[.ref l,.int 0 0] }) h.objs.size l 0:=by
 cases kd with
 |true=>exact⟨_,gA _ rfl,rfl,rfl⟩|false=>exact⟨_,gA _ rfl,rfl,rfl⟩
theorem AW{E:Value->aI->Prop}(kd:Bool){Q:Value->aI->Prop}(hl:iK kd s.heap l items)
  (hQ:Q (.ref s.heap.objs.size) { s with heap:=s.heap.push { cls:=.type (Gz kd),data:=.fields #[.ref l,.int 0 0] } }):aS (aY prog w) A (wg<|.ref l) Q E s:=by
 cases kd with
 |true=>exact na hl hQ|false=>exact wm hl hQ
theorem iK.push{kd:Bool}{h:bI}{l:Addr}{items:Yd}(hl:iK kd h l items)(o:Obj):iK kd (h.push o) l items:=by
 cases kd with
 |true=>exact Heap.IsList.push hl o|false=>obtain⟨ob,e,r⟩:=(hl);exact⟨ob,cT _ e,r⟩
noncomputable abbrev zA(kd:Bool)(h:bI)(l:Addr):bI:=h.push { cls:=.type (Gz kd),data:=.fields #[.ref l,.int 0 0] }
noncomputable abbrev zB(cU dA:Bool)(h:bI)(l1 l2:Addr):bI:=zA dA (zA cU h l1) l2
noncomputable abbrev zC(cU dA:Bool)(h:bI)(l1 l2:Addr):bI:=(zB cU dA h l1 l2).push { cls:=.type "tuple",data:=.seq #[.ref h.objs.size,.ref (zA cU h l1).objs.size] }
noncomputable abbrev zD(cU dA:Bool)(h:bI)(l1 l2:Addr):bI:=(zC cU dA h l1 l2).push { cls:=.type "tuple",data:=.seq #[.none,.none] }
noncomputable abbrev zE(cU dA:Bool)(h:bI)(l1 l2:Addr):bI:=(zD cU dA h l1 l2).push { cls:=.type "zip",data:=.fields #[.none,.bool aH,.bool aH,.ref (zB cU dA h l1 l2).objs.size,.ref (zC cU dA h l1 l2).objs.size] }
theorem aTf(cU dA:Bool)(l1 l2:Addr)(xs ys:Yd) :
  Meets (Builtin.«zip.__new__» ⟨[.type "zip",.ref l1,.ref l2],[]⟩) (λ_ R s=>iK cU s.heap l1 xs/\iK dA s.heap l2 ys/\R (.ok<|.ret<|.ref (zD cU dA s.heap l1 l2).objs.size) { s with heap:=zE cU dA s.heap l1 l2 }):=
 .of_wp λprog w A R s h=>by
  obtain⟨hp,g,d,tk,os⟩:=s;obtain⟨hl1,hl2,h⟩:=h;have aWb:=sub_zip;have hL1:iK cU (Sv ⟨hp,g,d,tk,os⟩) l1 xs:=hl1;have hL2:iK dA (Sv ⟨zA cU hp l1,g,d,tk,os⟩) l2 ys:=iK.push hl2 _;wp_walk using AW cU hL1,AW dA hL2
  exact⟨_,rfl,h⟩
section
variable {E:Value->aI->Prop}
theorem WS(cU dA:Bool){xs ys:Yd}{Q:Value->aI->Prop}(hl1:iK cU s.heap l1 xs)(hl2:iK dA s.heap l2 ys)
  (h:∀h',mF h' (s.heap.objs.size+4) (s.heap.objs.size+2) (s.heap.objs.size+3) .none->jA h' (s.heap.objs.size+2) (.ref s.heap.objs.size) (.ref<|s.heap.objs.size+1) ->
   jA h' (s.heap.objs.size+3) .none .none->kZ cU h' s.heap.objs.size l1 0->kZ dA h' (s.heap.objs.size+1) l2 0 ->
   (∀c o,s.heap.get? c=aA o->h'.get? c=aA o)->Q (.ref<|s.heap.objs.size+4) { s with heap:=h' }):aS (aY prog w) A (call (.type "zip") [.ref l1,.ref l2]) Q E s:=by
 refine NX F.called_zip (by decide) (F.typeCall_zip_2 _ _) (F.newCall_zip_2 _ _) (λobj=>F.args_object_init_3 obj _ _) F.entry_zip_new (aTf cU dA l1 l2 xs ys) ⟨hl1,hl2,?_⟩;have z1:(zA cU s.heap l1).objs.size=s.heap.objs.size+1:=rR ..;have z2:(zB cU dA s.heap l1 l2).objs.size=s.heap.objs.size+2:=by rw[rR,z1]
 have z3:(zC cU dA s.heap l1 l2).objs.size=s.heap.objs.size+3:=by rw[rR,z2]
 have z4:(zD cU dA s.heap l1 l2).objs.size=s.heap.objs.size+4:=by rw[rR,z3]
 have g5:(zE cU dA s.heap l1 l2).get? (zD cU dA s.heap l1 l2).objs.size=aA _:=gA _ rfl;have g4:(zE cU dA s.heap l1 l2).get? (zC cU dA s.heap l1 l2).objs.size=aA _:=cT _ (gA _ rfl);have g3:(zE cU dA s.heap l1 l2).get? (zB cU dA s.heap l1 l2).objs.size=aA _:=cT _ (cT _<|gA _ rfl);have up:∀c o,(zB cU dA s.heap l1 l2).get? c=aA o->(zE cU dA s.heap l1 l2).get? c=aA o:=λc o e=>cT _ (cT _<|cT _ e);have i2:kZ dA (zE cU dA s.heap l1 l2) (zA cU s.heap l1).objs.size l2 0:=(AS dA (zA cU s.heap l1) l2).at λo e=>up _ o e;have i1:kZ cU (zE cU dA s.heap l1 l2) s.heap.objs.size l1 0:=(AS cU s.heap l1).at λo e=>up _ o (cT _ e);show _/\_;rw[z2,z3,z4]at g5;rw[z1,z2]at g3;rw[z3]at g4;rw[z1]at i2;rw[z4];exact⟨⟨_,g5,rfl⟩,h _ g5 g3 g4 i1 i2 λc o e=>up c o (cT _<|cT _ e)⟩
variable {TI TO:Addr}{xs ys:Yd}{k:Nat}{a b x y:Value}
theorem S0{Q:Xy->aI->Prop}(D:mn z TI TO i1 i2 l1 l2)(P1:jJ prog w A.in1 i1 l1 S1 xs)(P2:jJ prog w A.in1 i2 l2 S2 ys)(hz:mF s.heap z TI TO .none)(hTI:jA s.heap TI (.ref i1) (.ref i2))(hTO:jA s.heap TO a b)
  (h1:S1 k s.heap) (h2:S2 k s.heap) (hx:xs[k]?=aA x) (hy:ys[k]?=aA y)
  (hQ:∀h',mF h' z TI TO (yI s.heap.objs.size)->jA h' TO x y->S1 (k+1) h'->S2 (k+1) h'->jA h' s.heap.objs.size x y ->
   (∀c o,c≠z->c≠TO->c≠i1->c≠i2->s.heap.get? c=aA o->h'.get? c=aA o)->Q (aA<|.ref s.heap.objs.size) { s with heap:=h' }):aS (aY prog w) A (tS<|.ref z) Q E s:=by
 have d:s.TypeIs (.ref z) "zip":=⟨_,hz,rfl⟩;exact aQ (OH (ei d Dh
  (fc Dh d KG (aTd D P1 P2 hz hTI hTO h1 h2 hx hy λh' a1 a2 e f g h=>cB (hQ h' a1 a2 e f g h))<|KD _)))
theorem YU{Q:Xy->aI->Prop}(D:mn z TI TO i1 i2 l1 l2)(P1:jJ prog w A.in1 i1 l1 S1 xs)(P2:jJ prog w A.in1 i2 l2 S2 ys)(hz:mF s.heap z TI TO .none)(hTI:jA s.heap TI (.ref i1) (.ref i2))(hTO:jA s.heap TO a b)
  (h1:S1 k s.heap) (h2:S2 k s.heap) (rf:xs[k]?=aD\/ys[k]?=aD)
  (hQ:∀h',(∀c o,c≠z->c≠TO->c≠i1->c≠i2->s.heap.get? c=aA o->h'.get? c=aA o)->Q aD { s with heap:=h' }):aS (aY prog w) A (tS<|.ref z) Q E s:=by
 have d:s.TypeIs (.ref z) "zip":=⟨_,hz,rfl⟩;refine aQ (OH (ei d Dh
  (fc Dh d KG (aTe D P1 P2 hz hTI hTO h1 h2 rf λh' e f he=>?_)<|KD _)))
 obtain⟨o,g,h⟩:=he;exact aQ<|wpAny_isInstance ⟨o,g,h⟩ isSubtype_stop<|cB<|hQ _ f
end
def kU(n:Nat):gC:=λi h=>match h.ob n with
 |some (.lst _ xs)=>aA xs[i]?
 |_=>aD
def lM(xs:Hr):gC:=λi _=>aA xs[i]?
def nL(lo:Int)(n:Nat):gC:=λi _=>aA (if i<n then aA (.int<|lo+i) else aD)
def lD(it:gC):gC:=λi h=>match it i h with
 |some (aA v)=>aA (aA<|.tup [.int i,v])
 |some aD=>aA aD
 |none=>aD
def qF(v:AV):M gC:=λh=>match v with
 |.tup xs=>.ok (lM xs) h
 |.ref n=>match h.ob n with
  |some (.lst _ _)=>.ok (kU n) h
  |_=>.bad
 |_=>.bad
noncomputable abbrev zP:=qF
def mC(j:Int):Bool:=decide (-(2 ^ 62)<=j)&&decide (j<2 ^ 62)
def zj(xs:Hr):M gC:=λh=>match xs with
 |[.int j]=>if mC j=aB then .ok (nL 0 j.toNat) h else .bad
 |_=>.bad
def zk(xs:Hr):M gC:=λh=>match xs with
 |[.int i,.int j]=>if(mC i&&mC j)=aB then .ok (nL i (j-i).toNat) h else .bad
 |_=>.bad
def zc(v:AV):M gC:=λh=>match v with
 |.tup xs=>.ok (lD<|lM xs) h
 |.ref n=>match h.ob n with
  |some (.lst _ _)=>.ok (lD<|kU n) h
  |_=>.bad
 |_=>.bad
section
variable {a b l:aK}{tl:TE}
theorem GG{a:Addr}(q:Y[n]?=aA a):RI T Y H (kU n) (Fj T.K a):=by
 intro b h t i e R;have j:=e.pre n a q;unfold kU;cases o:h.ob n with
 |none=>exact⟨λz=>(by cases z),λv z=>(cJ z)⟩|some u=>
  cases u with
  |lst m xs=>
   obtain⟨c,d,r⟩:=rB R o j;refine⟨λz=>⟨c,d,?_⟩,λv z=>?_⟩
   .have f:=dI z;rw[<- r.length];exact List.getElem?_eq_none_iff.mp f
   .have f:=dI z;obtain⟨y,g,l⟩:=r.get f;refine⟨⟨c,y,d,g⟩,λx w p=>?_⟩;obtain⟨s,k⟩:=p;subst s;have:=k c d;rw[g]at this;cases this;exact⟨b,.refl,R,l⟩
  |aN _=>exact⟨λz=>(by cases z),λv z=>(cJ z)⟩|dF _=>exact⟨λz=>(by cases z),λv z=>(cJ z)⟩|ins _ _=>exact⟨λz=>(by cases z),λv z=>(cJ z)⟩
theorem GI{a:Addr}(hq:eC T.K H a ys)(r:bE T Y H xs ys):RI T Y H (lM xs) (Fl T.K a):=by
 intro c m n i e R;have g:=r.ext e;have b:=e.ur hq;refine⟨λz=>⟨ys,b,?_⟩,λv z=>?_⟩
 .have d:=dI z;rw[<- r.length];exact List.getElem?_eq_none_iff.mp d
 .have d:=dI z;obtain⟨y,f,h⟩:=g.get d;refine⟨⟨ys,y,b,f⟩,λx o j=>?_⟩;obtain⟨l,k⟩:=j;subst l;have:=k ys b;rw[f]at this;cases this;exact⟨c,.refl,R,h⟩
theorem GH{lo:Int}:RI T Y H (nL lo n) (oh lo n):=by
 intro a g h i e R;unfold nL;by_cases b:i<n
 .rw[if_pos b];refine⟨λz=>(by cases z),λv z=>⟨b,λx j c=>?_⟩⟩;cases z;obtain⟨d,f⟩:=c;subst d;subst f;exact⟨a,.refl,R,.int _⟩
 .rw[if_neg b];exact⟨λ_=>(by show n<=i;lia),λv z=>(by cases z)⟩
def F3(K:bJ)(tl:TE):TI:=λZ H R=>tl Z H λx H1=>
 ∃a,x = .ref a/\(((∃xs,dM K H1 a xs)/\R (Fj K a) H1)\/((∃xs,eC K H1 a xs)/\R (Fl K a) H1))
theorem aBu(hl:PE X l tl):PI X tg l (F3 X.K tl):=by
 intro ap s g H R I h;refine bC (hl ap s g H _ I h) λv s1 ⟨x,H1,c,i,j⟩=>?_;obtain⟨a,e,q⟩:=j;subst e;cases i;rcases q with⟨⟨xs,d⟩,q⟩|⟨⟨xs,d⟩,q⟩
 .obtain⟨f,k,p,m⟩:=c.list d;refine na p.isList ?_;refine⟨s1.heap.objs.size,[s1.heap.objs.size],_,_,H1,rfl,c.kept λb o e=>cT _ e,aOn a _,⟨_,gA _ rfl,rfl,rfl⟩,λb hb=>?_,q⟩;have e:b=s1.heap.objs.size:=by simpa using hb
  subst e;exact c.uG (aV _)<|c.aZ.fresh<|aV _
 .obtain⟨f,k,p,m⟩:=c.tuple d;refine wm (p) ?_;refine⟨s1.heap.objs.size,[s1.heap.objs.size],_,_,H1,rfl,c.kept λb o e=>cT _ e,aOq a _,⟨_,gA _ rfl,rfl,rfl⟩,λb hb=>?_,q⟩;have e:b=s1.heap.objs.size:=by simpa using hb
  subst e;exact c.uG (aV _)<|c.aZ.fresh<|aV _
theorem xM:QI X T E tg e (λ_=>M.bad):=⟨λ_ _ _=>False,λ_ _ _ _ _ _ h=>h.elim,λ_ _ _ _ _ _ _ _ w=>w⟩
theorem ER(hK:X.K=T.K)(ha:QE X T E l m):QI X T E tg l (λZ=>(m Z).bind zP):=by
 obtain⟨tl,pl,f⟩:=ha;refine⟨_,aBu pl,λg Z b h H Q R S w=>f g Z b h H _ R S (W.bind w λi x p j H1 r c d w1=>?_)⟩;cases x with
 |tup xs=>
  cases d with
  |tup e hr=>exact⟨_,rfl,.inr ⟨⟨_,hK▸e⟩,by rw[hK];exact W.here w1 c<|GI e hr⟩⟩
 |ref n=>
  cases d with
  |@ref _ a q=>
   simp only[qF]at w1;cases o:j.ob n with
   |none=>rw[o]at w1;cases w1|some u=>
    rw[o]at w1;cases u with
    |lst mu xs=>obtain⟨k,g1,s⟩:=rB c o q;exact⟨a,rfl,.inl ⟨⟨k,hK▸g1⟩,by rw[hK];exact W.here w1 c<|GG q⟩⟩
    |aN _=>cases w1|dF _=>cases w1|ins _ _=>cases w1
 |_=>cases w1
theorem Nm(h:mC j=aB):-(2 ^ 62)<=j/\j<2 ^ 62:=by simp only[mC,bT,decide_eq_true_eq]at h;exact h
theorem aFh(hg:Gl X "range") (hm:X.mg "range"=aD) (ha:QA X T E [a] mr) (hs:bY a=aB):QI X T E tg (.Call (.Name "range" p) [a] [] pos) (λZ=>(mr Z).bind zj):=by
 obtain⟨tr,pr,f⟩:=ha;refine⟨_,aBs hg hm pr (by rw[fE hs];rfl),λg Z b h H Q R S w=>f g Z b h H _ R S (W.bind w λi xs k d H1 q l m w1=>?_)⟩;cases m with
 |nil=>cases w1|cons e rs=>
  cases rs with
  |nil=>
   cases e with
   |int j=>
    simp only[zj]at w1;by_cases c:mC j=aB
    .rw[if_pos c]at w1;obtain⟨d,n⟩:=Nm c;exact⟨j,rfl,d,n,W.here w1 l GH⟩
    .rw[if_neg c]at w1;cases w1
   |_=>exact w1.elim
  |cons r o=>cases e<;>exact w1.elim
theorem aFi(hg:Gl X "range") (hm:X.mg "range"=aD) (ha:QA X T E [a,b] mr) (hs:bY a=aB) (hs2:bY b=aB):QI X T E tg (.Call (.Name "range" p) [a,b] [] pos) (λZ=>(mr Z).bind zk):=by
 obtain⟨tr,pr,l⟩:=ha;refine⟨_,aBt hg hm pr (by rw[fE hs,fE hs2];rfl) (by rw[fE hs2];rfl),λm Z d h H Q R S w=>l m Z d h H _ R S (W.bind w λn xs o g H1 v q r w1=>?_)⟩;cases r with
 |nil=>cases w1|cons e rs=>
  cases rs with
  |nil=>cases e<;>cases w1|cons k f=>
   cases f with
   |nil=>
    cases e with
    |int i=>
     cases k with
     |int j=>
      simp only[zk]at w1;by_cases c:(mC i&&mC j)=aB
      .rw[if_pos c]at w1;rw[bT]at c;obtain⟨g,s⟩:=Nm c.1;obtain⟨t,u⟩:=Nm c.2;exact⟨i,j,rfl,⟨g,s,t,u⟩,W.here w1 q GH⟩
      .rw[if_neg c]at w1;cases w1
     |_=>cases w1
    |_=>cases w1
   |cons _ _=>cases e<;>first|cases w1|(cases k<;>cases w1)
def wz(kd:Bool)(K:bJ)(a:Addr):It:=
 ⟨λi H=>∃xs x,lC kd K H a xs/\xs[i]?=aA x,λi H x H'=>∃T y,H T=aD/\x = .ref T/\H'=bG H T (.tup [.int i,y])/\∀xs,lC kd K H a xs->xs[i]?=aA y,λi H=>∃xs,lC kd K H a xs/\xs.length<=i⟩
theorem IG{Z:L2.St}{ch:Xx}{Tt:Addr}{its:Hs}(I:Inv X ap Z H s)(hf:∀b∈ch,lS X ap H b)
  (k:∀b o,b∉ch->s.heap.get? b=aA o->h'.get? b=aA o)(th:∀b∈ch,∃o,h'.get? b=aA o)(hT:s.heap.objs.size<=Tt)(ht:IsTup h' Tt its.toArray)(rv:Vals ys its)(hz:ys.length<=sizeLine) :
  Inv X ap Z (bG H Tt<|.tup ys) { s with heap:=h',toks:=tk }:=by
 have hn:=I.aZ.fresh hT;have a:∀b u,H b=aA u->b∉ch:=λb u e hb=>by rw[(hf b hb).1]at e;exact cJ e
 have d:=λhb=>(hf _ hb).2.1 rfl;refine I.step (λb hb=>⟨(hf b hb).2.2.2.1,(hf b hb).2.1,(hf b hb).2.2.2.2.1,(hf b hb).2.2.2.2.2⟩) (λb o _ _ hc e _=>k b o hc e) (λb o _ _ hc e _=>⟨o.slots,k b o hc e⟩)
  (λb o _ e n=>by rw[bZ (bQ<|bA (cY e) hT)];exact n) (λb o hc e=>⟨o,k b o hc e⟩)
  (λb xs e=>by rw[bZ (jT e hn)];exact e) (λb o u e=>by rw[bZ (jT e hn)];exact e) (λb ps e=>⟨#[],by rw[bZ (jT e hn),e];simp⟩) (λm hm=>?_) (λb u e=>?_) I.bare
 .obtain⟨o,f,g,h,r⟩:=hm;exact⟨o,f,g,k _ o d h,r⟩
 .by_cases hb:b=Tt
  .subst hb;rw[gG]at e;cases e;exact⟨hz,its,rv,ht⟩
  .rw[bZ hb]at e;refine(I.aZ b u e).vC (λc v hc q=>k c v ?_ q) (λc q=>by rw[bZ (jT q hn)];exact q) λc xs q=>by rw[bZ (jT q hn)];exact q
   rcases hc with rfl|hc
   .exact a _ _ e
   .exact a _ _ hc
theorem IF{Z:L2.St}{ch:Xx}(I:Inv X ap Z H s)(hf:∀b∈ch,lS X ap H b)
  (k:∀b o,b∉ch->s.heap.get? b=aA o->h'.get? b=aA o):Inv X ap Z H { s with heap:=h',toks:=tk }:=by
 have a:∀b u,H b=aA u->b∉ch:=λb u e hb=>by rw[(hf b hb).1]at e;exact cJ e
 have d:=λhb=>(hf _ hb).2.1 rfl;refine I.step (λb hb=>⟨(hf b hb).2.2.2.1,(hf b hb).2.1,(hf b hb).2.2.2.2.1,(hf b hb).2.2.2.2.2⟩) (λb o _ _ hc e _=>k b o hc e) (λb o _ _ hc e _=>⟨o.slots,k b o hc e⟩)
  (λb o _ e n=>n) (λb o hc e=>⟨o,k b o hc e⟩) (λb xs e=>e) (λb o u e=>e) (λb ps e=>⟨#[],by rw[e];simp⟩) (λm hm=>?_) (λb u e=>?_) I.bare
 .obtain⟨o,f,g,h,r⟩:=hm;exact⟨o,f,g,k _ o d h,r⟩
 .refine(I.aZ b u e).vC (λc v hc q=>k c v ?_ q) (λc q=>q) λc xs q=>q;rcases hc with rfl|hc
  .exact a _ _ e
  .exact a _ _ hc
theorem vB{Z:L2.St}{kd:Bool}{l:Addr}{xs:Xw}(I:Inv X ap Z H s)(h:lC kd X.K H l xs):∃its:Hs,Vals xs its/\iK kd s.heap l its.toArray:=by
 cases kd with
 |true=>obtain⟨its,a,p,_⟩:=I.list h;exact⟨its,a,p.isList⟩|false=>obtain⟨its,a,p,_⟩:=I.tuple h;exact⟨its,a,p⟩
theorem Oa{Z:L2.St}{kd:Bool}{l:Addr}{xs:Xw}(I:Inv X ap Z H s)(h:lC kd X.K H l xs)(h':lC kd X.K H l ys):xs=ys:=by
 cases kd with
 |true=>exact I.BX h h'|false=>exact I.IE h h'
theorem iK.at{kd:Bool}{h h':bI}{l:Addr}{items:Yd}(st:iK kd h l items)(f:∀o,h.get? l=aA o->h'.get? l=aA o):iK kd h' l items:=by
 cases kd with
 |true=>exact Heap.IsList.at st f|false=>obtain⟨o,a,r⟩:=(st);exact⟨o,f _ a,r⟩
theorem YL(hh:A.handled=aD)(kd:Bool)(it l:Addr)(hne:l≠it)(items:Yd):Draws prog w A it [it,l] items.size (λi v=>items[i]?=aA v) (λi h=>kZ kd h it l i/\iK kd h l items):=by
 cases kd with
 |true=>exact Draws.list hh it l hne items|false=>exact YN hh it l hne items
theorem YM(hh:A.handled=aD)(kd:Bool)(it l:Addr)(items:Yd)(n:Nat)(hn:items[n]?=aD):Draws prog w A it [it,l] n (λ_ _=>True) (λi h=>i=n/\kZ kd h it l n/\iK kd h l items) where
 live:=λ_ _ st=>st.2.1.live.elim λo e=>⟨o,e.1⟩
 frame:=λ_ _ _ st a=>⟨st.1,st.2.1.at λo e=>a it (.head _) o e,st.2.2.at λo e=>a l (.tail _<|.head _) o e⟩
 item:=λi s Q E c st d=>absurd c (by rw[st.1];exact oP _)
 done:=λs Q E st b=>by
  cases kd with
  |true=>exact ON hh st.2.1 st.2.2 hn b|false=>exact CQ hh st.2.1 st.2.2 hn b
theorem aOm{K:bJ}{k:Nat}(kd:Bool)(a en it:Addr)(h1:en≠it)(h2:a≠en)(h3:a≠it) :
  Turn P w K (.Tuple elts k tp) (wz kd K a) [en,it] en (λi h=>(∃old,IsEnum h en it i old)/\kZ kd h it a i) where
 mem:=.head _
 obj:=λi h st b hb=>by
  obtain⟨⟨old,he⟩,g⟩:=st;rcases List.mem_cons.mp hb with rfl|hb
  .exact⟨_,he,λv z=>by cases z⟩
  .cases List.mem_singleton.mp hb;exact g.live
 keep:=λi h F st k=>⟨st.1.elim λold he=>⟨old,k en (.head _) _ he⟩,st.2.at λo e=>k it (.tail _<|.head _) o e⟩
 item:=by
  intro X G hw J L i ap s V H E I B st M;subst G hw J;obtain⟨xs,x,C,D⟩:=M;obtain⟨c,N,p⟩:=vB I C;obtain⟨u,hu,Y⟩:=N.get D;have m:c.toArray[i]?=aA u:=by simpa
  have W:=WalksT.enumerateD (YL (prog:=X.prog) (w:=X.w) (A:=Around.in1 _) (I.ok.hd L) kd it a h3 c.toArray) en h1 (by simp[h1,h2.symm]) (by simp);refine W.item i s _ _ (Array.getElem?_eq_some_iff.mp m).1 ⟨st.1,st.2,p⟩ λj vals F tk Z O n d kk=>?_;obtain⟨t,x',R,rfl⟩:=Z;cases m.symm.trans R;refine⟨.ref j,rfl,?_⟩;refine W.go elts k tp i j { s with heap:=F,toks:=tk } _ _ d λq S r=>?_;obtain⟨y,f,hl2⟩:=S;have l:IsTup q j #[.int i t,u]:=n.elim λo e=>⟨o,r _ _ (W.apart i j _ d) e.1,e.2⟩;have I2:Inv X ap V (bG H j<|.tup [.int i,x]) { s with heap:=q,toks:=tk }:=IG I B (λb o hb e=>r b o hb (kk b o hb e)) (λb hb=>by
   rcases List.mem_cons.mp hb with rfl|hb
   .exact y.elim λ_ he=>⟨_,he⟩
   .cases List.mem_singleton.mp hb;exact f.live.elim λo e=>⟨o,e.1⟩) O l (.cons ⟨t,rfl⟩<|.cons Y .nil) (by show 2<=sizeLine;decide)
  refine⟨.ref j,_,I2,rfl,⟨j,x,I.aZ.fresh O,rfl,rfl,λzs T=>by rw[Oa I T C];exact D⟩,⟨y,f⟩,λb hb=>?_⟩;have U:b<s.heap.objs.size:=by
   rcases List.mem_cons.mp hb with rfl|hb
   .exact st.1.elim λ_ he=>cY he
   .cases List.mem_singleton.mp hb;exact st.2.live.elim λ_ e=>cY e.1
  rw[bZ (bQ<|bA U O)];exact(B b hb).1
 done:=by intro X G hw J L i ap s V H E I B st M;subst G hw J;obtain⟨xs,C,D⟩:=M;obtain⟨c,N,p⟩:=vB I C;obtain⟨⟨old,he⟩,g⟩:=st;exact wpAny_pyNext_enum_endD (YM (A:=Around.in1 _) (I.ok.hd L) kd it a c.toArray i (by rw[LP];exact LM<|N.length▸D)) he ⟨rfl,g,p⟩ λF eb=>⟨rfl,IF I B λb o hb e=>eb b o (λz=>hb (z ▸ .tail _ (.head _))) e⟩
 self:=λA i s Q E st h=>st.1.elim λ_ he=>OO he h
def E9(K:bJ)(ta:TA):TI:=λZ H R=>ta Z H λvs H1=>∃kd a,vs=[.ref a]/\(∃xs,lC kd K H1 a xs)/\R (wz kd K a) H1
theorem VZ{E:Value->aI->Prop}{kd:Bool}{l:Addr}{Q:Value->aI->Prop}(v1:iK kd s.heap l items)
  (h:∀h',IsEnum h' (s.heap.objs.size+1) s.heap.objs.size 0 .none->kZ kd h' s.heap.objs.size l 0->h'.objs.size=s.heap.objs.size+2->(∀b o,s.heap.get? b=aA o->h'.get? b=aA o)->Q (.ref<|s.heap.objs.size+1) { s with heap:=h' }):aS (aY prog w) A (call (.type "enumerate") [.ref l]) Q E s:=by
 cases kd with
 |true=>exact call_enumerate_list v1 h|false=>exact WA v1 h
theorem iK.lt{kd:Bool}{h:bI}{l:Addr}(v:iK kd h l items):l<h.objs.size:=by
 cases kd with
 |true=>obtain⟨o,e,_⟩:=(v);exact cY e|false=>obtain⟨o,e,_⟩:=(v);exact cY e
theorem aBr{k:Nat}{ta:TA}(hg:Gl X "enumerate")(hm:X.mg "enumerate"=aD)(ha:PA X [a] ta)(hs:eF [a] X.env=[(aH,eval a X.env)]):PI X (.Tuple elts k tp) (.Call (.Name "enumerate" p) [a] [] pos) (E9 X.K ta):=by
 intro ap s f H R I h;refine Call_<|xD I hg hm boot_enumerate<|vv (bC (ha pos ap s f H _ I h) λus s1 ⟨o,H1,c,g,i⟩=>?_) hs rfl;obtain⟨kd,a,e,⟨xs,j⟩,q⟩:=i;subst e;cases g with
 |cons r l=>
  cases l;cases r;obtain⟨m,t,p⟩:=vB c j;refine VZ p λu he d n kk=>OO he ?_;refine⟨s1.heap.objs.size+1,[s1.heap.objs.size+1,s1.heap.objs.size],_,_,H1,rfl,c.kept kk,aOm kd a _ _ (kL<|cF _) (bQ<|iJ p.lt) (bQ p.lt),⟨⟨_,he⟩,d⟩,λb hb=>?_,q⟩;rcases List.mem_cons.mp hb with rfl|hb
  .exact c.uG (hA _)<|c.aZ.fresh<|hA _
  .cases List.mem_singleton.mp hb;exact c.uG (aV _)<|c.aZ.fresh<|aV _
theorem aJw{a:Addr}(q:Y[n]?=aA a):RI T Y H (lD<|kU n) (
wz aB T.K a
):=by
 intro b d f i e R;obtain⟨g,h⟩:=GG q b d f i e R;unfold lD;cases o:kU n i d with
 |none=>exact⟨λz=>(by cases z),λv z=>(by cases z)⟩|some u=>
  cases u with
  |none=>exact⟨λ_=>g o,λv z=>(by cases z)⟩|some v=>refine⟨λz=>(by cases z),λp z=>?_⟩;cases z;obtain⟨g1,g2⟩:=h v o;refine⟨g1,λx r j=>?_⟩;obtain⟨s,y,hn,rfl,rfl,k⟩:=j;obtain⟨c,l,R2,m⟩:=g2 y f ⟨rfl,k⟩;exact⟨c,⟨l.pre,(Ext.jN (Y:=b) hn).tup,(Ext.jN (Y:=b) hn).dD⟩,R2.keep hn,.tup (.of gG) (.cons (.int _)<|.cons (m.ext<|.jN hn) .nil)⟩
theorem aJx{a:Addr}(hq:eC T.K H a ys)(r:bE T Y H xs ys):RI T Y H (lD<|lM xs) (
wz aH T.K a
):=by
 intro b d f i e R;obtain⟨g,h⟩:=GI hq r b d f i e R;unfold lD;cases o:lM xs i d with
 |none=>exact⟨λz=>(by cases z),λv z=>(by cases z)⟩|some u=>
  cases u with
  |none=>exact⟨λ_=>g o,λv z=>(by cases z)⟩|some v=>refine⟨λz=>(by cases z),λn z=>?_⟩;cases z;obtain⟨g1,g2⟩:=h v o;refine⟨g1,λx p j=>?_⟩;obtain⟨q,y,hn,rfl,rfl,k⟩:=j;obtain⟨c,l,R2,m⟩:=g2 y f ⟨rfl,k⟩;exact⟨c,⟨l.pre,(Ext.jN (Y:=b) hn).tup,(Ext.jN (Y:=b) hn).dD⟩,R2.keep hn,.tup (.of gG) (.cons (.int _)<|.cons (m.ext<|.jN hn) .nil)⟩
theorem aFg{k:Nat}(hK:X.K=T.K)(hg:Gl X "enumerate")(hm:X.mg "enumerate"=aD)(ha:QE X T E a m)(hs:bY a=aB) :
  QI X T E (.Tuple elts k tp) (.Call (.Name "enumerate" p) [a] [] pos) (λZ=>(m Z).bind zc):=by
 obtain⟨ta,pa,f⟩:=ha;refine⟨_,aBr hg hm (xH pa ao<|fE hs) (by rw[fE hs];rfl),λg Z b h H Q R S w=>f g Z b h H _ R S (W.bind w λi x r j H1 s c d w1=>?_)⟩;cases x with
 |tup xs=>
  cases d with
  |tup e hr=>exact⟨aH,_,rfl,⟨_,hK▸e⟩,by rw[hK];exact W.here w1 c<|aJx e hr⟩
 |ref n=>
  cases d with
  |@ref _ a q=>
   simp only[zc]at w1;cases o:j.ob n with
   |none=>rw[o]at w1;cases w1|some u=>
    rw[o]at w1;cases u with
    |lst mu xs=>obtain⟨l,g1,t⟩:=rB c o q;exact⟨aB,a,rfl,⟨l,hK▸g1⟩,by rw[hK];exact W.here w1 c<|aJw q⟩
    |aN _=>cases w1|dF _=>cases w1|ins _ _=>cases w1
 |_=>exact w1.elim
def iP(xs:Hr)(lo hi:Hq):Hr:=(xs.drop<|HT.cC xs.length 0 lo).take (HT.cC xs.length xs.length hi-HT.cC xs.length 0 lo)
theorem Wz(r:bE T Y H xs ys)(lo hi:Hq):bE T Y H (iP xs lo hi) (gh ys lo hi):=by unfold iP gh;rw[<- r.length];exact(r.drop _).take _
def qL(x:AV)(lo hi:Hq):M AV:=λh=>match x with
 |.ref n=>match h.ob n with
  |some (.lst _ xs)=>kB (iP xs lo hi) h
  |_=>.bad
 |.tup xs=>if HT.cC xs.length 0 lo=0/\HT.cC xs.length xs.length hi=xs.length then .bad else .ok (.tup<|iP xs lo hi) h
 |_=>.bad
def OU:Rl Hq Hq:=λ_ _ a b=>a=b
def QO(X:Cx)(T:Tab)(E:XK)(o:Option aK)(m:aF->M Hq):Prop:=
 ∃t,PO X o t/\∀Y Z Z' h H Q,bR T Y h H->cW T Y H Z Z'->W T OU (m Z h) Y H Q E->t Z' H Q
def Ij(v:AV):M Hq:=λh=>match v with
 |.int i=>.ok (aA i) h
 |_=>.bad
theorem aIc:QO X T E aD (λ_=>M.ret aD):=⟨_,aCj,λb c a h H Q R S w=>W.here w R rfl⟩
theorem EY(ha:QE X T E a m):QO X T E (aA a) (λZ=>(m Z).bind Ij):=by
 obtain⟨ta,pa,c⟩:=ha;refine⟨_,aCk pa,λd Z b h H Q R S w=>c d Z b h H _ R S (W.bind w λe x j k H1 l f g w1=>?_)⟩;cases x with
 |int i=>cases g;exact⟨i,rfl,W.here w1 f rfl⟩|_=>exact w1.elim
theorem aEz(hK:X.K=T.K){lo hi:Option aK}{ml mh:aF->M Hq}(ha:QE X T E a m)(hl:QO X T E lo ml)(hh:QO X T E hi mh) :
  QE X T E (.Subscript a (.Slice lo hi aD p2) pos) (λZ=>(m Z).bind λx=>(ml Z).bind λl=>(mh Z).bind λu=>qL x l u):=by
 obtain⟨ta,pa,r⟩:=ha;obtain⟨tl,pl,s⟩:=hl;obtain⟨th,t,v⟩:=hh;refine⟨_,aBg (aKt.or aKu) pa pl t,λy Z b h H Q R S w=>r y Z b h H _ R S (W.bind w λd x x' z H1 j A q1 w1=>?_)⟩;refine s d Z b z H1 _ A (S.ext j)<|W.bind w1 λe l l' h2 H2 k R2 q2 w2=>?_;refine v e Z b h2 H2 _ R2 ((S.ext j).ext k)<|W.bind w2 λρ3 u u' h3 H3 e3 f q3 w3=>?_;cases(q2);cases(q3);have c:=(q1.ext k).ext e3;cases x with
 |ref n=>
  cases c with
  |@ref _ a q=>
   simp only[qL]at w3;cases o:h3.ob n with
   |none=>rw[o]at w3;cases w3|some ob=>
    rw[o]at w3;cases ob with
    |lst mu xs=>obtain⟨g,g1,r1⟩:=rB f o q;exact .inl ⟨a,g,rfl,hK▸g1,λp i=>xG f (Wz r1 l u) i w3⟩
    |aN _=>cases w3|dF _=>cases w3|ins _ _=>cases w3
 |tup xs=>
  cases c with
  |@tup a _ g hq hr=>
   simp only[qL]at w3;by_cases hw:HT.cC xs.length 0 l=0/\HT.cC xs.length xs.length u=xs.length
   .rw[if_pos hw]at w3;cases w3
   .rw[if_neg hw]at w3;refine .inr ⟨a,g,rfl,hK▸hq,hr.length▸hw,λp i=>Ao f (Wz hr l u) i w3⟩
 |_=>exact w3.elim
def qv(xs:Hr):M AV:=λh=>match xs with
 |[.str z]=>if z.length<=sizeLine then .ok (.int z.length) h else .bad
 |[x]=>match dW h x with
  |some ys=>.ok (.int ys.length) h
  |none=>.bad
 |_=>.bad
def Zk(xs:Hr):M AV:=λh=>match xs with
 |[.int i]=>.ok (.int i) h
 |[.bl k]=>.ok (.int<|if k then 1 else 0) h
 |_=>.bad
def xA:Hr->Option (Int×Int)
 |[.int i,.int j]=>aA (i,j)
 |_=>aD
def lX:Hr->Option AV
 |[x]=>aA x
 |_=>aD
def Zo(xs:Hr):M AV:=λh=>match xA xs with
 |some (i,j)=>.ok (.int<|if j<i then j else i) h
 |none=>.bad
def Zn(xs:Hr):M AV:=λh=>match xA xs with
 |some (i,j)=>.ok (.int<|if j > i then j else i) h
 |none=>.bad
def yz(xs:Hr):M AV:=λh=>match xA xs with
 |some (i,j)=>if pV j=aB then .ok (.tup [.int (i / j),.int (i%j)]) h else .bad
 |none=>.bad
def sQ:aP->AV
 |.inl i=>.int i
 |.inr x=>.str x
theorem BA(k:aP):aW T Y H (sQ k) (kV k):=by
 cases k with
 |inl i=>exact .int i|inr x=>exact .str x
theorem BE{T:Tab}{Y:Xx}{H:Hp}{ys:Xw}:∀{kvs:List (aP×AV)},bE T Y H (kvs.map (·.2)) ys->bE T Y H (kvs.map λp=>sQ p.1) (((kvs.map (·.1)).zip ys).map λp=>kV p.1)
 |[],.nil=>.nil
 |p::r,.cons h t=>.cons (BA p.1) (BE t)
def Hg(h:AH):AV->Option (List AV)
 |.ref n=>match h.ob n with
  |some (.aN kvs)=>aA (kvs.map λp=>sQ p.1)
  |_=>aD
 |_=>aD
def zm(xs:Hr):M AV:=λh=>match (lX xs).bind (dW h) with
 |some ys=>.ok (.tup ys) h
 |none=>.bad
def qp(xs:Hr):M AV:=λh=>match lX xs with
 |some (.ref n)=>match h.ob n with
  |some (.aN kvs)=>.ok (.ref h.nx) (h.new<|.aN kvs)
  |_=>.bad
 |_=>.bad
def zQ(xs:Hr):M AV:=λh=>match (lX xs).bind (dW h) with
 |some ys=>kB ys h
 |none=>match (lX xs).bind (Hg h) with
  |some ys=>kB ys h
  |none=>.bad
theorem F8(h:xA xs=aA (i,j)):xs=[.int i,.int j]:=by
 unfold xA at h;split at h
 .cases h;rfl
 .exact cJ h
theorem Lj(h:lX xs=aA x):xs=[x]:=by
 unfold lX at h;split at h
 .cases h;rfl
 .exact cJ h
theorem XG(hK:X.K=T.K):nU X T E (.builtin "len") qv:=by
 refine⟨_,WG.or WH,λf h H xs g Q R r w=>?_⟩;cases r with
 |nil=>cases w|@cons x i _ _ d rs=>
  cases rs with
  |nil=>
   have go:(∀z,x ≠ .str z)->(∃p a,[i]=[.ref p]/\(dM X.K H p a\/eC X.K H p a)/\Q (.int a.length) H):=λj=>by
    have b:W T (aW T) (match dW h x with
     |some a=>Res.ok (.int a.length) h
     |none=>.bad) f H Q E:=by
      cases x with
      |str z=>exact absurd rfl<|j z|_=>exact w
    cases o:dW h x with
    |none=>rw[o]at b;cases b|some a=>rw[o]at b;obtain⟨p,zs,e,k,hr⟩:=jg R d o;refine⟨p,zs,by rw[e],hK▸k,?_⟩;rw[<- hr.length];exact b.here R<|.int _
   cases x with
   |str z=>
    cases d;simp only[qv]at w;by_cases c:z.length<=sizeLine
    .rw[if_pos c]at w;exact .inr ⟨z,rfl,c,w.here R (.int _)⟩
    .rw[if_neg c]at w;cases w
   |_=>exact .inl (go λz e=>by cases e)
  |cons m l=>cases x<;>exact w.elim
theorem XF:nU X T E (.type "int") Zk:=by
 refine⟨_,WD,λd h H xs b Q R r w=>?_⟩;cases r with
 |nil=>cases w|cons a rs=>
  cases rs with
  |nil=>
   cases a with
   |int i=>exact .inl ⟨i,rfl,W.here w R (.int _)⟩
   |bl k=>exact .inr ⟨k,rfl,W.here w R (.int _)⟩
   |_=>exact w.elim
  |cons e c=>cases a<;>exact w.elim
theorem Hb{f:Value}{k:Int->Int->M AV}{r:Xw->Hp->VK->Prop}(hr:jH X f r)
  (hw:∀Y h H i j Q,bR T Y h H->W T (aW T) (k i j h) Y H Q E->r [.int i,.int j] H Q):nU X T E f (λxs h=>match xA xs with
   |some (i,j)=>k i j h
   |none=>.bad):=by
 refine⟨_,hr,λY h H xs b Q R c w=>?_⟩;cases o:xA xs with
 |none=>simp only[o]at w;exact w.elim|some q=>
  obtain⟨i,j⟩:=q;have e:=F8 o;subst e;cases c with
  |cons d rs=>
   cases d;cases rs with
   |cons g a=>cases g;cases a;exact hw Y h H i j Q R w
theorem XJ(hc:X.calm=aB):nU X T E (.builtin "min") Zo:=Hb (WL hc) λY h H i j Q R w=>⟨i,j,rfl,W.here w R (.int _)⟩
theorem XI(hc:X.calm=aB):nU X T E (.builtin "max") Zn:=Hb (WK hc) λY h H i j Q R w=>⟨i,j,rfl,W.here w R (.int _)⟩
theorem VY:jH X (.builtin "divmod") (λxs H Q=>∃i j,xs=[.int i,.int j]/\(0<j/\j<2 ^ 1000)/\∀p,H p=aD->Q (.ref p) (bG H p<|.tup [.int (i / j),.int (i%j)])):=by intro ap s d H xs us Q I r h;obtain⟨i,j,rfl,⟨a,c⟩,q⟩:=h;obtain⟨u,f,rfl,⟨t,rfl⟩,⟨g,rfl⟩⟩:=xQ r;refine divmod_int (by lia) ?_<|.inl<|NA<|log2_lt c a;rw[Qe i (by omega),KI i (by omega)];have hn:=I.aZ.fresh (aV _);refine⟨.ref s.heap.objs.size,_,?_,rfl,q _ hn⟩;refine I.laid (λb o e=>cT _ e) (aV _) ⟨by simp only[jC];decide,[.int (i / j) s.toks,.int (i%j) (s.toks+1)],.cons ⟨_,rfl⟩ (.cons ⟨_,rfl⟩ .nil),?_⟩;exact⟨_,gA s.heap rfl,rfl,0,rfl⟩
theorem XE:nU X T E (.builtin "divmod") yz:=Hb VY λc h H i j Q R w=>by
 by_cases a:pV j=aB
 .simp only[if_pos a]at w;exact⟨i,j,rfl,Xj a,λp b=>Ao R (.cons (.int _)<|.cons (.int _) .nil) b w⟩
 .simp only[if_neg a]at w;exact w.elim
theorem DC{k:Hr->M AV}(R:bR T Y h H)(r:bE T Y H xs gY)(w:W T (aW T) ((match (lX xs).bind (dW h) with
  |some ys=>k ys h
  |none=>.bad:Res AV)) Y H Q E):∃p ys zs,gY=[.ref p]/\(dM T.K H p zs\/eC T.K H p zs)/\bE T Y H ys zs/\W T (aW T) (k ys h) Y H Q E:=by
 cases a:lX xs with
 |none=>rw[a]at w;cases w|some x=>
  rw[a]at w;simp only[jP]at w;have e:=Lj a;subst e;cases r with
  |cons b rs=>
   cases rs;cases o:dW h x with
   |none=>rw[o]at w;exact w.elim|some ys=>rw[o]at w;obtain⟨p,zs,e,c,hr⟩:=jg R b o;exact⟨p,ys,zs,by rw[e],c,hr,w⟩
theorem XM(hK:X.K=T.K):nU X T E (.type "tuple") zm:=by
 refine⟨_,WR,λc h H xs b Q R r w=>?_⟩;obtain⟨p,d,zs,rfl,hq,hr,a⟩:=DC R r w;rcases hq with hq|hq
 .exact⟨p,zs,rfl,.inl ⟨hK▸hq,λl hl=>Ao R hr hl a⟩⟩
 .exact⟨p,zs,rfl,.inr ⟨hK▸hq,W.here a R (.tup hq hr)⟩⟩
theorem XH(hK:X.K=T.K)(hc:X.calm=aB):nU X T E (.type "list") zQ:=by
 refine⟨_,WJ.or (WI hc),λd h H xs f Q R r w=>?_⟩;unfold zQ at w;cases o:(lX xs).bind (dW h) with
 |some b=>
  have w1:W T (aW T) ((match (lX xs).bind (dW h) with
   |some b=>kB b h
   |none=>.bad:Res AV)) d H Q E:=by rw[o]at w ⊢;exact w
  obtain⟨p,b,zs,rfl,g,hr,i⟩:=DC R r w1;exact .inl ⟨p,zs,rfl,hK▸g,λl hl=>xG R hr hl i⟩
 |none=>
  rw[o]at w;refine .inr ?_;cases c:lX xs with
  |none=>rw[c]at w;cases w|some x=>
   rw[c]at w;simp only[jP]at w;have e:=Lj c;subst e;cases r with
   |cons j rs=>
    cases rs;cases x with
    |ref n=>
     cases j with
     |@ref _ a q=>
      simp only[Hg]at w;cases ob:h.ob n with
      |none=>rw[ob]at w;cases w|some u=>
       rw[ob]at w;cases u with
       |aN k=>obtain⟨s,b,g1,rfl,m⟩:=R.obj n _ a ob q;exact⟨a,_,rfl,g1,λl hl=>xG R (BE m) hl w⟩
       |_=>cases w
    |_=>exact w.elim
theorem XD:nU X T E (.type "dict") qp:=by
 refine⟨_,VX,λm h H xs f Q R r w=>?_⟩;unfold qp at w;cases b:lX xs with
 |none=>rw[b]at w;cases w|some x=>
  rw[b]at w;have e:=Lj b;subst e;cases r with
  |cons g rs=>
   cases rs;cases x with
   |ref n=>
    cases g with
    |@ref _ a q=>
     dsimp only at w;cases ob:h.ob n with
     |none=>rw[ob]at w;cases w|some u=>
      rw[ob]at w;cases u with
      |aN c=>obtain⟨s,i,g1,rfl,j⟩:=R.obj n _ a ob q;refine⟨a,_,rfl,g1,λp d=>?_⟩;obtain⟨k,l⟩:=R.alloc (o:=.aN c) d ⟨_,i,gG,rfl,j.ext (EB d)⟩;refine W.ok w l k<|.ref ?_;rw[<- R.len];simp
      |_=>cases w
   |_=>exact w.elim
theorem aEc{x:Str}{id:String}{g:Hr->M AV} (hc:nU X T E (.builtin id) g) (hg:Gl X x) (hm:X.mg x=aD) (hv:mT x=aA (.builtin id)) (ha:QA X T E (e::es) mr) (hs:(e::es).all bY=aB) (hn:x≠"__name__") (hd:(x==("__debug__":Str))=aH) :
  QE X T E (.Call (.Name x p) (e::es) [] pos) (λZ=>(mr Z).bind g):=by
 obtain⟨r,hr,a⟩:=hc;obtain⟨tr,pr,f⟩:=ha;rw[jX,bT]at hs;exact⟨_,Ay hr hg hm hv pr hn hd (fE hs.1) (tH hs.2),λi Z b h H Q R S w=>f i Z b h H _ R S (W.bind w λc xs d j H1 m k l w1=>a c j H1 xs d Q k l w1)⟩
theorem aEd{x:Str}{id:String}{g:Hr->M AV} (hc:nU X T E (.type id) g) (hg:Gl X x) (hm:X.mg x=aD) (hv:mT x=aA (.type id)) (ha:QA X T E (e::es) mr) (hs:(e::es).all bY=aB) (hn:x≠"__name__") (hd:(x==("__debug__":Str))=aH) :
  QE X T E (.Call (.Name x p) (e::es) [] pos) (λZ=>(mr Z).bind g):=by
 obtain⟨r,hr,a⟩:=hc;obtain⟨tr,pr,f⟩:=ha;rw[jX,bT]at hs;exact⟨_,aAo hr hg hm hv pr hn hd (fE hs.1) (tH hs.2),λi Z b h H Q R S w=>f i Z b h H _ R S (W.bind w λc xs d j H1 m k l w1=>a c j H1 xs d Q k l w1)⟩
end
def Uk(cU dA:Bool)(K:bJ)(a b:Addr):It:=
  ⟨λi H=>∃xs ys x y,lC cU K H a xs/\lC dA K H b ys/\xs[i]?=aA x/\ys[i]?=aA y,
   λi H x H'=>∃T u v,H T=aD/\x = .ref T/\H'=bG H T (.tup [u,v])/\(∀xs,lC cU K H a xs->xs[i]?=aA u)/\∀ys,lC dA K H b ys->ys[i]?=aA v,
   λi H=>∃xs ys,lC cU K H a xs/\lC dA K H b ys/\(xs[i]?=aD\/ys[i]?=aD)⟩
section
variable {a b l:aK}
theorem aOs{K:bJ}{k:Nat}(cU dA:Bool){TI TO:Addr}(D:mn z TI TO i1 i2 l1 l2) :
  Turn P w K (.Tuple elts k tp) (Uk cU dA K l1 l2) [z,TI,TO,i1,i2] z (λi h=>mF h z TI TO .none/\jA h TI (.ref i1) (.ref i2)/\(∃a b,jA h TO a b)/\kZ cU h i1 l1 i/\kZ dA h i2 l2 i) where
 mem:=by simp
 obj:=λi h st b hb=>by
  obtain⟨hz,hTI,⟨a,b',hTO⟩,h1,h2⟩:=st;simp only[rY,oO,or_false]at hb;rcases hb with rfl|rfl|rfl|rfl|rfl
  .exact⟨_,hz,λv q=>by cases q⟩
  .exact⟨_,hTI,λv q=>by cases q⟩
  .exact⟨_,hTO,λv q=>by cases q⟩
  .exact h1.live
  .exact h2.live
 keep:=λi h h' st kk=>by obtain⟨hz,hTI,⟨a,b',hTO⟩,h1,h2⟩:=st;exact⟨kk z (.head _) _ hz,kk TI (.tail _<|.head _) _ hTI,⟨a,b',kk TO (.tail _<|.tail _<|.head _) _ hTO⟩,h1.at λo e=>kk i1 (.tail _<|.tail _<|.tail _<|.head _) o e,h2.at λo e=>kk i2 (.tail _<|.tail _<|.tail _<|.tail _<|.head _) o e⟩
 item:=by
  intro X hP hw hK hc i ap s Z H E I hf st hg;subst hP hw hK;obtain⟨xs,ys,x,y,hq1,hq2,hx,hy⟩:=hg;obtain⟨Jo,rv1,p1⟩:=vB I hq1;obtain⟨Jp,rv2,p2⟩:=vB I hq2;obtain⟨u1,hu1,ru1⟩:=rv1.get hx;obtain⟨u2,hu2,ru2⟩:=rv2.get hy;obtain⟨hz,hTI,⟨a,b',hTO⟩,h1,h2⟩:=id st;have hh:X.A.in1.handled=aD:=I.ok.hd hc;refine S0 D (jJ.kd hh cU D.l1i1 Jo.toArray) (jJ.kd hh dA D.l2i2 Jp.toArray) hz hTI hTO ⟨h1,p1⟩ ⟨h2,p2⟩ (x:=u1) (y:=u2) (by simpa using hu1) (by simpa using hu2) λh' z' t' s1 s2 new kk=>?_;refine⟨_,rfl,?_⟩;refine wpAny_letOwnedTupleGo_zip z' λh'' z'' sb=>?_;have lt:∀{c:Addr}{o:Obj},s.heap.get? c=aA o->s.heap.objs.size≠c:=λe=>kL (cY e);have keep2:∀c o,c∉[z,TI,TO,i1,i2]->s.heap.get? c=aA o->h''.get? c=aA o:=λc o hc e=>by simp only[rY,oO,or_false,not_or]at hc;exact sb.extBut _ _ hc.1<|kk c o hc.1 hc.2.2.1 hc.2.2.2.1 hc.2.2.2.2 e
  have hTI2:=sb.extBut _ _ D.TIz (kk _ _ D.TIz D.TITO D.TIi1 D.TIi2 hTI);have hTO2:=sb.extBut _ _ D.TOz t';have s1':=s1.1.at λo e=>sb.extBut _ _ D.i1z e;have s2':=s2.1.at λo e=>sb.extBut _ _ D.i2z e;have new2:=sb.extBut _ _ (lt hz) new;have I2:=IG (tk:=s.toks) (its:=[u1,u2]) I hf keep2 (λc hc=>by
   simp only[rY,oO,or_false]at hc;rcases hc with rfl|rfl|rfl|rfl|rfl
   .exact⟨_,z''⟩
   .exact⟨_,hTI2⟩
   .exact⟨_,hTO2⟩
   .exact let ⟨o,e,_⟩:=s1'.live;⟨o,e⟩
   .exact let ⟨o,e,_⟩:=s2'.live;⟨o,e⟩) (aV _) ⟨_,new2,rfl,_,rfl⟩ (.cons ru1<|.cons ru2 .nil) (by show 2<=sizeLine;decide)
  have hn:=I.aZ.fresh (aV _);refine⟨.ref s.heap.objs.size,_,I2,rfl,⟨_,x,y,hn,rfl,rfl,λzs hzs=>by rw[Oa I hzs hq1];exact hx,λzs hzs=>by rw[Oa I hzs hq2];exact hy⟩,⟨z'',hTI2,⟨_,_,hTO2⟩,s1',s2'⟩,λc hc=>?_⟩;have hc':s.heap.objs.size≠c:=by
   simp only[rY,oO,or_false]at hc;rcases hc with rfl|rfl|rfl|rfl|rfl
   .exact lt hz
   .exact lt hTI
   .exact lt hTO
   .exact let ⟨o,e,_⟩:=h1.live;lt e
   .exact let ⟨o,e,_⟩:=h2.live;lt e
  rw[bZ hc'.symm];exact(hf c hc).1
 done:=by
  intro X hP hw hK hc i ap s Z H E I hf st hg;subst hP hw hK;obtain⟨xs,ys,hq1,hq2,rf⟩:=hg;obtain⟨Jo,rv1,p1⟩:=vB I hq1;obtain⟨Jp,rv2,p2⟩:=vB I hq2;obtain⟨hz,hTI,⟨a,b',hTO⟩,h1,h2⟩:=id st;have hh:X.A.in1.handled=aD:=I.ok.hd hc;refine YU D (jJ.kd hh cU D.l1i1 Jo.toArray) (jJ.kd hh dA D.l2i2 Jp.toArray) hz hTI hTO ⟨h1,p1⟩ ⟨h2,p2⟩ ?_ λh' kk=>⟨rfl,IF (tk:=s.toks) I hf λc o hc e=>?_⟩
  .rcases rf with q|q
   .exact .inl (by simpa using rv1.none_of q)
   .exact .inr (by simpa using rv2.none_of q)
  .simp only[rY,oO,or_false,not_or]at hc;exact kk c o hc.1 hc.2.2.1 hc.2.2.2.1 hc.2.2.2.2 e
 self:=λA i s Q E st h=>OP st.1 h
theorem aTc(n a b:Nat)(ha:a<n)(hb:b<n):mn (n+4) (n+2) (n+3) n (n+1) a b:=
 ⟨bQ (by lia),bQ (aV _),bQ (by lia),bQ (by lia),bQ (aV _),kL (by lia),kL (aV _),kL (by lia),kL (by lia),bQ (aV _),
  bQ (by lia),bQ (by lia),bQ (by omega),bQ (by lia),bQ (by lia),bQ (by lia),bQ (by omega),bQ (by lia)⟩
def F4(K:bJ)(ta:TA):TI:=λZ H R=>ta Z H λvs H1=>∃a b cU dA,vs=[.ref a,.ref b]/\(∃xs,lC cU K H1 a xs)/\(∃ys,lC dA K H1 b ys)/\R (Uk cU dA K a b) H1
theorem aBv{k:Nat}{ta:TA}(hg:Gl X "zip")(hm:X.mg "zip"=aD)(ha:PA X [a,b] ta)(hs:bY a=aB)(hs2:bY b=aB):PI X (.Tuple elts k tp) (.Call (.Name "zip" p) [a,b] [] pos) (F4 X.K ta):=by
 intro ap s v H R I h;refine Call_<|xD I hg hm boot_zip<|vv (bC (ha pos ap s v H _ I h) λus s1 ⟨P,H1,d,C,E⟩=>?_) (fE hs)<|tH (by simp[hs2]);obtain⟨a,b,f,g,e,⟨xs,j⟩,⟨Q,m⟩,q⟩:=E;subst e;cases C with
 |cons r F=>
  cases r;cases F with
  |cons G n=>
   cases G;cases n;obtain⟨w,J,x⟩:=vB d j;obtain⟨y,K,z⟩:=vB d m;have i:∀{kd:Bool}{l:Addr}{items:Yd},iK kd s1.heap l items->l<s1.heap.objs.size:=λ{kd l items} hl=>by
    cases kd with
    |true=>obtain⟨o,e,_⟩:=(hl);exact cY e|false=>obtain⟨o,e,_⟩:=(hl);exact cY e
   have la:=i x;have lb:=i z;refine WS f g x z λL A t u M N kk=>?_;have O:Inv X ap v H1 { s1 with heap:=L }:=d.kept kk;refine OP A ?_;have D:=aTc _ _ _ la lb;refine⟨s1.heap.objs.size+4,[s1.heap.objs.size+4,s1.heap.objs.size+2,s1.heap.objs.size+3,s1.heap.objs.size,s1.heap.objs.size+1],_,_,H1,rfl,O,aOs f g D,⟨A,t,⟨_,_,u⟩,M,N⟩,λc B=>?_,q⟩;have hle:s1.heap.objs.size<=c:=by
    simp only[rY,oO,or_false]at B;rcases B with rfl|rfl|rfl|rfl|rfl
    .exact mR _ _
    .exact mR _ _
    .exact mR _ _
    .exact aV _
    .exact mR _ _
   exact d.uG hle<|d.aZ.fresh hle
def kg(it jt:gC):gC:=λi h=>match it i h,jt i h with
 |some (aA u),aA (aA v)=>aA (aA<|.tup [u,v])
 |some aD,aA _=>aA aD
 |some _,aA aD=>aA aD
 |_,_=>aD
def zo(xs:Hr):M gC:=λh=>match xs with
 |[x,y]=>match qF x h,qF y h with
  |.ok it _,.ok jt _=>.ok (kg it jt) h
  |_,_=>.bad
 |_=>.bad
theorem AX{it:gC}{h2:AH}(R:bR T Y h H)(r:aW T Y H x x')(e:qF x h = .ok it h2) :
  ∃a kd,x' = .ref a/\(∃xs,lC kd T.K H a xs)/\∀Y' h' H' i,Ext Y H Y' H'->bR T Y' h' H'->∀o,it i h'=aA o->∃ys,lC kd T.K H' a ys/\((o=aD/\ys[i]?=aD)\/∃v v',o=aA v/\ys[i]?=aA v'/\aW T Y' H' v v'):=by
 cases x with
 |tup xs=>
  cases r with
  |@tup a _ ys f hr=>
   cases e;refine⟨a,aH,rfl,⟨ys,f⟩,λY' h' H' i ex g o c=>⟨ys,ex.ur f,?_⟩⟩;have b:=dI c;cases o with
   |none=>exact .inl ⟨rfl,by rw[LN]at b ⊢;rw[<- hr.length];exact b⟩|some v=>obtain⟨v',g1,g2⟩:=(hr.ext ex).get b;exact .inr ⟨v,v',rfl,g1,g2⟩
 |ref n=>
  cases r with
  |@ref _ a q=>
   simp only[qF]at e;cases ob:h.ob n with
   |none=>rw[ob]at e;cases e|some u=>
    rw[ob]at e;cases u with
    |lst mu xs=>
     cases e;obtain⟨ys,g1,p⟩:=rB R ob q;refine⟨a,aB,rfl,⟨ys,g1⟩,λY' h' H' i ex g o c=>?_⟩;unfold kU at c;cases ob':h'.ob n with
     |none=>rw[ob']at c;cases c|some k=>
      rw[ob']at c;cases k with
      |lst l d=>
       obtain⟨zs,g2,j⟩:=rB g ob' (ex.pre n a q);have b:=dI c;refine⟨zs,g2,?_⟩;cases o with
       |none=>exact .inl ⟨rfl,by rw[LN]at b ⊢;rw[<- j.length];exact b⟩|some v=>obtain⟨v',g3,m⟩:=j.get b;exact .inr ⟨v,v',rfl,g3,m⟩
      |aN _=>cases c|dF _=>cases c|ins _ _=>exact cJ c
    |aN _=>cases e|dF _=>cases e|ins _ _=>cases e
 |_=>cases e
theorem aFj{k:Nat}(hK:X.K=T.K)(hg:Gl X "zip")(hm:X.mg "zip"=aD)(ha:QA X T E [a,b] mr)(hs:bY a=aB)(hs2:bY b=aB) :
  QI X T E (.Tuple elts k tp) (.Call (.Name "zip" p) [a,b] [] pos) (λZ=>(mr Z).bind zo):=by
 obtain⟨ta,pa,F⟩:=ha;refine⟨_,aBv hg hm pa hs hs2,λG Z l h H Q R S w=>F G Z l h H _ R S (W.bind w λI xs J B H1 m n K w1=>?_)⟩;cases K with
 |nil=>cases w1|@cons x x' _ _ L rs=>
  cases rs with
  |nil=>cases w1|@cons y y' _ _ M o=>
   cases o with
   |cons _ _=>cases w1|nil=>
    simp only[zo]at w1;cases g1:qF x B with
    |bad=>rw[g1]at w1;cases w1|ok it hx=>
     cases g2:qF y B with
     |bad=>rw[g1,g2]at w1;cases w1|ok N hy=>
      rw[g1,g2]at w1;obtain⟨pa,r,rfl,sa,O⟩:=AX n L g1;obtain⟨P,s,rfl,U,V⟩:=AX n M g2;refine⟨pa,P,r,s,rfl,hK▸sa,hK▸U,?_⟩;rw[hK];refine W.here w1 n λe f C i ex t=>?_;unfold kg;cases Y:it i f with
      |none=>exact⟨λq=>(by cases q),λv q=>(cJ q)⟩|some u=>
       cases ZK:N i f with
       |none=>
        cases u with
        |none=>exact⟨λq=>(by cases q),λv q=>(cJ q)⟩|some u=>exact⟨λq=>(cJ q),λv q=>(cJ q)⟩
       |some v=>
        obtain⟨c,s1,c1⟩:=O e f C i ex t u Y;obtain⟨d,s2,c2⟩:=V e f C i ex t v ZK;rcases c1 with⟨rfl,g⟩|⟨u1,z,rfl,g,t1⟩
        .exact⟨λ_=>⟨c,d,s1,s2,.inl g⟩,λv q=>(by cases q)⟩
        .rcases c2 with⟨rfl,j⟩|⟨u2,A,rfl,j,t2⟩
         .exact⟨λ_=>⟨c,d,s1,s2,.inr j⟩,λv q=>(by cases q)⟩
         .refine⟨λq=>(by cases q),λv q=>⟨⟨c,d,z,A,s1,s2,g,j⟩,λx H2 yl=>?_⟩⟩;cases q;obtain⟨Tt,y1,y2,hn,rfl,rfl,k1,k2⟩:=yl;have m:=k1 c s1;have D:=k2 d s2;rw[g]at m;rw[j]at D;cases m;cases D;exact⟨e,.jN hn,t.keep hn,.tup (.of gG) (.cons (t1.ext<|.jN hn)<|.cons (t2.ext<|.jN hn) .nil)⟩
end
def oB{α:Type}(m:M α):M α:=λh=>match m h with
 |.ok a h1=>.ok a h1
 |_=>.bad
theorem CU{α β:Type}{Rp:Rl α β}{m:M α}{Q:β->Hp->Prop}{E':XK}(w:W T Rp (oB m h) Y H Q E):W T Rp (m h) Y H Q E':=by
 unfold oB at w;cases e:m h with
 |ok a h1=>rw[e]at w;exact w|bad=>rw[e]at w;exact w.elim
theorem M.bind_assoc{α β γ:Type}(m:M α)(k:α->M β)(l:β->M γ):(m.bind k).bind l=m.bind λx=>(k x).bind l:=by
 funext h
 unfold M.bind;cases m h<;>rfl
def eH(it:gC)(g:AV->aF->M aF)(mt:aF->M Bool)(me:aF->M AV):Nat->Nat->Hr->aF->M Hr
 |0,_,_,_=>M.bad
 |f+1,i,ys,σ=>λh=>match it i h with
  |none=>.bad
  |some aD=>.ok ys h
  |some (aA v)=>((oB<|g v σ).bind λσ1=>(oB<|mt σ1).bind λb=>if b=aB then(me σ1).bind λy=>M.guard (ys.length<sizeLine) (eH it g mt me f (i+1) (ys++[y]) σ1) else eH it g mt me f (i+1) ys σ1) h
def mK{α:Type}(imp:Yj)(Z:List (Option α)):List (Option α):=imp.map λo=>match o with
 |some j=>(Z[j]?).getD aD
 |none=>aD
def yV(mi:M gC)(g:AV->aF->M aF)(mt:aF->M Bool)(me:aF->M AV)(imp:Yj)(Z:aF):M AV:=mi.bind λit=>(eH it g mt me FU 0 []<|mK imp Z).bind kB
def HW(T:Tab)(E:XK)(m:aF->M AV):TE:=λZ' H Q=>∃Y Z h,bR T Y h H/\cW T Y H Z Z'/\W T (aW T) (m Z h) Y H Q E
def HV(T:Tab)(m:aF->M Bool):TT:=λZ' H Q=>∃Y Z h,bR T Y h H/\cW T Y H Z Z'/\W T RB (m Z h) Y H Q E0
def HU(T:Tab)(g:AV->aF->M aF):TG:=λv' Z' H Q=>∃Y v Z h,bR T Y h H/\cW T Y H Z Z'/\aW T Y H v v'/\W T (cW T) (g v Z h) Y H Q E0
section
variable {elt cR:aK}{ct:Option aK}{me:aF->M AV}{mt:aF->M Bool}{mi:aF->M gC}{g:AV->aF->M aF}{imp:Yj}{N':Yb}
theorem QE.canon(h:QE X T E e m):PE X e (HW T E m):=let ⟨t,p,r⟩:=h;λap s a H Q I ⟨b,c,h,R,S,w⟩=>p ap s a H Q I (r b c a h H Q R S w)
theorem QT.canon{m:aF->M Bool}(h:QT X T E0 e m):PT X e (HV T m):=let ⟨t,p,r⟩:=h;λap s a H Q I ⟨b,c,h,R,S,w⟩=>p ap s a H Q I (r b c a h H Q R S w)
theorem QG.canon{g:AV->aF->M aF}(h:QG X T E0 e g):PG X e (HU T g):=let ⟨t,p,r⟩:=h;λap s a H b u Q I c ⟨d,v,f,h,R,S,i,w⟩=>p ap s a H b u Q I c (r d v b f a h H Q R S i w)
theorem zv{α:Type}(Z:List (Option α)):(mK imp Z).length=imp.length:=by simp[mK]
theorem Jf{α:Type}{Z:List (Option α)}{i:Nat}{v:α}(h:(mK imp Z)[i]?=aA (aA v)):∃j,imp[i]?=aA (aA j)/\Z[j]?=aA (aA v):=by
 unfold mK at h;rw[fO]at h;cases e:imp[i]? with
 |none=>rw[e]at h;cases h|some o=>
  rw[e]at h;cases o with
  |none=>cases h|some j=>
   refine⟨j,rfl,?_⟩;have a:(Z[j]?).getD aD=aA v:=dI h;cases q:Z[j]? with
   |none=>rw[q]at a;cases a|some w=>rw[q]at a;exact congrArg aA a
theorem cW.F5(S:cW T Y H Z Z'):cW T Y H (mK imp Z) (mK imp Z'):=by refine⟨by rw[zv,zv],λi v e=>?_⟩;obtain⟨j,a,b⟩:=Jf e;obtain⟨c,d,r⟩:=S.2 j v b;refine⟨c,?_,r⟩;unfold mK;rw[fO,a];show aA ((Z'[j]?).getD aD)=_;rw[d];rfl
theorem Wr{wi:TI}(ri:∀Y Z Z' h H R,bR T Y h H->cW T Y H Z Z'->W T (RI T) (mi Z h) Y H R E->wi Z' H R)(R:bR T Y h H)(S:cW T Y H Z Z')
  (w:W T (aW T) (yV (mi Z) g mt me imp Z h) Y H Q E):Og wi (mK imp) (HU T g) (HV T mt) (HW T E me) Z' H Q:=by
 refine ri Y Z Z' h H _ R S<|W.bind w λs it J h1 H1 I R1 V w1=>?_;refine⟨λi m t Z' H=>∃Y a Z h,Ext s H1 Y H/\bR T Y h H/\cW T Y H Z Z'/\bE T Y H a t/\W T (aW T) (((eH it g mt me m i a Z).bind kB) h) Y H Q E,FU,⟨s,[],_,h1,.refl,R1,(S.ext I).F5,.nil,w1⟩,?_⟩;rintro i m t Z' H ⟨Y,a,Z,h,e,R,S,n,w⟩
 cases m with
 |zero=>cases w|succ f=>
  cases l:it i h with
  |none=>
   have q:W T (aW T) Res.bad Y H Q E:=by simp only[eH,M.bind,l]at w;exact w
   cases q
  |some o=>
   cases o with
   |none=>
    have q:W T (aW T) (kB a h) Y H Q E:=by simp only[eH,M.bind,l]at w;exact w
    exact .inl ⟨(V Y h H i e R).1 l,λD hD=>xG R n hD q⟩
   |some v=>
    have q:W T (aW T) ((((oB<|g v Z).bind λc=>(oB<|mt c).bind λb=>if b=aB then(me c).bind λy=>M.guard (a.length<sizeLine) (eH it g mt me f (i+1) (a++[y]) c) else eH it g mt me f (i+1) a c).bind kB) h) Y H Q E:=by
     have I:∀k:Hr->M AV,((eH it g mt me (f+1) i a Z).bind k) h=((((oB<|g v Z).bind λc=>(oB<|mt c).bind λb=>if b=aB then(me c).bind λy=>M.guard (a.length<sizeLine) (eH it g mt me f (i+1) (a++[y]) c) else eH it g mt me f (i+1) a c).bind k) h):=λk=>by unfold M.bind;simp only[eH,l];rfl
     rw[I]at w;exact w
    rw[M.bind_assoc]at q;obtain⟨go,yl⟩:=(V Y h H i e R).2 v l;refine .inr ⟨go,λx H2 y=>?_⟩;obtain⟨K,r,R2,rv⟩:=yl x H2 y;refine⟨K,v,Z,h,R2,S.ext r,rv,CU (W.bind (q.ext r) λL j X h3 H3 B R3 C w3=>?_)⟩;rw[M.bind_assoc]at w3;refine⟨L,j,h3,R3,C,CU (W.bind w3 λu d d' ZP H4 p ZL q4 F=>?_)⟩;have N:=q4;subst N;cases d with
    |true=>
     rw[if_pos rfl]at F ⊢;rw[M.bind_assoc]at F;refine⟨u,j,ZP,ZL,C.ext p,W.bind F λz y y' A H5 O R5 q5 G=>?_⟩;by_cases P:a.length<sizeLine
     .have w6:W T (aW T) (((eH it g mt me f (i+1) (a++[y]) j).bind kB) A) z H5 Q E:=by
       have U:((M.guard (a.length<sizeLine)<|eH it g mt me f (i+1) (a++[y]) j).bind kB) A=((eH it g mt me f (i+1) (a++[y]) j).bind kB) A:=by unfold M.bind M.guard;rw[if_pos P]
       rw[U]at G;exact G
      exact⟨by rw[<- n.length];exact P,f,cF f,z,a++[y],j,A,((((e.trans r).trans B).trans p).trans O),R5,(C.ext p).ext O,(n.ext<|((r.trans B).trans p).trans O).append (.cons q5 .nil),w6⟩
     .have U:((M.guard (a.length<sizeLine)<|eH it g mt me f (i+1) (a++[y]) j).bind kB) A = .bad:=by unfold M.bind M.guard;rw[if_neg P]
      rw[U]at G;cases G
    |false=>exact⟨f,cF f,u,a,j,ZP,((e.trans r).trans B).trans p,ZL,C.ext p,n.ext ((r.trans B).trans p),F⟩
theorem EI(hsc:oS X N' scope)(sO:X.calm=aB)(hi:QI X T E tg cR mi)(hg:∀s H C fp,QG (X.comp N' scope s H C fp) T E0 tg g)(hct:∀c,ct=aA c->∀s H C fp,QT (X.comp N' scope s H C fp) T E0 c mt)
  (hct0:ct=aD->mt=λ_=>M.ret aB) (he:∀s H C fp,QE (X.comp N' scope s H C fp) T E0 elt me) (himp:imp.length=N'.length)
  (hσ:∀(i j:Nat) x,N'[i]?=aA x->imp[i]?=aA (aA j)->scope.names.lookup x=aA .free/\(x,jF)∈scope.names/\X.N[j]?=aA x) (hs:bY cR=aB) :
  QE X T E (.ListComp elt [⟨tg,cR,ct.toList,0⟩] scope pos) (λZ=>yV (mi Z) g mt me imp Z):=by
 obtain⟨wi,pi,d⟩:=hi;refine⟨_,aAr hsc sO pi (λs H C fp=>(hg s H C fp).canon) (λc e s H C fp=>(hct c e s H C fp).canon) (λe Z H Q=>?_) (λs H C fp=>(he s H C fp).canon) (λZ=>by rw[zv,himp]) (λZ i x v f k=>?_) λx=>Nu hs,λl Z m h H Q R S w=>Wr d R S w⟩
 .rintro ⟨l,Z,h,R,S,w⟩
  rw[hct0 e]at w;exact W.here w R rfl
 .obtain⟨j,n,o⟩:=Jf k;obtain⟨a,b,c⟩:=hσ i j x f n;exact⟨a,b,j,c,o⟩
theorem FA{i:Nat}{y:Str}{pC:Pos}(hN:X.N.Nodup)(hi':X.N[i]?=aA y)(hy:X.env.scope.names.lookup y=aA .local)
  (hsw:vX (.ListComp elt [⟨tg,cR,ct.toList,0⟩] scope pos) (aA<|.Name y py) pC.line X.env=pure aB)(hsc:oS X N' scope)(sO:X.calm=aB)(hi:QI X T E tg cR mi)(hg:∀s H C fp,QG (X.comp N' scope s H C fp) T E0 tg g)(hct:∀c,ct=aA c->∀s H C fp,QT (X.comp N' scope s H C fp) T E0 c mt)
  (hct0:ct=aD->mt=λ_=>M.ret aB)(he:∀s H C fp,QE (X.comp N' scope s H C fp) T E0 elt me)(himp:imp.length=N'.length)
  (hσ:∀(i j:Nat) x,N'[i]?=aA x->imp[i]?=aA (aA j)->scope.names.lookup x=aA .free/\(x,jF)∈scope.names/\X.N[j]?=aA x)(hs:bY cR=aB) :
  QS X T E (.Assign [.Name y py] (.ListComp elt [⟨tg,cR,ct.toList,0⟩] scope pos) pC) (λσ=>(yV (mi σ) g mt me imp σ).bind λv=>(M.ret<|σ.set i<|aA v).bind λσ1=>M.ret (.nx σ1)):=by
 obtain⟨wi,pi,l⟩:=hi;refine⟨_,aDf hN hi' hy hsw hsc sO pi (λs H C fp=>(hg s H C fp).canon) (λc e s H C fp=>(hct c e s H C fp).canon) (λe σ H Q=>?_) (λs H C fp=>(he s H C fp).canon) (λσ=>by rw[zv,himp]) (λσ i x v d m=>?_) λx=>Nu hs,
  λn σ f h H D R S w=>Wr l R S (W.bind w λo x p k H1 d q r w1=>W.here (b:=jQ.nx (f.set i<|aA p)) w1 q ((S.ext d).set r i))⟩
 .rintro ⟨n,σ,h,R,S,w⟩
  rw[hct0 e]at w;exact W.here w R rfl
 .obtain⟨j,k,t⟩:=Jf m;obtain⟨a,b,c⟩:=hσ i j x d k;exact⟨a,b,j,c,t⟩
end
section
variable {l:aK}{st:Stmt}
def mH(ks:List aP):gC:=λi _=>match ks[i]? with
 |some k=>aA (aA<|sQ k)
 |none=>if i=ks.length then aA aD else aD
def qj(v:AV):M gC:=λh=>match v with
 |.ref n=>match h.ob n with
  |some (.aN kvs)=>.ok (mH<|kvs.map (·.1)) (h.put n<|.dF kvs)
  |_=>.bad
 |_=>.bad
def ux{α:Type}(n:Nat)(r:Res α):Res α:=match r with
 |.ok a h=>match h.ob n with
  |some (.dF kvs)=>.ok a (h.put n<|.aN kvs)
  |_=>.bad
 |_=>.bad
theorem aJv{o:Obj}(hH:H a=aA (.dD o<|.dK<|(kvs.map (·.1)).zip ys))(hl:ys.length=kvs.length):RI T Y H (mH<|kvs.map (·.1)) (Fi a o<|(kvs.map (·.1)).zip ys):=by
 intro d j l i e R;have b:=e.dD _ _ _ hH;have hlen:((kvs.map (·.1)).zip ys).length=kvs.length:=by simp[hl]
 refine⟨λz=>?_,λv z=>?_⟩
 .unfold mH at z;cases q:(kvs.map (·.1))[i]? with
  |some k=>rw[q]at z;cases z|none=>
   rw[q]at z;by_cases c:i=(kvs.map (·.1)).length
   .exact⟨b,by rw[hlen];simpa using c.symm⟩
   .rw[if_neg c]at z;exact cJ z
 .unfold mH at z;cases q:(kvs.map (·.1))[i]? with
  |none=>rw[q]at z;dsimp only at z;split at z<;>cases z
  |some k=>
   rw[q]at z;cases z;have c:i<kvs.length:=by simpa using (List.getElem?_eq_some_iff.mp q).1
   refine⟨⟨b,hlen▸c⟩,λx m y=>?_⟩;obtain⟨rfl,h,n,f,rfl⟩:=y;have g:h=k:=by rw[LQ]at f;rw[q]at f;exact(dI f.1).symm
   subst g;exact⟨d,.refl,R,BA h⟩
theorem aFf(ha:QE X T E l m):QI X T E tg l (λZ=>(m Z).bind qj):=by
 obtain⟨tl,pl,k⟩:=ha;refine⟨_,aBq pl,λp Z f h H R r S w=>k p Z f h H _ r S (W.bind w λc v C s H1 D g t w1=>?_)⟩;unfold qj at w1;cases v with
 |ref n=>
  cases t with
  |@ref _ a q=>
   dsimp only at w1;cases o:s.ob n with
   |none=>rw[o]at w1;cases w1|some u=>
    rw[o]at w1;cases u with
    |aN d=>
     obtain⟨F,i,e,y,j⟩:=g.obj n _ a o q;subst y;refine⟨a,_,rfl,e,λob=>?_⟩;have ex:Ext c H1 c (bG H1 a<|.dD ob<|.dK<|(d.map (·.1)).zip i):=⟨λ_ _ z=>z,λb xs z=>by
      rw[bZ (rH z e λw=>by cases w)];exact z,λb x u z=>by
      rw[bZ (rH z e λw=>by cases w)];exact z⟩
     obtain⟨A,B⟩:=g.write (o':=.dF d) o rfl rfl q e (λ_ z=>by cases z) (λ_ _ z=>by cases z) ⟨ob,_,i,gG,rfl,j.ext ex⟩;exact w1 c _ _ B A<|aJv gG (by have:=j.length;simpa using this.symm)
    |_=>exact w1.elim
 |_=>exact w1.elim
theorem aOh{α β:Type}{Rp:Rl α β}(sb:∀Y H H' a b,vY Y H H'->Rp Y H a b->Rp Y H' a b){r:Res α}{Q:β->Hp->Prop}(R:bR T Y h H)(hn:h.ob n=aA (.aN kvs))
  (w:W T Rp (ux n r) Y H Q E):W T Rp r Y H (λb=>Tw H (Q b)) E:=by
 cases r with
 |ok a k=>
  intro d b H' e l q;unfold ux at w;dsimp only at w;cases o:k.ob n with
  |none=>rw[o]at w;exact w.elim|some u=>
   rw[o]at w;cases u with
   |dF g=>
    obtain⟨i,m,s,t,j,_,_⟩:=R.at hn;obtain⟨ob,p,f,R2⟩:=l.Om o (e.pre n i m);refine⟨i,_,ob,p,j,f,w d b _ ⟨e.pre,λc xs z=>?_,λc x u z=>?_⟩ R2 (sb _ _ _ _ _ (Xu f) q)⟩
    .have:=e.tup c xs z;rw[bZ (λy=>by rw[y,f]at this;cases this)];exact this
    .have:=e.dD c x u z;rw[bZ (λy=>by rw[y,j]at z;cases z)];exact this
   |_=>exact w.elim
 |bad=>cases w
def ye(r:Res AV):Yg:=match r with
 |.ok (.ref n) _=>aA n
 |_=>aD
def mD{α:Type}(m0:aF->M AV)(ms:aF->M α):aF->M α:=λZ h=>match ye (m0 Z h) with
 |some n=>match h.ob n with
  |some (.aN _)=>ux n (ms Z h)
  |_=>.bad
 |none=>.bad
theorem IB{α β:Type}{Rp:Rl α β}(sb:∀Y H H' a b,vY Y H H'->Rp Y H a b->Rp Y H' a b){ma:aF->M α}{Q:β->Hp->Prop}(R:bR T Y h H)
  (w:W T Rp (mD m0 ma Z h) Y H Q E):W T Rp (ma Z h) Y H (λb=>Tw H (Q b)) E:=by
 unfold mD at w;cases d:ye (m0 Z h) with
 |none=>rw[d]at w;exact w.elim|some n=>
  rw[d]at w;dsimp only at w;cases o:h.ob n with
  |none=>rw[o]at w;exact w.elim|some u=>
   rw[o]at w;cases u with
   |aN c=>exact aOh sb R o w|_=>exact w.elim
theorem cW.ext2{Y:Xx}{H H':Hp}{Z:aF}{Z':L2.St}(S:cW T Y H Z Z')(e:vY Y H H'):cW T Y H' Z Z':=
 ⟨S.1,λi v q=>let ⟨c,a,b⟩:=S.2 i v q;⟨c,a,b.ext2 e⟩⟩
theorem aKd{a:Out}{b:jQ}(e:vY Y H H')(r:RO T Y H a b):RO T Y H' a b:=by cases a<;>cases b<;>first|exact cW.ext2 r e|exact aW.ext2 e r|exact r
theorem FC(m0:aF->M AV)(hq:QS X T E st ms):QS X T E st (mD m0 ms):=by
 obtain⟨t,p,r⟩:=hq;refine⟨_,aDg p,λd f c h H D R S w=>r d f c h H _ R S ?_⟩;have k:=IB (Rp:=RO T) (λd H g a b e q=>aKd e q) R w;have e:(λb=>Tw H (nM D b))=nM (Xn H D):=by funext b;cases b<;>rfl
 rw[e]at k;exact k
theorem EL(m0:aF->M AV)(hq:QE X T E e m):QE X T E e (mD m0 m):=by obtain⟨t,p,r⟩:=hq;exact⟨_,aBh p,λd f c h H Q R S w=>r d f c h H _ R S (IB (Rp:=aW T) (λd H g a b e q=>aW.ext2 e q) R w)⟩
end
inductive Kc where
 |any|srt (b:Bool)|Al
 |sd
def wJ:Hr->Option (List Bool)
 |[]=>aA []
 |.bl b::r=>(wJ r).map (b::·)
 |_=>aD
def qN:Hr->Option (List Int)
 |[]=>aA []
 |.int b::r=>(qN r).map (b::·)
 |_=>aD
theorem Vw:∀bs:ZE,wJ (bs.map AV.bl)=aA bs
 |[]=>rfl|b::bs=>by simp[wJ,Vw bs]
theorem zy:∀bs:Ht,qN (bs.map AV.int)=aA bs
 |[]=>rfl|b::bs=>by simp[qN,zy bs]
def Kc.gl:Kc->Hr->M AV
 |.any,xs=>λh=>match wJ xs with
  |some bs=>.ok (.bl<|bs.any id) h
  |none=>.bad
 |.srt b,xs=>λh=>match qN xs with
  |some ns=>if ns.length<64 then kB ((kX b ns).map AV.int) h else .bad
  |none=>.bad
 |.Al,xs=>λh=>match qN xs with
  |some ns=>.ok (if ns.isEmpty then .aG else .int (sV ns)) h
  |none=>.bad
 |.sd,xs=>λh=>match qN xs with
  |some ns=>if ns.length<64 then kB ((kX aH ns).map AV.int) h else .bad
  |none=>.bad
def Kc.g(k:Kc)(x:AV):M AV:=λh=>match x with
 |.ref n=>match h.ob n with
  |some (.lst _ xs)=>k.gl xs h
  |_=>.bad
 |_=>.bad
section
variable {a:aK}
theorem Vv{Y:Xx}{H:Hp}:∀{xs:Hr}{ys:Xw}{bs:ZE},bE T Y H xs ys->wJ xs=aA bs->ys=bs.map V.bl
 |_,_,_,.nil,e=>by cases e;rfl
 |_,_,_,.cons (xs:=xs) h t,e=>by
  cases h with
  |bl b=>
   simp only[wJ]at e;cases q:wJ xs with
   |none=>rw[q]at e;cases e|some bs=>rw[q]at e;cases e;rw[Vv t q];rfl
  |_=>exact cJ e
theorem Ji{Y:Xx}{H:Hp}:∀{xs:Hr}{ys:Xw}{bs:Ht},bE T Y H xs ys->qN xs=aA bs->ys=bs.map V.int
 |_,_,_,.nil,e=>by cases e;rfl
 |_,_,_,.cons (xs:=xs) h t,e=>by
  cases h with
  |int b=>
   simp only[qN]at e;cases q:qN xs with
   |none=>rw[q]at e;cases e|some bs=>rw[q]at e;cases e;rw[Ji t q];rfl
  |_=>exact cJ e
theorem Ac(hK:X.K=T.K){k:Kc}(R:bR T Y h H)(r:aW T Y H x x')(w:W T (aW T) (k.g x h) Y H Q E) :
  ∃(l:Addr) (xs:Hr) (ys:Xw),x' = .ref l/\dM X.K H l ys/\bE T Y H xs ys/\W T (aW T) (k.gl xs h) Y H Q E:=by
 unfold Kc.g at w;cases x with
 |ref n=>
  cases r with
  |@ref _ l q=>
   dsimp only at w;cases o:h.ob n with
   |none=>rw[o]at w;cases w|some u=>
    rw[o]at w;cases u with
    |lst b xs=>obtain⟨ys,a,c⟩:=rB R o q;exact⟨l,xs,ys,rfl,hK▸a,c,w⟩
    |_=>exact w.elim
 |_=>exact w.elim
theorem aDy(hK:X.K=T.K) (hc:X.calm=aB) (hg:Gl X "any") (hm:X.mg "any"=aD) (ha:QE X T E a m) (hs:bY a=aB):QE X T E (.Call (.Name "any" p) [a] [] pos) (λZ=>(m Z).bind (Kc.any.g)):=by
 obtain⟨ta,pa,d⟩:=ha;refine⟨_,Ay (VW hc) hg hm (by decide +kernel) (xH pa ao<|fE hs) (by decide) (rfl) (fE hs) rfl,λf Z b h H Q R S w=>?_⟩;refine d f Z b h H _ R S<|W.bind w λg x k n H1 o c i w1=>?_;obtain⟨l,xs,r,rfl,j,hr,w2⟩:=Ac hK c i w1;simp only[Kc.gl]at w2;cases q:wJ xs with
 |none=>rw[q]at w2;cases w2|some bs=>rw[q]at w2;have e:=Vv hr q;subst e;exact⟨l,bs,rfl,j,w2.here c (.bl _)⟩
theorem HF(hr:bE T Y H xs ys)(w:W T (aW T) ((Kc.srt b).gl xs h) Y H Q E):∃ns:Ht,ys=ns.map V.int/\ns.length<64/\W T (aW T) (kB ((kX b ns).map AV.int) h) Y H Q E:=by
 simp only[Kc.gl]at w;cases q:qN xs with
 |none=>rw[q]at w;exact w.elim|some ns=>
  rw[q]at w;dsimp only at w;by_cases hn:ns.length<64
  .rw[if_pos hn]at w;exact⟨ns,Ji hr q,hn,w⟩
  .rw[if_neg hn]at w;exact w.elim
theorem aFa(hK:X.K=T.K){k:Nat}{kp:Pos}(hg:Gl X "sorted")(hm:X.mg "sorted"=aD)(ha:QE X T E a m)(hs:bY a=aB) :
  QE X T E (.Call (.Name "sorted" p) [a] [⟨aA "reverse",.Constant (.bool b) k kq,kp⟩] pos) (λZ=>(m Z).bind ((Kc.srt b).g)):=by
 obtain⟨ta,pa,i⟩:=ha;refine⟨_,DN (r:=λv H Q=>∃l ns,v = .ref l/\dM X.K H l (ns.map V.int)/\ns.length<64/\∀D,H D=aD->Q (.ref D) (bG H D<|.lst<|(kX b ns).map V.int)) ?_ hg hm boot_sorted pa Ll (fE hs) (by decide) (rfl),λj Z c h H Q R S w=>?_⟩
 .intro ap s Z H v u n Q I o t ⟨l,ns,ev,d,hn,q⟩;subst ev;cases o;have e:=t;subst e;exact WO b I d hn q
 refine i j Z c h H _ R S<|W.bind w λy x B C H1 F f z w1=>?_;obtain⟨l,xs,G,rfl,d,hr,w2⟩:=Ac hK f z w1;obtain⟨ns,rfl,hn,w3⟩:=HF hr w2;exact⟨l,ns,rfl,d,hn,λD A=>xG f (bE.ints _) A w3⟩
theorem aEt(hK:X.K=T.K)(hc:X.calm=aB){k:Nat}{kp:Pos}(hg:Gl X "min")(hm:X.mg "min"=aD)(ha:QE X T E a m)(hs:bY a=aB) :
  QE X T E (.Call (.Name "min" p) [a] [⟨aA "default",.Constant .none k kq,kp⟩] pos) (λZ=>(m Z).bind (Kc.Al.g)):=by
 obtain⟨ta,pa,f⟩:=ha;refine⟨_,DN (r:=λv H Q=>∃l ns,v = .ref l/\dM X.K H l (ns.map V.int)/\Q (if ns.isEmpty then .aG else .int (sV ns)) H) ?_ hg hm (show mT "min"=aA (.builtin "min") from by decide +kernel) pa Lm (fE hs) (by decide) (rfl),λg Z c h H Q R S w=>?_⟩
 .intro ap s Z H v u y Q I i j ⟨l,ns,ev,b,q⟩;subst ev;cases i;cases ns with
  |nil=>exact WM hc I b j q|cons n r=>exact WN hc I b (by intro z;cases z) q
 refine f g Z c h H _ R S<|W.bind w λo x A B H1 C d t w1=>?_;obtain⟨l,xs,D,rfl,b,hr,w2⟩:=Ac hK d t w1;simp only[Kc.gl]at w2;cases q:qN xs with
 |none=>rw[q]at w2;cases w2|some ns=>
  rw[q]at w2;have e:=Ji hr q;subst e;refine⟨l,ns,rfl,b,?_⟩;cases ns with
  |nil=>exact W.here w2 d .aG|cons n r=>exact W.here w2 d<|.int _
theorem aEy(hK:X.K=T.K) (hc:X.calm=aB) (hg:Gl X "sorted") (hm:X.mg "sorted"=aD) (ha:QE X T E a m) (hs:bY a=aB):QE X T E (.Call (.Name "sorted" p) [a] [] pos) (λZ=>(m Z).bind (Kc.sd.g)):=by obtain⟨ta,pa,d⟩:=ha;refine⟨_,Ay WQ hg hm boot_sorted (xH pa ao<|fE hs) (by decide) (rfl) (fE hs) rfl,λe Z b h H Q R S w=>?_⟩;refine d e Z b h H _ R S<|W.bind w λf x k n H1 o c g w1=>?_;obtain⟨l,xs,q,rfl,i,hr,w2⟩:=Ac hK c g w1;obtain⟨ns,rfl,hn,w3⟩:=HF hr w2;exact⟨l,ns,rfl,i,hn,λD j=>xG c (bE.ints _) j w3⟩
end
set_option genCtorIdx true in
inductive BT where
 |aG|bl|int|str|tup|lst|aN
 deriving DecidableEq
def BT.nm:BT->String
 |.aG=>"NoneType" |.bl=>"bool" |.int=>"int" |.str=>"str" |.tup=>"tuple" |.lst=>"list" |.aN=>"dict"
def BT.sub(s t:BT):Bool:=decide (s=t)||(decide (s = .bl)&&decide (t = .int))
theorem zZ{K:bJ}(s t:BT):Sj K (.type s.nm) (.type t.nm)=aA (s.sub t):=by cases s<;>cases t<;>first|rfl|(with_unfolding_all rfl)|decide +kernel
inductive tV(K:bJ)(H:Hp):V->BT->Prop where
 |aG:tV K H .aG .aG
 |bl (x:Bool):tV K H (.bl x) .bl
 |int (i:Int):tV K H (.int i) .int
 |str (x:Str):tV K H (.str x) .str
 |lst {a:Addr}{xs:Xw} (e:dM K H a xs):tV K H (.ref a) .lst
 |tup {a:Addr}{xs:Xw} (e:eC K H a xs):tV K H (.ref a) .tup
 |aN {a:Addr}{kvs:List (aP×V)} (e:H a=aA (.dK kvs)):tV K H (.ref a) .aN
def tX(h:AH):AV->Option BT
 |.aG=>aA .aG
 |.bl _=>aA .bl
 |.int _=>aA .int
 |.str _=>aA .str
 |.tup _=>aA .tup
 |.ref n=>match h.ob n with
  |some (.lst _ _)=>aA .lst
  |some (.aN _)=>aA .aN
  |_=>aD
 |_=>aD
def zO(t:BT)(x:AV):M AV:=λh=>match tX h x with
 |some s=>.ok (.bl<|s.sub t) h
 |none=>.bad
section
variable {a b l o:aK}
theorem WE(t:BT):jH X (.builtin "isinstance") (λxs H Q=>∃x s,xs=[x,.ty t.nm]/\tV X.K H x s/\Q (.bl<|s.sub t) H):=by
 intro ap st j H xs us Q I r h;obtain⟨x,s,rfl,ty,q⟩:=h;obtain⟨u,k,rfl,b,f⟩:=xQ r;obtain rfl:k=Sw t.nm:=f;have fin:∀tk,EP X ap j Q (.bool<|s.sub t) { st with toks:=tk }:=λtk=>⟨.bl _,H,I.tok tk,rfl,q⟩;cases ty with
 |aG=>cases b;exact cz W.kitx_none I.fL oQ (zZ .aG t) (nofun) fin|bl y=>cases b;exact cz W.kitx_bool I.fL oQ (zZ .bl t) (nofun) fin|int i=>obtain⟨tk,rfl⟩:=b;exact cz W.kitx_int I.fL oQ (zZ .int t) (nofun) fin|str y=>obtain⟨tk,rfl⟩:=b;exact cz W.kitx_str I.fL oQ (zZ .str t) (nofun) fin|lst e=>cases b;obtain⟨_,_,⟨ob,n,c,d,_⟩,_⟩:=I.list e;exact cz W.kitx_list I.fL ⟨ob,c,d⟩ (zZ .lst t) (nofun) fin
 |tup e=>cases b;obtain⟨_,_,⟨ob,c,d,_⟩,_⟩:=I.tuple e;exact cz W.kitx_tuple I.fL ⟨ob,c,d⟩ (zZ .tup t) (nofun) fin
 |@aN a g e=>cases b;obtain⟨_,_,l,_,ob,m,o,c,d,_⟩:=(show hB X.prog X.w H st.heap a (.dK g) from I.aZ a _ e);exact cz W.kitx_dict I.fL ⟨ob,c,d.1⟩ (zZ .aN t) (nofun) fin
theorem VQ(hK:X.K=T.K){s:BT}(R:bR T Y h H)(r:aW T Y H x x')(e:tX h x=aA s):tV X.K H x' s:=by
 cases r with
 |aG=>cases e;exact .aG|bl b=>cases e;exact .bl b|int i=>cases e;exact .int i|str y=>cases e;exact .str y|tup d hr=>cases e;exact .tup<|hK▸d|@ref n a q=>
  simp only[tX]at e;cases o:h.ob n with
  |none=>rw[o]at e;cases e|some u=>
   rw[o]at e;cases u with
   |lst m xs=>cases e;obtain⟨f,c,_⟩:=rB R o q;exact .lst<|hK▸c
   |aN g=>cases e;obtain⟨j,f,c,_⟩:=R.obj n _ a o q;exact .aN c
   |dF _=>cases e|ins _ _=>exact cJ e
 |lF q=>cases e
theorem aEm(hK:X.K=T.K){y:Str}(t:BT)(hg:Gl X "isinstance")(hm:X.mg "isinstance"=aD)(hg2:Gl X y)(hm2:X.mg y=aD)(hv2:mT y=aA (.type t.nm))(hn2:y≠"__name__")(hd2:(y==("__debug__":Str))=aH)
  (ha:QE X T E a m)(hs:bY a=aB):QE X T E (.Call (.Name "isinstance" p) [a,.Name y p2] [] pos) (λZ=>(m Z).bind (zO t)):=by
 obtain⟨ta,pa,d⟩:=ha;refine⟨_,Ay (WE t) hg hm boot_isinstance (xH pa (xH (aAk (v:=.ty t.nm) hg2 hm2 hv2 rfl hn2 hd2) ao)<|fE hs) (by decide) (rfl) (fE hs) rfl,λe Z b h H Q R S w=>?_⟩;refine d e Z b h H _ R S<|W.bind w λf x g i H1 k c j w1=>?_;unfold zO at w1;cases o:tX i x with
 |none=>rw[o]at w1;cases w1|some s=>rw[o]at w1;exact⟨g,s,rfl,VQ hK c j o,w1.here c (.bl _)⟩
def uH(x v:AV):M AV:=λh=>match x with
 |.ref n=>match h.ob n with
  |some (.lst aB xs)=>if xs.length<sizeLine then .ok .aG (h.put n<|.lst aB<|xs++[v]) else .bad
  |_=>.bad
 |_=>.bad
def zW(h:AH):AV->Bool
 |.ref n=>match h.ob n with
  |some (.lst _ _)=>aB
  |_=>aH
 |_=>aH
def Fu(a b:M AV):M AV:=a.bind λx h=>if zW h x=aB then(b.bind λy=>uH x y) h else .bad
theorem sk{α β:Type} [BEq α] [LawfulBEq α]:∀{l:List (α×β)}{x:α}{v:β},l.lookup x=aA v->(x,v)∈l
 |[],_,_,h=>by cases h
 | (k,u)::r,x,v,h=>by
  rw[jD]at h;cases hb:(x==k) with
  |true=>simp only[hb]at h;rw[eq_of_beq hb,dI h];exact fP ..
  |false=>simp only[hb]at h;exact hW _<|sk h
def jZ:aK->Bool
 |.Name ..=>aB | .Attribute ..=>aB | .Subscript ..=>aB
 |.Call (.Attribute ..) _ _ _=>aB
 |.Call (.Name ..) (_::_) _ _=>aB
 |_=>aH
theorem wI{o:aK}{f:Str}{whole:Sem Value}(h:jZ o=aB):mq o f env whole=whole:=by
 cases o with
 |Name=>rfl|Attribute=>rfl|Subscript=>rfl|Call g a b p=>
  cases g with
  |Attribute=>rfl|Name=>
   cases a with
   |nil=>cases h|cons=>rfl
  |_=>exact ff h
 |_=>exact ff h
theorem jz{p:Addr}(g1:H p=aA O)(nt:∀xs,O ≠ .tup xs)(nf:∀x u,O ≠ .dD x u):Ext Y H Y (bG H p O'):=⟨λ_ _ z=>z,λb xs z=>by
 rw[bZ (rH z g1 λw=>nt xs w.symm)];exact z,λb x u z=>by
 rw[bZ (rH z g1 λw=>nf x u w.symm)];exact z⟩
theorem aDz(hK:X.K=T.K)(ho:QE X T E o ma)(ha:QE X T E a mb)(hb:jZ o=aB)(hs:bY a=aB)(hl:(apos.endLine==pos.line)=aB) :
  QE X T E (.Call (.Attribute o "append" apos) [a] [] pos) (λZ=>Fu (ma Z) (mb Z)):=by
 obtain⟨ta,pa,B⟩:=ho;obtain⟨tb,C,D⟩:=ha;refine⟨_,DM NL aUu aUw Q4 pa (xH C ao<|fE hs) (wI hb) (by rw[fE hs];rfl) hl (fE hs) rfl,λF Z j h H Q R S w=>?_⟩;refine B F Z j h H _ R S<|W.bind w λf x L k H1 G t I w1=>?_;have d:=w1;by_cases c:zW k x=aB
 case neg=>rw[if_neg c]at d;cases d
 rw[if_pos c]at d;cases x with
 |ref n=>
  cases I with
  |@ref _ p q=>
   have fin:∀b y g i e,Ext f H1 b e->bR T b i e->aW T b e y g->W T (aW T) (uH (.ref n) y i) b e Q E->FL (.ref p) [g] e Q:=λb y g i e l R2 m w2=>by
    have v:=l.pre n p q;simp only[uH]at w2;cases ob:i.ob n with
    |none=>rw[ob]at w2;cases w2|some u=>
     rw[ob]at w2;cases u with
     |lst mu xs=>
      cases mu with
      |true=>
       obtain⟨r,g1,A⟩:=R2.obj n _ p ob v;by_cases s:xs.length<sizeLine
       .simp only[if_pos s]at w2;obtain⟨J,K⟩:=R2.write (o':=.lst aB (xs++[y])) ob rfl rfl v g1 (nofun) (λ_ _ z=>by cases z)
         ⟨_,gG,(A.append<|.cons m .nil).ext (jz g1 (nofun) (λ_ _ z=>by cases z))⟩
        exact⟨p,r,g,rfl,rfl,g1,A.length▸s,W.ok w2 K J .aG⟩
       .simp only[if_neg s]at w2;cases w2
      |false=>cases w2
     |aN _=>cases w2|dF _=>cases w2|ins _ _=>cases w2
   refine⟨.inl ⟨rfl,?_⟩,D f Z j k H1 _ t (S.ext G) (W.bind d λb y g i e l R2 m w2=>fin b y g i e l R2 m w2)⟩;simp only[zW]at c;cases ob:k.ob n with
   |none=>rw[ob]at c;cases c|some u=>
    cases u with
    |lst mu xs=>obtain⟨r,g1,_⟩:=rB t ob q;exact⟨r,hK▸g1⟩
    |aN _=>rw[ob]at c;cases c|dF _=>rw[ob]at c;cases c|ins _ _=>rw[ob]at c;exact ff c
 |_=>exact ff c
def oj(P:cA)(w:bW)(K:bJ)(a:Addr)(kvs:Yk):Prop:=∀h:bI,K.In h->StrTab P w h a (kvs.map λp=>(Rv p.1,sA p.2))
theorem N7(x:Str)(kvs:Yk):NP (.str x) (kvs.map λp=>(Rv p.1,sA p.2))=(kvs.lookup x).map sA:=by
 induction kvs with
 |nil=>rfl|cons p r a=>
  obtain⟨k,v⟩:=p;rw[jD];show(if(k==x)=aB then aA (sA v) else NP (.str x) (r.map λp=>(Rv p.1,sA p.2)))=_;by_cases h:k=x
  .subst h;simp
  .have b:=beq_eq_false_iff_ne.mpr h;have c:=beq_eq_false_iff_ne.mpr (kN h);rw[b,c,if_neg fZ,a]
def getOf(kvs:Yk)(x:Str)(z:Int):Int:=(kvs.lookup x).getD z
def aMx(X:Cx)(to:TE)(t:TA):TE:=λZ H Q=>to Z H λx H1=>∃a kvs,x = .ref a/\oj X.prog X.w X.K a kvs/\t Z H1 λvs H2=>∃s z,vs=[.str s,.int z]/\Q (.int<|getOf kvs s z) H2
theorem aAu{to:TE}{t:TA}(ho:PE X o to)(ha:PA X [a,b] t)(hb:jZ o=aB)(hs:bY a=aB)(hs2:bY b=aB)(hl:(apos.endLine==pos.line)=aB):PE X (.Call (.Attribute o "get" apos) [a,b] [] pos) (aMx X to t):=by
 intro ap s l H Q I h;refine OF (wI hb) (by rw[fE hs,fE hs2];rfl) hl rfl<|bC (ho ap s l H _ I h) λv s1 j=>?_;obtain⟨x,H1,m,w,p,c,e,tab,y⟩:=j;subst e;cases w;obtain⟨hn,D,⟨ob,E,F,g1,g2,_⟩,_⟩:=id (tab _ m.fL);refine⟨"dict","dict.get",NK,mf,NO,⟨ob,g1,g2.1⟩,λG A=>?_,?_⟩
 .cases A;exact⟨ob,g1,g2.2.1⟩
 .have n:=ha pos ap s1 l H1 _ m y;rw[fE hs]at n ⊢;refine Qb (by show(aH||(lQ pos<|eF [b] X.env).any (·.1))=aH;rw[fE hs2]<;>rfl)<|KB ?_;refine bC n λus s2 j=>?_;obtain⟨J,q,g,B,r,z,C,f⟩:=j;subst C;obtain⟨K,L,rfl,⟨t1,rfl⟩,⟨u,rfl⟩⟩:=xQ B;have i:=N7 r c;unfold getOf at f;cases lk:c.lookup r with
  |some d=>
   rw[lk]at i f;exact W.kt_get2_thereS (tab _ g.fL) i (MZ z u) λv k=>by obtain⟨t3,rfl⟩:=k.int_inv;exact⟨.int d,q,g.tok _,⟨_,rfl⟩,f⟩
  |none=>
   rw[lk]at i f;exact W.kt_get2_noneS (tab _ g.fL) i (MZ z u) λv k=>by obtain⟨t3,rfl⟩:=k.int_inv;exact⟨.int z,q,g.tok _,⟨_,rfl⟩,f⟩
def HY:AV->Option (List<|Str×Int)
 |.lF kvs=>aA kvs
 |_=>aD
def jj:Hr->Option (Str×Int)
 |[.str s,.int z]=>aA (s,z)
 |_=>aD
theorem aMb{s:Str}{z:Int}(h:jj xs=aA (s,z)):xs=[.str s,.int z]:=by
 unfold jj at h;split at h
 .cases h;rfl
 .exact cJ h
def Im(o:M AV)(r:M Hr):M AV:=o.bind λx h=>match HY x with
 |some kvs=>(r.bind λxs h2=>match jj xs with
  |some (s,z)=>.ok (.int<|getOf kvs s z) h2
  |none=>.bad) h
 |none=>.bad
theorem aEj(hT:∀kvs a,T.G kvs a->oj X.prog X.w X.K a kvs)(ho:QE X T E o ma)(ha:QA X T E [a,b] mr)(hb:jZ o=aB)(hs:bY a=aB)(hs2:bY b=aB)(hl:(apos.endLine==pos.line)=aB) :
  QE X T E (.Call (.Attribute o "get" apos) [a,b] [] pos) (λZ=>Im (ma Z) (mr Z)):=by
 obtain⟨ta,pa,m⟩:=ho;obtain⟨tr,pr,n⟩:=ha;refine⟨_,aAu pa pr hb hs hs2 hl,λq Z c h H Q R S w=>m q Z c h H _ R S (W.bind w λd x D k H1 r t u w1=>?_)⟩;have w2:W T (aW T) (match HY x with
  |some kvs=>((mr Z).bind λxs f=>match jj xs with
   |some (s,z)=>.ok (.int<|getOf kvs s z) f
   |none=>.bad) k
  |none=>Res.bad) d H1 Q E:=w1
 cases x with
 |lF kvs=>
  cases u with
  |@lF _ p e=>
   refine⟨p,kvs,rfl,hT kvs p e,n d Z c k H1 _ t (S.ext r) (W.bind w2 λg xs v f y F R2 A w3=>?_)⟩;have i:W T (aW T) (match jj xs with
    |some (s,z)=>.ok (.int<|getOf kvs s z) f
    |none=>Res.bad) g y Q E:=w3
   cases l:jj xs with
   |none=>rw[l]at i;cases i|some p=>
    obtain⟨s,z⟩:=p;have ex:=aMb l;subst ex;cases A with
    |cons B rs=>
     cases B;cases rs with
     |cons C j=>cases C;cases j;exact⟨s,z,rfl,W.here i R2 (.int _)⟩
 |_=>exact w2.elim
end
section
variable {o v:aK}{f:Str}{pos':Pos}
theorem Ia{v:AV}:∀{fs:Yf}{ys:Xw},bE T Y H (fs.map (·.2)) ys->fs.lookup f=aA v->∃y,((fs.map (·.1)).zip ys).lookup f=aA y/\aW T Y H v y
 |[],_,_,l=>by cases l
 | (k,x)::fs,_,.cons h hs,l=>by
  rw[jD]at l;rw[iH,Eb,jD];cases hb:(f==k) with
  |true=>simp only[hb]at l ⊢;cases l;exact⟨_,rfl,h⟩
  |false=>simp only[hb]at l ⊢;exact Ia hs l
def uI(cs:Yh)(f:Str)(x:AV):M AV:=λh=>match x with
 |.ref n=>match h.ob n with
  |some (.ins c fs)=>if cs.contains c=aB then match fs.lookup f with
   |some v=>.ok v h
   |none=>.bad
   else .bad
  |_=>.bad
 |_=>.bad
def fj(K:bJ)(T:Tab)(cs:Yh)(f:Str):Prop:=∀c C,cs.contains c=aB->T.C c=aA C->mV K C/\wC K C f
theorem aEi{cs:Yh}(hC:fj X.K T cs f)(ho:QE X T E o ma)(hb:jZ o=aB):QE X T E (.Attribute o f pos) (λZ=>(ma Z).bind (uI cs f)):=by
 obtain⟨B,pa,e⟩:=ho;refine⟨_,aAt pa (wI hb),λi Z b h H Q R S w=>e i Z b h H _ R S (W.bind w λj x D h1 H1 F d k a=>?_)⟩;cases x with
 |ref n=>
  cases k with
  |@ref _ p q=>
   simp only[uI]at a;cases ob:h1.ob n with
   |none=>rw[ob]at a;cases a|some u=>
    rw[ob]at a;cases u with
    |ins c fs=>
     obtain⟨C,m,G,I,s,g,rfl,r⟩:=d.obj n _ p ob q;by_cases hm:cs.contains c=aB
     case neg=>simp only[if_neg hm]at a;cases a
     simp only[if_pos hm]at a;cases l:fs.lookup f with
     |none=>rw[l]at a;cases a|some v=>rw[l]at a;obtain⟨y,t,z⟩:=Ia r l;obtain⟨h1,A⟩:=hC c C hm s;exact⟨p,C,m,_,y,rfl,g,h1,A,t,W.here a d z⟩
    |_=>cases a
 |_=>cases a
def gJ(f:Str)(v:AV):Yf->Yf
 |[]=>[(f,v)]
 | (g,x)::r=>if g=f then(g,v)::r else(g,x)::gJ f v r
theorem Lq{v:AV}{y:V}(rv:aW T Y H v y):∀{fs:Yf}{ys:Xw},bE T Y H (fs.map (·.2)) ys->∃ys',jU f y ((fs.map (·.1)).zip ys)=((gJ f v fs).map (·.1)).zip ys'/\bE T Y H ((gJ f v fs).map (·.2)) ys'
 |[],_,.nil=>⟨[y],rfl,.cons rv .nil⟩
 | (k,x)::fs,_,.cons (y:=z) (ys:=zs) h hs=>by
  obtain⟨ys',e,r⟩:=Lq rv hs;by_cases a:k=f
  .refine⟨y::zs,?_,?_⟩
   .simp only[gJ,if_pos a,iH,Eb,jU]
   .simp only[gJ,if_pos a];exact .cons rv hs
  .refine⟨z::ys',?_,?_⟩
   .simp only[gJ,if_neg a,iH,Eb,jU,e]
   .simp only[gJ,if_neg a];exact .cons h r
def ui(cs:Yh)(f:Str)(x v:AV)(h:AH):Option AH:=match x with
 |.ref n=>match h.ob n with
  |some (.ins c fs)=>if cs.contains c=aB/\fs.length<1000 then aA (h.put n<|.ins c<|gJ f v fs) else aD
  |_=>aD
 |_=>aD
def Yx(cs:Yh)(f:Str)(a b:M AV)(Z:aF):M Out:=b.bind λv=>a.bind λx h=>match ui cs f x v h with
 |some h'=>.ok (.nx Z) h'
 |none=>.bad
theorem aIi{cs:Yh}(hC:fj X.K T cs f)(ho:QE X T E o ma)(hv:QE X T E v mb)(hs:vX v (aA<|.Attribute o f pos') pos.line X.env=pure aH) :
  QS X T E (.Assign [.Attribute o f pos'] v pos) (λZ=>Yx cs f (ma Z) (mb Z) Z):=by
 obtain⟨ZM,pa,B⟩:=ho;obtain⟨tb,F,G⟩:=hv;refine⟨_,aCw pa F hs,λY Z d h H D R S w=>G Y Z d h H _ R S (W.bind w λj y y' h1 H1 l I J K=>B j Z d h1 H1 _ I (S.ext l) (W.bind K λe x x' m L s R2 M N=>?_))⟩;have a:W T (RO T) (match ui cs f x y m with
  |some O=>.ok (.nx Z) O
  |none=>.bad) e L (nM D) E:=N
 cases x with
 |ref n=>
  cases M with
  |@ref _ p q=>
   simp only[ui]at a;cases ob:m.ob n with
   |none=>simp only[ob]at a;cases a|some u=>
    simp only[ob]at a;cases u with
    |ins c fs=>
     obtain⟨C,k,ks,ys,t,g,rfl,r⟩:=R2.obj n _ p ob q;by_cases hm:cs.contains c=aB/\fs.length<1000
     case neg=>simp only[if_neg hm]at a;exact a.elim
     simp only[if_pos hm]at a;obtain⟨P,Q⟩:=hC c C hm.1 t;obtain⟨i,U,V⟩:=Lq (f:=f) (J.ext s) r;have ex:=jz (Y:=e) (O':=.ins C k (((gJ f y fs).map (·.1)).zip i)) g (λ_ z=>by cases z) (λ_ _ z=>by cases z);obtain⟨ZQ,A⟩:=R2.write (o':=.ins c (gJ f y fs)) ob rfl rfl q g (λ_ z=>by cases z) (λ_ _ z=>by cases z)
      ⟨C,k,_,i,t,gG,rfl,V.ext ex⟩
     refine⟨p,C,k,_,rfl,g,P,Q,?_,?_⟩
     .rw[LW,aU];lia
     .rw[U];exact W.ok (b:=jQ.nx d) a A ZQ<|(S.ext l).ext (s.trans A)
    |_=>cases a
 |_=>exact a.elim
inductive yM(X:Cx)(T:Tab)(EE:L2.St->XK)(C:Addr)(m:Str)(g:Hr->M AV):Prop
 |mk (k:Nat) (f:Addr) (fd:eS) (ps:Yb) (_:iL X.prog X.w X.K X.mg X.base (kQ X.prog X.w) k f fd ps (tJ T g)) (_:fJ k X.A) (_:mV X.K C) (_:xb X.K C m f) (_:Binds X.K fd ps []) (_:Uo (kQ X.prog X.w) X EE):yM X T EE C m g
def HR(X:Cx)(T:Tab)(m:Str)(EE:L2.St->XK)(ta:TE)(t:TA):TE:=λZ H Q=>ta Z H λx H1=>∃(a C dx:Addr) (fs:Yl) (g:Hr->M AV),x = .ref a/\H1 a=aA (.ins C dx fs)/\fs.lookup m=aD/\yM X T EE C m g /\
 t Z H1 λvs H2=>tJ T g (x::vs) H2 Q (EE Z)
variable {EE:L2.St->XK}
variable {m:Str}{ta:TE}{t:TA}
theorem Gy{Xe:Value->aI->Prop}{Q:Value->aI->Prop}(h0:mq o m env (eval o env)=eval o env)
  (h1:Tf (args.length+([]:List tL).length) (lQ pos<|eF args env) (yF pos<|yH [] env)=aB)(h2:(apos.endLine==pos.line)=aB)
  (h:aS (aY X.prog X.w) A (eval o env) (λov s1=>∀pl,aS (aY X.prog X.w) A (Tc ov m pl) (λfx s2=>aS (aY X.prog X.w) A (callWith pos fx.1 fx.2 (lQ pos<|eF args env)<|yF pos<|yH [] env) Q Xe s2) Xe s1) Xe s) :
  aS (aY X.prog X.w) A (eval (.Call (.Attribute o m apos) args [] pos) env) Q Xe s:=by
 have a:OB aB o env apos pos=pure pos:=by unfold OB;simp[h2]
 rw[arm_eval_Call,h0];refine aQ<|bC h λov s1 z=>aQ (nj ?_);unfold methodCall;rw[h1];exact aQ<|pI<|bC (z _) λfx s2 y=>aQ (Tv a y)
theorem Ic(hs:args.all bY=aB)(hn:args.length<30):Tf (args.length+([]:List tL).length) (lQ pos<|eF args env) (yF pos<|yH [] env)=aB:=by unfold Tf;rw[<- MD,tH hs];simpa[yH,yF]using hn
theorem aBa(he:PE X o ta)(ha:PA X (e::es) t)(hb:jZ o=aB)(hs:(e::es).all bY=aB)(hn:(e::es).length<30)(hl:(apos.endLine==pos.line)=aB):PE X (.Call (.Attribute o m apos) (e::es) [] pos) (HR X T m EE ta t):=by
 intro ap s Z H Q I h;have b:=hs;rw[jX,bT]at hs;refine Gy (wI hb) ?_ hl<|bC (he ap s Z H _ I h) λu s1 ⟨x,H1,i,n,a,C,y,fs,g,ex,p,l,F,q⟩ pl=>?_
 .exact Ic b hn
 subst ex;obtain rfl:u=kO a:=n;obtain⟨k,f,fd,ps,F,hr,c,hm,d,v⟩:=F;refine Zx i p c hm l ?_;refine El I.ok.mod.ib hm.kp (bC (ha pos ap s1 Z H1 _ i q) λus s2 ⟨vs,z,j,r,w⟩=>⟨j.fL,?_⟩) (fE hs.1)<|tH hs.2;exact GO (vs:=.ref a::vs) F hr d v j (.cons rfl r) w
theorem aBb(he:PE X o ta)(hb:jZ o=aB)(hl:(apos.endLine==pos.line)=aB):PE X (.Call (.Attribute o m apos) [] [] pos) (HR X T m EE ta jk):=by intro ap s Z H Q I h;refine Gy (wI hb) (Ic rfl (by decide)) hl<|bC (he ap s Z H _ I h) λu s1 ⟨x,H1,b,e,a,C,n,fs,g,ex,i,l,F,q⟩ pl=>?_;subst ex;obtain rfl:u=kO a:=e;obtain⟨k,f,fd,ps,F,hr,c,hm,d,j⟩:=F;refine Zx b i c hm l ?_;exact Sg b.fL hm.kp<|GO (vs:=[.ref a]) F hr d j b (.cons rfl .nil) q
def sy(dp:Nat->Option (Hr->M AV))(m:Str)(r:M Hr)(x:AV):M AV:=λh=>match x with
 |.ref n=>match h.ob n with
  |some (.ins c fs)=>match dp c,fs.lookup m with
   |some g,aD=>(r.bind λxs=>g (.ref n::xs)) h
   |_,_=>.bad
  |_=>.bad
 |_=>.bad
def Ak(dp:Nat->Option (Hr->M AV))(m:Str)(a:M AV)(r:M Hr):M AV:=a.bind (sy dp m r)
theorem Yy:∀{fs:Yf}{ys:Xw},bE T Y H (fs.map (·.2)) ys->fs.lookup f=aD->((fs.map (·.1)).zip ys).lookup f=aD
 |[],_,.nil,_=>rfl
 | (k,x)::fs,_,.cons h hs,l=>by
  rw[jD]at l;rw[iH,Eb,jD];cases hb:(f==k) with
  |true=>simp only[hb]at l;cases l|false=>simp only[hb]at l ⊢;exact Yy hs l
theorem CM{r:M Hr}(hM:∀c C g,dp c=aA g->T.C c=aA C->yM X T EE C m g)(R:bR T Y h H)(q:aW T Y H x x')
  (w:W T (aW T) (sy dp m r x h) Y H Q (EE Z'))(rr:∀Q',W T (bE T) (r h) Y H Q' (EE Z')->t Z' H Q') :
  ∃(a C dx:Addr) (fs:Yl) (g:Hr->M AV),x' = .ref a/\H a=aA (.ins C dx fs)/\fs.lookup m=aD/\yM X T EE C m g/\t Z' H λvs H2=>tJ T g (x'::vs) H2 Q (EE Z'):=by
 unfold sy at w;cases x with
 |ref n=>
  cases q with
  |@ref _ p q=>
   cases ob:h.ob n with
   |none=>simp only[ob]at w;cases w|some u=>
    simp only[ob]at w;cases u with
    |ins c fs=>
     obtain⟨C,dx,s,y,d,g1,rfl,e⟩:=R.obj n _ p ob q;cases hd:dp c with
     |none=>simp only[hd]at w;cases w|some g=>
      cases l:fs.lookup m with
      |some v=>simp only[hd,l]at w;exact w.elim|none=>simp only[hd,l]at w;exact⟨p,C,dx,_,g,rfl,g1,Yy e l,hM c C g hd d,rr _ (W.bind w λb xs f i H2 j R2 k o=>⟨b,i,.ref n::xs,R2,.cons (.ref<|j.pre n p q) k,o⟩)⟩
    |_=>cases w
 |_=>exact w.elim
theorem aEr(hM:∀c C g,dp c=aA g->T.C c=aA C->yM X T (λ_=>E) C m g)(ho:QE X T E o ma)(ha:QA X T E (e::es) mr)(hb:jZ o=aB)(hs:(e::es).all bY=aB)
  (hn:(e::es).length<30)(hl:(apos.endLine==pos.line)=aB):QE X T E (.Call (.Attribute o m apos) (e::es) [] pos) (λZ=>Ak dp m (ma Z) (mr Z)):=by
 obtain⟨q,pa,f⟩:=ho;obtain⟨r,pr,i⟩:=ha;exact⟨_,aBa pa pr hb hs hn hl,λj Z a h H Q R S w=>f j Z a h H _ R S (W.bind w λb x s h1 H1 k d l n=>CM hM d l n λt p=>i b Z a h1 H1 _ d (S.ext k) p)⟩
theorem aEs(hM:∀c C g,dp c=aA g->T.C c=aA C->yM X T (λ_=>E) C m g)(ho:QE X T E o ma)(hb:jZ o=aB)(hl:(apos.endLine==pos.line)=aB) :
  QE X T E (.Call (.Attribute o m apos) [] [] pos) (λZ=>Ak dp m (ma Z) (M.ret [])):=by
 obtain⟨l,pa,d⟩:=ho;exact⟨_,aBb pa hb hl,λe Z a h H Q R S w=>d e Z a h H _ R S (W.bind w λf x n h1 H1 p b i j=>CM hM b i j λq k=>W.here k b .nil)⟩
inductive wx(X:Cx)(T:Tab)(E:XK)(x:Str)(c:Nat)(dv:Hr)(g:Hr->M AV):Prop
 |mk (k:Nat) (C f:Addr) (fd:eS) (ps:Yb) (ds:Hs) (dvs:Xw) (_:T.C c=aA C) (_:Mk X.K C f) (_:iL X.prog X.w X.K X.mg X.base (kQ X.prog X.w) k f fd ps (tJ T g)) (_:fJ (k+1) X.A) (_:X.mg x=aA (.ref C)) (_:Binds X.K fd ps ds) (_:Vals dvs ds) (_:(∀Y H,bE T Y H dv dvs)) (_:sF (kQ X.prog X.w) X E):wx X T E x c dv g
def isNone:AV->Bool
 |.aG=>aB
 |_=>aH
def Ah(c:Nat)(dv:Hr)(g:Hr->M AV)(r:M Hr):M AV:=r.bind λxs h=>((g<|.ref h.nx::(xs++dv)).bind λv=>if isNone v=aB then M.ret (.ref h.nx) else M.bad) (h.new<|.ins c [])
theorem CK{c:Nat}{C dx:Addr}{g:Hr->M AV}(hc:T.C c=aA C)(R:bR T Y h H)(r:bE T Y H xs ys)(h1:H a=aD)(h2:H dx=aD)(h3:dx≠a)
  (w:W T (aW T) (((g<|.ref h.nx::xs).bind λv=>if isNone v=aB then M.ret (.ref h.nx) else M.bad)<|h.new<|.ins c []) Y H Q E) :
  tJ T g (.ref a::ys) (bG (bG H dx<|.own a) a<|.ins C dx []) (λv H2=>v = .aG/\Q (.ref a) H2) E:=by
 have f:Ext Y H Y (bG H dx<|.own a):=.jN h2;have hn:(bG H dx<|.own a) a=aD:=by rw[bZ (kN h3)];exact h1
 obtain⟨R2,i⟩:=(R.keep (a:=dx) (o:=.own a) h2).alloc (o:=.ins c []) hn ⟨C,dx,[],[],hc,gG,rfl,.nil⟩;have e:=f.trans i;have b:(Y++[a])[h.nx]?=aA a:=by rw[<- R.len];simp
 refine⟨Y++[a],h.new (.ins c []),.ref h.nx::xs,R2,.cons (.ref b) (r.ext e),W.bind (w.ext e) λj v n h3 p k l m d=>?_⟩;cases v with
 |aG=>cases m;exact⟨rfl,W.here d l (.ref<|k.pre _ _ b)⟩
 |_=>exact d.elim
theorem aEp{x:Str}{c:Nat}{g:Hr->M AV}(F:wx X T E x c dv g)(hg:Gl X x)(ha:QA X T E (e::es) mr)(hs:(e::es).all bY=aB)(hd:(x==("__debug__":Str))=aH) :
  QE X T E (.Call (.Name x p) (e::es) [] pos) (λZ=>Ah c dv g (mr Z)):=by
 obtain⟨k,C,f,fd,ps,ds,i,j,K,F,hr,hm,hb,l,b,m⟩:=F;obtain⟨A,pr,n⟩:=ha;rw[jX,bT]at hs;exact⟨_,aAy K F hr hg hm hb l m pr hd (fE hs.1) (tH hs.2),λo Z d h H Q R S w=>n o Z d h H _ R S (W.bind w λq xs r h1 H1 B s t u=>λa D v y z=>CK j s (t.append<|b _ _) v y z u)⟩
theorem aEq{x:Str}{c:Nat}{g:Hr->M AV}(F:wx X T E x c dv g)(hg:Gl X x)(hd:(x==("__debug__":Str))=aH) :
  QE X T E (.Call (.Name x p) [] [] pos) (λZ=>Ah c dv g (M.ret [])):=by
 obtain⟨k,C,f,fd,ps,ds,d,e,K,F,hr,hm,hb,i,b,j⟩:=F;exact⟨_,aAz K F hr hg hm hb i j hd,λq Z l h H Q R S w=>λa r m n o=>CK e R (b _ _) m n o w⟩
def Fw(f:Str)(n c:Nat)(i:Int)(Z:aF)(y:AV):M Out:=λh=>match y with
 |.int j=>match h.ob n with
  |some (.ins c' fs)=>if c'=c/\fs.length<1000 then .ok (.nx Z) (h.put n<|.ins c<|gJ f (.int<|i+j) fs) else .bad
  |_=>.bad
 |_=>.bad
def Uz(cs:Yh)(f:Str)(a b:M AV)(Z:aF):M Out:=a.bind λx h=>match x with
 |.ref n=>match h.ob n with
  |some (.ins c fs)=>if cs.contains c=aB then match fs.lookup f with
   |some (.int i)=>(b.bind<|Fw f n c i Z) h
   |_=>.bad
   else .bad
  |_=>.bad
 |_=>.bad
theorem aIj{cs:Yh}{tpos:Pos}(hC:fj X.K T cs f)(ho:QE X T E o ma)(hv:QE X T E v mb) :
  QS X T E (.AugAssign (.Attribute o f tpos) .Add v pos) (λZ=>Uz cs f (ma Z) (mb Z) Z):=by
 obtain⟨ta,pa,P⟩:=ho;obtain⟨tb,Q,U⟩:=hv;refine⟨_,aCx pa Q F6,λY Z k h H D R S w=>P Y Z k h H _ R S (W.bind w λF x x' h1 H1 J K V a=>?_)⟩;cases x with
 |ref n=>
  cases V with
  |@ref _ p q=>
   cases ob:h1.ob n with
   |none=>simp only[ob]at a;cases a|some u=>
    simp only[ob]at a;cases u with
    |ins c fs=>
     obtain⟨C,ZR,ks,ys,G,g,rfl,r⟩:=K.obj n _ p ob q;by_cases hm:cs.contains c=aB
     case neg=>simp only[if_neg hm]at a;cases a
     simp only[if_pos hm]at a;cases l:fs.lookup f with
     |none=>simp only[l]at a;cases a|some v1=>
      simp only[l]at a;cases v1 with
      |int i=>
       obtain⟨y1,ZN,ry⟩:=Ia r l;cases ry;obtain⟨c1,c2⟩:=hC c C hm G;refine⟨p,C,ZR,_,_,rfl,g,c1,c2,ZN,U F Z k h1 H1 _ K (S.ext J) (W.bind a λI y y' h2 H2 L R2 q2 d=>?_)⟩;cases y with
       |int j=>
        cases q2;simp only[Fw]at d;cases e:h2.ob n with
        |none=>simp only[e]at d;cases d|some u2=>
         simp only[e]at d;cases u2 with
         |ins M m=>
          by_cases B:M=c/\m.length<1000
          case neg=>simp only[if_neg B]at d;cases d
          simp only[if_pos B]at d;obtain⟨rfl,B⟩:=B;have N:=L.pre n p q;obtain⟨C2,s,ks2,ys2,t,g2,rfl,r2⟩:=R2.obj n _ p e N;rw[G]at t;cases t;obtain⟨A,ez,rz⟩:=Lq (.int _) r2;have ex:=jz (Y:=I) (O':=.ins C s (((gJ f (.int<|i+j) m).map (·.1)).zip A)) g2 (nofun) (λ_ _ z=>by cases z);obtain⟨R3,O⟩:=R2.write (o':=.ins M (gJ f (.int<|i+j) m)) e rfl rfl N g2 (nofun) (λ_ _ z=>by cases z)
           ⟨C,s,_,A,G,gG,rfl,rz.ext ex⟩
          refine⟨i,j,rfl,rfl,s,_,g2,?_,?_⟩
          .rw[LW,aU];lia
          .rw[ez];exact W.ok (b:=jQ.nx k) d O R3<|(S.ext J).ext (L.trans O)
         |_=>cases d
       |_=>cases d
      |_=>cases a
    |_=>cases a
 |_=>cases a
structure Uj(K:bJ)(C:Addr):Prop where
 cl:mV K C
 ha:nQ K (.ref C) "__class__"=aA (aA<|.builtin "object.__class__")
 hn:Ep K (.builtin "object.__class__") "__get__"=aA (aA<|.builtin "getset_descriptor.__get__")
 ht:W.takesIn K (.builtin "object.__class__")=aA aB
 hm:W.mroIn K C (.type "object")=aA aB
def pf(sub:Bool)(i:Nat)(b:M AV)(Z:aF):M Out:=match Z[i]? with
 |some (aA<|.int a)=>b.bind λy=>match y with
  |.int j=>M.ret (.nx<|Z.set i<|aA<|.int<|if sub=aB then a-j else a+j)
  |_=>M.bad
 |_=>M.bad
theorem EZ{i:Nat}{x:Str}(sub:Bool)(hN:X.N.Nodup)(hi:X.N[i]?=aA x)(hx:wB X.env.scope x)(hf:X.fn x=aB\/X.env.scope.names.lookup x=aA .local)(hv:QE X T E v mb) :
  QS X T E (.AugAssign (.Name x pos') (if sub=aB then .Sub else .Add) v pos) (λZ=>pf sub i (mb Z) Z):=by
 obtain⟨tb,e,f⟩:=hv;have k:xf X (if sub=aB then .Sub else .Add) (Jk λa j=>if sub=aB then a-j else a+j):=by
  cases sub
  .exact G2
  .exact G3
 refine⟨_,aCs hN hi hx e k hf,λm Z c h H D R S w=>?_⟩;unfold pf at w;cases l:Z[i]? with
 |none=>simp only[l]at w;exact w.elim|some u=>
  cases u with
  |none=>simp only[l]at w;exact w.elim|some a=>
   obtain⟨y,g,r⟩:=S.2 i a l;cases a with
   |int a=>
    simp only[l]at w;cases r;refine⟨_,g,f m Z c h H _ R S (W.bind w λn z s h1 H1 o p q d=>?_)⟩;cases z with
    |int j=>cases q;exact⟨a,j,rfl,rfl,W.here (b:=jQ.nx (c.set i<|aA<|.int<|if sub=aB then a-j else a+j)) d p ((S.ext o).set (.int _) i)⟩
    |_=>exact d.elim
   |_=>simp only[l]at w;exact w.elim
inductive Fe(X:Cx)(T:Tab)(E:XK)(x m:Str)(g:Hr->M AV):Prop
 |mk (k:Nat) (C f:Addr) (fd:eS) (ps:Yb) (_:X.mg x=aA (.ref C)) (_:iL X.prog X.w X.K X.mg X.base (kQ X.prog X.w) k f fd ps (tJ T g)) (_:fJ k X.A) (_:tP X.K (.ref f)=aB) (_:Ep X.K (.ref C) "__getattribute__"=aA (aA<|.builtin "type.__getattribute__")) (_:So X.K C (.type "type")=aB) (_:Si X.K (.ref C) (.type "type") m=aA (.val<|.ref f)) (_:Em (.ref f)=aB) (_:Binds X.K fd ps []) (_:sF (kQ X.prog X.w) X E):Fe X T E x m g
theorem aEf{x:Str}{g:Hr->M AV}(B:Fe X T E x m g)(hg:Gl X x)(hd:(x==("__debug__":Str))=aH)(ha:QA X T E (e::es) mr)(hs:(e::es).all bY=aB)(hn:(e::es).length<30)
  (hl:(apos.endLine==pos.line)=aB):QE X T E (.Call (.Attribute (.Name x p) m apos) (e::es) [] pos) (λZ=>(mr Z).bind g):=by
 obtain⟨k,C,f,fd,ps,hm,F,hr,kp,h1,o,t,z,hb,A⟩:=B;obtain⟨l,pr,D⟩:=ha;refine⟨λZ H Q=>l Z H λa b=>tJ T g a b Q E,?_,λG Z c h H Q R S w=>D G Z c h H _ R S (W.bind w λd xs J h1 H1 V K L N=>⟨d,h1,xs,K,L,N⟩)⟩;intro ap s Z H Q I h;have i:=hs;rw[jX,bT]at hs;refine Gy (wI rfl) (Ic i hn) hl<|bC ((DO (v:=.ref C) hg hm rfl hd) ap s Z H (λy H1=>y = .ref C/\l Z H1 λa b=>tJ T g a b Q E) I ⟨rfl,h⟩) λu s1 ⟨y,H1,j,O,P,q⟩ pl=>?_;subst P;obtain rfl:u=kO C:=O;refine W.method_cls j.fL h1<|W.cls_value j.fL o t z ?_;refine El I.ok.mod.ib kp (bC (pr pos ap _ Z H1 _ (j.tok _) q) λus s2 ⟨a,b,n,r,U⟩=>⟨n.fL,?_⟩) (fE hs.1)<|tH hs.2;exact Nn F hr hb .nil A n r (by rw[jY];exact U)
end
section
variable {o:aK}
def zS(x:AV):M AV:=λh=>match x with
 |.ref n=>match h.ob n with
  |some (.lst aB xs)=>match xs[xs.length-1]? with
   |some y=>.ok y (h.put n<|.lst aB xs.dropLast)
   |none=>.bad
  |_=>.bad
 |_=>.bad
theorem bE.dropLast{Y:Xx}{H:Hp}{xs:Hr}{ys:Xw}(r:bE T Y H xs ys):bE T Y H xs.dropLast ys.dropLast:=by rw[KW,KW,r.length];exact r.take _
theorem aEx(hK:X.K=T.K)(ho:QE X T E o ma)(hb:jZ o=aB)(hl:(apos.endLine==pos.line)=aB):QE X T E (.Call (.Attribute o "pop" apos) [] [] pos) (λZ=>(ma Z).bind zS):=by
 obtain⟨ta,pa,i⟩:=ho;refine⟨_,aAl NL PySem.F.slot_list_pop PySem.F.type_list_pop Q8 pa (wI hb) hl,λY Z a h H Q R S w=>?_⟩;refine i Y Z a h H _ R S<|W.bind w λb x s j H1 t f k w1=>?_;cases x with
 |ref n=>
  cases k with
  |@ref _ p q=>
   simp only[zS]at w1;cases ob:j.ob n with
   |none=>rw[ob]at w1;cases w1|some u=>
    rw[ob]at w1;cases u with
    |lst mu xs=>
     cases mu with
     |false=>cases w1|true=>
      obtain⟨c,g1,d⟩:=f.obj n _ p ob q;dsimp only at w1;cases e:xs[xs.length-1]? with
      |none=>rw[e]at w1;cases w1|some y=>rw[e]at w1;obtain⟨l,g2,m⟩:=d.get e;have ex:=jz (Y:=b) (O':=.lst c.dropLast) g1 (λ_ z=>by cases z) (λ_ _ z=>by cases z);obtain⟨r,g⟩:=f.write (o':=.lst aB xs.dropLast) ob rfl rfl q g1 (λ_ z=>by cases z) (λ_ _ z=>by cases z) ⟨_,gG,d.dropLast.ext ex⟩;exact⟨.inl ⟨rfl,⟨c,.inl (.inl g1)⟩⟩,p,c,l,rfl,rfl,g1,d.length▸g2,W.ok w1 g r (m.ext g)⟩
    |_=>cases w1
 |_=>exact w1.elim
def Hh:M AV:=λh=>.ok (.ref h.nx) (h.new<|.aN [])
theorem aEh:QE X T E (.Dict [] [] pos) (λ_=>Hh):=by refine⟨_,aAs,λe f a h H Q R S w p b=>?_⟩;obtain⟨c,d⟩:=R.alloc (o:=.aN []) b ⟨[],[],gG,rfl,.nil⟩;refine W.ok w d c<|.ref ?_;rw[<- R.len];simp
def yj(g:AV->Hr->M AV)(a:M AV)(r:M Hr):M AV:=a.bind λx h=>if(gE h x).isSome=aB then(r.bind λxs=>g x xs) h else .bad
theorem Mb{m:Str}{id:String}{r:V->Xw->Hp->VK->Prop}{g:AV->Hr->M AV} (slot:Slot "dict" m id) (hty:typeOf (.builtin id)=pure (.type "method_descriptor")) (hm:fm X id r)
  (hg:∀Y h H x x' xs gY Q,bR T Y h H->aW T Y H x x'->bE T Y H xs gY->W T (aW T) (g x xs h) Y H Q E->r x' gY H Q)
  (ho:QE X T E o ma) (ha:QA X T E (e::es) mr) (hb:jZ o=aB) (hs:(e::es).all bY=aB) (hn:(e::es).length<29) (hl:(apos.endLine==pos.line)=aB) :
  QE X T E (.Call (.Attribute o m apos) (e::es) [] pos) (λZ=>yj g (ma Z) (mr Z)):=by
 obtain⟨ta,pa,l⟩:=ho;obtain⟨tr,pr,p⟩:=ha;have i:=hs;rw[jX,bT]at hs;refine⟨_,DM NK slot hty hm pa pr (wI hb) ?_ hl (fE hs.1) (tH hs.2),λY Z c h H Q R S w=>?_⟩
 .rw[<- MD,(tH (env:=X.env) (pos:=pos) i)];simp only[yH,yF,LY,List.all_nil,Qr,List.isEmpty_nil,if_true,Bool.not_false,Bool.true_and,decide_eq_true_eq];lia
 refine l Y Z c h H _ R S<|W.bind w λd x x' f H1 s k t w1=>?_;have b:=w1;by_cases hd:(gE f x).isSome=aB
 case neg=>rw[if_neg hd]at b;cases b
 rw[if_pos hd]at b;obtain⟨u,hd⟩:=Option.isSome_iff_exists.mp hd;obtain⟨n,a,us,rfl,q,ob,rfl,v,C⟩:=wV k t hd;exact⟨.inr (.inr<|.inl ⟨rfl,.inl ⟨us,v⟩⟩),p d Z c f H1 _ k (S.ext s) (W.bind b λj xs gY y z A R2 B w2=>hg j y z _ _ xs gY Q R2 (.ref<|A.pre n a q) B w2)⟩
def zL(x:AV)(xs:Hr):M AV:=λh=>match gE h x with
 |some kvs=>match xs with
  |[y]=>match eZ y with
   |some k=>.ok ((bL kvs k).getD .aG) h
   |none=>
    .bad
  |[y,z]=>match eZ y with
   |some k=>.ok ((bL kvs k).getD z) h
   |none=>.bad
  |_=>.bad
 |none=>.bad
def Nh:AV->Nat
 |.ref n=>n
 |_=>0
def zM(x:AV)(xs:Hr):M AV:=λh=>match gE h x with
 |some kvs=>match xs with
  |[y]=>match eZ y with
   |some k=>match bL kvs k with
    |some v=>.ok v (h.put (Nh x)<|.aN<|uA kvs k)
    |none=>.bad
   |none=>.bad
  |[y,z]=>match eZ y with
   |some k=>match bL kvs k with
    |some v=>.ok v (h.put (Nh x)<|.aN<|uA kvs k)
    |none=>.ok z h
   |none=>.bad
  |_=>.bad
 |none=>.bad
def qs(x:AV)(xs:Hr):M AV:=λh=>match gE h x with
 |some kvs=>match xs with
  |[y,z]=>match eZ y with
   |some k=>if kvs.length<sizeLine then match bL kvs k with
    |some v=>.ok v h
    |none=>.ok z (h.put (Nh x)<|.aN<|gT kvs k z)
    else .bad
   |none=>.bad
  |_=>.bad
 |none=>.bad
theorem YB(Y:Xx)(h:AH)(H:Hp)(x:AV)(x':V)(xs:Hr)(gY:Xw)(Q:VK)(R:bR T Y h H)(rx:aW T Y H x x')(rs:bE T Y H xs gY)(w:W T (aW T) (zL x xs h) Y H Q E):FO x' gY H Q:=by
 unfold zL at w;cases d:gE h x with
 |none=>simp only[d]at w;cases w|some b=>
  simp only[d]at w;obtain⟨n,a,us,rfl,q,ob,rfl,g,j⟩:=wV R rx d;cases rs with
  |nil=>cases w|@cons y t u m i rs=>
   have fin:∀{k:aP}{z:AV}{c:V},aW T Y H z c->aW T Y H ((bL b k).getD z) ((fN us k).getD c):=λ{k z c} e=>by
    obtain⟨g1,g2⟩:=bh j;cases l:bL b k with
    |none=>rw[g2 l];exact e|some v=>obtain⟨A,o,p⟩:=g1 v l;rw[o];exact p
   cases rs with
   |nil=>
    cases k:eZ y with
    |none=>simp only[k]at w;cases w
    |some r=>simp only[k]at w;have f:=sT i k;subst f;exact⟨a,_,_,rfl,lR.k g,.inl ⟨rfl,W.here w R (fin .aG)⟩⟩
   |@cons z c zs s e rs=>
    cases rs with
    |nil=>
     cases k:eZ y with
     |none=>simp only[k]at w;cases w|some r=>simp only[k]at w;have f:=sT i k;subst f;exact⟨a,_,_,rfl,lR.k g,.inr ⟨c,rfl,W.here w R (fin e)⟩⟩
    |cons _ _=>cases w
theorem YK(Y:Xx)(h:AH)(H:Hp)(x:AV)(x':V)(xs:Hr)(gY:Xw)(Q:VK)(R:bR T Y h H)(rx:aW T Y H x x')(rs:bE T Y H xs gY)(w:W T (aW T) (zM x xs h) Y H Q E):FP x' gY H Q:=by
 unfold zM at w;cases d:gE h x with
 |none=>simp only[d]at w;cases w|some b=>
  simp only[d]at w;obtain⟨n,a,us,rfl,q,ob,rfl,g,j⟩:=wV R rx d;have wr:∀{k:aP}{v:AV}{y:V},bL b k=aA v->aW T Y H v y->W T (aW T) (.ok v<|h.put n<|.aN<|uA b k) Y H Q E->Q y (bG H a<|.dK<|sL us k):=λ{k v y} l s w=>by have ex:=jz (Y:=Y) (O':=.dK (sL us k)) g (nofun) (λ_ _ z=>by cases z);obtain⟨t,p⟩:=R.write ob rfl rfl q g (nofun) (λ_ _ z=>by cases z) (He gG<|(aKb j).ext ex);exact W.ok w p t<|s.ext p
  cases rs with
  |nil=>cases w|@cons y D F u r rs=>
   cases rs with
   |nil=>
    cases k:eZ y with
    |none=>simp only[k]at w;cases w|some e=>
     simp only[k]at w;have m:=sT r k;subst m;obtain⟨g1,g2⟩:=bh j;cases l:bL b e with
     |none=>simp only[l]at w;cases w|some v=>simp only[l]at w;obtain⟨o,c,i⟩:=g1 v l;exact⟨a,us,e,rfl,g,.inl ⟨rfl,o,c,wr l i w⟩⟩
   |@cons z A zs B C rs=>
    cases rs with
    |nil=>
     cases k:eZ y with
     |none=>simp only[k]at w;cases w|some e=>
      simp only[k]at w;have m:=sT r k;subst m;obtain⟨g1,g2⟩:=bh j;refine⟨a,us,e,rfl,g,.inr ⟨A,rfl,λv1 c=>?_,λc=>?_⟩⟩
      .cases l:bL b e with
       |none=>rw[g2 l]at c;cases c|some v=>simp only[l]at w;obtain⟨o,f,i⟩:=g1 v l;rw[c]at f;cases f;exact wr l i w
      .cases l:bL b e with
       |none=>simp only[l]at w;exact W.here w R C|some v=>obtain⟨o,f,i⟩:=g1 v l;rw[c]at f;cases f
    |cons _ _=>cases w
theorem YQ(Y:Xx)(h:AH)(H:Hp)(x:AV)(x':V)(xs:Hr)(gY:Xw)(Q:VK)(R:bR T Y h H)(rx:aW T Y H x x')(rs:bE T Y H xs gY)(w:W T (aW T) (qs x xs h) Y H Q E):FQ x' gY H Q:=by
 unfold qs at w;cases d:gE h x with
 |none=>simp only[d]at w;cases w|some b=>
  simp only[d]at w;obtain⟨n,a,us,rfl,q,ob,rfl,g,i⟩:=wV R rx d;cases rs with
  |nil=>cases w|@cons y D F s t rs=>
   cases rs with
   |nil=>cases w|@cons z m zs u o rs=>
    cases rs with
    |nil=>
     cases k:eZ y with
     |none=>simp only[k]at w;cases w|some f=>
      simp only[k]at w;have A:=sT t k;subst A;by_cases j:b.length<sizeLine
      case neg=>rw[if_neg j]at w;cases w
      rw[if_pos j]at w;obtain⟨g1,g2⟩:=bh i;refine⟨a,us,f,m,rfl,g,rfl,by rw[<- GJ i];exact j,λv1 c=>?_,λc=>?_⟩
      .cases l:bL b f with
       |none=>rw[g2 l]at c;cases c|some v=>simp only[l]at w;obtain⟨B,e,p⟩:=g1 v l;rw[c]at e;cases e;exact W.here w R p
      .cases l:bL b f with
       |none=>simp only[l]at w;have ex:=jz (Y:=Y) (O':=.dK (putK us f m)) g (nofun) (λ_ _ z=>by cases z);obtain⟨C,r⟩:=R.write ob rfl rfl q g (nofun) (λ_ _ z=>by cases z) (He gG<|(GK i o).ext ex);exact W.ok w r C<|o.ext r
       |some v=>obtain⟨B,e,p⟩:=g1 v l;rw[c]at e;exact cJ e
    |cons _ _=>cases w
set_option genCtorIdx true in
inductive Dm where
 |get
 |pop|setd
def Dm.g:Dm->AV->Hr->M AV
 |.get=>zL
 |.pop=>zM | .setd=>qs
def yk(m:Str):Option Dm:=if m="get" then aA .get else
 if m="pop" then aA .pop else if m="setdefault" then aA .setd else
 aD
theorem EJ{m:Str}{f:Dm}(hf:yk m=aA f)(hu:X.A.units+1<cLine)(ho:QE X T E o ma)(ha:QA X T E (e::es) mr)(hb:jZ o=aB)(hs:(e::es).all bY=aB)(hn:(e::es).length<29)(hl:(apos.endLine==pos.line)=aB) :
  QE X T E (.Call (.Attribute o m apos) (e::es) [] pos) (λZ=>yj f.g (ma Z) (mr Z)):=by
 unfold yk at hf;split at hf
 case isTrue h=>cases hf;subst h;exact Mb mf NO (Q5 hu) YB ho ha hb hs hn hl
 split at hf
 case isTrue h=>cases hf;subst h;exact Mb Sa PySem.F.type_dict_pop Q6 YK ho ha hb hs hn hl
 split at hf
 case isTrue h=>cases hf;subst h;exact Mb NN aUv Q7 YQ ho ha hb hs hn hl
 exact cJ hf
end
set_option genCtorIdx true in
inductive Op where
 |add|sub|mul|fdiv|mod|pow|shl|shr|band|bor|bxor|ix
def Op.g:Op->AV->AV->M AV
 |.add=>Zf | .sub=>zl | .mul=>qw | .fdiv=>Zh | .mod=>Zp | .pow=>Zs | .shl=>Zt | .shr=>Zu | .band=>Zg | .bor=>Zr | .bxor=>Zv | .ix=>uK
set_option genCtorIdx true in
inductive Cp where
 |eq|ne|lt|le|gt|ge|gz|isn|gw|nin
variable {o':Cp}
def Cp.g:Cp->AV->AV->M AV
 |.eq=>zN | .ne=>zR | .lt=>Zm | .le=>Zl | .gt=>Zj | .ge=>Zi | .gz=>Ih | .isn=>Ii | .gw=>nB aH | .nin=>nB aB
set_option genCtorIdx true in
inductive Bi where
 |len|int|min|max|divmod|tuple|list
 |dict
def Bi.g:Bi->Hr->M AV
 |.len=>qv | .int=>Zk | .min=>Zo | .max=>Zn | .divmod=>yz | .tuple=>zm | .list=>zQ
 |.dict=>qp
inductive CT where
 |bad
 |nm (i:Nat)
 |tup (is:Yh)
def xn:Yh->Hr->aF->M aF
 |[]=>Iu
 |i::is=>Iq (λv Z=>M.ret (Z.set i<|aA v)) (xn is)
def pP:CT->AV->aF->M aF
 |.bad,_,_=>M.bad
 |.nm i,v,Z=>M.ret (Z.set i<|aA v)
 |.tup is,v,Z=>zT is.length (xn is) v Z
mutual
inductive Ex where
 |wN (imp:Yj) (t:CT) (it:Ir) (e:Ex)
 |wO (imp:Yj) (t:CT) (it:Ir) (c e:Ex)
 |kI (d e:Ex)
 |bad|no
 |var (i:Nat)
 |val (v:AV)
 |op (o:Op) (a b:Ex)
 |cmp (o:Cp) (a b:Ex)
 |chain (o o':Cp) (a b c:Ex)
 |neg (a:Ex)
 |not (a:Ex)
 |and (a b:Ex)
 |or (a b:Ex)
 |ite (c a b:Ex)
 |tup (es:eG)
 |lst (es:eG)
 |slice (a lo hi:Ex)
 |call (f:Nat) (es:eG)
 |bi (f:Bi) (es:eG)
 |qX (t:BT) (a:Ex)
 |kc (k:Kc) (a:Ex)
 |lE (cs:Yh) (f:Str) (o:Ex)
 |rD (m:Str) (dp:Ye) (o:Ex) (es:eG)
 |make (c i:Nat) (dv:Hr) (es:eG)
 |gf (i:Nat) (es:eG)
 |qc
 |dm (f:Dm) (o:Ex) (es:eG)
 |tw (o:Ex)
 |app (o a:Ex)
 |get (o:Ex) (es:eG)
inductive eG where
 |nil
 |cons (e:Ex) (es:eG)
inductive Ir where
 |bad
 |seq (e:Ex)
 |Bm (es:eG)
 |Bn (es:eG)
 |enum (e:Ex)
 |zip (es:eG)
 |aN (e:Ex)
end
variable {d:Ex}
abbrev Run:=Nat->Hr->M AV
variable {F:Run}
def AQ:Ex->Bool
 |.no=>aB
 |_=>aH
def oY(e:Ex)(m:M AV):M Hq:=if AQ e=aB then M.ret aD else m.bind Ij
mutual
noncomputable def aL(F:Run):Ex->aF->M AV
 |.bad,_=>M.bad
 |.no,_=>M.bad
 |.var i,Z=>uL i Z
 |.val v,_=>M.ret v
 |.op o a b,Z=>uS o.g (aL F a Z) (aL F b Z)
 |.cmp o a b,Z=>uS o.g (aL F a Z) (aL F b Z)
 |.chain o o' a b c,Z=>gc o.g o'.g (aL F a Z) (aL F b Z) (aL F c Z)
 |.neg a,Z=>(aL F a Z).bind qx
 |.not a,Z=>(aL F a Z).bind λx=>(dH x).bind λb=>M.ret (.bl<|!b)
 |.and a b,Z=>Uv (aL F a Z) (aL F b Z)
 |.or a b,Z=>DE (aL F a Z) (aL F b Z)
 |.ite c a b,Z=>Ab (dU F c Z) (aL F a Z) (aL F b Z)
 |.tup es,Z=>Oo (dO F es Z)
 |.lst es,Z=>uR (dO F es Z)
 |.slice a lo hi,Z=>(aL F a Z).bind λx=>(oY lo<|aL F lo Z).bind λl=>(oY hi<|aL F hi Z).bind λu=>qL x l u
 |.call f es,Z=>(dO F es Z).bind (F f)
 |.bi f es,Z=>(dO F es Z).bind f.g
 |.qX t a,Z=>(aL F a Z).bind (zO t)
 |.kc k a,Z=>(aL F a Z).bind k.g
 |.lE cs f o,Z=>(aL F o Z).bind (uI cs f)
 |.rD m dp o es,Z=>Ak (λc=>(dp.lookup c).map F) m (aL F o Z) (dO F es Z)
 |.make c i dv es,Z=>Ah c dv (F i) (dO F es Z)
 |.gf i es,Z=>(dO F es Z).bind (F i)
 |.qc,_=>Hh
 |.dm f o es,Z=>yj f.g (aL F o Z) (dO F es Z)
 |.tw o,Z=>(aL F o Z).bind zS
 |.app o a,Z=>Fu (aL F o Z) (aL F a Z)
 |.get o es,Z=>Im (aL F o Z) (dO F es Z)
 |.wN imp t it e,Z=>yV (cR F it Z) (pP t) (λ_=>M.ret aB) (aL F e) imp Z
 |.wO imp t it c e,Z=>yV (cR F it Z) (pP t) (dU F c) (aL F e) imp Z
 |.kI d e,Z=>mD (aL F d) (aL F e) Z
noncomputable def dU(F:Run):Ex->aF->M Bool
 |.bad,_=>M.bad
 |.no,_=>M.bad
 |.ite _ _ _,_=>M.bad
 |.var i,Z=>(uL i Z).bind dH
 |.val v,_=>dH v
 |.op o a b,Z=>(uS o.g (aL F a Z)<|aL F b Z).bind dH
 |.cmp o a b,Z=>(uS o.g (aL F a Z)<|aL F b Z).bind yy
 |.chain o o' a b c,Z=>(gc o.g o'.g (aL F a Z) (aL F b Z)<|aL F c Z).bind yy
 |.neg a,_=>M.bad
 |.not a,Z=>(dU F a Z).bind λb=>M.ret (!b)
 |.and a b,Z=>Uu (dU F a Z) (dU F b Z)
 |.or a b,Z=>DD (dU F a Z) (dU F b Z)
 |.tup es,Z=>(Oo<|dO F es Z).bind dH
 |.lst es,Z=>(uR<|dO F es Z).bind dH
 |.slice a lo hi,Z=>((aL F a Z).bind λx=>(oY lo<|aL F lo Z).bind λl=>(oY hi<|aL F hi Z).bind λu=>qL x l u).bind dH
 |.call f es,Z=>((dO F es Z).bind (F f)).bind dH
 |.bi f es,Z=>((dO F es Z).bind f.g).bind dH
 |.qX t a,Z=>((aL F a Z).bind (zO t)).bind dH
 |.kc k a,Z=>((aL F a Z).bind k.g).bind dH
 |.lE cs f o,Z=>((aL F o Z).bind (uI cs f)).bind dH
 |.rD m dp o es,Z=>(Ak (λc=>(dp.lookup c).map F) m (aL F o Z)<|dO F es Z).bind dH
 |.make c i dv es,Z=>(Ah c dv (F i)<|dO F es Z).bind dH
 |.gf i es,Z=>((dO F es Z).bind (F i)).bind dH
 |.qc,_=>Hh.bind dH
 |.dm f o es,Z=>(yj f.g (aL F o Z)<|dO F es Z).bind dH
 |.tw o,Z=>((aL F o Z).bind zS).bind dH
 |.app o a,Z=>(Fu (aL F o Z)<|aL F a Z).bind dH
 |.get o es,Z=>(Im (aL F o Z)<|dO F es Z).bind dH
 |.wN imp t it e,Z=>(yV (cR F it Z) (pP t) (λ_=>M.ret aB) (aL F e) imp Z).bind dH
 |.wO imp t it c e,Z=>(yV (cR F it Z) (pP t) (dU F c) (aL F e) imp Z).bind dH
 |.kI d e,Z=>(mD (aL F d) (aL F e) Z).bind dH
noncomputable def dO(F:Run):eG->aF->M Hr
 |.nil,_=>M.ret []
 |.cons e es,Z=>Wu (aL F e Z) (dO F es Z)
noncomputable def cR(F:Run):Ir->aF->M gC
 |.bad,_=>M.bad
 |.seq e,Z=>(aL F e Z).bind zP
 |.Bm es,Z=>(dO F es Z).bind zj
 |.Bn es,Z=>(dO F es Z).bind zk
 |.enum e,Z=>(aL F e Z).bind zc
 |.zip es,Z=>(dO F es Z).bind zo
 |.aN e,Z=>(aL F e Z).bind qj
end
structure Cn where
 N:Yb
 sc:gH
 fns:Yb
 qz:Yf
 iN:Yb
 JU:List (Str×Nat)
 cat:List (Str×ZD)
 AR:List (Str×ZD)
 top:Bool:=aB
 kR:List (Str×Yh):=[]
 nH:List (Str×Ye):=[]
 mL:List ((Str×Nat)×(Nat×Nat×Hr)):=[]
 sP:List (Str×ZD):=[]
 oX:List (Str×List (Str×Nat)):=[]
 Hj:Yb:=[]
def Cn.gl(C:Cn)(x:Str):Bool:=decide (C.sc.names.lookup x=aA .globalImplicit)
def ik(x:Str):Bool:=!(x==("__debug__":Str)) && !(x==("__classdict__":Str)) && !(x==("__name__":Str))
def Cn.loc(C:Cn)(x:Str):Bool:=decide (C.sc.names.lookup x=aA .local)||decide (C.sc.names.lookup x=aA .cell)
def Cn.name(C:Cn)(x:Str):Ex:=if ik x then
  if C.loc x then match C.N.idxOf? x with
   |some i=>.var i
   |none=>.bad
  else if C.gl x then match C.qz.lookup x with
   |some v=>.val v
   |none=>.bad
  else .bad
 else .bad
def Ww:Const->Ex
 |.none=>.val .aG
 |.bool b=>.val (.bl b)
 |.int i=>.val (.int i)
 |.str x=>.val (.str x)
 |_=>.bad
def Vq:rZ->Option Op
 |.Add=>aA .add | .Sub=>aA .sub | .Mult=>aA .mul | .FloorDiv=>aA .fdiv | .Mod=>aA .mod | .Pow=>aA .pow
 |.LShift=>aA .shl | .RShift=>aA .shr | .BitAnd=>aA .band | .BitOr=>aA .bor | .BitXor=>aA .bxor
 |_=>aD
def yb:pE->Cp
 |.Eq=>.eq | .NotEq=>.ne | .Lt=>.lt | .LtE=>.le | .Gt=>.gt | .GtE=>.ge | .Is=>.gz | .IsNot=>.isn | .In=>.gw | .NotIn=>.nin
def Gk(op:rZ)(a b:Ex):Ex:=match Vq op with
 |some o=>.op o a b
 |none=>.bad
def yS(k:Ex->Ex->Ex):List Ex->Ex
 |[]=>.bad
 |[a]=>a
 |a::r=>k a (yS k r)
def lV:List Ex->eG
 |[]=>.nil
 |e::es=>.cons e (lV es)
def Vz:List (Str×BT):=[("int",.int),("bool",.bl),("str",.str),("tuple",.tup),("list",.lst)]
def VU(x:Str):Option BT:=Vz.lookup x
def Vp:List (Str×Bi):=[("len",.len),("int",.int),("min",.min),("max",.max),("divmod",.divmod),("tuple",.tuple),("list",.list),("dict",.dict)]
def VI(x:Str):Option Bi:=Vp.lookup x
def Cn.bl(C:Cn)(x:Str):Bool:=C.gl x&&C.iN.contains x&&ik x
def ij:aK->Option Str
 |.Name x _=>aA x
 |_=>aD
def Cn.Gx(C:Cn)(x:Str)(es:List aK)(cs:List Ex):Ex:=if ik x&&es.all bY then match C.fns.idxOf? x with
    |some i=>if C.gl x then .call i (lV cs) else .bad
    |none=>match C.mL.lookup (x,es.length) with
     |some (c,i,dv)=>if C.gl x then .make c i dv (lV cs) else .bad
     |none=>match VI x with
      |some f=>if C.bl x && !es.isEmpty then .bi f (lV cs) else .bad
      |none=>if decide (x="isinstance")&&C.bl x then match es,cs with
          |[_,t],[a,_]=>match (ij t).bind λy=>if C.bl y then VU y else aD with
            |some bt=>.qX bt a
            |none=>.bad
          |_,_=>.bad
        else .bad
  else .bad
def EF:Nat:=40
def Cn.slot(C:Cn)(x:Str):Yg:=if C.loc x then C.N.idxOf? x else aD
def Cn.Jn(C:Cn):aK->Bool
 |.Attribute _ f _=>C.Hj.contains f
 |_=>aH
def Cn.kI(C:Cn)(it:aK)(d e:Ex):Ex:=if C.Jn it then .kI d e else e
def cI(C:Cn)(f:aK->Ex)(tg:aK)(e:aK):Ir:=match e with
 |.Call (.Name x _) es [] _=>
  if decide (x="range")&&C.bl x then match es with
   |[a]=>if bY a then .Bm (lV<|[a].map f) else .bad
   |[a,b]=>if bY a&&bY b then .Bn (lV<|[a,b].map f) else .bad
   |_=>.bad
  else if decide (x="enumerate")&&C.bl x then match es,tg with
   |[a],.Tuple _ _ _=>if bY a then .enum (f a) else .bad
   |_,_=>.bad
  else if decide (x="zip")&&C.bl x then match es,tg with
   |[a,b],.Tuple _ _ _=>if bY a&&bY b then .zip (lV<|[a,b].map f) else .bad
   |_,_=>.bad
  else .seq (f e)
 |e=>if bY e then(if C.Jn e then .aN (f e) else .seq (f e)) else .bad
def yW(scope:gH):Yb:=(scope.names.filter λx=>(x.2==NameKind.local&&x.1 != (".0":Str))||x.2==jF).map (·.1)
def GF(scope sc:gH):gH:=
 { scope with names:=scope.names.map λ(n,k)=>if(k == .free&&sc.kind == .function&&sc.names.lookup n==aA .cell) then(n,.cell) else(n,k) }
def Cn.comp(C:Cn)(scope:gH):Cn:={ C with N:=yW scope,sc:=GF scope C.sc,top:=aH }
def Cn.imp(C:Cn)(scope:gH):Yj:=(yW scope).map λx=>if decide (scope.names.lookup x=aA .free) then C.N.idxOf? x else aD
def Cn.yX(C:Cn)(scope:gH):Bool:=decide (scope.kind = .function)&&scope.names.all (λy=>decide (y.2 ≠ .cell))&&scope.names.all (λy=>decide (y.2 = .local->scope.names.lookup y.1=aA .local)) &&
 scope.names.all (λy=>decide (y.2 = .free->C.sc.names.lookup y.1=aA .cell))&&decide (yW scope).Nodup&&C.top
def yd(C:Cn):List aK->Option (List Nat)
 |[]=>aA []
 |.Name x _::r=>if decide (C.sc.names.lookup x=aA .local) then match C.N.idxOf? x,yd C r with
   |some i,aA l=>aA (i::l)
   |_,_=>aD
  else aD
 |_=>aD
def xv(C:Cn)(e:aK):CT:=match e with
 |.Name x _=>if decide (C.sc.names.lookup x=aA .local) then match C.N.idxOf? x with
   |some i=>.nm i
   |none=>.bad
  else .bad
 |.Tuple es _ _=>match yd C es with
  |some l=>.tup l
  |none=>.bad
 |_=>.bad
def Kj(o:aK)(m:Str)(eo:Ex):Ex:=
 if decide (m="pop")&&jZ o then .tw eo else
 .bad
def Km(o:aK)(m:Str)(eo ea:Ex):Ex:=
 if decide (m="append")&&jZ o then .app eo ea else
 if jZ o then(match yk m with
  |some f=>.dm f eo (.cons ea .nil)
  |none=>.bad) else
 .bad
def Kn(o:aK)(m:Str)(eo ea eb:Ex):Ex:=
 if decide (m="get")&&jZ o&&(ij o).isSome then .get eo (.cons ea<|.cons eb .nil) else
 if jZ o then(match yk m with
  |some f=>.dm f eo (.cons ea<|.cons eb .nil)
  |none=>.bad) else
 .bad
def Vx(o:aK)(m:Str)(eo:Ex):List Ex->Ex
 |[]=>Kj o m eo
 |[a]=>Km o m eo a
 |[a,b]=>Kn o m eo a b
 |_=>.bad
def Cn.Wm(C:Cn)(o:aK)(m:Str):Yg:=(ij o).bind λx=>if ik x&&C.gl x then(C.oX.lookup x).bind (·.lookup m) else aD
def Cn.Kf(C:Cn)(o:aK)(m:Str)(apos pos:Pos)(es:List aK)(eo:Ex)(cs:List Ex):Ex:=
 if es.all bY&&(apos.endLine==pos.line) then
  match C.Wm o m with
  |some i=>if !es.isEmpty&&decide (es.length<30) then .gf i (lV cs) else .bad
  |none=>match C.nH.lookup m with
   |some dp=>if jZ o&&decide (es.length<30) then .rD m dp eo (lV cs) else .bad
   |none=>Vx o m eo cs
 else .bad
def Gw(op:UnaryOp)(a:Ex):Ex:=match op with
 |.USub=>.neg a
 |.Not=>.not a
 |_=>.bad
def Gq(f:aK->Ex)(a:aK)(os:List pE)(bs:List aK):Ex:=match os,bs with
 |[o],[b]=>if bY b then .cmp (yb o) (f a) (f b) else .bad
 |[o,o'],[b,c]=>if bY c then .chain (yb o) (yb o') (f a) (f b) (f c) else .bad
 |_,_=>.bad
def Gm(op:BoolOp)(vs:List Ex):Ex:=match op with
 |.And=>yS .and vs
 |.Or=>yS .or vs
def nN:Ex->Ex
 |.no=>.bad
 |x=>x
def Gv(C:Cn)(f:aK->Ex)(a s:aK):Ex:=match s with
 |.Slice lo hi aD _=>.slice (f a) (lo.elim .no λe=>nN (f e)) (hi.elim .no λe=>nN (f e))
 |b=>if bY b then .op .ix (f a) (f b) else .bad
def Gp(C:Cn)(f:aK->Ex)(g:aK)(es:List aK)(ks:List tL)(pos:Pos):Ex:=match ks with
 |[]=>match g with
  |.Name x _=>C.Gx x es (es.map f)
  |.Attribute o m apos=>C.Kf o m apos pos es (f o) (es.map f)
  |_=>.bad
 |_=>.bad
def pv(C:Cn)(r:Cn->aK->Ex)(elt:aK)(gs:List Comprehension)(scope:gH):Ex:=match gs with
 |[⟨t,it,cs,0⟩]=>if C.yX scope&&bY it then match cs with
   |[]=>C.kI it (r C it) (.wN (C.imp scope) (xv (C.comp scope) t) (cI C (r C) t it)<|r (C.comp scope) elt)
   |[c]=>C.kI it (r C it) (.wO (C.imp scope) (xv (C.comp scope) t) (cI C (r C) t it) (r (C.comp scope) c)<|r (C.comp scope) elt)
   |_=>.bad
  else .bad
 |_=>.bad
def Gi(C:Cn)(o:aK)(f:Str)(eo:Ex):Ex:=if jZ o then
  match C.kR.lookup f with
  |some cs=>.lE cs f eo
  |none=>
   .bad
 else .bad
def Gr(f:aK->Ex)(ks:List (Option aK))(vs:List aK):Ex:=match ks,vs with
 |[],[]=>.qc
 |_,_=>.bad
def BC(x:Str)(ks:List tL):Option Kc:=match ks with
 |[]=>if x="any" then aA .any else
  if x="sorted" then aA .sd else
  aD
 |[⟨aA nm,kc,_⟩]=>match kc with
  |.Constant (.bool b) _ _=>if x="sorted"/\nm="reverse" then aA (.srt b) else aD
  |.Constant .none _ _=>if x="min"/\nm="default" then aA .Al else aD
  |_=>aD
 |_=>aD
def xw(C:Cn)(f:aK->Ex)(g:aK)(es:List aK)(ks:List tL):Option Ex:=match g,es with
 |.Name x _,[a]=>match BC x ks with
  |some k=>if C.bl x&&bY a then aA (.kc k<|f a) else aD
  |none=>aD
 |_,_=>aD
def cE:Cn->Nat->aK->Ex
 |_,0,_=>.bad
 |C,n+1,e=>match e with
  |.Name x _=>C.name x
  |.Constant c _ _=>Ww c
  |.BinOp a op b _=>Gk op (cE C n a) (cE C n b)
  |.UnaryOp op a _=>Gw op (cE C n a)
  |.Compare a os bs _=>Gq (cE C n) a os bs
  |.BoolOp op vs _=>Gm op (vs.map<|cE C n)
  |.IfExp c a b _=>.ite (cE C n c) (cE C n a) (cE C n b)
  |.Tuple es _ _=>if es.all bY then .tup (lV<|es.map<|cE C n) else .bad
  |.List es _=>if es.all bY then .lst (lV<|es.map<|cE C n) else .bad
  |.Subscript a s _=>Gv C (cE C n) a s
  |.Call g es ks pos=>match xw C (cE C n) g es ks with
   |some y=>y
   |none=>Gp C (cE C n) g es ks pos
  |.Dict ks vs _=>Gr (cE C n) ks vs
  |.Attribute o f _=>Gi C o f (cE C n o)
  |.ListComp elt gs scope _=>pv C (λC' e'=>cE C' n e') elt gs scope
  |_=>.bad
theorem Ag{α:Type}{x:Str}{v:α}:∀{l:List (Str×α)},l.lookup x=aA v->(x,v)∈l
 |[],h=>by cases h
 | (k,u)::r,h=>by
  rw[jD]at h;split at h
  .rename_i q;have:=eq_of_beq q;subst this;cases h;exact fP
  .exact hW _<|Ag h
theorem VR:∀q∈Vz,mT q.1=aA (.type q.2.nm):=by decide +kernel
structure Lk(X:Cx)(T:Tab)(E:XK)(C:Cn)(F:Run):Prop where
 K:X.K=T.K
 N:X.N=C.N
 sc:X.env.scope=C.sc
 nd:C.N.Nodup
 fn:C.top=aB->∀x,X.fn x=aB
 calm:X.calm=aB
 po:C.top=aB->vt (aY X.prog X.w) X.A X.env X.xe
 gv:∀x v,C.qz.lookup x=aA v->∃u v',X.mg x=aA u/\RelV v' u/\∀Y H,aW T Y H v v'
 fns:∀(i:Nat) x,C.fns[i]?=aA x->Fn X T E x (F i)
 iN:∀x,C.iN.contains x=aB->X.mg x=aD
 tab:∀kvs a,T.G kvs a->oj X.prog X.w X.K a kvs
 un:X.A.units+64<cLine
 kR:∀f cs,C.kR.lookup f=aA cs->fj X.K T cs f
 nH:∀m dp,C.nH.lookup m=aA dp->∀c D g,(dp.lookup c).map F=aA g->T.C c=aA D->yM X T (λ_=>E) D m g
 mL:∀x n c i dv,C.mL.lookup (x,n)=aA (c,i,dv)->wx X T E x c dv (F i)
 sP:∀y cs,C.sP.lookup y=aA cs->∃D:Addr,X.mg y=aA (.ref D)/\∀k b,cs.lookup k=aA b->∃D':Addr,T.C k=aA D'/\Uj X.K D'/\Sj X.K (.ref D') (.ref D)=aA b
 oX:∀x m i,(C.oX.lookup x).bind (·.lookup m)=aA i->Fe X T E x m (F i)
section
variable {C:Cn}(L:Lk X T E C F)
theorem Ar{x:Str}(h:ik x=aB):(x==("__debug__":Str))=aH/\(x==("__classdict__":Str))=aH/\x≠"__name__":=by simp only[ik,bT,JX,beq_eq_false_iff_ne]at h;exact⟨beq_eq_false_iff_ne.mpr h.1.1,beq_eq_false_iff_ne.mpr h.1.2,h.2⟩
theorem uN{x:Str}{l:Yb}{i:Nat}(h:l.idxOf? x=aA i):l[i]?=aA x:=by obtain⟨a,b,_⟩:=List.findIdx?_eq_some_iff_getElem.mp h;rw[eM a];exact congrArg aA<|eq_of_beq b
include L in
theorem Lk.gl{x:Str}(h:C.gl x=aB):Gl X x:=by have a:=of_decide_eq_true h;rw[<- L.sc]at a;exact a
def Q2(X:Cx)(T:Tab)(E:XK)(F:Run)(e:aK)(x:Ex):Prop:=QE X T E e (aL F x)/\QT X T E e (dU F x)
theorem dP:Q2 X T E F e .bad:=⟨EH,Nb⟩
include L in
theorem EG{it:aK}{y:Ex}(pl:tq e=aB)(h:Q2 X T E F e y):Q2 X T E F e (C.kI it d y):=by
 unfold Cn.kI;split
 .exact⟨EL (aL F d) h.1,rN L.K (EL (aL F d) h.1) pl⟩
 .exact h
include L in
theorem aLj(x:Str)(pos:Pos):Q2 X T E F (.Name x pos) (C.name x):=by
 unfold Cn.name;split
 case isFalse=>exact dP
 case isTrue ok=>
  obtain⟨b,c,h⟩:=Ar ok;split
  case isTrue hl=>
   split
   case h_1 i d=>
    have a:ot X.env.scope x:=by
     rw[L.sc];simp only[Cn.loc,kj,decide_eq_true_eq]at hl;rcases hl with hl|hl
     .exact .inl hl
     .exact .inr<|.inl hl
    have q:QE X T E (.Name x pos) (uL i):=aFd (by rw[L.N];exact uN d) a b c;exact⟨q,rN L.K q rfl⟩
   case h_2=>exact dP
  case isFalse=>
   split
   case isFalse=>exact dP
   case isTrue e=>
    split
    case h_1 v a=>obtain⟨u,j,f,r,g⟩:=L.gv x v a;have q:QE X T E (.Name x pos) (λ_=>M.ret v):=uU (DO (L.gl e) f r b) g;exact⟨q,rN L.K q rfl⟩
    case h_2=>exact dP
include L in
theorem aLg(c:Const)(k:Nat)(pos:Pos):Q2 X T E F (.Constant c k pos) (Ww c):=by
 cases c with
 |none=>exact⟨uU Lm λ_ _=>.aG,rN L.K (uU Lm λ_ _=>.aG) rfl⟩|bool b=>exact⟨uU Ll λ_ _=>.bl b,rN L.K (uU Ll λ_ _=>.bl b) rfl⟩|int i=>exact⟨uU DP λ_ _=>.int i,rN L.K (uU DP λ_ _=>.int i) rfl⟩|str x=>exact⟨uU DQ λ_ _=>.str x,rN L.K (uU DQ λ_ _=>.str x) rfl⟩|_=>exact dP
include L in
theorem Y7{op:rZ}{o:Op}(h:Vq op=aA o):dX X T E (eV op) o.g:=by
 cases op<;>cases h
 .exact Y5 L.K
 .exact aAh
 .exact Z9
 .exact Z8
 .exact aAe
 .exact aAf
 .exact aAg
 .exact aAd
 .exact aAi
 .exact Y6
 .exact Y9
include L in
theorem iq(op:pE):dX X T E (dJ op) (yb op).g:=by
 cases op
 .exact Y8 L.K (by have:=L.un;omega)
 .exact aAa L.K (by have:=L.un;omega)
 .exact Z7
 .exact Z6
 .exact Z1
 .exact Z0
 .exact Z4
 .exact Z5
 .exact Z2 L.K (by have:=L.un;omega)
 .exact aAb L.K (by have:=L.un;omega)
theorem nA{f:aK->Ex}(hs:es.all bY=aB)(h:∀e,Q2 X T E F e (f e)):QA X T E es (dO F<|lV<|es.map f):=by
 induction es with
 |nil=>exact aDw|cons e es a=>rw[jX,bT]at hs;exact aDv (h e).1 (a hs.2) hs.1
include L in
theorem Ux{pos:Pos}{f:aK->Ex}(h:∀e,Q2 X T E F e (f e)):∀(e:aK) (es:List aK),QE X T E (.BoolOp .And (e::es) pos) (aL F<|yS .and<|(e::es).map f)/\QW X T E (.BoolOp .And (e::es) pos) (dU F<|yS .and<|(e::es).map f)
 |e,[]=>⟨EK (h e).1,aIy (h e).2⟩
 |e,b::rest=>by obtain⟨a,c⟩:=Ux h b rest;exact⟨aDx L.K (h e).1 a,aIx (h e).2 c⟩
include L in
theorem DG{pos:Pos}{f:aK->Ex}(h:∀e,Q2 X T E F e (f e)):∀(e:aK) (es:List aK),QE X T E (.BoolOp .Or (e::es) pos) (aL F<|yS .or<|(e::es).map f)/\QW X T E (.BoolOp .Or (e::es) pos) (dU F<|yS .or<|(e::es).map f)
 |e,[]=>⟨EK (h e).1,aJa (h e).2⟩
 |e,b::rest=>by obtain⟨a,c⟩:=DG h b rest;exact⟨aEw L.K (h e).1 a,aIz (h e).2 c⟩
theorem R7{x:Ex}(q:QE X T E e (aL F x)):QO X T E (aA e) (λZ=>oY (nN x) (aL F (nN x) Z)):=by cases x<;>first|exact EY q|exact EY EH
theorem DK{o:Option aK}{f:aK->Ex}(h:∀e,Q2 X T E F e (f e)):QO X T E o (λZ=>oY (o.elim .no λe=>nN (f e)) (aL F (o.elim .no λe=>nN (f e)) Z)):=by
 cases o with
 |none=>exact aIc|some e=>exact R7 (h e).1
include L in
theorem aLh{f:aK->Ex}(ih:∀e,Q2 X T E F e (f e)){g:aK}{ks:List tL}{y:Ex}(h:xw C f g es ks=aA y):Q2 X T E F (.Call g es ks pos) y:=by
 unfold xw at h;split at h
 case h_2=>cases h
 case h_1 x p a=>
  split at h
  case h_2=>exact cJ h
  case h_1 k c=>
   split at h
   case isFalse=>exact cJ h
   case isTrue hb=>
    cases h;simp only[bT,Cn.bl]at hb;obtain⟨⟨⟨i,hm⟩,_⟩,j⟩:=hb;have mk:QE X T E (.Call (.Name x p) [a] ks pos) (aL F<|.kc k<|f a)->Q2 X T E F (.Call (.Name x p) [a] ks pos) (.kc k<|f a):=λq=>⟨q,rN L.K q rfl⟩;refine mk ?_;unfold BC at c;split at c
    case h_1=>
     split at c
     case isTrue d=>cases c;subst d;exact aDy L.K L.calm (L.gl i) (L.iN _ hm) (ih a).1 j
     split at c
     case isTrue d=>cases c;subst d;exact aEy L.K L.calm (L.gl i) (L.iN _ hm) (ih a).1 j
     exact cJ c
    case h_2 nm kc kp=>
     split at c
     case h_1 b kk l=>
      split at c
      case isFalse=>exact cJ c
      case isTrue d=>cases c;obtain⟨rfl,rfl⟩:=d;exact aFa L.K (L.gl i) (L.iN _ hm) (ih a).1 j
     case h_2 kk l=>
      split at c
      case isFalse=>exact cJ c
      case isTrue d=>cases c;obtain⟨rfl,rfl⟩:=d;exact aEt L.K L.calm (L.gl i) (L.iN _ hm) (ih a).1 j
     case h_3=>exact cJ c
    case h_3=>exact cJ c
include L in
theorem VJ:∀q∈Vp,(∃id,nU X T E (.builtin id) q.2.g/\mT q.1=aA (.builtin id))\/∃id,nU X T E (.type id) q.2.g/\mT q.1=aA (.type id):=
 List.forall_mem_cons.2 ⟨.inl ⟨_,XG L.K,boot_len⟩,List.forall_mem_cons.2 ⟨.inr ⟨_,XF,boot_int⟩,List.forall_mem_cons.2 ⟨.inl ⟨_,XJ L.calm,boot_min⟩,List.forall_mem_cons.2 ⟨.inl ⟨_,XI L.calm,boot_max⟩,List.forall_mem_cons.2 ⟨.inl ⟨_,XE,boot_divmod⟩,List.forall_mem_cons.2 ⟨.inr ⟨_,XM L.K,boot_tuple⟩,List.forall_mem_cons.2 ⟨.inr ⟨_,XH L.K L.calm,boot_list⟩,List.forall_mem_cons.2 ⟨.inr ⟨_,XD,boot_dict⟩,λ_ h=>nomatch h⟩⟩⟩⟩⟩⟩⟩⟩
include L in
theorem aLf(ih:∀e,Q2 X T E F e (cE C n e))(x:Str)(p:Pos)(es:List aK)(pos:Pos):Q2 X T E F (.Call (.Name x p) es [] pos) (C.Gx x es<|es.map<|cE C n):=by
  have mk:∀{y:Ex},QE X T E (.Call (.Name x p) es [] pos) (aL F y)->(∀k,dU F y k=(aL F y k).bind dH)->Q2 X T E F (.Call (.Name x p) es [] pos) y:=λ{y} q e=>by refine⟨q,?_⟩;have:=rN L.K q rfl;have B:=funext e;rw[B];exact this
  unfold Cn.Gx;split
  case isFalse=>exact dP
  case isTrue ok=>
    rw[bT]at ok;obtain⟨h,R,v⟩:=Ar ok.1;split
    case h_1 i l=>
      split
      case isFalse=>exact dP
      case isTrue d=>
        have w:=L.fns i x (uN l);refine mk ?_ λ_=>rfl;cases es with
        |nil=>exact aEb w (L.gl d) h|cons e es=>exact aEa w (L.gl d) (nA ok.2 ih) ok.2 h
    case h_2=>
     split
     case h_1 c i D G=>
      split
      case isFalse=>exact dP
      case isTrue d=>
        have z:=L.mL x _ c i D G;refine mk ?_ λ_=>rfl;cases es with
        |nil=>exact aEq z (L.gl d) h|cons e es=>exact aEp z (L.gl d) (nA ok.2 ih) ok.2 h
     case h_2=>
      split
      case h_1 f H=>
        split
        case isFalse=>exact dP
        case isTrue hb=>
          simp only[Cn.bl,bT]at hb;obtain⟨⟨⟨d,hm⟩,_⟩,m⟩:=hb;refine mk ?_ λ_=>rfl;cases es with
          |nil=>cases m|cons e es=>
            have q:=nA ok.2 ih;have j:=L.iN x hm;rcases VJ L _ (Ag H)with⟨_,c,b⟩|⟨_,c,b⟩
            · exact aEc c (L.gl d) j b q ok.2 v h
            · exact aEd c (L.gl d) j b q ok.2 v h
      case h_2=>
        split
        case isFalse=>exact dP
        case isTrue l=>
          simp only[bT,decide_eq_true_eq,Cn.bl]at l;obtain⟨I,⟨d,hm⟩,_⟩:=l;subst I;split
          case h_2=>exact dP
          case h_1 a t ca ct J K=>
            injection K with o M;subst o;cases t with
            |Name y N=>
              simp only[ij,jP];have O:bY a=aB:=by have:=ok.2;rw[jX,bT]at this;exact this.1
              split
              case h_2=>exact dP
              case h_1 bt g=>
                refine mk ?_ λ_=>rfl;split at g
                case isFalse=>exact cJ g
                case isTrue A=>
                  simp only[Cn.bl,bT]at A;obtain⟨⟨r,s⟩,u⟩:=A;obtain⟨k1,k2,P⟩:=Ar u;have sa:bY a=aB:=by have:=ok.2;rw[jX,bT]at this;exact this.1
                  have fin:∀bt,mT y=aA (.type bt.nm)->QE X T E (.Call (.Name "isinstance" p) [a,.Name y N] [] pos) (aL F<|.qX bt<|cE C n a):=λbt Q=>aEm L.K bt (L.gl d) (L.iN _ hm) (L.gl r) (L.iN _ s) Q P k1 (ih a).1 sa
                  exact fin _<|VR _<|Ag g
            |_=>exact dP
include L in
theorem um{f:aK->Ex}(ih:∀e,Q2 X T E F e (f e))(tg e:aK):QI X T E tg e (cR F<|cI C f tg e):=by
 unfold cI;split
 .rename_i x p i pos;split
  .rename_i h;simp only[bT,decide_eq_true_eq,Cn.bl]at h;obtain⟨g,⟨d,hm⟩,_⟩:=h;subst g;split
   .split
    .rename_i a c;exact aFh (L.gl d) (L.iN _ hm) (nA (by simp[c]) ih) c
    .exact xM
   .split
    .rename_i a b c;rw[bT]at c;exact aFi (L.gl d) (L.iN _ hm) (nA (by simp[c.1,c.2]) ih) c.1 c.2
    .exact xM
   .exact xM
  .split
   .rename_i h;simp only[bT,decide_eq_true_eq,Cn.bl]at h;obtain⟨g,⟨d,hm⟩,_⟩:=h;subst g;split
    .split
     .rename_i c;exact aFg L.K (L.gl d) (L.iN _ hm) (ih _).1 c
     .exact xM
    .exact xM
   .split
    .rename_i h;simp only[bT,decide_eq_true_eq,Cn.bl]at h;obtain⟨g,⟨d,hm⟩,_⟩:=h;subst g;split
     .split
      .rename_i c;rw[bT]at c;exact aFj L.K (L.gl d) (L.iN _ hm) (nA (by simp[c.1,c.2]) ih) c.1 c.2
      .exact xM
     .exact xM
    .exact ER L.K (ih _).1
 .split
  .split
   .exact aFf (ih _).1
   .exact ER L.K (ih _).1
  .exact xM
include L in
theorem HC:∀{es:List aK}{l:Yh},yd C es=aA l->fu X T E es (xn l)/\es.all tK=aB/\l.length=es.length
 |[],l,h=>by cases h;exact⟨EO,rfl,rfl⟩
 |e::es,l,h=>by
  cases e with
  |Name x p=>
   simp only[yd]at h;split at h
   .rename_i b;split at h
    .rename_i i j c hl;cases h;obtain⟨d,f,g⟩:=HC hl;have a:X.env.scope.names.lookup x=aA .local:=by rw[L.sc];exact of_decide_eq_true b
     exact⟨EN (Mc (L.N▸L.nd) (by rw[L.N];exact uN c) (.inl a)<|.inr a) d rfl,by rw[jX,f];rfl,by simp[g]⟩
    .exact cJ h
   .exact cJ h
  |_=>exact cJ h
include L in
theorem Bu(e:aK):QG X T E e (pP<|xv C e):=by
 unfold xv;split
 .split
  .rename_i a;split
   .rename_i i b;have lc:∀{x:Str},C.sc.names.lookup x=aA .local->X.env.scope.names.lookup x=aA .local:=λ{x} h=>L.sc▸h;exact Mc (L.N▸L.nd) (by rw[L.N];exact uN b) (.inl<|lc<|of_decide_eq_true a)<|.inr<|lc<|of_decide_eq_true a
   .exact uV
  .exact uV
 .split
  .rename_i l hl;obtain⟨c,d,f⟩:=HC L hl;show QG X T E _ (zT l.length<|xn l);rw[f];exact EM L.K L.calm c d
  .exact uV
 .exact uV
end
section
variable {C:Cn}
theorem Wn(ok:C.yX scope=aB):scope.kind = .function/\(∀y∈scope.names,y.2 ≠ .cell)/\(∀y∈scope.names,y.2 = .local->scope.names.lookup y.1=aA .local)/\(∀y∈scope.names,y.2 = .free->C.sc.names.lookup y.1=aA .cell)/\(yW scope).Nodup/\C.top=aB:=by simp only[Cn.yX,bT,decide_eq_true_eq,KQ]at ok;exact⟨ok.1.1.1.1.1,ok.1.1.1.1.2,ok.1.1.1.2,ok.1.1.2,ok.1.2,ok.2⟩
theorem Lk.yc(L:Lk X T E C F)(ok:C.yX scope=aB):oS X (yW scope) scope:=by obtain⟨a,b,c,d,_⟩:=Wn ok;exact⟨a,b,c,λy e f=>by rw[L.sc];exact d y e f⟩
theorem Lk.imp(L:Lk X T E C F){i j:Nat}{x:Str}(e1:(yW scope)[i]?=aA x)(e2:(C.imp scope)[i]?=aA (aA j)):scope.names.lookup x=aA .free/\(x,jF)∈scope.names/\X.N[j]?=aA x:=by
 unfold Cn.imp at e2;rw[fO,e1]at e2;have a:(if decide (scope.names.lookup x=aA .free) then C.N.idxOf? x else aD)=aA j:=dI e2;split at a
 .rename_i h;have h:=of_decide_eq_true h;exact⟨h,Ag h,by rw[L.N];exact uN a⟩
 .exact cJ a
theorem Lk.comp(L:Lk X T E C F)(ok:C.yX scope=aB)(s:aI)(H:Hp)(a:Addr)(fp:Xx):Lk (X.comp (yW scope) scope s H a fp) T E0 (C.comp scope) F where
 K:=L.K
 N:=rfl
 sc:=by show relabel scope X.env=GF scope C.sc;rw[<- L.sc];rfl
 nd:=(Wn ok).2.2.2.2.1
 fn:=λz=>by cases z
 calm:=L.calm
 po:=λz=>by cases z
 gv:=L.gv
 fns:=λi x h=>let ⟨k,f,fd,ps,F,hr,hm,l,hb,_⟩:=(L.fns i x h);⟨k,f,fd,ps,F,hr,hm,l,hb,λ_ _ _ _ _ _ _ z=>(pw z).elim⟩
 iN:=L.iN
 tab:=L.tab
 un:=L.un
 kR:=L.kR
 nH:=λm dp h c D g b d=>let ⟨k,f,fd,ps,F,hr,c,hm,hb,_⟩:=(L.nH m dp h c D g b d);⟨k,f,fd,ps,F,hr,c,hm,hb,λ_ _ _ _ _ _ _ z=>(pw z).elim⟩
 mL:=λx n c i o h=>let ⟨k,C,f,fd,ps,ds,e,p,K,F,hr,hm,hb,q,j,_⟩:=(L.mL x n c i o h);⟨k,C,f,fd,ps,ds,e,p,K,F,hr,hm,hb,q,j,λ_ _ _ _ _ _ _ z=>(pw z).elim⟩
 sP:=L.sP
 oX:=λx m i h=>let ⟨k,C,f,fd,ps,hm,F,hr,kp,b,d,r,t,hb,_⟩:=(L.oX x m i h);⟨k,C,f,fd,ps,hm,F,hr,kp,b,d,r,t,hb,λ_ _ _ _ _ _ _ z=>(pw z).elim⟩
end
theorem aLi{C:Cn}(L:Lk X T E C F)(ih:∀e,Q2 X T E F e (cE C n e))(o:aK)(m:Str)(apos pos:Pos)(es:List aK):Q2 X T E F (.Call (.Attribute o m apos) es [] pos) (C.Kf o m apos pos es (cE C n o)<|es.map<|cE C n):=by
 have tr:∀{e:aK}{y:Ex},QE X T E e (aL F y)->tq e=aB->(∀s,dU F y s=(aL F y s).bind dH)->Q2 X T E F e y:=λ{e y} q pl z=>by refine⟨q,?_⟩;have:=rN L.K q pl;have A:=funext z;rw[A];exact this
 unfold Cn.Kf;split
 case isFalse=>exact dP
 case isTrue hb=>
  rw[bT]at hb;obtain⟨h,hl⟩:=hb;have blt:Q2 X T E F (.Call (.Attribute o m apos) es [] pos) (Vx o m (cE C n o)<|es.map<|cE C n):=by
   cases es with
   |nil=>
    show Q2 X T E F _ (Kj o m<|cE C n o);unfold Kj;split
    case isTrue hm=>simp only[bT,decide_eq_true_eq]at hm;obtain⟨hm,j⟩:=hm;subst hm;exact tr (aEx L.K (ih _).1 j hl) rfl λ_=>rfl
    exact dP
   |cons a es=>
    rw[jX,bT]at h;cases es with
    |nil=>
     show Q2 X T E F _ (Km o m (cE C n o)<|cE C n a);unfold Km;split
     case isTrue hm=>simp only[bT,decide_eq_true_eq]at hm;obtain⟨hm,j⟩:=hm;subst hm;exact tr (aDz L.K (ih _).1 (ih _).1 j h.1 hl) rfl λ_=>rfl
     split
     case isTrue j=>
      split
      .rename_i f t;exact tr (EJ t (by have:=L.un;omega) (ih _).1 (nA (by simp[h.1]) ih) j (by simp[h.1]) (by simp) hl) rfl λ_=>rfl
      .exact dP
     exact dP
    |cons b es=>
     obtain⟨k,d⟩:=h;rw[jX,bT]at d;cases es with
     |nil=>
      show Q2 X T E F _ (Kn o m (cE C n o) (cE C n a)<|cE C n b);unfold Kn;split
      case isTrue hm=>simp only[bT,decide_eq_true_eq]at hm;obtain⟨⟨hm,j⟩,_⟩:=hm;subst hm;exact tr (aEj L.tab (ih _).1 (nA (by simp[k,d.1]) ih) j k d.1 hl) rfl λ_=>rfl
      split
      case isTrue j=>
       split
       .rename_i f t;exact tr (EJ t (by have:=L.un;omega) (ih _).1 (nA (by simp[k,d.1]) ih) j (by simp[k,d.1]) (by simp) hl) rfl λ_=>rfl
       .exact dP
      exact dP
     |cons c es=>exact dP
  split
  case h_1 i r=>
   split
   case isFalse=>exact dP
   case isTrue l=>
    simp only[bT,decide_eq_true_eq]at l;unfold Cn.Wm at r;cases o with
    |Name x p=>
     simp only[ij,jP]at r;split at r
     case isFalse=>exact cJ r
     case isTrue u=>
      rw[bT]at u;cases es with
      |nil=>cases l.1|cons e es=>exact tr (aEf (L.oX _ _ _ r) (L.gl u.2) (Ar u.1).1 (nA h ih) h l.2 hl) rfl λ_=>rfl
    |_=>exact cJ r
  case h_2=>
   split
   case h_2=>exact blt
   case h_1 dp v=>
    split
    case isFalse=>exact dP
    case isTrue l=>
     rw[bT,decide_eq_true_eq]at l;have w:=λc D g B G=>L.nH m dp v c D g B G;cases es with
     |nil=>exact tr (aEs w (ih _).1 l.1 hl) rfl λ_=>rfl|cons e es=>exact tr (aEr w (ih _).1 (nA h ih) l.1 h l.2 hl) rfl λ_=>rfl
theorem hV{T:Tab}{F:Run}:∀(n:Nat) {X:Cx}{E:XK}{C:Cn} (L:Lk X T E C F) (e:aK),Q2 X T E F e (cE C n e)
 |0,X,E,C,L,e=>dP
 |n+1,X,E,C,L,e=>by
  have d:=λe=>hV n L e;have tr:∀{e:aK}{y:Ex},QE X T E e (aL F y)->tq e=aB->(∀A,dU F y A=(aL F y A).bind dH)->Q2 X T E F e y:=λ{e y} q pl t=>by refine⟨q,?_⟩;have:=rN L.K q pl;have u:=funext t;rw[u];exact this
  cases e
  case Name=>exact aLj L _ _
  case Constant=>exact aLg L _ _ _
  case BinOp a op b p=>
   show Q2 X T E F _ (Gk op (cE C n a)<|cE C n b);unfold Gk;split
   .rename_i o K;exact tr (aEv (Y7 L K) (d _).1 (d _).1) rfl λ_=>rfl
   .exact dP
  case UnaryOp op a p=>
   show Q2 X T E F _ (Gw op<|cE C n a);unfold Gw;split
   .exact⟨aFc aOz (d _).1,Nb⟩
   .exact⟨aEu L.K (d _).1,aIw (d _).2⟩
   .exact dP
  case Compare a os bs p=>
   show Q2 X T E F _ (Gq (cE C n) a os bs);unfold Gq;split
   .split
    .rename_i hb;exact⟨aEg (iq L _) (d _).1 (d _).1 (Bq hb),aIv (iq L _) (d _).1 (d _).1 (Bq hb)⟩
    .exact dP
   .split
    .rename_i B;exact⟨aEe (iq L _) (iq L _) (d _).1 (d _).1 (d _).1 (Bq B),aIu (iq L _) (iq L _) (d _).1 (d _).1 (d _).1 (Bq B)⟩
    .exact dP
   .exact dP
  case BoolOp op r p=>
   show Q2 X T E F _ (Gm op<|r.map<|cE C n);unfold Gm;cases r with
   |nil=>split<;>exact dP|cons v r=>
    split
    .obtain⟨G,I⟩:=Ux L d v r;exact⟨G,I.qt⟩
    .obtain⟨G,I⟩:=DG L d v r;exact⟨G,I.qt⟩
  case IfExp=>exact⟨aEk (d _).2 (d _).1 (d _).1,Nb⟩
  case Tuple m k p=>
   show Q2 X T E F _ (if m.all bY then .tup (lV<|m.map<|cE C n) else .bad);split
   .rename_i J;exact tr (aFb<|nA J d) rfl λ_=>rfl
   .exact dP
  case List m p=>
   show Q2 X T E F _ (if m.all bY then .lst (lV<|m.map<|cE C n) else .bad);split
   .rename_i J;exact tr (aEo<|nA J d) rfl λ_=>rfl
   .exact dP
  case Subscript a s p=>
   show Q2 X T E F _ (Gv C (cE C n) a s);unfold Gv;split
   .exact tr (aEz L.K (d _).1 (DK d) (DK d)) rfl λ_=>rfl
   .split
    .rename_i hb;exact tr (aEn (I9 L.K (by have:=L.un;omega)) (d _).1 (d _).1 (aKr hb)) rfl λ_=>rfl
    .exact dP
  case Call g m D p=>
   show Q2 X T E F _ (match xw C (cE C n) g m D with
    |some y=>y
    |none=>Gp C (cE C n) g m D p)
   split
   .rename_i h;exact aLh L d h
   unfold Gp;split
   .split
    .exact aLf L d _ _ _ _
    .exact aLi L d _ _ _ _ _
    .exact dP
   .exact dP
  case Dict D r p=>
   show Q2 X T E F _ (Gr (cE C n) D r);unfold Gr;split
   .exact tr aEh rfl λ_=>rfl
   .exact dP
  case Attribute o f p=>
   show Q2 X T E F _ (Gi C o f<|cE C n o);unfold Gi;split
   .rename_i hb;split
    .rename_i cs B;exact tr (aEi (L.kR _ _ B) (d _).1 hb) rfl λ_=>rfl
    all_goals exact dP
   .exact dP
  case ListComp elt gs scope p=>
   show Q2 X T E F _ (pv C (λM N=>cE M n N) elt gs scope);unfold pv;split
   .split
    .rename_i hb;rw[bT]at hb;have w:=λs H a l=>L.comp hb.1 s H a l;split
     .refine EG L rfl ?_;exact tr (EI (ct:=aD) (L.yc hb.1) L.calm (um L d _ _) (λs H a l=>Bu (w s H a l) _) (λc z=>cJ z) (λ_=>rfl) (λs H a l=>(hV n (w s H a l) _).1) (by simp[Cn.imp]) (λi j x t u=>L.imp t u) hb.2) rfl λ_=>rfl
     .exact EG L rfl<|tr (EI (ct:=aA _) (L.yc hb.1) L.calm (um L d _ _) (λs H a l=>Bu (w s H a l) _) (λc z s H a l=>by cases z;exact(hV n (w s H a l) _).2) (λz=>by cases z) (λs H a l=>(hV n (w s H a l) _).1) (by simp[Cn.imp]) (λi j x t u=>L.imp t u) hb.2) rfl λ_=>rfl
     .exact dP
    .exact dP
   .exact dP
  all_goals exact dP
def Bp:Yh->Hr->aF->aF
 |i::is,v::vs,Z=>Bp is vs (Z.set i<|aA v)
 |_,_,Z=>Z
def DJ(is:Yh)(mr:M Hr)(Z:aF):M Out:=mr.bind λvs=>M.guard (vs.length=is.length) (M.ret<|.nx<|Bp is vs Z)
def aNf(i j k:Nat)(ta:TA):TS:=λD Z H=>ta Z H λvs H1=>∃v w z,vs=[v,w,z]/\D.nx (((Z.set i<|aA v).set j (aA w)).set k (aA z)) H1
section
variable {a b:aK}{x y z:Str}{px pz pt:Pos}{kt k2:Nat}{pt2:Pos}{i j k:Nat}
theorem aDb{ta:TA}(hc:X.calm=aB)(hN:X.N.Nodup)(hi:X.N[i]?=aA x)(hj:X.N[j]?=aA y)(hk:X.N[k]?=aA z)(hij:i≠j)(hik:i≠k)(hjk:j≠k)
  (hx:X.env.scope.names.lookup x=aA .local) (hy:X.env.scope.names.lookup y=aA .local) (hz:X.env.scope.names.lookup z=aA .local) (ha:PA X [a,b,c] ta)
  (hw:my [.Tuple [.Name x px,.Name y py,.Name z pz] kt pt] (.Tuple [a,b,c] k2 pt2) X.env=pure (aA [x,y,z])) :
  PS X (.Assign [.Tuple [.Name x px,.Name y py,.Name z pz] kt pt] (.Tuple [a,b,c] k2 pt2) pos) (aNf i j k ta):=by
 have hs:OE [.Tuple [.Name x px,.Name y py,.Name z pz] kt pt] (.Tuple [a,b,c] k2 pt2) pos.line X.env=pure aH:=by rfl
 intro ap s Z H D I h;rw[exec_Assign_arm];refine aQ<|nj ?_;rw[hs];refine aQ<|cB ?_;rw[if_neg (by decide)];refine aQ<|Tuple_<|bC (ha _ ap s Z H _ I h) λus s1 ⟨vs,H1,I1,r1,q1⟩=>?_;obtain⟨v,w,z',e1,q1⟩:=q1;subst e1;obtain⟨u1,u2,u3,rfl,rv,rw',rz⟩:∃u1 u2 u3,us=[u1,u2,u3]/\RelV v u1/\RelV w u2/\RelV z' u3:=by
  cases r1 with
  |cons p q=>
   cases q with
   |cons p' q'=>
    cases q' with
    |cons p2 q2=>cases q2;exact⟨_,_,_,rfl,p,p',p2⟩
 refine tU ?_ (by show 3<=sizeLine;decide);have I2:Inv X ap Z H1 { s1 with heap:=s1.heap.push { cls:=.type "tuple",data:=.seq [u1,u2,u3].toArray } }:=I1.kept (t':=s1.toks) λb o e=>cT _ e;rw[hw];refine aQ<|cB ?_;show aS (aY X.prog X.w) X.A (do rule "assign.swapped-stores";let items <- Tq (.ref s1.heap.objs.size) 3 aD;Er [λv=>mv X.env z v,λv=>mv X.env y v,λv=>mv X.env x v] items.reverse;pure Flow.next) _ _ _;refine aQ<|nc<|aQ<|unpackItems_tuple (items:=#[u1,u2,u3]) (I.ok.hd hc) (Dl s1.heap _) λh' hx'=>?_;have I3:=I2.kept (h':=h') (t':=s1.toks) λb o e=>hx' b o (bQ<|cY e) e;show aS _ _ (Er [λv=>mv X.env z v,λv=>mv X.env y v,λv=>mv X.env x v] [u3,u2,u1]>>=λ_=>pure Flow.next) _ _ _;refine aQ<|Es<|Ts<|ji I3 hN hk (.inl hz) rz (λs2 I4=>?_)<|.inr hz;refine Es<|Ts<|ji I4 hN hj (.inl hy) rw' (λs3 I5=>?_)<|.inr hy;refine Es<|Ts<|ji I5 hN hi (.inl hx) rv (λs4 I6=>NW (cB ?_))<|.inr hx;rw[Rc _ _ (kN hjk),Rc _ _ (kN hik),Rc _ _ (kN hij)]at I6;exact⟨_,H1,I6,q1⟩
theorem aIm(hc:X.calm=aB)(hN:X.N.Nodup)(hi:X.N[i]?=aA x)(hj:X.N[j]?=aA y)(hk:X.N[k]?=aA z)(hij:i≠j)(hik:i≠k)(hjk:j≠k)
  (hx:X.env.scope.names.lookup x=aA .local) (hy:X.env.scope.names.lookup y=aA .local) (hz:X.env.scope.names.lookup z=aA .local) (ha:QA X T E [a,b,c] mr)
  (hw:my [.Tuple [.Name x px,.Name y py,.Name z pz] kt pt] (.Tuple [a,b,c] k2 pt2) X.env=pure (aA [x,y,z])) :
  QS X T E (.Assign [.Tuple [.Name x px,.Name y py,.Name z pz] kt pt] (.Tuple [a,b,c] k2 pt2) pos) (λZ=>DJ [i,j,k] (mr Z) Z):=by
 obtain⟨t,pr,f⟩:=ha;refine⟨_,aDb hc hN hi hj hk hij hik hjk hx hy hz pr hw,λg Z d h H D R S w=>f g Z d h H _ R S (W.bind w λl xs m h1 H1 n o p e=>?_)⟩;obtain⟨hz,e⟩:=zV e;cases p with
 |nil=>cases hz|cons q rs=>
  cases rs with
  |nil=>cases hz|cons r rs=>
   cases rs with
   |nil=>cases hz|cons s rs=>
    cases rs with
    |nil=>exact⟨_,_,_,rfl,W.here (b:=jQ.nx _) e o ((((S.ext n).set q i).set r j).set s k)⟩|cons _ _=>cases hz
end
mutual
inductive Tg where
 |bad
 |nm (i:Nat)
 |tup (n:Nat) (ts:wG)
 |sub (o i:Ex)
inductive wG where
 |nil
 |cons (t:Tg) (ts:wG)
end
mutual
inductive Sx where
 |bad|pass|brk|cnt|Bl
 |expr (e:Ex)
 |ret (e:Ex)
 |asg (t:Tg) (e:Ex)
 |ite (c:Ex) (a b:aR)
 |uE (t:Tg) (it:Ir) (b:aR)
 |kI (d:Ex) (s:Sx)
 |Cm (c:Ex) (b:aR)
 |par (is:Yh) (es:eG)
 |gq (cs:Yh) (f:Str) (o e:Ex)
 |qi (cs:Yh) (f:Str) (o e:Ex)
 |aug (sub:Bool) (i:Nat) (e:Ex)
inductive aR where
 |nil
 |cons (s:Sx) (ss:aR)
end
mutual
noncomputable def oW(F:Run):Tg->AV->aF->M aF
 |.bad,_,_=>M.bad
 |.nm i,v,Z=>M.ret (Z.set i<|aA v)
 |.tup n ts,v,Z=>zT n (wH F ts) v Z
 |.sub o i,v,Z=>(aL F o Z).bind λx=>(aL F i Z).bind λy=>(nX x y v).bind λ_=>M.ret Z
noncomputable def wH(F:Run):wG->Hr->aF->M aF
 |.nil,vs,Z=>Iu vs Z
 |.cons t ts,vs,Z=>Iq (oW F t) (wH F ts) vs Z
end
mutual
noncomputable def eJ(F:Run):Sx->aF->M Out
 |.bad,_=>M.bad
 |.pass,σ=>M.ret (.nx σ)
 |.brk,σ=>M.ret (.brk σ)
 |.cnt,σ=>M.ret (.cnt σ)
 |.Bl,_=>M.ret (.ret .aG)
 |.expr e,σ=>(aL F e σ).bind λ_=>M.ret (.nx σ)
 |.ret e,σ=>(aL F e σ).bind λv=>M.ret (.ret v)
 |.asg t e,σ=>(aL F e σ).bind λv=>(oW F t v σ).bind λσ1=>M.ret (.nx σ1)
 |.ite c a b,σ=>Ab (dU F c σ) (jR F a σ) (jR F b σ)
 |.uE t it b,σ=>(cR F it σ).bind λi=>kT i (oW F t) (jR F b) FU 0 σ
 |.kI d s,σ=>mD (aL F d) (eJ F s) σ
 |.Cm c b,σ=>vN (dU F c) (jR F b) FU σ
 |.par is es,σ=>DJ is (dO F es σ) σ
 |.gq cs f o e,σ=>Yx cs f (aL F o σ) (aL F e σ) σ
 |.qi cs f o e,σ=>Uz cs f (aL F o σ) (aL F e σ) σ
 |.aug sub i e,σ=>pf sub i (aL F e σ) σ
noncomputable def jR(F:Run):aR->aF->M Out
 |.nil,Z=>M.ret (.nx Z)
 |.cons s ss,Z=>GS (eJ F s Z) (jR F ss)
end
def uv:List Tg->wG
 |[]=>.nil
 |t::ts=>.cons t (uv ts)
def cG(C:Cn):Nat->aK->Tg
 |0,_=>.bad
 |n+1,e=>match e with
  |.Name x _=>match C.slot x with
   |some i=>.nm i
   |none=>.bad
  |.Tuple es _ _=>if es.all tK then .tup es.length (uv<|es.map<|cG C n) else .bad
  |.Subscript a b _=>if bY b then .sub (cE C EF a) (cE C EF b) else .bad
  |_=>.bad
def vD:List Sx->aR
 |[]=>.nil
 |s::ss=>.cons s (vD ss)
def cK(C:Cn)(t:aK):Yg:=match t with
 |.Name x _=>if decide (C.sc.names.lookup x=aA .local) then C.N.idxOf? x else aD
 |_=>aD
def swL(C:Cn)(t e:aK):Bool:=decide (Oe (vX e (aA t) 0 { (default:Env)with scope:=C.sc })=aA aB)
def cL(C:Cn)(t e:aK):Sx:=match cK C t with
 |some i=>if swL C t e then .asg (.nm i) (cE C EF e) else .bad
 |none=>.bad
def Od(C:Cn)(t e:aK)(o:Option (List Str)):Bool:=decide (Oe (swE [t] e C.sc)=aA o)
def Av(C:Cn)(t e:aK)(ts vs:List aK):Bool:=ts.length==3&&vs.length==3&&ts.all (λt=>(cK C t).isSome)&&decide ((ts.filterMap<|cK C).Nodup)&&vs.all bY&&Od C t e (aA<|ts.filterMap ij)
def cP(C:Cn)(t e:aK):Sx:=match t,e with
 |.Tuple ts _ _,.Tuple vs _ _=>if Av C t e ts vs then .par (ts.filterMap<|cK C) (lV<|vs.map<|cE C EF) else .bad
 |_,_=>.bad
def G5:aK->Bool
 |.Attribute ..=>aB
 |_=>aH
def Gs(C:Cn)(t e:aK):Sx:=match t with
 |.Attribute o f _=>match C.kR.lookup f with
  |some cs=>if bY e then .gq cs f (cE C EF o) (cE C EF e) else .bad
  |none=>.bad
 |_=>.bad
def Gj(C:Cn)(t:aK)(op:rZ)(e:aK):Sx:=match t with
 |.Name x _=>match C.slot x with
  |some i=>match op with
   |.Add=>.aug aH i (cE C EF e)
   |.Sub=>.aug aB i (cE C EF e)
   |_=>.bad
  |none=>.bad
 |.Attribute o f _=>match C.kR.lookup f with
  |some cs=>match op with
   |.Add=>.qi cs f (cE C EF o) (cE C EF e)
   |_=>.bad
  |none=>.bad
 |_=>.bad
def Gu(C:Cn)(o:Option aK):Sx:=match o with
 |none=>.Bl
 |some e=>.ret (cE C EF e)
def Wa(C:Cn)(t e:aK):Sx:=
 if uP e then cL C t e else
 if G5 t then Gs C t e else
 if bY e&&tK t&&Od C t e aD then .asg (cG C 4 t) (cE C EF e) else
  cP C t e
def Gg(C:Cn)(ts:List aK)(e:aK):Sx:=match ts with
 |[t]=>Wa C t e
 |_=>.bad
def Cn.Bx(C:Cn)(it:aK)(d:Ex)(s:Sx):Sx:=if C.Jn it then .kI d s else s
def cS(C:Cn):Nat->Stmt->Sx
 |0,_=>.bad
 |n+1,s=>match s with
  |.Pass _=>.pass
  |.Break _=>.brk
  |.Continue _=>.cnt
  |.Return o _=>Gu C o
  |.Expr e _=>if bY e && !uP e then .expr (cE C EF e) else .bad
  |.Assign ts e _=>Gg C ts e
  |.AugAssign t op e _=>Gj C t op e
  |.If c a b _=>.ite (cE C EF c) (vD<|a.map<|cS C n) (vD<|b.map<|cS C n)
  |.For t it b els _=>if els.isEmpty&&bY it then C.Bx it (cE C EF it) (.uE (cG C 4 t) (cI C (cE C EF) t it)<|vD<|b.map<|cS C n) else .bad
  |.While c b els _=>if els.isEmpty then .Cm (cE C EF c) (vD<|b.map<|cS C n) else .bad
  |_=>.bad
section
variable {C:Cn}(L:Lk X T E C F)(ht:C.top=aB)
theorem aOg{k:aF->AV->aF}(σ:aF):mD m0 (λσ=>(ma σ).bind λv=>(M.ret<|k σ v).bind λσ1=>M.ret (Out.nx σ1)) σ=(mD m0 ma σ).bind λv=>(M.ret<|k σ v).bind λσ1=>M.ret (Out.nx σ1):=by
 funext h
 simp only[M.bind,M.ret,mD];cases ye (m0 σ h) with
 |none=>rfl|some n=>
  dsimp only;cases h.ob n with
  |none=>rfl|some u=>
   cases u with
   |aN b=>
    cases ma σ h with
    |ok a c=>
     dsimp only[ux];cases c.ob n with
     |none=>rfl|some w=>cases w<;>rfl
    |bad=>rfl
   |_=>rfl
theorem FD{st:Stmt}{it:aK}{y:Ex}{i:Nat}(h:QS X T E st (λσ=>(aL F y σ).bind λv=>(M.ret<|σ.set i<|aA v).bind λσ1=>M.ret (.nx σ1))) :
  QS X T E st (λσ=>(aL F (C.kI it d y) σ).bind λv=>(M.ret<|σ.set i<|aA v).bind λσ1=>M.ret (.nx σ1)):=by
 unfold Cn.kI;split
 .have q:=FC (aL F d) h;have e:mD (aL F d) (λσ=>(aL F y σ).bind λv=>(M.ret<|σ.set i<|aA v).bind λσ1=>M.ret (Out.nx σ1))=λσ=>(aL F (.kI d y) σ).bind λv=>(M.ret<|σ.set i<|aA v).bind λσ1=>M.ret (Out.nx σ1):=funext λσ=>aOg σ;rw[e]at q;exact q
 .exact h
theorem aIq{st:Stmt}{it:aK}{s:Sx}(h:QS X T E st (eJ F s)):QS X T E st (eJ F<|C.Bx it d s):=by
 unfold Cn.Bx;split
 .exact FC (aL F d) h
 .exact h
theorem aOf{f:aK->Tg}(hs:es.all tK=aB)(h:∀e,QG X T E e (oW F<|f e)):fu X T E es (wH F<|uv<|es.map f):=by
 induction es with
 |nil=>exact EO|cons e es a=>rw[jX,bT]at hs;exact EN (h e) (a hs.2) hs.1
include L ht in
theorem Nw:∀(n:Nat) (e:aK),QG X T E e (oW F<|cG C n e)
 |0,e=>uV
 |n+1,e=>by
  have c:=Nw n;unfold cG;split
  .split
   .rename_i i a;unfold Cn.slot at a;split at a
    .rename_i hl;have d:∀{x:Str},C.loc x=aB->wB X.env.scope x:=λ{x} hl=>by rw[L.sc];simp only[Cn.loc,kj,decide_eq_true_eq]at hl;exact hl
     exact Mc (by rw[L.N];exact L.nd) (by rw[L.N];exact uN a) (d hl)<|.inl<|L.fn ht _
    .exact cJ a
   .exact uV
  .split
   .rename_i b;exact EM L.K L.calm (aOf b c) b
   .exact uV
  .split
   .rename_i b;exact aFe (by have:=L.un;lia) (hV EF L _).1 (hV EF L _).1 b
   .exact uV
  .exact uV
theorem uu{ss:Xz}{f:Stmt->Sx}(h:∀s,QS X T E s (eJ F<|f s)):wD X T E ss (jR F<|vD<|ss.map f):=by
 induction ss with
 |nil=>exact aIt|cons s ss a=>exact aIs (h s) a
theorem Bt{t:aK}(h:(cK C t).isSome=aB):∃x p i,t = .Name x p/\cK C t=aA i/\C.sc.names.lookup x=aA .local/\C.N[i]?=aA x:=by
 cases t with
 |Name x p=>
  obtain⟨i,a⟩:=Option.isSome_iff_exists.mp h;refine⟨x,p,i,rfl,a,?_⟩;have a:(if decide (C.sc.names.lookup x=aA .local)=aB then C.N.idxOf? x else aD)=aA i:=a;by_cases e:C.sc.names.lookup x=aA .local
  .rw[if_pos (decide_eq_true e)]at a;exact⟨e,uN a⟩
  .rw[if_neg (mt of_decide_eq_true e)]at a;exact cJ a
 |_=>exact ff h
theorem BS{α:Type}{l:List α}(h:l.length=3):∃a b c,l=[a,b,c]:=by
 match l,h with
 |[a,b,c],_=>exact⟨a,b,c,rfl⟩
theorem HK{t:aK}{o:Option (List Str)}(hs:X.env.scope=C.sc)(h:Od C t e o=aB):my [t] e X.env=pure o:=by have h:=HL (of_decide_eq_true h);rw[<- hs]at h;exact h
include L ht in
theorem aLe(t e:aK)(pC:Pos):QS X T E (.Assign [t] e pC) (eJ F<|cP C t e):=by
 cases t with
 |Tuple f p pt=>
  cases e with
  |Tuple g k2 q=>
   show QS X T E _ (eJ F<|if Av C (.Tuple f p pt) (.Tuple g k2 q) f g then .par (f.filterMap<|cK C) (lV<|g.map<|cE C EF) else .bad);by_cases ok:Av C (.Tuple f p pt) (.Tuple g k2 q) f g=aB
   .rw[if_pos ok];unfold Av at ok;rw[bT,bT,bT,bT,bT]at ok;obtain⟨⟨⟨⟨⟨r,s⟩,m⟩,d⟩,l⟩,n⟩:=ok;obtain⟨t1,u,t3,rfl⟩:=BS (eq_of_beq r);obtain⟨a,b,c,rfl⟩:=BS (eq_of_beq s);have sl:=List.all_eq_true.mp m;obtain⟨x,v,i,rfl,w,A,g1⟩:=Bt (sl t1<|.head _);obtain⟨y,py,j,rfl,B,D,g2⟩:=Bt (sl u<|.tail _<|.head _);obtain⟨z,G,k,rfl,H,I,g3⟩:=Bt (sl t3<|.tail _<|.tail _<|.head _);have d:=of_decide_eq_true d;have J:[Expr.Name x v,.Name y py,.Name z G].filterMap (cK C)=[i,j,k]:=by rw[Qk w,Qk B,Qk H];rfl
    rw[J]at d ⊢;have lc:∀{x:Str},C.sc.names.lookup x=aA .local->X.env.scope.names.lookup x=aA .local:=λ{x} h=>L.sc▸h;have o:=List.nodup_cons.mp d;exact aIm L.calm (by rw[L.N];exact L.nd) (by rw[L.N];exact g1) (by rw[L.N];exact g2) (by rw[L.N];exact g3) (λe=>o.1 (e ▸ .head _)) (λe=>o.1 (e ▸ .tail _ (.head _))) (λe=>(List.nodup_cons.mp o.2).1 (e ▸ .head _)) (lc A) (lc D) (lc I) (nA l<|hV EF L)<|HK L.sc n
   .rw[if_neg ok];exact iV
  |_=>exact iV
 |_=>exact iV
include L ht in
theorem aLd(t e:aK)(pC:Pos)(hlc:uP e=aB):QS X T E (.Assign [t] e pC) (eJ F<|cL C t e):=by
 unfold cL;split
 .rename_i i p;obtain⟨y,py,j,rfl,u,k,d⟩:=Bt (by rw[p];rfl);cases p.symm.trans u;split
  .rename_i l;rw[<- L.N]at d;rw[<- L.sc]at k;have q:=L.N▸L.nd;cases e with
   |ListComp elt gens scope pos=>
    have f:vX (.ListComp elt gens scope pos) (aA<|.Name y py) pC.line X.env=pure aB:=by have h:=HL (of_decide_eq_true l);rw[<- L.sc]at h;exact h
    show QS X T E _ (λr=>(aL F (pv C (λw A=>cE w 39 A) elt gens scope) r).bind λv=>(M.ret<|r.set i<|aA v).bind λm=>M.ret (.nx m));unfold pv;split
    .split
     .rename_i hb;rw[bT]at hb;have g:=λs H a b=>L.comp hb.1 s H a b;split
      .refine FD ?_;exact FA (ct:=aD) q d k f (L.yc hb.1) L.calm (um L (hV 39 L) _ _) (λs H a b=>Bu (g s H a b) _) (λc z=>cJ z) (λ_=>rfl) (λs H a b=>(hV 39 (g s H a b) _).1) (by simp[Cn.imp]) (λi j x n o=>L.imp n o) hb.2
      .exact FD<|FA (ct:=aA _) q d k f (L.yc hb.1) L.calm (um L (hV 39 L) _ _) (λs H a b=>Bu (g s H a b) _) (λc z s H a b=>by cases z;exact(hV 39 (g s H a b) _).2) (λz=>by cases z) (λs H a b=>(hV 39 (g s H a b) _).1) (by simp[Cn.imp]) (λi j x n o=>L.imp n o) hb.2
      .exact iV
     .exact iV
    .exact iV
   |_=>exact ff hlc
  .exact iV
 .exact iV
theorem aMc{v o:aK}{f:Str}{l:Nat}(h:bY v=aB)(hn:uP v=aH):vX v (aA<|.Attribute o f p) l env=pure aH:=by cases v<;>first|rfl|cases h|cases hn
include L in
theorem aLc(t e:aK)(pC:Pos)(hlc:uP e=aH):QS X T E (.Assign [t] e pC) (eJ F<|Gs C t e):=by
 unfold Gs;split
 .split
  .rename_i cs a;split
   .rename_i b;exact aIi (L.kR _ _ a) (hV EF L _).1 (hV EF L _).1 (aMc b hlc)
   .exact iV
  .exact iV
 .exact iV
include L ht in
theorem aLb(t:aK)(op:rZ)(e:aK)(pos:Pos):QS X T E (.AugAssign t op e pos) (eJ F<|Gj C t op e):=by
 unfold Gj;split
 .rename_i x d;split
  .rename_i i a;unfold Cn.slot at a;split at a
   .rename_i hl;have b:wB X.env.scope x:=by rw[L.sc];simp only[Cn.loc,kj,decide_eq_true_eq]at hl;exact hl
    split
    .exact EZ aH (L.N▸L.nd) (by rw[L.N];exact uN a) b (.inl<|L.fn ht _) (hV EF L _).1
    .exact EZ aB (L.N▸L.nd) (by rw[L.N];exact uN a) b (.inl<|L.fn ht _) (hV EF L _).1
    .exact iV
   .exact cJ a
  .exact iV
 .split
  .rename_i cs c;split
   .exact aIj (L.kR _ _ c) (hV EF L _).1 (hV EF L _).1
   .exact iV
  .exact iV
 .exact iV
include L ht in
theorem HD:∀(n:Nat) (s:Stmt),QS X T E s (eJ F<|cS C n s)
 |0,s=>iV
 |n+1,s=>by
  have h:=HD n;cases s
  case Pass=>exact aIn
  case Break=>exact aIf
  case Continue=>exact aIg
  case Return o p=>
   show QS X T E _ (eJ F<|Gu C o);unfold Gu;split
   .exact aIp
   .exact aIo (hV EF L _).1
  case Expr e p=>
   show QS X T E _ (eJ F<|if bY e && !uP e then .expr (cE C EF e) else .bad);split
   .rename_i a;rw[bT,JX]at a;exact aIh (hV EF L _).1 a.1 a.2
   .exact iV
  case Assign i e d=>
   show QS X T E _ (eJ F<|Gg C i e);unfold Gg;split
   case h_2=>exact iV
   case h_1 t=>
    unfold Wa;split
    .rename_i g;exact aLd L ht t e d g
    .rename_i g;split
     .exact aLc L t e d (by simpa using g)
     split
     .rename_i a;rw[bT,bT]at a;exact aIe (hV EF L _).1 (Nw L ht 4 _) a.1.1 (by simpa using g) a.1.2 (HK L.sc a.2)
     .exact aLe L ht t e d
  case AugAssign=>exact aLb L ht _ _ _ _
  case If=>exact aIl (hV EF L _).2 (uu h) (uu h)
  case For t it b f p=>
   show QS X T E _ (eJ F<|if f.isEmpty&&bY it then C.Bx it (cE C EF it) (.uE (cG C 4 t) (cI C (cE C EF) t it)<|vD<|b.map<|cS C n) else .bad);split
   .rename_i a;rw[bT]at a;cases f with
    |nil=>exact aIq<|aIk (L.po ht) L.calm (um L (hV EF L) _ _) (Nw L ht 4 _) (uu h) a.2|cons _ _=>exact ff a.1
   .exact iV
  case While c b f p=>
   show QS X T E _ (eJ F<|if f.isEmpty then .Cm (cE C EF c) (vD<|b.map<|cS C n) else .bad);split
   .rename_i a;cases f with
    |nil=>exact aIr (L.po ht) (hV EF L _).2 (uu h)|cons _ _=>exact ff a
   .exact iV
  all_goals exact iV
end
abbrev Pg:=Nat->Option (Nat×Nat×aR)
def DI:Out->M AV
 |.nx _=>M.ret .aG
 |.ret v=>M.ret v
 |_=>M.bad
def run(P:Pg):Nat->Run
 |0,_,_=>M.bad
 |k+1,f,args=>match P f with
  |none=>M.bad
  |some (np,nn,b)=>M.guard (args.length=np) ((jR (run P k) b<|args.map aA++eN (nn-np) aD).bind DI)
def WW:Stmt->Xz
 |.ClassDef _ _ _ body ..=>body
 |_=>[]
structure Df where
 name:Str
 qual:Str
 st:Stmt
 N:Yb
 ps:Yb
structure Pr where
 defs:List Df
 zJ:Nat
 qz:Yf
 iN:Yb
 JU:List (Str×Nat):=[]
 cat:List (Str×ZD):=[]
 AR:List (Str×ZD):=[]
 kR:List (Str×Yh):=[]
 nH:List (Str×Ye):=[]
 mL:List ((Str×Nat)×(Nat×Nat×Hr)):=[]
 sP:List (Str×ZD):=[]
 oX:List (Str×List (Str×Nat)):=[]
 Hj:Yb:=[]
def SF:Nat:=30
def Pr.cn(p:Pr)(d:Df):Cn:=⟨d.N,pU d.st,(p.defs.take p.zJ).map (·.name),p.qz,p.iN,p.JU,p.cat,p.AR,aB
 ,p.kR,p.nH,p.mL,p.sP,p.oX
 ,p.Hj
 ⟩
def Pr.bodyOf(p:Pr)(d:Df):Nat×Nat×aR:=(d.ps.length,d.N.length,vD ((gj d.st).map (cS (p.cn d) SF)))
def Pr.ir(p:Pr):Pg:=λi=>(p.defs[i]?).map p.bodyOf
structure Ue(K:bJ)(x qual:Str)(st:Stmt)(f:Addr)(fd:eS):Prop where
 ex:∃(oc:Value) (od:ZF) (dV kV doc pm:Value) (an:ZF) (cdv ct:Value) (osl:ZC),
  fd=mj x qual (yh st) (gj st) (pU st) dV kV doc pm an cdv ct/\K.lookup f=aA ⟨oc,od,.func fd,osl⟩/\Sh K cdv qual=aB
 kp:tP K (.ref f)=aB
theorem xq{K:bJ}{ds:Hs}{D:Addr}{o:Obj}(hd:fd.defaults = .ref D)(l:K.lookup D=aA o)(hs:o.data = .seq items n)
  (h:∀us:Hs,(us++ds).length=ps.length->∃k,bindArgs fd ⟨us,[]⟩=du fd.defaults>>=k/\k (aA items)=pure (ps.zip<|us++ds)):Binds K fd ps ds:=λs us X hl=>
 let ⟨_,a,b⟩:=h us hl;BindsTo.of_defaults hd (X _ _ l) hs a b
structure Fg(K:bJ)(d:Df)(f:Addr)(fd:eS):Prop where
 fn:Ue K d.name d.qual d.st f fd
 bd:Binds K fd d.ps []
 sc:ny d.N d.ps (pU d.st)
inductive jI(K:bJ):List Df->Xx->List eS->Prop
 |nil:jI K [] [] []
 |cons {d:Df}{a:Addr}{f:eS}{ds:List Df}{as:Xx}{fs:List eS} (h:Fg K d a f) (t:jI K ds as fs):jI K (d::ds) (a::as) (f::fs)
theorem jI.get{K:bJ}{ds:List Df}{as:Xx}{fs:List eS}(h:jI K ds as fs){f0:eS}:∀(i:Nat) d,ds[i]?=aA d->Fg K d (as.getD i 0) (fs.getD i f0):=by
 induction h with
 |nil=>intro i d e;simp at e|cons h t a=>
  intro i d e;cases i with
  |zero=>cases(e);exact h|succ i=>exact a i d e
theorem aPc{α:Type}{us:List α}(h:us.length=0):us=[]:=Dp h
theorem Ow{α:Type}{us:List α}(h:us.length=1):∃a0,us=[a0]:=by obtain⟨a,r,rfl⟩:=xX h;obtain rfl:=aPc (by simpa using h);exact⟨a,rfl⟩
theorem ju{α:Type}{us:List α}(h:us.length=2):∃a0 a1,us=[a0,a1]:=by obtain⟨a,r,rfl⟩:=xX h;obtain⟨b,rfl⟩:=Ow (by simpa using h);exact⟨a,b,rfl⟩
theorem Ox{α:Type}{us:List α}(h:us.length=3):∃a0 a1 a2,us=[a0,a1,a2]:=by obtain⟨a,r,rfl⟩:=xX h;obtain⟨b,b1,rfl⟩:=ju (by simpa using h);exact⟨a,b,b1,rfl⟩
theorem Oy{α:Type}{us:List α}(h:us.length=4):∃a0 a1 a2 a3,us=[a0,a1,a2,a3]:=by obtain⟨a,r,rfl⟩:=xX h;obtain⟨b,b1,b2,rfl⟩:=Ox (by simpa using h);exact⟨a,b,b1,b2,rfl⟩
theorem IP{α:Type}{us:List α}(h:us.length=5):∃a0 a1 a2 a3 a4,us=[a0,a1,a2,a3,a4]:=by obtain⟨a,r,rfl⟩:=xX h;obtain⟨b,b1,b2,c,rfl⟩:=Oy (by simpa using h);exact⟨a,b,b1,b2,c,rfl⟩
theorem IQ{α:Type}{us:List α}(h:us.length=6):∃a0 a1 a2 a3 a4 a5,us=[a0,a1,a2,a3,a4,a5]:=by obtain⟨a,r,rfl⟩:=xX h;obtain⟨b,b1,b2,c,d,rfl⟩:=IP (by simpa using h);exact⟨a,b,b1,b2,c,d,rfl⟩
theorem aPd{α:Type}{us:List α}(h:us.length=7):∃a0 a1 a2 a3 a4 a5 a6,us=[a0,a1,a2,a3,a4,a5,a6]:=by obtain⟨a,r,rfl⟩:=xX h;obtain⟨b,b1,b2,c,d,e,rfl⟩:=IQ (by simpa using h);exact⟨a,b,b1,b2,c,d,e,rfl⟩
theorem IS{α:Type}{us:List α}(h:us.length=8):∃a0 a1 a2 a3 a4 a5 a6 a7,us=[a0,a1,a2,a3,a4,a5,a6,a7]:=by obtain⟨a,r,rfl⟩:=xX h;obtain⟨b,b1,b2,c,d,e,f,rfl⟩:=aPd (by simpa using h);exact⟨a,b,b1,b2,c,d,e,f,rfl⟩
structure Fs(P:cA)(w:bW)(p:Pr)(T:Tab)(mg:Str->Xy)(ad:Nat->Addr)(fds:Nat->eS):Prop where
 df:∀(i:Nat) d,p.defs[i]?=aA d->Fg T.K d (ad i) (fds i)
 gn:∀(i:Nat) d,(p.defs.take p.zJ)[i]?=aA d->mg d.name=aA (.ref<|ad i)
 gv:∀x v,p.qz.lookup x=aA v->∃u v',mg x=aA u/\RelV v' u/\∀Y H,aW T Y H v v'
 bl:∀x,p.iN.contains x=aB->mg x=aD
 tab:∀(kvs:Yk) a,T.G kvs a->oj P w T.K a kvs
 kR:∀f cs,p.kR.lookup f=aA cs->fj T.K T cs f
 nH:∀m dp,p.nH.lookup m=aA dp->∀c i,dp.lookup c=aA i->∃d D,p.defs[i]?=aA d/\T.C c=aA D/\mV T.K D/\xb T.K D m (ad i)
 mL:∀x n c i dv,p.mL.lookup (x,n)=aA (c,i,dv)->∃d D ds dvs,p.defs[i]?=aA d/\T.C c=aA D/\Mk T.K D (ad i)/\mg x=aA (.ref D)/\Binds T.K (fds i) d.ps ds/\Vals dvs ds/\∀Y H,bE T Y H dv dvs
 sP:∀y cs,p.sP.lookup y=aA cs->∃D:Addr,mg y=aA (.ref D)/\∀k b,cs.lookup k=aA b->∃D':Addr,T.C k=aA D'/\Uj T.K D'/\Sj T.K (.ref D') (.ref D)=aA b
 oX:∀x m i,(p.oX.lookup x).bind (·.lookup m)=aA i->∃d D,p.defs[i]?=aA d/\mg x=aA (.ref D)/\tP T.K (.ref<|ad i)=aB /\
  Ep T.K (.ref D) "__getattribute__"=aA (aA<|.builtin "type.__getattribute__")/\So T.K D (.type "type")=aB/\Si T.K (.ref D) (.type "type") m=aA (.val<|.ref<|ad i)/\Em (.ref<|ad i)=aB
theorem L3{K:bJ}{o:Obj}{kvs:Yk}(l:K.lookup a=aA o)(e:Ei Rx (λ_=>aA o) a (kvs.map λp=>(p.1,sA p.2))=aB)
  (n:(kvs.map (·.1)).Nodup)(q:Eh (λ_=>aA o) a=(kvs.map λp=>(p.1,sA p.2)).map λp=>(Su P w).hash p.1):oj P w K a kvs:=λh x=>by
 have c:Ei Rx (λb=>K.lookup b) a (kvs.map λp=>(p.1,sA p.2))=aB:=by rw[<- e];simp only[Ei,l]
 have d:Eh (λb=>K.lookup b) a=(kvs.map λp=>(p.1,sA p.2)).map λp=>(Su P w).hash p.1:=by rw[<- q];simp only[Eh,l]
 have:=W.kt_tab_in P w x c (by rw[jE];exact n) d;rw[jE]at this;exact this
section
variable {mg:Str->Xy}{base:bI}{p:Pr}{ad:Nat->Addr}{fds:Nat->eS}
theorem aLw{args:Hr}{vs:Xw}{N:Yb}(r:bE T Y H args vs)(hn:N.length=n):cW T Y H (args.map aA++eN (n-args.length) aD) (L2.start N vs):=by
 subst hn;unfold L2.start;have hl:=r.length;refine⟨by simp[hl],λi v e=>?_⟩;by_cases b:i<args.length
 .rw[rW (by simpa),fO]at e;cases q:args[i]? with
  |none=>rw[q]at e;cases e|some a=>rw[q]at e;cases e;obtain⟨y,c,d⟩:=r.get q;exact⟨y,by rw[rW (by rw[aU,<- hl];exact b),fO,c];rfl,d⟩
 .rw[lh (by simpa using b),Du]at e;split at e<;>cases e
theorem B2{K:bJ}{x qual:Str}{st:Stmt}{f:Addr}{N:Yb}{k:Nat}(F:Ue K x qual st f fd)(S:ny N ps (pU st))(len:∀vs H Q E,sp vs H Q E->vs.length=ps.length)
  (Iy:∀(cdv:Value) (A:cM) (outer:Ys) (s:aI) (H:Hp) (vs:Xw) (Q:VK) (E:XK),fJ k (A.deeper<|vV qual (pU st) s.heap.objs.size f cdv)->sp vs H Q E ->
   ∃t,sE (wU (kQ P w) P w K mg base N qual (pU st) f cdv A outer s H E) (gj st) t/\t { nx:=λ_ H'=>Q .aG H',rt:=Q } (L2.start N vs) H):iL P w K mg base (kQ P w) (k+1) f fd ps sp:=by
 obtain⟨d,od,e,kV,doc,pm,an,cdv,ct,c,rfl,lk,a⟩:=F.ex;exact A1 lk a S len λA outer s H vs Q E hr b=>Iy cdv A outer s H vs Q E hr b
theorem GQ(O:Fs P w p T mg ad fds):∀(k i:Nat) (d:Df),p.defs[i]?=aA d->iL P w T.K mg base (kQ P w) (2*k+2) (ad i) (fds i) d.ps (tJ T<|run p.ir k i)
 |0,i,d,hd=>⟨λy H Q E ⟨z,h,args,_,_,w⟩=>w.elim,λA outer s H args us y Q E _ _ _ _ ⟨z,h,ar,_,_,w⟩=>w.elim⟩
 |k+1,i,d,hd=>by
  have B:=GQ O k;have D:=O.df i d hd;have u:p.ir i=aA (p.bodyOf d):=by unfold Pr.ir;rw[hd];rfl
  refine B2 D.fn D.sc (λy H Q E h=>?_)<|λI A outer s H y Q E hr h=>?_
  .obtain⟨z,h,args,R,r,w⟩:=h;simp only[run,u,Pr.bodyOf]at w;obtain⟨hl,_⟩:=zV w;rw[<- r.length,hl]
  .obtain⟨z,h,args,R,r,C⟩:=h;simp only[run,u]at C;obtain⟨hl,C⟩:=zV C;have L:Lk (wU (kQ P w) P w T.K mg base d.N d.qual (pU d.st) (ad i) I A outer s H E) T E (p.cn d) (run p.ir k):={
    K:=rfl
    N:=rfl
    sc:=rfl
    nd:=D.sc.nd
    fn:=λ_ _=>rfl
    calm:=rfl
    po:=λ_=>PassesOwn.leaving
    gv:=O.gv
    fns:=λj x hx=>by
     have b:((p.defs.take p.zJ).map (·.name))[j]?=aA x:=hx;rw[fO]at b;cases q:(p.defs.take p.zJ)[j]? with
     |none=>rw[q]at b;cases b|some a=>
      rw[q]at b;cases b;have f:p.defs[j]?=aA a:=by
       rw[Qp]at q;split at q
       .exact q
       .exact cJ q
      have l:=O.df j a f;exact⟨2*k+2,ad j,fds j,a.ps,B j a f,hr,O.gn j a q,l.fn.kp,l.bd,Aw⟩
    iN:=O.bl
    tab:=O.tab
    un:=hr.units
    kR:=O.kR
    nH:=λm dp h c D g F J=>by obtain⟨j,hj,e⟩:=Option.map_eq_some_iff.mp F;subst e;obtain⟨a,l,f,G,M,S⟩:=O.nH m dp h c j hj;rw[J]at G;cases G;exact⟨2*k+2,ad j,fds j,a.ps,B j a f,hr.mono (hA _),M,S,(O.df j a f).bd,Aw⟩
    mL:=λx n c j dv h=>by obtain⟨a,l,ds,U,f,G,M,S,c3,c4,c5⟩:=O.mL x n c j dv h;exact⟨2*k+2,l,ad j,fds j,a.ps,ds,U,G,M,B j a f,hr,S,c3,c4,c5,Aw⟩
    sP:=O.sP
    oX:=λx m j h=>by obtain⟨a,l,f,hm,kp,F,J,h3,h4⟩:=O.oX x m j h;exact⟨2*k+2,l,ad j,fds j,a.ps,hm,B j a f,hr.mono (hA _),kp,F,J,h3,h4,(O.df j a f).bd,Aw⟩
   }
   obtain⟨t,ps,rs⟩:=uu (HD L rfl SF);refine⟨t,ps,rs z _ (L2.start d.N y) h H _ R ?_ (W.bind C λρ1 o Y F H1 e1 ZO X w1=>?_)⟩
   .rw[<- hl];exact aLw r rfl
   .cases o with
    |nx Z=>cases Y with
     |nx Z'=>exact(W.here w1 ZO aW.aG:Q V.aG H1)|_=>cases X
    |ret v=>cases Y with
     |ret v'=>exact(W.here w1 ZO X:Q v' H1)|_=>cases X
    |brk Z=>cases w1|cnt Z=>cases w1
def Nz(K:bJ):Sp:=λvs H Q _=>∃(a:Addr) (ns:Ht),vs=[.ref a]/\pK K H a (ns.map V.int)/\ns.length<=63/\∀H',Q (.bl aB) H'
def h0(ns:Ht):AH:=⟨1,λm=>if m=0 then aA (.lst aH<|ns.map AV.int) else aD⟩
def Keeps(P:Pg)(k i:Nat):Prop:=∀ns:Ht,ns.length<=63->∃h',run P k i [.ref 0] (h0 ns) = .ok (.bl aB) h'
theorem D4(h:pK T.K H a (ns.map V.int)):bR T [a] (h0 ns) H:=by
 have z:∀{n:Nat}{o:bB},(h0 ns).ob n=aA o->n=0/\o = .lst aH (ns.map AV.int):=λ{n o} e=>by
  have c:(if n=0 then aA (bB.lst aH<|ns.map AV.int) else aD)=aA o:=e;by_cases hn:n=0
  .rw[if_pos hn]at c;exact⟨hn,(dI c).symm⟩
  .rw[if_neg hn]at c;exact cJ c
 refine⟨rfl,λn o e=>?_,λn o b e q=>?_,λn m b o u d f g i _ _=>?_⟩
 .rw[(z e).1];exact MQ
 .obtain⟨rfl,rfl⟩:=z e;cases q;exact⟨_,h,bE.ints ns⟩
 .rw[(z d).1,(z f).1]
theorem M0(O:Fs P w p T mg ad fds){k i:Nat}{d:Df}(hd:p.defs[i]?=aA d)(h:Keeps p.ir k i):iL P w T.K mg base (kQ P w) (2*k+2) (ad i) (fds i) d.ps (Nz T.K):=by refine(GQ O k i d hd).imp λl H Q E c=>?_;obtain⟨a,ns,e,f,hl,q⟩:=c;subst e;obtain⟨m,e⟩:=h ns hl;refine⟨[a],h0 ns,[.ref 0],D4 f,.cons (.ref rfl) .nil,?_⟩;rw[e];intro g b j _ _ r;cases r;exact q j
theorem B4{K:bJ}{xs:Xw}(ho:xc H)(h:dM K H a xs):pK K H a xs:=by
 rcases h with(h|h)|h
 .rcases ho a with z|⟨o,ys,z⟩
  .rw[h]at z;cases z
  .rw[h]at z;cases z
 .exact .inl h
 .exact .inr h
end
theorem walk{l:Sf}{q:cA}{loose:Yb}{XP:(Str->Xy)->bI->Prop}{YP:bW->bI->Prop}{d:DefRec}{K:bV->bJ}{k:Nat}{x:Str}(hn:l.most=aA 63)(hdf:d.params.defaults=[])(hr:fJ k yG)
  (hY:∀(w:bW) (h:bI),YP w h->(K w.params).In h)
  (F:∀(w:bW) (mg:Str->Xy) (fa:Addr) (h:bI),(K w.params).In h->h.Ns jG mg->mg d.name=aA (.ref fa) ->
   ∃fd:eS,(∀(s:aI) (u:Value),kh s fd ⟨[u],[]⟩ [(x,u)])/\∀base:bI,(K w.params).In base->base.Ns jG mg->iL l.prog w (K w.params) mg base (kQ l.prog w) k fa fd [x] (Nz<|K w.params)) :
  NQ q loose XP YP l.row.toRowW d [] (λf vs=>Ss f vs):=
 L2.aPl hn (by decide) hdf hr hY F (λ_ _ a ns hl b c=>⟨a,ns,rfl,B4 b c,hl,λ_=>rfl⟩) λ_ _ _ _ _ z=>pw z
def We{α:Type}(m:M α)(h:AH)(Q:α->AH->Prop):Prop:=match m h with
 |.ok a h'=>Q a h'
 |.bad=>False
abbrev Wp{α:Type}(m:M α)(h:AH)(Q:α->AH->Prop):Prop:=We m h Q
section
variable {α β:Type}{m:M α}{k:α->M β}{h':AH}{Q:α->AH->Prop}{Q2:β->AH->Prop}
theorem bM(w:We m h λa h1=>We (k a) h1 Q2):We (M.bind m k) h Q2:=by
 unfold We at w ⊢;unfold M.bind;cases e:m h with
 |ok a h1=>rw[e]at w;exact w|bad=>rw[e]at w;exact w.elim
theorem We.mono{Q':α->AH->Prop}(w:We m h Q)(f:∀a h1,Q a h1->Q' a h1):We m h Q':=by
 unfold We at w ⊢;cases e:m h with
 |ok a h1=>rw[e]at w;exact f a h1 w|bad=>rw[e]at w;exact w.elim
theorem We.eq{a:α}(e:m h = .ok a h')(q:Q a h'):We m h Q:=by unfold We;rw[e];exact q
theorem We.ex(w:We m h Q):∃a h',m h = .ok a h'/\Q a h':=by
 unfold We at w;cases e:m h with
 |ok a b=>rw[e]at w;exact⟨a,b,rfl,w⟩|bad=>rw[e]at w;exact w.elim
theorem jy{p:Prop} [Decidable p] (hp:p)(w:We m h Q):We (M.guard p m) h Q:=by unfold We at w ⊢;unfold M.guard;rw[if_pos hp];exact w
variable {V1:AV->AH->Prop}{B1:Bool->AH->Prop}{L1:Hr->AH->Prop}
theorem Ct{i:Nat}(e:Z[i]?=aA (aA v))(q:V1 v h):We (aL F (.var i) Z) h V1:=by show We (uL i Z) h V1;unfold We uL;rw[e];exact q
theorem aRx{o:Op}{a b:Ex}(w:We (aL F a Z) h λx h1=>We (aL F b Z) h1 λy h2=>We (o.g x y) h2 V1):We (aL F (.op o a b) Z) h V1:=bM (w.mono λ_ _ z=>bM z)
theorem aRo{o:Cp}{a b:Ex}(w:We (aL F a Z) h λx h1=>We (aL F b Z) h1 λy h2=>We (o.g x y) h2 V1):We (aL F (.cmp o a b) Z) h V1:=bM (w.mono λ_ _ z=>bM z)
theorem aRv{a:Ex}(w:We (aL F a Z) h λx h1=>We (qx x) h1 V1):We (aL F (.neg a) Z) h V1:=bM w
theorem aRw{a:Ex}(w:We (aL F a Z) h λx h1=>We (dH x) h1 λb h2=>V1 (.bl<|!b) h2):We (aL F (.not a) Z) h V1:=bM (w.mono λ_ _ z=>bM z)
theorem aRk{a b:Ex}(w:We (aL F a Z) h λx h1=>We (dH x) h1 λt h2=>if t=aB then We (aL F b Z) h2 V1 else V1 x h2):We (aL F (.and a b) Z) h V1:=
 bM (w.mono λx _ z=>bM (z.mono λt _ y=>by
  cases t with
  |true=>exact y|false=>exact y))
theorem aRy{a b:Ex}(w:We (aL F a Z) h λx h1=>We (dH x) h1 λt h2=>if t=aB then V1 x h2 else We (aL F b Z) h2 V1):We (aL F (.or a b) Z) h V1:=
 bM (w.mono λx _ z=>bM (z.mono λt _ y=>by
  cases t with
  |true=>exact y|false=>exact y))
theorem aRs{c a b:Ex}(w:We (dU F c Z) h λt h1=>if t=aB then We (aL F a Z) h1 V1 else We (aL F b Z) h1 V1):We (aL F (.ite c a b) Z) h V1:=bM (w.mono λt _ y=>by
 cases t with
 |true=>exact y|false=>exact y)
theorem JO{o:Cp}{a b c:Ex}(w:We (aL F a Z) h λx h1=>We (aL F b Z) h1 λy h2=>We (o.g x y) h2 λz h3=>∃t,z = .bl t/\if t=aB then We (aL F c Z) h3 λu h4=>We (o'.g y u) h4 V1 else V1 (.bl aH) h3) :
 We (aL F (.chain o o' a b c) Z) h V1:=bM (w.mono λx _ z=>bM (z.mono λy _ z=>bM (z.mono λu h3 ⟨t,e,q⟩=>by
 subst e;cases t with
 |true=>exact bM q|false=>exact q)))
theorem aSg{es:eG}(w:We (dO F es Z) h λxs h1=>xs.length<=sizeLine/\V1 (.tup xs) h1):We (aL F (.tup es) Z) h V1:=bM (w.mono λxs _ z=>jy z.1 z.2)
theorem aRt{es:eG}(w:We (dO F es Z) h λxs h1=>xs.length<=sizeLine/\V1 (.ref h1.nx) (h1.new<|.lst aB xs)):We (aL F (.lst es) Z) h V1:=bM (w.mono λxs _ z=>jy z.1 z.2)
theorem aSd{a lo hi:Ex}(w:We (aL F a Z) h λx h1=>We (oY lo<|aL F lo Z) h1 λl h2=>We (oY hi<|aL F hi Z) h2 λu h3=>We (qL x l u) h3 V1):We (aL F (.slice a lo hi) Z) h V1:=
 bM (w.mono λ_ _ z=>bM (z.mono λ_ _ z=>bM z))
theorem JN{f:Nat}{es:eG}(w:We (dO F es Z) h λxs h1=>We (F f xs) h1 V1):We (aL F (.call f es) Z) h V1:=bM w
theorem aRm{f:Bi}{es:eG}(w:We (dO F es Z) h λxs h1=>We (f.g xs) h1 V1):We (aL F (.bi f es) Z) h V1:=bM w
theorem JQ{t:BT}{a:Ex}(w:We (aL F a Z) h λx h1=>We (zO t x) h1 V1):We (aL F (.qX t a) Z) h V1:=bM w
theorem aRl{o a:Ex}(w:We (aL F o Z) h λx h1=>zW h1 x=aB/\We (aL F a Z) h1 λy h2=>We (uH x y) h2 V1):We (aL F (.app o a) Z) h V1:=bM (w.mono λx h1 ⟨b,c⟩=>by unfold We;simp only[if_pos b];exact bM c)
theorem aRr{o:Ex}{es:eG}(w:We (aL F o Z) h λx h1=>∃kvs,x = .lF kvs/\We (dO F es Z) h1 λxs h2=>∃s z,xs=[.str s,.int z]/\V1 (.int<|getOf kvs s z) h2):We (aL F (.get o es) Z) h V1:=bM (w.mono λx h1 ⟨kvs,e,w2⟩=>by subst e;exact bM (w2.mono λxs h2 ⟨s,z,a,q⟩=>by subst a;exact q))
theorem JS(q:L1 [] h):We (dO F .nil Z) h L1:=q
theorem Cu{e:Ex}{es:eG}(w:We (aL F e Z) h λx h1=>We (dO F es Z) h1 λxs h2=>L1 (x::xs) h2):We (dO F (.cons e es) Z) h L1:=bM (w.mono λ_ _ z=>bM z)
theorem aSu{o:Cp}{a b:Ex}(w:We (aL F a Z) h λx h1=>We (aL F b Z) h1 λy h2=>We (o.g x y) h2 λz h3=>∃t,z = .bl t/\B1 t h3):We (dU F (.cmp o a b) Z) h B1:=
 bM (bM<|w.mono λ_ _ z=>bM (z.mono λ_ _ z=>z.mono λu h3 ⟨t,e,q⟩=>by subst e;exact q))
theorem aSt{o:Cp}{a b c:Ex}(w:We (aL F (.chain o o' a b c) Z) h λz h3=>∃t,z = .bl t/\B1 t h3):We (dU F (.chain o o' a b c) Z) h B1:=
 bM (w.mono λu h3 ⟨t,e,q⟩=>by subst e;exact q)
theorem aSy{a:Ex}(w:We (dU F a Z) h λt h1=>B1 (!t) h1):We (dU F (.not a) Z) h B1:=bM w
theorem aSr{a b:Ex}(w:We (dU F a Z) h λt h1=>if t=aB then We (dU F b Z) h1 B1 else B1 aH h1):We (dU F (.and a b) Z) h B1:=bM (w.mono λt _ y=>by
 cases t with
 |true=>exact y|false=>exact y)
theorem aTa{a b:Ex}(w:We (dU F a Z) h λt h1=>if t=aB then B1 aB h1 else We (dU F b Z) h1 B1):We (dU F (.or a b) Z) h B1:=bM (w.mono λt _ y=>by
 cases t with
 |true=>exact y|false=>exact y)
theorem aTb{i:Nat}(w:We (aL F (.var i) Z) h λx h1=>We (dH x) h1 B1):We (dU F (.var i) Z) h B1:=bM w
theorem aSs{f:Nat}{es:eG}(w:We (aL F (.call f es) Z) h λx h1=>We (dH x) h1 B1):We (dU F (.call f es) Z) h B1:=bM w
theorem aSw{t:BT}{a:Ex}(w:We (aL F (.qX t a) Z) h λx h1=>We (dH x) h1 B1):We (dU F (.qX t a) Z) h B1:=bM w
theorem aPp(q:V1 (.int<|i+j) h):We (Op.g .add (.int i)<|.int j) h V1:=q
theorem aQv(q:V1 (.int<|i-j) h):We (Op.g .sub (.int i)<|.int j) h V1:=q
theorem vL{p:Int->Int->Bool}{f:Int->Int->Int}(hp:p i j=aB)(q:V1 (.int<|f i j) h):We (mJ p f (.int i)<|.int j) h V1:=by unfold We mJ;simp only[if_pos hp];exact q
theorem aQl(hp:rE i j=aB)(q:V1 (.int<|i*j) h):We (Op.g .mul (.int i)<|.int j) h V1:=vL hp q
theorem aQb(hp:pV j=aB)(q:V1 (.int<|i / j) h):We (Op.g .fdiv (.int i)<|.int j) h V1:=vL (p:=λ_ j=>pV j) hp q
theorem aQk(hp:0<j)(q:V1 (.int<|i%j) h):We (Op.g .mod (.int i)<|.int j) h V1:=vL (p:=λ_ j=>decide (0<j)) (decide_eq_true hp) q
theorem Ph(hp:xI i j=aB)(q:V1 (.int<|i ^ j.toNat) h):We (Op.g .pow (.int i)<|.int j) h V1:=vL (f:=λi j=>i ^ j.toNat) hp q
theorem JI(hp:xI i j=aB)(q:V1 (.int<|i*2 ^ j.toNat) h):We (Op.g .shl (.int i)<|.int j) h V1:=vL (f:=λi j=>i*2 ^ j.toNat) hp q
theorem aQt(hp:0<=j)(q:V1 (.int<|i / 2 ^ j.toNat) h):We (Op.g .shr (.int i)<|.int j) h V1:=vL (p:=λ_ j=>decide (0<=j)) (f:=λi j=>i / 2 ^ j.toNat) (decide_eq_true hp) q
theorem aPr(q:V1 (.int<|rQ i j) h):We (Op.g .band (.int i)<|.int j) h V1:=vL (p:=λ_ _=>aB) rfl q
theorem aPs(q:V1 (.int<|km i j) h):We (Op.g .bor (.int i)<|.int j) h V1:=vL (p:=λ_ _=>aB) rfl q
theorem Pd(q:V1 (.int<|ko i j) h):We (Op.g .bxor (.int i)<|.int j) h V1:=vL (p:=λ_ _=>aB) rfl q
theorem aQh(q:V1 (.bl<|decide<|i<j) h):We (Cp.g .lt (.int i)<|.int j) h V1:=q
theorem aQg(q:V1 (.bl<|decide<|i<=j) h):We (Cp.g .le (.int i)<|.int j) h V1:=q
theorem aQd(q:V1 (.bl<|decide<|j<i) h):We (Cp.g .gt (.int i)<|.int j) h V1:=q
theorem aQc(q:V1 (.bl<|decide<|j<=i) h):We (Cp.g .ge (.int i)<|.int j) h V1:=q
theorem aPz(q:V1 (.bl<|decide<|i=j) h):We (Cp.g .eq (.int i)<|.int j) h V1:=q
theorem aQn(q:V1 (.bl<|!decide (i=j)) h):We (Cp.g .ne (.int i)<|.int j) h V1:=q
theorem aQa{i j:Str}(q:V1 (.bl<|decide<|i=j) h):We (Cp.g .eq (.str i)<|.str j) h V1:=q
theorem aQo{i j:Str}(q:V1 (.bl<|!decide (i=j)) h):We (Cp.g .ne (.str i)<|.str j) h V1:=q
theorem Ci(e:uB x y=aA b)(q:V1 (.bl b) h):We (Cp.g .eq x y) h V1:=by show We (zN x y) h V1;unfold We zN;rw[e];exact q
theorem aQm(e:uB x y=aA b)(q:V1 (.bl<|!b) h):We (Cp.g .ne x y) h V1:=by show We (zR x y) h V1;unfold We zR;rw[e];exact q
theorem aQe(q:V1 (.bl<|nC x) h):We (Cp.g .gz x .aG) h V1:=q
theorem aQf(q:V1 (.bl<|!nC x) h):We (Cp.g .isn x .aG) h V1:=q
theorem Bo(e:dW h x=aA xs):gE h x=aD:=by
 cases x with
 |ref n=>
  simp only[dW]at e;simp only[gE];cases o:h.ob n with
  |none=>rfl|some u=>
   rw[o]at e;cases u with
   |lst m ys=>rfl|_=>exact cJ e
 |_=>rfl
theorem aKk(e:dW h x=aA xs):yY h x=aD:=by
 cases x with
 |ref n=>
  simp only[dW]at e;simp only[yY];cases o:h.ob n with
  |none=>rfl|some u=>
   rw[o]at e;cases u with
   |lst m ys=>rfl|_=>exact cJ e
 |_=>rfl
theorem Pf(e:dW h y=aA xs)(f:(jL x&&xs.all jL)=aB)(q:V1 (.bl<|gR x xs) h):We (Cp.g .gw x y) h V1:=by show We (nB aH x y) h V1;have a:=Bo e;unfold We nB;simp only[a];unfold uJ;rw[e];simp only[if_pos f];exact q
theorem aQp(e:dW h y=aA xs)(f:(jL x&&xs.all jL)=aB)(q:V1 (.bl<|!gR x xs) h):We (Cp.g .nin x y) h V1:=by show We (nB aB x y) h V1;have a:=Bo e;unfold We nB;simp only[a];unfold uJ;rw[e];simp only[if_pos f];exact q
theorem gQ(e:dW h x=aA xs)(e2:cN xs i=aA v)(q:V1 v h):We (Op.g .ix x<|.int i) h V1:=by
 show We (uK x<|.int i) h V1;have a:=Bo e;unfold We uK;simp only[a];unfold zi;simp only[aKk e];unfold gr;cases x with
 |str z=>cases e|aG=>cases e|bl _=>cases e|int _=>cases e|lF _=>cases e|tup b=>simp only[e,jP,e2];exact q|ref n=>simp only[e,jP,e2];exact q
theorem JD{t s:BT}(e:tX h x=aA s)(q:V1 (.bl<|s.sub t) h):We (zO t x) h V1:=by unfold We zO;rw[e];exact q
theorem kK(e:dW h x=aA xs)(q:V1 (.int xs.length) h):We (Bi.g .len [x]) h V1:=by
 show We (qv [x]) h V1;unfold We qv;cases x with
 |str z=>cases e|aG=>cases e|bl _=>cases e|int _=>cases e|lF _=>cases e|tup ys=>simp only[e];exact q|ref n=>simp only[e];exact q
theorem aPv(hp:pV j=aB)(q:V1 (.tup [.int (i / j),.int (i%j)]) h):We (Bi.g .divmod [.int i,.int j]) h V1:=by show We (yz [.int i,.int j]) h V1;unfold We yz xA;simp only[if_pos hp];exact q
theorem vM(e:dW h x=aA xs)(q:V1 (.tup xs) h):We (Bi.g .tuple [x]) h V1:=by show We (zm [x]) h V1;unfold We zm lX;simp only[jP,e];exact q
theorem JE(e:dW h x=aA xs)(q:V1 (.ref h.nx) (h.new<|.lst aB xs)):We (Bi.g .list [x]) h V1:=by show We (zQ [x]) h V1;unfold We zQ lX kB;simp only[jP,e];exact q
theorem bu(e:h.ob n=aA (.lst aB xs))(hz:xs.length<sizeLine)(q:V1 .aG (h.put n<|.lst aB<|xs++[v])):We (uH (.ref n) v) h V1:=by unfold We uH;simp only[e,if_pos hz];exact q
theorem aPt{k:Nat}{ys:Hr}(e:h.ob n=aA (.lst aB xs))(e2:h.ob k=aA (.lst aB ys))(hz:xs.length+ys.length<=sizeLine)(q:V1 (.ref h.nx) (h.new<|.lst aB<|xs++ys)):We (Op.g .add (.ref n)<|.ref k) h V1:=by show We (ql n k) h V1;unfold We ql ag;simp only[e,e2,if_pos hz];exact q
theorem Ck{lo hi:Hq}(e:h.ob n=aA (.lst b xs))(q:V1 (.ref h.nx) (h.new<|.lst aB<|iP xs lo hi)):We (qL (.ref n) lo hi) h V1:=by unfold We qL;simp only[e];exact q
variable {P1:Hq->AH->Prop}
theorem aRz{e:Ex}(he:∀m,oY e m=m.bind Ij)(w:We (aL F e Z) h λx h1=>∃i,x = .int i/\P1 (aA i) h1):We (oY e<|aL F e Z) h P1:=by rw[he];exact bM (w.mono λx h1 ⟨i,e,q⟩=>by subst e;exact q)
end
def Wt(m:M Out)(h:AH)(N:aF->AH->Prop)(R:AV->AH->Prop)(B C:aF->AH->Prop):Prop:=We m h λo h1=>match o with
 |.nx Z=>N Z h1
 |.ret v=>R v h1
 |.brk Z=>B Z h1
 |.cnt Z=>C Z h1
section
theorem aSj{s:Sx}{ss:aR}(w:Wt (eJ F s σ) h (λσ1 h1=>Wt (jR F ss σ1) h1 N R B C) R B C):Wt (jR F (.cons s ss) σ) h N R B C:=
 bM (We.mono w λo h1 z=>by
  cases o with
  |nx σ1=>exact z|ret v=>exact z|brk σ1=>exact z|cnt σ1=>exact z)
theorem aSp{e:Ex}(w:We (aL F e Z) h R):Wt (eJ F (.ret e) Z) h N R B C:=bM w
theorem aSk{e:Ex}(w:We (aL F e Z) h λ_ h1=>N Z h1):Wt (eJ F (.expr e) Z) h N R B C:=bM w
theorem aSh{t:Tg}{e:Ex}(w:We (aL F e Z) h λv h1=>We (oW F t v Z) h1 N):Wt (eJ F (.asg t e) Z) h N R B C:=bM (w.mono λ_ _ z=>bM z)
theorem aPk{ts:wG}{Q:aF->AH->Prop}(e:dW h v=aA xs)(hl:xs.length=n)(w:We (wH F ts xs Z) h Q):We (oW F (.tup n ts) v Z) h Q:=by show We (zT n (wH F ts) v Z) h Q;unfold We zT;simp only[e,if_pos hl];exact w
theorem aPi{t:Tg}{ts:wG}{vs:Hr}{Q:aF->AH->Prop}(w:We (oW F t v σ) h λσ1 h1=>We (wH F ts vs σ1) h1 Q):We (wH F (.cons t ts) (v::vs) σ) h Q:=bM w
theorem aSn{c:Ex}{a b:aR}(w:We (dU F c Z) h λt h1=>if t=aB then Wt (jR F a Z) h1 N R B C else Wt (jR F b Z) h1 N R B C):Wt (eJ F (.ite c a b) Z) h N R B C:=bM (w.mono λt _ y=>by
 cases t with
 |true=>exact y|false=>exact y)
theorem zK{it:gC}{g:AV->aF->M aF}{body:aF->M Out}(I:Nat->aF->AH->Prop)(n:Nat)
  (turn:∀i σ h,i<n->I i σ h->∃v,it i h=aA (aA v)/\We (g v σ) h λσ1 h1=>Wt (body σ1) h1 (I<|i+1) R N (I<|i+1))
  (done:∀σ h,I n σ h->it n h=aA aD/\N σ h):∀(f i:Nat) (σ:aF) (h:AH),i<=n->n-i<f->I i σ h->Wt (kT it g body f i σ) h N R B C
 |0,i,σ,h,j,k,_=>by lia
 |f+1,i,σ,h,j,k,b=>by
  have c:=zK I n turn done f;by_cases hn:i<n
  .obtain⟨v,e,w⟩:=turn i σ h hn b;unfold Wt We kT;simp only[e];refine bM<|w.mono λσ1 h1 w1=>bM (We.mono w1 λo d z=>?_);cases o with
   |nx a=>exact c (i+1) a d hn (by omega) z|cnt a=>exact c (i+1) a d hn (by omega) z|brk a=>exact z|ret v=>exact z
  .have l:i=n:=by lia
   subst l;obtain⟨e,q⟩:=done σ h b;unfold Wt We kT;simp only[e];exact q
theorem mO{t:Tg}{it:Ir}{b:aR}(w:We (cR F it Z) h λi h1=>Wt (kT i (oW F t) (jR F b) FU 0 Z) h1 N R B C):Wt (eJ F (.uE t it b) Z) h N R B C:=bM w
variable {Q:gC->AH->Prop}
theorem aRa{e:Ex}(w:We (aL F e Z) h λx h1=>We (zP x) h1 Q):We (cR F (.seq e) Z) h Q:=bM w
theorem aQy{es:eG}(w:We (dO F es Z) h λxs h1=>∃j,xs=[.int j]/\mC j=aB/\Q (nL 0 j.toNat) h1):We (cR F (.Bm es) Z) h Q:=bM (w.mono λxs h1 ⟨j,e,r,q⟩=>by subst e;unfold We zj;simp only[if_pos r];exact q)
theorem aQz{es:eG}(w:We (dO F es Z) h λxs h1=>∃i j,xs=[.int i,.int j]/\(mC i&&mC j)=aB/\Q (nL i (j-i).toNat) h1):We (cR F (.Bn es) Z) h Q:=bM (w.mono λxs h1 ⟨i,j,e,r,q⟩=>by subst e;unfold We zk;simp only[if_pos r];exact q)
theorem JK{e:Ex}(w:We (aL F e Z) h λx h1=>∃n b xs,x = .ref n/\h1.ob n=aA (.lst b xs)/\Q (lD<|kU n) h1):We (cR F (.enum e) Z) h Q:=bM (w.mono λx h1 ⟨n,b,xs,e,r,q⟩=>by subst e;unfold We zc;simp only[r];exact q)
theorem aQw{e:Ex}(w:We (aL F e Z) h λx h1=>∃xs,x = .tup xs/\Q (lD<|lM xs) h1):We (cR F (.enum e) Z) h Q:=bM (w.mono λx h1 ⟨xs,e,q⟩=>by subst e;exact q)
theorem aRc{es:eG}(w:We (dO F es Z) h λxs h1=>∃x y it jt,xs=[x,y]/\qF x h1 = .ok it h1/\qF y h1 = .ok jt h1/\Q (kg it jt) h1):We (cR F (.zip es) Z) h Q:=bM (w.mono λxs h1 ⟨x,y,it,jt,e,a,b,q⟩=>by subst e;unfold We zo;simp only[a,b];exact q)
theorem aRb(q:Q (lM xs) h):We (zP<|.tup xs) h Q:=q
theorem oJ(e:h.ob n=aA (.lst b xs))(q:Q (kU n) h):We (zP<|.ref n) h Q:=by unfold We zP qF;simp only[e];exact q
theorem aSb{P:Pg}{k f np nn:Nat}{b:aR}{args:Hr}(e:P f=aA (np,nn,b))(hl:args.length=np)(w:Wt (jR (run P k) b<|args.map aA++eN (nn-np) aD) h (λ_ h1=>R .aG h1) R (λ_ _=>False) (λ_ _=>False)):We (run P (k+1) f args) h R:=by
 show We (match P f with
  |none=>M.bad
  |some (np,nn,b)=>M.guard (args.length=np) ((jR (run P k) b<|args.map aA++eN (nn-np) aD).bind DI)) h R
 rw[e];refine jy hl<|bM<|We.mono w λo h1 z=>?_;cases o with
 |nx a=>exact z|ret v=>exact z|brk a=>exact z.elim|cnt a=>exact z.elim
end
theorem Keeps.of{P:Pg}{k i:Nat}(h:∀ns:Ht,ns.length<=63->Wp (run P k i [.ref 0]) (h0 ns) λv _=>v = .bl aB):Keeps P k i:=λns hl=>by obtain⟨a,b,e,q⟩:=(h ns hl).ex;subst q;exact⟨b,e⟩
theorem Ko(h1:-18446744073709551616<i)(h2:i<18446744073709551616):rE i j=aB:=by simp only[rE,kj,decide_eq_true_eq];exact .inl<|.inl (by lia)
theorem R6(h1:-18446744073709551616<j)(h2:j<18446744073709551616):rE i j=aB:=by simp only[rE,kj,decide_eq_true_eq];exact .inl<|.inr (by omega)
theorem cO(e:h.ob n=aA (.lst b xs)):dW h (.ref n)=aA xs:=by simp only[dW,e]
def cell(ns:Ht)(i:Int):Int:=ns.getD i.toNat 0
theorem ox(h0:0<=i)(h1:i<(ns.map AV.int).length):cN (ns.map AV.int) i=aA (.int<|cell ns i):=by
 have hl:i.toNat<ns.length:=by rw[aU]at h1;lia
 unfold cN jS;rw[if_pos h0,if_pos h1];simp only[jP,fO,cell,List.getD,eM hl,yA,Option.getD_some]
def gg{α:Type}(xs:List α)(lo hi:Hq):List α:=(xs.drop<|HT.cC xs.length 0 lo).take (HT.cC xs.length xs.length hi-HT.cC xs.length 0 lo)
theorem XO{α:Type}(xs:List α)(f:α->AV)(lo hi:Hq):iP (xs.map f) lo hi=(gg xs lo hi).map f:=by unfold iP gg;rw[aU,<- Qv,<- Qw]
theorem bP:(h.new o).ob h.nx=aA o:=by simp only[AH.new,if_pos]
theorem dY(hn:n≠h.nx):(h.new o).ob n=h.ob n:=by simp only[AH.new,if_neg hn]
theorem bS:(h.put n o).ob n=aA o:=by simp only[AH.put,if_pos]
theorem bN{k:Nat}(hn:k≠n):(h.put n o).ob k=h.ob k:=by simp only[AH.put,if_neg hn]
theorem xF{i:Nat}(e:h.ob n=aA (.lst b xs)):kU n i h=aA xs[i]?:=by simp only[kU,e]
theorem Xq{i:Nat}(e:h.ob n=aA (.lst b xs))(hv:xs[i]?=aA v):lD (kU n) i h=aA (aA<|.tup [.int i,v]):=by simp only[lD,xF e,hv]
theorem Xp{i:Nat}(e:h.ob n=aA (.lst b xs))(hv:xs[i]?=aD):lD (kU n) i h=aA aD:=by simp only[lD,xF e,hv]
theorem A3{g:AV->aF->M aF}(I:Nat->aF->AH->Prop)(hn:xs.length<FU)(i0:I 0 σ h)(il:∀i σ h,I i σ h->h.ob n=aA (.lst bb xs))
  (turn:∀(i:Nat) x σ h,xs[i]?=aA x->I i σ h->We (g (.tup [.int i,x]) σ) h λσ1 h1=>Wt (body σ1) h1 (I<|i+1) R N (I<|i+1))
  (done:∀σ h,I xs.length σ h->N σ h):Wt (kT (lD<|kU n) g body FU 0 σ) h N R B C:=by
 exact zK I xs.length (λi σ h b a=>⟨_,Xq (il _ _ _ a) (eM b),turn i _ σ h (eM b) a⟩) (λσ h a=>⟨Xp (il _ _ _ a) (by simp),done σ h a⟩) FU 0 σ h (kM _) (by omega) i0
theorem A4{g:AV->aF->M aF}(I:Nat->aF->AH->Prop)(hn:xs.length<FU)(i0:I 0 σ h)
  (turn:∀(i:Nat) x σ h,xs[i]?=aA x->I i σ h->We (g (.tup [.int i,x]) σ) h λσ1 h1=>Wt (body σ1) h1 (I<|i+1) R N (I<|i+1))
  (done:∀σ h,I xs.length σ h->N σ h):Wt (kT (lD<|lM xs) g body FU 0 σ) h N R B C:=by
 exact zK I xs.length (λi σ h b a=>⟨_,by simp only[lD,lM,eM b],turn i _ σ h (eM b) a⟩) (λσ h a=>⟨by simp[lD,lM],done σ h a⟩) FU 0 σ h (kM _) (by omega) i0
theorem uF{g:AV->aF->M aF}(I:Nat->aF->AH->Prop)(hn:xs.length<FU)(i0:I 0 σ h)(il:∀i σ h,I i σ h->h.ob n=aA (.lst bb xs))
  (turn:∀(i:Nat) x σ h,xs[i]?=aA x->I i σ h->We (g x σ) h λσ1 h1=>Wt (body σ1) h1 (I<|i+1) R N (I<|i+1))
  (done:∀σ h,I xs.length σ h->N σ h):Wt (kT (kU n) g body FU 0 σ) h N R B C:=by
 exact zK I xs.length (λi σ h b a=>⟨_,by rw[xF (il _ _ _ a),eM b],turn i _ σ h (eM b) a⟩) (λσ h a=>⟨by rw[xF (il _ _ _ a)];simp,done σ h a⟩) FU 0 σ h (kM _) (by omega) i0
theorem Ib{lo:Int}{g:AV->aF->M aF}(I:Nat->aF->AH->Prop)(hn:n<FU)(i0:I 0 σ h)
  (turn:∀(i:Nat) σ h,i<n->I i σ h->We (g (.int<|lo+i) σ) h λσ1 h1=>Wt (body σ1) h1 (I<|i+1) R N (I<|i+1))
  (done:∀σ h,I n σ h->N σ h):Wt (kT (nL lo n) g body FU 0 σ) h N R B C:=by
 exact zK I n (λi σ h b a=>⟨_,by simp only[nL,if_pos b],turn i σ h b a⟩) (λσ h a=>⟨by simp[nL],done σ h a⟩) FU 0 σ h (kM _) (by omega) i0
theorem uh(h1:-4611686018427387904<=j)(h2:j<4611686018427387904):mC j=aB:=by simp only[mC,bT,decide_eq_true_eq];lia
end AM
namespace AM
variable {h:AH}
structure Kp(h h':AH):Prop where
 nx:h.nx<=h'.nx
 ob:∀n,n<h.nx->h'.ob n=h.ob n
theorem Kp.refl:Kp h h:=⟨aV _,λ_ _=>rfl⟩
theorem Kp.trans{a b c:AH}(x:Kp a b)(y:Kp b c):Kp a c:=⟨dG x.nx y.nx,λn hn=>(y.ob n<|bA hn x.nx).trans (x.ob n hn)⟩
theorem Kp.new{a b:AH}{o:bB}(x:Kp a b):Kp a (b.new o):=⟨Ec x.nx,λn hn=>(dY<|bQ<|bA hn x.nx).trans (x.ob n hn)⟩
theorem Kp.put{a b:AH}{o:bB}{k:Nat}(x:Kp a b)(hk:a.nx<=k):Kp a (b.put k o):=⟨x.nx,λn hn=>(bN<|bQ<|bA hn hk).trans (x.ob n hn)⟩
theorem A5{xs ys:Hr}{g:AV->aF->M aF}{body:aF->M Out}{N B C:aF->AH->Prop}{R:AV->AH->Prop}{σ:aF}(I:Nat->aF->AH->Prop)(hl:xs.length=ys.length)(hn:xs.length<FU)(i0:I 0 σ h)
  (turn:∀(i:Nat) x y σ h,xs[i]?=aA x->ys[i]?=aA y->I i σ h->We (g (.tup [x,y]) σ) h λσ1 h1=>Wt (body σ1) h1 (I<|i+1) R N (I<|i+1))
  (done:∀σ h,I xs.length σ h->N σ h):Wt (kT (kg (lM xs)<|lM ys) g body FU 0 σ) h N R B C:=by
 refine zK I xs.length (λi σ h d a=>?_) (λσ h a=>⟨by simp[kg,lM],done σ h a⟩) FU 0 σ h (kM _) (by omega) i0;have b:=eM d;have c:=eM (show i<ys.length by lia);exact⟨_,by simp only[kg,lM,b,c],turn i _ _ σ h b c a⟩
end AM
namespace AM
open PySem PySem.Spec PyProof.Rows L2
variable {B C N:aF->AH->Prop}{B1:Bool->AH->Prop}{F:Run}{L1:Hr->AH->Prop}{Q R V1:AV->AH->Prop}{a:Int}{as:Xx}{b bb:Bool}{c i j n:Nat}{d e o:Ex}{dp:Ye}{ds:List Df}{es:eG}{h h':AH}{it:Ir}{ks:List aP}{kvs:List (aP×AV)}{m:Str}{me:aF->M AV}{ns ws:Ht}{v x y z:AV}{xs:Hr}{Z:aF}
set_option genCtorIdx true in
inductive eA where
 |sum|less|times|share|rest|both|uo|odd|up|down|below|same
def eA.nm:eA->Str
 |.sum=>"sum" |.less=>"less" |.times=>"times" |.share=>"share" |.rest=>"rest" |.both=>"both" |.uo=>"some" |.odd=>"odd" |.up=>"up" |.down=>"down" |.below=>"below" |.same=>"same"
set_option genCtorIdx true in
inductive aM where
 |way (w:eA) (x y z:Int)|set (x v:Int)|move (x y:Int)|load (x y s:Int)|store (x y s:Int)|fU (x t:Int)|go (t:Int)|fault (v:Int)
def aM.av:aM->AV
 |.way w x y z=>.tup [.str w.nm,.int x,.int y,.int z] | .set x v=>.tup [.str "set",.int x,.int v] | .move x y=>.tup [.str "move",.int x,.int y]
 |.load x y s=>.tup [.str "load",.int x,.int y,.int s] | .store x y s=>.tup [.str "store",.int x,.int y,.int s] | .fU x t=>.tup [.str "jump",.int x,.int t]
 |.go t=>.tup [.str "go",.int t] | .fault v=>.tup [.str "fault",.int v]
def aM.nw:aM->Nat
 |.way _ _ _ _=>2 | .set _ _=>0 | .move _ _=>1 | .load _ _ _=>1 | .store _ _ _=>2 | .fU _ _=>1 | .go _=>0 | .fault _=>0
def aM.pl(ws:Ht):aM->AV
 |.load _ _ s=>.int (cell ws 0+s) | .store _ _ s=>.int (cell ws 1+s)
 |_=>.aG
def aM.gs(a:Int)(ws:Ht):aM->Int
 |.go t=>t
 |.fU _ t=>if cell ws 0≠0 then t else a+1
 |_=>a+1
theorem si(h:ws.length=1):∃a,ws=[a]:=by
 match ws,h with
 |[a],_=>exact⟨a,rfl⟩
theorem sj(h:ws.length=2):∃a b,ws=[a,b]:=by
 match ws,h with
 |[a,b],_=>exact⟨a,b,rfl⟩
def eA.iQ:eA->Int
 |.times=>1 | .share=>2 | .rest=>2
 |_=>0
def aM.dB:aM->Ht
 |.way _ _ y z=>[y,z] | .move _ y=>[y] | .load _ y _=>[y] | .store x y _=>[x,y] | .fU x _=>[x]
 |_=>[]
def aM.fl:aM->AV
 |.way _ x _ _=>.int x | .set x _=>.int x | .move x _=>.int x | .load x _ _=>.int x
 |_=>.aG
def aM.iQ:aM->Int
 |.way w _ _ _=>w.iQ | .set _ _=>0 | .move _ _=>0 | .load _ _ _=>3 | .store _ _ _=>3
 |_=>4
def Pl(st:Bool):Nat->AV->Prop
 |0,v=>v = .aG\/(∃i,v = .int i)\/∃s,st=aB/\v = .str s
 |n+1,v=>(v = .aG\/(∃i,v = .int i)\/∃s,st=aB/\v = .str s)\/∃xs,v = .tup xs/\xs.length<=1000/\∀x∈xs,Pl st n x
def sW(b:Int):Int:=if 64<b then 64 else b
def eA.wk(a b:Int):eA->Int
 |.sum=>(a+b)%18446744073709551616 | .less=>(a-b)%18446744073709551616 | .times=>a*b%18446744073709551616
 |.share=>a / b | .rest=>a%b
 |.both=>rQ a b | .uo=>km a b | .odd=>ko a b
 |.up=>a*2 ^ (sW b).toNat%18446744073709551616 | .down=>a / 2 ^ (sW b).toNat
 |.below=>if a<b then 1 else 0 | .same=>if a=b then 1 else 0
def eA.sr:eA->Bool
 |.share=>aB | .rest=>aB
 |_=>aH
def aM.DR(ws:Ht):aM->Hq
 |.load _ _ s=>aA (cell ws 0+s) | .store _ _ s=>aA (cell ws 1+s)
 |_=>aD
def aM.ft(ws:Ht)(room:Int):aM->Option AV
 |.fault v=>aA (.tup [.str "told",.int v])
 |.way w _ _ _=>cond w.sr (if cell ws 1=0 then aA (.tup [.str "nought",.int (cell ws 0)]) else aD) aD
 |.load _ _ s=>if 0<=cell ws 0+s/\cell ws 0+s<room then aD else aA (.tup [.str "place",.int (cell ws 0+s)])
 |.store _ _ s=>if 0<=cell ws 1+s/\cell ws 1+s<room then aD else aA (.tup [.str "place",.int (cell ws 1+s)])
 |_=>aD
def aM.br(ws:Ht)(held:AV):aM->AV
 |.way w _ _ _=>.int (w.wk (cell ws 0)<|cell ws 1) | .set _ v=>.int v | .move _ _=>.int (cell ws 0) | .store _ _ _=>.int (cell ws 0) | .load _ _ _=>held
 |_=>.aG
def aM.gi(a:Int)(ws:Ht)(room:Int)(held:AV)(r:aM):AV:=match r.ft ws room with
 |some f=>.tup [.int a,.aG,.aG,.aG,.aG,f]
 |none=>.tup [.int a,r.fl,r.pl ws,r.br ws held,.int (r.gs a ws),.aG]
def kY(ws:Ht):Prop:=∀w∈ws,0<=w/\w<18446744073709551616
theorem aOx{b:Int}(h:¬b<64):a*2 ^ (sW b).toNat%18446744073709551616=0:=by
 have e:sW b=64:=by unfold sW;split<;>lia
 rw[e];exact Int.mul_emod_left ..
theorem YH{b:Int}(h:¬b<64)(a0:0<=a)(a1:a<18446744073709551616):a / 2 ^ (sW b).toNat=0:=by
 have e:sW b=64:=by unfold sW;split<;>lia
 rw[e];exact Int.ediv_eq_zero_of_lt a0 a1
theorem CO{b:Int}(h:b<64):sW b=b:=by unfold sW;split<;>lia
theorem EA{b:Int}(a0:0<=a)(a1:a<18446744073709551616)(b0:0<=b)(b1:b<=64):xI a b=aB:=by simp only[xI,bT,decide_eq_true_eq];exact⟨⟨b0,by lia⟩,by lia⟩
theorem YD{b:Int}(b0:0<b)(b1:b<18446744073709551616):pV b=aB:=by
 have e:(18446744073709551616:Int)<2 ^ 1000:=by decide
 simp only[pV,bT,decide_eq_true_eq];exact⟨b0,vP b1 e⟩
section
variable {α:Type}{m:M α}{Q:α->AH->Prop}
theorem IZ(w:Wp m h Q):We (oB m) h Q:=by obtain⟨a,h1,e,q⟩:=w.ex;exact We.eq (show oB m h = .ok a h1 by unfold oB;rw[e]) q
theorem cf{imp:Yj}{t:CT}(w:We (cR F it Z) h λi h1=>We (eH i (pP t) (λ_=>M.ret aB) (aL F e) FU 0 []<|mK imp Z) h1 λys h2=>V1 (.ref h2.nx) (h2.new<|.lst aB ys)):We (aL F (.wN imp t it e) Z) h V1:=
 bM (w.mono λ_ _ z=>bM (z.mono λ_ _ y=>y))
theorem aRp{imp:Yj}{t:CT}{c:Ex}(w:We (cR F it Z) h λi h1=>We (eH i (pP t) (dU F c) (aL F e) FU 0 []<|mK imp Z) h1 λys h2=>V1 (.ref h2.nx) (h2.new<|.lst aB ys)):We (aL F (.wO imp t it c e) Z) h V1:=
 bM (w.mono λ_ _ z=>bM (z.mono λ_ _ y=>y))
theorem vc{Q:aF->AH->Prop}(q:Q (Z.set i<|aA v) h):We (pP (.nm i) v Z) h Q:=q
theorem aPj{a b:AV}{Q:aF->AH->Prop}(q:Q ((Z.set i<|aA a).set j (aA b)) h):We (pP (.tup [i,j]) (.tup [a,b]) Z) h Q:=q
theorem wQ{it:gC}{g:AV->aF->M aF}{mt:aF->M Bool}{me:aF->M AV}(I:Nat->Hr->aF->AH->Prop)(n:Nat)
  (turn:∀i ys σ h,i<n->I i ys σ h->∃v,it i h=aA (aA v)/\Wp (g v σ) h λσ1 h1=>Wp (mt σ1) h1 λb h2=>if b=aB then We (me σ1) h2 λy h3=>ys.length<sizeLine/\I (i+1) (ys++[y]) σ1 h3 else I (i+1) ys σ1 h2)
  (done:∀ys σ h,I n ys σ h->it n h=aA aD/\L1 ys h):∀(f i:Nat) (ys:Hr) (σ:aF) (h:AH),i<=n->n-i<f->I i ys σ h->We (eH it g mt me f i ys σ) h L1
 |0,i,ys,σ,h,_,hf,_=>absurd hf (Ed _)
 |f+1,i,ys,σ,h,m,hf,d=>by
  by_cases a:i<n
  .obtain⟨v,e,w⟩:=turn i ys σ h a d;have c:eH it g mt me (f+1) i ys σ h=((oB<|g v σ).bind λσ1=>(oB<|mt σ1).bind λb=>if b=aB then(me σ1).bind λy=>M.guard (ys.length<sizeLine) (eH it g mt me f (i+1) (ys++[y]) σ1) else eH it g mt me f (i+1) ys σ1) h:=by simp only[eH,e]
   unfold We;rw[c];refine bM<|IZ<|w.mono λσ1 h1 l=>bM (IZ<|l.mono λb h2 j=>?_);cases b with
   |true=>exact bM<|j.mono λy h3 k=>jy k.1 (wQ I n turn done f (i+1) _ σ1 h3 a (by omega) k.2)
   |false=>exact wQ I n turn done f (i+1) ys σ1 h2 a (by omega) j
  .have:i=n:=by lia
   subst this;obtain⟨e,q⟩:=done ys σ h d;unfold We;have c:eH it g mt me (f+1) i ys σ h = .ok ys h:=by simp only[eH,e]
   rw[c];exact q
variable {g:AV->aF->M aF}{mt:aF->M Bool}
theorem uy{A B:AH->Prop}(q:A h):Wp (M.ret aB) h λb h2=>if b=aB then A h2 else B h2:=by
 show if aB=aB then A h else B h
 exact q
theorem Ws{lo:Int}(I:Nat->Hr->aF->AH->Prop)(hn:n<FU)(i0:I 0 [] σ h)
  (turn:∀(i:Nat) ys σ h,i<n->I i ys σ h->Wp (g (.int<|lo+i) σ) h λσ1 h1=>We (me σ1) h1 λy h3=>ys.length<sizeLine/\I (i+1) (ys++[y]) σ1 h3)
  (done:∀ys σ h,I n ys σ h->L1 ys h):We (eH (nL lo n) g (λ_=>M.ret aB) me FU 0 [] σ) h L1:=by
 exact wQ I n (λi ys σ h b a=>⟨_,by simp only[nL,if_pos b],(turn i ys σ h b a).mono λσ1 h1 w=>uy w⟩) (λys σ h a=>⟨by simp[nL],done ys σ h a⟩) FU 0 [] σ h (kM _) (by omega) i0
theorem XA(I:Nat->Hr->aF->AH->Prop)(hn:xs.length<FU)(i0:I 0 [] σ h)
  (turn:∀(i:Nat) x ys σ h,xs[i]?=aA x->I i ys σ h->Wp (g x σ) h λσ1 h1=>We (me σ1) h1 λy h3=>ys.length<sizeLine/\I (i+1) (ys++[y]) σ1 h3)
  (done:∀ys σ h,I xs.length ys σ h->L1 ys h):We (eH (lM xs) g (λ_=>M.ret aB) me FU 0 [] σ) h L1:=by
 exact wQ I xs.length (λi ys σ h b a=>⟨xs[i],by simp only[lM,eM b],(turn i _ ys σ h (eM b) a).mono λσ1 h1 w=>uy w⟩) (λys σ h a=>⟨by simp[lM],done ys σ h a⟩) FU 0 [] σ h (kM _) (by omega) i0
theorem Ha(I:Nat->Hr->aF->AH->Prop)(hn:xs.length<FU)(i0:I 0 [] σ h)(il:∀i ys σ h,I i ys σ h->h.ob n=aA (.lst bb xs))
  (turn:∀(i:Nat) x ys σ h,xs[i]?=aA x->I i ys σ h->Wp (g x σ) h λσ1 h1=>We (me σ1) h1 λy h3=>ys.length<sizeLine/\I (i+1) (ys++[y]) σ1 h3)
  (done:∀ys σ h,I xs.length ys σ h->L1 ys h):We (eH (kU n) g (λ_=>M.ret aB) me FU 0 [] σ) h L1:=by
 exact wQ I xs.length (λi ys σ h b a=>⟨_,by rw[xF (il _ _ _ _ a),eM b],(turn i _ ys σ h (eM b) a).mono λσ1 h1 w=>uy w⟩) (λys σ h a=>⟨by rw[xF (il _ _ _ _ a)];simp,done ys σ h a⟩) FU 0 [] σ h (kM _) (by omega) i0
theorem WY(I:Nat->Hr->aF->AH->Prop)(hn:xs.length<FU)(i0:I 0 [] σ h)(il:∀i ys σ h,I i ys σ h->h.ob n=aA (.lst bb xs))
  (turn:∀(i:Nat) x ys σ h,xs[i]?=aA x->I i ys σ h->Wp (g (.tup [.int i,x]) σ) h λσ1 h1=>We (me σ1) h1 λy h3=>ys.length<sizeLine/\I (i+1) (ys++[y]) σ1 h3)
  (done:∀ys σ h,I xs.length ys σ h->L1 ys h):We (eH (lD<|kU n) g (λ_=>M.ret aB) me FU 0 [] σ) h L1:=by
 exact wQ I xs.length (λi ys σ h b a=>⟨_,Xq (il _ _ _ _ a) (eM b),(turn i _ ys σ h (eM b) a).mono λσ1 h1 w=>uy w⟩) (λys σ h a=>⟨Xp (il _ _ _ _ a) (by simp),done ys σ h a⟩) FU 0 [] σ h (kM _) (by omega) i0
theorem aSo{is:Yh}(w:We (dO F es Z) h λvs h1=>vs.length=is.length/\N (Bp is vs Z) h1):Wt (eJ F (.par is es) Z) h N R B C:=
 bM (w.mono λvs h1 z=>jy z.1 z.2)
end
theorem Jq(h:i<n):jS n (i:Int)=aA i:=by unfold jS;rw[if_pos (by lia),if_pos (by lia)];simp
theorem JA{ys:Hr}(hz:xs.length+ys.length<=sizeLine)(q:V1 (.tup<|xs++ys) h):We (Op.g .add (.tup xs)<|.tup ys) h V1:=jy hz q
theorem JJ{lo hi:Hq}(hz:¬(HT.cC xs.length 0 lo=0/\HT.cC xs.length xs.length hi=xs.length))(q:V1 (.tup<|iP xs lo hi) h):We (qL (.tup xs) lo hi) h V1:=by unfold We qL;simp only[if_neg hz];exact q
theorem JP{cs:Yh}{f:Str}(w:We (aL F o Z) h λx h1=>We (uI cs f x) h1 V1):We (aL F (.lE cs f o) Z) h V1:=bM w
theorem JC{cs:Yh}{f:Str}{fs:Yf}(e:h.ob n=aA (.ins c fs))(hc:cs.contains c=aB)(l:fs.lookup f=aA v)(q:V1 v h):We (uI cs f<|.ref n) h V1:=by unfold We uI;simp only[e,if_pos hc,l];exact q
theorem aQi{dp:Nat->Option (Hr->M AV)}{r:M Hr}{fs:Yf}{g:Hr->M AV}(e2:h.ob n=aA (.ins c fs))(e3:dp c=aA g)(e4:fs.lookup m=aD)(q:We r h λxs h2=>We (g<|.ref n::xs) h2 V1):We (sy dp m r<|.ref n) h V1:=by unfold We sy;simp only[e2,e3,e4];exact bM q
theorem JR(w:We (aL F o Z) h λx h1=>∃(n c:Nat) (fs:Yf) (i:Nat),x = .ref n/\h1.ob n=aA (.ins c fs)/\dp.lookup c=aA i/\fs.lookup m=aD/\We (dO F es Z) h1 λxs h2=>We (F i<|.ref n::xs) h2 V1) :
  We (aL F (.rD m dp o es) Z) h V1:=bM (w.mono λx h1 ⟨n,c,fs,i,a,b,d,e,q⟩=>by
 subst a;exact aQi b (by rw[d];rfl) e q)
theorem aRu{dv:Hr}(w:We (dO F es Z) h λxs h1=>We (F i<|.ref h1.nx::(xs++dv)) (h1.new<|.ins c []) λv h2=>v = .aG/\V1 (.ref h1.nx) h2):We (aL F (.make c i dv es) Z) h V1:=
 bM (w.mono λxs h1 z=>by exact bM (z.mono λv h2 ⟨e,q⟩=>by subst e;exact q))
theorem aRn(w:We (dO F es Z) h λxs h1=>We (F i xs) h1 V1):We (aL F (.gf i es) Z) h V1:=bM w
theorem aSv{cs:Yh}{f:Str}(w:We (aL F (.lE cs f o) Z) h λx h1=>We (dH x) h1 B1):We (dU F (.lE cs f o) Z) h B1:=bM w
theorem aSx(w:We (aL F (.rD m dp o es) Z) h λx h1=>We (dH x) h1 B1):We (dU F (.rD m dp o es) Z) h B1:=bM w
theorem aSm{cs:Yh}{f:Str}(w:We (aL F e Z) h λv h1=>We (aL F o Z) h1 λx h2=>∃(n c:Nat) (fs:Yf),x = .ref n/\h2.ob n=aA (.ins c fs)/\cs.contains c=aB/\fs.length<1000/\N Z (h2.put n<|.ins c<|gJ f v fs)) :
  Wt (eJ F (.gq cs f o e) Z) h N R B C:=bM (w.mono λv h1 z=>bM (z.mono λx h2 ⟨n,c,fs,a,b,d,g,q⟩=>by
 subst a;have i:ui cs f (.ref n) v h2=aA (h2.put n<|.ins c<|gJ f v fs):=by simp only[ui,b];rw[if_pos ⟨d,g⟩]
 unfold We;simp only[i];exact q))
theorem aSl{cs:Yh}{f:Str}(w:We (aL F o Z) h λx h1=>∃(n c:Nat) (fs:Yf) (i:Int),x = .ref n/\h1.ob n=aA (.ins c fs)/\cs.contains c=aB/\fs.lookup f=aA (.int i) /\
  We (aL F e Z) h1 λy h2=>∃(j:Int) (fs2:Yf),y = .int j/\h2.ob n=aA (.ins c fs2)/\fs2.length<1000/\N Z (h2.put n<|.ins c<|gJ f (.int<|i+j) fs2)) :
  Wt (eJ F (.qi cs f o e) Z) h N R B C:=bM (w.mono λx h1 ⟨n,c,fs,i,a,b,d,g,z⟩=>by
 subst a;unfold We;simp only[b,if_pos d,g];refine bM<|z.mono λy h2 k=>?_;obtain⟨j,fs2,l,m,p,q⟩:=k;subst l;unfold We;simp only[Fw,m];rw[if_pos ⟨trivial,p⟩];exact q)
theorem aSi{sub:Bool}(l:Z[i]?=aA (aA<|.int a))(w:We (aL F e Z) h λy h1=>∃j:Int,y = .int j/\N (Z.set i<|aA<|.int<|if sub=aB then a-j else a+j) h1):Wt (eJ F (.aug sub i e) Z) h N R B C:=by show We (pf sub i (aL F e Z) Z) h _;unfold pf;simp only[l];exact bM (w.mono λy h1 ⟨j,b,q⟩=>by subst b;exact q)
theorem aRq{f:Dm}(w:We (aL F o Z) h λx h1=>(gE h1 x).isSome=aB/\We (dO F es Z) h1 λxs h2=>We (f.g x xs) h2 V1):We (aL F (.dm f o es) Z) h V1:=bM (w.mono λx h1 ⟨a,b⟩=>by unfold We;simp only[if_pos a];exact bM b)
theorem tZ(e:h.ob n=aA (.aN kvs)):gE h (.ref n)=aA kvs:=by simp only[gE,e]
theorem JB{k:aP}(e:h.ob n=aA (.aN kvs))(hk:eZ y=aA k)(q:V1 ((bL kvs k).getD z) h):We (Dm.g .get (.ref n) [y,z]) h V1:=by show We (zL (.ref n) [y,z]) h V1;unfold We zL;simp only[tZ e,hk];exact q
theorem Ch{k:aP}(e:h.ob n=aA (.aN kvs))(hk:eZ y=aA k)(q:V1 ((bL kvs k).getD .aG) h):We (Dm.g .get (.ref n) [y]) h V1:=by show We (zL (.ref n) [y]) h V1;unfold We zL;simp only[tZ e,hk];exact q
theorem Pe{k:aP}(e:h.ob n=aA (.aN kvs))(hk:eZ y=aA k)(l:bL kvs k=aA v)(q:V1 v (h.put n<|.aN<|uA kvs k)):We (Dm.g .pop (.ref n) [y]) h V1:=by show We (zM (.ref n) [y]) h V1;unfold We zM;simp only[tZ e,hk,l];exact q
theorem aPx{k:aP}(e:h.ob n=aA (.aN kvs))(hk:eZ y=aA k)(hz:kvs.length<sizeLine)(q1:∀v,bL kvs k=aA v->V1 v h)(q2:bL kvs k=aD->V1 z (h.put n<|.aN<|gT kvs k z)):We (Dm.g .setd (.ref n) [y,z]) h V1:=by
 show We (qs (.ref n) [y,z]) h V1;unfold We qs;simp only[tZ e,hk,if_pos hz];cases l:bL kvs k with
 |none=>exact q2 l|some v=>exact q1 v l
theorem jx{k:aP}(e:h.ob n=aA (.aN kvs))(hk:eZ y=aA k)(l:bL kvs k=aA v)(q:V1 v h):We (Op.g .ix (.ref n) y) h V1:=by show We (uK (.ref n) y) h V1;unfold We uK;simp only[tZ e,hk,jP,l];exact q
theorem Cj{k:aP}(e:h.ob n=aA (.dF kvs))(hk:eZ y=aA k)(l:bL kvs k=aA v)(q:V1 v h):We (Op.g .ix (.ref n) y) h V1:=by show We (uK (.ref n) y) h V1;unfold We uK;simp only[gE,e];unfold zi;simp only[yY,e,hk,jP,l];exact q
theorem vK{k:aP}(e:h.ob n=aA (.aN kvs))(hk:eZ y=aA k)(q:V1 (.bl (bL kvs k).isSome) h):We (Cp.g .gw y<|.ref n) h V1:=by show We (nB aH y<|.ref n) h V1;unfold We nB;simp only[tZ e,hk];exact q
theorem Cd{k k':aP}:bL (gT kvs k v) k'=if k=k' then aA v else bL kvs k':=by
 induction kvs with
 |nil=>
  by_cases e:k=k'
  .simp[bL,gT]
  .simp[bL,gT]
 |cons p r h=>
  obtain⟨b,v0⟩:=p;by_cases f:b=k
  .subst f;have g:gT ((b,v0)::r) b v=(b,v)::r.map (λa=>if a.1=b then(a.1,v) else a):=by simp[gT]
   rw[g];by_cases e:b=k'
   .subst e;simp[bL]
   .have:bL (r.map λa=>if a.1=b then(a.1,v) else a) k'=bL r k':=by
     clear h g;induction r with
     |nil=>rfl|cons q s d=>
      obtain⟨k2,v2⟩:=q;by_cases i:k2=b
      .subst i;simp only[iH,if_true];have l1:bL ((k2,v)::s.map λa=>if a.1=k2 then(a.1,v) else a) k'=bL (s.map λa=>if a.1=k2 then(a.1,v) else a) k':=by simp[bL,e]
       have l2:bL ((k2,v2)::s) k'=bL s k':=by simp[bL,e]
       rw[l1,l2,d]
      .simp only[iH,i,if_false];by_cases c:k2=k'
       .simp[bL,c]
       .have l1:bL ((k2,v2)::s.map λa=>if a.1=b then(a.1,v) else a) k'=bL (s.map λa=>if a.1=b then(a.1,v) else a) k':=by simp[bL,c]
        have l2:bL ((k2,v2)::s) k'=bL s k':=by simp[bL,c]
        rw[l1,l2,d]
    have l1:bL ((b,v)::r.map λa=>if a.1=b then(a.1,v) else a) k'=bL (r.map λa=>if a.1=b then(a.1,v) else a) k':=by simp[bL,e]
    have l2:bL ((b,v0)::r) k'=bL r k':=by simp[bL,e]
    rw[l1,this,if_neg e,l2]
  .have g:gT ((b,v0)::r) k v=(b,v0)::gT r k v:=by unfold gT;simp only[rV,f,decide_false,Bool.false_or];split<;>simp[f]
   rw[g];by_cases c:b=k'
   .have ne:k≠k':=λz=>f (c.trans z.symm);simp[bL,c,ne]
   .have l1:bL ((b,v0)::gT r k v) k'=bL (gT r k v) k':=by simp[bL,c]
    have l2:bL ((b,v0)::r) k'=bL r k':=by simp[bL,c]
    rw[l1,l2,h]
theorem Bb{k:aP}:(gT kvs k v).length<=kvs.length+1:=by
 unfold gT;split
 .rw[aU];lia
 .rw[dQ];exact aV _
theorem JH{k:Int}(e:h.ob n=aA (.lst aB xs))(h0:0<=k)(hz:xs.length*k.toNat<=sizeLine)(h1:k<2 ^ 63)(q:V1 (.ref h.nx) (h.new<|.lst aB (eN k.toNat xs).flatten)):We (Op.g .mul (.ref n)<|.int k) h V1:=by show We (qw (.ref n)<|.int k) h V1;unfold We qw;simp only[e,if_pos (show 0<=k/\xs.length*k.toNat<=sizeLine/\k<2 ^ 63 from⟨h0,hz,h1⟩)];exact q
theorem aSa(w:We (aL F o Z) h λx h1=>We (zS x) h1 V1):We (aL F (.tw o) Z) h V1:=bM w
theorem aQr(e:h.ob n=aA (.lst aB<|xs++[y]))(q:V1 y (h.put n<|.lst aB xs)):We (zS<|.ref n) h V1:=by
 unfold We zS;have a:(xs++[y])[(xs++[y]).length-1]?=aA y:=by simp
 have b:(xs++[y]).dropLast=xs:=by simp
 simp only[e,a,b];exact q
theorem aPy(e:uB x y=aD)(e2:sM h x y=aA b)(q:V1 (.bl b) h):We (Cp.g .eq x y) h V1:=by show We (zN x y) h V1;unfold We zN;simp only[e,e2];exact q
theorem JG(e:uB x y=aD)(e2:sM h x y=aA b)(q:V1 (.bl<|!b) h):We (Cp.g .ne x y) h V1:=by show We (zR x y) h V1;unfold We zR;simp only[e,e2];exact q
theorem Hn{m:Nat}{b1 b2:Bool}(e1:h.ob n=aA (.lst b1 xs))(e2:h.ob m=aA (.lst b2 [])):sM h (.ref n) (.ref m)=aA (decide<|xs=[]):=by simp only[sM,uq,e1,e2];cases xs<;>rfl
theorem Kp.get(g:Kp h h'){o:Option bB}(hn:n<h.nx)(e:h.ob n=o):h'.ob n=o:=(g.ob n hn).trans e
theorem aWf{o:bB}:(h.put n o).nx=h.nx:=rfl
theorem aWe{o:bB}:(h.new o).nx=h.nx+1:=rfl
theorem WZ{g:AV->aF->M aF}{mt:aF->M Bool}(I:Nat->Hr->aF->AH->Prop)(hn:xs.length<FU)(i0:I 0 [] σ h)(il:∀i ys σ h,I i ys σ h->h.ob n=aA (.lst bb xs))
  (turn:∀(i:Nat) x ys σ h,xs[i]?=aA x->I i ys σ h->Wp (g x σ) h λσ1 h1=>Wp (mt σ1) h1 λb h2=>if b=aB then We (me σ1) h2 λy h3=>ys.length<sizeLine/\I (i+1) (ys++[y]) σ1 h3 else I (i+1) ys σ1 h2)
  (done:∀ys σ h,I xs.length ys σ h->L1 ys h):We (eH (kU n) g mt me FU 0 [] σ) h L1:=by
 exact wQ I xs.length (λi ys σ h c a=>⟨_,by rw[xF (il _ _ _ _ a),eM c],turn i _ ys σ h (eM c) a⟩) (λys σ h a=>⟨by rw[xF (il _ _ _ _ a)];simp,done ys σ h a⟩) FU 0 [] σ h (kM _) (by omega) i0
theorem kG:(1000:Nat)<sizeLine:=by decide
theorem lH{α:Type}{f:α->AV}{ws:List α}(h:(ws.map f)[i]?=aA x):∃w,ws[i]?=aA w/\x=f w:=by rw[fO]at h;obtain⟨w,a,b⟩:=Option.map_eq_some_iff.mp h;exact⟨w,a,b.symm⟩
theorem XQ:iP xs aD (aA (n:Int))=xs.take n:=by
 unfold iP;rw[HT.Np,HT.jf,KZ,Nat.sub_zero];rcases Ro n xs.length with h|h
 .rw[vp h]
 .rw[Rr h,pH,Ri h]
theorem Wy:iP xs (aA (n:Int)) aD=xs.drop n:=by
 unfold iP;rw[HT.Np,HT.jf];rcases Ro n xs.length with h|h
 .rw[vp h,Ri (by rw[vm];exact aV _)]
 .rw[Rr h,List.drop_eq_nil_of_le h,Ee];rfl
theorem PC(h0:0<n)(h1:n<=xs.length):cN xs (-(n:Int))=xs[xs.length-n]?:=by
 unfold cN jS;rw[if_neg (by lia)];first
  |rw[if_pos (by lia)]|skip
 have:(-n+(xs.length:Int)).toNat=xs.length-n:=by lia
 simp[this]
theorem Cv{c:Ex}{b:aR}(w:Wt (vN (dU F c) (jR F b) FU Z) h N R B C):Wt (eJ F (.Cm c b) Z) h N R B C:=w
theorem vd{c:aF->M Bool}{body:aF->M Out}(I:Nat->aF->AH->Prop)(n:Nat)(hb:∀i Z h,I i Z h->i<=n)
  (turn:∀i Z h,I i Z h->We (c Z) h λb h1=>if b=aB then Wt (body Z) h1 (I<|i+1) R N (I<|i+1) else N Z h1):∀(f i:Nat) (Z:aF) (h:AH),n-i<f->I i Z h->Wt (vN c body f Z) h N R B C
 |0,i,Z,h,d,_=>absurd d (Ed _)
 |f+1,i,Z,h,d,j=>by
  have e:=vd I n hb turn f;refine bM<|(turn i Z h j).mono λb h1 w=>?_;cases b with
  |false=>exact w|true=>
   refine bM<|We.mono w λo g z=>?_;cases o with
   |nx a=>have:=hb _ _ _ z;exact e (i+1) a g (by omega) z
   |cnt a=>have:=hb _ _ _ z;exact e (i+1) a g (by omega) z
   |brk a=>exact z|ret v=>exact z
theorem Xi{k:aP}(e:ks[i]?=aA k):mH ks i h=aA (aA<|sQ k):=by simp only[mH,e]
theorem Xh:mH ks ks.length h=aA aD:=by simp[mH]
theorem Wq{g:AV->aF->M aF}{mt:aF->M Bool}(I:Nat->Hr->aF->AH->Prop)(hn:ks.length<FU)(i0:I 0 [] σ h)
  (turn:∀(i:Nat) k ys σ h,ks[i]?=aA k->I i ys σ h->Wp (g (sQ k) σ) h λσ1 h1=>Wp (mt σ1) h1 λb h2=>if b=aB then We (me σ1) h2 λy h3=>ys.length<sizeLine/\I (i+1) (ys++[y]) σ1 h3 else I (i+1) ys σ1 h2)
  (done:∀ys σ h,I ks.length ys σ h->L1 ys h):We (eH (mH ks) g mt me FU 0 [] σ) h L1:=by
 exact wQ I ks.length (λi ys σ h c a=>⟨_,Xi (eM c),turn i _ ys σ h (eM c) a⟩) (λys σ h a=>⟨Xh,done ys σ h a⟩) FU 0 [] σ h (kM _) (by omega) i0
theorem WX{g:AV->aF->M aF}(I:Nat->Hr->aF->AH->Prop)(hn:ks.length<FU)(i0:I 0 [] σ h)
  (turn:∀(i:Nat) k ys σ h,ks[i]?=aA k->I i ys σ h->Wp (g (sQ k) σ) h λσ1 h1=>We (me σ1) h1 λy h3=>ys.length<sizeLine/\I (i+1) (ys++[y]) σ1 h3)
  (done:∀ys σ h,I ks.length ys σ h->L1 ys h):We (eH (mH ks) g (λ_=>M.ret aB) me FU 0 [] σ) h L1:=
 Wq I hn i0 (λi k ys σ h e a=>(turn i k ys σ h e a).mono λσ1 h1 w=>uy w) done
theorem IC{L:bB}(ho:h.ob n=aA (.aN kvs))(hn:n<h.nx):((h.put n<|.dF kvs).new L).put n (.aN kvs)=h.new L:=by
 unfold AH.put AH.new;congr 1
 funext m
 dsimp only;by_cases e:m=n
 .subst e;rw[if_pos rfl,if_neg (bQ hn),ho]
 .rw[if_neg e,if_neg e]
theorem Ol{α:Type}{m0:aF->M AV}{ma:aF->M α}{kv':List (aP×AV)}{a:α}(hd:m0 Z h = .ok (.ref n) h)(ho:h.ob n=aA (.aN kvs))(hm:ma Z h = .ok a h')(h2:h'.ob n=aA (.dF kv')):mD m0 ma Z h = .ok a (h'.put n<|.aN kv'):=by unfold mD;simp only[hd,ye,ho,hm,ux,h2]
theorem Ie(hd:aL F d Z h = .ok (.ref n) h)(ho:h.ob n=aA (.aN kvs)):cR F (.aN d) Z h = .ok (mH<|kvs.map (·.1)) (h.put n<|.dF kvs):=by show M.bind (aL F d Z) qj h=_;simp only[M.bind,hd,qj,ho]
theorem aSf{c:Ex}{imp:Yj}{t:CT}(hd:aL F d Z h = .ok (.ref n) h)(ho:h.ob n=aA (.aN kvs))(hn:n<h.nx)
  (w:Wp (eH (mH<|kvs.map (·.1)) (pP t) (dU F c) (aL F e) FU 0 []<|mK imp Z) (h.put n<|.dF kvs) λys h2=>h2=h.put n (.dF kvs)/\V1 (.ref h.nx) (h.new<|.lst aB ys)):We (aL F (.kI d<|.wO imp t (.aN d) c e) Z) h V1:=by
 obtain⟨ys,h2,a,rfl,q⟩:=w.ex;have b:aL F (.wO imp t (.aN d) c e) Z h = .ok (.ref h.nx) ((h.put n<|.dF kvs).new (.lst aB ys)):=by show M.bind (cR F (.aN d) Z) _ h=_;simp only[M.bind,Ie hd ho,a];rfl
 show We (mD (aL F d) (aL F<|.wO imp t (.aN d) c e) Z) h V1;unfold We;rw[(Ol (kv':=kvs) hd ho b (by simp[AH.new,AH.put,bQ hn])),IC ho hn];exact q
theorem aSe{imp:Yj}{t:CT}(hd:aL F d Z h = .ok (.ref n) h)(ho:h.ob n=aA (.aN kvs))(hn:n<h.nx)
  (w:Wp (eH (mH<|kvs.map (·.1)) (pP t) (λ_=>M.ret aB) (aL F e) FU 0 []<|mK imp Z) (h.put n<|.dF kvs) λys h2=>h2=h.put n (.dF kvs)/\V1 (.ref h.nx) (h.new<|.lst aB ys)):We (aL F (.kI d<|.wN imp t (.aN d) e) Z) h V1:=by
 obtain⟨ys,h2,a,rfl,q⟩:=w.ex;have b:aL F (.wN imp t (.aN d) e) Z h = .ok (.ref h.nx) ((h.put n<|.dF kvs).new (.lst aB ys)):=by show M.bind (cR F (.aN d) Z) _ h=_;simp only[M.bind,Ie hd ho,a];rfl
 show We (mD (aL F d) (aL F<|.wN imp t (.aN d) e) Z) h V1;unfold We;rw[(Ol (kv':=kvs) hd ho b (by simp[AH.new,AH.put,bQ hn])),IC ho hn];exact q
theorem A2{g:AV->aF->M aF}{body:aF->M Out}(I:Nat->aF->AH->Prop)(hn:ks.length<FU)(i0:I 0 σ h)
  (turn:∀(i:Nat) k σ h,ks[i]?=aA k->I i σ h->We (g (sQ k) σ) h λσ1 h1=>Wt (body σ1) h1 (I<|i+1) R N (I<|i+1))
  (done:∀σ h,I ks.length σ h->N σ h):Wt (kT (mH ks) g body FU 0 σ) h N R B C:=by
 exact zK I ks.length (λi σ h b a=>⟨_,Xi (eM b),turn i _ σ h (eM b) a⟩) (λσ h a=>⟨Xh,done σ h a⟩) FU 0 σ h (kM _) (by omega) i0
theorem aSq{t:Tg}{b:aR}(hd:aL F d Z h = .ok (.ref n) h)(ho:h.ob n=aA (.aN kvs))
  (w:Wt (kT (mH<|kvs.map (·.1)) (oW F t) (jR F b) FU 0 Z) (h.put n<|.dF kvs) (λZ' h'=>h'.ob n=aA (.dF kvs)/\N Z' (h'.put n<|.aN kvs)) (λ_ _=>False) (λ_ _=>False) (λ_ _=>False)):Wt (eJ F (.kI d<|.uE t (.aN d) b) Z) h N R B C:=by
 have a:=w;obtain⟨o,h',e,q⟩:=a.ex;cases o with
 |nx Z'=>
  obtain⟨c,f⟩:=(q:h'.ob n=aA (.dF kvs)/\N Z' (h'.put n<|.aN kvs));have g:eJ F (.uE t (.aN d) b) Z h = .ok (.nx Z') h':=by show M.bind (cR F (.aN d) Z) _ h=_;simp only[M.bind,Ie hd ho];exact e
  show Wt (mD (aL F d) (eJ F<|.uE t (.aN d) b) Z) h N R B C;unfold Wt We;rw[(Ol (kv':=kvs) hd ho g c)];exact f
 |_=>exact(q).elim
theorem gm{cs:Yh}{f:Str}{fs:Yf}(ho:aL F o Z h = .ok (.ref n) h)(e:h.ob n=aA (.ins c fs))(hc:cs.contains c=aB)(l:fs.lookup f=aA v):aL F (.lE cs f o) Z h = .ok v h:=by show M.bind (aL F o Z) (uI cs f) h=_;simp only[M.bind,ho,uI,e,hc,l,if_true]
theorem js(e:Z[i]?=aA (aA v)):aL F (.var i) Z h = .ok v h:=by show uL i Z h=_;simp only[uL,e]
theorem aPq{bs:ZE}(e:h.ob n=aA (.lst b<|bs.map AV.bl))(q:V1 (.bl<|bs.any id) h):We (Kc.any.g<|.ref n) h V1:=by unfold We Kc.g;simp only[e,Kc.gl,Vw];exact q
theorem aQu{r:Bool}(e:h.ob n=aA (.lst b<|ns.map AV.int))(hn:ns.length<64)(q:V1 (.ref h.nx) (h.new<|.lst aB<|(kX r ns).map AV.int)):We ((Kc.srt r).g (.ref n)) h V1:=by unfold We Kc.g;simp only[e,Kc.gl,zy,if_pos hn];exact q
theorem aLl(hi:ns.Pairwise (·<·)):kX aB ns=ns.reverse:=by refine(Nx (List.reverse_perm ns) ?_).symm;show KO (λa b=>a ≥ b) ns.reverse;rw[List.pairwise_reverse];exact hi.imp λh=>by lia
theorem aQj(e:h.ob n=aA (.lst b<|ns.map AV.int))(q:V1 (if ns.isEmpty then .aG else .int (sV ns)) h):We (Kc.Al.g<|.ref n) h V1:=by unfold We Kc.g;simp only[e,Kc.gl,zy];exact q
theorem aQs(e:h.ob n=aA (.lst b<|ns.map AV.int))(hn:ns.length<64)(q:V1 (.ref h.nx) (h.new<|.lst aB<|(kX aH ns).map AV.int)):We (Kc.sd.g<|.ref n) h V1:=by unfold We Kc.g;simp only[e,Kc.gl,zy,if_pos hn];exact q
def aE(b:Bool)(A B:Prop):Prop:=match b with
 |true=>A
 |false=>B
theorem aE.ite{A B:Prop}(w:aE b A B):if b=aB then A else B:=by
 cases b with
 |true=>exact w|false=>exact w
theorem aE.mp{A B A' B':Prop}(w:aE b A B)(f:A->A')(g:B->B'):aE b A' B':=by
 cases b with
 |true=>exact f w|false=>exact g w
theorem aE.t{A B:Prop}(e:b=aB)(q:A):aE b A B:=by rw[e];exact q
theorem aE.f{A B:Prop}(e:b=aH)(q:B):aE b A B:=by rw[e];exact q
theorem aE.dt{c:Prop} [Decidable c] {A B:Prop}(e:c)(q:A):aE (decide c) A B:=aE.t (decide_eq_true e) q
theorem aE.df{c:Prop} [Decidable c] {A B:Prop}(e:¬c)(q:B):aE (decide c) A B:=aE.f (decide_eq_false e) q
theorem aE.nt{c:Prop} [Decidable c] {A B:Prop}(e:c)(q:B):aE (!decide c) A B:=aE.f (by rw[decide_eq_true e];rfl) q
theorem aE.nf{c:Prop} [Decidable c] {A B:Prop}(e:¬c)(q:A):aE (!decide c) A B:=aE.t (by rw[decide_eq_false e];rfl) q
theorem aE.dc{c:Prop} [Decidable c] {A B:Prop}(t:c->A)(f:¬c->B):aE (decide c) A B:=by
 by_cases z:c
 .exact aE.dt z<|t z
 .exact aE.df z<|f z
theorem aE.nd{c:Prop} [Decidable c] {A B:Prop}(t:¬c->A)(f:c->B):aE (!decide c) A B:=by
 by_cases z:c
 .exact aE.nt z<|f z
 .exact aE.nf z<|t z
theorem aE.by{b:Bool}{A B:Prop}(t:b=aB->A)(f:b=aH->B):aE b A B:=by
 cases b with
 |true=>exact t rfl|false=>exact f rfl
@[irreducible] def WC {α:Type} (m:M α) (h:AH) (Q:α->AH->Prop):Prop:=We m h Q
theorem WC.of{α:Type}{m:M α}{Q:α->AH->Prop}(w:We m h Q):WC m h Q:=by unfold WC;exact w
theorem WC.we{α:Type}{m:M α}{Q:α->AH->Prop}(w:WC m h Q):We m h Q:=by unfold WC at w;exact w
@[irreducible] def WB (m:M Out) (h:AH) (N:aF->AH->Prop) (R:AV->AH->Prop) (B C:aF->AH->Prop):Prop:=Wt m h N R B C
theorem WB.of{m:M Out}(w:Wt m h N R B C):WB m h N R B C:=by unfold WB;exact w
theorem WB.wt{m:M Out}(w:WB m h N R B C):Wt m h N R B C:=by unfold WB at w;exact w
def aC{α:Type}(o:Option α)(K:α->Prop):Prop:=match o with
 |some v=>K v
 |none=>False
theorem aC.of{α:Type}{o:Option α}{K:α->Prop}{v:α}(e:o=aA v)(q:K v):aC o K:=by rw[e];exact q
def uM:AV->Hq
 |.int i=>aA i
 |_=>aD
def Pb(o:Op)(x y:AV)(h:AH)(Q:AV->AH->Prop):Prop:=match o with
 |.add=>match x,y with
  |.int i,.int j=>Q (.int<|i+j) h
  |x,y=>WC (Op.g .add x y) h Q
 |.sub=>match x,y with
  |.int i,.int j=>Q (.int<|i-j) h
  |x,y=>WC (Op.g .sub x y) h Q
 |.mod=>match x,y with
  |.int i,.int j=>aE (decide<|0<j) (Q (.int<|i%j) h) False
  |x,y=>WC (Op.g .mod x y) h Q
 |.fdiv=>match x,y with
  |.int i,.int j=>aE (pV j) (Q (.int<|i / j) h) False
  |x,y=>WC (Op.g .fdiv x y) h Q
 |.mul=>match x,y with
  |.int i,.int j=>aE (rE i j) (Q (.int<|i*j) h) False
  |x,y=>WC (Op.g .mul x y) h Q
 |.ix=>match x,y with
  |.tup xs,.int i=>aC (cN xs i) λv=>Q v h
  |x,y=>WC (Op.g .ix x y) h Q
 |o=>WC (o.g x y) h Q
def bo(o:Cp)(x y:AV)(h:AH)(Q:AV->AH->Prop):Prop:=match o with
 |.lt=>match x,y with
  |.int i,.int j=>Q (.bl<|decide<|i<j) h
  |x,y=>WC (Cp.g .lt x y) h Q
 |.le=>match x,y with
  |.int i,.int j=>Q (.bl<|decide<|i<=j) h
  |x,y=>WC (Cp.g .le x y) h Q
 |.gt=>match x,y with
  |.int i,.int j=>Q (.bl<|decide<|j<i) h
  |x,y=>WC (Cp.g .gt x y) h Q
 |.ge=>match x,y with
  |.int i,.int j=>Q (.bl<|decide<|j<=i) h
  |x,y=>WC (Cp.g .ge x y) h Q
 |.eq=>match x,y with
  |.int i,.int j=>Q (.bl<|decide<|i=j) h
  |.str i,.str j=>Q (.bl<|decide<|i=j) h
  |x,y=>WC (Cp.g .eq x y) h Q
 |.ne=>match x,y with
  |.int i,.int j=>Q (.bl<|!decide (i=j)) h
  |.str i,.str j=>Q (.bl<|!decide (i=j)) h
  |x,y=>WC (Cp.g .ne x y) h Q
 |.gz=>match y with
  |.aG=>Q (.bl<|nC x) h
  |y=>WC (Cp.g .gz x y) h Q
 |.isn=>match y with
  |.aG=>Q (.bl<|!nC x) h
  |y=>WC (Cp.g .isn x y) h Q
 |o=>WC (o.g x y) h Q
def vJ(x:AV)(h:AH)(Q:Bool->AH->Prop):Prop:=match x with
 |.bl b=>Q b h
 |.int i=>Q (i != 0) h
 |x=>WC (dH x) h Q
def Pa(f:Bi)(xs:Hr)(h:AH)(Q:AV->AH->Prop):Prop:=match f with
 |.len=>match xs with
  |[.tup ys]=>Q (.int ys.length) h
  |xs=>WC (Bi.g .len xs) h Q
 |.int=>match xs with
  |[.int i]=>Q (.int i) h
  |[.bl b]=>Q (.int<|if b then 1 else 0) h
  |xs=>WC (Bi.g .int xs) h Q
 |.min=>match xs with
  |[.int i,.int j]=>Q (.int<|if j<i then j else i) h
  |xs=>WC (Bi.g .min xs) h Q
 |.max=>match xs with
  |[.int i,.int j]=>Q (.int<|if j > i then j else i) h
  |xs=>WC (Bi.g .max xs) h Q
 |.tuple=>match xs with
  |[.tup ys]=>Q (.tup ys) h
  |xs=>WC (Bi.g .tuple xs) h Q
 |f=>WC (f.g xs) h Q
def IU(x:AV)(h:AH)(Q:AV->AH->Prop):Prop:=match x with
 |.int i=>Q (.int<|-i) h
 |x=>WC (qx x) h Q
def gW(x:AV)(h:AH)(K:Nat->Nat->Yf->Prop):Prop:=match x with
 |.ref n=>aC (h.ob n) λo=>match o with
  |.ins c fs=>K n c fs
  |_=>False
 |_=>False
mutual
noncomputable def wE(F:Run):Ex->aF->AH->(AV->AH->Prop)->Prop
 |.var i,Z,h,Q=>aC Z[i]? λo=>aC o λv=>Q v h
 |.val v,_,h,Q=>Q v h
 |.op o a b,Z,h,Q=>wE F a Z h λx h1=>wE F b Z h1 λy h2=>Pb o x y h2 Q
 |.cmp o a b,Z,h,Q=>wE F a Z h λx h1=>wE F b Z h1 λy h2=>bo o x y h2 Q
 |.neg a,Z,h,Q=>wE F a Z h λx h1=>IU x h1 Q
 |.not a,Z,h,Q=>wE F a Z h λx h1=>vJ x h1 λb h2=>Q (.bl<|!b) h2
 |.and a b,Z,h,Q=>wE F a Z h λx h1=>vJ x h1 λt h2=>aE t (wE F b Z h2 Q) (Q x h2)
 |.or a b,Z,h,Q=>wE F a Z h λx h1=>vJ x h1 λt h2=>aE t (Q x h2) (wE F b Z h2 Q)
 |.ite c a b,Z,h,Q=>wT F c Z h λt h1=>aE t (wE F a Z h1 Q) (wE F b Z h1 Q)
 |.tup es,Z,h,Q=>oE F es Z h λxs h1=>aE (Rm xs.length 64) (Q (.tup xs) h1) False
 |.lst es,Z,h,Q=>oE F es Z h λxs h1=>aE (Rm xs.length 64) (Q (.ref h1.nx)<|h1.new<|.lst aB xs) False
 |.call f es,Z,h,Q=>oE F es Z h λxs h1=>WC (F f xs) h1 Q
 |.bi f es,Z,h,Q=>oE F es Z h λxs h1=>Pa f xs h1 Q
 |.qX t a,Z,h,Q=>wE F a Z h λx h1=>aC (tX h1 x) λs=>Q (.bl<|s.sub t) h1
 |.chain o o' a b c,Z,h,Q=>wE F a Z h λx h1=>wE F b Z h1 λy h2=>bo o x y h2 λz h3=>aC (sG z) λt=>aE t (wE F c Z h3 λu h4=>bo o' y u h4 Q) (Q (.bl aH) h3)
 |.app o a,Z,h,Q=>wE F o Z h λx h1=>aE (zW h1 x) (wE F a Z h1 λy h2=>WC (uH x y) h2 Q) False
 |.lE cs f o,Z,h,Q=>wE F o Z h λx h1=>gW x h1 λ_ c fs=>aE (cs.contains c) (aC (fs.lookup f) λv=>Q v h1) False
 |.rD m dp o es,Z,h,Q=>wE F o Z h λx h1=>gW x h1 λn c fs=>aC (dp.lookup c) λi=>aE (fs.lookup m).isNone (oE F es Z h1 λxs h2=>WC (F i<|.ref n::xs) h2 Q) False
 |.make c i dv es,Z,h,Q=>oE F es Z h λxs h1=>WC (F i<|.ref h1.nx::(xs++dv)) (h1.new<|.ins c []) λv h2=>v = .aG/\Q (.ref h1.nx) h2
 |.gf i es,Z,h,Q=>oE F es Z h λxs h1=>WC (F i xs) h1 Q
 |.qc,_,h,Q=>Q (.ref h.nx) (h.new<|.aN [])
 |.dm f o es,Z,h,Q=>wE F o Z h λx h1=>aE (gE h1 x).isSome (oE F es Z h1 λxs h2=>WC (f.g x xs) h2 Q) False
 |.kc k a,Z,h,Q=>wE F a Z h λx h1=>WC (k.g x) h1 Q
 |e,Z,h,Q=>WC (aL F e Z) h Q
noncomputable def wT(F:Run):Ex->aF->AH->(Bool->AH->Prop)->Prop
 |.var i,Z,h,Q=>aC Z[i]? λo=>aC o λv=>vJ v h Q
 |.cmp o a b,Z,h,Q=>wE F a Z h λx h1=>wE F b Z h1 λy h2=>bo o x y h2 λz h3=>aC (sG z) λt=>Q t h3
 |.not a,Z,h,Q=>wT F a Z h λb h1=>Q (!b) h1
 |.and a b,Z,h,Q=>wT F a Z h λt h1=>aE t (wT F b Z h1 Q) (Q aH h1)
 |.or a b,Z,h,Q=>wT F a Z h λt h1=>aE t (Q aB h1) (wT F b Z h1 Q)
 |.chain o o' a b c,Z,h,Q=>wE F a Z h λx h1=>wE F b Z h1 λy h2=>bo o x y h2 λz h3=>aC (sG z) λt=>aE t (wE F c Z h3 λu h4=>bo o' y u h4 λz h5=>aC (sG z) λt=>Q t h5) (Q aH h3)
 |.call f es,Z,h,Q=>oE F es Z h λxs h1=>WC (F f xs) h1 λv h2=>vJ v h2 Q
 |.qX t a,Z,h,Q=>wE F a Z h λx h1=>aC (tX h1 x) λs=>Q (s.sub t) h1
 |.lE cs f o,Z,h,Q=>wE F o Z h λx h1=>gW x h1 λ_ c fs=>aE (cs.contains c) (aC (fs.lookup f) λv=>vJ v h1 Q) False
 |.rD m dp o es,Z,h,Q=>wE F o Z h λx h1=>gW x h1 λn c fs=>aC (dp.lookup c) λi=>aE (fs.lookup m).isNone (oE F es Z h1 λxs h2=>WC (F i<|.ref n::xs) h2 λv h3=>vJ v h3 Q) False
 |.kc k a,Z,h,Q=>wE F a Z h λx h1=>WC (k.g x) h1 λv h3=>vJ v h3 Q
 |e,Z,h,Q=>WC (dU F e Z) h Q
noncomputable def oE(F:Run):eG->aF->AH->(Hr->AH->Prop)->Prop
 |.nil,_,h,Q=>Q [] h
 |.cons e es,Z,h,Q=>wE F e Z h λx h1=>oE F es Z h1 λxs h2=>Q (x::xs) h2
end
mutual
noncomputable def wA(F:Run):Tg->AV->aF->AH->(aF->AH->Prop)->Prop
 |.nm i,v,Z,h,K=>K (Z.set i<|aA v) h
 |.tup n ts,v,Z,h,K=>aC (dW h v) λxs=>aE (decide<|xs.length=n) (Oz F ts xs Z h K) False
 |.sub o i,v,Z,h,K=>wE F o Z h λx h1=>wE F i Z h1 λy h2=>WC (nX x y v) h2 λ_ h3=>K Z h3
 |t,v,Z,h,K=>WC (oW F t v Z) h K
noncomputable def Oz(F:Run):wG->Hr->aF->AH->(aF->AH->Prop)->Prop
 |.nil,[],σ,h,K=>K σ h
 |.nil,_::_,_,_,_=>False
 |.cons _ _,[],_,_,_=>False
 |.cons t ts,v::vs,σ,h,K=>wA F t v σ h λσ1 h1=>Oz F ts vs σ1 h1 K
end
mutual
noncomputable def wS(F:Run):Sx->aF->AH->(aF->AH->Prop)->(AV->AH->Prop)->(aF->AH->Prop)->(aF->AH->Prop)->Prop
 |.pass,Z,h,N,_,_,_=>N Z h
 |.brk,Z,h,_,_,B,_=>B Z h
 |.cnt,Z,h,_,_,_,C=>C Z h
 |.Bl,_,h,_,R,_,_=>R .aG h
 |.expr e,Z,h,N,_,_,_=>wE F e Z h λ_ h1=>N Z h1
 |.ret e,Z,h,_,R,_,_=>wE F e Z h R
 |.asg t e,Z,h,N,_,_,_=>wE F e Z h λv h1=>wA F t v Z h1 N
 |.ite c a b,Z,h,N,R,B,C=>wT F c Z h λt h1=>aE t (dZ F a Z h1 N R B C) (dZ F b Z h1 N R B C)
 |.gq cs f o e,Z,h,N,_,_,_=>wE F e Z h λv h1=>wE F o Z h1 λx h2=>gW x h2 λn c fs=>aE (cs.contains c) (aE (decide<|fs.length<1000) (N Z<|h2.put n<|.ins c<|gJ f v fs) False) False
 |.qi cs f o e,Z,h,N,_,_,_=>wE F o Z h λx h1=>gW x h1 λn c fs=>aE (cs.contains c) (aC (fs.lookup f) λv=>aC (uM v) λi=>wE F e Z h1 λy h2=>aC (uM y) λj=>gW (.ref n) h2 λ_ c' fs2=>aE (decide<|c'=c) (aE (decide<|fs2.length<1000) (N Z<|h2.put n<|.ins c<|gJ f (.int<|i+j) fs2) False) False) False
 |.aug sub i e,Z,h,N,_,_,_=>aC Z[i]? λo=>aC o λv=>aC (uM v) λa=>wE F e Z h λy h1=>aC (uM y) λj=>N (Z.set i<|aA<|.int<|if sub=aB then a-j else a+j) h1
 |.par is es,Z,h,N,_,_,_=>oE F es Z h λvs h1=>aE (decide<|vs.length=is.length) (N (Bp is vs Z) h1) False
 |s,Z,h,N,R,B,C=>WB (eJ F s Z) h N R B C
noncomputable def dZ(F:Run):aR->aF->AH->(aF->AH->Prop)->(AV->AH->Prop)->(aF->AH->Prop)->(aF->AH->Prop)->Prop
 |.nil,σ,h,N,_,_,_=>N σ h
 |.cons s ss,σ,h,N,R,B,C=>wS F s σ h (λσ1 h1=>dZ F ss σ1 h1 N R B C) R B C
end
theorem Po{i:Int}{Q:Unit->AH->Prop}(e:h.ob n=aA (.lst aB xs))(hi:jS xs.length i=aA j)(q:Q () (h.put n<|.lst aB<|xs.set j v)):WC (nX (.ref n) (.int i) v) h Q:=by refine WC.of ?_;have a:gE h (.ref n)=aD:=Bo (xs:=xs) (by simp only[dW,e]);unfold We nX;simp only[a];unfold qG;simp only[e,hi];exact q
theorem rO{k:aP}{Q:Unit->AH->Prop}(e:h.ob n=aA (.aN kvs))(hk:eZ y=aA k)(hl:kvs.length<sizeLine)(q:Q () (h.put n<|.aN<|gT kvs k v)):WC (nX (.ref n) y v) h Q:=by refine WC.of ?_;unfold We nX;simp only[tZ e,hk,if_pos hl];exact q
theorem qO(e:h.ob n=aA (.aN kvs)):(gE h<|.ref n).isSome=aB:=by rw[tZ e];rfl
theorem aC.ex{α:Type}{o:Option α}{K:α->Prop}(w:aC o K):∃v,o=aA v/\K v:=by
 cases o with
 |some v=>exact⟨v,rfl,w⟩|none=>cases w
theorem aE.an{A:Prop}(w:aE b A False):b=aB/\A:=by
 cases b with
 |true=>exact⟨rfl,w⟩|false=>cases w
theorem aE.len{c:Prop} [Decidable c] {A:Prop}(w:aE (decide c) A False):c/\A:=⟨of_decide_eq_true (aE.an w).1,(aE.an w).2⟩
theorem BU(h:Rm n 64=aB):n<=sizeLine:=dG (MJ h) (by decide)
theorem aPg{o:Op}(w:Pb o x y h Q):We (o.g x y) h Q:=by
 cases o with
 |add=>cases x<;>first|exact WC.we w|(cases y<;>first|exact WC.we w|exact aPp w)
 |sub=>cases x<;>first|exact WC.we w|(cases y<;>first|exact WC.we w|exact aQv w)
 |mod=>cases x<;>first|exact WC.we w|(cases y<;>first|exact WC.we w|exact aQk (aE.len w).1 (aE.len w).2)
 |fdiv=>cases x<;>first|exact WC.we w|(cases y<;>first|exact WC.we w|exact aQb (aE.an w).1 (aE.an w).2)
 |mul=>cases x<;>first|exact WC.we w|(cases y<;>first|exact WC.we w|exact aQl (aE.an w).1 (aE.an w).2)
 |ix=>cases x<;>first|exact WC.we w|(cases y<;>first|exact WC.we w|(obtain⟨v,e,q⟩:=aC.ex w;exact gQ rfl e q))
 |_=>exact WC.we w
theorem jv{o:Cp}(w:bo o x y h Q):We (o.g x y) h Q:=by
 cases o with
 |lt=>cases x<;>first|exact WC.we w|(cases y<;>first|exact WC.we w|exact aQh w)
 |le=>cases x<;>first|exact WC.we w|(cases y<;>first|exact WC.we w|exact aQg w)
 |gt=>cases x<;>first|exact WC.we w|(cases y<;>first|exact WC.we w|exact aQd w)
 |ge=>cases x<;>first|exact WC.we w|(cases y<;>first|exact WC.we w|exact aQc w)
 |eq=>cases x<;>first|exact WC.we w|(cases y<;>first|exact WC.we w|exact aPz w|exact aQa w)
 |ne=>cases x<;>first|exact WC.we w|(cases y<;>first|exact WC.we w|exact aQn w|exact aQo w)
 |gz=>cases y<;>first|exact WC.we w|exact aQe w
 |isn=>cases y<;>first|exact WC.we w|exact aQf w
 |_=>exact WC.we w
theorem xR{Q:Bool->AH->Prop}(w:vJ x h Q):We (dH x) h Q:=by cases x<;>first|exact WC.we w|exact w
theorem aPf(w:IU x h Q):We (qx x) h Q:=by cases x<;>first|exact WC.we w|exact w
theorem aPe{f:Bi}(w:Pa f xs h Q):We (f.g xs) h Q:=by
 unfold Pa at w;split at w
 .split at w
  .exact kK rfl w
  .exact WC.we w
 .split at w
  .exact w
  .exact w
  .exact WC.we w
 .split at w
  .exact w
  .exact WC.we w
 .split at w
  .exact w
  .exact WC.we w
 .split at w
  .exact vM rfl w
  .exact WC.we w
 .exact WC.we w
theorem xt{m:M AV}{Q:Bool->AH->Prop}(w:We m h λz h1=>aC (sG z) λt=>Q t h1):We m h λz h1=>∃t,z = .bl t/\Q t h1:=w.mono λz h1 w=>by obtain⟨t,e,q⟩:=aC.ex w;cases z<;>cases e;exact⟨_,rfl,q⟩
theorem gW.ex{x:AV}{h:AH}{K:Nat->Nat->Yf->Prop}(w:gW x h K):∃n c fs,x = .ref n/\h.ob n=aA (.ins c fs)/\K n c fs:=by
 unfold gW at w;split at w
 .obtain⟨o,e,w⟩:=aC.ex w;split at w
  .exact⟨_,_,_,rfl,e,w⟩
  .cases w
 .cases w
theorem BY{fs:Yf}(h:(fs.lookup m).isNone=aB):fs.lookup m=aD:=by
 cases e:fs.lookup m with
 |none=>rfl|some v=>rw[e]at h;exact ff h
mutual
theorem cH(e:Ex):∀{Z:aF}{h:AH}{Q:AV->AH->Prop},wE F e Z h Q->We (aL F e Z) h Q:=by
 intro Z h Q w;cases e with
 |var i=>obtain⟨o,e1,w⟩:=aC.ex w;obtain⟨v,e2,w⟩:=aC.ex w;subst e2;exact Ct e1 w
 |val v=>exact w|op o a b=>exact aRx<|(cH a w).mono λx h1 w=>(cH b w).mono λy h2 w=>aPg w|cmp o a b=>exact aRo<|(cH a w).mono λx h1 w=>(cH b w).mono λy h2 w=>jv w|neg a=>exact aRv<|(cH a w).mono λx h1 w=>aPf w|not a=>exact aRw<|(cH a w).mono λx h1 w=>xR w|and a b=>exact aRk<|(cH a w).mono λx h1 w=>(xR w).mono λt h2 w=>aE.ite (w.mp (cH b) id)|or a b=>exact aRy<|(cH a w).mono λx h1 w=>(xR w).mono λt h2 w=>aE.ite (w.mp id<|cH b)|ite c a b=>exact aRs<|(oH c w).mono λt h1 w=>aE.ite (w.mp (cH a)<|cH b)|tup es=>exact aSg<|(oG es w).mono λxs h1 w=>⟨BU (aE.an w).1,(aE.an w).2⟩|lst es=>exact aRt<|(oG es w).mono λxs h1 w=>⟨BU (aE.an w).1,(aE.an w).2⟩|call f es=>exact JN<|(oG es w).mono λxs h1 w=>w.we|bi f es=>exact aRm<|(oG es w).mono λxs h1 w=>aPe w|qX t a=>exact JQ ((cH a w).mono λx h1 w=>by obtain⟨s,e,w⟩:=aC.ex w;exact JD e w)
 |chain o o' a b c=>exact JO<|(cH a w).mono λx h1 w=>(cH b w).mono λy h2 w=>xt ((jv w).mono λz h3 w=>by obtain⟨t,e,w⟩:=aC.ex w;exact aC.of e<|aE.ite<|w.mp (λw=>(cH c w).mono λu h4 w=>jv w) id)
 |app o a=>exact aRl<|(cH o w).mono λx h1 w=>⟨(aE.an w).1,(cH a (aE.an w).2).mono λy h2 w=>w.we⟩|lE cs f o=>exact JP ((cH o w).mono λx h1 w=>by obtain⟨n,c,fs,rfl,e,w⟩:=gW.ex w;obtain⟨hc,w⟩:=aE.an w;obtain⟨v,l,w⟩:=aC.ex w;exact JC e hc l w)
 |rD m dp o es=>exact JR ((cH o w).mono λx h1 w=>by obtain⟨n,c,fs,rfl,e,w⟩:=gW.ex w;obtain⟨i,l,w⟩:=aC.ex w;obtain⟨hm,w⟩:=aE.an w;exact⟨n,c,fs,i,rfl,e,l,BY hm,(oG es w).mono λxs h2 w=>w.we⟩)
 |make c i dv es=>exact aRu<|(oG es w).mono λxs h1 w=>w.we|gf i es=>exact aRn<|(oG es w).mono λxs h1 w=>w.we|qc=>exact w|dm f o es=>exact aRq<|(cH o w).mono λx h1 w=>⟨(aE.an w).1,(oG es (aE.an w).2).mono λxs h2 w=>w.we⟩|kc k a=>exact bM<|(cH a w).mono λx h1 w=>w.we|_=>exact WC.we w
theorem oH(e:Ex):∀{Z:aF}{h:AH}{Q:Bool->AH->Prop},wT F e Z h Q->We (dU F e Z) h Q:=by
 intro Z h Q w;cases e with
 |var i=>obtain⟨o,e1,w⟩:=aC.ex w;obtain⟨v,e2,w⟩:=aC.ex w;subst e2;exact aTb<|Ct e1<|xR w
 |cmp o a b=>exact aSu<|(cH a w).mono λx h1 w=>(cH b w).mono λy h2 w=>xt (jv w)|not a=>exact aSy<|oH a w|and a b=>exact aSr<|(oH a w).mono λt h1 w=>aE.ite (w.mp (oH b) id)|or a b=>exact aTa<|(oH a w).mono λt h1 w=>aE.ite (w.mp id<|oH b)|chain o o' a b c=>exact aSt<|JO<|(cH a w).mono λx h1 w=>(cH b w).mono λy h2 w=>xt ((jv w).mono λz h3 w=>by obtain⟨t,e,w⟩:=aC.ex w;exact aC.of e<|aE.ite<|w.mp (λw=>(cH c w).mono λu h4 w=>xt (jv w)) λw=>⟨_,rfl,w⟩)
 |call f es=>exact aSs<|JN<|(oG es w).mono λxs h1 w=>w.we.mono λv h2 w=>xR w|qX t a=>exact aSw<|JQ ((cH a w).mono λx h1 w=>by obtain⟨s,e,w⟩:=aC.ex w;exact JD e w)
 |lE cs f o=>exact aSv<|JP ((cH o w).mono λx h1 w=>by obtain⟨n,c,fs,rfl,e,w⟩:=gW.ex w;obtain⟨hc,w⟩:=aE.an w;obtain⟨v,l,w⟩:=aC.ex w;exact JC e hc l<|xR w)
 |rD m dp o es=>exact aSx<|JR ((cH o w).mono λx h1 w=>by obtain⟨n,c,fs,rfl,e,w⟩:=gW.ex w;obtain⟨i,l,w⟩:=aC.ex w;obtain⟨hm,w⟩:=aE.an w;exact⟨n,c,fs,i,rfl,e,l,BY hm,(oG es w).mono λxs h2 w=>w.we.mono λv h3 w=>xR w⟩)
 |kc k a=>exact bM<|bM<|(cH a w).mono λx h1 w=>w.we.mono λv h3 w=>xR w|_=>exact WC.we w
theorem oG(es:eG):∀{Z:aF}{h:AH}{Q:Hr->AH->Prop},oE F es Z h Q->We (dO F es Z) h Q:=by
 intro Z h Q w;cases es with
 |nil=>exact w|cons e es=>exact Cu<|(cH e w).mono λx h1 w=>oG es w
end
mutual
theorem kJ(t:Tg):∀{v:AV}{Z:aF}{h:AH}{K:aF->AH->Prop},wA F t v Z h K->We (oW F t v Z) h K:=by
 intro v Z h K w;cases t with
 |nm i=>exact w|tup n a=>obtain⟨xs,e,w⟩:=aC.ex w;exact aPk e (aE.len w).1 (IT a (aE.len w).2)
 |sub o i=>exact bM<|(cH o w).mono λx b w=>bM ((cH i w).mono λy c w=>bM (w.we.mono λ_ d q=>q))|_=>exact WC.we w
theorem IT(ts:wG):∀{vs:Hr}{Z:aF}{h:AH}{K:aF->AH->Prop},Oz F ts vs Z h K->We (wH F ts vs Z) h K:=by
 intro vs Z h K w;cases ts with
 |nil=>
  cases vs with
  |nil=>exact w|cons=>exact w.elim
 |cons t ts=>
  cases vs with
  |nil=>exact w.elim|cons v vs=>exact aPi<|(kJ t w).mono λa b w=>IT ts w
end
mutual
theorem aPh(s:Sx):∀{Z:aF}{h:AH}{N:aF->AH->Prop}{R:AV->AH->Prop}{B C:aF->AH->Prop},wS F s Z h N R B C->Wt (eJ F s Z) h N R B C:=by
 intro Z h N R B C w;cases s with
 |pass=>exact w|brk=>exact w|cnt=>exact w|Bl=>exact w|expr e=>exact aSk<|cH e w|ret e=>exact aSp<|cH e w|asg t e=>exact aSh<|(cH e w).mono λv d w=>kJ t w|ite c a b=>exact aSn<|(oH c w).mono λt d w=>aE.ite (w.mp (gX a)<|gX b)|gq cs f o e=>exact aSm ((cH e w).mono λv d w=>(cH o w).mono λx r w=>by obtain⟨n,c,fs,rfl,e,w⟩:=gW.ex w;obtain⟨g,w⟩:=aE.an w;obtain⟨hl,w⟩:=aE.len w;exact⟨n,c,fs,rfl,e,g,hl,w⟩)
 |qi cs f o e=>exact aSl ((cH o w).mono λx d w=>by
   obtain⟨n,c,fs,rfl,k,w1⟩:=gW.ex w;obtain⟨g,w2⟩:=aE.an w1;obtain⟨v,l,w3⟩:=aC.ex w2;obtain⟨i,m,u⟩:=aC.ex w3;have ev:v = .int i:=by cases v<;>cases m;rfl
   refine⟨n,c,fs,i,rfl,k,g,by rw[l,ev],(cH e u).mono λy r z=>?_⟩;obtain⟨j,p,A⟩:=aC.ex z;have D:y = .int j:=by cases y<;>cases p;rfl
   obtain⟨J,K,q,en,E,G⟩:=gW.ex A;cases en;obtain⟨H,w8⟩:=aE.len G;obtain⟨hl,w⟩:=aE.len w8;subst H;exact⟨j,q,D,E,hl,w⟩)
 |aug sub i e=>
  obtain⟨o,k,w⟩:=aC.ex w;obtain⟨v,l,w⟩:=aC.ex w;obtain⟨a,m,w⟩:=aC.ex w;subst l;cases v<;>cases m;exact aSi k ((cH e w).mono λy d w=>by obtain⟨j,p,w⟩:=aC.ex w;cases y<;>cases p;exact⟨_,rfl,w⟩)
 |par is I=>exact aSo<|(oG I w).mono λL d w=>aE.len w|_=>exact WB.wt w
theorem gX(ss:aR):∀{Z:aF}{h:AH}{N:aF->AH->Prop}{R:AV->AH->Prop}{B C:aF->AH->Prop},dZ F ss Z h N R B C->Wt (jR F ss Z) h N R B C:=by
 intro Z h N R B C w;cases ss with
 |nil=>exact w|cons s ss=>
  refine aSj<|(aPh s w).mono λo h1 w=>?_;cases o with
  |nx Z=>exact gX ss w|ret v=>exact w|brk Z=>exact w|cnt Z=>exact w
end
def Ce(F:Run)(e:Ex)(Z:aF)(h:AH)(K:Hq->AH->Prop):Prop:=if AQ e=aB then K aD h else wE F e Z h λx h1=>aC (uM x) λi=>K (aA i) h1
theorem IV{K:Hq->AH->Prop}(w:Ce F e Z h K):We (oY e<|aL F e Z) h K:=by
 unfold Ce at w;split at w
 .rename_i hn;unfold oY;rw[if_pos hn];exact w
 .rename_i hn;have key:We (aL F e Z) h λx a=>∃i,x = .int i/\K (aA i) a:=(cH e w).mono λx a w=>by obtain⟨i,e,q⟩:=aC.ex w;cases x<;>cases e;exact⟨_,rfl,q⟩
  exact aRz (λm=>if_neg hn) key
theorem kb{a lo hi:Ex}(w:wE F a Z h λx h1=>Ce F lo Z h1 λl h2=>Ce F hi Z h2 λu h3=>WC (qL x l u) h3 Q):WC (aL F (.slice a lo hi) Z) h Q:=
 WC.of (aSd<|(cH a w).mono λ_ _ w=>(IV w).mono λ_ _ w=>(IV w).mono λ_ _ w=>w.we)
theorem aSc{P:Pg}{k f np nn:Nat}{b:aR}{args:Hr}(e:P f=aA (np,nn,b))(hl:args.length=np)(w:dZ (run P k) b (args.map aA++eN (nn-np) aD) h (λ_ h1=>R .aG h1) R (λ_ _=>False) (λ_ _=>False)):We (run P (k+1) f args) h R:=aSb e hl (gX b w)
section
variable {Q:gC->AH->Prop}
theorem Je{K:Int->Prop}(w:aC (uM x) K):∃i,x = .int i/\K i:=by obtain⟨i,e,q⟩:=aC.ex w;cases x<;>cases e;exact⟨_,rfl,q⟩
theorem Co{a:Ex}(w:wE F a Z h λx h1=>aC (uM x) λj=>mC j=aB/\Q (nL 0 j.toNat) h1):We (cR F (.Bm<|.cons a .nil) Z) h Q:=
 aQy (Cu<|(cH a w).mono λx h1 w=>JS (by obtain⟨j,rfl,w⟩:=Je w;exact⟨j,rfl,w⟩))
theorem aQx{a b:Ex}(w:wE F a Z h λx h1=>aC (uM x) λi=>wE F b Z h1 λy h2=>aC (uM y) λj=>(mC i&&mC j)=aB/\Q (nL i (j-i).toNat) h2):We (cR F (.Bn<|.cons a<|.cons b .nil) Z) h Q:=
 aQz (Cu ((cH a w).mono λx h1 w=>by obtain⟨i,rfl,w⟩:=Je w;exact Cu<|(cH b w).mono λy h2 w=>JS (by obtain⟨j,rfl,w⟩:=Je w;exact⟨i,j,rfl,w⟩)))
theorem nO{a:Ex}(w:wE F a Z h λx h1=>We (zP x) h1 Q):We (cR F (.seq a) Z) h Q:=aRa (cH a w)
end
def gy:Yp->Addr->Bool
 |some (aA<|.ref a),f=>a==f
 |_,_=>aH
def zz:Yp->Bool
 |some aD=>aB
 |_=>aH
def Jm:Yp->String->Bool
 |some (aA<|.builtin b),s=>b==s
 |_,_=>aH
theorem rj{o:Yp}{f:Addr}(h:gy o f=aB):o=aA (aA<|.ref f):=by
 unfold gy at h;split at h
 .rw[eq_of_beq h]
 .exact ff h
theorem AN{o:Yp}(h:zz o=aB):o=aA aD:=by
 unfold zz at h;split at h
 .rfl
 .exact ff h
theorem G6{o:Yp}{s:String}(h:Jm o s=aB):o=aA (aA<|.builtin s):=by
 unfold Jm at h;split at h
 .rw[eq_of_beq h]
 .exact ff h
def ya(K:bJ)(C:Addr):Bool:=vx K C Str.empty&&En K C&&Sn K C&&Jm (nQ K (.ref C) "__setattr__") "object.__setattr__"
theorem Wl{K:bJ}{C:Addr}(h:ya K C=aB):mV K C:=by unfold ya at h;rw[bT,bT,bT]at h;exact⟨h.1.1.1,h.1.1.2,h.1.2,G6 h.2⟩
def pO(cs:Yt)(c:Nat):Addr:=(cs.lookup c).getD 0
def tj(K:bJ)(p:Pr)(fK:Xx):Bool:=((p.defs.take p.zJ).zip fK).all (λx=>gy (vS K jG x.1.name) x.2)&&p.iN.all λx=>zz (vS K jG x)
def CY(K:bJ)(p:Pr)(cs:Yt):Bool:=p.kR.all λx=>x.2.all λc=>(cs.lookup c).isSome&&ya K (pO cs c)&&zz (nQ K (.ref<|pO cs c) x.1)
def DA(K:bJ)(p:Pr)(fK:Xx)(cs:Yt):Bool:=p.nH.all λx=>x.2.all λy=>(cs.lookup y.1).isSome&&(p.defs[y.2]?).isSome&&ya K (pO cs y.1)&&gy (nQ K (.ref<|pO cs y.1) x.1) (fK.getD y.2 0)&&vw K (.ref<|fK.getD y.2 0)
def CZ(K:bJ)(p:Pr)(fK:Xx)(cs:Yt):Bool:=p.mL.all λx=>(cs.lookup x.2.1).isSome&&(p.defs[x.2.2.1]?).isSome&&gy (vS K jG x.1.1) (pO cs x.2.1)&&Sk K (pO cs x.2.1) &&
 gy (nQ K (.ref<|pO cs x.2.1) "__init__") (fK.getD x.2.2.1 0)&&vw K (.ref<|fK.getD x.2.2.1 0)&&tP K (.ref<|pO cs x.2.1)
theorem xl{cs:Yt}(h:(cs.lookup c).isSome=aB):cs.lookup c=aA (pO cs c):=by
 unfold pO;cases e:cs.lookup c with
 |none=>rw[e]at h;cases h|some a=>rfl
theorem jI.len{K:bJ}{fs:List eS}(h:jI K ds as fs):ds.length=as.length:=by
 induction h with
 |nil=>rfl|cons _ _ a=>rw[jC,jC,a]
theorem jI.one{K:bJ}{nm qu:Str}{st:Stmt}{N ps:Yb}{f:Addr}{oc dV kV doc pm cd ct:Value}{od an:ZF}{sl:ZC}{fs:List eS}
  (l:K.lookup f=aA ⟨oc,od,.func (mj nm qu (yh st) (gj st) (pU st) dV kV doc pm an cd ct),sl⟩)(c:Sh K cd qu=aB)(k:tP K (.ref f)=aB)
  (b:Binds K (mj nm qu (yh st) (gj st) (pU st) dV kV doc pm an cd ct) ps [])(s:ny N ps (pU st))(t:jI K ds as fs):jI K (⟨nm,qu,st,N,ps⟩::ds) (f::as) (mj nm qu (yh st) (gj st) (pU st) dV kV doc pm an cd ct::fs):=
 .cons ⟨⟨⟨_,_,_,_,_,_,_,_,_,_,rfl,l,c⟩,k⟩,b,s⟩ t
section
variable {P:cA}{w:bW}{K:bJ}{h:bI}{mg:Str->Xy}{p:Pr}{fK:Xx}{fds:List eS}{cs:Yt}{G:Yk->Addr->Prop}{f0:eS}
theorem DB(X:K.In h)(N:h.Ns jG mg)(D:jI K p.defs fK fds)(ok:tj K p fK=aB):∀(i:Nat) d,(p.defs.take p.zJ)[i]?=aA d->mg d.name=aA (.ref<|fK.getD i 0):=λi d hd=>by
 unfold tj at ok;rw[bT]at ok;have a:=(List.getElem?_eq_some_iff.mp hd).1;rw[lP,D.len]at a;have ha:fK[i]?=aA (fK.getD i 0):=by rw[Ds,eM (by lia)];rfl
 have hm:(d,fK.getD i 0)∈(p.defs.take p.zJ).zip fK:=bX (by rw[LQ];exact⟨hd,ha⟩);exact vR X N<|rj<|List.all_eq_true.mp ok.1 _ hm
theorem V0(X:K.In h)(N:h.Ns jG mg)(ok:tj K p fK=aB):∀x,p.iN.contains x=aB->mg x=aD:=λx a=>by unfold tj at ok;rw[bT]at ok;exact W.mg_none_of X N<|AN<|List.all_eq_true.mp ok.2 x<|List.contains_iff_mem.mp a
theorem U7(ok:CY K p cs=aB):∀f c,p.kR.lookup f=aA c->fj K ⟨K,G,λi=>cs.lookup i⟩ c f:=λf c a k C b d=>by have:=List.all_eq_true.mp (List.all_eq_true.mp ok _<|sk a) k (List.contains_iff_mem.mp b);rw[bT,bT]at this;have e:=xl this.1.1;have g:cs.lookup k=aA C:=d;rw[g]at e;rw[(dI e)];exact⟨Wl this.1.2,AN this.2⟩
theorem U9(D:jI K p.defs fK fds)(ok:DA K p fK cs=aB):∀m dp,p.nH.lookup m=aA dp->∀c i,dp.lookup c=aA i->∃d C,p.defs[i]?=aA d/\cs.lookup c=aA C/\mV K C/\xb K C m (fK.getD i 0):=λm dp a c i b=>by have:=List.all_eq_true.mp (List.all_eq_true.mp ok _<|sk a) _ (sk b);rw[bT,bT,bT,bT]at this;obtain⟨⟨⟨⟨e,f⟩,g⟩,h⟩,j⟩:=this;obtain⟨d,hd⟩:=Option.isSome_iff_exists.mp f;exact⟨d,_,hd,xl e,Wl g,rj h,j,(jI.get D (f0:=default) i d hd).fn.kp⟩
theorem U8(X:K.In h)(N:h.Ns jG mg)(D:jI K p.defs fK fds)(ok:CZ K p fK cs=aB)
  (dv:∀x n c i dv,p.mL.lookup (x,n)=aA (c,i,dv)->dv≠[]->∃d ds dvs,p.defs[i]?=aA d/\Binds K (fds.getD i f0) d.ps ds/\Vals dvs ds/\∀Y H,bE ⟨K,G,λi=>cs.lookup i⟩ Y H dv dvs) :
  ∀x n c i dv,p.mL.lookup (x,n)=aA (c,i,dv)->∃d C ds dvs,p.defs[i]?=aA d/\cs.lookup c=aA C/\Mk K C (fK.getD i 0)/\mg x=aA (.ref C)/\Binds K (fds.getD i f0) d.ps ds/\Vals dvs ds/\∀Y H,bE ⟨K,G,λi=>cs.lookup i⟩ Y H dv dvs:=λx n c i v e=>by
 have:=List.all_eq_true.mp ok _ (sk e);rw[bT,bT,bT,bT,bT,bT]at this;obtain⟨⟨⟨⟨⟨⟨f,k⟩,g⟩,l⟩,m⟩,o⟩,q⟩:=this;obtain⟨d,hd⟩:=Option.isSome_iff_exists.mp k;have mk:Mk K (pO cs c) (fK.getD i 0):=⟨l,rj m,o,q⟩;by_cases j:v=[]
 .subst j;exact⟨d,_,[],[],hd,xl f,mk,vR X N (rj g),(jI.get D i d hd).bd,.nil,λ_ _=>.nil⟩
 .obtain⟨s,ds,dvs,a,b,t,r⟩:=dv x n c i v e j;exact⟨s,_,ds,dvs,a,xl f,mk,vR X N (rj g),b,t,r⟩
end
end AM
namespace AMx
open PySem PySem.Spec PyProof.Rows L2 AM
def top(i:Nat):Stmt:=PySem.Challenge.pw_aheadmill_k42_names_told.main.body.getD i (.Pass ⟨0,0,0,0⟩)
def cb(i j:Nat):Stmt:=(WW<|top i).getD j (.Pass ⟨0,0,0,0⟩)
section
local macro_rules|`(!($a,$i,[$p,*],[$l,*]))=>`(⟨$a,$a,top $i,[$p,*,$l,*],[$p,*]⟩)|`(!($a,$q,$i,$j,[$p,*],[$l,*]))=>`(⟨$a,$q,cb $i $j,[$p,*,$l,*],[$p,*]⟩)
def Hf:List Df:=[!("_wall",0,["k"],[]),!("word_of",12,["number"],[]),!("shared",13,["one","other"],[]),!("leaves_some",14,["places"],[]),!("moved_up",15,["one","places"],[]),!("moved_down",16,["one","places"],[]),!("worked",17,["way","one","other"],[]),!("wants",20,["row"],["kind"]),!("fills",21,["row"],["kind"]),!("group_of",22,["row"],[]),!("place_of",23,["row","words"],[]),!("goes",24,["row","at","words"],[]),!("fault_of",25,["row","words","room"],["kind","place"]),!("brought",26,["row","words","held"],["kind"]),!("made",27,["row","at","words","room","held"],["fault"]),!("fetch_all",29,["window","ledger"],["put"]),!("fetch",30,["window","ledger"],["slot"]),!("give_known",31,["window","slot","boxes"],["want","box","word"]),!("known_word",32,["giver","word"],[]),!("row_behind",33,["slot","guesser"],[]),!("in_memory",55,["place","memory"],[]),!("replaced",56,["words","number","word"],[]),!("behind",57,["stand","deed"],["box","place","word","after"]),!("poked",58,["stand","place","word"],[]),!("take_off",61,["window","ledger"],["told","slot"]),!("take",62,["window","ledger","slot"],[]),!("note_memory",63,["window","ledger","slot"],[]),!("teach",64,["ledger","slot"],[]),!("was_near",65,["ledger","slot"],[]),!("finish_all",67,["window","ledger"],["ticket","slot"]),!("finish",68,["window","slot","room"],[]),!("give_word",69,["window","ticket","word"],["number","slot","want"]),!("start_all",70,["window","ledger"],["slot"]),!("start",71,["window","ledger","slot"],["group"]),!("take_word",72,["window","ledger","slot"],["place","found"]),!("or_plain",76,["guesser"],[]),!("_law_cell_at",78,["_law_script","_law_k"],[]),!("_law_number",79,["_law_cell","_law_k"],[]),!("_law_word_by",80,["_law_number_here"],["_law_kind","_law_part"]),!("_law_way_row",81,["_law_boxes","_law_part","_law_calm"],["_law_x","_law_y","_law_z","_law_ways","_law_way"]),!("_law_place_row",82,["_law_kind","_law_boxes","_law_part","_law_calm"],["_law_x","_law_y","_law_z"]),!("_law_turn_row",83,["_law_kind","_law_boxes","_law_part","_law_spot","_law_calm"],["_law_x","_law_y","_law_z","_law_k","_law_many","_law_target"]),!("_law_row",84,["_law_cell","_law_k","_law_many","_law_calm"],["_law_number_here","_law_boxes","_law_part","_law_kind"]),!("_law_late",85,["_law_cell","_law_k"],["_law_number_here"]),!("_law_program",86,["_law_cells","_law_calm"],["_law_rows","_law_k","_law_cell"]),!("_law_stand",87,["_law_cell","_law_other","_law_calm"],["_law_boxes","_law_most","_law_room","_law_memory"]),!("_law_wants",88,["_law_row_here"],["_law_kind"]),!("_law_alike",89,["_law_found","_law_due"],["_law_one","_law_other"]),!("_law_table",90,["_law_cell","_law_most"],["_law_pairs","_law_k","_law_number_here"]),!("_law_guesser",91,["_law_cell","_law_script"],["_law_number_here","_law_part","_law_kind"]),!("_law_sizes",92,["_law_cell"],["_law_number_here","_law_size","_law_wide"]),!("_law_fills",93,["_law_row_here"],[]),!("_law_fresh_slip",94,["_law_slip","_law_ticket","_law_now","_law_program_here","_law_givers"],["_law_names"]),!("_law_window",95,["_law_window_here","_law_kept","_law_tickets","_law_now","_law_program_here","_law_filled"],["_law_givers","_law_ticket","_law_slip","_law_box"]),!("_law_took",96,["_law_told","_law_kept","_law_filled"],["_law_slip"]),!("law",97,["_law_script"],["_law_calm","_law_program_here","_law_start","_law_size","_law_wide","_law_guesser_here","_law_nerve","_law_mill","_law_kept","_law_filled","_law_tickets","_law_now","_law_told","_law_number_here"]),!("__init__","Tally.__init__",36,0,["self","many","begin"],[]),!("likely","Tally.likely",36,1,["self","number"],[]),!("move","Tally.move",36,2,["self","number","up"],["place","level"]),!("__init__","Guesser.__init__",37,0,["self"],[]),!("guess","Guesser.guess",37,1,["self","at"],[]),!("heed","Guesser.heed",37,2,["self","at","came"],[]),!("learn","Guesser.learn",37,3,["self","at","came"],[]),!("lessons","Guesser.lessons",37,4,["self"],[]),!("guess","Always.guess",38,0,["self","at"],[]),!("__init__","Last.__init__",39,0,["self","first"],[]),!("guess","Last.guess",39,1,["self","at"],[]),!("heed","Last.heed",39,2,["self","at","came"],[]),!("__init__","Counts.__init__",40,0,["self","many","begin"],[]),!("guess","Counts.guess",40,1,["self","at"],[]),!("heed","Counts.heed",40,2,["self","at","came"],[]),!("__init__","Paths.__init__",41,0,["self","many","long"],[]),!("guess","Paths.guess",41,1,["self","at"],[]),!("heed","Paths.heed",41,2,["self","at","came"],["longer"]),!("__init__","Listed.__init__",42,0,["self","truths"],[]),!("guess","Listed.guess",42,1,["self","at"],[]),!("__init__","Turned.__init__",43,0,["self","one"],[]),!("guess","Turned.guess",43,1,["self","at"],[]),!("heed","Turned.heed",43,2,["self","at","came"],[]),!("__init__","Chosen.__init__",44,0,["self","one","other","many"],[]),!("guess","Chosen.guess",44,1,["self","at"],[]),!("heed","Chosen.heed",44,2,["self","at","came"],["second"]),!("__init__","Benches.__init__",46,0,["self","table"],[]),!("free","Benches.free",46,1,["self","group"],["there"]),!("start","Benches.start",46,2,["self","ticket","group","turn"],["due"]),!("done","Benches.done",46,3,["self","turn"],["tickets","ticket"]),!("busy","Benches.busy",46,4,["self"],[]),!("throw","Benches.throw",46,5,["self","ticket"],["tickets","other"]),!("__init__","Names.__init__",48,0,["self"],[]),!("fill","Names.fill",48,1,["self","ticket","box"],["other","giver"]),!("giver","Names.giver",48,2,["self","box"],["tickets"]),!("givers","Names.givers",48,3,["self","boxes"],[]),!("throw","Names.throw",48,4,["self","ticket"],["thrown","box","tickets"]),!("__init__","Shelf.__init__",50,0,["self"],[]),!("store","Shelf.store",50,1,["self","ticket"],[]),!("placed","Shelf.placed",50,2,["self","ticket","place"],["known"]),!("bitten","Shelf.bitten",50,3,["self","ticket","place"],["told","other","giver"]),!("worded","Shelf.worded",50,4,["self","ticket","word"],["known"]),!("look","Shelf.look",50,5,["self","ticket","place","dares"],["elder","other","spot","word"]),!("loaded","Shelf.loaded",50,6,["self","ticket","place","giver"],[]),!("leave","Shelf.leave",50,7,["self","ticket"],[]),!("throw","Shelf.throw",50,8,["self","ticket"],["stores","loads","other"]),!("stores","Shelf.stores",50,9,["self"],[]),!("loads","Shelf.loads",50,10,["self"],[]),!("__init__","Slot.__init__",52,0,["self","ticket","at","row","names","put"],[]),!("ready","Slot.ready",52,1,["self"],[]),!("spot","Slot.spot",52,2,["self"],[]),!("slip","Slot.slip",52,3,["self"],["times"]),!("__init__","Window.__init__",53,0,["self","program","at","size","wide","table"],[]),!("at_end","Window.at_end",53,1,["self"],[]),!("slot_of","Window.slot_of",53,2,["self","ticket"],["slot"]),!("enter","Window.enter",53,3,["self"],["row","slot"]),!("give","Window.give",53,4,["self","slot","want","word"],[]),!("place","Window.place",53,5,["self","slot"],["bitten"]),!("throw","Window.throw",53,6,["self","ticket"],["left"]),!("__init__","Ledger.__init__",60,0,["self","stand","guesser","nerve"],[]),!("poke","Ledger.poke",60,1,["self","place","word"],[]),!("__init__","Mill.__init__",75,0,["self","program","stand","size","wide","table","guesser","nerve"],[]),!("turn","Mill.turn",75,1,["self"],["window","told"]),!("turns","Mill.turns",75,2,["self","many"],[]),!("taken","Mill.taken",75,3,["self"],[]),!("inside","Mill.inside",75,4,["self"],[]),!("stand","Mill.stand",75,5,["self"],[]),!("halted","Mill.halted",75,6,["self"],[]),!("refuse_halted","Mill.refuse_halted",75,7,["self"],[]),!("counts","Mill.counts",75,8,["self"],[]),!("poke","Mill.poke",75,9,["self","place","word"],["window"])]
end
def pr:Pr:=⟨Hf,56,[("BITS",.int 64),("BEYOND",.int 18446744073709551616),("WAYS",.tup [.str "sum",.str "less",.str "times",.str "share",.str "rest",.str "both",.str "some",.str "odd",.str "up",.str "down",.str "below",.str "same"]),("GROUPS",.lF [("times",1),("share",2),("rest",2),("load",3),("store",3),("jump",4),("go",4),("fault",4)]),("GREATEST_COUNT",.int 3)],["len","int","min","max","divmod","tuple","list","str","any","sorted","isinstance","bool","dict","range","enumerate","zip"],[],[],[],[(("slots":Str),[19]),(("size":Str),[19]),(("wide":Str),[19]),(("ahead":Str),[19]),(("chosen":Str),[18]),(("guesser":Str),[20]),(("row":Str),[18]),(("dares":Str),[18]),(("nerve":Str),[20]),(("at":Str),[18]),(("state":Str),[20]),(("names":Str),[18,19]),(("finished":Str),[18]),(("deed":Str),[18]),(("ticket":Str),[18]),(("broken":Str),[20]),(("slips":Str),[20]),(("off":Str),[18]),(("now":Str),[19]),(("shelf":Str),[19]),(("gone":Str),[20]),(("storers":Str),[20]),(("words":Str),[18]),(("source":Str),[18]),(("put":Str),[18]),(("benches":Str),[19]),(("held":Str),[18]),(("started":Str),[18]),(("levels":Str),[6]),(("learned":Str),[7,8,9,10,11,12,13,14]),(("lately":Str),[9]),(("first":Str),[9]),(("tally":Str),[10,11,14]),(("trail":Str),[11]),(("length":Str),[11]),(("truths":Str),[12]),(("one":Str),[13,14]),(("other":Str),[14]),(("working":Str),[15]),(("table":Str),[15]),(("filled":Str),[16]),(("begun":Str),[17]),(("kept":Str),[17]),(("thrown":Str),[19]),(("tickets":Str),[19]),(("program":Str),[19]),(("ledger":Str),[21]),(("window":Str),[21])],[(("at_end":Str),[(19,109)]),(("guess":Str),[(7,60),(8,64),(9,66),(10,69),(11,72),(12,75),(13,77),(14,80)]),(("enter":Str),[(19,111)]),(("give":Str),[(19,112)]),(("slot_of":Str),[(19,110)]),(("slip":Str),[(18,107)]),(("throw":Str),[(15,87),(16,92),(17,101),(19,114)]),(("leave":Str),[(17,100)]),(("learn":Str),[(7,62),(8,62),(9,62),(10,62),(11,62),(12,62),(13,62),(14,62)]),(("done":Str),[(15,85)]),(("ready":Str),[(18,105)]),(("free":Str),[(15,83)]),(("start":Str),[(15,84)]),(("loaded":Str),[(17,99)]),(("look":Str),[(17,98)]),(("spot":Str),[(18,106)]),(("halted":Str),[(21,123)]),(("poke":Str),[(20,116),(21,126)]),(("counts":Str),[(21,125)]),(("inside":Str),[(21,121)]),(("turn":Str),[(21,118)]),(("heed":Str),[(7,61),(8,61),(9,67),(10,70),(11,73),(12,61),(13,78),(14,81)]),(("likely":Str),[(6,57)]),(("move":Str),[(6,58)]),(("giver":Str),[(16,90)]),(("bitten":Str),[(17,96)]),(("store":Str),[(17,94)]),(("fill":Str),[(16,89)]),(("givers":Str),[(16,91)]),(("place":Str),[(19,113)]),(("worded":Str),[(17,97)]),(("placed":Str),[(17,95)]),(("refuse_halted":Str),[(21,124)])],[(("Guesser",0),(7,59,[])),(("Chosen",3),(14,79,[])),(("Paths",1),(11,71,[.int 4])),(("Last",0),(9,65,[.bl aH])),(("Turned",1),(13,76,[])),(("Counts",1),(10,68,[.int 1])),(("Listed",1),(12,74,[])),(("Paths",2),(11,71,[])),(("Counts",2),(10,68,[])),(("Last",1),(9,65,[])),(("Always",0),(8,59,[])),(("Mill",7),(21,117,[])),(("Tally",2),(6,56,[])),(("Shelf",0),(17,93,[])),(("Benches",1),(15,82,[])),(("Names",0),(16,88,[])),(("Slot",5),(18,104,[])),(("Ledger",3),(20,115,[])),(("Window",5),(19,108,[]))],[],[("Guesser",[("__init__",59)])],["begun","filled","gone","kept","lately","storers","working"]⟩
theorem oi(n:Nat):Int.ofNat (no_index (MU n):Nat)=(MU n:Int):=rfl
def bq(i:Nat):aR:=((pr.defs.map pr.bodyOf).getD i (0,0,.nil)).2.2
section
local macro_rules | `(!$n:num)=>`(eU (p:=λt=>t=bq $n) ⟨_,by refine(?f:(_=bq $n)->_) ?e;(case e=>conv=>rhs;reduce;dsimp only[oi]);(case f=>intro h;show type_of% h;kernel_rfl)⟩)
def VA:aR:=!0
def VC:aR:=!1
def UU:aR:=!2
def UK:aR:=!3
def UN:aR:=!4
def UM:aR:=!5
def VD:aR:=!6
def Vl:aR:=!7
def TC:aR:=!8
def TM:aR:=!9
def UQ:aR:=!10
def TL:aR:=!11
def SZ:aR:=!12
def Ve:aR:=!13
def UL:aR:=!14
def TB:aR:=!15
def Vf:aR:=!16
def TJ:aR:=!17
def TQ:aR:=!18
def UT:aR:=!19
def TN:aR:=!20
def US:aR:=!21
def SY:aR:=!22
def UR:aR:=!23
def UY:aR:=!24
def ph:aR:=!25
def UO:aR:=!26
def UZ:aR:=!27
def VB:aR:=!28
def TF:aR:=!29
def Vg:aR:=!30
def TK:aR:=!31
def UX:aR:=!32
def UW:aR:=!33
def pq:aR:=!34
def UP:aR:=!35
def TU:aR:=!36
def UA:aR:=!37
def UJ:aR:=!38
def UI:aR:=!39
def UB:aR:=!40
def Vk:aR:=!41
def UD:aR:=!42
def TZ:aR:=!43
def UC:aR:=!44
def Vj:aR:=!45
def UH:aR:=!46
def TR:aR:=!47
def UE:aR:=!48
def TY:aR:=!49
def Vi:aR:=!50
def TV:aR:=!51
def TX:aR:=!52
def xp:aR:=!53
def UG:aR:=!54
def Vh:aR:=!55
def SM:aR:=!56
def SN:aR:=!57
def SO:aR:=!58
def QH:aR:=!59
def QJ:aR:=!60
def QK:aR:=!61
def QL:aR:=!62
def QM:aR:=!63
def PM:aR:=!64
def QN:aR:=!65
def QP:aR:=!66
def QQ:aR:=!67
def QC:aR:=!68
def QD:aR:=!69
def QF:aR:=!70
def RP:aR:=!71
def RQ:aR:=!72
def RS:aR:=!73
def QV:aR:=!74
def QX:aR:=!75
def SQ:aR:=!76
def SR:aR:=!77
def SS:aR:=!78
def PY:aR:=!79
def PZ:aR:=!80
def QB:aR:=!81
def PN:aR:=!82
def PU:aR:=!83
def PV:aR:=!84
def PR:aR:=!85
def PQ:aR:=!86
def PX:aR:=!87
def RJ:aR:=!88
def RK:aR:=!89
def RL:aR:=!90
def RM:aR:=!91
def RN:aR:=!92
def RT:aR:=!93
def SA:aR:=!94
def RZ:aR:=!95
def RU:aR:=!96
def SG:aR:=!97
def RY:aR:=!98
def RW:aR:=!99
def RV:aR:=!100
def SE:aR:=!101
def SD:aR:=!102
def RX:aR:=!103
def SH:aR:=!104
def SI:aR:=!105
def SK:aR:=!106
def SJ:aR:=!107
def Vc:aR:=!108
def SU:aR:=!109
def SW:aR:=!110
def xo:aR:=!111
def Vd:aR:=!112
def SV:aR:=!113
def SX:aR:=!114
def QR:aR:=!115
def QU:aR:=!116
def QY:aR:=!117
def RG:aR:=!118
def RH:aR:=!119
def RF:aR:=!120
def RC:aR:=!121
def RE:aR:=!122
def RA:aR:=!123
def RD:aR:=!124
def QZ:aR:=!125
def Vb:aR:=!126
end
def Jl:List (Nat×Nat×aR):=[(1,1,VA),(1,1,VC),(2,2,UU),(1,1,UK),(2,2,UN),(2,2,UM),(3,3,VD),(1,2,Vl),(1,2,TC),(1,1,TM),(2,2,UQ),(3,3,TL),(3,5,SZ),(3,4,Ve),(5,6,UL),(2,3,TB),(2,3,Vf),(3,6,TJ),(2,2,TQ),(2,2,UT),(2,2,TN),(3,3,US),(2,6,SY),(3,3,UR),(2,4,UY),(3,3,ph),(3,3,UO),(2,2,UZ),(2,2,VB),(2,4,TF),(3,3,Vg),(3,6,TK),(2,3,UX),(3,4,UW),(3,5,pq),(1,1,UP),(2,2,TU),(2,2,UA),(1,3,UJ),(3,8,UI),(4,7,UB),(5,11,Vk),(4,8,UD),(2,3,TZ),(2,5,UC),(3,7,Vj),(1,2,UH),(2,4,TR),(2,5,UE),(2,5,TY),(1,4,Vi),(1,1,TV),(5,6,TX),(6,10,xp),(3,4,UG),(1,15,Vh),(3,3,SM),(2,2,SN),(3,5,SO),(1,1,QH),(2,2,QJ),(3,3,QK),(3,3,QL),(1,1,QM),(2,2,PM),(2,2,QN),(2,2,QP),(3,3,QQ),(3,3,QC),(2,2,QD),(3,3,QF),(3,3,RP),(2,2,RQ),(3,4,RS),(2,2,QV),(2,2,QX),(2,2,SQ),(2,2,SR),(3,3,SS),(4,4,PY),(2,2,PZ),(3,4,QB),(2,2,PN),(2,3,PU),(4,5,PV),(2,4,PR),(1,1,PQ),(2,4,PX),(1,1,RJ),(3,5,RK),(2,3,RL),(2,2,RM),(2,5,RN),(1,1,RT),(2,2,SA),(3,4,RZ),(3,6,RU),(3,4,SG),(4,8,RY),(4,4,RW),(2,2,RV),(2,5,SE),(1,1,SD),(1,1,RX),(6,6,SH),(1,1,SI),(1,1,SK),(1,2,SJ),(6,6,Vc),(1,1,SU),(2,3,SW),(1,3,xo),(4,4,Vd),(2,3,SV),(2,3,SX),(4,4,QR),(3,3,QU),(8,8,QY),(1,3,RG),(2,2,RH),(1,1,RF),(1,1,RC),(1,1,RE),(1,1,RA),(1,1,RD),(1,1,QZ),(3,4,Vb)]
noncomputable abbrev pg:Pg:=λi=>Jl[i]?
theorem G4:pr.ir=pg:=by
 have e:pr.defs.map pr.bodyOf=Jl:=by kernel_rfl
 funext i
 show(pr.defs[i]?).map pr.bodyOf=Jl[i]?;rw[<- e,fO]
end AMx
open AM
namespace AMx
open PySem PySem.Spec PyProof.Rows L2 AM
variable {B C N:aF->AH->Prop}{F:AM.Run}{G G':Nat->Nat->Int->Prop}{K':Nat->Yg}{L d gu i j n n1 ng nk np nv:Nat}{Q R V1:AV->AH->Prop}{S:Yh}{a b bF e now p pc am tk u w w1 x y:Int}{bH:Yi}{bb dr:Bool}{fnd held v:AV}{h h' h2:AH}{kv kvs vf:List (aP×AV)}{ls ns ts ws:Ht}{o o':bB}{r row:aM}{rs:List aM}{ss:aR}{tb:Yq}{w0:Hq}{xs:Hr}{Z:aF}
theorem aT{k f nn:Nat}{b:aR}{args:Hr}(e:pg f=aA (np,nn,b))(hl:args.length=np)(w:dZ (run pg k) b (args.map aA++eN (nn-np) aD) h (λ_ h1=>R .aG h1) R (λ_ _=>False) (λ_ _=>False)):WC (run pg (k+1) f args) h R:=WC.of (aSc e hl w)
def oI:Hq->AV
 |none=>.aG
 |some i=>.int i
structure iB where
 tk:Int
 pc:Int
 row:aM
 bH:Yi
 ch:Int
 dr:Bool
 src:Hq
 eY:Hq
 dd:AV
 put:Int
 st:Hq
 fi:Hq
 of:Hq
def iB.fs(s:iB)(w:Nat):Yf:=[("ticket",.int s.tk),("at",.int s.pc),("row",s.row.av),("names",.tup (s.bH.map oI)),("words",.ref w),("chosen",.int s.ch),("dares",.bl s.dr),("source",oI s.src),("held",oI s.eY),("deed",s.dd),("put",.int s.put),("started",oI s.st),("finished",oI s.fi),("off",oI s.of)]
def iB.iF(s:iB):AV:=.tup [.int s.tk,.int s.pc,.tup (s.bH.map oI),oI s.src,s.dd,.tup [.int s.put,oI s.st,oI s.fi,oI s.of]]
theorem Nv{k w:Nat}{s:iB}(o:h.ob n=aA (.ins 18<|s.fs w))(q:R s.iF h):WC (run pg (k+1) 107 [.ref n]) h R:=by
 refine aT rfl rfl ?_;repeat refine aC.of o ?_
 exact q
section
variable {k:Nat}
theorem Cs{z:Int}(q:R (.int<|z%18446744073709551616) h):WC (run pg (k+1) 1 [.int z]) h R:=aT rfl rfl q
theorem BR{z:Int}(z0:0<=z)(q:R (.bl<|decide<|z<64) h):WC (run pg (k+1) 3 [.int z]) h R:=aT rfl rfl (aE.dt z0 q)
theorem aOy(a0:0<=a)(a1:a<18446744073709551616)(b0:0<=b)(q:R (.int<|eA.wk a b .up) h):WC (run pg (k+2) 4 [.int a,.int b]) h R:=by
 refine aT rfl rfl<|BR b0<|aE.dc (λc=>?_) λc=>?_
 .unfold eA.wk at q;simp only[CO c]at q;exact WC.of<|JI (EA a0 a1 b0 (by omega))<|Cs q
 .unfold eA.wk at q;simp only[aOx c]at q;exact q
theorem YI(a0:0<=a)(a1:a<18446744073709551616)(b0:0<=b)(q:R (.int<|eA.wk a b .down) h):WC (run pg (k+2) 5 [.int a,.int b]) h R:=by
 refine aT rfl rfl<|BR b0<|aE.dc (λc=>?_) λc=>?_
 .unfold eA.wk at q;simp only[CO c]at q;exact WC.of<|aQt b0 q
 .unfold eA.wk at q;simp only[YH c a0 a1]at q;exact q
theorem GW(b0:0<b)(b1:b<18446744073709551616)(q:R (.tup [.int (a / b),.int (a%b)]) h):WC (run pg (k+1) 2 [.int a,.int b]) h R:=
 aT rfl rfl (aE.df (by omega)<|WC.of<|aPv (YD b0 b1) q)
theorem aRj{w:eA}(a0:0<=a)(a1:a<18446744073709551616)(b0:0<=b)(b1:b<18446744073709551616)(hz:¬(w.sr=aB/\b=0))(q:R (.int<|w.wk a b) h):WC (run pg (k+3) 6 [.str w.nm,.int a,.int b]) h R:=by
 refine aT rfl rfl ?_;cases w with
 |sum=>exact Cs q|less=>exact Cs q|times=>exact aE.t (by unfold rE;rw[decide_eq_true (show a.natAbs<2 ^ 64 by omega)];rfl)<|Cs q|share=>exact GW (k:=k+1) (by rcases Qg b0 with e|e;exact e;exact absurd ⟨rfl,e.symm⟩ hz) b1 q|rest=>exact GW (k:=k+1) (by rcases Qg b0 with e|e;exact e;exact absurd ⟨rfl,e.symm⟩ hz) b1 q|both=>exact WC.of<|aPr q|uo=>exact WC.of<|aPs q|odd=>exact WC.of<|Pd q|up=>exact aOy a0 a1 b0 q|down=>exact YI a0 a1 b0 q|below=>exact aE.dc (λhc=>by rw[show eA.wk a b .below=1 from if_pos hc]at q;exact q) λhc=>by rw[show eA.wk a b .below=0 from if_neg hc]at q;exact q
 |same=>exact aE.dc (λhc=>by rw[show eA.wk a b .same=1 from if_pos hc]at q;exact q) λhc=>by rw[show eA.wk a b .same=0 from if_neg hc]at q;exact q
theorem Kv(w:eA):¬(w.nm=("load":cX)):=by cases w<;>decide
theorem Ap(w:eA):¬(w.nm=("store":cX)):=by cases w<;>decide
theorem S9(w:eA):¬(w.nm=("set":cX)):=by cases w<;>decide
theorem S7(w:eA):¬(w.nm=("move":cX)):=by cases w<;>decide
theorem tf(w:eA):¬(w.nm=("jump":cX)):=by cases w<;>decide
theorem Kt(w:eA):¬(w.nm=("go":cX)):=by cases w<;>decide
theorem Ks(w:eA):¬(w.nm=("fault":cX)):=by cases w<;>decide
theorem Cq{x y:AV}(e:dW h y=aA xs)(f:(jL x&&xs.all jL)=aB)(n:gR x xs=aB)(q:V1 (.bl aB) h):WC (Cp.g .gw x y) h V1:=WC.of (Pf e f<|n.symm▸q)
theorem ve{x y:AV}(e:dW h y=aA xs)(f:(jL x&&xs.all jL)=aB)(n:gR x xs=aH)(q:V1 (.bl aH) h):WC (Cp.g .gw x y) h V1:=WC.of (Pf e f<|n.symm▸q)
abbrev pD:Hr:=[.str "sum",.str "less",.str "times",.str "share",.str "rest",.str "both",.str "some",.str "odd",.str "up",.str "down",.str "below",.str "same"]
theorem Ku(w:eA):gR (.str w.nm) pD=aB:=by cases w<;>rfl
theorem Ld:gR (.str "set") pD=aH:=by decide +kernel
theorem Lc:gR (.str "move") pD=aH:=by decide +kernel
theorem Lb:gR (.str "load") pD=aH:=by decide +kernel
theorem Le:gR (.str "store") pD=aH:=by decide +kernel
theorem La:gR (.str "jump") pD=aH:=by decide +kernel
theorem Kz:gR (.str "go") pD=aH:=by decide +kernel
theorem Ky:gR (.str "fault") pD=aH:=by decide +kernel
def bK:aR->aR
 |.cons _ t=>t
 |.nil=>.nil
theorem bp{z:Str}{l:Hr}(e:cN l 0=aA (.str z))(n:gR (.str z) pD=aH)(q:dZ (run pg k) (bK<|bK Vl) [aA (.tup l),aA (.str z)] h (λ_ h1=>R .aG h1) R (λ_ _=>False) (λ_ _=>False)):WC (run pg (k+1) 7 [.tup l]) h R:=aT rfl rfl (aC.of e<|ve rfl rfl n q)
theorem IW(q:R (.tup<|r.dB.map .int) h):WC (run pg (k+1) 7 [r.av]) h R:=by
 cases r with
 |way w x y z=>exact aT rfl rfl<|Cq rfl rfl (Ku w) q|set=>exact bp rfl Ld q|move=>exact bp rfl Lc q|load=>exact bp rfl Lb q|store=>exact bp rfl Le q|fU=>exact bp rfl La q|go=>exact bp rfl Kz q|fault=>exact bp rfl Ky q
abbrev HB:Hr:=[.str "set",.str "move",.str "load"]
theorem Hv{z:Str}{l:Hr}(e:cN l 0=aA (.str z))(n:gR (.str z) pD=aH)(m:gR (.str z) HB=aB)(d:cN l 1=aA v)(q:R v h):WC (run pg (k+1) 8 [.tup l]) h R:=aT rfl rfl (aC.of e<|ve rfl rfl n<|Cq rfl rfl m<|aC.of rfl<|aC.of d q)
theorem yu{z:Str}{l:Hr}(e:cN l 0=aA (.str z))(n:gR (.str z) pD=aH)(m:gR (.str z) HB=aH)(q:R .aG h):WC (run pg (k+1) 8 [.tup l]) h R:=aT rfl rfl (aC.of e<|ve rfl rfl n<|ve rfl rfl m q)
theorem Hw(q:R r.fl h):WC (run pg (k+1) 8 [r.av]) h R:=by
 cases r with
 |way w x y z=>exact aT rfl rfl<|Cq rfl rfl (Ku w) q|set=>exact Hv rfl Ld rfl rfl q|move=>exact Hv rfl Lc rfl rfl q|load=>exact Hv rfl Lb rfl rfl q|store=>exact yu rfl Le rfl q|fU=>exact yu rfl La rfl q|go=>exact yu rfl Kz rfl q|fault=>exact yu rfl Ky rfl q
end
section
variable {k:Nat}
theorem Lo(hl:ws.length=r.nw)(q:R (r.pl ws) h):WC (run pg (k+1) 10 [r.av,.tup (ws.map .int)]) h R:=by
 refine aT rfl rfl ?_;cases r with
 |way w x y z=>exact aE.df (Kv w)<|aE.df (Ap w) q|load x y s=>obtain⟨a,rfl⟩:=si hl;exact q|store x y s=>obtain⟨a,b,rfl⟩:=sj hl;exact q|_=>exact q
theorem D0(q:R (.int r.iQ) h):WC (run pg (k+1) 9 [r.av]) h R:=by
 refine aT rfl rfl<|WC.of<|aRr<|cH _ ⟨_,rfl,oG _ ?_⟩;cases r with
 |way w x y z=>exact⟨_,_,rfl,by cases w<;>exact q⟩|_=>exact⟨_,_,rfl,q⟩
theorem AK{mem:Ht}(q:R (.bl<|decide<|0<=p/\p<mem.length) h):WC (run pg (k+1) 20 [.int p,.tup (mem.map .int)]) h R:=by
 refine aT rfl rfl<|aE.dc (λa=>?_) λa=>?_
 .have e:decide (0<=p/\p<(mem.length:Int))=decide (p<((mem.map AV.int).length:Int)):=by rw[aU];exact decide_eq_decide.mpr ⟨λz=>z.2,λz=>⟨a,z⟩⟩
  rw[e]at q;exact q
 .rw[decide_eq_false λz=>a z.1]at q;exact q
end
section
variable {k:Nat}
theorem T4{w:eA}(h:w.sr=aH):¬(w.nm=("share":cX)):=by cases w<;>first|decide|cases h
theorem S8{w:eA}(h:w.sr=aH):¬(w.nm=("rest":cX)):=by cases w<;>first|decide|cases h
theorem aLo(w:eA):w = .share\/w = .rest\/w.sr=aH:=by cases w<;>simp[eA.sr]
theorem x5(hl:ws.length=r.nw)(q:R ((r.ft ws am).getD .aG) h):WC (run pg (k+2) 12 [r.av,.tup (ws.map .int),.int am]) h R:=by
 have hpl:∀{R:AV->AH->Prop},R (r.pl ws) h->WC (run pg (k+1) 10 [r.av,.tup (ws.map .int)]) h R:=λq=>Lo hl q;refine aT rfl rfl ?_;cases r with
 |load x y s=>
  obtain⟨a,rfl⟩:=si hl;refine hpl<|aE.dc (λh0=>aE.nd (λh1=>?_) λh1=>?_) λh0=>?_
  .rw[show aM.ft [a] am (.load x y s)=aA _ from if_neg λz=>h1 z.2]at q;exact q
  .rw[show aM.ft [a] am (.load x y s)=aD from if_pos ⟨h0,h1⟩]at q;exact q
  .rw[show aM.ft [a] am (.load x y s)=aA _ from if_neg λz=>h0 z.1]at q;exact q
 |store x y s=>
  obtain⟨a,b,rfl⟩:=sj hl;refine hpl<|aE.dc (λh0=>aE.nd (λh1=>?_) λh1=>?_) λh0=>?_
  .rw[show aM.ft [a,b] am (.store x y s)=aA _ from if_neg λz=>h1 z.2]at q;exact q
  .rw[show aM.ft [a,b] am (.store x y s)=aD from if_pos ⟨h0,h1⟩]at q;exact q
  .rw[show aM.ft [a,b] am (.store x y s)=aA _ from if_neg λz=>h0 z.1]at q;exact q
 |way w x y z=>
  obtain⟨a,b,rfl⟩:=sj hl;refine aE.df (Ks w) ?_;rcases aLo w with rfl|rfl|hs
  .refine aE.dc (λhc=>?_) λhc=>hpl ?_
   .rw[show aM.ft [a,b] am (.way .share x y z)=aA _ from if_pos hc]at q;exact q
   .rw[show aM.ft [a,b] am (.way .share x y z)=aD from if_neg hc]at q;exact q
  .refine aE.dc (λhc=>?_) λhc=>hpl ?_
   .rw[show aM.ft [a,b] am (.way .rest x y z)=aA _ from if_pos hc]at q;exact q
   .rw[show aM.ft [a,b] am (.way .rest x y z)=aD from if_neg hc]at q;exact q
  .simp only[aM.ft,hs]at q;exact aE.df (T4 hs)<|aE.df (S8 hs)<|hpl q
 |fault v=>exact q|_=>exact hpl q
end
section
variable {k:Nat}
theorem AB(hl:∀x t,r = .fU x t->ws.length=1)(q:R (.int<|r.gs a ws) h):WC (run pg (k+1) 11 [r.av,.int a,.tup (ws.map .int)]) h R:=by
 refine aT rfl rfl ?_;cases r with
 |way w x y z=>exact aE.df (Kt w)<|aE.df (tf w) q|fU x t=>obtain⟨b,rfl⟩:=si (hl _ _ rfl);exact aE.nd (λc=>by rw[show aM.gs a [b] (.fU x t)=t from if_pos c]at q;exact q) λc=>by rw[show aM.gs a [b] (.fU x t)=a+1 from if_neg λz=>z c]at q;exact q
 |_=>exact q
end
section
variable {k:Nat}
theorem yR{z:Str}{l:Hr}{u:AV}(e:cN l 0=aA (.str z))(n:gR (.str z) pD=aH)(q:dZ (run pg k) (bK<|bK Ve) [aA (.tup l),aA u,aA v,aA (.str z)] h (λ_ h1=>R .aG h1) R (λ_ _=>False) (λ_ _=>False)):WC (run pg (k+1) 13 [.tup l,u,v]) h R:=aT rfl rfl (aC.of e<|ve rfl rfl n q)
theorem VP(hl:ws.length=r.nw)(hw:kY ws)(hf:∀w x y z,r = .way w x y z->¬(w.sr=aB/\cell ws 1=0))(q:R (r.br ws held) h):WC (run pg (k+4) 13 [r.av,.tup (ws.map .int),held]) h R:=by
 cases r with
 |way w x y z=>obtain⟨a,b,rfl⟩:=sj hl;have c:=hw a (by simp);have d:=hw b (by simp);exact aT rfl rfl<|Cq rfl rfl (Ku w)<|aRj c.1 c.2 d.1 d.2 (hf w x y z rfl) q
 |set=>exact yR rfl Ld q|move=>obtain⟨a,rfl⟩:=si hl;exact yR rfl Lc q|load=>exact yR rfl Lb q|store=>obtain⟨a,b,rfl⟩:=sj hl;exact yR rfl Le q|fU=>exact yR rfl La q|go=>exact yR rfl Kz q|fault=>exact yR rfl Ky q
theorem B0{w:eA}{z:Int}(h:(aM.way w x y z).ft ws am=aD):¬(w.sr=aB/\cell ws 1=0):=by
 rintro ⟨a,b⟩
 simp[aM.ft,a,b]at h
theorem Ig{f:AV}(e:r.ft ws am=aA f):∃xs,f = .tup xs:=by
 cases r<;>simp only[aM.ft]at e<;>first
  | (cases e;done)
  | (cases e;exact⟨_,rfl⟩)
  | (split at e<;>cases e<;>exact⟨_,rfl⟩)
  |skip
 rename_i w x y z;cases a:w.sr with
 |true=>rw[a]at e;simp only[cond]at e;split at e<;>cases e;exact⟨_,rfl⟩|false=>rw[a]at e;cases e
theorem O3(hl:ws.length=r.nw)(hw:kY ws)(q:R (r.gi a ws am held) h):WC (run pg (k+5) 14 [r.av,.int a,.tup (ws.map .int),.int am,held]) h R:=by
 refine aT rfl rfl<|x5 hl ?_;unfold aM.gi at q;cases e:r.ft ws am with
 |some f=>rw[e]at q;obtain⟨xs,rfl⟩:=Ig e;exact q
 |none=>rw[e]at q;exact Hw<|Lo hl<|VP hl hw (λw x y z b=>by subst b;exact B0 e)<|AB (λx t b=>by subst b;exact hl) q
end
section
variable {k:Nat}
theorem aLn{w:Nat}{s:iB}(o:h.ob n=aA (.ins 18<|s.fs w))(ow:h.ob w=aA (.lst aB<|ws.map AV.int))(hl:ws.length=s.row.nw)(q:R (s.row.pl ws) h):WC (run pg (k+2) 106 [.ref n]) h R:=by refine aT rfl rfl ?_;exact aC.of o<|aC.of o<|WC.of<|vM (cO ow)<|Lo (k:=k) hl q
theorem aKf{w g:Nat}{s:iB}(o:h.ob n=aA (.ins 18<|s.fs w))(hj:∀x t,s.row ≠ .fU x t)(q:R (.int<|s.row.gs s.pc []) h):WC (run pg (k+2) 19 [.ref n,.ref g]) h R:=by
 obtain⟨tk,pc,r,bH,ch,dr,src,eY,dd,pt,st,fi,of⟩:=s;have a:WC (run pg (k+1) 11 [r.av,.int pc,.tup []]) h R:=AB (ws:=[]) (λx t e=>absurd e (hj x t)) q;refine aT rfl rfl ?_;refine aC.of o ?_;cases r with
 |fU x t=>exact absurd rfl<|hj x t|way ww x y z=>refine aE.df (tf ww) ?_;refine aC.of o ?_;refine aC.of o ?_;exact a|_=>refine aC.of o ?_;refine aC.of o ?_;exact a
theorem PH{fs:List (cX×AV)}(o:h.ob n=aA (.ins 19 fs))(e1:fs.lookup ("ahead":cX)=aA (AV.int a))(e2:fs.lookup ("program":cX)=aA (AV.ref np))(op:h.ob np=aA (.lst aB xs))(q:R (.bl<|decide<|(xs.length:Int)<=a) h):WC (run pg (k+1) 109 [.ref n]) h R:=by refine aT rfl rfl ?_;refine aC.of o ?_;refine aC.of e1 ?_;refine aC.of o ?_;exact aC.of e2<|WC.of<|kK (cO op) q
end
section
variable {k:Nat}
theorem aLa{pt:Int}(o:h.ob n=aA (.ins 18 []))(hn:n<h.nx)(hl:bH.length<=2)
  (q:∀h',h'.nx=h.nx+2->h'.ob n=aA (.ins 18<|iB.fs ⟨tk,pc,r,bH,pc+1,aH,aD,aD,.aG,pt,aD,aD,aD⟩<|h.nx+1)->h'.ob (h.nx+1)=aA (.lst aB<|eN bH.length .aG)->(∀m,m≠n->m<h.nx->h'.ob m=h.ob m)->R .aG h') :
  WC (run pg (k+1) 104 [.ref n,.int tk,.int pc,r.av,.tup (bH.map oI),.int pt]) h R:=by
 have l1:(0:Int)<=((bH.map oI).length:Int):=by omega
 have l2:[AV.aG].length*((bH.map oI).length:Int).toNat<=sizeLine:=by
  have e:(sizeLine:Nat) > 1000:=by decide
  rw[aU];simp only[jC,Qr,rT];omega
 have l3:((bH.map oI).length:Int)<2 ^ 63:=by rw[aU];omega
 refine aT rfl rfl ?_;refine aC.of o ?_;refine aC.of bS ?_;refine aC.of bS ?_;refine aC.of bS ?_;refine WC.of<|JH bP l1 l2 l3 ?_;refine aC.of rfl ?_;refine aC.of rfl ?_;refine aC.of (Eq.trans (dY<|show n≠_ from λe=>?a)<|Eq.trans (dY<|show n≠_ from λe=>?b) bS) ?_
 case a=>have:n=h.nx+1:=e;omega
 case b=>have:n=h.nx:=e;omega
 refine aC.of bS ?_;refine aC.of bS ?_;refine aC.of bS ?_;refine aC.of bS ?_;refine aC.of bS ?_;refine aC.of bS ?_;refine aC.of bS ?_;refine aC.of bS ?_;refine aC.of bS ?_;refine q _ rfl bS ?_ λm hm hx=>?_
 .repeat rw[bN (show h.nx+1≠n by omega)]
  refine bP.trans ?_;rw[aU,rT,LH]
 .repeat rw[bN hm]
  rw[dY (show m≠_ from λe=>by have:m=h.nx+1:=e;omega),dY (show m≠_ from λe=>by have:m=h.nx:=e;omega)];repeat rw[bN hm]
end
section
variable {k:Nat}
theorem A0(vs:Yi):(vs.map oI).all jL=aB:=by rw[List.all_map,KQ];intro v _;cases v<;>rfl
theorem S4(vs:Yi):(!gR .aG (vs.map oI))=vs.all ly:=by
 induction vs with
 |nil=>rfl|cons v vs a=>have e:gR .aG ((v::vs).map oI)=(Ho (oI v) .aG||gR .aG (vs.map oI)):=rfl;rw[e,Bool.not_or,a];cases v<;>rfl
theorem aJu{w:Nat}{s:iB}{vs:Yi}(o:h.ob n=aA (.ins 18<|s.fs w))(ow:h.ob w=aA (.lst aB<|vs.map oI))(q:R (.bl<|vs.all ly) h):WC (run pg (k+1) 105 [.ref n]) h R:=by rw[<- S4]at q;refine aT rfl rfl ?_;exact aC.of o<|WC.of<|aQp (cO ow) (by rw[A0];rfl) q
end
section
variable {k:Nat}
theorem G8{i:Int}(hn:0<n):∃j,jS n (i%(n:Int))=aA j/\j<n:=by have h0:0<=i%n:=mE _ (by lia);have a:i%n<n:=mP _ (by lia);refine⟨(i%n).toNat,?_,by lia⟩;unfold jS;simp only[h0,a,if_true]
structure wF(h:AH)(t l:Nat)(ls:Ht):Prop where
 ob:h.ob t=aA (.ins 6 [("levels",.ref l)])
 lv:h.ob l=aA (.lst aB<|ls.map AV.int)
 pos:0<ls.length
theorem wF.len{t l:Nat}(T:wF h t l ls):(0:Int)<((ls.map AV.int).length:Int):=by rw[aU];have:=T.pos;omega
theorem wF.at{t l:Nat}(T:wF h t l ls){i:Int}:cN (ls.map AV.int) (i%((ls.map AV.int).length:Int))=aA (.int<|cell ls<|i%((ls.map AV.int).length:Int)):=
 ox (mE _ (by have:=T.len;lia)) (mP _ T.len)
theorem Jx{t l:Nat}{i:Int}(T:wF h t l ls)(q:∀b,R (.bl b) h):WC (run pg (k+1) 57 [.ref t,.int i]) h R:=by refine aT rfl rfl ?_;refine aC.of T.ob<|aC.of T.ob ?_;refine WC.of<|kK (cO T.lv) ?_;refine aE.dt T.len ?_;exact WC.of<|gQ (cO T.lv) T.at<|WC.of<|Pf rfl rfl<|q _
theorem Ki{t l:Nat}{i:Int}{b:Bool}(T:wF h t l ls)(q:∀CG:Ht,0<CG.length->R .aG (h.put l<|.lst aB<|CG.map AV.int)):WC (run pg (k+1) 58 [.ref t,.int i,.bl b]) h R:=by
 obtain⟨j,hj,_⟩:=G8 (i:=i) (n:=(ls.map AV.int).length) (by rw[aU];exact T.pos);have fin:∀c:Int,WC (nX (.ref l) (.int<|i%((ls.map AV.int).length:Int))<|.int c) h λ_ h3=>R .aG h3:=λc=>by refine Po T.lv hj ?_;have:=q (ls.set j c) (by rw[tN];exact T.pos);rw[Dy]at this;exact this
 refine aT rfl rfl ?_;refine aC.of T.ob ?_;refine WC.of<|kK (cO T.lv) ?_;refine aE.dt T.len ?_;refine aC.of T.ob ?_;refine WC.of<|gQ (cO T.lv) T.at ?_;refine aE.by (λe=>?_) λe=>?_
 .exact aC.of T.ob<|fin _
 .exact aC.of T.ob<|fin _
end
section
variable {K:Nat->Yg}{c c':Nat}
inductive Go(K:Nat->Yg)(c:Nat):Nat->bB->Prop
 |ta {l:Nat} (e:K l=aA 1):Go K c 0 (.ins 6 [("levels",.ref l)])
 |lv {ls:Ht} (p:0<ls.length):Go K c 1 (.lst aB<|ls.map AV.int)
 |tr {bs:ZE}:Go K c 2 (.lst aB<|bs.map AV.bl)
 |dc {kvs:List (aP×AV)} (hb:∀j v,bL kvs j=aA v->∃b,v = .bl b) (hc:kvs.length<=c):Go K c 3 (.aN kvs)
 |pl {d:Nat}{i:Int}:Go K c (d+4) (.ins 7 [("learned",.int i)])
 |al {d:Nat}{i:Int}:Go K c (d+4) (.ins 8 [("learned",.int i)])
 |la {d m:Nat}{i:Int}{f:Bool} (e:K m=aA 3):Go K c (d+4) (.ins 9 [("learned",.int i),("first",.bl f),("lately",.ref m)])
 |co {d t:Nat}{i:Int} (e:K t=aA 0):Go K c (d+4) (.ins 10 [("learned",.int i),("tally",.ref t)])
 |pa {d t:Nat}{i g x:Int} (e:K t=aA 0) (g0:0<=g/\g<16) (x0:0<=x/\x<65536):Go K c (d+4) (.ins 11 [("learned",.int i),("tally",.ref t),("length",.int g),("trail",.int x)])
 |li {d l:Nat}{i:Int} (e:K l=aA 2):Go K c (d+4) (.ins 12 [("learned",.int i),("truths",.ref l)])
 |tu {d m:Nat}{i:Int} (e:K m=aA (d+4)):Go K c (d+5) (.ins 13 [("learned",.int i),("one",.ref m)])
 |ch {d m m' t:Nat}{i:Int} (e:K m=aA (d+4)) (e':K m'=aA (d+4)) (f:K t=aA 0):Go K c (d+5) (.ins 14 [("learned",.int i),("one",.ref m),("other",.ref m'),("tally",.ref t)])
theorem Go.up{t:Nat}(z:Go K c t o)(hc':c<=c')(hk:∀m s,K m=aA s->K' m=aA s):Go K' c' t o:=by
 cases z with
 |ta e=>exact .ta<|hk _ _ e|lv p=>exact .lv p|tr=>exact .tr|dc hb a=>exact .dc hb<|dG a hc'|pl=>exact .pl|al=>exact .al|la e=>exact .la<|hk _ _ e|co e=>exact .co<|hk _ _ e|pa e b x0=>exact .pa (hk _ _ e) b x0|li e=>exact .li<|hk _ _ e|tu e=>exact .tu<|hk _ _ e|ch e d f=>exact .ch (hk _ _ e) (hk _ _ d)<|hk _ _ f
noncomputable abbrev ym:Ye:=[(7,60),(8,64),(9,66),(10,69),(11,72),(12,75),(13,77),(14,80)]
noncomputable abbrev YJ:Ye:=[(7,61),(8,61),(9,67),(10,70),(11,73),(12,61),(13,78),(14,81)]
noncomputable abbrev yn:Ye:=[(7,62),(8,62),(9,62),(10,62),(11,62),(12,62),(13,62),(14,62)]
inductive Ug(K:Nat->Yg)(c t:Nat):bB->Prop
 |mk {cl:Nat}{i:Int}{fs:Yf} (a:[7,8,9,10,11,12,13,14].contains cl=aB) (b:yn.lookup cl=aA 62) (e:(rX ("learn":Str)<|("learned",.int i)::fs).isNone=aB) (l:decide (((("learned",.int i):Str×AV)::fs).length<1000)=aB) (g:∀j,Go K c t (.ins cl<|("learned",.int j)::fs)):Ug K c t (.ins cl<|("learned",.int i)::fs)
theorem Go.top(z:Go K c (d+4) o):Ug K c (d+4) o:=by
 cases z with
 |pl=>exact⟨rfl,rfl,rfl,rfl,λ_=>.pl⟩|al=>exact⟨rfl,rfl,rfl,rfl,λ_=>.al⟩|la e=>exact⟨rfl,rfl,rfl,rfl,λ_=>.la e⟩|co e=>exact⟨rfl,rfl,rfl,rfl,λ_=>.co e⟩|pa e a x0=>exact⟨rfl,rfl,rfl,rfl,λ_=>.pa e a x0⟩|li e=>exact⟨rfl,rfl,rfl,rfl,λ_=>.li e⟩|tu e=>exact⟨rfl,rfl,rfl,rfl,λ_=>.tu e⟩|ch e b f=>exact⟨rfl,rfl,rfl,rfl,λ_=>.ch e b f⟩
def TH(K:Nat->Yg)(c:Nat)(h:AH):Prop:=∀n t,K n=aA t->∃o,h.ob n=aA o/\Go K c t o
def Kl(K:Nat->Yg)(h:AH):Prop:=∀n t,K n=aA t->n<h.nx
theorem Kl.up(l:Kl K h)(e:h.nx<=h'.nx):Kl K h':=λn t z=>bA (l n t z) e
theorem Kl.no(l:Kl K h)(e:h.nx<=n):K n=aD:=by
 cases z:K n with
 |none=>rfl|some t=>exact absurd (l n t z)<|Nat.not_lt.mpr e
theorem TH.kp(T:TH K c h)(l:Kl K h)(k:Kp h h'):TH K c h':=λn t e=>(T n t e).imp λ_ z=>⟨k.get (l n t e) z.1,z.2⟩
theorem TH.le(T:TH K c h)(z:c<=c'):TH K c' h:=λn t e=>(T n t e).imp λ_ y=>⟨y.1,y.2.up z λ_ _ w=>w⟩
theorem TH.put(T:TH K c h){n t:Nat}{o:bB}(e:K n=aA t)(z:Go K c t o):TH K c (h.put n o):=λm u f=>by
 by_cases hm:m=n
 .subst hm;cases e.symm.trans f;exact⟨_,bS,z⟩
 .rw[bN hm];exact T m u f
theorem TH.jm(T:TH K c h){t:Nat}(e:K t=aA 0):∃l ls,wF h t l ls/\K l=aA 1:=by
 obtain⟨_,o,z⟩:=T t 0 e;cases z with
 |ta f=>
  obtain⟨_,p,z⟩:=T _ 1 f;cases z with
  |lv w=>exact⟨_,_,⟨o,p,w⟩,f⟩
theorem OS{m t u:Nat}(e:K n=aA t)(f:K m=aA u)(z:t≠u):n≠m:=λw=>z (dI<|(w▸e).symm.trans f)
structure Kk(K:Nat->Yg)(b:Nat)(h h':AH):Prop where
 nx:h.nx<=h'.nx
 ob:∀m,m<h.nx->(∀t,K m=aA t->b<t)->h'.ob m=h.ob m
theorem Kk.of{b:Nat}(k:Kp h h'):Kk K b h h':=⟨k.nx,λm hm _=>k.ob m hm⟩
theorem Kk.trans{b:Nat}{x y z:AH}(p:Kk K b x y)(q:Kk K b y z):Kk K b x z:=⟨dG p.nx q.nx,λm hm z=>(q.ob m (bA hm p.nx) z).trans (p.ob m hm z)⟩
theorem Kk.put{b n t:Nat}{o:bB}{x y:AH}(p:Kk K b x y)(e:K n=aA t)(z:t<=b):Kk K b x (y.put n o):=⟨p.nx,λm hm w=>(bN λv=>absurd (w t (by rw[v];exact e)) (Nat.not_lt.mpr z)).trans (p.ob m hm w)⟩
theorem Kk.le{b b':Nat}(p:Kk K b h h')(z:b<=b'):Kk K b' h h':=⟨p.nx,λm hm w=>p.ob m hm λt e=>lu z (w t e)⟩
theorem PD{bs:ZE}{i:Int}(h0:0<=i)(h1:i<(bs.map AV.bl).length):∃b,cN (bs.map AV.bl) i=aA (.bl b):=by
 have hl:i.toNat<bs.length:=by rw[aU]at h1;lia
 unfold cN jS;rw[if_pos h0,if_pos h1];exact⟨bs[i.toNat],by simp only[jP,fO,eM hl,yA]⟩
def Uh(L n:Nat)(a:Int)(h:AH)(R:AV->AH->Prop):Prop:=gW (.ref n) h λn c fs=>aC (ym.lookup c) λi=>aE (fs.lookup ("guess":cX)).isNone (WC (run pg L i [.ref n,.int a]) h R) False
def Fh(K:Nat->Yg)(d:Nat):Prop:=∀{h:AH}{c n:Nat},TH K c h->Kl K h->K n=aA (d+4)->∀{L:Nat}{a:Int}{R:AV->AH->Prop},d+2<=L->(∀b h',Kp h h'->R (.bl b) h')->Uh L n a h R
theorem AG(IH:∀d',d'+1=d->Fh K d'):Fh K d:=by
 intro h c n T l e L a R x q;obtain⟨L,rfl⟩:∃s,L=s+2:=⟨L-2,by lia⟩;obtain⟨_,o,z⟩:=T _ _ e;cases z with
 |pl=>exact aC.of o<|aT rfl rfl<|q _ _ Kp.refl|al=>exact aC.of o<|aT rfl rfl<|q _ _ Kp.refl|la f=>
  obtain⟨_,od,z⟩:=T _ _ f;cases z with
  |dc hb y=>
   rename_i m;refine aC.of o<|aT rfl rfl<|aC.of o<|aE.t rfl<|aC.of rfl<|aE.t (qO od)<|aC.of o<|aE.t rfl<|aC.of rfl<|WC.of<|JB (k:=.inl a) od rfl ?_;cases e:bL m (.inl a) with
   |none=>exact q _ _ Kp.refl|some v=>obtain⟨b,rfl⟩:=hb _ _ e;exact q _ _ Kp.refl
 |co f=>obtain⟨_,_,t,_⟩:=T.jm f;exact aC.of o<|aT rfl rfl<|aC.of o<|aE.t rfl<|aC.of rfl<|aC.of t.ob<|Jx (k:=L) t λb=>q _ _ Kp.refl
 |pa f A x0=>obtain⟨_,_,t,_⟩:=T.jm f;exact aC.of o<|aT rfl rfl<|aC.of o<|aE.t rfl<|aC.of rfl<|aC.of t.ob<|aC.of rfl<|aE.t rfl<|aC.of o<|aE.t rfl<|aC.of rfl<|WC.of<|Pd<|Jx (k:=L) t λb=>q _ _ Kp.refl
 |li f=>
  obtain⟨_,ol,z⟩:=T _ _ f;cases z with
  |tr=>
   rename_i i bs;have p:=(dY (o:=.lst aB [])<|bQ<|l _ _ e).trans o;have j:=(dY (o:=.lst aB [])<|bQ<|l _ _ f).trans ol;refine aC.of o<|aT rfl rfl<|aC.of o<|aE.t rfl<|aC.of rfl<|WC.of<|aPy rfl (Hn (h:=h.new (.lst aB [])) (b1:=aB) (b2:=aB) j bP) ?_;cases bs with
   |nil=>exact q _ _ Kp.refl.new|cons r bs=>
    have hl:(0:Int)<(((r::bs).map AV.bl).length:Int):=by simp only[aU,jC];lia
    obtain⟨b,u⟩:=PD (bs:=r::bs) (mE i (by lia)) (mP i hl);refine aC.of rfl<|aE.df (by simp)<|aC.of p<|aE.t rfl<|aC.of rfl<|aC.of p<|aE.t rfl<|aC.of rfl<|aC.of p<|aE.t rfl<|aC.of rfl<|WC.of<|kK (cO j)<|aE.dt hl<|WC.of<|gQ (cO j) u ?_;exact q _ _ Kp.refl.new
 |tu f=>exact aC.of o<|aT rfl rfl<|aC.of o<|aE.t rfl<|aC.of rfl<|IH _ rfl T l f (by omega) λb B kp=>q _ _ kp|ch f w g=>
  obtain⟨_,_,t,_⟩:=T.jm g;refine aC.of o<|aT rfl rfl<|aC.of o<|aE.t rfl<|aC.of rfl<|aC.of t.ob<|Jx (k:=L) t λb=>aE.by (λ_=>?_) λ_=>?_
  .exact aC.of o<|aE.t rfl<|aC.of rfl<|IH _ rfl T l w (by omega) q
  .exact aC.of o<|aE.t rfl<|aC.of rfl<|IH _ rfl T l f (by omega) q
theorem qy:∀d,Fh K d
 |0=>AG λd' e=>by omega
 |d+1=>AG λd' e=>by
  obtain rfl:d'=d:=by omega
  exact qy d'
def wy(L n:Nat)(a:Int)(b:Bool)(h:AH)(R:AV->AH->Prop):Prop:=gW (.ref n) h λn c fs=>aC (YJ.lookup c) λi=>aE (fs.lookup ("heed":cX)).isNone (WC (run pg L i [.ref n,.int a,.bl b]) h R) False
def Fm(L n:Nat)(a:Int)(b:Bool)(h:AH)(R:AV->AH->Prop):Prop:=gW (.ref n) h λn c fs=>aC (yn.lookup c) λi=>aE (fs.lookup ("learn":cX)).isNone (WC (run pg L i [.ref n,.int a,.bl b]) h R) False
def nz(K:Nat->Yg)(W:Nat->Nat->Int->Bool->AH->(AV->AH->Prop)->Prop)(d l:Nat):Prop:=∀{h:AH}{c n:Nat},TH K c h->Kl K h->K n=aA (d+4)->c+2 ^ d<=2000->∀{L:Nat}{a:Int}{b:Bool}{R:AV->AH->Prop},l<=L->(∀h',Kk K (d+4) h h'->TH K (c+2 ^ d) h'->R .aG h')->W L n a b h R
theorem ru(H:nz K wy d (2*d+2)):nz K Fm d (2*d+3):=by
 intro h c n T l e g L a b R t q;obtain⟨L,rfl⟩:∃i,L=i+1:=⟨L-1,by lia⟩;obtain⟨_,o,z⟩:=T _ _ e;cases z.top with
 |mk _ j k _ _=>
  refine aC.of o<|aC.of j<|aE.t k<|aT rfl rfl<|H T l e g (by lia) λu m f=>?_;obtain⟨_,o,z⟩:=f _ _ e;cases z.top with
  |mk p _ _ r s=>exact aC.of o<|aE.t p<|aC.of rfl<|aC.of rfl<|aC.of o<|aE.dt rfl<|aE.t r<|q _ (m.put e<|aV _)<|f.put e<|s _
theorem II(d:Nat):1<=2 ^ d:=Nat.one_le_two_pow
theorem AI(IH:∀d',d'+1=d->nz K wy d' (2*d'+2)):nz K wy d (2*d+2):=by
 intro h c n T l e Y L a b R Z q;have big:sizeLine=16777216:=oR;have hp:=II d;have w:∀{C},Kk K (d+4) h C->TH K c C->R .aG C:=λr T=>q _ r (T.le<|mR _ _);obtain⟨L,rfl⟩:∃Q,L=Q+2:=⟨L-2,by omega⟩;obtain⟨_,o,z⟩:=T _ _ e;cases z with
 |pl=>exact aC.of o<|aT rfl rfl<|w (Kk.of Kp.refl) T|al=>exact aC.of o<|aT rfl rfl<|w (Kk.of Kp.refl) T|li f=>exact aC.of o<|aT rfl rfl<|w (Kk.of Kp.refl) T|la f=>
  obtain⟨_,od,z⟩:=T _ _ f;cases z with
  |dc hb E=>
   refine aC.of o<|aT rfl rfl<|aC.of o<|aE.t rfl<|aC.of rfl<|rO (k:=.inl a) od rfl (by omega) ?_;refine q _ ((Kk.of Kp.refl).put f (by omega))<|(T.le<|mR _ _).put f (.dc (λj v e=>?_)<|dG Bb<|Nat.add_le_add E<|II d);rw[Cd]at e;split at e
   .cases e;exact⟨_,rfl⟩
   .exact hb _ _ e
 |co f=>obtain⟨_,_,t,g⟩:=T.jm f;exact aC.of o<|aT rfl rfl<|aC.of o<|aE.t rfl<|aC.of rfl<|aC.of t.ob<|Ki (k:=L) t λp z=>w ((Kk.of Kp.refl).put g (by omega)) (T.put g<|.lv z)
 |pa f G x0=>
  rename_i g x;obtain⟨H,_,t,u⟩:=T.jm f;refine aC.of o<|aT rfl rfl<|aC.of o<|aE.t rfl<|aC.of rfl<|aC.of t.ob<|aC.of rfl<|aE.t rfl<|aC.of o<|aE.t rfl<|aC.of rfl<|WC.of<|Pd<|Ki (k:=L) t λp z=>?_;have A:=(bN (o:=.lst aB (p.map AV.int))<|OS e u (by omega)).trans o;have I:=T.put u (.lv z);have r:Kk K (d+4) h (h.put H<|.lst aB<|p.map AV.int):=(Kk.of Kp.refl).put u (by omega);generalize h.put H (.lst aB<|p.map AV.int)=J at A I r ⊢;have p0:(0:Int)<1*2 ^ g.toNat:=by rw[KL];exact KM (by decide)
  have p1:(1:Int)*2 ^ g.toNat<=65536:=by
   rw[KL];have:g.toNat<=16:=by omega
   have:=MN (n:=2) (by decide) this;have e:((2 ^ g.toNat:Nat):Int)=2 ^ g.toNat:=by rw[Int.natCast_pow];rfl
   omega
  refine aC.of A<|aE.t rfl<|aC.of rfl<|aE.t (Ko (by omega) (by omega)) ?_;have fin:∀y:Int,WC (Op.g .shl (.int 1)<|.int g) J λz M=>Pb .mod (.int y) z M λv s=>gW (.ref n) s λn c fs=>aE ([11].contains c) (aE (decide<|fs.length<1000) (R .aG<|s.put n<|.ins c<|gJ "trail" v fs) False) False:=λy=>by refine WC.of<|JI (EA (by decide) (by decide) G.1 (by omega))<|aE.dt p0<|aC.of A ?_;exact w (r.put e<|aV _)<|I.put e<|.pa f G ⟨mE _ (by omega),Dk (mP _ p0) p1⟩
  cases b with
  |true=>exact aC.of A<|aE.t rfl<|aC.of rfl<|fin _|false=>exact aC.of A<|aE.t rfl<|aC.of rfl<|fin _
 |tu f=>rename_i d' _ _;refine aC.of o<|aT rfl rfl<|aC.of o<|aE.t rfl<|aC.of rfl ?_;have:=MN (n:=2) (by decide) (hA d');exact ru (IH d' rfl) T l f (by omega) (by omega) λC r S=>q _ (r.le (by omega)) (S.le (by omega))
 |ch f N g=>
  rename_i d' m _ _ _;have p2:2 ^ (d'+1)=2 ^ d'+2 ^ d':=by rw[Nat.pow_succ,Nat.mul_two]
  refine aC.of o<|aT rfl rfl<|aC.of o<|aE.t rfl<|aC.of rfl<|qy d' T l N (by omega) λb1 J k1=>?_;refine aC.of (k1.get (l _ _ e) o)<|aE.t rfl<|aC.of rfl<|qy d' (T.kp l k1) (l.up k1.nx) f (by omega) λb2 M k2=>?_;have k2:=k1.trans k2;have keep:∀{s},Kk K (d'+4) h s->s.ob n=h.ob n:=λr=>r.ob n (l _ _ e) λt z=>by rw[e]at z;cases z;omega
  have F:=T.kp l k2;obtain⟨_,_,t,u⟩:=F.jm g;have rest:∀(s:AH),Kk K (d'+4) h s->TH K c s->Fm (L+1) m a b s λ_ D=>gW (.ref n) D λ_ c fs=>aE ([14].contains c) (aC (fs.lookup ("other":cX)) λv=>gW v D λn c fs=>aC (yn.lookup c) λi=>aE (fs.lookup ("learn":cX)).isNone (WC (run pg (L+1) i [.ref n,.int a,.bl b]) D λ_ O=>R .aG O) False) False:=λs r U=>by refine ru (IH d' rfl) U (l.up r.nx) f (by omega) (by omega) λD B V=>?_;have B:=r.trans B;refine aC.of ((keep B).trans o)<|aE.t rfl<|aC.of rfl<|ru (IH d' rfl) V (l.up B.nx) N (by omega) (by omega) λO W X=>?_;exact q _ ((B.trans W).le (by omega))<|X.le (by omega)
  refine aC.of rfl<|aC.of rfl<|WC.of<|aQm rfl<|aC.of rfl<|aE.nd (λ_=>?_) λ_=>?_
  .refine aC.of (k2.get (l _ _ e) o)<|aE.t rfl<|aC.of rfl<|aC.of t.ob<|aC.of rfl<|aE.t rfl<|aC.of rfl<|aC.of rfl<|WC.of<|Ci rfl<|Ki (k:=L) t λp z=>?_;have P:=(Kk.of (K:=K) (b:=d'+4) k2).put (o:=.lst aB (p.map AV.int)) u (by omega);exact aC.of ((keep P).trans o)<|aE.t rfl<|aC.of rfl<|rest _ P<|F.put u<|.lv z
  .exact aC.of (k2.get (l _ _ e) o)<|aE.t rfl<|aC.of rfl<|rest _ (Kk.of k2) F
theorem Ja:∀d,nz K wy d (2*d+2)
 |0=>AI λd' e=>by omega
 |d+1=>AI λd' e=>by
  obtain rfl:d'=d:=by omega
  exact Ja d'
end
structure Kx(S:Yh)(h h':AH):Prop where
 nx:h.nx<=h'.nx
 ob:∀m,m<h.nx->m∉S->h'.ob m=h.ob m
theorem Kx.refl:Kx S h h:=⟨aV _,λ_ _ _=>rfl⟩
theorem Kx.trans{S:Yh}{a b c:AH}(x:Kx S a b)(y:Kx S b c):Kx S a c:=⟨dG x.nx y.nx,λm hm d=>(y.ob m (bA hm x.nx) d).trans (x.ob m hm d)⟩
theorem Kx.put{S:Yh}{a b:AH}{n:Nat}{o:bB}(x:Kx S a b)(hn:n∈S):Kx S a (b.put n o):=⟨x.nx,λm hm c=>(bN λe=>c (by rw[e];exact hn)).trans (x.ob m hm c)⟩
theorem Kx.of{a b:AH}(x:Kp a b):Kx S a b:=⟨x.nx,λm hm _=>x.ob m hm⟩
theorem Kx.sub{S':Yh}{a b:AH}(x:Kx S a b)(hs:∀m∈S,m∈S'):Kx S' a b:=⟨x.nx,λm hm hn=>x.ob m hm λz=>hn (hs m z)⟩
section
variable {k:Nat}{K:Nat->Yg}{c:Nat}
theorem rJ{c i:Int}(h0:0<=i)(h1:i<1000)(q:∀z,0<=z->z<2147483647->R (.int z) h):WC (run pg (k+1) 37 [.int c,.int i]) h R:=
 aT rfl rfl (WC.of<|Ph rfl<|aE.t (Ko (by omega) (by omega))<|aE.t (R6 (by omega) (by omega))<|q _ (mE _ (by decide))<|mP _ (by decide))
def pM(L c i:Nat)(as:Hr)(h:AH)(Q:AV->AH->Prop):Prop:=WC (run pg L i<|.ref h.nx::as) (h.new<|.ins c []) λv h2=>v = .aG/\Q (.ref h.nx) h2
def uz(K:Nat->Yg)(n t:Nat):Nat->Yg:=λm=>if m=n then aA t else K m
theorem vI{t m:Nat}(e:m≠n):uz K n t m=K m:=if_neg e
theorem IK{t:Nat}(e:K n=aD)(m s:Nat)(z:K m=aA s):uz K n t m=aA s:=(vI λw=>by rw[w,e]at z;cases z).trans z
theorem TH.add{t:Nat}(T:TH K c h)(e:K n=aD)(ho:h.ob n=aA o)(z:Go K c t o):TH (uz K n t) c h:=λm u f=>by
 by_cases hm:m=n
 .subst hm;cases(if_pos rfl).symm.trans f;exact⟨o,ho,z.up (aV _) (IK e)⟩
 .exact(T m u<|(vI hm).symm.trans f).imp λ_ y=>⟨y.1,y.2.up (aV _) (IK e)⟩
theorem Kl.add{t:Nat}(l:Kl K h)(e:n<h.nx):Kl (uz K n t) h:=λm u f=>by
 by_cases hm:m=n
 .rw[hm];exact e
 .exact l m u<|(vI hm).symm.trans f
def Gn(K:Nat->Yg)(c:Nat)(h:AH)(d:Nat)(Q:AV->AH->Prop):Prop:=∀h' n K',Kp h h'->TH K' c h'->Kl K' h'->(∀m,m<h.nx->K' m=K m)->K' n=aA (d+4)->Q (.ref n) h'
theorem TH.putN(T:TH K c h)(e:K n=aD):TH K c (h.put n o):=λm u f=>by rw[bN λw=>by rw[w,e]at f;cases f];exact T m u f
theorem Gn.at(q:Gn K c h d R)(l:Kl K h)(kp:Kp h h')(T:TH K' c h')(l':Kl K' h')(a:∀m,m<=h.nx->K' m=K m)(lt:h.nx<h'.nx)(z:Go K' c (d+4) o):R (.ref h.nx) (h'.put h.nx o):=
 have e:K' h.nx=aD:=(a _<|aV _).trans (l.no<|aV _);q _ _ (uz K' h.nx<|d+4) (kp.put<|aV _) ((T.putN e).add e bS z) (l'.add lt) (λm hm=>(vI<|bQ hm).trans (a m<|mS hm)) (if_pos rfl)
theorem wZ{c:Nat}(o:h.ob n=aA (.ins c []))(hc:[7,8,9,10,11,12,13,14].contains c=aB)(q:R .aG (h.put n<|.ins c [("learned",.int 0)])):WC (run pg (k+1) 59 [.ref n]) h R:=aT rfl rfl (aC.of o<|aE.t hc q)
theorem aCi(T:TH K c h)(l:Kl K h)(q:Gn K c h d R):pM (k+1) 7 59 [] h R:=
 wZ bP rfl ⟨rfl,q.at l Kp.refl.new (T.kp l Kp.refl.new) (l.up<|hA _) (λ_ _=>rfl) (cF _) .pl⟩
theorem OZ(T:TH K c h)(l:Kl K h)(q:Gn K c h d R):pM (k+1) 8 59 [] h R:=
 wZ bP rfl ⟨rfl,q.at l Kp.refl.new (T.kp l Kp.refl.new) (l.up<|hA _) (λ_ _=>rfl) (cF _) .al⟩
theorem BN{f:Bool}(T:TH K c h)(l:Kl K h)(q:Gn K c h d R):pM (k+2) 9 65 [.bl f] h R:=by have a:h.nx≠h.nx+1:=bQ (cF _);refine aT rfl rfl<|wZ bP rfl<|aC.of bS<|aC.of ((dY a).trans bS) ⟨rfl,?_⟩;have kp:=((((Kp.refl (h:=h)).new (o:=.ins 9 [])).put (o:=.ins 9 [("learned",.int 0)]) (aV _)).put (o:=.ins 9 [("learned",.int 0),("first",.bl f)]) (aV _)).new (o:=.aN []);exact q.at l kp ((T.kp l kp).add (l.no<|hA _) bP (.dc (λj v e=>nomatch e)<|kM _)) ((l.up kp.nx).add (cF _)) (λm hm=>vI (bQ<|MK hm)) (iJ<|cF _)<|.la<|if_pos rfl
theorem aOc{t:Nat}{m:Int}(o:h.ob t=aA (.ins 6 []))(ht:t<h.nx)(m0:0<m)(m1:m<=64)(q:∀h' l ls,wF h' t l ls->h.nx<=l->l<h'.nx->(∀j,j<h.nx->j≠t->h'.ob j=h.ob j)->R .aG h'):WC (run pg (k+1) 56 [.ref t,.int m,.int b]) h R:=by have big:sizeLine=16777216:=oR;refine aT rfl rfl<|WC.of<|JH bP (by omega) (by simp;omega) (by omega) ?_;have k1:Kp h ((h.new<|.lst aB [.int b]).new (.lst aB (eN m.toNat [AV.int b]).flatten)):=Kp.refl.new.new;have a:((h.new<|.lst aB [.int b]).new (.lst aB (eN m.toNat [AV.int b]).flatten)).ob (h.new<|.lst aB [.int b]).nx=aA (.lst aB (eN m.toNat [AV.int b]).flatten):=bP;have c:(h.new<|.lst aB [.int b]).nx<((h.new<|.lst aB [.int b]).new (.lst aB (eN m.toNat [AV.int b]).flatten)).nx:=cF _;have d:h.nx<=(h.new<|.lst aB [.int b]).nx:=hA _;generalize (h.new<|.lst aB [.int b]).new (.lst aB (eN m.toNat [AV.int b]).flatten)=f at k1 a c ⊢;generalize (h.new<|.lst aB [.int b]).nx=l at a c d ⊢;rw[LH]at a;refine aC.of rfl<|aC.of rfl<|aC.of (k1.get ht o) ?_;refine q _ l (eN m.toNat b) ⟨bS,(bN (by omega)).trans (a.trans (by rw[LZ])),by rw[Dx];omega⟩ d c λj e hn=>(bN hn).trans (k1.ob j e)
theorem Oi{h1:AH}{m:Int}(T:TH K c h)(l:Kl K h)(kp:Kp h h1)(lt:h.nx<h1.nx)(m0:0<m)(m1:m<=64)(q:∀h2 K',Kp h h2->h1.nx<=h2.nx->h2.ob h.nx=h1.ob h.nx->TH K' c h2->Kl K' h2->(∀m,m<=h.nx->K' m=K m)->K' h1.nx=aA 0->Q .aG h2) :
  WC (run pg (k+1) 56 [.ref h1.nx,.int m,.int b]) (h1.new<|.ins 6 []) Q:=
 aOc bP (cF _) m0 m1 λh2 d ls t l1 l2 kx=>by have l1:h1.nx+1<=d:=l1;have e:∀j,j<h1.nx->h2.ob j=h1.ob j:=λj a=>(kx j (iJ a)<|bQ a).trans (dY<|bQ a);have k2:Kp h h2:=⟨by have:=kp.nx;omega,λj a=>(e j (by omega)).trans (kp.ob j a)⟩;have f:=(T.kp l k2).add (l.no (by omega)) t.lv (.lv t.pos);exact q h2 _ k2 (by omega) (e _ lt) (f.add ((vI<|bQ ‹_›).trans (l.no<|mS ‹_›)) t.ob<|.ta<|if_pos rfl) (((l.up k2.nx).add l2).add (by omega)) (λm hm=>(vI (by omega)).trans (vI (by omega)))<|if_pos rfl
theorem Wv{m:Int}(T:TH K c h)(l:Kl K h)(m0:0<m)(m1:m<=64)(q:Gn K c h d R):pM (k+2) 10 68 [.int m,.int b] h R:=
 aT rfl rfl (wZ bP rfl<|Oi T l (Kp.refl.new.put<|aV _) (cF _) m0 m1 λi j k2 a e f l2 a2 g=>⟨rfl,aC.of rfl (aC.of rfl<|aC.of (e.trans bS) ⟨rfl,q.at l k2 f l2 a2 a (.co g)⟩)⟩)
theorem DL{m g:Int}(T:TH K c h)(l:Kl K h)(m0:0<m)(m1:m<=64)(g0:0<=g/\g<16)(q:Gn K c h d R):pM (k+2) 11 71 [.int m,.int g] h R:=
 aT rfl rfl (wZ bP rfl (Oi T l (Kp.refl.new.put<|aV _) (cF _) m0 m1 λn a k2 b f i l2 a2 j=>⟨rfl,aC.of rfl (aC.of rfl (aC.of (f.trans bS) (aC.of bS (aC.of bS ⟨rfl,
  have e:a h.nx=aD:=(a2 _<|aV _).trans (l.no<|aV _);q.at l ((k2.put<|aV _).put (aV _)) ((i.putN e).putN e) l2 a2 b (.pa j g0 ⟨iG _,by decide⟩)⟩))))⟩))
theorem M7{l':Nat}{bs:ZE}(T:TH K c h)(l:Kl K h)(ol:h.ob l'=aA (.lst aB<|bs.map AV.bl))(hl:l'<h.nx)(q:Gn K c h d R):pM (k+2) 12 74 [.ref l'] h R:=by refine aT rfl rfl<|wZ bP rfl ?_;have k1:Kp h ((h.new<|.ins 12 []).put h.nx (.ins 12 [("learned",.int 0)])):=Kp.refl.new.put (aV _);refine WC.of<|JE (cO<|k1.get hl ol)<|aC.of rfl<|aC.of rfl<|aC.of ((dY<|bQ<|cF _).trans bS) ⟨rfl,?_⟩;exact q.at l k1.new ((T.kp l k1.new).add (l.no<|hA _) bP .tr) ((l.up k1.new.nx).add (cF _)) (λm hm=>vI (bQ<|MK hm)) (iJ<|cF _)<|.li<|if_pos rfl
theorem aOt(T:TH K c h)(l:Kl K h)(e:K n1=aA (d+4))(q:Gn K c h (d+1) R):pM (k+2) 13 76 [.ref n1] h R:=
 have kp:Kp h ((h.new<|.ins 13 []).put h.nx (.ins 13 [("learned",.int 0)])):=Kp.refl.new.put (aV _);aT rfl rfl (wZ bP rfl<|aC.of bS ⟨rfl,q.at l kp (T.kp l kp) (l.up kp.nx) (λ_ _=>rfl) (cF _) (.tu e)⟩)
theorem WU{n2:Nat}{m:Int}(T:TH K c h)(l:Kl K h)(m0:0<m)(m1:m<=64)(e:K n1=aA (d+4))(e':K n2=aA (d+4))(q:Gn K c h (d+1) R):pM (k+2) 14 79 [.ref n1,.ref n2,.int m] h R:=
 aT rfl rfl (wZ bP rfl<|aC.of bS<|aC.of bS<|Oi T l (((Kp.refl.new.put<|aV _).put (aV _)).put (aV _)) (cF _) m0 m1 λg i k2 n2 a b l2 a2 f=>⟨rfl,aC.of rfl (aC.of rfl<|aC.of (a.trans bS) ⟨rfl,q.at l k2 b l2 a2 n2 (.ch ((a2 _<|mS<|l _ _ e).trans e) ((a2 _<|mS<|l _ _ e').trans e') f)⟩)⟩)
end
section
variable {k:Nat}{K:Nat->Yg}{b:Nat}
theorem XN{lo hi:Hq}:(gg ns lo hi).length<=ns.length:=by unfold gg;rw[lP,vm];omega
theorem BO{c:Int}{ps:Nat}(os:h.ob ps=aA (.lst bb<|ns.map AV.int))(hn:ns.length<=63)(T:TH K b h)(l:Kl K h)(q:Gn K b h 1 R):WC (run pg (k+4) 49 [.int c,.ref ps]) h R:=by
 have big:sizeLine=16777216:=oR;refine aT rfl rfl<|rJ (k:=k+2) (by decide) (by decide) λz z0 z1=>?_;have p0:0<=z / 8:=Qd z0 (by decide);have a0:0<1+z / 8%64:=by omega
 have a1:1+z / 8%64<=64:=by omega
 refine aE.dc (λ_=>?_) λ_=>?_
 .exact aCi (k:=k+2) T l q
 refine aE.dc (λ_=>?_) λ_=>?_
 .exact OZ (k:=k+2) T l q
 refine aE.dc (λ_=>?_) λ_=>?_
 .exact BN (k:=k+1) T l q
 refine aE.dc (λ_=>?_) λ_=>?_
 .exact Wv (k:=k+1) T l a0 a1 q
 refine aE.dc (λ_=>?_) λ_=>?_
 .exact DL (k:=k+1) T l a0 a1 (by omega) q
 refine aE.dc (λ_=>?_) λ_=>?_
 .refine WC.of<|cf<|nO<|kb<|WC.of<|Ck os<|oJ bP ?_;have k1:Kp h (h.new<|.lst aB<|iP (ns.map AV.int) aD<|aA 60):=Kp.refl.new;have o1:(h.new<|.lst aB<|iP (ns.map AV.int) aD<|aA 60).ob h.nx=aA (.lst aB<|(gg ns aD<|aA 60).map AV.int):=by rw[<- XO];exact bP
  have hl:=XN (ns:=ns) (lo:=aD) (hi:=aA 60);generalize h.new (.lst aB<|iP (ns.map AV.int) aD<|aA 60)=h1 at k1 o1 ⊢;generalize h.nx=m1 at o1 ⊢;generalize gg ns aD (aA 60)=ms at o1 hl ⊢;refine Ha (bb:=aB) (xs:=ms.map AV.int) (λi ys Z h'=>h'=h1/\(∃a,Z=[a])/\∃bs:ZE,ys=bs.map AV.bl/\bs.length=i) (by rw[aU,fI];omega) ⟨rfl,⟨_,rfl⟩,[],rfl,rfl⟩ (λi ys Z h' y=>by rw[y.1];exact o1) ?_ ?_
  .rintro i x ys Z h' hx ⟨rfl,⟨a,rfl⟩,bs,rfl,rfl⟩
   obtain⟨y,hy,rfl⟩:=lH hx;have hi:=(List.getElem?_eq_some_iff.mp hy).1;refine vc<|cH _ ⟨by rw[aU];omega,rfl,⟨_,rfl⟩,bs++[_],by rw[gB];rfl,by simp⟩
  rintro ys Z h' ⟨rfl,⟨a,rfl⟩,bs,rfl,_⟩
  have k2:=k1.new (o:=.lst aB (bs.map AV.bl));exact M7 (k:=k+1) (d:=1) (T.kp l k2) (l.up k2.nx) bP (cF _) λh2 n K' k3 T3 l3 a3=>q _ _ _ (k2.trans k3) T3 l3 λm hm=>a3 m (bA hm k2.nx)
 refine aE.dc (λ_=>?_) λ_=>?_
 .refine Wv (k:=k+1) (d:=0) (R:=λv h1=>pM (k+3) 13 76 [v] h1 R) T l a0 a1 λh1 n K1 k1 T1 l1 a1 e1=>?_;exact aOt (k:=k+1) T1 l1 e1 λh2 n2 K2 k2 T2 l2 a2=>q _ _ _ (k1.trans k2) T2 l2 λm hm=>(a2 m<|bA hm k1.nx).trans (a1 m hm)
 .refine BN (k:=k+1) (d:=0) (R:=λv1 h1=>pM (k+3) 11 71 [.int (1+z / 8%64),.int 4] h1 λv2 h2=>pM (k+3) 14 79 [v1,v2,.int (1+z / 8 / 64%64)] h2 R) T l λh1 n1 K1 k1 T1 l1 b1 e1=>?_;refine DL (k:=k+1) (d:=0) T1 l1 a0 a1 (by decide) λh2 n2 K2 k2 T2 l2 b2 e2=>?_;exact WU (k:=k+1) T2 l2 (by omega) (by omega) ((b2 _<|l1 _ _ e1).trans e1) e2 λh3 n3 K3 k3 T3 l3 b3=>q _ _ _ ((k1.trans k2).trans k3) T3 l3 λm hm=>(b3 m<|bA hm (k1.trans k2).nx).trans ((b2 m<|bA hm k1.nx).trans (b1 m hm))
end
section
def wd(v:Int):Prop:=0<=v/\v<18446744073709551616
def dC(b:Int):Prop:=0<=b/\b<8
def rK:aM->Prop
 |.way _ x y z=>dC x/\dC y/\dC z
 |.set x v=>dC x/\wd v
 |.move x y=>dC x/\dC y
 |.load x y _=>dC x/\dC y
 |.store x y _=>dC x/\dC y
 |.fU x t=>dC x/\0<=t
 |.go t=>0<=t
 |.fault _=>True
variable {k:Nat}
def oq(h:AH)(R:AV->AH->Prop):Prop:=∀r h',Kp h h'->rK r->R r.av h'
theorem wL{i:Int}(h0:0<=i)(hn:h.ob n=aA (.lst bb<|ns.map AV.int))(q:∀z,R (.int z) h):WC (run pg (k+1) 36 [.ref n,.int i]) h R:=by exact aT rfl rfl<|WC.of<|kK (cO hn)<|aE.dc (λa=>WC.of (gQ (cO hn) (ox h0 a)<|q _)) λ_=>q _
theorem vh{z:Int}(z0:0<=z)(z1:z<2147483647)(q:∀w,wd w->R (.int w) h):WC (run pg (k+1) 38 [.int z]) h R:=by
 have e:(2:Int) ^ Int.toNat 64=18446744073709551616:=rfl;refine aT rfl rfl<|aE.dc (λ_=>aE.t (Ko (by lia) (by lia)) (WC.of<|Ph rfl ?_)) λ_=>aE.dc (λ_=>WC.of (Ph rfl ?_)) λ_=>q _ ⟨by lia,by lia⟩
 .exact(q _ ⟨mE _ (by decide),mP _ (by decide)⟩)
 .rw[e];exact q _ ⟨by lia,by lia⟩
def Cg:Hr:=[.str "sum",.str "less",.str "times",.str "share",.str "rest",.str "both",.str "some",.str "odd",.str "up",.str "down",.str "below",.str "same"]
def Pc:List eA:=[.sum,.less,.times,.share,.rest,.both,.uo,.odd,.up,.down,.below,.same]
theorem aPn{i:Int}(h0:0<=i)(h1:i<12):∃w:eA,cN Cg i=aA (.str w.nm):=by
 obtain⟨n,rfl⟩:=cq h0;have e:Cg=Pc.map λw=>.str w.nm:=rfl;have hl:n<Pc.length:=by show n<12;lia
 unfold cN;rw[e,Jq (by rw[aU];exact hl)];exact⟨Pc[n],by simp only[jP,fO,eM hl,yA]⟩
theorem aPo{z:Int}{b:Bool}(hx:dC x)(hy:dC y)(hz:dC z)(q:oq h R):WC (run pg (k+1) 39 [.tup [.int x,.int y,.int z],.int p,.bl b]) h R:=by
 obtain⟨w,ew⟩:=aPn (i:=p%12) (by omega) (by omega);refine aT rfl rfl<|WC.of<|gQ (cO (xs:=Cg) bP) ew ?_;have fin:∀x' z',dC x'->dC z'->R (.tup [.str w.nm,.int x',.int y,.int z']) (h.new<|.lst aB Cg):=λx' z' h1 h2=>q (.way w x' y z') _ Kp.refl.new ⟨h1,hy,h2⟩;have b4:dC (x%4):=by unfold dC;omega
 have b2:dC (6+x%2):=by unfold dC;omega
 have b5:dC 5:=⟨by decide,by decide⟩;have b6:dC 4:=⟨by decide,by decide⟩;cases b with
 |false=>exact fin _ _ hx hz|true=>refine aE.dc (λ_=>fin _ _ b4 b5) λ_=>aE.dc (λ_=>fin _ _ b2 b5) λ_=>aE.dc (λ_=>fin _ _ b6 hz) λ_=>aE.dc (λ_=>fin _ _ b6 hz) λ_=>fin _ _ b4 hz
theorem DU{kd:Bool}{z:Int}{b:Bool}(hx:dC x)(hy:dC y)(q:oq h R):WC (run pg (k+1) 40 [.str (if kd then "load" else "store"),.tup [.int x,.int y,.int z],.int p,.bl b]) h R:=by
 have b2:dC (6+y%2):=by unfold dC;omega
 have b5:dC (x%5):=by unfold dC;omega
 refine aT rfl rfl ?_;cases b with
 |true=>
  cases kd with
  |true=>exact q (.load _ _ _) _ Kp.refl ⟨b5,b2⟩|false=>exact q (.store _ _ _) _ Kp.refl ⟨hx,b2⟩
 |false=>
  cases kd with
  |true=>exact aE.dc (λ_=>q (.load _ _ _) _ Kp.refl ⟨hx,hy⟩) λ_=>q (.load _ _ _) _ Kp.refl ⟨hx,hy⟩|false=>exact aE.dc (λ_=>q (.store _ _ _) _ Kp.refl ⟨hx,hy⟩) λ_=>q (.store _ _ _) _ Kp.refl ⟨hx,hy⟩
noncomputable abbrev aOk:aR:=bK (bK<|bK<|bK Vk)
theorem Ln{i:Int}(h0:0<=i)(h1:i<2)(q:∀v,v=a\/v=b->Q (.int v) h)(e:h.ob n=aA (.lst aB [.int a,.int b])):WC (Op.g .ix (.ref n)<|.int i) h Q:=by
 have:i=0\/i=1:=by lia
 rcases this with rfl|rfl
 .exact WC.of<|gQ (cO e) rfl<|q _<|.inl rfl
 .exact WC.of<|gQ (cO e) rfl<|q _<|.inr rfl
theorem aOp{kd z i m:Int}{b:Bool}(hx:dC x)(hy:dC y)(hz:dC z)(hi:0<=i)(hm:0<=m)(p0:0<=p)(p1:p<2147483647)(q:oq h R):WC (run pg (k+2) 41 [.int kd,.tup [.int x,.int y,.int z],.int p,.tup [.int i,.int m],.bl b]) h R:=by
 have b5:dC (x%5):=by unfold dC;omega
 have tail:∀t:Int,0<=t->dZ (run pg<|k+1) aOk [aA (.int kd),aA (.tup [.int x,.int y,.int z]),aA (.int p),aA (.tup [.int i,.int m]),aA (.bl b),aA (.int x),aA (.int y),aA (.int z),aA (.int i),aA (.int m),aA (.int t)] h (λ_ h1=>R .aG h1) R (λ_ _=>False) λ_ _=>False:=λt ht=>by
  refine aE.dc (λ_=>?_) λ_=>?_
  .cases b with
   |false=>exact q (.fU x t) _ Kp.refl ⟨hx,ht⟩|true=>exact Ln (by omega) (by omega) (λv hv=>q (.fU v t) _ Kp.refl.new ⟨by unfold dC;omega,ht⟩) bP
  refine aE.dc (λ_=>?_) λ_=>?_
  .exact q (.go _) _ Kp.refl (by show 0<=ite _ _ _;split<;>omega)
  cases b with
  |true=>exact q (.move _ _) _ Kp.refl ⟨b5,hz⟩|false=>exact vh (k:=k) p0 p1 λw hw=>q (.fault w) _ Kp.refl trivial
 refine aT rfl rfl<|aE.dc (λ_=>?_) λ_=>?_
 .exact aE.dt (by omega)<|tail _<|mE _ (by omega)
 .refine tail _ ?_;show 0<=ite _ _ _;split<;>omega
theorem aKg{c i m:Int}{b:Bool}(h0:0<=i)(h1:i<100)(hm:0<=m)(q:oq h R):WC (run pg (k+3) 42 [.int c,.int i,.int m,.bl b]) h R:=by
 refine aT rfl rfl<|rJ (k:=k+1) h0 (by lia) λz l o=>?_;have bx:∀d:Int,0<d->dC (z / d%8):=λd hd=>⟨mE _ (by decide),mP _ (by decide)⟩;have x0:=bx 20 (by decide);have g:=bx 160 (by decide);have w0:=bx 1280 (by decide);have p0:0<=z / 10240:=Qd l (by decide);have j:z / 10240<2147483647:=by lia
 refine aE.dc (λ_=>aPo (k:=k+1) x0 g w0 q) λ_=>?_;refine aE.dc (λ_=>?_) λ_=>?_
 .cases b with
  |true=>exact WC.of<|gQ (cO bP) rfl<|vh (k:=k+1) p0 j λw hw=>q (.set _ w) _ Kp.refl.new ⟨by unfold dC;lia,hw⟩|false=>exact WC.of<|gQ (cO bP) rfl<|vh (k:=k+1) p0 j λw hw=>q (.set _ w) _ Kp.refl.new ⟨by unfold dC;lia,hw⟩
 have rest:WC (run pg (k+2) 40 [.str "load",.tup [.int (z / 20%8),.int (z / 160%8),.int (z / 1280%8)],.int (z / 10240),.bl b]) h R:=DU (k:=k+1) (kd:=aB) x0 g q;have a:WC (run pg (k+2) 40 [.str "store",.tup [.int (z / 20%8),.int (z / 160%8),.int (z / 1280%8)],.int (z / 10240),.bl b]) h R:=DU (k:=k+1) (kd:=aH) x0 g q;have f:WC (run pg (k+2) 41 [.int (z%20),.tup [.int (z / 20%8),.int (z / 160%8),.int (z / 1280%8)],.int (z / 10240),.tup [.int i,.int m],.bl b]) h R:=aOp (k:=k) x0 g w0 h0 hm p0 j q;have n:dC 5:=⟨by decide,by decide⟩;refine aE.dc (λe=>?_) λe=>?_
 .cases b with
  |true=>exact q (.way .rest _ _ _) _ Kp.refl ⟨by unfold dC;lia,g,n⟩|false=>exact aE.dt e<|q (.move _ _) _ Kp.refl ⟨x0,g⟩
 .exact aE.df e<|aE.dc (λ_=>rest) λ_=>aE.dc (λ_=>a) λ_=>f
theorem L4{c i:Int}(h0:0<=i)(h1:i<100)(q:oq h R):WC (run pg (k+2) 43 [.int c,.int i]) h R:=by
 refine aT rfl rfl<|rJ (by lia) (by lia) λz e f=>?_;have a:dC (z%5):=by unfold dC;lia
 have b:dC 6:=⟨by decide,by decide⟩;have d:dC 7:=⟨by decide,by decide⟩;refine aE.dc (λ_=>q (.way .rest _ _ _) _ Kp.refl ⟨b,by unfold dC;lia,⟨by decide,by decide⟩⟩) λ_=>?_;exact aE.dc (λ_=>Ln (by lia) (by lia) (λv g=>q (.store _ v _) _ Kp.refl.new ⟨a,by unfold dC;lia⟩) bP) λ_=>aE.dc (λ_=>q (.store _ _ _) _ Kp.refl ⟨a,b⟩) λ_=>q (.load _ _ _) _ Kp.refl ⟨a,d⟩
end
section
variable {k:Nat}
def Up(h:AH)(m:Nat)(rs:List aM):Prop:=h.ob m=aA (.lst aB<|rs.map aM.av)/\∀r∈rs,rK r
theorem aCq{b:Bool}(os:h.ob n=aA (.lst bb<|ns.map AV.int))(hn:n<h.nx)(hl:ns.length<=60)(q:∀h' m rs,Kp h h'->m<h'.nx->Up h' m rs->rs.length=ns.length->R (.ref m) h'):WC (run pg (k+4) 44 [.ref n,.bl b]) h R:=by
 have big:sizeLine=16777216:=oR;refine aT rfl rfl<|WC.of<|cf<|JK<|Ct rfl ?_;refine⟨_,_,_,rfl,os,?_⟩;refine WY (bb:=bb) (xs:=ns.map AV.int) (λi ys Z h'=>Kp h h'/\(∃a c,Z=[a,c,aA (.bl b),aA (.ref n)])/\∃rs:List aM,ys=rs.map aM.av/\rs.length=i/\∀r∈rs,rK r) (by rw[aU,fI];omega) ⟨Kp.refl,⟨_,_,rfl⟩,[],rfl,rfl,λr hr=>by cases hr⟩ (λi ys Z h' y=>y.1.get hn os) ?_ ?_
 .rintro i x ys Z h' hx ⟨kp,⟨a,c,rfl⟩,rs,rfl,rl,hr⟩
  obtain⟨y,hy,rfl⟩:=lH hx;have hi:=(List.getElem?_eq_some_iff.mp hy).1;refine aPj<|cH _<|WC.of<|kK (cO<|kp.get hn os)<|aKg (k:=k) (by omega) (by omega) (by omega) λr h3 k3 hr3=>⟨by rw[aU];omega,kp.trans k3,⟨_,_,rfl⟩,rs++[r],by rw[gB];rfl,by rw[dQ,rl];rfl,λr' hr'=>?_⟩;rcases List.mem_append.mp hr' with z|z
  .exact hr r' z
  .rw[List.mem_singleton.mp z];exact hr3
 rintro ys Z h1 ⟨k1,⟨a,c,rfl⟩,rs,rfl,rl,hr⟩
 have k2:Kp h (h1.new<|.lst aB<|rs.map aM.av):=k1.new;have o2:(h1.new<|.lst aB<|rs.map aM.av).ob h1.nx=aA (.lst aB<|rs.map aM.av):=bP;have l2:h1.nx<(h1.new<|.lst aB<|rs.map aM.av).nx:=cF _;have l3:=k1.nx;rw[aU]at rl;generalize h1.new (.lst aB<|rs.map aM.av)=h2 at k2 o2 l2 ⊢;generalize h1.nx=m at o2 l2 l3 ⊢;have s2:=k2.get hn os;cases b with
 |false=>exact q _ _ rs k2 l2 ⟨o2,hr⟩ rl|true=>
  refine WC.of<|kK (cO s2)<|aE.dc (λe0=>?_) λ_=>q _ _ rs k2 l2 ⟨o2,hr⟩ rl;refine WC.of<|gQ (cO s2) (ox (by decide) (by omega))<|aC.of rfl<|aE.dc (λ_=>?_) λ_=>q _ _ rs k2 l2 ⟨o2,hr⟩ rl;refine WB.of ?_;with_reducible refine mO<|JK<|Ct rfl ?_
  refine⟨_,_,_,rfl,s2,?_⟩;refine A3 (xs:=ns.map AV.int) (λi Z h'=>(∃a c,Z=[aA (.ref n),aA (.bl aB),aA (.ref m),a,c])/\Kp h h'/\m<h'.nx/\∃rs:List aM,Up h' m rs/\rs.length=ns.length) (by rw[aU,fI];omega) ⟨⟨_,_,rfl⟩,k2,l2,rs,⟨o2,hr⟩,rl⟩ (λi Z h' y=>y.2.1.get hn os) ?_ ?_
  .rintro i x Z h' hx ⟨⟨a,c,rfl⟩,kp,lm,rs,⟨om,hr⟩,rl⟩
   obtain⟨y,hy,rfl⟩:=lH hx;have hi:=(List.getElem?_eq_some_iff.mp hy).1;refine kJ _<|gX _<|aE.dc (λ_=>?_) λ_=>⟨⟨_,_,rfl⟩,kp,lm,rs,⟨om,hr⟩,rl⟩;refine L4 (k:=k+1) (by omega) (by omega) λr h3 k3 hr3=>?_;refine Po (k3.get lm om) (Jq (by rw[aU];omega)) ⟨⟨_,_,rfl⟩,(kp.trans k3).put l3,bA lm k3.nx,rs.set i r,⟨?_,λr' hr'=>?_⟩,by rw[tN];exact rl⟩
   .rw[bS,Dy]
   .rcases Ea hr' with z|z
    .exact hr r' z
    .rw[z];exact hr3
  rintro Z h' ⟨⟨a,c,rfl⟩,kp,lm,rs,hR,rl⟩
  exact q _ _ rs kp lm hR rl
end
section
variable {k:Nat}
theorem uO(e:h.ob n=aA (.lst aB xs)):zW h (.ref n)=aB:=by simp only[zW,e]
def eR(p:Int×Int):AV:=.tup [.int p.1,.int p.2]
def Uq(tb:Yq):Prop:=tb.length=5/\∀p∈tb,1<=p.1/\1<=p.2/\p.2<=16
theorem aNq{c:Int}(q:∀h' tb,Kp h h'->Uq tb->R (.tup<|tb.map eR) h'):WC (run pg (k+2) 48 [.int c,.int 16]) h R:=by
 have big:sizeLine=16777216:=oR;refine aT rfl rfl<|WB.of ?_;with_reducible refine mO<|Co ?_
 refine⟨uh (by omega) (by omega),?_⟩;have k1:Kp h (h.new<|.lst aB []):=Kp.refl.new;have l:(h.new<|.lst aB []).ob h.nx=aA (.lst aB []):=bP;have l1:h.nx<(h.new<|.lst aB []).nx:=cF _;generalize em:h.nx=m at l l1 ⊢;refine Ib (λi f h'=>(∃a b,f=[aA (.int c),aA (.int 16),aA (.ref m),a,b])/\Kp h h'/\m<h'.nx/\∃tb:Yq,h'.ob m=aA (.lst aB<|tb.map eR)/\tb.length=i/\∀p∈tb,1<=p.1/\1<=p.2/\p.2<=16) (by rw[fI];decide) ⟨⟨_,_,rfl⟩,k1,l1,[],l,rfl,λp g=>by cases g⟩ ?_ ?_
 .rintro i f h' hi ⟨⟨a,b,rfl⟩,kp,lm,tb,e,tl,ht⟩
  have app:∀p:Int×Int,1<=p.1/\1<=p.2/\p.2<=16->∀{Q:AV->AH->Prop},(∀d,(Kp h d/\m<d.nx/\∃tb:Yq,d.ob m=aA (.lst aB<|tb.map eR)/\tb.length=i+1/\∀p∈tb,1<=p.1/\1<=p.2/\p.2<=16)->Q .aG d)->WC (uH (.ref m)<|eR p) h' Q:=λp g Q q=>by
   refine WC.of<|bu e (by rw[aU];omega)<|q _ ⟨kp.put (by omega),lm,tb++[p],by rw[bS,gB];rfl,by rw[dQ,tl];rfl,λp' j=>?_⟩;rcases List.mem_append.mp j with z|z
   .exact ht p' z
   .rw[List.mem_singleton.mp z];exact g
  refine kJ _<|gX _<|rJ (by omega) (by omega) λz z0 z1=>aE.dc (λ_=>?_) λ_=>?_
  .exact aE.t (uO e)<|app (1+z / 4%8,1+z / 32%16) ⟨by omega,by omega,by omega⟩ λd y=>⟨⟨_,_,rfl⟩,y⟩
  .exact aE.t (uO e)<|app (1+z / 4%2,1+z / 8%4) ⟨by omega,by omega,by omega⟩ λd y=>⟨⟨_,_,rfl⟩,y⟩
 rintro f h' ⟨⟨a,b,rfl⟩,kp,lm,tb,e,tl,ht⟩
 exact WC.of<|vM (cO e)<|q _ tb kp ⟨tl,ht⟩
end
section
variable {k:Nat}
theorem JM(hw:kY ws)(w0:wd w):kY (ws++[w]):=λx a=>by
 rcases List.mem_append.mp a with z|z
 .exact hw x z
 .rw[List.mem_singleton.mp z];exact w0
noncomputable abbrev aLr:aR:=bK (bK<|bK<|bK Vj)
theorem HI{c o v:Int}{b:Bool}{m am:Nat}{bx:Ht}(om:h.ob m=aA (.lst aB<|bx.map AV.int))(hm:m<h.nx)(r1:am<=80)(q:∀h' mem,Kp h h'->kY mem->mem.length=am->R (.tup [.int 0,.tup (bx.map AV.int),.tup (mem.map AV.int)]) h') :
  dZ (run pg<|k+1) aLr [aA (.int c),aA (.int o),aA (.bl b),aA (.ref m),aA (.int v),aA (.int am),aD] h (λ_ h1=>R .aG h1) R (λ_ _=>False) λ_ _=>False:=by
 have big:=oR;refine WC.of ?_;with_reducible refine cf ?_
 with_reducible refine Co ?_
 refine⟨uh (by lia) (by lia),?_⟩;refine Ws (λi d e h'=>h'=h/\(∃a,e=[a,aA (.int o)])/\∃ws:Ht,d=ws.map AV.int/\ws.length=i/\kY ws) (by rw[fI];lia) ⟨rfl,⟨_,rfl⟩,[],rfl,rfl,nofun⟩ ?_ ?_
 .rintro i d e h' l ⟨rfl,⟨a,rfl⟩,ws,rfl,wl,hw⟩
  refine vc<|cH _<|rJ (by lia) (by lia) λz g j=>vh g j λw f=>⟨by rw[aU];lia,rfl,⟨_,rfl⟩,ws++[w],by rw[gB];rfl,by rw[dQ,wl];rfl,JM hw f⟩
 rintro d e h' ⟨rfl,⟨a,rfl⟩,ws,rfl,wl,hw⟩
 exact WC.of<|vM (cO<|(Kp.refl.new (a:=h')).get hm om)<|WC.of<|vM (cO bP)<|q _ ws Kp.refl.new hw (by rw[wl];lia)
theorem aLs{c o:Int}{b:Bool}(q:∀h' bx mem,Kp h h'->kY bx->bx.length=8->kY mem->0<mem.length->mem.length<=80->R (.tup [.int 0,.tup (bx.map AV.int),.tup (mem.map AV.int)]) h'):WC (run pg (k+2) 45 [.int c,.int o,.bl b]) h R:=by
 have big:=oR;refine aT rfl rfl<|WC.of<|cf<|Co ?_;refine⟨uh (by lia) (by lia),?_⟩;refine Ws (λi y A h'=>h'=h/\(∃a,A=[a,aA (.int c)])/\∃ws:Ht,y=ws.map AV.int/\ws.length=i/\kY ws) (by rw[fI];decide) ⟨rfl,⟨_,rfl⟩,[],rfl,rfl,λw hw=>by cases hw⟩ ?_ ?_
 .rintro i y A h' E ⟨rfl,⟨a,rfl⟩,ws,rfl,wl,hw⟩
  have E:=E;refine vc<|cH _<|rJ (k:=k) (by lia) (by lia) λz p s=>vh (k:=k) p s λw d=>⟨by rw[aU];lia,rfl,⟨_,rfl⟩,ws++[w],by rw[gB];rfl,by rw[dQ,wl];rfl,JM hw d⟩
 rintro y A h' ⟨rfl,⟨a,rfl⟩,ws,rfl,wl,hw⟩
 have k1:Kp h' (h'.new<|.lst aB<|ws.map AV.int):=Kp.refl.new;have B:(h'.new<|.lst aB<|ws.map AV.int).ob h'.nx=aA (.lst aB<|ws.map AV.int):=bP;have l1:h'.nx<(h'.new<|.lst aB<|ws.map AV.int).nx:=cF _;generalize h'.new (.lst aB<|ws.map AV.int)=t at k1 B l1 ⊢;generalize h'.nx=J at B l1 ⊢;refine rJ (k:=k) (by decide) (by decide) λz p s=>?_;have k2:Kp h' (t.new<|.lst aB [.int 16,.int 64]):=k1.new;have u:=(Kp.refl.new (a:=t) (o:=.lst aB [.int 16,.int 64])).get l1 B;have l2:J<(t.new<|.lst aB [.int 16,.int 64]).nx:=iJ l1;refine Ln (by split<;>decide) (by split<;>decide) (λv N=>?_) bP;generalize t.new (.lst aB [.int 16,.int 64])=n at k2 u l2 ⊢;refine rJ (k:=k) (by decide) (by decide) λz p s=>aE.dt (by lia) ?_;cases b with
 |false=>have C:0<=z%v:=mE _ (by lia);have K:z%v<v:=mP _ (by lia);obtain⟨r,hr⟩:=cq C;have:=HI (k:=k) (c:=c) (o:=o) (v:=v) (b:=aH) (R:=R) u l2 (am:=1+r) (by lia) λD mem kp hm hl=>q _ ws mem (k2.trans kp) hw wl hm (by lia) (by lia);rw[show((1+r:Nat):Int)=1+z%v by lia]at this;exact this
 |true=>
  obtain⟨e,a1,a2,f,g,j,l,m,rfl⟩:=IS wl;refine rJ (k:=k) (by decide) (by decide) λz p s=>aE.dt (by lia) ?_;refine kb<|WC.of<|Ck u ?_;have x:=(Kp.refl.new (a:=n) (o:=.lst aB (iP ([e,a1,a2,f,g,j,l,m].map AV.int) aD<|aA 5))).get l2 u;have F:(n.new<|.lst aB<|iP ([e,a1,a2,f,g,j,l,m].map AV.int) aD<|aA 5).ob n.nx=aA (.lst aB [.int e,.int a1,.int a2,.int f,.int g]):=bP;have G:Kp h' (n.new<|.lst aB<|iP ([e,a1,a2,f,g,j,l,m].map AV.int) aD<|aA 5):=k2.new;have H:n.nx<(n.new<|.lst aB<|iP ([e,a1,a2,f,g,j,l,m].map AV.int) aD<|aA 5).nx:=cF _;generalize n.new (.lst aB<|iP ([e,a1,a2,f,g,j,l,m].map AV.int) aD<|aA 5)=I at x F G H ⊢;refine WC.of<|gQ (cO x) rfl<|WC.of<|gQ (cO x) rfl<|WC.of<|gQ (cO x) rfl ?_;refine WC.of<|aPt ((Kp.refl.new (a:=I)).get H F) bP (by simp;lia) ?_;have C:0<=z%(v-6):=mE _ (by omega);have K:z%(v-6)<v-6:=mP _ (by omega);obtain⟨r,hr⟩:=cq C;have L:Kp h' ((I.new<|.lst aB [.int (1+j%4),.int (l%4),.int (m%4)]).new (.lst aB<|[.int e,.int a1,.int a2,.int f,.int g]++[.int (1+j%4),.int (l%4),.int (m%4)])):=G.new.new;have M:kY [e,a1,a2,f,g,1+j%4,l%4,m%4]:=λw d=>by
   simp only[rY,oO,or_false]at d;rcases d with rfl|rfl|rfl|rfl|rfl|rfl|rfl|rfl
   .exact hw _ (by simp)
   .exact hw _ (by simp)
   .exact hw _ (by simp)
   .exact hw _ (by simp)
   .exact hw _ (by simp)
   .omega
   .omega
   .omega
  have:=HI (k:=k) (c:=c) (o:=o) (v:=v) (b:=aB) (R:=R) bP (cF _) (am:=7+r) (by omega) λD mem kp hm hl=>q _ _ mem (L.trans kp) M rfl hm (by omega) (by omega);rw[show((7+r:Nat):Int)=7+z%(v-6) by omega]at this;exact this
end
theorem gb{bx:Ht}(hw:kY bx){i:Int}:wd (cell bx i):=by
 unfold cell;rw[Ds];cases e:bx[i.toNat]? with
 |none=>exact⟨by decide,by decide⟩|some v=>exact hw v<|bX e
theorem Uw(a0:0<=a)(b0:0<=b):0<=rQ a b/\rQ a b<=a/\rQ a b<=b:=by have e1:rQ a b=((a.toNat &&& b.toNat:Nat):Int):=PyProof.Rows.bitAnd_pp a0 b0;have l1:a.toNat &&& b.toNat<=a.toNat:=Nat.and_le_left;have l2:a.toNat &&& b.toNat<=b.toNat:=Nat.and_le_right;omega
theorem DF:∀(n:Nat) {x y:Int},0<=x->0<=y->x<2 ^ n->y<2 ^ n->x+y-rQ x y<2 ^ n
 |0,x,y,x0,a,b,c=>by have e:2 ^ 0=1:=rfl;have:=Uw x0 a;omega
 |n+1,x,y,x0,a,b,c=>by
  have e:(2:Int) ^ (n+1)=2*2 ^ n:=by omega
  have f:=DF n (x:=x / 2) (y:=y / 2) (by omega) (by omega) (by omega) (by omega);have d:=W.kbt_halves x y;split at d<;>omega
theorem aRf{w:eA}(a0:0<=a)(a1:a<18446744073709551616)(b0:0<=b)(b1:b<18446744073709551616)(hz:¬(w.sr=aB/\b=0)):0<=w.wk a b/\w.wk a b<18446744073709551616:=by
 have f:=PyProof.Rows.bitOr_and a b;have g:=bitXor_and a b;have l1:=Uw a0 b0;have h:2 ^ 64=18446744073709551616:=rfl;have l2:=DF 64 a0 b0 (a1) (b1);have hb:w.sr=aB->0<b:=λe=>(Qg b0).resolve_right λz=>hz ⟨e,z.symm⟩;have c:∀d:Int,0<d->0<=a / d/\a / d<18446744073709551616:=λd hd=>⟨Qd a0 (Qf hd),Int.lt_of_le_of_lt (Int.ediv_le_self d a0) a1⟩;cases w with
 |sum=>exact⟨mE _ (by decide),mP _ (by decide)⟩|less=>exact⟨mE _ (by decide),mP _ (by decide)⟩|times=>exact⟨mE _ (by decide),mP _ (by decide)⟩|share=>exact c b<|hb rfl|rest=>exact⟨mE _ (by have:=hb rfl;omega),vP (mP _<|hb rfl) b1⟩|both=>show 0<=rQ a b/\rQ a b<_;omega|uo=>show 0<=km a b/\km a b<_;omega|odd=>show 0<=ko a b/\ko a b<_;omega|up=>exact⟨mE _ (by decide),mP _ (by decide)⟩|down=>exact c _<|KM (by decide)|below=>show 0<=(if a<b then 1 else 0)/\(if a<b then 1 else 0)<_;split<;>omega|same=>show 0<=(if a=b then 1 else 0)/\(if a=b then 1 else 0)<_;split<;>omega
structure Sd where
 pc:Int
 bx:Ht
 mem:Ht
def Sd.av(s:Sd):AV:=.tup [.int s.pc,.tup (s.bx.map AV.int),.tup (s.mem.map AV.int)]
structure Sd.ok(s:Sd):Prop where
 pc:0<=s.pc
 bl:s.bx.length=8
 bw:kY s.bx
 mw:kY s.mem
theorem Pk{v:Int}(hw:kY ws)(hv:wd v):kY (ws.set i v):=λx a=>by
 rcases Ea a with z|z
 .exact hw x z
 .rw[z];exact hv
def vE(tb:Yq)(r:aM):Int:=(tb.getD r.iQ.toNat (1,1)).2
variable {sd':Sd}
section
abbrev Dc(β:Type):=List (Int×β)
variable {β:Type}{e:β->AV}{l:Dc β}{v:β}
def dE(e:β->AV)(l:Dc β):List (aP×AV):=l.map λp=>(.inl p.1,e p.2)
def aX(l:Dc β)(x:Int):Option β:=(l.find? λp=>decide (p.1=x)).map (·.2)
def eP(l:Dc β)(x:Int)(v:β):Dc β:=if(l.any λp=>decide (p.1=x))=aB then l.map (λp=>if p.1=x then(p.1,v) else p) else l++[(x,v)]
def mZ(l:Dc β)(x:Int):Dc β:=l.filter λp=>decide (p.1≠x)
theorem zx:((sC a:aP)=sC b)=(a=b):=propext ⟨mm,congrArg _⟩
theorem iZ:bL (dE e l) (.inl x)=(aX l x).map e:=by unfold bL aX dE;rw[List.find?_map,MX,MX];simp only[kr,zx]
theorem xJ:gT (dE e l) (.inl x) (e v)=dE e (eP l x v):=by
 unfold gT eP dE;rw[KU];simp only[kr,zx];split
 .rw[jE,jE];refine lj λp _=>?_;by_cases a:p.1=x
  .simp only[kr,a,if_true]
  .simp only[kr,if_neg a,if_neg (show¬(sC p.1:aP)=sC x by rw[zx];exact a)]
 .rw[gB];rfl
theorem yo:uA (dE e l) (.inl x)=dE e (mZ l x):=by unfold uA mZ dE;rw[LD];simp only[kr,ne_eq,zx]
theorem mY:(dE e l).length=l.length:=aU ..
theorem EC:(eP l x v).length<=l.length+1:=by unfold eP;split<;>simp
theorem Bd(h:aX l x=aD):eP l x v=l++[(x,v)]:=by unfold eP;rw[if_neg];intro z;obtain⟨p,a,e⟩:=List.any_eq_true.mp z;exact List.find?_eq_none.mp (Option.map_eq_none_iff.mp h) p a e
theorem sv(h:aX l x=aA v):(x,v)∈l:=by obtain⟨p,a,rfl⟩:=Option.map_eq_some_iff.mp h;have b:=Qm a;simp only[decide_eq_true_eq]at b;subst b;exact(cv a)
theorem nE(nd:(l.map (·.1)).Nodup)(h:(x,v)∈l):aX l x=aA v:=by
 unfold aX;induction l with
 |nil=>cases h|cons p l a=>
  rw[iH,List.nodup_cons]at nd;rw[nP];rcases List.mem_cons.mp h with rfl|h'
  .simp
  .have:decide (p.1=x)=aH:=decide_eq_false λz=>nd.1 (List.mem_map.mpr ⟨_,h',z.symm⟩);rw[this];exact a nd.2 h'
theorem gk{d c:Ex}{imp:Yj}{rest:List (Option AV)}{f:Int×β->Bool}(hd:aL F d Z h = .ok (.ref n) h)(ho:h.ob n=aA (.aN<|dE e l))(hn:n<h.nx)(hl:l.length<1000)(hs:mK imp Z=aD::rest)
  (hc:∀p∈l,wT F c (aA (.int p.1)::rest) (h.put n<|.dF<|dE e l) λb h'=>b=f p/\h'=h.put n (.dF<|dE e l))
  (q:V1 (.ref h.nx) (h.new<|.lst aB<|(l.filter f).map λp=>AV.int p.1)):WC (aL F (.kI d<|.wO imp (.nm 0) (.aN d) c<|.var 0) Z) h V1:=by
 have big:=kG;refine WC.of<|aSf hd ho hn ?_;rw[hs];refine Wq (λj a Z h'=>(∃v0,Z=v0::rest)/\a=(((l.take j).filter f).map λp=>AV.int p.1)/\h'=h.put n (.dF<|dE e l)) (by rw[aU,mY,fI];omega) ⟨⟨aD,rfl⟩,rfl,rfl⟩ (λj x a Z h' g y=>?_)<|λa Z h' y=>?_
 .obtain⟨⟨v0,rfl⟩,rfl,rfl⟩:=y;unfold dE at g;rw[jE,fO]at g;obtain⟨p,hr,rfl⟩:=Option.map_eq_some_iff.mp g;have i:l.take (j+1)=l.take j++[p]:=by rw[pG,hr];rfl
  refine(oH c<|hc p<|bX hr).mono λb k z=>?_;obtain⟨rfl,rfl⟩:=z;split
  .rename_i hb;refine⟨?_,⟨_,rfl⟩,?_,rfl⟩
   .have m:((l.take j).filter f).length<=(l.take j).length:=pF _ _;have o:(l.take j).length<=l.length:=by rw[lP];omega
    rw[aU];omega
   .rw[i,xY,gB,jB,if_pos hb];rfl
  .rename_i hb;refine⟨⟨_,rfl⟩,?_,rfl⟩;rw[i,xY,jB,if_neg hb];simp
 .obtain⟨⟨v0,rfl⟩,rfl,rfl⟩:=y;refine⟨rfl,?_⟩;rw[aU,mY,pH];exact q
theorem YF{d c:Ex}{imp:Yj}{rest:List (Option AV)}{f:Int×β->AV}(hd:aL F d Z h = .ok (.ref n) h)(ho:h.ob n=aA (.aN<|dE e l))(hn:n<h.nx)(hl:l.length<1000)(hs:mK imp Z=aD::rest)
  (hc:∀p∈l,wE F c (aA (.int p.1)::rest) (h.put n<|.dF<|dE e l) λv h'=>v=f p/\h'=h.put n (.dF<|dE e l))
  (q:V1 (.ref h.nx) (h.new<|.lst aB<|l.map f)):WC (aL F (.kI d<|.wN imp (.nm 0) (.aN d) c) Z) h V1:=by
 have big:=kG;refine WC.of<|aSe hd ho hn ?_;rw[hs];refine WX (λj a Z h'=>(∃v0,Z=v0::rest)/\a=(l.take j).map f/\h'=h.put n (.dF<|dE e l)) (by rw[aU,mY,fI];omega) ⟨⟨aD,rfl⟩,rfl,rfl⟩ (λj x a Z h' g y=>?_)<|λa Z h' y=>?_
 .obtain⟨⟨v0,rfl⟩,rfl,rfl⟩:=y;unfold dE at g;rw[jE,fO]at g;obtain⟨p,hr,rfl⟩:=Option.map_eq_some_iff.mp g;refine(cH c<|hc p<|bX hr).mono λb i z=>?_;obtain⟨rfl,rfl⟩:=z;refine⟨?_,⟨_,rfl⟩,?_,rfl⟩
  .rw[aU,lP];omega
  .rw[pG,hr,gB];rfl
 .obtain⟨⟨v0,rfl⟩,rfl,rfl⟩:=y;refine⟨rfl,?_⟩;rw[aU,mY,pH];exact q
end
variable {bg bg':Dc (Int×Hq)}{dR gon' sto':Dc Int}{kf:Dc Nat}{kp':Dc (Hq×Hq)}
section
variable {β:Type}{e:β->AV}{l:Dc β}
theorem rG{a b:Nat}{x y:bB}(e1:h.ob a=aA x)(e2:h.ob b=aA y)(n:x≠y):a≠b:=λz=>n (by rw[z,e2]at e1;exact(dI e1).symm)
theorem Kx.get(g:Kx S h h'){o:Option bB}(hn:n<h.nx)(ns:n∉S)(e:h.ob n=o):h'.ob n=o:=(g.ob n hn ns).trans e
theorem Kx.kp{a b c:AH}(x:Kp a b)(y:Kx S b c):Kx S a c:=(Kx.of x).trans y
theorem Kx.new{S:Yh}{a b:AH}{o:bB}(x:Kx S a b):Kx S a (b.new o):=x.trans (Kx.of Kp.refl.new)
theorem XZ{t:Int}:mZ (l.filter λp=>!ts.contains p.1) t=l.filter λp=>!(ts++[t]).contains p.1:=by unfold mZ;rw[List.filter_filter];refine Ql λp _=>?_;by_cases z:p.1=t<;>simp[z]
theorem M9{f:Int->Bool}{t:Int}(hf:f t=aB):aX (l.filter λp=>f p.1) t=aX l t:=by
 unfold aX;induction l with
 |nil=>rfl|cons p l a=>
  rw[jB];by_cases z:p.1=t
  .rw[if_pos (z▸hf)];simp[z]
  .have:decide (p.1=t)=aH:=decide_eq_false z;split
   .rw[nP,nP,this];exact a
   .rw[nP,this];exact a
theorem Ba{cs:Yh}{f:cX}{fs:List (cX×AV)}{a c:Nat}(ha:Z[0]?=aA (aA<|.ref a))(hj:Z[j]?=aA (aA<|.ref n))(i0:i≠0)(il:i<Z.length)
  (o:h.ob a=aA (.ins c fs))(hc:cs.contains c=aB)(hf:fs.lookup f=aA (.ref d))(od:h.ob d=aA (.aN<|dE e l))(on:h.ob n=aA (.lst aB<|ts.map .int))(hd:d<h.nx)
  (ht:∀t∈ts,(aX l t).isSome)(nd:ts.Nodup)(hl:ts.length<1000)
  (q:∀o' h',Kx [d] h h'->h'.nx=h.nx->h'.ob d=aA (.aN<|dE e<|l.filter λp=>!ts.contains p.1)->N (Z.set i o') h') :
  WB (eJ F (.uE (.nm i) (.seq<|.var j)<|.cons (.expr<|.dm .pop (.lE cs f<|.var 0)<|.cons (.var i) .nil) .nil) Z) h N R B C:=by
 have ad:=rG o od (nofun);have r:=rG on od (nofun);refine WB.of<|mO<|nO<|aC.of hj<|oJ on ?_;refine uF (λk b h'=>(∃o',b=Z.set i o')/\Kx [d] h h'/\h'.nx=h.nx/\h'.ob d=aA (.aN<|dE e<|l.filter λp=>!(ts.take k).contains p.1)/\h'.ob n=aA (.lst aB<|ts.map .int)/\h'.ob a=aA (.ins c fs)) (by rw[aU,fI];omega) ?_ (λ_ _ _ y=>y.2.2.2.2.1) (λk x b h' D y=>?_)<|λb h' y=>?_
 .refine⟨⟨Z[i],by simp⟩,Kx.refl,rfl,?_,on,o⟩;rw[od,Rk,show(λp:Int×β=>!([]:Ht).contains p.1)=λ_=>aB from rfl,List.filter_eq_self.mpr λ_ _=>rfl]
 .obtain⟨⟨o',rfl⟩,kx,nx,g,A,s⟩:=y;obtain⟨t,u,rfl⟩:=lH D;have tk:t∉ts.take k:=by rw[<- (List.getElem?_eq_some_iff.mp u).2];intro z;obtain⟨m,hm,e⟩:=Qq z;rw[lP]at hm;rw[LS]at e;have:=(Dv nd).mp e;omega
  have E:(aX (l.filter λp=>!(ts.take k).contains p.1) t)=aX l t:=M9 (f:=λx=>!(ts.take k).contains x) (by simp[tk]);have v:=ht t (bX u);rw[<- E]at v;obtain⟨w,hw⟩:=Option.isSome_iff_exists.mp v;have s0:((Z.set i o').set i (aA<|.int t))[0]?=aA (aA<|.ref a):=by rw[lO i0,lO i0];exact ha
  have s1:((Z.set i o').set i (aA<|.int t))[i]?=aA (aA<|.int t):=by rw[mQ (by simpa)]
  refine kJ _ ?_;refine gX _ ?_;refine aC.of s0<|aC.of rfl ?_;refine aC.of s<|aE.t hc<|aC.of hf ?_;refine aE.t (qO g) ?_;refine aC.of s1<|aC.of rfl ?_;refine(WC.of<|Pe g rfl (by rw[iZ,hw];rfl) ?_);rw[yo,XZ];refine⟨⟨_,by rw[Rh]⟩,kx.put (by simp),nx,?_,(bN r).trans A,(bN ad).trans s⟩;rw[bS,pG,u];rfl
 .obtain⟨⟨o',rfl⟩,kx,nx,g,A,s⟩:=y;rw[aU,pH]at g;exact q _ _ kx nx g
end
section
variable {k:Nat}{a:Nat}{wk:Dc (Int×Int)}
def fw(tb:Yq)(d:Nat):List (cX×AV):=[("table",.tup (tb.map eR)),("working",.ref d)]
structure pJ(h:AH)(a d:Nat)(tb:Yq)(wk:Dc (Int×Int)):Prop where
 o:h.ob a=aA (.ins 15<|fw tb d)
 od:h.ob d=aA (.aN<|dE eR wk)
 ha:a<h.nx
 hd:d<h.nx
 hl:wk.length<1000
 nd:(wk.map (·.1)).Nodup
theorem pJ.Pj(B:pJ h a d tb wk)(e:Z[i]?=aA (aA<|.ref a)):aL F (.lE [15] "working"<|.var i) Z h = .ok (.ref d) h:=gm (js e) B.o rfl rfl
theorem pJ.oz(B:pJ h a d tb wk):(h.put d o).ob a=aA (.ins 15<|fw tb d):=(bN<|rG B.o B.od<|nofun).trans B.o
theorem pJ.at{p:Int×Int×Int}(B:pJ h a d tb wk)(hp:p∈wk):bL (dE eR wk) (.inl p.1)=aA (eR p.2):=by rw[iZ,nE B.nd hp];rfl
def nY(wk:Dc (Int×Int))(g:Int):Int:=(wk.filter λp=>decide (p.2.1=g)).length
theorem Zb{g:Int}{t:Int×Int}(B:pJ h a d tb wk)(hg:cN (tb.map eR) g=aA (eR t))(q:∀h',Kp h h'->R (.int<|t.1-nY wk g) h'):WC (run pg (k+1) 83 [.ref a,.int g]) h R:=by
 refine aT rfl rfl<|gk (f:=λp=>decide (p.2.1=g)) (B.Pj rfl) B.od B.hd B.hl rfl (λp b=>?_) ?_
 .exact aC.of B.oz<|WC.of<|Cj bS rfl (B.at b) ⟨rfl,rfl⟩
 .refine aC.of (Kp.refl.new.get B.ha B.o)<|aC.of hg ?_;refine WC.of<|kK (cO bP) ?_;rw[aU];exact q _ Kp.refl.new
theorem aLx{t g:Int}{c:Int×Int}(B:pJ h a d tb wk)(hg:cN (tb.map eR) g=aA (eR c))(hn:aX wk t=aD)(hf:nY wk g<c.1)(q:∀v h',Kx [d] h h'->h'.ob d=aA (.aN<|dE eR<|wk++[(t,g,now+c.2)])->R v h'):WC (run pg (k+2) 84 [.ref a,.int t,.int g,.int now]) h R:=by refine aT rfl rfl<|aC.of B.o<|WC.of<|vK B.od rfl ?_;rw[iZ,hn];refine aC.of rfl<|aC.of B.o<|Zb B hg λe k1=>aE.df (by omega) ?_;have b:=k1.get B.ha B.o;refine aC.of b<|aC.of hg<|aC.of b<|rO (k1.get B.hd B.od) rfl (by have:=B.hl;have:=kG;rw[mY];omega) ?_;refine q _ _ ((Kx.of k1).put (by simp)) ?_;rw[bS,show AV.tup [.int g,.int (now+c.2)]=eR (g,now+c.2) from rfl,xJ,Bd hn]
def pX(wk:Dc (Int×Int))(now:Int):Ht:=(wk.filter λp=>decide (p.2.2<=now)).map (·.1)
theorem yt{β:Type}{wk:Dc β}{f:Int×β->Bool}(nd:(wk.map (·.1)).Nodup)(ht:∀x,x∈ts↔x∈(wk.filter f).map (·.1)):(wk.filter λp=>!ts.contains p.1)=wk.filter λp=>!f p:=by
 refine Ql λp b=>?_;congr 1
 rw[ki,List.contains_iff_mem,ht,List.mem_map];constructor
 .rintro ⟨d,a,e⟩
  obtain⟨a,g⟩:=List.mem_filter.mp a;have c:=nE nd a;rw[e,nE nd b]at c;have:d=p:=Ru e (dI c).symm;rw[<- this];exact g
 .exact λz=>⟨p,List.mem_filter.mpr ⟨b,z⟩,rfl⟩
theorem yr{β:Type}{wk:Dc β}{f:Int×β->Bool}(nd:(wk.map (·.1)).Nodup):∀t∈(wk.filter f).map (·.1),(aX wk t).isSome:=λt ht=>by obtain⟨p,a,rfl⟩:=List.mem_map.mp ht;rw[nE nd (List.mem_filter.mp a).1];rfl
theorem oA{β:Type}{l:Dc β}{f:Int×β->Bool}(nd:(l.map (·.1)).Nodup):((l.filter f).map (·.1)).Nodup:=xW (List.filter_sublist.map _) nd
theorem Ny(r:Bool)(ns:Ht):(kX r ns).Perm ns:=MB ..
theorem YG(B:pJ h a d tb wk)(hl:wk.length<64)(q:∀n h',Kx [d] h h'->h'.ob d=aA (.aN<|dE eR<|wk.filter λp=>!decide (p.2.2<=now))->h.nx<=n->n<h'.nx->h'.ob n=aA (.lst aB<|(kX aH<|pX wk now).map .int)->R (.ref n) h'):WC (run pg (k+1) 85 [.ref a,.int now]) h R:=by
 have pm:=Ny aH (pX wk now);refine aT rfl rfl<|gk (f:=λp=>decide (p.2.2<=now)) (B.Pj rfl) B.od B.hd B.hl rfl (λp c=>?_) ?_
 .exact aC.of B.oz<|WC.of<|Cj bS rfl (B.at c) ⟨rfl,rfl⟩
 have lf:(pX wk now).length<=wk.length:=by unfold pX;rw[aU];exact pF ..
 refine WC.of<|aQs (ns:=pX wk now) (by rw[bP];unfold pX;rw[jE];rfl) (by omega) ?_;refine Ba rfl rfl (by decide) (show 3<4 by decide) (Kp.refl.new.new.get B.ha B.o) rfl rfl (Kp.refl.new.new.get B.hd B.od) bP (iJ<|iJ B.hd) (λt ht=>yr B.nd t (pm.mem_iff.mp ht)) (pm.nodup_iff.mpr<|oA B.nd) (by rw[pm.length_eq];omega) λe h' kx nx b=>?_;rw[yt B.nd λx=>pm.mem_iff]at b;exact q (h.nx+1) h' (Kx.kp Kp.refl.new.new kx) b (hA _) (by rw[nx];exact cF _)<|kx.get (cF _) (by simp;have:=B.hd;omega) bP
theorem VT{t:Int}(B:pJ h a d tb wk)(q:∀v h',Kx [d] h h'->h'.ob d=aA (.aN<|dE eR<|wk.filter λp=>!decide (t<=p.1))->R v h'):WC (run pg (k+1) 87 [.ref a,.int t]) h R:=by refine aT rfl rfl<|gk (B.Pj rfl) B.od B.hd B.hl rfl (λp c=>⟨rfl,rfl⟩) ?_;refine Ba rfl rfl (by decide) (show 3<4 by decide) (Kp.refl.new.get B.ha B.o) rfl rfl (Kp.refl.new.get B.hd B.od) (by rw[bP,jE];rfl) (iJ B.hd) (yr B.nd) (oA B.nd) (by rw[aU];exact lu (pF ..) B.hl) λe h' kx nx b=>?_;rw[yt B.nd λx=>Qc]at b;refine WC.of<|kK (cO<|kx.get (cF _) (by simp;have:=B.hd;omega) bP)<|q _ h' (Kx.kp Kp.refl.new kx) b
end
section
variable {k:Nat}{a b:Nat}{kp:Dc (Hq×Hq)}
def lG(p:Hq×Hq):AV:=.tup [oI p.1,oI p.2]
def lU(p:Int×Hq):AV:=.tup [.int p.1,oI p.2]
structure lB(h:AH)(a d b:Nat)(kp:Dc (Hq×Hq))(bg:Dc (Int×Hq)):Prop where
 o:h.ob a=aA (.ins 17 [("kept",.ref d),("begun",.ref b)])
 od:h.ob d=aA (.aN<|dE lG kp)
 ob:h.ob b=aA (.aN<|dE lU bg)
 ha:a<h.nx
 hd:d<h.nx
 hb:b<h.nx
 ne:d≠b
 lk:kp.length<64
 lb:bg.length<64
 nk:(kp.map (·.1)).Pairwise (·<·)
 nb:(bg.map (·.1)).Nodup
theorem lB.nd(S:lB h a d b kp bg):(kp.map (·.1)).Nodup:=S.nk.imp λh=>by omega
theorem lB.oz(S:lB h a d b kp bg):(h.put d o).ob a=aA (.ins 17 [("kept",.ref d),("begun",.ref b)]):=(bN<|rG S.o S.od<|nofun).trans S.o
theorem aMa{t:Int}(S:lB h a d b kp bg)(hb:aX bg t=aD)(hk:∀p∈kp,p.1<t)(q:∀v h',Kx [d] h h'->h'.ob d=aA (.aN<|dE lG<|kp++[(t,aD,aD)])->R v h'):WC (run pg (k+1) 94 [.ref a,.int t]) h R:=by
 have hn:aX kp t=aD:=Option.eq_none_iff_forall_ne_some.mpr λv e=>by have:=hk _ (sv e);omega
 refine aT rfl rfl<|aC.of S.o<|WC.of<|vK S.ob rfl ?_;rw[iZ,hb];refine aC.of rfl<|YF (gm (js rfl) S.o rfl rfl) S.od S.hd (by have:=S.lk;omega) rfl (λp c=>⟨rfl,rfl⟩) ?_;refine WC.of<|aPq (by rw[bP,jE];rfl) ?_;rw[show(kp.map λp=>decide (t<=p.1)).any id=aH from by
  rw[KU,KR];intro p c;have:=hk p c;simp;omega]
 have k1:Kp h (h.new<|.lst aB<|kp.map λp=>AV.bl (decide<|t<=p.1)):=Kp.refl.new;refine aC.of (k1.get S.ha S.o)<|rO (k1.get S.hd S.od) rfl (by have:=S.lk;have:=kG;rw[mY];omega) ?_;refine q _ _ ((Kx.of k1).put (by simp)) ?_;rw[bS,show AV.tup [.aG,.aG]=lG (aD,aD) from rfl,xJ,Bd hn]
theorem aRi{t:Int}{p:Hq}(S:lB h a d b kp bg)(hk:aX kp t=aA (p,aD))(q:∀v,R v (h.put d<|.aN<|dE lG<|eP kp t (p,aA w))):WC (run pg (k+1) 97 [.ref a,.int t,.int w]) h R:=by refine aT rfl rfl<|aC.of S.o<|aE.t rfl<|aC.of rfl<|aE.t (qO S.od)<|WC.of<|Ch S.od rfl ?_;rw[iZ,hk];refine aC.of S.o<|rO S.od rfl (by have:=S.lk;have:=kG;rw[mY];omega) ?_;rw[show AV.tup [oI p,.int w]=lG (p,aA w) from rfl,xJ];exact q _
theorem N0{t:Int}{g:Hq}(S:lB h a d b kp bg)(hb:aX bg t=aD)(hk:aX kp t=aD)(q:∀v,R v (h.put b<|.aN<|dE lU<|bg++[(t,p,g)])):WC (run pg (k+1) 99 [.ref a,.int t,.int p,oI g]) h R:=by refine aT rfl rfl<|aC.of S.o<|WC.of<|vK S.ob rfl ?_;rw[iZ,hb];refine aC.of rfl<|aC.of S.o<|WC.of<|vK S.od rfl ?_;rw[iZ,hk];refine aC.of rfl<|aC.of S.o<|rO S.ob rfl (by have:=S.lb;have:=kG;rw[mY];omega) ?_;rw[show AV.tup [.int p,oI g]=lU (p,g) from rfl,xJ,Bd hb];exact q _
theorem M3{t:Int}{v:Hq×Hq}(S:lB h a d b kp bg)(hk:aX kp t=aA v)(q:∀v,R v (h.put d<|.aN<|dE lG<|mZ kp t)):WC (run pg (k+1) 100 [.ref a,.int t]) h R:=by refine aT rfl rfl<|aC.of S.o<|WC.of<|vK S.od rfl ?_;rw[iZ,hk];refine aC.of rfl<|aC.of S.o<|aE.t rfl<|aC.of rfl<|aE.t (qO S.od)<|WC.of<|Pe S.od rfl (by rw[iZ,hk];rfl) ?_;rw[yo];exact q _
theorem M1{t:Int}{v:Int×Hq}(S:lB h a d b kp bg)(hk:aX kp t=aD)(hb:aX bg t=aA v)(q:∀v,R v (h.put b<|.aN<|dE lU<|mZ bg t)):WC (run pg (k+1) 100 [.ref a,.int t]) h R:=by refine aT rfl rfl<|aC.of S.o<|WC.of<|vK S.od rfl ?_;rw[iZ,hk];refine aC.of rfl<|aC.of S.o<|WC.of<|vK S.ob rfl ?_;rw[iZ,hb];refine aC.of rfl<|aC.of S.o<|aE.t rfl<|aC.of rfl<|aE.t (qO S.ob)<|WC.of<|Pe S.ob rfl (by rw[iZ,hb];rfl) ?_;rw[yo];exact q _
end
section
variable {k:Nat}{a b:Nat}{kp:Dc (Hq×Hq)}
theorem Kx.putN{x y:AH}(g:Kx S x y)(hn:x.nx<=n):Kx S x (y.put n o):=⟨g.nx,λm hm a=>(bN<|bQ<|bA hm hn).trans (g.ob m hm a)⟩
theorem Kx.Om{x y:AH}(g:Kx [n] x y)(e:x.ob n=aA o):Kp x (y.put n o):=⟨g.nx,λm hm=>by
 by_cases z:m=n
 .rw[z,bS,e]
 .exact(bN z).trans (g.ob m hm (by simpa))⟩
def mG(t p:Int)(q:Int×Int×Hq):Bool:=decide (t<q.1)&&(decide (q.2.1=p)&&match q.2.2 with|none=>aB|some g=>decide (g<t))
theorem VN{t:Int}(S:lB h a d b kp bg)(q:∀n h',Kp h h'->h'.ob n=aA (.lst aB<|(bg.filter<|mG t p).map λq=>.int q.1)->R (.ref n) h'):WC (run pg (k+1) 96 [.ref a,.int t,.int p]) h R:=by
 have big:=kG;have lb:=S.lb;have hb:=S.hb;have k0:Kp h (h.new<|.lst aB []):=Kp.refl.new;refine aT rfl rfl<|WB.of<|aSq (kvs:=dE lU bg) (gm (js rfl) (k0.get S.ha S.o) rfl rfl) (k0.get hb S.ob) ?_;refine A2 (λj Z h'=>(∃v4 v5,Z=[aA (.ref a),aA (.int t),aA (.int p),aA (.ref h.nx),v4,v5])/\Kx [b] h h'/\h'.ob b=aA (.dF<|dE lU bg)/\h'.ob h.nx=aA (.lst aB<|((bg.take j).filter (mG t p)).map λq=>.int q.1)/\h.nx<h'.nx) (by rw[aU,mY,fI];omega) ?_ (λj x Z h' hx y=>?_)<|λZ h' y=>?_
 .exact⟨⟨_,_,rfl⟩,(Kx.of k0).put (by simp),bS,(bN<|kL hb).trans bP,cF _⟩
 .obtain⟨⟨v4,v5,rfl⟩,kx,q1,q2,lt⟩:=y;unfold dE at hx;rw[jE,fO]at hx;obtain⟨⟨o,pl,g⟩,hr,rfl⟩:=Option.map_eq_some_iff.mp hx;have oa:=kx.get S.ha (by simpa using rG S.o S.ob (nofun)) S.o;have va:bL (dE lU bg) (.inl o)=aA (.tup [.int pl,oI g]):=by rw[iZ,nE S.nb (bX hr)];rfl
  have et:bg.take (j+1)=bg.take j++[(o,pl,g)]:=by rw[pG,hr];rfl
  have no:mG t p (o,pl,g)=aH->h'.ob h.nx=aA (.lst aB<|((bg.take<|j+1).filter (mG t p)).map λq=>.int q.1):=λe=>by rw[q2,et,xY,jB,e];simp
  have yes:mG t p (o,pl,g)=aB->WC (uH (.ref h.nx)<|.int o) h' λ_ h2=>Kx [b] h h2/\h2.ob b=aA (.dF<|dE lU bg)/\h2.ob h.nx=aA (.lst aB<|((bg.take<|j+1).filter (mG t p)).map λq=>.int q.1)/\h.nx<h2.nx:=λe=>by
   have l1:((bg.take j).filter (mG t p)).length<=(bg.take j).length:=pF ..;have l2:(bg.take j).length<=bg.length:=by rw[lP];omega
   refine WC.of<|bu q2 (by rw[aU];omega) ⟨kx.putN (aV _),(bN<|bQ hb).trans q1,?_,lt⟩;rw[bS,et,xY,jB,e,gB];rfl
  refine kJ _<|gX _<|aC.of oa<|WC.of<|Cj q1 rfl va ?_;refine aE.dc (λc1=>?_) λc1=>⟨⟨_,_,rfl⟩,kx,q1,no (by unfold mG;rw[decide_eq_false c1];rfl),lt⟩;refine aC.of oa<|WC.of<|Cj q1 rfl va<|aE.dc (λc2=>?_) λc2=>⟨⟨_,_,rfl⟩,kx,q1,no (by unfold mG;rw[decide_eq_false c2,Bool.false_and,Bool.and_false]),lt⟩;have fin:=λe=>WC.of ((yes e).we.mono λv h2 z=>(show(∃v4 v5,[aA (.ref a),aA (.int t),aA (.int p),aA (.ref h.nx),aA (.int o),aA (oI g)]=[aA (.ref a),aA (.int t),aA (.int p),aA (.ref h.nx),v4,v5])/\_ from⟨⟨_,_,rfl⟩,z⟩));cases g with
  |none=>exact aE.t (uO q2)<|fin (by unfold mG;rw[decide_eq_true c1,decide_eq_true c2];rfl)|some g=>exact aE.dc (λc3=>aE.t (uO q2) (fin (by unfold mG;rw[decide_eq_true c1,decide_eq_true c2];exact decide_eq_true c3))) λc3=>⟨⟨_,_,rfl⟩,kx,q1,no (by unfold mG;rw[decide_eq_true c1,decide_eq_true c2];exact decide_eq_false c3),lt⟩
 .obtain⟨⟨v4,v5,rfl⟩,kx,q1,q2,lt⟩:=y;refine⟨q1,q _ _ (kx.Om S.ob) ((bN<|kL hb).trans ?_)⟩;rw[aU,mY,pH]at q2;exact q2
end
section
variable {k:Nat}{a b:Nat}{kp:Dc (Hq×Hq)}
def Am(l:Ht):Hq:=if l.isEmpty then aD else aA (sV l)
def pQ(bg:Dc (Int×Hq))(t p:Int):Hq:=Am ((bg.filter<|mG t p).map (·.1))
theorem CS(h:d<n):n∉[d]:=λz=>by rw[List.mem_singleton.mp z]at h;exact oP _ h
theorem Bc{β:Type}{l:Dc β}{v w:β}(h:aX l x=aA w):(eP l x v).map (·.1)=l.map (·.1):=by unfold eP;rw[if_pos (List.any_eq_true.mpr ⟨_,sv h,by simp⟩),jE];refine lj λp _=>?_;simp only[kr];split<;>rfl
theorem lB.putK{t:Int}{v w:Hq×Hq}(S:lB h a d b kp bg)(hk:aX kp t=aA w):lB (h.put d<|.aN<|dE lG<|eP kp t v) a d b (eP kp t v) bg:=
 ⟨S.oz,bS,(bN S.ne.symm).trans S.ob,S.ha,S.hd,S.hb,S.ne,by rw[<- aU,Bc hk,aU];exact S.lk,S.lb,by rw[Bc hk];exact S.nk,S.nb⟩
theorem aCf{t:Int}{w:Hq}(S:lB h a d b kp bg)(hk:aX kp t=aA (aD,w))(q:∀h',Kp (h.put d<|.aN<|dE lG<|eP kp t (aA p,w)) h'->R (oI<|pQ bg t p) h'):WC (run pg (k+2) 95 [.ref a,.int t,.int p]) h R:=by
 refine aT rfl rfl<|aC.of S.o<|aE.t rfl<|aC.of rfl<|aE.t (qO S.od)<|WC.of<|Ch S.od rfl ?_;rw[iZ,hk];refine aC.of S.o<|rO S.od rfl (by have:=S.lk;have:=kG;rw[mY];omega) ?_;rw[show AV.tup [.int p,oI w]=lG (aA p,w) from rfl,xJ];have e:=S.putK (v:=(aA p,w)) hk;refine aC.of e.o<|VN e λn h' c on=>?_;refine WC.of<|aQj (by rw[on,jE];rfl) ?_;have:=q h' c;unfold pQ Am at this;split at this<;>rename_i z
 .rw[if_pos z];exact this
 .rw[if_neg z];exact this
def uQ(p:Int)(dr:Bool):List (Int×Hq×Hq)->Option (Option<|Int×Int)
 |[]=>aA aD
 | (t,sp,w)::l=>if sp=aD/\dr=aH then aD else if sp=aA p then w.map λw=>aA (t,w) else uQ p dr l
def N4:Option (Option<|Int×Int)->AV
 |none=>.aG
 |some aD=>.tup [.aG,.aG]
 |some (aA (t,w))=>.tup [.int t,.int w]
theorem N8{t:Int}(S:lB h a d b kp bg)(q:∀h',Kp h h'->R (N4<|uQ p dr (kp.filter λq=>decide (q.1<t)).reverse) h'):WC (run pg (k+1) 98 [.ref a,.int t,.int p,.bl dr]) h R:=by
 have lk:=S.lk;have lf:(kp.filter λq=>decide (q.1<t)).length<=kp.length:=pF ..;refine aT rfl rfl<|gk (f:=λq=>decide (q.1<t)) (gm (js rfl) S.o rfl rfl) S.od S.hd (by omega) rfl (λp hp=>⟨rfl,rfl⟩) ?_;have srt:kX aB ((kp.filter λq=>decide (q.1<t)).map (·.1))=((kp.filter λq=>decide (q.1<t)).reverse.map (·.1)):=by rw[List.map_reverse];exact aLl<|xW (List.filter_sublist.map _) S.nk
 refine WB.of<|mO<|nO<|WC.of<|aQu (ns:=(kp.filter λq=>decide (q.1<t)).map (·.1)) (by rw[bP,jE];rfl) (by rw[aU];omega) ?_;rw[srt];generalize el:(kp.filter λq=>decide (q.1<t)).reverse=l at q ⊢;have ll:l.length<64:=by rw[<- el,Qs];omega
 have hm:∀q∈l,q∈kp:=λq hq=>by rw[<- el]at hq;exact(List.mem_filter.mp<|List.mem_reverse.mp hq).1
 refine oJ bP ?_;have k2:∀{o1 o2:bB},Kp h ((h.new o1).new o2):=Kp.refl.new.new;refine uF (n:=h.nx+1) (bb:=aB) (xs:=(l.map (·.1)).map AV.int) (λj Z h'=>(∃v5 v6 v7,Z=[aA (.ref a),aA (.int t),aA (.int p),aA (.bl dr),aA (.ref h.nx),v5,v6,v7])/\Kp h h'/\uQ p dr l=uQ p dr (l.drop j)/\h'.ob (h.nx+1)=aA (.lst aB<|(l.map (·.1)).map .int)) (by rw[aU,aU,fI];omega) ⟨⟨_,_,_,rfl⟩,k2,rfl,bP⟩ (λ_ _ _ y=>y.2.2.2) (λj x Z h' hx y=>?_)<|λZ h' y=>?_
 .obtain⟨⟨v5,v6,v7,rfl⟩,kx,e,on⟩:=y;rw[jE]at hx;obtain⟨⟨o,sp,w⟩,hr,rfl⟩:=lH hx;have hj:=(List.getElem?_eq_some_iff.mp hr).1;have de:l.drop j=(o,sp,w)::l.drop (j+1):=by rw[Qj hj,(List.getElem?_eq_some_iff.mp hr).2]
  rw[de]at e;have oa:=kx.get S.ha S.o;have od:=kx.get S.hd S.od;have va:bL (dE lG kp) (.inl o)=aA (.tup [oI sp,oI w]):=by rw[iZ,nE S.nd (hm _<|bX hr)];rfl
  have q':=q h' kx;rw[e]at q';refine kJ _<|gX _<|aC.of oa<|WC.of<|jx (k:=.inl o) od rfl va<|aC.of oa<|WC.of<|jx (k:=.inl o) od rfl va ?_;cases sp with
  |none=>
   cases dr with
   |false=>exact q'|true=>exact WC.of<|Ci (b:=aH) rfl ⟨⟨_,_,_,rfl⟩,kx,e,on⟩
  |some sp=>
   refine aE.dc (λc=>?_) λc=>⟨⟨_,_,_,rfl⟩,kx,?_,on⟩
   .subst c;unfold uQ at q';rw[if_neg (λz=>nomatch z.1),if_pos rfl]at q';cases w<;>exact q'
   .rw[e];show(if aA sp=aD/\dr=aH then aD else if aA sp=aA p then _ else _)=_;rw[if_neg (λz=>nomatch z.1),if_neg λz=>c (dI z)]
 .obtain⟨⟨v5,v6,v7,rfl⟩,kx,e,on⟩:=y;rw[aU,aU,Dn]at e;have q':=q h' kx;rw[e]at q';exact q'
theorem aLy{t:Int}(S:lB h a d b kp bg)(q:∀v h',Kx [d,b] h h'->h'.ob d=aA (.aN<|dE lG<|kp.filter λp=>!decide (t<=p.1))->h'.ob b=aA (.aN<|dE lU<|bg.filter λp=>!decide (t<=p.1))->R v h'):WC (run pg (k+1) 101 [.ref a,.int t]) h R:=by
 have lk:=S.lk;have lb:=S.lb;have k1:∀{o:bB},Kp h (h.new o):=Kp.refl.new;refine aT rfl rfl<|gk (f:=λq=>decide (t<=q.1)) (gm (js rfl) S.o rfl rfl) S.od S.hd (by omega) rfl (λp hp=>⟨rfl,rfl⟩) ?_;refine(gk (f:=λq=>decide (t<=q.1)) (gm (js rfl) (k1.get S.ha S.o) rfl rfl) (k1.get S.hb S.ob) (iJ S.hb) (by omega) rfl (λp hp=>⟨rfl,rfl⟩) ?_);have k2:∀{o1 o2:bB},Kp h ((h.new o1).new o2):=Kp.refl.new.new;have hd:=S.hd;have hb:=S.hb;refine Ba (e:=lG) (l:=kp) (ts:=(kp.filter λp=>decide (t<=p.1)).map (·.1)) (j:=2) (n:=h.nx) rfl rfl (by decide) (show 4<5 by decide) (k2.get S.ha S.o) rfl rfl (k2.get S.hd S.od) (by rw[dY (bQ<|cF h.nx),bP,jE];rfl) (bA hd k2.nx) (yr S.nd) (oA S.nd) (by rw[aU];have:=pF (λp:Int×Hq×Hq=>decide (t<=p.1)) kp;omega) λo' h3 kx nx q1=>?_;have ka:=Kx.kp k2 kx;refine Ba (e:=lU) (l:=bg) (ts:=(bg.filter λp=>decide (t<=p.1)).map (·.1)) (j:=3) (n:=h.nx+1) rfl rfl (by decide) (show 4<5 by decide) (ka.get S.ha (by simpa using rG S.o S.od (λz=>nomatch z)) S.o) rfl rfl (ka.get hb (by simpa using S.ne.symm) S.ob) ((kx.get (cF _) (CS<|iJ hd) bP).trans (by rw[jE];rfl)) (bA hb ka.nx) (yr S.nb) (oA S.nb) (by rw[aU];have:=pF (λp:Int×Int×Hq=>decide (t<=p.1)) bg;omega) λo'' h4 kx' nx' q2=>?_;rw[yt S.nd λx=>Qc]at q1;rw[yt S.nb λx=>Qc]at q2;have lx:h.nx+2<=h3.nx:=by rw[nx];exact aV _
 have c1:∃xs,h4.ob h.nx=aA (.lst aB xs):=⟨_,kx'.get (by omega) (by simp;omega) (kx.get (iJ<|cF _) (by simp;omega)<|(dY<|bQ<|cF h.nx).trans bP)⟩;have c2:∃xs,h4.ob (h.nx+1)=aA (.lst aB xs):=⟨_,kx'.get (by omega) (by simp;omega) (kx.get (cF _) (CS<|iJ hd) bP)⟩;obtain⟨x1,c1⟩:=c1;obtain⟨x2,c2⟩:=c2;refine WC.of<|kK (cO c1)<|WC.of<|kK (cO c2)<|q _ h4 ?_ ?_ q2
 .exact(ka.sub (by simp)).trans (kx'.sub (by simp))
 .exact kx'.get (bA hd ka.nx) (by simpa using S.ne) q1
end
section
variable {k:Nat}{a:Nat}{fl:Int->Ht}
structure lA(h:AH)(a d:Nat)(kf:Dc Nat)(fl:Int->Ht):Prop where
 o:h.ob a=aA (.ins 16 [("filled",.ref d)])
 od:h.ob d=aA (.aN<|dE AV.ref kf)
 ha:a<h.nx
 hd:d<h.nx
 nd:(kf.map (·.1)).Nodup
 lk:kf.length<64
 ls:∀x f,aX kf x=aA f->f<h.nx/\h.ob f=aA (.lst aB<|(fl x).map .int)
 no:∀x,aX kf x=aD->fl x=[]
 inj:∀x y f,aX kf x=aA f->aX kf y=aA f->x=y
 lf:∀x,(fl x).length<100000
theorem lA.keep(S:lA h a d kf fl)(g:Kp h h'):lA h' a d kf fl:=⟨g.get S.ha S.o,g.get S.hd S.od,bA S.ha g.nx,bA S.hd g.nx,S.nd,S.lk,λx f e=>⟨bA (S.ls x f e).1 g.nx,g.get (S.ls x f e).1 (S.ls x f e).2⟩,S.no,S.inj,S.lf⟩
theorem lA.ld(S:lA h a d kf fl){f:Nat}(e:aX kf x=aA f):f≠d:=rG (S.ls x f e).2 S.od (nofun)
theorem lA.la(S:lA h a d kf fl){f:Nat}(e:aX kf x=aA f):f≠a:=rG (S.ls x f e).2 S.o (nofun)
theorem BM{l:Ht}{t:Int}(e:l.getLast?=aA t):cN (l.map AV.int) (-1)=aA (.int t):=by
 have hl:l≠[]:=λz=>by rw[z]at e;cases e
 have:=List.length_pos_iff.mpr hl;rw[show -1 = -((1:Nat):Int) from rfl,PC (by decide) (by rw[aU];exact this),aU,fO];rw[aTn]at e;rw[e];rfl
theorem AA(S:lA h a d kf fl)(q:∀h',Kp h h'->R (oI (fl x).getLast?) h'):WC (run pg (k+1) 90 [.ref a,.int x]) h R:=by
 have k1:∀{o:bB},Kp h (h.new o):=Kp.refl.new;have k2:∀{i j:bB},Kp h ((h.new i).new j):=Kp.refl.new.new;have fin:∀{n:Nat} {h':AH}{o:bB},Kp h (h'.new<|.lst aB [])->n≠h'.nx->h'.ob n=aA (.lst aB<|(fl x).map .int)->WC (Cp.g .ne (.ref n)<|.ref h'.nx) (h'.new<|.lst aB []) λz g=>aC (sG z) λb=>aE b (WC (Op.g .ix (.ref n)<|.int<|-1) g R) (R .aG g):=λ{n h' o} kp hn on=>by
  have c:=(dY (o:=.lst aB []) hn).trans on;refine WC.of<|JG rfl (Hn c bP) ?_;cases e:(fl x).getLast? with
  |none=>have:=q _ kp;rw[e]at this;rw[(List.getLast?_eq_none_iff.mp e)];exact this
  |some t=>
   have hl:¬((fl x).map AV.int=[]):=λz=>by rw[List.map_eq_nil_iff.mp z]at e;cases e
   rw[decide_eq_false hl];have:=q _ kp;rw[e]at this;exact WC.of<|gQ (cO c) (BM e) this
 refine aT rfl rfl<|aC.of S.o<|aE.t rfl<|aC.of rfl<|aE.t (qO S.od)<|WC.of<|JB (k1.get S.hd S.od) rfl ?_;rw[iZ];cases e:aX kf x with
 |none=>exact fin (o:=.lst aB []) k2 (bQ<|cF _) (by rw[S.no x e];exact bP)|some f=>have lf:=S.ls x f e;exact fin (o:=.lst aB []) k2 (bQ<|iJ lf.1)<|k1.get lf.1 lf.2
theorem C7{xs:Ht}(S:lA h a d kf fl)(hx:xs.length<64)(q:∀h',Kp h h'->R (.tup<|xs.map λx=>oI (fl x).getLast?) h'):WC (run pg (k+2) 91 [.ref a,.tup (xs.map .int)]) h R:=by
 have big:=kG;refine aT rfl rfl ?_;refine WC.of<|cf ?_;refine nO<|aC.of rfl<|aC.of rfl<|aRb ?_;refine XA (λj b c h'=>(∃v0,c=[v0,aA (.ref a)])/\b=(xs.take j).map (λx=>oI (fl x).getLast?)/\Kp h h') (by rw[aU,fI];omega) ⟨⟨_,rfl⟩,rfl,Kp.refl⟩ (λj x b c h' hx y=>?_)<|λb c h' y=>?_
 .obtain⟨⟨v0,rfl⟩,rfl,kp⟩:=y;obtain⟨x,hr,rfl⟩:=lH hx;refine cH _ (aC.of (kp.get S.ha S.o)<|AA (S.keep kp) λe k2=>⟨?_,⟨_,rfl⟩,?_,kp.trans k2⟩)
  .rw[aU,lP];omega
  .rw[pG,hr,gB];rfl
 .obtain⟨⟨v0,rfl⟩,rfl,kp⟩:=y;rw[aU,pH];exact WC.of<|vM (cO bP)<|q _ kp.new
end
section
variable {k:Nat}{a:Nat}{fl:Int->Ht}
theorem JF(e:h.ob n=aA (.aN kvs))(q:V1 (.ref h.nx) (h.new<|.lst aB<|kvs.map λp=>sQ p.1)):We (Bi.g .list [.ref n]) h V1:=by show We (zQ [.ref n]) h V1;unfold We zQ lX kB;simp only[jP,dW,Hg,e];exact q
def lL(fl:Int->Ht)(x:Int)(l:Ht):Int->Ht:=λy=>if y=x then l else fl y
theorem BF:(dE AV.ref kf).map (λp=>sQ p.1)=kf.map λp=>AV.int p.1:=by unfold dE;rw[jE];rfl
structure Uc(h h':AH)(d x:Nat)(kf kf':Dc Nat)(b:Int):Prop where
 kx:Kx (d::(aX kf b).toList) h h'
 old:∀y,y≠b->aX kf' y=aX kf y
 new:∃f,aX kf' b=aA f/\(aX kf b=aA f\/aX kf b=aD/\h.nx<=f)
theorem su{β:Type}{l:Dc β}{v:β}:aX (l++[(x,v)]) y=(aX l y).or (if x=y then aA v else aD):=by unfold aX;rw[Dr,Option.map_or];by_cases z:x=y<;>simp[z]
theorem y4{t:Int}(S:lA h a d kf fl)(hk:kf.length<60)(hf:∀y u,(fl y).getLast?=aA u->u<t)(hl:(fl x).length<99999)(q:∀v kf' h',lA h' a d kf' (lL fl x<|fl x++[t])->Uc h h' d 0 kf kf' x->kf'.length<=kf.length+1->R v h'):WC (run pg (k+2) 89 [.ref a,.int t,.int x]) h R:=by
 have big:=kG;have lx:(kf.map λp=>AV.int p.1).length=kf.length:=aU ..;refine aT rfl rfl<|WB.of<|mO<|nO<|aC.of S.o<|WC.of<|JF S.od ?_;rw[BF];refine oJ bP ?_;generalize eh:h.new (.lst aB<|kf.map λp=>AV.int p.1)=h0;have k0:Kp h h0:=eh▸Kp.refl.new;have n0:h.nx<h0.nx:=by rw[<- eh];exact cF _
 have on:h0.ob h.nx=aA (.lst aB<|kf.map λp=>AV.int p.1):=eh▸bP;refine uF (n:=h.nx) (bb:=aB) (xs:=kf.map λp=>AV.int p.1) (λj Z h'=>(∃v3 v4,Z=[aA (.ref a),aA (.int t),aA (.int x),v3,v4])/\Kp h0 h') (by rw[lx,fI];omega) ⟨⟨_,_,rfl⟩,Kp.refl⟩ (λ_ _ _ y=>y.2.get n0 on) (λj y Z h' hx z=>?_)<|λZ h' z=>?_
 .obtain⟨⟨v3,v4,rfl⟩,kp⟩:=z;obtain⟨p,hr,rfl⟩:=lH hx;have S':=S.keep (k0.trans kp);refine kJ _<|gX _<|aC.of S'.o<|AA (k:=k) S' λh2 k2=>?_;have kq:=kp.trans k2;cases e:(fl p.1).getLast? with
  |none=>exact⟨⟨_,_,rfl⟩,kq⟩|some u=>exact aE.df (by have:=hf _ _ e;omega) ⟨⟨_,_,rfl⟩,kq⟩
 .obtain⟨⟨v3,v4,rfl⟩,kp⟩:=z;have kq:=k0.trans kp;have S':=S.keep kq;have k1:∀{o:bB},Kp h' (h'.new o):=Kp.refl.new;have S2:=S'.keep (k1 (o:=.lst aB []));have nx:=kq.nx;refine aC.of S'.o (aE.t rfl<|aC.of rfl<|aE.t (qO S'.od)<|WC.of<|aPx (k:=.inl x) S2.od rfl (by rw[mY];omega) (λv e=>?_) λe=>?_)
  .rw[iZ]at e;obtain⟨f,ef,rfl⟩:=Option.map_eq_some_iff.mp e;obtain⟨f1,f2⟩:=S2.ls x f ef;have f3:=(S.ls x f ef).1;refine aE.t (uO f2)<|WC.of<|bu f2 (by rw[aU];have:sizeLine=16777216:=oR;omega) ?_;refine q _ kf _ ⟨(bN (S2.la ef).symm).trans S2.o,(bN (S2.ld ef).symm).trans S2.od,S2.ha,S2.hd,S.nd,S.lk,λy g eg=>?_,λy ey=>?_,S.inj,λy=>?_⟩ ⟨((Kx.of<|kq.trans k1).put (by rw[ef];simp)),λ_ _=>rfl,f,ef,.inl ef⟩ (hA _)
   .refine⟨(S2.ls y g eg).1,?_⟩;unfold lL;by_cases z:y=x
    .subst z;rw[ef]at eg;cases eg;rw[bS,if_pos rfl,gB];rfl
    .rw[if_neg z,bN (show g≠f from λw=>z (S.inj y x f (w▸eg) ef))];exact(S2.ls y g eg).2
   .unfold lL;rw[if_neg λz=>by rw[z,ef]at ey;cases ey];exact S.no y ey
   .unfold lL;split
    .rw[dQ];exact xZ hl
    .exact S.lf y
  .rw[iZ,MW]at e;have f0:=S.no x e;rw[xJ,Bd e];have hh:h'.nx≠d:=kL S'.hd;have og:((h'.new<|.lst aB []).put d (.aN<|dE AV.ref<|kf++[(x,h'.nx)])).ob h'.nx=aA (.lst aB []):=(bN hh).trans bP;refine aE.t (uO og)<|WC.of<|bu og (bA (by decide)<|mS big) ?_;have lo:∀{y g},aX kf y=aA g->g<h'.nx:=λeg=>(S'.ls _ _ eg).1;refine q _ (kf++[(x,h'.nx)]) _ ⟨(bN<|bQ S'.ha).trans ((bN<|rG S2.o S2.od<|λz=>nomatch z).trans S2.o),(bN hh.symm).trans bS,S2.ha,S2.hd,?_,by rw[dQ];exact bA (xZ hk) (by decide),λy g eg=>?_,λy ey=>?_,λy z g e1 e2=>?_,λy=>?_⟩ ⟨((Kx.of<|kq.trans k1).put (by simp)).putN nx,λy hy=>?_,h'.nx,?_,.inr ⟨e,nx⟩⟩ (by rw[dQ];exact aV _)
   .rw[gB,MC];refine⟨S.nd,by simp,λy hy z hz=>?_⟩;obtain⟨p,hp,rfl⟩:=List.mem_map.mp hy;rw[List.mem_singleton.mp hz];intro w;have w':p.1=x:=w;have:=nE S.nd hp;rw[w',e]at this;cases this
   .rw[su]at eg;unfold lL;by_cases z:y=x
    .subst z;rw[e,if_pos rfl]at eg;cases eg;refine⟨cF _,?_⟩;rw[bS,if_pos rfl,f0];rfl
    .rw[if_neg λw=>z w.symm,cw]at eg;refine⟨iJ (lo eg),?_⟩;rw[if_neg z,bN (bQ<|lo eg),bN (S2.ld eg)];exact(S2.ls y g eg).2
   .rw[su]at ey;unfold lL;by_cases z:y=x
    .subst z;rw[if_pos rfl]at ey;cases h8:aX kf y<;>rw[h8]at ey<;>cases ey
    .rw[if_neg λw=>z w.symm,cw]at ey;rw[if_neg z];exact S.no y ey
   .rw[su]at e1 e2;by_cases z1:y=x<;>by_cases z2:z=x
    .rw[z1,z2]
    .subst z1;rw[e,if_pos rfl]at e1;cases e1;rw[if_neg λw=>z2 w.symm,cw]at e2;exact absurd (lo e2)<|oP _
    .subst z2;rw[e,if_pos rfl]at e2;cases e2;rw[if_neg λw=>z1 w.symm,cw]at e1;exact absurd (lo e1)<|oP _
    .rw[if_neg λw=>z1 w.symm,cw]at e1;rw[if_neg λw=>z2 w.symm,cw]at e2;exact S.inj y z g e1 e2
   .unfold lL;split
    .rw[dQ];exact xZ hl
    .exact S.lf y
   .rw[su,if_neg λw=>hy w.symm,cw]
   .rw[su,e,if_pos rfl];rfl
end
section
variable {k:Nat}{a:Nat}{fl:Int->Ht}
def kC(t:Int)(l:Ht):Ht:=(l.reverse.dropWhile λu=>decide (t<=u)).reverse
theorem DW{t:Int}{l:Ht}:kC t (l++[u])=if t<=u then kC t l else l++[u]:=by
 unfold kC;rw[List.reverse_append];show(List.dropWhile _<|u::l.reverse).reverse=_;by_cases z:t<=u
 .simp[z]
 .simp[z]
theorem DV(t:Int)(l:Ht):(kC t l).length<=l.length:=by unfold kC;rw[Qs];have:=(KY (λu=>decide (t<=u)) (l:=l.reverse)).length_le;rw[Qs]at this;exact this
theorem aLk{l:Ht}(h:l≠[]):∃m u,l=m++[u]:=⟨l.dropLast,l.getLast h,(aTi h).symm⟩
theorem aCn{f:Nat}{t z:Int}{l:Ht}{v3:AV}(of:h.ob f=aA (.lst aB<|l.map .int))(hf:f<h.nx)(hl:l.length<100000)
  (q:∀z' h',Kx [f] h h'->h'.ob f=aA (.lst aB<|(kC t l).map .int)->N [aA (.ref a),aA (.int t),aA (.int z'),aA v3,aA (.ref f)] h') :
  Wt (vN (dU F<|.and (.cmp .ne (.var 4)<|.lst .nil)<|.cmp .ge (.op .ix (.var 4)<|.neg<|.val<|.int 1)<|.var 1) (jR F<|.cons (.expr<|.tw<|.var 4)<|.cons (.aug aH 2<|.val<|.int 1) .nil) FU [aA (.ref a),aA (.int t),aA (.int z),aA v3,aA (.ref f)]) h N R B C:=by
 refine vd (λi j h'=>i<=l.length/\∃(z':Int) (m:Ht),m.length+i=l.length/\j=[aA (.ref a),aA (.int t),aA (.int z'),aA v3,aA (.ref f)]/\Kx [f] h h'/\h'.ob f=aA (.lst aB<|m.map .int)/\kC t l=kC t m) l.length (λi j h' y=>y.1) (λi j h' y=>?_) FU 0 _ h (by rw[fI];omega) ⟨kM _,z,l,rfl,rfl,Kx.refl,of,rfl⟩;obtain⟨_,z',m,em,rfl,kx,k,e⟩:=y;have b:=(dY (o:=.lst aB [])<|bQ<|bA hf kx.nx).trans k;refine oH _<|WC.of<|JG rfl (Hn b bP) ?_;by_cases c:m=[]
 .subst c;exact q z' _ kx.new<|e▸b
 .have n:¬(m.map AV.int=[]):=λw=>c (List.map_eq_nil_iff.mp w);rw[decide_eq_false n];obtain⟨d,u,rfl⟩:=aLk c;rw[dQ]at em;have p:((d++[u]).map AV.int)=d.map AV.int++[.int u]:=gB ..;refine aC.of rfl<|WC.of<|gQ (cO b) (BM (by rw[LU])) ?_;show if decide (t<=u)=aB then _ else _
  by_cases g:t<=u
  .rw[if_pos (decide_eq_true g)];rw[p]at b;rw[DW,if_pos g]at e;refine gX _<|WC.of<|aSa<|cH _<|aC.of rfl<|aC.of rfl<|aQr b ?_;have r:d.length+1+i=l.length:=em;exact⟨by omega,_,d,by omega,rfl,kx.new.put (.head _),bS,e⟩
  .rw[if_neg (by simpa using g)];rw[DW,if_neg g]at e;exact q z' _ kx.new<|e▸b
theorem U3{t:Int}(S:lA h a d kf fl)(q:∀v h',lA h' a d kf (λx=>kC t (fl x))->Kx (kf.map (·.2)) h h'->R v h'):WC (run pg (k+1) 92 [.ref a,.int t]) h R:=by
 have big:=kG;have lx:(kf.map λp=>AV.int p.1).length=kf.length:=aU ..;have lk:=S.lk;refine aT rfl rfl<|WB.of<|mO<|nO<|aC.of S.o<|WC.of<|JF S.od ?_;rw[BF];refine oJ bP ?_;have hv:∀p∈kf,aX kf p.1=aA p.2:=λp hp=>nE S.nd hp;have hs:∀{x f},aX kf x=aA f->f∈kf.map (·.2):=λe=>List.mem_map.mpr ⟨_,sv e,rfl⟩;refine uF (n:=h.nx) (bb:=aB) (xs:=kf.map λp=>AV.int p.1) (λj Z h'=>(∃z v3 v4,Z=[aA (.ref a),aA (.int t),aA (.int z),v3,v4])/\lA h' a d kf (λx=>if x∈(kf.take j).map (·.1) then kC t (fl x) else fl x)/\Kx (kf.map (·.2)) h h'/\h'.ob h.nx=aA (.lst aB<|kf.map λp=>AV.int p.1)/\h.nx<h'.nx) (by rw[lx,fI];omega) ⟨⟨_,_,_,rfl⟩,?_,Kx.of Kp.refl.new,bP,cF _⟩ (λ_ _ _ y=>y.2.2.2.1) (λj y Z h' hx w=>?_)<|λZ h' w=>?_
 .have:(λx=>if x∈(kf.take 0).map (·.1) then kC t (fl x) else fl x)=fl:=by funext x;simp
  rw[this];exact S.keep Kp.refl.new
 .obtain⟨⟨z,v3,v4,rfl⟩,S',kx,on,lt⟩:=w;obtain⟨⟨x,f⟩,hr,rfl⟩:=lH hx;have ef:=hv _ (bX hr);obtain⟨f1,f2⟩:=S'.ls x f ef;have fo:=(S.ls x f ef).1;refine kJ _<|gX _<|aC.of S'.o<|WC.of<|jx (k:=.inl x) S'.od rfl (by rw[iZ,ef];rfl)<|WB.of<|Cv<|aCn f2 f1 (S'.lf x) λz' h2 k2 o2=>?_;have ne:∀{m:Nat},m≠f->m∉[f]:=λhm w=>hm (List.mem_singleton.mp w);have xin:x∉(kf.take j).map (·.1):=by
   intro w;obtain⟨p,hp,e⟩:=List.mem_map.mp w;obtain⟨m,hm,e2⟩:=Qq hp;rw[lP]at hm;rw[LS]at e2;have hj:=(List.getElem?_eq_some_iff.mp hr).1;have e3:(kf.map (·.1))[m]'(by rw[aU];omega)=(kf.map (·.1))[j]'(by rw[aU];omega):=by rw[Dw,Dw,e2,(List.getElem?_eq_some_iff.mp hr).2];exact e
   have:=(Dv S.nd).mp e3;omega
  have tk:kf.take (j+1)=kf.take j++[(x,f)]:=by rw[pG,hr];rfl
  refine⟨⟨_,_,_,rfl⟩,⟨k2.get S'.ha (ne (S'.la ef).symm) S'.o,k2.get S'.hd (ne (S'.ld ef).symm) S'.od,bA S'.ha k2.nx,bA S'.hd k2.nx,S.nd,S.lk,λy g eg=>⟨bA (S'.ls y g eg).1 k2.nx,?_⟩,λy ey=>?_,S.inj,λy=>?_⟩,kx.trans (k2.sub λm hm=>by rw[List.mem_singleton.mp hm];exact hs ef),k2.get lt (ne<|kL fo) on,bA lt k2.nx⟩
  .rw[tk,gB];by_cases c:y=x
   .subst c;rw[ef]at eg;cases eg;rw[o2,if_neg xin,if_pos (by simp)]
   .have c':y∈(kf.take j).map (·.1)++[(x,f)].map (·.1)↔y∈(kf.take j).map (·.1):=by simp[c]
    have:=k2.get (S'.ls y g eg).1 (ne λw=>c (S.inj y x f (w▸eg) ef)) (S'.ls y g eg).2;rw[this];simp only[c']
  .rw[S.no y ey];split<;>rfl
  .have:=DV t (fl y);have:=S.lf y;split<;>omega
 .obtain⟨⟨z,v3,v4,rfl⟩,S',kx,on,lt⟩:=w;refine q _ h' ?_ kx;have:(λx=>if x∈(kf.take (kf.map λp=>AV.int p.1).length).map (·.1) then kC t (fl x) else fl x)=λx=>kC t (fl x):=by
   funext x
   rw[lx,pH];split
   .rfl
   .rename_i c;rw[S.no x (Option.eq_none_iff_forall_ne_some.mpr λf e=>c (List.mem_map.mpr ⟨_,sv e,rfl⟩))];rfl
  rw[this]at S';exact S'
end
section
structure Sl where
 a:Nat
 tk:Int
 pc:Int
 row:aM
 bH:Yi
 ws:Yi
 ch:Int
 dr:Bool
 src:Hq
 eY:Hq
 put:Int
 st:Hq
 fi:Hq
 of:Hq
def Sl.wi(s:Sl):Ht:=s.ws.map λw=>w.getD 0
def Sl.ft(am:Int)(s:Sl):Option AV:=s.row.ft s.wi am
def Sl.dd(am:Int)(s:Sl):AV:=match s.fi with
 |none=>.aG
 |some _=>s.row.gi s.pc s.wi am (oI s.eY)
def Sl.lt(am:Int)(s:Sl):iB:=⟨s.tk,s.pc,s.row,s.bH,s.ch,s.dr,s.src,s.eY,s.dd am,s.put,s.st,s.fi,s.of⟩
structure Cf where
 b:Nat
 rs:List aM
 sz:Int
 wd:Int
 tb:Yq
 gu:Nat
 nv:Nat
 am:Int
 lo:List (Nat×bB)
structure Gh where
 sl:Nat
 kf:Dc Nat
 kd:Nat->Nat
structure Mo where
 ac:List Sl
 ah:Int
 nw:Int
 bF:Int
 jW:Int
 fl:Int->Ht
 wk:Dc (Int×Int)
 kp:Dc (Hq×Hq)
 bg:Dc (Int×Hq)
 sd:Sd
 cD:Hr
 gP:Dc Int
 dR:Dc Int
 brk:Bool
def Mo.wf(m:Mo)(c:Cf)(sl:Nat):List (cX×AV):=[("program",.ref (c.b+2)),("ahead",.int m.ah),("size",.int c.sz),("wide",.int c.wd),("slots",.ref sl),("names",.ref (c.b+4)),("benches",.ref (c.b+6)),("shelf",.ref (c.b+8)),("tickets",.int m.bF),("thrown",.int m.jW),("now",.int m.nw)]
def Mo.lf(m:Mo)(c:Cf):List (cX×AV):=[("state",m.sd.av),("guesser",.ref c.gu),("nerve",.ref c.nv),("slips",.ref (c.b+12)),("storers",.ref (c.b+13)),("gone",.ref (c.b+14)),("broken",.bl m.brk)]
def Mo.fR(m:Mo)(c:Cf)(g:Gh):List (Option bB):=[
 aA (.ins 21 [("window",.ref (c.b+1)),("ledger",.ref (c.b+11))]),aA (.ins 19<|m.wf c g.sl),aA (.lst aB<|c.rs.map aM.av),aD,
 aA (.ins 16 [("filled",.ref (c.b+5))]),aA (.aN<|dE AV.ref g.kf),aA (.ins 15<|fw c.tb<|c.b+7),aA (.aN<|dE eR m.wk),
 aA (.ins 17 [("kept",.ref (c.b+9)),("begun",.ref (c.b+10))]),aA (.aN<|dE lG m.kp),aA (.aN<|dE lU m.bg),
 aA (.ins 20<|m.lf c),aA (.lst aB m.cD),aA (.aN<|dE AV.int m.gP),aA (.aN<|dE AV.int m.dR)]
def Mo.dyn(m:Mo)(c:Cf)(g:Gh)(k:Nat):Option (Nat×bB):=
 if k=15 then aA (g.sl,.lst aB (m.ac.map λs=>.ref s.a))
 else if k<30 then(aX g.kf<|(k:Int)-16).map λf=>(f,.lst aB ((m.fl<|(k:Int)-16).map .int))
 else(m.ac.find? λs=>decide (s.tk=((k:Int)-30) / 2)).map λs=>if k%2=0 then(s.a,.ins 18 ((s.lt c.am).fs (s.a+2))) else(s.a+2,.lst aB (s.ws.map oI))
structure jK(b:Nat)(kd:Nat->Nat)(l:List (Option bB))(r:Nat->Option (Nat×bB))(h:AH):Prop where
 st:∀i o,l[i]?=aA (aA o)->kd (b+i)=i/\b+i<h.nx/\h.ob (b+i)=aA o
 dy:∀k n o,15<=k->r k=aA (n,o)->kd n=k/\b<=n/\n<h.nx/\h.ob n=aA o
variable {b:Nat}{kd:Nat->Nat}{l:List (Option bB)}{r r':Nat->Option (Nat×bB)}
theorem jK.keep(x:jK b kd l r h)(g:Kp h h'):jK b kd l r h':=
 ⟨λi o e=>⟨(x.st i o e).1,bA (x.st i o e).2.1 g.nx,g.get (x.st i o e).2.1 (x.st i o e).2.2⟩,λk n o a e=>have z:=x.dy k n o a e;⟨z.1,z.2.1,bA z.2.2.1 g.nx,g.get z.2.2.1 z.2.2.2⟩⟩
theorem jK.low(x:jK b kd l r h)(nx:h.nx<=h'.nx)(e:∀i,i<h.nx->b<=i->h'.ob i=h.ob i):jK b kd l r h':=
 ⟨λi o f=>have z:=x.st i o f;⟨z.1,bA z.2.1 nx,(e _ z.2.1 (mR ..)).trans z.2.2⟩,λk n o a f=>have z:=x.dy k n o a f;⟨z.1,z.2.1,bA z.2.2.1 nx,(e _ z.2.2.1 z.2.1).trans z.2.2.2⟩⟩
theorem BD(x:jK b kd l r h){k:Nat}(e:l[i]?=aA (aA o))(hn:kd n=k)(hk:k≠i):b+i≠n:=λz=>hk (by rw[<- hn,<- z];exact(x.st i o e).1)
theorem jK.xC(x:jK b kd l r h)(hi:i<15)(e:l[i]?=aA (aA o))(g:Kx [b+i] h h')(e':h'.ob (b+i)=aA o'):jK b kd (l.set i<|aA o') r h':=by
 refine⟨λj d a=>?_,λk n on f m=>?_⟩
 .by_cases c:j=i
  .subst c;rw[mQ (List.getElem?_eq_some_iff.mp e).1]at a;cases a;have z:=x.st j o e;exact⟨z.1,bA z.2.1 g.nx,e'⟩
  .rw[lO λw=>c w.symm]at a;have z:=x.st j d a;exact⟨z.1,bA z.2.1 g.nx,g.get z.2.1 (by simp;omega) z.2.2⟩
 .have z:=x.dy k n on f m;exact⟨z.1,z.2.1,bA z.2.2.1 g.nx,g.get z.2.2.1 (λw=>BD x e z.1 (by omega) (List.mem_singleton.mp w).symm) z.2.2.2⟩
theorem jK.sZ(x:jK b kd l r h)(hi:i<15)(e:l[i]?=aA (aA o)):jK b kd (l.set i<|aA o') r (h.put (b+i) o'):=x.xC hi e (Kx.refl.put<|.head _) bS
theorem jK.BL{k:Nat}(x:jK b kd l r h)(hk:15<=k)(hl:l.length<=15)(e:r k=aA (n,o))(g:Kx [n] h h')(e':h'.ob n=aA o')(er:r' k=aA (n,o'))(hs:∀j p,15<=j->j≠k->r' j=aA p->r j=aA p):jK b kd l r' h':=by
 have y:=x.dy k n o hk e;refine⟨λj d a=>?_,λj i d f a=>?_⟩
 .have z:=x.st j d a;have m:=(List.getElem?_eq_some_iff.mp a).1;exact⟨z.1,bA z.2.1 g.nx,g.get z.2.1 (λw=>BD x a y.1 (by omega) (List.mem_singleton.mp w)) z.2.2⟩
 .by_cases c:j=k
  .subst c;rw[er]at a;cases a;exact⟨y.1,y.2.1,bA y.2.2.1 g.nx,e'⟩
  .have z:=x.dy j i d f (hs j _ f c a);exact⟨z.1,z.2.1,bA z.2.2.1 g.nx,g.get z.2.2.1 (λw=>c (by rw[<- z.1,<- y.1,List.mem_singleton.mp w])) z.2.2.2⟩
theorem jK.newD{k:Nat}(x:jK b kd l r h)(hk:15<=k)(g:Kp h h')(hn:h.nx<=n)(hn':n<h'.nx)(hb:b<=h.nx)(e':h'.ob n=aA o)(er:r' k=aA (n,o))(hs:∀j p,15<=j->j≠k->r' j=aA p->r j=aA p):jK b (λi=>if i=n then k else kd i) l r' h':=by
 refine⟨λj d a=>?_,λj f d e a=>?_⟩
 .have z:=x.st j d a;exact⟨by rw[if_neg (by omega)];exact z.1,bA z.2.1 g.nx,g.get z.2.1 z.2.2⟩
 .by_cases c:j=k
  .subst c;rw[er]at a;cases a;exact⟨if_pos rfl,(dG ‹_› ‹_›),hn',e'⟩
  .have z:=x.dy j f d e (hs j _ e c a);exact⟨by rw[if_neg (by omega)];exact z.1,z.2.1,bA z.2.2.1 g.nx,g.get z.2.2.1 z.2.2.2⟩
end
abbrev _root_.Yr:=List Sl
variable {c:Cf}{g':Gh}{l:Yr}{m m':Mo}{s s' s0 z:Sl}
section
structure Wf(g:Gh)(m:Mo):Prop where
 tk:(m.ac.map (·.tk)).Pairwise (·<·)
 t0:∀s∈m.ac,0<=s.tk
 sn:m.ac.length<64
 sw:∀s∈m.ac,s.ws.length=s.row.nw/\s.bH.length=s.row.nw
 wn:(m.wk.map (·.1)).Nodup
 wl:m.wk.length<64
 kn:(m.kp.map (·.1)).Pairwise (·<·)
 kl:m.kp.length<64
 bn:(m.bg.map (·.1)).Nodup
 bl:m.bg.length<64
 fn:(g.kf.map (·.1)).Nodup
 fk:∀x f,aX g.kf x=aA f->0<=x/\x<8
 fo:∀x,aX g.kf x=aD->m.fl x=[]
 ff:∀x,(m.fl x).length<99999
structure lT(c:Cf)(L:Nat)(K:Nat->Yg)(h:AH):Prop where
 T:TH K L h
 g:K c.gu=aA 5
 n:K c.nv=aA 5
 lt:∀j t,K j=aA t->j<c.b
 lo:∀p∈c.lo,K p.1=aD/\p.1<c.b/\h.ob p.1=aA p.2
theorem lT.kl{K:Nat->Yg}(z:lT c L K h)(bx:c.b<=h.nx):Kl K h:=λj t e=>bA (z.lt j t e) bx
structure aJ(c:Cf)(g:Gh)(m:Mo)(h:AH):Prop where
 X:jK c.b g.kd (m.fR c g) (m.dyn c g) h
 G:∃K,lT c (2*m.cD.length+10) K h
 W:Wf g m
variable {g:Gh}
theorem aJ.at(r:aJ c g m h)(i:Nat)(e:(m.fR c g)[i]?=aA (aA o):=by rfl):h.ob (c.b+i)=aA o:=(r.X.st i o e).2.2
theorem aJ.lt(r:aJ c g m h)(i:Nat)(e:(m.fR c g)[i]?=aA (aA o):=by rfl):c.b+i<h.nx:=(r.X.st i o e).2.1
theorem aJ.bx(r:aJ c g m h):c.b<=h.nx:=mS (lu (mR ..)<|r.lt 0)
theorem aJ.kH(r:aJ c g m h):h.ob g.sl=aA (.lst aB<|m.ac.map λs=>.ref s.a)/\g.sl<h.nx/\g.kd g.sl=15:=have z:=r.X.dy 15 g.sl _ (aV _) rfl;⟨z.2.2.2,z.2.2.1,z.1⟩
theorem vG(hs:s∈l)(hp:(l.map (·.tk)).Pairwise (·<·)):l.find? (λz=>decide (z.tk=s.tk))=aA s:=by
 induction l with
 |nil=>cases hs|cons z l a=>
  rw[iH,Qz]at hp;rw[nP];rcases List.mem_cons.mp hs with rfl|hs
  .simp
  .have:decide (z.tk=s.tk)=aH:=decide_eq_false λw=>by have:=hp.1 s.tk (List.mem_map.mpr ⟨s,hs,rfl⟩);lia
   rw[this];exact a hs hp.2
def kA(t:Int):Nat:=30+2*t.toNat
theorem pR{t:Int}(h:0<=t):(((kA t:Nat):Int)-30) / 2=t/\(((kA t+1:Nat):Int)-30) / 2=t/\kA t%2=0/\(kA t+1)%2=1/\30<=kA t:=by obtain⟨n,rfl⟩:=cq h;show((30+2*n:Nat)-30:Int) / 2=n/\((30+2*n+1:Nat)-30:Int) / 2=n/\(30+2*n)%2=0/\(30+2*n+1)%2=1/\30<=30+2*n;lia
theorem xy{t:Int}{k:Nat}(h:0<=t)(e:((k:Int)-30) / 2=t):k=kA t\/k=kA t+1:=by obtain⟨n,rfl⟩:=cq h;show k=30+2*n\/k=30+2*n+1;lia
theorem zG(w:Wf g m)(hs:s∈m.ac):m.dyn c g (kA s.tk)=aA (s.a,.ins 18 ((s.lt c.am).fs (s.a+2))):=by have z:=pR (w.t0 s hs);unfold Mo.dyn;rw[if_neg (by lia),if_neg (by lia),z.1,vG hs w.tk,yA,if_pos z.2.2.1]
theorem zH(w:Wf g m)(hs:s∈m.ac):m.dyn c g (kA s.tk+1)=aA (s.a+2,.lst aB (s.ws.map oI)):=by have z:=pR (w.t0 s hs);unfold Mo.dyn;rw[if_neg (by lia),if_neg (by lia),z.2.1,vG hs w.tk,yA,if_neg (by lia)]
theorem aJ.cK(r:aJ c g m h)(hs:s∈m.ac):h.ob s.a=aA (.ins 18<|(s.lt c.am).fs (s.a+2)):=(r.X.dy _ _ _ (by have:=pR (r.W.t0 s hs);lia)<|zG r.W hs).2.2.2
theorem aJ.jw(r:aJ c g m h)(hs:s∈m.ac):h.ob (s.a+2)=aA (.lst aB<|s.ws.map oI):=(r.X.dy _ _ _ (by have:=pR (r.W.t0 s hs);lia)<|zH r.W hs).2.2.2
theorem aJ.GR(r:aJ c g m h)(hs:s∈m.ac):s.a+2<h.nx:=(r.X.dy _ _ _ (by have:=pR (r.W.t0 s hs);omega)<|zH r.W hs).2.2.1
theorem aJ.xu(r:aJ c g m h):pJ h (c.b+6) (c.b+7) c.tb m.wk:=⟨r.at 6,r.at 7,r.lt 6,r.lt 7,by have:=r.W.wl;lia,r.W.wn⟩
theorem aJ.shr(r:aJ c g m h):lB h (c.b+8) (c.b+9) (c.b+10) m.kp m.bg:=⟨r.at 8,r.at 9,r.at 10,r.lt 8,r.lt 9,r.lt 10,(bQ<|cF _),r.W.kl,r.W.bl,r.W.kn,r.W.bn⟩
theorem BG(w:Wf g m):g.kf.length<=8:=by
 have:=KN w.fn λx a=>by obtain⟨p,b,rfl⟩:=List.mem_map.mp a;have:=w.fk _ _ (nE w.fn b);obtain⟨n,e⟩:=cq this.1;rw[e]at this ⊢;exact(by decide +kernel:∀n:Nat,n<8->(n:Int)∈([0,1,2,3,4,5,6,7]:Ht)) n<|Int.ofNat_lt.mp this.2
 rw[aU]at this;exact this
theorem wW{f:Nat}(w:Wf g m)(e:aX g.kf x=aA f):m.dyn c g (16+x.toNat)=aA (f,.lst aB ((m.fl x).map .int)):=by have:=w.fk x f e;unfold Mo.dyn;rw[if_neg (by lia),if_pos (by lia),show((16+x.toNat:Nat):Int)-16=x by lia,e];rfl
theorem aJ.Kw(r:aJ c g m h):lA h (c.b+4) (c.b+5) g.kf m.fl:=⟨r.at 4,r.at 5,r.lt 4,r.lt 5,r.W.fn,by have:=BG r.W;lia,λx f e=>have z:=r.X.dy _ _ _ (by omega) (wW r.W e);⟨z.2.2.1,z.2.2.2⟩,r.W.fo,λx y f a b=>by have d:=(r.X.dy _ _ _ (by omega)<|wW r.W b).1;rw[<- Qi (r.W.fk x f a).1,Nat.add_left_cancel (((r.X.dy _ _ _ (by lia)<|wW r.W a).1).symm.trans d),Qi (r.W.fk y f b).1],λx=>by have:=r.W.ff x;lia⟩
theorem lT.low{L':Nat}{K:Nat->Yg}(z:lT c L K h)(hl:L<=L')(e:∀n,n<c.b->h'.ob n=h.ob n):lT c L' K h':=⟨λn t f=>((z.T.le hl) n t f).imp λ_ y=>⟨(e n<|z.lt n t f).trans y.1,y.2⟩,z.g,z.n,z.lt,λp a=>have y:=z.lo p a;⟨y.1,y.2.1,(e _ y.2.1).trans y.2.2⟩⟩
theorem Kx.lowG(x:Kx S h h')(hb:c.b<=h.nx)(hs:∀n∈S,c.b<=n):∀n,n<c.b->h'.ob n=h.ob n:=λn hn=>x.ob n (bA hn hb) λz=>oP _ (bA hn<|hs n z)
theorem aJ.keep(r:aJ c g m h)(k:Kp h h'):aJ c g m h':=⟨r.X.keep k,r.G.imp λ_ z=>z.low (aV _) λn hn=>k.ob n (bA hn r.bx),r.W⟩
theorem aJ.xC(r:aJ c g m h)(i:Nat){o o':bB}(kx:Kx [c.b+i] h h')(e':h'.ob (c.b+i)=aA o')(w:Wf g m')(hs:m'.fR c g=(m.fR c g).set i (aA o'))(hd:m'.dyn c g=m.dyn c g)(hl:m.cD.length<=m'.cD.length)(hi:i<15:=by decide)(e:(m.fR c g)[i]?=aA (aA o):=by rfl):aJ c g m' h':=
 ⟨by rw[hs,hd];exact r.X.xC hi e kx e',r.G.imp λ_ z=>z.low (by lia) (kx.lowG r.bx λn hn=>by rw[List.mem_singleton.mp hn];exact mR ..),w⟩
theorem aJ.sZ(r:aJ c g m h)(i:Nat)(w:Wf g m')(hs:m'.fR c g=(m.fR c g).set i (aA o'))(hd:m'.dyn c g=m.dyn c g)(hl:m.cD.length<=m'.cD.length)(hi:i<15:=by decide)(e:(m.fR c g)[i]?=aA (aA o):=by rfl):aJ c g m' (h.put (c.b+i) o'):=r.xC i (Kx.refl.put<|.head _) bS w hs hd hl hi e
end
section
variable {k:Nat}{g:Gh}
def Mo.slot(m:Mo)(t:Int):Option Sl:=m.ac.find? λs=>decide (s.tk=t)
def aO:Option Sl->AV
 |some s=>.ref s.a
 |none=>.aG
theorem Hi{α:Type}{l:List α}{x:α}(e:l[i]?=aA x):l.drop i=x::l.drop (i+1):=by rw[Qj ((List.getElem?_eq_some_iff.mp e).1),(List.getElem?_eq_some_iff.mp e).2]
theorem GZ{t:Hq}(r:aJ c g m h)(q:R (aO<|t.bind m.slot) h):WC (run pg (k+1) 110 [.ref (c.b+1),oI t]) h R:=by
 have sn:=r.W.sn;refine aT rfl rfl<|WB.of<|mO<|nO<|aC.of (r.at 1)<|oJ r.kH.1 ?_;refine uF (λj a b=>b=h/\(∃v2,a=[aA (.ref<|c.b+1),aA (oI t),v2])/\t.bind m.slot=t.bind λt=>(m.ac.drop j).find? λs=>decide (s.tk=t)) (by rw[aU,fI];lia) ⟨rfl,⟨_,rfl⟩,rfl⟩ (λ_ _ _ y=>y.1▸r.kH.1) (λj x a b d y=>?_)<|λa b y=>?_
 .obtain⟨rfl,⟨v2,rfl⟩,e⟩:=y;obtain⟨s,hr,rfl⟩:=lH d;rw[Hi hr]at e;cases t with
  |none=>exact kJ _<|gX _<|aC.of (r.cK<|bX hr)<|WC.of<|Ci rfl ⟨rfl,⟨_,rfl⟩,rfl⟩|some t=>
   rw[jP,jP,nP]at e;refine kJ _<|gX _<|aC.of (r.cK<|bX hr)<|aE.dc (λz=>?_) λz=>?_
   .rw[show(decide<|s.tk=t)=aB from decide_eq_true z]at e;rw[jP,e]at q;exact q
   .rw[show(decide<|s.tk=t)=aH from decide_eq_false z]at e;exact⟨rfl,⟨_,rfl⟩,e⟩
 .obtain⟨rfl,⟨v2,rfl⟩,e⟩:=y;rw[aU,Dn]at e;rw[e]at q;cases t<;>exact q
theorem HA{t:Int}(r:aJ c g m h)(q:R (aO<|m.slot t) h):WC (run pg (k+1) 110 [.ref (c.b+1),.int t]) h R:=GZ (t:=aA t) r q
def Mo.cut(m:Mo)(t:Int):Mo:={ m with ac:=m.ac.filter λs=>decide (s.tk<t),jW:=m.jW+((m.ac.length:Int)-((m.ac.filter λs=>decide (s.tk<t)).length:Int)),fl:=λx=>kC t (m.fl x),wk:=m.wk.filter λp=>!decide (t<=p.1),kp:=m.kp.filter λp=>!decide (t<=p.1),bg:=m.bg.filter λp=>!decide (t<=p.1) }
theorem z6{l':Yr}(hl:l'.Sublist l)(hp:(l.map (·.tk)).Pairwise (·<·))(e:l'.find? (λs=>decide (s.tk=u))=aA s):l.find? (λs=>decide (s.tk=u))=aA s:=by have a:=Qm e;simp only[decide_eq_true_eq]at a;subst a;exact vG (hl.subset<|cv e) hp
theorem ED{x y:bB}:(h.put n x).put n y=h.put n y:=by
 unfold AH.put;congr 1
 funext i
 dsimp only;split<;>rfl
theorem Wf.Br{sl':Yr}{th a1:Int}(w:Wf g m)(hs:sl'.Sublist m.ac)(eg:g'.kf=g.kf):Wf g' { m with ac:=sl',jW:=th,ah:=a1 }:=
 ⟨xW (hs.map _) w.tk,λs hm=>w.t0 s (hs.subset hm),lu hs.length_le w.sn,λs hm=>w.sw s (hs.subset hm),w.wn,w.wl,w.kn,w.kl,w.bn,w.bl,eg▸w.fn,eg▸w.fk,eg▸w.fo,w.ff⟩
theorem aJ.Br{sl':Yr}{n:Nat}{th:Int}(r:aJ c g m h)(k1:Kp h h')(hn:h.nx<=n)(hn':n<h'.nx)(on:h'.ob n=aA (.lst aB<|sl'.map λs=>.ref s.a))(hs:sl'.Sublist m.ac) :
  aJ c { g with sl:=n,kd:=λi=>if i=n then 15 else g.kd i } { m with ac:=sl',jW:=th } (h'.put (c.b+1)<|.ins 19<|{ m with ac:=sl',jW:=th }.wf c n):=by
 have a:=r.keep k1;have w:=r.W.Br (th:=th) (a1:=m.ah) (g':={ g with sl:=n,kd:=λi=>if i=n then 15 else g.kd i }) hs rfl;have b:jK c.b (λi=>if i=n then 15 else g.kd i) (m.fR c g) ({ m with ac:=sl',jW:=th }.dyn c { g with sl:=n,kd:=λi=>if i=n then 15 else g.kd i }) h':=by
  refine r.X.newD (aV _) k1 hn hn' r.bx on rfl λj p k d e=>?_;unfold Mo.dyn at e ⊢;rw[if_neg d]at e ⊢;split
  .rename_i z;rw[if_pos z]at e;exact e
  .rename_i z;rw[if_neg z]at e;obtain⟨s,f,rfl⟩:=Option.map_eq_some_iff.mp e;rw[z6 hs r.W.tk f];rfl
 exact⟨b.sZ (i:=1) (by decide) rfl,a.G.imp λ_ z=>z.low (aV _) ((Kx.refl.put (.head _):Kx [c.b+1] h' _).lowG a.bx λn hn=>by rw[List.mem_singleton.mp hn];exact mR ..),w⟩
end
section
variable {k:Nat}{g:Gh}
theorem aJ.nf(r:aJ c g m h){k:Nat}(hk:g.kd n=k)(hn:k<16\/24<=k):n∉g.kf.map (·.2):=λz=>by obtain⟨p,a,rfl⟩:=List.mem_map.mp z;have e:=nE r.W.fn a;have:=r.W.fk _ _ e;have:=(r.X.dy _ _ _ (by lia)<|wW r.W e).1;lia
theorem aJ.S6{fl':Int->Ht}(r:aJ c g m h)(N:lA h' (c.b+4) (c.b+5) g.kf fl')(kx:Kx (g.kf.map (·.2)) h h')(hf:∀x,(fl' x).length<=(m.fl x).length):aJ c g { m with fl:=fl' } h':=by
 refine⟨⟨λi o e=>?_,λk n o d e=>?_⟩,r.G.imp λ_ z=>z.low (aV _) (kx.lowG r.bx λn hn=>?_),⟨r.W.tk,r.W.t0,r.W.sn,r.W.sw,r.W.wn,r.W.wl,r.W.kn,r.W.kl,r.W.bn,r.W.bl,r.W.fn,r.W.fk,N.no,λx=>lu (hf x) (r.W.ff x)⟩⟩
 .have z:=r.X.st i o e;have b:=(List.getElem?_eq_some_iff.mp e).1;have b:i<15:=b;exact⟨z.1,bA z.2.1 kx.nx,kx.get z.2.1 (r.nf z.1 (by lia)) z.2.2⟩
 .by_cases j:16<=k/\k<30
  .unfold Mo.dyn at e;rw[if_neg (by omega),if_pos j.2]at e;obtain⟨f,a,l⟩:=Option.map_eq_some_iff.mp e;cases l;have z:=r.X.dy _ _ _ (by omega) (wW r.W a);exact⟨by omega,z.2.1,(N.ls _ _ a).1,(N.ls _ _ a).2⟩
  .have q:m.dyn c g k=aA (n,o):=by
    unfold Mo.dyn at e ⊢;split
    .rename_i z;rw[if_pos z]at e;exact e
    .rename_i z;rw[if_neg z,if_neg (by omega)]at e;rw[if_neg (by omega)];exact e
   have z:=r.X.dy k n o d q;exact⟨z.1,z.2.1,bA z.2.2.1 kx.nx,kx.get z.2.2.1 (r.nf z.1 (by omega)) z.2.2.2⟩
 .obtain⟨p,s,rfl⟩:=List.mem_map.mp hn;exact(r.X.dy _ _ _ (by lia)<|wW r.W<|nE r.W.fn s).2.1
theorem aJ.sh2(r:aJ c g m h)(kx:Kx [c.b+9,c.b+10] h h')(e1:h'.ob (c.b+9)=aA (.aN<|dE lG kp'))(e2:h'.ob (c.b+10)=aA (.aN<|dE lU bg'))(kn:(kp'.map (·.1)).Pairwise (·<·))(kl:kp'.length<64)(bn:(bg'.map (·.1)).Nodup)(bl:bg'.length<64):aJ c g { m with kp:=kp',bg:=bg' } h':=by
 refine⟨⟨λi o e=>?_,λk n o d e=>?_⟩,r.G.imp λ_ z=>z.low (aV _) (kx.lowG r.bx λn hn=>?_),⟨r.W.tk,r.W.t0,r.W.sn,r.W.sw,r.W.wn,r.W.wl,kn,kl,bn,bl,r.W.fn,r.W.fk,r.W.fo,r.W.ff⟩⟩
 .by_cases b:i=9
  .subst b;cases e;have z:=r.X.st 9 _ rfl;exact⟨z.1,bA z.2.1 kx.nx,e1⟩
  .by_cases a:i=10
   .subst a;cases e;have z:=r.X.st 10 _ rfl;exact⟨z.1,bA z.2.1 kx.nx,e2⟩
   .have f:(m.fR c g)[i]?=aA (aA o):=by rw[show Mo.fR { m with kp:=kp',bg:=bg' } c g=((m.fR c g).set 9 (aA<|.aN<|dE lG kp')).set 10 (aA<|.aN<|dE lU bg') from rfl,lO λw=>a w.symm,lO λw=>b w.symm]at e;exact e
    have z:=r.X.st i o f;exact⟨z.1,bA z.2.1 kx.nx,kx.get z.2.1 (by simp;lia) z.2.2⟩
 .have z:=r.X.dy k n o d e;have j:=(r.X.st 9 _ rfl).1;refine⟨z.1,z.2.1,bA z.2.2.1 kx.nx,kx.get z.2.2.1 (λw=>?_) z.2.2.2⟩;rcases List.mem_cons.mp w with w|w
  .rw[w,j]at z;lia
  .rw[List.mem_singleton.mp w,((r.X.st 10 _ rfl).1)]at z;lia
 .rcases List.mem_cons.mp hn with w|w
  .rw[w];exact mR ..
  .rw[List.mem_singleton.mp w];exact mR ..
theorem zI{β:Type}{l:List β}{f:β->Bool}(h:l.length<n):(l.filter f).length<n:=lu (pF ..) h
theorem Bw{t:Int}(r:aJ c g m h)(q:∀v g' h',aJ c g' (m.cut t) h'->h.nx<=h'.nx->(∀n,n<h.nx->28<=g.kd n->h'.ob n=h.ob n/\g'.kd n=g.kd n)->R v h'):WC (run pg (k+2) 114 [.ref (c.b+1),.int t]) h R:=by
 have sn:=r.W.sn;have big:=kG;refine aT rfl rfl<|WC.of<|aRp<|nO<|aC.of (r.at 1)<|oJ r.kH.1 ?_;refine WZ (n:=g.sl) (bb:=aB) (xs:=m.ac.map λs=>.ref s.a) (λj ys Z h'=>h'=h/\(∃v0,Z=[v0,aA (.int t)])/\ys=(((m.ac.take j).filter λs:Sl=>decide (s.tk<t)).map λs=>.ref s.a)) (by rw[aU,fI];omega) ⟨rfl,⟨_,rfl⟩,rfl⟩ (λ_ _ _ _ y=>y.1▸r.kH.1) (λj x ys Z h' hx y=>?_)<|λys Z h' y=>?_
 .obtain⟨rfl,⟨v0,rfl⟩,rfl⟩:=y;obtain⟨s,hr,rfl⟩:=lH hx;have et:m.ac.take (j+1)=m.ac.take j++[s]:=by rw[pG,hr];rfl
  refine oH _<|aC.of (r.cK<|bX hr) ?_;show if decide (s.tk<t)=aB then _ else _
  split
  .rename_i z;refine⟨?_,rfl,⟨_,rfl⟩,?_⟩
   .have h1:((m.ac.take j).filter λs:Sl=>decide (s.tk<t)).length<=(m.ac.take j).length:=pF ..;have h2:(m.ac.take j).length<=m.ac.length:=by rw[lP];omega
    rw[aU];omega
   .rw[et,xY,gB,jB,if_pos z];rfl
  .rename_i z;refine⟨rfl,⟨_,rfl⟩,?_⟩;rw[et,xY,gB,jB,if_neg z];simp
 .obtain⟨rfl,⟨v0,rfl⟩,rfl⟩:=y;rw[aU,pH];have k1:∀{o:bB},Kp h' (h'.new o):=Kp.refl.new;have r1:=r.keep (k1 (o:=.lst aB (((m.ac.filter λs:Sl=>decide (s.tk<t)).map λs=>.ref s.a))));have key:∀{X Y:bB},Y = .ins 19 ({ m with ac:=m.ac.filter λs:Sl=>decide (s.tk<t),jW:=m.jW+(((m.ac.map λs:Sl=>AV.ref s.a).length:Int)-(((m.ac.filter λs:Sl=>decide (s.tk<t)).map λs:Sl=>AV.ref s.a).length:Int)) }.wf c h'.nx)->aJ c _ _ (((h'.new<|.lst aB<|((m.ac.filter λs:Sl=>decide (s.tk<t)).map λs=>.ref s.a)).put (c.b+1) X).put (c.b+1) Y):=λ{X Y} e=>by rw[ED,e];exact r.Br k1 (aV _) (cF _) bP LF
  refine aC.of (r1.at 1)<|aC.of (r1.at 1)<|WC.of<|kK (cO r1.kH.1)<|WC.of<|kK (cO bP)<|aC.of (r1.at 1)<|aC.of bS ?_;have r2:=key (X:=.ins 19 (gJ "thrown" (.int<|m.jW+(((m.ac.map λs:Sl=>AV.ref s.a).length:Int)-(((m.ac.filter λs:Sl=>decide (s.tk<t)).map λs:Sl=>AV.ref s.a).length:Int)))<|m.wf c g.sl)) rfl;refine aC.of (r2.at 1)<|aC.of (r2.at 4)<|U3 (k:=k) r2.Kw λv3 h3 N3 kx3=>?_;have r3:=r2.S6 N3 kx3 λx=>DV _ _;refine aC.of (r3.at 1)<|aC.of (r3.at 6)<|VT (k:=k) r3.xu λv4 h4 kx4 e4=>?_;have r4:=r3.xC (m':={ m with ac:=m.ac.filter λs:Sl=>decide (s.tk<t),jW:=m.jW+(((m.ac.map λs:Sl=>AV.ref s.a).length:Int)-(((m.ac.filter λs:Sl=>decide (s.tk<t)).map λs:Sl=>AV.ref s.a).length:Int)),fl:=λx=>kC t (m.fl x),wk:=m.wk.filter λp=>!decide (t<=p.1) }) 7 kx4 e4 ⟨r3.W.tk,r3.W.t0,r3.W.sn,r3.W.sw,oA r3.W.wn,zI r3.W.wl,r3.W.kn,r3.W.kl,r3.W.bn,r3.W.bl,r3.W.fn,r3.W.fk,r3.W.fo,r3.W.ff⟩ rfl rfl (aV _);refine aC.of (r4.at 1)<|aC.of (r4.at 8)<|aLy (k:=k) r4.shr λv5 h5 kx5 e5 e6=>?_;have r5:=r4.sh2 kx5 e5 e6 (xW (List.filter_sublist.map _) r4.W.kn) (zI r4.W.kl) (oA r4.W.bn) (zI r4.W.bl);rw[aU,aU]at r5;refine q _ _ _ r5 (dG (hA _)<|dG kx3.nx<|dG kx4.nx kx5.nx) λn hn hk=>?_;have nb:∀i o,i<15->(m.fR c g)[i]?=aA (aA o)->n≠c.b+i:=λi o hi e w=>by rw[w,(r.X.st i o e).1]at hk;omega
  have n1:n<h'.nx+1:=iJ hn;have n3:=bA n1 kx3.nx;have n4:=bA n3 kx4.nx;refine⟨?_,if_neg (bQ hn)⟩;rw[kx5.ob n n4 (by simp only[rY,oO,or_false];exact λw=>w.elim (nb 9 _ (by decide) rfl) (nb 10 _ (by decide) rfl)),kx4.ob n n3 (by simp only[rY,oO,or_false];exact nb 7 _ (by decide) rfl),kx3.ob n n1 (r.nf rfl (by omega)),bN (nb 1 _ (by decide) rfl),bN (nb 1 _ (by decide) rfl),dY (bQ hn)]
structure iM(c:Cf)(g:Gh)(h:AH)(g':Gh)(h':AH):Prop where
 nx:h.nx<=h'.nx
 ob:∀n,n<h.nx->28<=g.kd n->c.b<=n->h'.ob n=h.ob n/\g'.kd n=g.kd n
theorem iM.refl:iM c g h g h:=⟨aV _,λ_ _ _ _=>⟨rfl,rfl⟩⟩
theorem iM.trans{g2:Gh}{h2:AH}(x:iM c g h g' h')(y:iM c g' h' g2 h2):iM c g h g2 h2:=⟨dG x.nx y.nx,λn hn d hb=>by have a:=x.ob n hn d hb;have b:=y.ob n (bA hn x.nx) (a.2▸d) hb;exact⟨b.1.trans a.1,b.2.trans a.2⟩⟩
theorem iM.put{i:Nat}{o o':bB}(r:aJ c g m h)(hi:i<15)(e:(m.fR c g)[i]?=aA (aA o)):iM c g h g (h.put (c.b+i) o'):=⟨aV _,λn _ a _=>⟨bN λw=>by rw[w,(r.X.st i o e).1]at a;lia,rfl⟩⟩
end
section
variable {k:Nat}{g g2:Gh}
structure bD(c:Cf)(g:Gh)(h:AH)(g':Gh)(h':AH):Prop where
 nx:h.nx<=h'.nx
 ob:∀n,n<h.nx->g.kd n=28->c.b<=n->h'.ob n=h.ob n/\g'.kd n=28
theorem bD.refl:bD c g h g h:=⟨aV _,λ_ _ e _=>⟨rfl,e⟩⟩
theorem bD.trans(x:bD c g h g' h')(y:bD c g' h' g2 h2):bD c g h g2 h2:=⟨dG x.nx y.nx,λn hn d hb=>by have a:=x.ob n hn d hb;have b:=y.ob n (bA hn x.nx) a.2 hb;exact⟨b.1.trans a.1,b.2⟩⟩
theorem bD.keep(k:Kp h h'):bD c g h g h':=⟨k.nx,λn hn a _=>⟨k.ob n hn,a⟩⟩
theorem bD.put{n:Nat}{o:bB}(hk:g.kd n≠28):bD c g h g (h.put n o):=⟨aV _,λi _ e _=>⟨bN λz=>hk (z▸e),e⟩⟩
theorem bD.st{i:Nat}{o:bB}(r:aJ c g m h)(hi:i<15)(e:∃o,(m.fR c g)[i]?=aA (aA o)):bD c g h g (h.put (c.b+i) o):=bD.put (by obtain⟨o,e⟩:=e;rw[(r.X.st i o e).1];lia)
theorem bD.of(n:h.nx<=h'.nx)(f:∀n,n<h.nx->28<=g.kd n->h'.ob n=h.ob n/\g'.kd n=g.kd n):bD c g h g' h':=⟨n,λi a e _=>have z:=f i a (by lia);⟨z.1,z.2.trans e⟩⟩
theorem aJ.ia(r:aJ c g m h)(hs:s∈m.ac):g.kd s.a≠28/\g.kd (s.a+2)≠28:=by have z:=pR (r.W.t0 s hs);have a:=(r.X.dy _ _ _ (by lia)<|zG r.W hs).1;have b:=(r.X.dy _ _ _ (by lia)<|zH r.W hs).1;lia
theorem bD.A8(f:iM c g h g' h'):bD c g h g' h':=⟨f.nx,λn hn a hb=>have z:=f.ob n hn (by lia) hb;⟨z.1,z.2.trans a⟩⟩
theorem bD.kx{i:Nat}(r:aJ c g m h)(hi:i<15)(e:∃o,(m.fR c g)[i]?=aA (aA o))(kx:Kx [c.b+i] h h'):bD c g h g h':=⟨kx.nx,λn hn a _=>⟨kx.ob n hn λz=>by obtain⟨o,e⟩:=e;rw[List.mem_singleton.mp z,(r.X.st i o e).1]at a;lia,a⟩⟩
end
section
variable {k:Nat}{g:Gh}
theorem Yv(hs:l[i]?=aA s)(ht:s'.tk=s.tk)(hp:(l.map (·.tk)).Pairwise (·<·)):(l.set i s').find? (λz=>decide (z.tk=u))=if u=s.tk then aA s' else l.find? λz=>decide (z.tk=u):=by
 induction l generalizing i with
 |nil=>cases hs|cons z l b=>
  rw[iH,Qz]at hp;cases i with
  |zero=>
   cases hs;rw[Rg,nP,nP,ht];by_cases e:u=s.tk
   .rw[if_pos e,decide_eq_true e.symm]
   .rw[if_neg e,decide_eq_false λw=>e w.symm]
  |succ i=>
   have a:=hs;rw[Rf,nP,nP,b a hp.2];by_cases e:z.tk=u
   .have:=hp.1 s.tk (List.mem_map.mpr ⟨s,bX a,rfl⟩);rw[decide_eq_true e];show aA z=if u=s.tk then aA s' else aA z
    rw[if_neg (by lia)]
   .rw[decide_eq_false e]
theorem rC{α β:Type}{f:α->β}{l:List α}{s s':α}(hs:l[i]?=aA s)(e:f s'=f s):(l.set i s').map f=l.map f:=by
 rw[Dy,e];refine LB λj=>?_;rw[LO];split
 .rename_i z;subst z;rw[fO,hs,aU,if_pos (List.getElem?_eq_some_iff.mp hs).1];rfl
 .rfl
theorem CL(hz:z∈l.set i s'):z∈l\/z=s':=by
 rcases Ea hz with h|h
 .exact .inl h
 .exact .inr h
theorem Wf.cZ(w:Wf g m)(hs:m.ac[i]?=aA s)(ht:s'.tk=s.tk)(hw:s'.ws.length=s.ws.length)(hn:s'.bH=s.bH)(hr:s'.row=s.row):Wf g { m with ac:=m.ac.set i s' }:=
 have hm:=bX hs
 ⟨by rw[rC hs ht];exact w.tk,λz a=>(CL a).elim (w.t0 z) λe=>by rw[e,ht];exact w.t0 s hm,by rw[tN];exact w.sn,λz a=>(CL a).elim (w.sw z) λe=>by rw[e,hw,hn,hr];exact w.sw s hm,w.wn,w.wl,w.kn,w.kl,w.bn,w.bl,w.fn,w.fk,w.fo,w.ff⟩
theorem Xl(hs:m.ac[i]?=aA s)(w:Wf g m)(ha:s'.a=s.a)(ht:s'.tk=s.tk){p:Nat×bB}(h1:15<=j)(e:({ m with ac:=m.ac.set i s' }:Mo).dyn c g j=aA p):m.dyn c g j=aA p\/((j:Int)-30) / 2=s.tk/\30<=j/\p=if j%2=0 then(s.a,.ins 18 ((s'.lt c.am).fs (s.a+2))) else(s.a+2,.lst aB (s'.ws.map oI)):=by
 unfold Mo.dyn at e ⊢;split
 .rename_i z;rw[if_pos z]at e;rw[<- e,rC hs (by rw[ha])];exact .inl rfl
 .rename_i z;rw[if_neg z]at e;split
  .rename_i a;rw[if_pos a]at e;exact .inl e
  .rename_i a;rw[if_neg a,Yv hs ht w.tk]at e;by_cases b:(j-30) / 2=s.tk
   .rw[if_pos b,yA,ha]at e;exact .inr ⟨b,by omega,(dI e).symm⟩
   .rw[if_neg b]at e;exact .inl e
theorem aJ.Kd(r:aJ c g m h)(hs:s∈m.ac):c.b<=s.a:=(r.X.dy _ _ _ (by have:=pR (r.W.t0 s hs);lia)<|zG r.W hs).2.1
theorem aJ.CD(r:aJ c g m h)(hb:c.b<=n):∃K,lT c (2*m.cD.length+10) K (h.put n o):=r.G.imp λ_ z=>z.low (aV _) ((Kx.refl.put (.head _):Kx [n] h _).lowG r.bx λn hn=>by rw[List.mem_singleton.mp hn];exact hb)
theorem aJ.aKz(r:aJ c g m h)(hs:m.ac[i]?=aA s)(ha:s'.a=s.a)(ht:s'.tk=s.tk)(hw:s'.ws=s.ws)(hn:s'.bH=s.bH)(hr:s'.row=s.row):aJ c g { m with ac:=m.ac.set i s' } (h.put s.a<|.ins 18<|(s'.lt c.am).fs (s.a+2)):=by
 have hm:=bX hs;have w:=r.W.cZ hs ht (by rw[hw]) hn hr;have z:=pR (r.W.t0 s hm);have a:s'∈m.ac.set i s':=bX (mQ (List.getElem?_eq_some_iff.mp hs).1);have b:=zG (c:=c) w a;rw[ht,ha]at b;refine⟨r.X.BL (by lia) (aV _) (zG r.W hm) (Kx.refl.put<|.head _) bS b λj p d f e=>?_,r.CD (r.Kd hm),w⟩;rcases Xl hs r.W ha ht d e with e|⟨l,n,k⟩
 .exact e
 .have:j=kA s.tk+1:=(xy (r.W.t0 s hm) ‹_›).resolve_left f;subst this;rw[zH r.W hm,k,if_neg (by lia),hw]
theorem aJ.aRh{ws':Yi}(r:aJ c g m h)(hs:m.ac[i]?=aA s)(hf:s.fi=aD)(hl:ws'.length=s.ws.length):aJ c g { m with ac:=m.ac.set i { s with ws:=ws' } } (h.put (s.a+2)<|.lst aB<|ws'.map oI):=by
 have hm:=bX hs;have w:=r.W.cZ (s':={ s with ws:=ws' }) hs rfl hl rfl rfl;have z:=pR (r.W.t0 s hm);have a:{ s with ws:=ws' }∈m.ac.set i { s with ws:=ws' }:=bX (mQ (List.getElem?_eq_some_iff.mp hs).1);have b:=zH (c:=c) w a;refine⟨r.X.BL (by lia) (aV _) (zH r.W hm) (Kx.refl.put<|.head _) bS b λj p d f e=>?_,r.CD (by have:=r.Kd hm;lia),w⟩;rcases Xl (s':={ s with ws:=ws' }) hs r.W rfl rfl d e with e|⟨l,n,k⟩
 .exact e
 .have:j=kA s.tk:=(xy (r.W.t0 s hm) ‹_›).resolve_right f;subst this;rw[zG r.W hm,k,if_pos (by omega)];unfold Sl.lt Sl.dd;rw[hf]
end
section
variable {k:Nat}{g:Gh}
def aM.kn:aM->cX
 |.way w _ _ _=>w.nm | .set _ _=>"set" |.move _ _=>"move" |.load _ _ _=>"load" |.store _ _ _=>"store" |.fU _ _=>"jump" |.go _=>"go" |.fault _=>"fault"
def aM.tl:aM->Hr
 |.way _ x y z=>[.int x,.int y,.int z] | .set x v=>[.int x,.int v] | .move x y=>[.int x,.int y] | .load x y s=>[.int x,.int y,.int s] | .store x y s=>[.int x,.int y,.int s] | .fU x t=>[.int x,.int t] | .go t=>[.int t] | .fault v=>[.int v]
theorem Va:r.av = .tup (.str (aM.kn r)::aM.tl r):=by cases r<;>rfl
theorem gI{x:AV}:cN (x::xs) 0=aA x:=by unfold cN jS;rw[if_pos (by decide),if_pos (by rw[jC];lia)];rfl
def iB.fk(s:iB)(w:Nat):List (cX×AV):=[("ticket",.int s.tk),("at",.int s.pc),("row",.tup (.str (aM.kn s.row)::aM.tl s.row)),("names",.tup (s.bH.map oI)),("words",.ref w),("chosen",.int s.ch),("dares",.bl s.dr),("source",oI s.src),("held",oI s.eY),("deed",s.dd),("put",.int s.put),("started",oI s.st),("finished",oI s.fi),("off",oI s.of)]
theorem Zd{s:iB}{w:Nat}:s.fs w=s.fk w:=by unfold iB.fs iB.fk;rw[Va]
theorem aJ.lK(r:aJ c g m h)(hs:s∈m.ac):h.ob s.a=aA (.ins 18<|(s.lt c.am).fk (s.a+2)):=by rw[<- Zd];exact r.cK hs
theorem ie:aM.kn r=("store":cX)↔∃x y d,r = .store x y d:=by
 constructor
 .intro e;cases r with
  |store x y d=>exact⟨x,y,d,rfl⟩|way w=>exact absurd e<|Ap w|_=>simp only[aM.kn]at e;exact absurd e (by decide +kernel)
 .rintro ⟨x,y,d,rfl⟩;rfl
theorem ic:aM.kn r=("load":cX)↔∃x y d,r = .load x y d:=by
 constructor
 .intro e;cases r with
  |load x y d=>exact⟨x,y,d,rfl⟩|way w=>exact absurd e<|Kv w|_=>simp only[aM.kn]at e;exact absurd e (by decide +kernel)
 .rintro ⟨x,y,d,rfl⟩;rfl
theorem ro:aM.kn r=("jump":cX)↔∃x t,r = .fU x t:=by
 constructor
 .intro e;cases r with
  |fU x t=>exact⟨x,t,rfl⟩|way w=>exact absurd e<|tf w|_=>simp only[aM.kn]at e;exact absurd e (by decide +kernel)
 .rintro ⟨x,t,rfl⟩;rfl
def Mo.cZ(m:Mo)(i:Nat)(s:Sl):Mo:={ m with ac:=m.ac.set i s }
def Ax:Option Sl->Int
 |some s=>s.pc
 |none=>0
def Mo.place(m:Mo)(t p:Int)(w:Hq):Mo:=match pQ m.bg t p with
 |none=>{ m with kp:=eP m.kp t (aA p,w) }
 |some b=>({ m with kp:=eP m.kp t (aA p,w),ah:=Ax (m.slot b) }:Mo).cut b
def Mo.give(m:Mo)(i j:Nat)(w:Int):Mo:=match m.ac[i]? with
 |none=>m
 |some s=>match s.row,aX m.kp s.tk with
  |.store _ _ d,aA e=>if j=0 then { m.cZ i { s with ws:=s.ws.set j (aA w) }with kp:=eP m.kp s.tk (e.1,aA w) } else(m.cZ i { s with ws:=s.ws.set j (aA w) }).place s.tk (w+d) e.2
  |_,_=>m.cZ i { s with ws:=s.ws.set j (aA w) }
structure yL(m:Mo)(s:Sl)(j:Nat):Prop where
 fi:s.fi=aD
 jl:j<s.ws.length
 kp:∀x y d,s.row = .store x y d->∃e,aX m.kp s.tk=aA e/\(j=0->e.2=aD)/\(j=1->e.1=aD)
 bt:∀t p b,pQ m.bg t p=aA b->∃s,m.slot b=aA s
theorem aLm{w:Nat}{s:iB}{d:Int}(o:h.ob n=aA (.ins 18<|s.fs w))(er:s.row = .store x y d)(ow:h.ob w=aA (.lst aB [oI w0,.int w1]))(q:R (.int<|w1+d) h):WC (run pg (k+2) 106 [.ref n]) h R:=by obtain⟨tk,pc,r,bH,ch,dr,src,eY,dd,pt,st,fi,of⟩:=s;cases er;exact aT rfl rfl<|aC.of o<|aC.of o<|WC.of<|vM (cO ow)<|aT rfl rfl q
theorem aJ.BI(r:aJ c g m h)(kn:(kp'.map (·.1)).Pairwise (·<·))(kl:kp'.length<64):aJ c g { m with kp:=kp' } (h.put (c.b+9)<|.aN<|dE lG kp'):=
 r.sZ 9 ⟨r.W.tk,r.W.t0,r.W.sn,r.W.sw,r.W.wn,r.W.wl,kn,kl,r.W.bn,r.W.bl,r.W.fn,r.W.fk,r.W.fo,r.W.ff⟩ rfl rfl (aV _)
theorem aJ.BH{t:Int}{e v:Hq×Hq}(r:aJ c g m h)(hk:aX m.kp t=aA e):aJ c g { m with kp:=eP m.kp t v } (h.put (c.b+9)<|.aN<|dE lG<|eP m.kp t v):=
 r.BI (by rw[Bc hk];exact r.W.kn) (by rw[<- aU,Bc hk,aU];exact r.W.kl)
theorem aJ.tW(r:aJ c g m h):aJ c g { m with ah:=a } (h.put (c.b+1)<|.ins 19<|{ m with ah:=a }.wf c g.sl):=
 r.sZ 1 ⟨r.W.tk,r.W.t0,r.W.sn,r.W.sw,r.W.wn,r.W.wl,r.W.kn,r.W.kl,r.W.bn,r.W.bl,r.W.fn,r.W.fk,r.W.fo,r.W.ff⟩ rfl rfl (aV _)
end
section
variable {k:Nat}{g:Gh}
theorem aCe{d:Int}{e2:Hq}(r:aJ c g m h)(hs:s∈m.ac)(er:s.row = .store x y d)(ew:s.ws=[w0,aA w1])(hk:aX m.kp s.tk=aA (aD,e2))(bt:∀b,pQ m.bg s.tk (w1+d)=aA b->∃s,m.slot b=aA s)(q:∀v g' h',aJ c g' (m.place s.tk (w1+d) e2) h'->bD c g h g' h'->R v h'):WC (run pg (k+3) 113 [.ref (c.b+1),.ref s.a]) h R:=by
 have n:h.ob (s.a+2)=aA (.lst aB [oI w0,.int w1]):=by rw[r.jw hs,ew];rfl
 refine aT rfl rfl<|aC.of (r.at 1)<|aC.of (r.at 8)<|aC.of (r.cK hs)<|aC.of (r.cK hs)<|aLm (r.cK hs) er n ?_;refine aCf (t:=s.tk) r.shr hk λo k1=>?_;have f:=(r.BH hk).keep k1;unfold Mo.place at q;have nx:=(bD.st r (by decide) ⟨_,rfl⟩).trans (bD.keep k1);cases i:pQ m.bg s.tk (w1+d) with
 |none=>rw[i]at q;exact q _ _ _ f nx
 |some b=>obtain⟨j,e⟩:=bt b i;rw[i]at q;dsimp only at q;rw[e]at q;refine aC.of (f.at 1)<|HA f ?_;rw[show Mo.slot { m with kp:=eP m.kp s.tk (aA (w1+d),e2) } b=m.slot b from rfl,e];have hb:=cv e;refine aC.of (f.cK hb)<|aC.of (f.at 1) ?_;have l:=f.tW (a:=j.pc);exact aC.of (l.at 1)<|Bw l λv g' h' p u w=>q _ _ _ p ((nx.trans<|bD.st f (by decide) ⟨_,rfl⟩).trans (bD.of u w))
theorem C1{j:Int}{w:AV}(r:aJ c g m h)(hs:s∈m.ac)(cs:¬aM.kn s.row=("store":cX))(q:R .aG h):dZ (run pg<|k+3) (bK Vd) [aA (.ref<|c.b+1),aA (.ref s.a),aA (.int j),aA w] h (λ_ h1=>R .aG h1) R (λ_ _=>False) λ_ _=>False:=
 aC.of (r.lK hs) (aC.of gI<|aE.df cs<|aC.of (r.lK hs)<|aC.of gI<|aE.df cs q)
theorem Zz(r:aJ c g m h)(hs:m.ac[i]?=aA s)(ea:s.a=n)(G:yL m s j)(q:∀v g' h',aJ c g' (m.give i j w) h'->bD c g h g' h'->R v h'):WC (run pg (k+4) 112 [.ref (c.b+1),.ref n,.int (j:Int),.int w]) h R:=by
 subst ea;have hm:=bX hs;have il:=(List.getElem?_eq_some_iff.mp hs).1;have jl:=G.jl;refine aT rfl rfl<|aC.of (r.cK hm)<|Po (r.jw hm) (by rw[aU];exact Jq jl) ?_;rw[show((s.ws.map oI).set j (.int w))=(s.ws.set j<|aA w).map oI by rw[Dy];rfl];have r1:=r.aRh (ws':=s.ws.set j (aA w)) hs G.fi (tN ..);have nx:bD c g h g (h.put (s.a+2)<|.lst aB<|(s.ws.set j<|aA w).map oI):=bD.put (r.ia hm).2;revert r1 nx
 generalize h.put (s.a+2) (.lst aB<|(s.ws.set j<|aA w).map oI)=h1;intro r1 nx;obtain⟨s1,e1⟩:∃s1:Sl,s1={ s with ws:=s.ws.set j (aA w) }:=⟨_,rfl⟩;have ha:s1.a=s.a:=by rw[e1]
 have ht:s1.tk=s.tk:=by rw[e1]
 have hr:s1.row=s.row:=by rw[e1]
 unfold Mo.give at q;rw[hs]at q;dsimp only at q;rw[<- e1]at r1 q;have hm':s1∈(m.cZ i s1).ac:=bX (mQ il);rw[<- ha];by_cases cs:aM.kn s.row=("store":cX)
 .obtain⟨x,y,d,er⟩:=ie.mp cs;obtain⟨⟨p0,e2⟩,ek,z0,z1⟩:=G.kp x y d er;rw[er,ek]at q;dsimp only at q;rw[<- ht]at ek q;have cs':aM.kn s1.row=("store":cX):=by rw[hr];exact cs
  by_cases cj:j=0
  .subst cj;rw[if_pos rfl]at q;cases z0 rfl;refine aC.of (r1.lK hm')<|aC.of gI<|aE.dt cs'<|aC.of (r1.at 1)<|aC.of (r1.at 8)<|aC.of (r1.lK hm')<|aRi (k:=k+2) r1.shr ek λv=>?_;have r2:=r1.BH (v:=(p0,aA w)) ek;exact aC.of (r2.lK hm')<|aC.of gI<|aE.dt cs'<|q _ _ _ r2<|nx.trans<|bD.st r1 (by decide) ⟨_,rfl⟩
  .rw[if_neg cj]at q;have nw:=(r.W.sw s hm).1;rw[er]at nw;have nw:s.ws.length=2:=nw;have j1:j=1:=by omega
   subst j1;cases z1 rfl;obtain⟨w0,w1,ew⟩:=ju nw;refine aC.of (r1.lK hm')<|aC.of gI<|aE.dt cs'<|aC.of (r1.lK hm')<|aC.of gI<|aE.dt cs'<|aC.of (r1.at 1)<|aCe (k:=k) (w0:=w0) (w1:=w) r1 hm' (hr.trans er) (by rw[e1,ew];rfl) ek (λb eb=>?_) λv g' h' r2 n2=>q _ _ _ r2 (nx.trans n2);obtain⟨sb,e⟩:=G.bt _ _ _ eb;refine⟨if b=s.tk then s1 else sb,?_⟩;show(m.ac.set i _).find? _=_;rw[Yv hs ht r.W.tk];split
   .rfl
   .exact e
 .have nst:∀x y d,s.row ≠ .store x y d:=λx y d e=>cs (ie.mpr ⟨x,y,d,e⟩);have q':aJ c g (m.cZ i s1) h1->R .aG h1:=λz=>q _ _ _ (by
   split
   .exact absurd ‹s.row=_› (nst _ _ _)
   .exact z) nx
  exact C1 (k:=k) (R:=R) (j:=j) (w:=.int w) r1 hm' (by rw[hr];exact cs)<|q' r1
end
section
variable {k:Nat}{g:Gh}
theorem y8:(l++[s]).find? (λz=>decide (z.tk=u))=(l.find? λz=>decide (z.tk=u)).or (if s.tk=u then aA s else aD):=by
 rw[Dr,nP];by_cases e:s.tk=u
 .rw[decide_eq_true e,if_pos e]
 .rw[decide_eq_false e,if_neg e];rfl
theorem aJ.OX{o1:bB}(r:aJ c g m h)(k1:Kp h h')(en:n=s.a)(ha:h.nx<=n)(hl:n+2<h'.nx)(os:h'.ob n=aA (.ins 18<|(s.lt c.am).fs (n+2)))(ow:h'.ob (n+2)=aA (.lst aB<|s.ws.map oI))
  (ht:s.tk=m.bF)(h0:0<=m.bF)(hp:∀z∈m.ac,z.tk<m.bF)(hn:m.ac.length<63)(hw:s.ws.length=s.row.nw/\s.bH.length=s.row.nw) :
  ∃g',g'.sl=g.sl/\(∀n,n<h.nx->g'.kd n=g.kd n)/\aJ c g' { m with ac:=m.ac++[s],bF:=m.bF+1 } ((h'.put (c.b+1)<|.ins 19<|{ m with bF:=m.bF+1 }.wf c g.sl).put g.sl (.lst aB<|(m.ac.map λs=>AV.ref s.a)++[.ref n])):=by
 subst en;have z:=pR (ht▸h0:0<=s.tk);have A:=r.keep k1;obtain⟨C,u,f⟩:=r.kH;have D:=r.X.st 1 _ rfl;refine⟨⟨g.sl,g.kf,λi=>if i=s.a then kA s.tk else if i=s.a+2 then kA s.tk+1 else g.kd i⟩,rfl,λn hn=>(if_neg (by lia)).trans (if_neg (by lia)),⟨λi o e=>?_,λk n o p e=>?_⟩,?_,?_⟩
 .have q:i=1\/i≠1/\(m.fR c g)[i]?=aA (aA o):=by
   by_cases t:i=1
   .exact .inl t
   .refine .inr ⟨t,?_⟩;rw[show Mo.fR { m with ac:=m.ac++[s],bF:=m.bF+1 } c ⟨g.sl,g.kf,λi=>if i=s.a then kA s.tk else if i=s.a+2 then kA s.tk+1 else g.kd i⟩=(m.fR c g).set 1 (aA<|.ins 19<|{ m with bF:=m.bF+1 }.wf c g.sl) from rfl,lO λw=>t w.symm]at e;exact e
  have main:∀v,(m.fR c g)[i]?=aA (aA v)->(if c.b+i=s.a then kA s.tk else if c.b+i=s.a+2 then kA s.tk+1 else g.kd (c.b+i))=i/\c.b+i<h'.nx/\c.b+i≠g.sl:=λv B=>by have y:=r.X.st i v B;have H:i<15:=(List.getElem?_eq_some_iff.mp B).1;refine⟨?_,bA y.2.1 k1.nx,λw=>by rw[<- w,y.1]at f;lia⟩;rw[if_neg (by lia),if_neg (by lia)];exact y.1
  rcases q with rfl|⟨t,q⟩
  .cases e;have y:=main _ rfl;exact⟨y.1,y.2.1,(bN y.2.2).trans bS⟩
  .have y:=main _ q;exact⟨y.1,y.2.1,(bN y.2.2).trans ((bN (by lia)).trans (A.X.st i o q).2.2)⟩
 .have old:∀{k n o},15<=k->k≠15->m.dyn c g k=aA (n,o)->(if n=s.a then kA s.tk else if n=s.a+2 then kA s.tk+1 else g.kd n)=k/\c.b<=n/\n<h'.nx/\((h'.put (c.b+1)<|.ins 19<|{ m with bF:=m.bF+1 }.wf c g.sl).put g.sl (.lst aB<|(m.ac.map λs=>AV.ref s.a)++[.ref s.a])).ob n=aA o:=λ{k n o} p E e=>by
   have y:=r.X.dy k n o p e;refine⟨?_,y.2.1,bA y.2.2.1 k1.nx,?_⟩
   .rw[if_neg (by lia),if_neg (by lia)];exact y.1
   .rw[bN λw=>E (by rw[<- y.1,w,f]),bN λw=>by rw[w,D.1]at y;lia];exact k1.get y.2.2.1 y.2.2.2
  by_cases d:k=15
  .subst d;cases e;refine⟨?_,(r.X.dy 15 _ _ (aV _) rfl).2.1,bA u k1.nx,?_⟩
   .show(if g.sl=s.a then _ else if g.sl=s.a+2 then _ else _)=_;rw[if_neg (by lia),if_neg (by omega)];exact f
   .rw[bS,gB];rfl
  .by_cases j:k<30
   .exact old p d (by unfold Mo.dyn at e ⊢;rw[if_neg d,if_pos j]at e ⊢;exact e)
   .unfold Mo.dyn at e;rw[if_neg d,if_neg j,y8]at e;cases x:m.ac.find? (λz=>decide (z.tk=((k:Int)-30) / 2)) with
    |some I=>rw[x]at e;exact old p d (by unfold Mo.dyn;rw[if_neg d,if_neg j,x];exact e)
    |none=>
     rw[x,Option.none_or]at e;by_cases ct:s.tk=((k:Int)-30) / 2
     .rw[if_pos ct,yA]at e;have lo:=dG r.bx ha;have F:s.a≠g.sl:=by omega
      have G:s.a+2≠g.sl:=by omega
      by_cases l:k%2=0
      .rw[if_pos l]at e;cases e;refine⟨?_,lo,by show s.a<h'.nx;omega,?_⟩
       .show(if s.a=s.a then _ else _)=_;rw[if_pos rfl];exact((xy (ht▸h0) ct.symm).resolve_right λw=>by rw[w,z.2.2.2.1]at l;cases l).symm
       .rw[bN F,bN (by omega)];exact os
      .rw[if_neg l]at e;cases e;refine⟨?_,by omega,hl,?_⟩
       .show(if s.a+2=s.a then _ else if s.a+2=s.a+2 then _ else _)=_;rw[if_neg (by omega),if_pos rfl];exact((xy (ht▸h0) ct.symm).resolve_left λw=>l (w▸z.2.2.1)).symm
       .rw[bN G,bN (by omega)];exact ow
     .rw[if_neg ct]at e;cases e
 .have lb:=(r.X.dy 15 _ _ (aV _) rfl).2.1;refine A.G.imp λ_ z=>z.low (aV _) λn hn=>?_;rw[bN (by lia),bN (by lia)]
 .have w:=r.W;refine⟨?_,λz hz=>?_,by rw[dQ];exact xZ hn,λz hz=>?_,w.wn,w.wl,w.kn,w.kl,w.bn,w.bl,w.fn,w.fk,w.fo,w.ff⟩
  .rw[gB,Qy];refine⟨w.tk,vn ..,λa ha b hb=>?_⟩;obtain⟨z,hz,rfl⟩:=List.mem_map.mp ha;rw[List.mem_singleton.mp hb];show z.tk<s.tk;rw[ht];exact hp z hz
  .rcases List.mem_append.mp hz with hz|hz
   .exact w.t0 z hz
   .rw[List.mem_singleton.mp hz,ht];exact h0
  .rcases List.mem_append.mp hz with hz|hz
   .exact w.sw z hz
   .rw[List.mem_singleton.mp hz];exact hw
end
section
variable {k:Nat}{g:Gh}
theorem aJ.S5{kf':Dc Nat}{l:Ht}(r:aJ c g m h)(N:lA h' (c.b+4) (c.b+5) kf' (lL m.fl x l))(F:Uc h h' (c.b+5) 0 g.kf kf' x)(hx:0<=x/\x<8)(hl:l.length<99999):∃g',bD c g h g' h'/\aJ c g' { m with fl:=lL m.fl x l } h':=by
 obtain⟨f,ef,en⟩:=F.new;have kx:=F.kx;have ke:∀{k:Nat},(k:Int)-16=x->16+x.toNat=k:=λe=>Int.ofNat.inj ((congrArg (λz=>(16:Int)+z)<|Qi hx.1).trans (Int.sub_eq_iff_eq_add'.mp e).symm);have bn:∀n∈(c.b+5)::(aX g.kf x).toList,n=c.b+5\/aX g.kf x=aA n:=λn hn=>by
  rcases List.mem_cons.mp hn with e|e
  .exact .inl e
  .exact .inr<|Option.mem_toList.mp e
 have fx:∀n,aX g.kf x=aA n->g.kd n=16+x.toNat/\c.b<=n:=λn e=>have y:=r.X.dy _ _ _ (by omega) (wW r.W e);⟨y.1,y.2.1⟩;have k5:=(r.X.st 5 _ rfl).1;have nin:∀{n k},g.kd n=k->k≠5->k≠16+x.toNat->n∉(c.b+5)::(aX g.kf x).toList:=λ{n k} e h1 h2 w=>by
  rcases bn n w with w|w
  .rw[w,k5]at e;exact h1 e.symm
  .rw[(fx n w).1]at e;exact h2 e.symm
 have kdf:∀{n},n<h.nx->(aX g.kf x=aD->h.nx<=f)->(if aX g.kf x=aD/\n=f then 16+x.toNat else g.kd n)=g.kd n:=λ{n} hn hf=>if_neg λw=>by have:=hf w.1;omega
 have hf:aX g.kf x=aD->h.nx<=f:=λe=>en.elim (λw=>by rw[e]at w;cases w) λw=>w.2;refine⟨⟨g.sl,kf',λi=>if aX g.kf x=aD/\i=f then 16+x.toNat else g.kd i⟩,⟨kx.nx,λn hn hk _=>⟨kx.ob n hn (nin hk (by decide) (by omega)),(kdf hn hf).trans hk⟩⟩,⟨λi o e=>?_,λk n o h1 e=>?_⟩,?_,?_⟩
 .by_cases c5:i=5
  .subst c5;cases e;have y:=r.X.st 5 _ rfl;exact⟨(kdf y.2.1 hf).trans y.1,N.hd,N.od⟩
  .have e0:(m.fR c g)[i]?=aA (aA o):=by rw[show Mo.fR { m with fl:=lL m.fl x l } c ⟨g.sl,kf',λi=>if aX g.kf x=aD/\i=f then 16+x.toNat else g.kd i⟩=(m.fR c g).set 5 (aA<|.aN<|dE AV.ref kf') from rfl,lO λw=>c5 w.symm]at e;exact e
   have y:=r.X.st i o e0;have hi:i<15:=(List.getElem?_eq_some_iff.mp e0).1;exact⟨(kdf y.2.1 hf).trans y.1,bA y.2.1 kx.nx,kx.get y.2.1 (nin y.1 c5 (by omega)) y.2.2⟩
 .by_cases c1:16<=k/\k<30
  .unfold Mo.dyn at e;rw[if_neg (by omega),if_pos c1.2]at e;obtain⟨f',ef',e2⟩:=Option.map_eq_some_iff.mp e;cases e2;have y:=N.ls _ _ ef';by_cases cx:(k:Int)-16=x
   .have ff:f=n:=by rw[cx,ef]at ef';exact dI ef'
    subst ff;rcases en with w|w
    .exact⟨(if_neg λz=>by rw[w]at z;cases z.1).trans ((fx f w).1.trans (ke cx)),(fx f w).2,y.1,y.2⟩
    .exact⟨(if_pos ⟨w.1,rfl⟩).trans (ke cx),dG r.bx w.2,y.1,y.2⟩
   .have eo:=ef';rw[F.old _ cx]at eo;have:=r.W.fk _ _ eo;have z:=r.X.dy _ _ _ (by omega) (wW r.W eo);exact⟨(kdf z.2.2.1 hf).trans (by omega),z.2.1,y.1,y.2⟩
  .have e0:m.dyn c g k=aA (n,o):=by
    unfold Mo.dyn at e ⊢;split
    .rename_i z;rw[if_pos z]at e;exact e
    .rename_i z;rw[if_neg z,if_neg (by omega)]at e;rw[if_neg (by omega)];exact e
   have z:=r.X.dy k n o h1 e0;exact⟨(kdf z.2.2.1 hf).trans z.1,z.2.1,bA z.2.2.1 kx.nx,kx.get z.2.2.1 (nin z.1 (by omega) (by omega)) z.2.2.2⟩
 .refine r.G.imp λ_ z=>z.low (aV _) (kx.lowG r.bx λn hn=>?_);rcases bn n hn with w|w
  .rw[w];exact mR ..
  .exact(fx n w).2
 .have w:=r.W;refine⟨w.tk,w.t0,w.sn,w.sw,w.wn,w.wl,w.kn,w.kl,w.bn,w.bl,N.nd,λy f' e=>?_,N.no,λy=>?_⟩
  .by_cases cy:y=x
   .rw[cy];exact hx
   .have e':=e;rw[F.old y cy]at e';exact w.fk y f' e'
  .show(lL m.fl x l y).length<99999;unfold lL;split
   .exact hl
   .exact w.ff y
end
section
variable {k:Nat}{g:Gh}
def aM.fx:aM->Hq
 |.way _ x _ _=>aA x | .set x _=>aA x | .move x _=>aA x | .load x _ _=>aA x
 |_=>aD
theorem Hx:r.fl=oI (aM.fx r):=by cases r<;>rfl
theorem Ze(hr:rK r)(e:aM.fx r=aA x):0<=x/\x<8:=by
 cases r<;>cases e
 .exact hr.1
 .exact hr.1
 .exact hr.1
 .exact hr.1
def Mo.tI(m:Mo)(row:aM)(a:Nat):Sl:=⟨a,m.bF,m.ah,row,row.dB.map λx=>(m.fl x).getLast?,eN row.nw aD,m.ah+1,aH,aD,aD,m.nw,aD,aD,aD⟩
def lW(fl:Int->Ht)(row:aM)(t:Int):Int->Ht:=match aM.fx row with
 |some x=>lL fl x (fl x++[t])
 |none=>fl
def ig(kp:Dc (Hq×Hq))(row:aM)(t:Int):Dc (Hq×Hq):=match row with
 |.store _ _ _=>kp++[(t,aD,aD)]
 |_=>kp
def Mo.enter(m:Mo)(row:aM)(a:Nat):Mo:={ m with ac:=m.ac++[m.tI row a],bF:=m.bF+1,fl:=lW m.fl row m.bF,kp:=ig m.kp row m.bF }
structure nu(c:Cf)(m:Mo)(row:aM):Prop where
 hr:c.rs[m.ah.toNat]?=aA row
 ah:0<=m.ah
 ok:rK row
 t0:0<=m.bF
 sl:∀s∈m.ac,s.tk<m.bF
 fl:∀y u,(m.fl y).getLast?=aA u->u<m.bF
 kp:∀p∈m.kp,p.1<m.bF
 bg:aX m.bg m.bF=aD
 sn:m.ac.length<63
 kl:m.kp.length<63
 ff:∀x,(m.fl x).length<99998
theorem bz{r:aM}:r.dB.length=r.nw:=by cases r<;>rfl
theorem aj{r:aM}:r.nw<=2:=by cases r<;>exact MJ rfl
theorem Xo(r:aJ c g m h)(hs:s∈m.ac)(er:s.row=row)(hk:∀p∈m.kp,p.1<s.tk)(hb:aX m.bg s.tk=aD)(kl:m.kp.length<63)(q:∀g' h',aJ c g' { m with kp:=ig m.kp row s.tk } h'->bD c g h g' h'->R (.ref s.a) h') :
  dZ (run pg<|k+3) (bK<|bK<|bK<|bK<|bK xo) [aA (.ref<|c.b+1),aA row.av,aA (.ref s.a)] h (λ_ h1=>R .aG h1) R (λ_ _=>False) λ_ _=>False:=by
 have f:aJ c g m h->(∀x y d,row ≠ .store x y d)->R (.ref s.a) h:=λi hn=>q g h (by rw[show ig m.kp row s.tk=m.kp by unfold ig;split;exact absurd rfl<|hn _ _ _;rfl];exact i) bD.refl;by_cases cs:aM.kn row=("store":cX)
 .obtain⟨x,y,d,rfl⟩:=ie.mp cs;refine aC.of (r.at 1)<|aC.of (r.at 8)<|aC.of (r.cK hs)<|aMa r.shr hb hk λv j kx e=>?_;refine q g j (r.xC (m':={ m with kp:=m.kp++[(s.tk,aD,aD)] }) 9 kx e ⟨r.W.tk,r.W.t0,r.W.sn,r.W.sw,r.W.wn,r.W.wl,?_,by rw[dQ];exact xZ kl,r.W.bn,r.W.bl,r.W.fn,r.W.fk,r.W.fo,r.W.ff⟩ rfl rfl<|aV _)<|bD.kx r (by decide) ⟨_,rfl⟩ kx;rw[gB,Qy];refine⟨r.W.kn,vn ..,λa ha b hb=>?_⟩;obtain⟨z,l,rfl⟩:=List.mem_map.mp ha;rw[List.mem_singleton.mp hb];exact hk z l
 .have n:=f r λx y d e=>cs (ie.mpr ⟨x,y,d,e⟩);rw[Va];exact aC.of gI<|aE.df cs n
theorem YV(r:aJ c g m h)(et:s.tk=tk)(hs:s∈m.ac)(er:s.row=row)(ok:rK row)(hk:∀p∈m.kp,p.1<tk)(hb:aX m.bg tk=aD)(kl:m.kp.length<63)(hf:∀y u,(m.fl y).getLast?=aA u->u<tk)(ff:∀x,(m.fl x).length<99998)(q:∀g' h',aJ c g' { m with fl:=lW m.fl row tk,kp:=ig m.kp row tk } h'->bD c g h g' h'->R (.ref s.a) h') :
  dZ (run pg<|k+3) (bK<|bK<|bK<|bK xo) [aA (.ref<|c.b+1),aA row.av,aA (.ref s.a)] h (λ_ h1=>R .aG h1) R (λ_ _=>False) λ_ _=>False:=by
 subst et;refine Hw ?_;rw[Hx];cases a:aM.fx row with
 |none=>refine Xo r hs er hk hb kl λg' h' b d=>q g' h' ?_ d;rw[show lW m.fl row s.tk=m.fl by unfold lW;rw[a]];exact b
 |some x=>refine aC.of (r.at 1)<|aC.of (r.at 4)<|aC.of (r.cK hs)<|Hw (k:=k+2) ?_;rw[Hx,a];refine y4 (k:=k+1) r.Kw (by have:=BG r.W;lia) hf (by have:=ff x;lia) λv e l N F f=>?_;obtain⟨g',i,j⟩:=r.S5 N F (Ze ok a) (by rw[dQ];exact xZ<|ff x);refine Xo j hs er hk hb kl λg' h' b d=>q g' h' ?_ (i.trans d);rw[show lW m.fl row s.tk=lL m.fl x (m.fl x++[s.tk]) by unfold lW;rw[a]];exact b
theorem YW(r:aJ c g m h)(E:nu c m row)(q:∀a g' h',aJ c g' (m.enter row a) h'->bD c g h g' h'->R (.ref a) h'):WC (run pg (k+4) 111 [.ref (c.b+1)]) h R:=by
 have y:cN (c.rs.map aM.av) m.ah=aA row.av:=by have hl:=(List.getElem?_eq_some_iff.mp E.hr).1;have:=E.ah;unfold cN jS;rw[if_pos this,if_pos (by rw[aU];lia)];simp only[jP,fO,E.hr,yA]
 refine aT rfl rfl<|aC.of (r.at 1)<|aC.of (r.at 1)<|WC.of<|gQ (cO<|r.at 2) y ?_;refine aC.of (r.at 1)<|aC.of (r.at 1)<|aC.of (r.at 1)<|aC.of (r.at 4)<|IW ?_;refine C7 r.Kw (by have:=@bz row;have:=@aj row;lia) λb k1=>?_;refine aC.of ((r.keep k1).at 1) ?_;have en:(row.dB.map λx=>oI (m.fl x).getLast?)=(row.dB.map λx=>(m.fl x).getLast?).map oI:=by rw[jE];rfl
 rw[en];have nl:(row.dB.map λx=>(m.fl x).getLast?).length=row.nw:=by rw[aU];exact bz
 refine aLa bP (cF _) (by rw[nl];exact aj) λl u z w2 f2=>⟨rfl,?_⟩;have k2:Kp h l:=⟨by have:=k1.nx;rw[u];show h.nx<=b.nx+1+2;lia,λi A=>by have:=k1.nx;rw[f2 i (by omega) (by show i<b.nx+1;lia),dY (by omega),k1.ob i A]⟩
 have o:=r.keep k2;refine aC.of (o.at 1)<|aC.of (o.at 1) ?_;obtain⟨s,d⟩:∃s,s=m.tI row b.nx:=⟨_,rfl⟩;rw[nl]at w2;obtain⟨B,_,p,t⟩:=r.OX (s:=s) (o1:=.lst aB []) (n:=b.nx) k2 (by rw[d];rfl) k1.nx (by rw[u];show b.nx+2<b.nx+1+2;lia) (by rw[z,d];rfl) (by rw[show b.nx+2=(b.new<|.ins 18 []).nx+1 from rfl,w2,d];unfold Mo.tI;rw[LZ];rfl) (by rw[d];rfl) E.t0 E.sl E.sn (by rw[d];exact⟨Dx ..,nl⟩);have f:(l.put (c.b+1)<|.ins 19<|{ m with bF:=m.bF+1 }.wf c g.sl).ob g.sl=aA (.lst aB<|m.ac.map λs=>.ref s.a):=(bN λw=>by have a:=r.kH.2.2;rw[w,(r.X.st 1 _ rfl).1]at a;cases a).trans o.kH.1
 refine aC.of bS<|aE.t rfl<|aC.of rfl<|aE.t (uO f)<|WC.of<|bu f (by rw[aU];have:=E.sn;have:=kG;lia) ?_;have e:bD c g h B ((l.put (c.b+1)<|.ins 19<|{ m with bF:=m.bF+1 }.wf c g.sl).put g.sl (.lst aB<|(m.ac.map λs=>AV.ref s.a)++[.ref b.nx])):=⟨k2.nx,λn hn j _=>⟨(bN λw=>by rw[w,r.kH.2.2]at j;cases j).trans ((bN λw=>by rw[w,(r.X.st 1 _ rfl).1]at j;cases j).trans (k2.ob n hn)),(p n hn).trans j⟩⟩;change dZ (run pg<|k+3) (bK<|bK<|bK<|bK xo) [aA (.ref<|c.b+1),aA row.av,aA (.ref b.nx)] ((l.put (c.b+1)<|.ins 19<|{ m with bF:=m.bF+1 }.wf c g.sl).put g.sl (.lst aB<|(m.ac.map λs=>AV.ref s.a)++[.ref b.nx])) (λ_ b=>R .aG b) R (λ_ _=>False) λ_ _=>False;revert t e
 intro t e;have:=YV (k:=k) (R:=R) (s:=s) (row:=row) t (by rw[d];rfl) (iI _<|List.mem_singleton.mpr rfl) (by rw[d];rfl) E.ok E.kp E.bg E.kl E.fl E.ff λg' h' v C=>by rw[d];refine q b.nx g' h' ?_<|e.trans C;rw[d]at v;exact v
 rw[d]at this;exact this
end
section
variable {k:Nat}{g:Gh}
def aM.Gd(ws:Ht)(held:Hq):aM->Hq
 |.way w _ _ _=>aA (w.wk (cell ws 0)<|cell ws 1) | .set _ v=>aA v | .move _ _=>aA (cell ws 0) | .store _ _ _=>aA (cell ws 0) | .load _ _ _=>held
 |_=>aD
theorem VO{held:Hq}:r.br ws (oI held)=oI (aM.Gd ws held r):=by cases r<;>rfl
theorem aCb:r.pl ws=oI (r.DR ws):=by cases r<;>rfl
def nF(f:Option AV)(o:Hq):Hq:=match f with
 |none=>o
 |some _=>aD
def Sl.d1(am:Int)(s:Sl):Hq:=nF (s.ft am) (aM.fx s.row)
def Sl.d2(am:Int)(s:Sl):Hq:=nF (s.ft am) (s.row.DR s.wi)
def Sl.d3(am:Int)(s:Sl):Hq:=nF (s.ft am) (aM.Gd s.wi s.eY s.row)
def Sl.d4(am:Int)(s:Sl):Hq:=nF (s.ft am) (aA<|s.row.gs s.pc s.wi)
def Sl.dt(am:Int)(s:Sl):Hr:=[.int s.pc,oI (s.d1 am),oI (s.d2 am),oI (s.d3 am),oI (s.d4 am),(s.ft am).getD .aG]
theorem Xg:s.row.gi s.pc s.wi am (oI s.eY) = .tup (s.dt am):=by
 unfold aM.gi Sl.dt Sl.d1 Sl.d2 Sl.d3 Sl.d4 Sl.ft;cases s.row.ft s.wi am with
 |none=>rw[Hx,aCb,VO];rfl
 |some f=>rfl
theorem yg(e:s.fi.isSome=aB):s.dd am = .tup (s.dt am):=by
 unfold Sl.dd;cases h:s.fi with
 |none=>rw[h]at e;cases e|some φ=>exact Xg
def iB.ff(s:iB)(w:Nat)(d:Hr):List (cX×AV):=[("ticket",.int s.tk),("at",.int s.pc),("row",.tup (.str (aM.kn s.row)::aM.tl s.row)),("names",.tup (s.bH.map oI)),("words",.ref w),("chosen",.int s.ch),("dares",.bl s.dr),("source",oI s.src),("held",oI s.eY),("deed",.tup d),("put",.int s.put),("started",oI s.st),("finished",oI s.fi),("off",oI s.of)]
theorem aJ.Bs(r:aJ c g m h)(hs:s∈m.ac)(e:s.fi.isSome=aB):h.ob s.a=aA (.ins 18<|(s.lt c.am).ff (s.a+2) (s.dt c.am)):=by rw[r.lK hs];unfold iB.fk iB.ff;rw[show(s.lt c.am).dd=s.dd c.am from rfl,yg e]
def rA(am:Int)(o:Option Sl)(v:Int):Hq:=match o with
 |none=>aA v
 |some s=>if s.fi.isSome=aB then s.d3 am else aD
theorem K0{o:Option Sl}{v:Int}(r:aJ c g m h)(ho:∀s,o=aA s->s∈m.ac)(q:R (oI<|rA c.am o v) h):WC (run pg (k+1) 18 [aO o,.int v]) h R:=by
 cases o with
 |none=>exact aT rfl rfl q|some s=>
  have b:=ho s rfl;unfold rA at q;cases e:s.fi with
  |none=>
   dsimp only at q;rw[e]at q;have a:h.ob s.a=aA (.ins 18<|{ s.lt c.am with fi:=aD }.fk (s.a+2)):=by rw[r.lK b];unfold Sl.lt;rw[e]
   exact aT rfl rfl<|aC.of a q
  |some f=>
   have d:s.fi.isSome=aB:=by rw[e];rfl
   dsimp only at q;rw[if_pos d]at q;have a:h.ob s.a=aA (.ins 18<|{ s.lt c.am with fi:=aA f }.ff (s.a+2) (s.dt c.am)):=by rw[r.Bs b d];unfold Sl.lt;rw[e]
   exact aT rfl rfl<|aC.of a<|aC.of a q
end
section
variable {k:Nat}{g:Gh}
theorem Nj{i:Int}(h0:0<=i)(h1:i<ws.length)(hl:ws.length<=80)(q:R (.tup<|(ws.set i.toNat w).map .int) h):WC (run pg (k+1) 21 [.tup (ws.map .int),.int i,.int w]) h R:=by
 have big:=kG;obtain⟨n,rfl⟩:∃n:Nat,i=n:=⟨i.toNat,by lia⟩;have hn:n<ws.length:=by lia
 rw[rT,aTq,if_pos hn]at q;refine aT rfl rfl<|kb<|WC.of<|JJ ?_ ?_
 .rw[HT.jf,aU];lia
 rw[XQ];refine WC.of<|JA (by rw[lP,aU];show min n ws.length+1<=_;lia) ?_;refine kb<|WC.of<|JJ (lo:=aA ((n+1:Nat):Int)) ?_ ?_
 .rw[HT.Np,HT.jf,aU];lia
 rw[Wy];refine WC.of<|JA (by rw[dQ,lP,vm,aU];rw[vp (mS hn)];show n+1+(ws.length-(n+1))<=_;rw[Nat.add_sub_cancel' (hn)];exact dG hl<|dG (by decide)<|mS big) ?_;rw[<- Qw,<- Qv,tM];rw[gB]at q;exact q
def Sd.fv(sd:Sd)(d1 d2 d3 d4:Hq):Sd:=match d1,d2 with
 |some x,_=>⟨d4.getD 0,sd.bx.set x.toNat (d3.getD 0),sd.mem⟩
 |none,aA p=>⟨d4.getD 0,sd.bx,sd.mem.set p.toNat (d3.getD 0)⟩
 |none,aD=>⟨d4.getD 0,sd.bx,sd.mem⟩
theorem VF{sd:Sd}(q:R sd.av h):WC (run pg (k+2) 22 [sd.av,.tup [.int pc,.aG,.aG,.aG,.aG,.tup xs]]) h R:=aT rfl rfl q
theorem VG{sd:Sd}{d1 d2 d3:Hq}(bl:sd.bx.length=8)(ml:sd.mem.length<=80)(h1:∀x,d1=aA x->(0<=x/\x<8)/\∃w,d3=aA w)(h2:∀p,d1=aD->d2=aA p->(0<=p/\p<sd.mem.length)/\∃w,d3=aA w)(q:R (sd.fv d1 d2 d3<|aA a).av h):WC (run pg (k+2) 22 [sd.av,.tup [.int pc,oI d1,oI d2,oI d3,.int a,.aG]]) h R:=by
 cases d1 with
 |some x=>obtain⟨hx,w,rfl⟩:=h1 x rfl;exact aT rfl rfl<|Nj (k:=k) hx.1 (by omega) (by omega) q
 |none=>
  cases d2 with
  |some p=>obtain⟨hx,w,rfl⟩:=h2 p rfl rfl;exact aT rfl rfl<|Nj (k:=k) hx.1 hx.2 ml q
  |none=>exact aT rfl rfl q
def Mo.eX(m:Mo)(am:Int)(i:Nat):Nat->Ht->Mo
 |_,[]=>m
 |j,x::l=>match m.ac[i]? with
  |none=>m
  |some s=>match rA am (((s.bH[j]?).join).bind m.slot) (cell m.sd.bx x) with
   |some w=>Mo.eX (m.give i j w) am i (j+1) l
   |none=>Mo.eX m am i (j+1) l
end
section
variable {k:Nat}{g:Gh}
theorem Uy{l:Yi}(hj:j<l.length):cN (l.map oI) (j:Int)=aA (oI (l[j]?).join):=by rw[L2.oy];rw[fO,eM hj];rfl
theorem y9(e:l.find? (λz=>decide (z.tk=u))=aA s):s∈l:=cv e
theorem VL{o:Hq}(e:o.bind m.slot=aA s):s∈m.ac:=by obtain⟨t,_,e⟩:=Option.bind_eq_some_iff.mp e;exact y9 e
theorem C4(r:aJ c g m h)(hs:m.ac[i]?=aA s0)(bl:m.sd.bx.length=8)(P:Nat->Mo->Prop)(p0:P 0 m)
  (ps:∀j x m',s0.row.dB[j]?=aA x->P j m'->(0<=x/\x<8)/\∃s,m'.ac[i]?=aA s/\s.a=s0.a/\s.row=s0.row/\s.bH=s0.bH /\
   match rA c.am (((s0.bH[j]?).join).bind m'.slot) (cell m.sd.bx x) with
   |some w=>yL m' s j/\P (j+1) (m'.give i j w)
   |none=>P (j+1) m')
  (pe:∀m',P s0.row.dB.length m'->∃s,m'.ac[i]?=aA s/\s.a=s0.a)
  (q:∀m' g' h',P s0.row.dB.length m'->aJ c g' m' h'->bD c g h g' h'->R .aG h'):WC (run pg (k+5) 17 [.ref (c.b+1),.ref s0.a,.tup (m.sd.bx.map .int)]) h R:=by
 have hm:=bX hs;have nl:=(r.W.sw s0 hm).2;have wl:=@bz s0.row;have w2:=@aj s0.row;refine aT rfl rfl<|WB.of<|mO<|aQw<|cH _<|aC.of (r.cK hm)<|IW (k:=k+3) ⟨_,rfl,?_⟩;refine A4 (xs:=s0.row.dB.map .int) (λj Z h'=>(∃v3 v4 v5,Z=[aA (.ref<|c.b+1),aA (.ref s0.a),aA (.tup<|m.sd.bx.map .int),v3,v4,v5])/\∃m' g',P j m'/\aJ c g' m' h'/\bD c g h g' h') (by rw[aU,fI];omega) ⟨⟨_,_,_,rfl⟩,m,g,p0,r,bD.refl⟩ (λj x Z h' hx y=>?_)<|λZ h' y=>?_
 .obtain⟨⟨v3,v4,v5,rfl⟩,m',g',pj,r',n'⟩:=y;obtain⟨x,hr,rfl⟩:=lH hx;have hj:=(List.getElem?_eq_some_iff.mp hr).1;obtain⟨hx8,s,es,ea,er,en,pk⟩:=ps j x m' hr pj;have hm':=bX es;have os:=r'.cK hm';rw[ea]at os;have e1:cN (s.bH.map oI) (j:Int)=aA (oI (s.bH[j]?).join):=Uy (by rw[en];omega);refine kJ _<|gX _<|aC.of (r'.at 1)<|aC.of os<|aC.of e1<|GZ (k:=k+3) r' ?_;refine aC.of (ox hx8.1 (by rw[aU];omega))<|K0 (k:=k+3) r' (λs e=>VL e) ?_;rw[en];cases ek:rA c.am (((s0.bH[j]?).join).bind m'.slot) (cell m.sd.bx x) with
  |none=>rw[ek]at pk;exact⟨⟨_,_,_,rfl⟩,m',g',pk,r',n'⟩
  |some w=>rw[ek]at pk;refine aC.of (r'.at 1)<|Zz (k:=k) r' es ea pk.1 λv g2 h2 r2 n2=>?_;exact⟨⟨_,_,_,rfl⟩,_,g2,pk.2,r2,n'.trans n2⟩
 .obtain⟨⟨v3,v4,v5,rfl⟩,m',g',pj,r',n'⟩:=y;rw[aU]at pj;exact q m' g' h' pj r' n'
end
section
variable {k:Nat}{g:Gh}
theorem y0(hp:(l.map (·.tk)).Pairwise (·<·))(e:l[i]?=aA s)(hb:s.tk<b):(l.filter λz=>decide (z.tk<b))[i]?=aA s:=by
 induction l generalizing i with
 |nil=>cases e|cons z l c=>
  rw[iH,Qz]at hp;cases i with
  |zero=>cases e;rw[jB,if_pos (by simpa)];rfl
  |succ i=>have a:l[i]?=aA s:=e;have:=hp.1 s.tk (List.mem_map.mpr ⟨s,bX a,rfl⟩);rw[jB,if_pos (by simp;omega)];exact c hp.2 a
theorem VM{t:Int}(e:pQ bg t p=aA b):t<b/\∃q∈bg,q.1=b:=by
 unfold pQ Am at e;split at e
 .cases e
 .rename_i z;have:=Kh (ns:=(bg.filter<|mG t p).map (·.1)) λw=>z (by rw[w];rfl);rw[dI e]at this;obtain⟨q,a,rfl⟩:=List.mem_map.mp this;obtain⟨c,d⟩:=List.mem_filter.mp a;exact⟨of_decide_eq_true (Bool.and_eq_true_iff.mp d).1,q,c,rfl⟩
theorem aCd{w:Hq}(hp:(m.ac.map (·.tk)).Pairwise (·<·))(e:m.ac[i]?=aA s):(m.place s.tk p w).ac[i]?=aA s:=by
 unfold Mo.place;cases a:pQ m.bg s.tk p with
 |none=>exact e|some b=>exact y0 hp e (VM a).1
theorem Io(hp:(m.ac.map (·.tk)).Pairwise (·<·))(e:m.ac[i]?=aA s):(m.give i j w).ac[i]?=aA { s with ws:=s.ws.set j (aA w) }/\(m.give i j w).sd=m.sd:=by
 have a:(m.cZ i { s with ws:=s.ws.set j (aA w) }).ac[i]?=aA { s with ws:=s.ws.set j (aA w) }:=mQ ((List.getElem?_eq_some_iff.mp e).1);have b:((m.cZ i { s with ws:=s.ws.set j (aA w) }).ac.map (·.tk)).Pairwise (·<·):=by show((m.ac.set i _).map _).Pairwise _;rw[rC e (show({ s with ws:=s.ws.set j (aA w) }:Sl).tk=s.tk from rfl)];exact hp
 unfold Mo.give;rw[e];dsimp only;split
 .split
  .exact⟨a,rfl⟩
  .refine⟨aCd b a,?_⟩;unfold Mo.place;split<;>rfl
 .exact⟨a,rfl⟩
theorem C6(hp:(m.ac.map (·.tk)).Pairwise (·<·)):((m.give i j w).ac.map (·.tk)).Pairwise (·<·):=by
 unfold Mo.give;split
 .exact hp
 .rename_i s e;have a:∀{b:Sl},b.tk=s.tk->((m.ac.set i b).map (·.tk)).Pairwise (·<·):=λ{b} z=>by rw[rC e z];exact hp
  split
  .split
   .exact a rfl
   .unfold Mo.place;split
    .exact a rfl
    .exact xW (List.filter_sublist.map _)<|a rfl
  .exact a rfl
def Mo.wX(m:Mo)(am:Int)(i:Nat):Nat->Ht->Prop
 |_,[]=>True
 |j,x::l=>(0<=x/\x<8)/\∃s,m.ac[i]?=aA s/\(rA am (((s.bH[j]?).join).bind m.slot) (cell m.sd.bx x)=aD->Mo.wX m am i (j+1) l)/\∀w,rA am (((s.bH[j]?).join).bind m.slot) (cell m.sd.bx x)=aA w->yL m s j/\Mo.wX (m.give i j w) am i (j+1) l
theorem Ip{l:Ht}(e:m.ac[i]?=aA s):m.eX am i j (x::l)=match rA am (((s.bH[j]?).join).bind m.slot) (cell m.sd.bx x)with|some w=>Mo.eX (m.give i j w) am i (j+1) l|none=>Mo.eX m am i (j+1) l:=by rw[Mo.eX,e]<;>rfl
theorem C8(r:aJ c g m h)(hs:m.ac[i]?=aA s0)(bl:m.sd.bx.length=8)(ok:m.wX c.am i 0 s0.row.dB)
  (q:∀g' h' s,aJ c g' (m.eX c.am i 0 s0.row.dB) h'->(m.eX c.am i 0 s0.row.dB).ac[i]?=aA s->s.a=s0.a->s.row=s0.row->s.pc=s0.pc->(m.eX c.am i 0 s0.row.dB).sd=m.sd->bD c g h g' h'->R .aG h'):WC (run pg (k+5) 17 [.ref (c.b+1),.ref s0.a,.tup (m.sd.bx.map .int)]) h R:=by
 refine C4 r hs bl (λj a=>a.wX c.am i j (s0.row.dB.drop j)/\m.eX c.am i 0 s0.row.dB=a.eX c.am i j (s0.row.dB.drop j)/\a.sd=m.sd/\(a.ac.map (·.tk)).Pairwise (·<·)/\∃s,a.ac[i]?=aA s/\s.a=s0.a/\s.row=s0.row/\s.bH=s0.bH/\s.pc=s0.pc) ⟨ok,rfl,rfl,r.W.tk,s0,hs,rfl,rfl,rfl,rfl⟩ (λj x a ex y=>?_) (λa y=>?_) λa g' h' y C D=>?_
 .obtain⟨f,b,sd,t,s,d,e,l,en,o⟩:=y;rw[Hi ex]at f b;obtain⟨E,G,n,A,B⟩:=f;rw[d]at n;cases n;rw[Ip d,en,sd]at b;rw[en,sd]at A B;refine⟨E,s,d,e,l,en,?_⟩;cases p:rA c.am (((s0.bH[j]?).join).bind a.slot) (cell m.sd.bx x) with
  |none=>rw[p]at b;exact⟨A p,b,sd,t,s,d,e,l,en,o⟩
  |some w=>rw[p]at b;obtain⟨gv,F⟩:=B w p;obtain⟨u,v⟩:=Io t d;exact⟨gv,F,b,v.trans sd,C6 t,_,u,e,l,en,o⟩
 .obtain⟨_,_,_,_,s,d,e,_⟩:=y;exact⟨s,d,e⟩
 .obtain⟨_,b,sd,_,s,d,e,l,_,o⟩:=y;rw[Dn]at b;have z:m.eX c.am i 0 s0.row.dB=a:=b;rw[z]at q;exact q g' h' s C d e l o sd D
end
section
variable {k:Nat}{g:Gh}
theorem AF(w:Uh L n a h R):∃c fs i,h.ob n=aA (.ins c fs)/\ym.lookup c=aA i/\(fs.lookup ("guess":cX)).isNone=aB/\WC (run pg L i [.ref n,.int a]) h R:=by obtain⟨n',c,fs,e,o,w⟩:=gW.ex w;cases e;obtain⟨i,l,w⟩:=aC.ex w;obtain⟨hn,w⟩:=aE.an w;exact⟨c,fs,i,o,l,hn,w⟩
theorem aJ.D3(r:aJ c g m h)(q:∀b h',Kp h h'->R (.bl b) h'):∃cl fs i,h.ob c.gu=aA (.ins cl fs)/\ym.lookup cl=aA i/\(fs.lookup ("guess":cX)).isNone=aB/\WC (run pg (k+3) i [.ref c.gu,.int a]) h R:=by obtain⟨K,z⟩:=r.G;exact AF<|qy 1 z.T (z.kl r.bx) z.g (by omega) q
theorem aJ.U4(r:aJ c g m h)(q:∀b h',Kp h h'->R (.bl b) h'):∃cl fs i,h.ob c.nv=aA (.ins cl fs)/\ym.lookup cl=aA i/\(fs.lookup ("guess":cX)).isNone=aB/\WC (run pg (k+3) i [.ref c.nv,.int a]) h R:=by obtain⟨K,z⟩:=r.G;exact AF<|qy 1 z.T (z.kl r.bx) z.n (by omega) q
def aM.pS(pc:Int)(b:Bool):aM->Int
 |.fU _ t=>if b=aB then t else pc+1
 |r=>r.gs pc []
theorem aKe(r:aJ c g m h)(hs:s∈m.ac)(q:∀b h',Kp h h'->R (.int<|aM.pS s.pc b s.row) h'):WC (run pg (k+4) 19 [.ref s.a,.ref c.gu]) h R:=by
 by_cases d:aM.kn s.row=("jump":cX)
 .obtain⟨x,t,f⟩:=ro.mp d;have p:∀b h',Kp h h'->R (.int<|if b=aB then t else s.pc+1) h':=λb h' k=>by have:=q b h' k;rw[f]at this;exact this
  have o:∀{h'},Kp h h'->h'.ob s.a=aA (.ins 18<|{ s.lt c.am with row:=.fU x t }.fs (s.a+2)):=λk=>by rw[(r.keep k).cK hs];unfold Sl.lt;rw[f]
  obtain⟨cl,fs,i,u,l,hn,w⟩:=r.D3 (a:=s.pc) (R:=λv h'=>∃b,v = .bl b/\Kp h h') λb h' k=>⟨b,rfl,k⟩;refine aT rfl rfl<|aC.of (o Kp.refl)<|aC.of u<|aC.of l<|aE.t hn<|aC.of (o Kp.refl)<|WC.of<|w.we.mono λv h' z=>?_;obtain⟨b,rfl,k1⟩:=z;have j:=p b h' k1;cases b with
  |true=>exact aC.of (o k1) j|false=>exact aC.of (o k1) j
 .have n:∀x t,s.row ≠ .fU x t:=λx t e=>d (ro.mpr ⟨x,t,e⟩);refine aKf (r.cK hs) n ?_;have:=q aB h Kp.refl;rw[show aM.pS s.pc aB s.row=s.row.gs s.pc [] by unfold aM.pS;split;exact absurd ‹s.row=_› (n _ _);rfl]at this;exact this
def qP:aM->Bool
 |.load _ _ _=>aB
 |_=>aH
def Mo.pY(m:Mo)(c:Cf)(row:aM)(a:Nat)(dr gs:Bool):Mo:=
 let m1:=(m.enter row a).eX c.am m.ac.length 0 row.dB
 match m1.ac[m.ac.length]? with
 |none=>m1
 |some s=>{ m1.cZ m.ac.length { s with dr:=if qP s.row=aB then dr else s.dr,ch:=aM.pS s.pc gs s.row }with ah:=aM.pS s.pc gs s.row }
theorem aJ.uj(r:aJ c g m h)(hs:m.ac[i]?=aA s)(ha:s'.a=s.a)(ht:s'.tk=s.tk)(hw:s'.ws=s.ws)(hn:s'.bH=s.bH)(hr:s'.row=s.row):aJ c g (m.cZ i s') (h.put s.a<|.ins 18<|(s'.lt c.am).fs (s.a+2)):=r.aKz hs ha ht hw hn hr
theorem xO(hs:m.ac[i]?=aA s):(m.cZ i s').ac[i]?=aA s':=mQ (List.getElem?_eq_some_iff.mp hs).1
theorem Nr:(m.cZ i s).cZ i s'=m.cZ i s':=by unfold Mo.cZ;simp only[Rh]
theorem Yu(r:aJ c g m h)(hs:m.ac[i]?=aA s)(q:∀gs g' h',aJ c g' { m.cZ i { s with ch:=aM.pS s.pc gs s.row }with ah:=aM.pS s.pc gs s.row } h'->bD c g h g' h'->R .aG h') :
  dZ (run pg<|k+5) (bK<|bK<|bK Vf) [aA (.ref<|c.b+1),aA (.ref<|c.b+11),aA (.ref s.a)] h (λ_ h1=>R .aG h1) R (λ_ _=>False) λ_ _=>False:=by
 have hm:=bX hs;refine aC.of (r.at 11)<|aKe r hm λb h1 k1=>?_;have d:=r.keep k1;refine aC.of rfl<|aC.of rfl<|aC.of (d.cK hm) ?_;have a:=d.uj (s':={ s with ch:=aM.pS s.pc b s.row }) hs rfl rfl rfl rfl rfl;refine aC.of bS<|aC.of (a.at 1) ?_;exact q b g _ (a.tW)<|((bD.keep k1).trans (bD.put (r.ia hm).1)).trans (bD.st a (by decide) ⟨_,rfl⟩)
theorem x8(r:aJ c g m h)(E:nu c m row)(bl:m.sd.bx.length=8)(ok:∀a,(m.enter row a).wX c.am m.ac.length 0 row.dB)(q:∀a dr gs g' h',aJ c g' (m.pY c row a dr gs) h'->bD c g h g' h'->R .aG h'):WC (run pg (k+6) 16 [.ref (c.b+1),.ref (c.b+11)]) h R:=by
 refine aT rfl rfl<|aC.of (r.at 1)<|YW (k:=k+1) r E λa g1 h1 r1 n1=>?_;have e0:(m.enter row a).ac[m.ac.length]?=aA (m.tI row a):=LL;refine aC.of (r1.at 11)<|C8 (k:=k) (s0:=m.tI row a) r1 e0 bl (ok a) λg2 h2 s r2 es ea er ep esd n2=>?_;have q2:∀dr gs g' h',aJ c g' { ((m.enter row a).eX c.am m.ac.length 0 row.dB).cZ m.ac.length { s with dr:=if qP s.row=aB then dr else s.dr,ch:=aM.pS s.pc gs s.row }with ah:=aM.pS s.pc gs s.row } h'->bD c g2 h2 g' h'->R .aG h':=λdr gs g' h' z n3=>q a dr gs g' h' (by
  unfold Mo.pY;dsimp only;rw[show((m.enter row a).eX c.am m.ac.length 0 row.dB).ac[m.ac.length]?=aA s from es];exact z) (n1.trans<|n2.trans n3)
 have ea':a=s.a:=ea.symm;subst ea';revert es r2 q2
 show aJ c g2 ((m.enter row s.a).eX c.am m.ac.length 0 row.dB) h2->((m.enter row s.a).eX c.am m.ac.length 0 row.dB).ac[m.ac.length]?=aA s->_->_;generalize (m.enter row s.a).eX c.am m.ac.length 0 row.dB=m2;intro r2 es q2;have hm:=bX es;by_cases cl:aM.kn s.row=("load":cX)
 .obtain⟨x,y,d,el⟩:=ic.mp cl;obtain⟨cc,fs,i,o1,l,hn,w⟩:=r2.U4 (k:=k+2) (a:=s.pc) (R:=λv h'=>∃b,v = .bl b/\Kp h2 h') λb h' k=>⟨b,rfl,k⟩;refine aC.of (r2.lK hm)<|aC.of gI<|aE.dt cl<|aC.of (r2.at 11)<|aC.of o1<|aC.of l<|aE.t hn<|aC.of (r2.cK hm)<|WC.of<|w.we.mono λv h3 z=>?_;obtain⟨b,rfl,k3⟩:=z;have r3:=r2.keep k3;refine aC.of rfl<|aC.of rfl<|aC.of (r3.cK hm) ?_;have r4:=r3.uj (s':={ s with dr:=b }) es rfl rfl rfl rfl rfl;refine Yu (k:=k) (s:={ s with dr:=b }) r4 (xO es) λgs g' h' r5 n5=>q2 b gs g' h' ?_ (((bD.keep k3).trans (bD.put (r2.ia hm).1)).trans n5);rw[show qP s.row=aB by rw[el];rfl,if_pos rfl];rw[Nr]at r5;exact r5
 .refine aC.of (r2.lK hm)<|aC.of gI<|aE.df cl ?_;refine Yu (k:=k) r2 es λgs g' h' r5 n5=>q2 aB gs g' h' ?_ n5;rw[if_neg (show¬qP s.row=aB from λz=>cl (ic.mpr (by cases hr:s.row<;>rw[hr]at z<;>first|exact⟨_,_,_,rfl⟩|cases z)))];exact r5
end
section
variable {k:Nat}{g:Gh}
def Mo.sU(m:Mo)(am:Int)(s:Sl):Option (Option<|Int×Hq×Int):=match s.row with
 |.load _ _ d=>if 0<=cell s.wi 0+d/\cell s.wi 0+d<am then match uQ (cell s.wi 0+d) s.dr (m.kp.filter λq=>decide (q.1<s.tk)).reverse with
   |none=>aD
   |some aD=>aA (aA (cell s.wi 0+d,aX m.gP (cell s.wi 0+d),cell m.sd.mem (cell s.wi 0+d)))
   |some (aA (u,w))=>aA (aA (cell s.wi 0+d,aA u,w))
  else aA aD
 |_=>aA aD
def Sl.xE(s:Sl):Option (Int×Hq×Int)->Sl
 |none=>s
 |some (_,u,w)=>{ s with src:=u,eY:=aA w }
def Vm(bg:Dc (Int×Hq))(t:Int):Option (Int×Hq×Int)->Dc (Int×Hq)
 |none=>bg
 |some (p,u,_)=>bg++[(t,p,u)]
structure xg(c:Cf)(m:Mo)(s:Sl):Prop where
 fi:s.fi=aD
 ws:s.ws=s.wi.map aA
 bg:aX m.bg s.tk=aD
 kp:∀x y d,s.row = .load x y d->aX m.kp s.tk=aD
 bl:m.bg.length<63
 ml:c.am=m.sd.mem.length
theorem Pm:(ws.map aA).map oI=ws.map AV.int:=by rw[jE];rfl
theorem aJ.Vo(r:aJ c g m h)(bn:(bg'.map (·.1)).Nodup)(bl:bg'.length<64):aJ c g { m with bg:=bg' } (h.put (c.b+10)<|.aN<|dE lU bg'):=
 r.sZ 10 ⟨r.W.tk,r.W.t0,r.W.sn,r.W.sw,r.W.wn,r.W.wl,r.W.kn,r.W.kl,bn,bl,r.W.fn,r.W.fk,r.W.fo,r.W.ff⟩ rfl rfl (aV _)
theorem An{β:Type}{l:Dc β}{v:β}(nd:(l.map (·.1)).Nodup)(h:aX l x=aD):((l++[(x,v)]).map (·.1)).Nodup:=by rw[gB,MC];refine⟨nd,by simp,λa ha b hb=>?_⟩;obtain⟨p,c,rfl⟩:=List.mem_map.mp ha;rw[List.mem_singleton.mp hb];intro w;have d:p.1=x:=w;have:=nE nd c;rw[d,h]at this;cases this
theorem aNs(r:aJ c g m h)(hs:m.ac[i]?=aA s)(hb:aX m.bg s.tk=aD)(hk:aX m.kp s.tk=aD)(bl:m.bg.length<63)(q:aJ c g { m with bg:=m.bg++[(s.tk,p,s.src)] } (h.put (c.b+10)<|.aN<|dE lU<|m.bg++[(s.tk,p,s.src)])->R (.bl aB) (h.put (c.b+10)<|.aN<|dE lU<|m.bg++[(s.tk,p,s.src)])) :
  dZ (run pg<|k+3) (bK<|bK<|bK<|bK<|bK pq) [aA (.ref<|c.b+1),aA (.ref<|c.b+11),aA (.ref s.a),aA (.int p),aA fnd] h (λ_ h1=>R .aG h1) R (λ_ _=>False) λ_ _=>False:=by
 have hm:=bX hs;refine aC.of (r.at 1)<|aC.of (r.at 8)<|aC.of (r.cK hm)<|aC.of (r.cK hm)<|N0 r.shr hb hk λv=>?_;exact q<|r.Vo (An r.W.bn hb) (by rw[dQ];exact xZ bl)
theorem aKp{α:Type}{l:List α}{x:α}(e:l[i]?=aA x):l.set i x=l:=by
 refine LB λj=>?_;rw[LO];split
 .rename_i z;subst z;rw[e,if_pos (List.getElem?_eq_some_iff.mp e).1]
 .rfl
theorem Vn{u:Hq}(r:aJ c g m h)(hs:m.ac[i]?=aA s)(hb:aX m.bg s.tk=aD)(hk:aX m.kp s.tk=aD)(bl:m.bg.length<63)(r2:aJ c g (m.cZ i { s with src:=u,eY:=aA w }) h2)(nx:bD c g h g h2)(q:∀h',aJ c g { m.cZ i { s with src:=u,eY:=aA w }with bg:=m.bg++[(s.tk,p,u)] } h'->bD c g h g h'->R (.bl aB) h') :
  dZ (run pg<|k+3) (bK<|bK<|bK<|bK<|bK pq) [aA (.ref<|c.b+1),aA (.ref<|c.b+11),aA (.ref s.a),aA (.int p),aA fnd] h2 (λ_ h1=>R .aG h1) R (λ_ _=>False) λ_ _=>False:=
 aNs (s:={ s with src:=u,eY:=aA w }) r2 (xO hs) hb hk bl λa=>q _ a (nx.trans<|bD.st r2 (by decide) ⟨_,rfl⟩)
theorem A9{f:cX}(r:aJ c g m h)(hs:m.ac[i]?=aA s)(ha:s'.a=s.a)(ht:s'.tk=s.tk)(hw:s'.ws=s.ws)(hn:s'.bH=s.bH)(hr:s'.row=s.row)(e:gJ f v ((s.lt c.am).fs (s.a+2))=(s'.lt c.am).fs (s.a+2))(q:∀h',aJ c g (m.cZ i s') h'->h'.nx=h.nx->(∀n,n≠s.a->h'.ob n=h.ob n)->dZ F ss Z h' N R B C):dZ F ss Z (h.put s.a<|.ins 18<|gJ f v<|(s.lt c.am).fs (s.a+2)) N R B C:=by rw[e];exact q _ (r.uj hs ha ht hw hn hr) rfl λn hn=>bN hn
theorem qk{f:cX}(r:aJ c g m h)(hs:m.ac[i]?=aA s)(ha:s'.a=s.a)(ht:s'.tk=s.tk)(hw:s'.ws=s.ws)(hn:s'.bH=s.bH)(hr:s'.row=s.row)(e:gJ f v ((s.lt c.am).fs (s.a+2))=(s'.lt c.am).fs (s.a+2))(q:∀h',aJ c g (m.cZ i s') h'->bD c g h g h'->dZ F ss Z h' N R B C):dZ F ss Z (h.put s.a<|.ins 18<|gJ f v<|(s.lt c.am).fs (s.a+2)) N R B C:=by rw[e];exact q _ (r.uj hs ha ht hw hn hr)<|bD.put (r.ia<|bX hs).1
theorem aNt(r:aJ c g m h)(hs:m.ac[i]?=aA s)(hb:aX m.bg s.tk=aD)(hk:aX m.kp s.tk=aD)(bl:m.bg.length<63)(hf:s.fi=aD)(h0:0<=p)(h1:p<m.sd.mem.length)(q:∀h',aJ c g { m.cZ i { s with src:=aX m.gP p,eY:=aA (cell m.sd.mem p) }with bg:=m.bg++[(s.tk,p,aX m.gP p)] } h'->bD c g h g h'->R (.bl aB) h') :
  dZ (run pg<|k+3) (bK<|bK<|bK pq) [aA (.ref<|c.b+1),aA (.ref<|c.b+11),aA (.ref s.a),aA (.int p),aA (.tup [.aG,.aG])] h (λ_ h1=>R .aG h1) R (λ_ _=>False) λ_ _=>False:=by
 have hm:=bX hs;have d:cN (m.sd.mem.map AV.int) p=aA (.int<|cell m.sd.mem p):=ox h0 (by rw[aU];exact h1);refine aC.of (r.at 11)<|aE.t (B:=False) rfl<|aC.of rfl<|aE.t (qO<|r.at 13)<|WC.of<|Ch (r.at 13) rfl ?_;rw[iZ,show((aX m.gP p).map AV.int).getD .aG=oI (aX m.gP p) by cases aX m.gP p<;>rfl];refine aC.of rfl<|aC.of rfl<|aC.of (r.cK hm) ?_;refine qk (s':={ s with src:=aX m.gP p }) r hs rfl rfl rfl rfl rfl rfl λh1 a e=>?_;refine aC.of (a.at 11)<|aC.of d<|aC.of rfl<|aC.of rfl<|aC.of (a.cK<|bX<|xO (m:=m) (s':={ s with src:=aX m.gP p }) hs) ?_;refine qk (s:={ s with src:=aX m.gP p }) (s':={ s with src:=aX m.gP p,eY:=aA (cell m.sd.mem p) }) a (xO hs) rfl rfl rfl rfl rfl (by rw[hf];rfl) λj b f=>?_;rw[Nr]at b;exact Vn r hs hb hk bl b (e.trans f) q
theorem aNu(r:aJ c g m h)(hs:m.ac[i]?=aA s)(hb:aX m.bg s.tk=aD)(hk:aX m.kp s.tk=aD)(bl:m.bg.length<63)(hf:s.fi=aD)(q:∀h',aJ c g { m.cZ i { s with src:=aA u,eY:=aA w }with bg:=m.bg++[(s.tk,p,aA u)] } h'->bD c g h g h'->R (.bl aB) h') :
  dZ (run pg<|k+3) (bK<|bK<|bK pq) [aA (.ref<|c.b+1),aA (.ref<|c.b+11),aA (.ref s.a),aA (.int p),aA (.tup [.int u,.int w])] h (λ_ h1=>R .aG h1) R (λ_ _=>False) λ_ _=>False:=by
 refine aC.of (r.cK<|bX hs) ?_;refine qk (s':={ s with src:=aA u }) r hs rfl rfl rfl rfl rfl rfl λh1 a d=>?_;have e:=a.cK (bX<|xO (m:=m) (s':={ s with src:=aA u }) hs);refine aC.of e ?_;refine qk (s:={ s with src:=aA u }) (s':={ s with src:=aA u,eY:=aA w }) a (xO hs) rfl rfl rfl rfl rfl (by rw[hf];rfl) λj b f=>?_;rw[Nr]at b;exact Vn r hs hb hk bl b (d.trans f) q
theorem aOa(r:aJ c g m h)(hs:m.ac[i]?=aA s)(O:xg c m s)(q0:m.sU c.am s=aD->∀h',Kp h h'->R (.bl aH) h')(q1:∀l h',m.sU c.am s=aA l->aJ c g { m.cZ i (s.xE l)with bg:=Vm m.bg s.tk l } h'->bD c g h g h'->R (.bl aB) h'):WC (run pg (k+4) 34 [.ref (c.b+1),.ref (c.b+11),.ref s.a]) h R:=by
 have hm:=bX hs;have ow:=r.jw hm;rw[O.ws,Pm]at ow;have same:m.cZ i s=m:=by unfold Mo.cZ;rw[aKp hs]
 have qn:m.sU c.am s=aA aD->R (.bl aB) h:=λe=>q1 aD h e (by show aJ c g { m.cZ i s with bg:=m.bg } h;rw[same];exact r) bD.refl;have wl:s.wi.length=s.row.nw:=by rw[<- (r.W.sw s hm).1];exact aU ..
 by_cases cl:aM.kn s.row=("load":cX)
 .obtain⟨x,y,d,er⟩:=ic.mp cl;have hk:=O.kp x y d er;have ep:s.row.pl s.wi = .int (cell s.wi 0+d):=by rw[er];rfl
  have sp:∀{h'}{R:AV->AH->Prop},Kp h h'->R (.int<|cell s.wi 0+d) h'->WC (run pg (k+3) 106 [.ref s.a]) h' R:=λ{h' R} kk qq=>aLn (k:=k+1) (s:=s.lt c.am) (w:=s.a+2) ((r.keep kk).cK hm) (kk.get (r.GR hm) ow) wl (by rw[show(s.lt c.am).row=s.row from rfl,ep];exact qq);unfold Mo.sU at q0 q1 qn;rw[er]at q0 q1 qn;dsimp only at q0 q1 qn;refine aT rfl rfl<|aC.of (r.lK hm)<|aC.of gI<|aE.nt cl<|aC.of (r.cK hm)<|sp Kp.refl<|aC.of (r.at 11)<|AK (k:=k+2) ?_;rw[show((m.sd.mem.length:Nat):Int)=c.am from O.ml.symm];by_cases cm:0<=cell s.wi 0+d/\cell s.wi 0+d<c.am
  .rw[if_pos cm]at q0 q1 qn;refine aE.nt cm<|aC.of (r.cK hm)<|sp Kp.refl<|aC.of (r.at 1)<|aC.of (r.at 8)<|aC.of (r.cK hm)<|aC.of (r.cK hm)<|N8 (t:=s.tk) (dr:=s.dr) (k:=k+2) r.shr λh1 k1=>?_;have r1:=r.keep k1;cases el:uQ (cell s.wi 0+d) s.dr (m.kp.filter λq=>decide (q.1<s.tk)).reverse with
   |none=>rw[el]at q0;exact q0 rfl h1 k1
   |some o=>
    rw[el]at q1;cases o with
    |none=>exact aNt (k:=k) r1 hs O.bg hk O.bl O.fi cm.1 (by have:=O.ml;omega) λh' r' n'=>q1 _ h' rfl r' ((bD.keep k1).trans n')|some uw=>exact aNu (k:=k) r1 hs O.bg hk O.bl O.fi λh' r' n'=>q1 _ h' rfl r' ((bD.keep k1).trans n')
  .rw[if_neg cm]at qn;exact aE.nf cm<|qn rfl
 .refine aT rfl rfl<|aC.of (r.lK hm)<|aC.of gI<|aE.nf cl<|qn ?_;unfold Mo.sU;split
  .exact absurd (ic.mpr ⟨_,_,_,‹s.row=_›⟩) cl
  .rfl
end
section
variable {k:Nat}{g:Gh}
def Mo.start(m:Mo)(c:Cf)(t:Int×Int)(i:Nat)(s:Sl):Mo:=if 0<t.1-nY m.wk s.row.iQ then match m.sU c.am s with
  |none=>m
  |some l=>{ m.cZ i { s.xE l with st:=aA m.nw }with bg:=Vm m.bg s.tk l,wk:=m.wk++[(s.tk,s.row.iQ,m.nw+t.2)] }
 else m
theorem BP{s:Sl}{l:Option (Int×Hq×Int)}:(s.xE l).a=s.a/\(s.xE l).tk=s.tk/\(s.xE l).ws=s.ws/\(s.xE l).bH=s.bH/\(s.xE l).row=s.row/\(s.xE l).fi=s.fi:=by
 cases l with
 |none=>exact⟨rfl,rfl,rfl,rfl,rfl,rfl⟩|some p=>exact⟨rfl,rfl,rfl,rfl,rfl,rfl⟩
theorem aLt{t:Int×Int}{r0:AV}(r:aJ c g m h)(hs:m.ac[i]?=aA s)(hg:cN (c.tb.map eR) s.row.iQ=aA (eR t))(hn:aX m.wk s.tk=aD)(hf:nY m.wk s.row.iQ<t.1)(wl:m.wk.length<63)(q:∀h',aJ c g { m.cZ i { s with st:=aA m.nw }with wk:=m.wk++[(s.tk,s.row.iQ,m.nw+t.2)] } h'->bD c g h g h'->R .aG h') :
  dZ (run pg<|k+4) (.cons (.expr<|.rD "start" [(15,84)] (.lE [19] "benches"<|.var 0)<|.cons (.lE [18] "ticket"<|.var 2)<|.cons (.var 3)<|.cons (.lE [19] "now"<|.var 0) .nil)<|.cons (.gq [18] "started" (.var 2)<|.lE [19] "now"<|.var 0) .nil) [aA (.ref<|c.b+1),aA r0,aA (.ref s.a),aA (.int s.row.iQ)] h (λZ h1=>dZ (run pg<|k+4) .nil Z h1 (λ_ h1=>R .aG h1) R (λ_ _=>False) λ_ _=>False) R (λ_ _=>False) λ_ _=>False:=by
 have hm:=bX hs;refine aC.of (r.at 1)<|aC.of (r.at 6)<|aC.of (r.cK hm)<|aC.of (r.at 1)<|aLx r.xu hg hn hf λv h1 kx e=>?_;have a:=r.xC (m':={ m with wk:=m.wk++[(s.tk,s.row.iQ,m.nw+t.2)] }) 7 kx e ⟨r.W.tk,r.W.t0,r.W.sn,r.W.sw,An r.W.wn hn,by rw[dQ];exact xZ wl,r.W.kn,r.W.kl,r.W.bn,r.W.bl,r.W.fn,r.W.fk,r.W.fo,r.W.ff⟩ rfl rfl (aV _);refine aC.of (a.at 1)<|aC.of (a.cK hm) ?_;exact qk (s':={ s with st:=aA m.nw }) a hs rfl rfl rfl rfl rfl rfl λb d f=>q b d ((bD.kx r (by decide) ⟨_,rfl⟩ kx).trans f)
theorem Q3{t:Int×Int}(r:aJ c g m h)(hs:m.ac[i]?=aA s)(O:xg c m s)(hg:cN (c.tb.map eR) s.row.iQ=aA (eR t))(hn:aX m.wk s.tk=aD)(wl:m.wk.length<63)(q:∀h',aJ c g (m.start c t i s) h'->bD c g h g h'->R .aG h'):WC (run pg (k+5) 33 [.ref (c.b+1),.ref (c.b+11),.ref s.a]) h R:=by
 unfold Mo.start at q;refine aT rfl rfl<|aC.of (r.cK<|bX hs)<|D0<|aC.of (r.at 1)<|aC.of (r.at 6)<|Zb r.xu hg λu k1=>?_;have d:=r.keep k1;by_cases a:0<t.1-nY m.wk s.row.iQ
 .rw[if_pos a]at q;refine aE.dt a (aOa d hs O (λe j k2=>?_) λl j e n o=>?_)
  .rw[e]at q;exact q _ (d.keep k2)<|(bD.keep k1).trans (bD.keep k2)
  .rw[e]at q;obtain⟨l1,l2,v,w,b,x⟩:=@BP s l;have:=aLt (k:=k) (r0:=.ref (c.b+11)) n (xO hs) (b▸hg) (l2▸hn) (by rw[b];show nY m.wk _<_;omega) wl λh' f p=>q h' (by
    simp only[Mo.cZ,Rh,l2,b]at f ⊢;exact f) ((bD.keep k1).trans (o.trans p))
   rw[l1,b]at this;exact this
 .rw[if_neg a]at q;exact aE.df a<|q _ d<|bD.keep k1
end
section
variable {k:Nat}{g:Gh}
def Mo.jmp(m:Mo)(am:Int)(s:Sl):Mo:=match s.row with
 |.fU _ _=>if s.d4 am=aA s.ch then m else({ m with ah:=(s.d4 am).getD 0 }:Mo).cut (s.tk+1)
 |_=>m
theorem z8{v2:AV}(r:aJ c g m h)(hs:s∈m.ac)(hf:s.fi.isSome=aB)(q:∀g' h',aJ c g' (m.jmp c.am s) h'->iM c g h g' h'->R .aG h') :
  dZ (run pg<|k+3) (bK<|bK<|bK Vg) [aA (.ref<|c.b+1),aA (.ref s.a),aA v2] h (λ_ h1=>R .aG h1) R (λ_ _=>False) λ_ _=>False:=by
 have o:=r.Bs hs hf;by_cases d:aM.kn s.row=("jump":cX)
 .obtain⟨x,t,l⟩:=ro.mp d;have p:s.d4 c.am=aA (s.row.gs s.pc s.wi):=by unfold Sl.d4 Sl.ft;rw[l];rfl
  have dt:s.dt c.am=[.int s.pc,oI (s.d1 c.am),oI (s.d2 c.am),oI (s.d3 c.am),.int (s.row.gs s.pc s.wi),(s.ft c.am).getD .aG]:=by unfold Sl.dt;rw[p];rfl
  unfold Mo.jmp at q;rw[l]at q;dsimp only at q;rw[p]at q;rw[dt]at o;refine aC.of o<|aC.of gI<|aE.dt d<|aC.of o<|aC.of o ?_;refine aE.nd (c:=s.row.gs s.pc s.wi=s.ch) (λf=>?_) λf=>?_
  .rw[if_neg λz=>f (dI z)]at q;refine aC.of o<|aC.of (r.at 1) ?_;have j:=r.tW (a:=s.row.gs s.pc s.wi);exact aC.of (j.at 1)<|aC.of (j.cK hs)<|Bw (k:=k+1) j λv g' h' u w fr=>q g' h' u (.trans (.put r (i:=1) (by decide) rfl) ⟨w,λn a b _=>fr n a b⟩)
  .rw[if_pos (congrArg aA f)]at q;exact q g h r .refl
 .have e:m.jmp c.am s=m:=by
   unfold Mo.jmp;split
   .exact absurd (ro.mpr ⟨_,_,‹s.row=_›⟩) d
   .rfl
  rw[e]at q;exact aC.of o<|aC.of gI<|aE.df d<|q g h r .refl
end
section
variable {k:Nat}{g:Gh}
structure nV(c:Cf)(g:Gh)(s:Sl)(h:AH):Prop where
 o:h.ob s.a=aA (.ins 18<|(s.lt c.am).ff (s.a+2) (s.dt c.am))
 w:h.ob (s.a+2)=aA (.lst aB<|s.wi.map .int)
 l:s.a+2<h.nx
 lo:c.b<=s.a
 k1:28<=g.kd s.a
 k2:28<=g.kd (s.a+2)
theorem nV.fr(L:nV c g s h)(f:iM c g h g' h'):nV c g' s h':=
 have l:=L.l;have a:=f.ob s.a (by omega) L.k1 L.lo;have b:=f.ob (s.a+2) l L.k2 (by have:=L.lo;omega)
 ⟨a.1.trans L.o,b.1.trans L.w,bA l f.nx,L.lo,a.2▸L.k1,b.2▸L.k2⟩
theorem BQ{b:Bool}(w:Fm L n a b h R):∃c fs i,h.ob n=aA (.ins c fs)/\yn.lookup c=aA i/\(fs.lookup ("learn":cX)).isNone=aB/\WC (run pg L i [.ref n,.int a,.bl b]) h R:=by obtain⟨n',c,fs,e,o,w⟩:=gW.ex w;cases e;obtain⟨i,l,w⟩:=aC.ex w;obtain⟨hn,w⟩:=aE.an w;exact⟨c,fs,i,o,l,hn,w⟩
theorem aPm(r:aJ c g m h)(L:nV c g s h)(hg:∀u,s.src=aA u->(aX m.dR u).isSome)(q:∀b,R (.bl b) h):WC (run pg (k+1) 28 [.ref (c.b+11),.ref s.a]) h R:=by
 cases a:s.src with
 |none=>
  have o:h.ob s.a=aA (.ins 18<|{ s.lt c.am with src:=aD }.ff (s.a+2) (s.dt c.am)):=by rw[L.o];unfold Sl.lt;rw[a]
  exact aT rfl rfl<|aC.of o<|q _
 |some u=>
  have o:h.ob s.a=aA (.ins 18<|{ s.lt c.am with src:=aA u }.ff (s.a+2) (s.dt c.am)):=by rw[L.o];unfold Sl.lt;rw[a]
  obtain⟨v,d⟩:=Option.isSome_iff_exists.mp (hg u a);exact aT rfl rfl<|aC.of o<|aC.of (r.at 11)<|aC.of o<|WC.of<|jx (r.at 14) rfl (by rw[iZ,d];rfl)<|aC.of o<|q _
theorem BW{K:Nat->Yg}(r:aJ c g m h)(G:lT c n K h)(hn:n+2<=2*m.cD.length+10)(kk:Kk K 5 h h')(T:TH K (n+2) h'):aJ c g m h'/\iM c g h g h':=
 have e:∀i,i<h.nx->c.b<=i->h'.ob i=h.ob i:=λi a hb=>kk.ob i a λt z=>absurd (G.lt i t z) (Nat.not_lt.mpr hb)
 ⟨⟨r.X.low kk.nx e,⟨K,⟨T.le hn,G.g,G.n,G.lt,λp b=>have y:=G.lo p b;⟨y.1,y.2.1,(kk.ob _ (bA y.2.1 r.bx) λt z=>by rw[y.1]at z;cases z).trans y.2.2⟩⟩⟩,r.W⟩,⟨kk.nx,λi a _ hb=>⟨e i a hb,rfl⟩⟩⟩
theorem aOe{K:Nat->Yg}(r:aJ c g m h)(L:nV c g s h)(G:lT c n K h)(hn:n+2<=2*m.cD.length+10)(hn2:n+2<=2000)(hw:s.wi.length=s.row.nw)(hg:∀u,s.src=aA u->(aX m.dR u).isSome)(q:∀h',aJ c g m h'->iM c g h g h'->R .aG h'):WC (run pg (k+6) 27 [.ref (c.b+11),.ref s.a]) h R:=by
 by_cases cj:aM.kn s.row=("jump":cX)
 .obtain⟨x,t,er⟩:=ro.mp cj;have cl:¬aM.kn s.row=("load":cX):=by rw[er];show¬("jump":cX)="load";decide +kernel
  obtain⟨w0,ew⟩:=si (by rw[hw,er];rfl:s.wi.length=1);have ow:=L.w;rw[ew]at ow;obtain⟨cc,fs,i,o1,l,hm,w⟩:=BQ (ru (Ja 1) (L:=k+5) (a:=s.pc) (b:=!decide (w0=0)) (R:=λv h'=>aJ c g m h'/\iM c g h g h') G.T (G.kl r.bx) G.g hn2 (by omega) λh' kk T=>BW r G hn kk T);refine aT rfl rfl<|aC.of L.o<|aC.of gI<|aE.dt cj<|aC.of (r.at 11)<|aC.of o1<|aC.of l<|aE.t hm<|aC.of L.o<|aC.of L.o<|WC.of<|gQ (cO ow) rfl<|WC.of<|w.we.mono λv h1 z=>?_;exact aC.of (L.fr z.2).o (aC.of gI<|aE.df cl<|q h1 z.1 z.2)
 .refine aT rfl rfl<|aC.of L.o<|aC.of gI<|aE.df cj ?_;by_cases cl:aM.kn s.row=("load":cX)
  .have lw:=λb=>BQ (ru (Ja 1) (L:=k+5) (a:=s.pc) (b:=b) (R:=λv h'=>aJ c g m h'/\iM c g h g h') G.T (G.kl r.bx) G.n hn2 (by omega) λh' kk T=>BW r G hn kk T);obtain⟨cc,fs,i,o1,l,hm,_⟩:=lw aB;refine aC.of L.o<|aC.of gI<|aE.dt cl<|aC.of (r.at 11)<|aC.of o1<|aC.of l<|aE.t hm<|aC.of L.o<|aPm (k:=k+4) r L hg λb=>?_;obtain⟨cc',fs',i',o1',l',hm',w⟩:=lw (!b);rw[o1]at o1';cases o1';rw[l]at l';cases l';exact WC.of<|w.we.mono λv h1 z=>q h1 z.1 z.2
  .exact aC.of L.o<|aC.of gI<|aE.df cl<|q h r .refl
end
section
variable {k:Nat}{g:Gh}
def Mo.note(m:Mo)(am:Int)(s:Sl):Mo:=match s.row with
 |.store _ _ _=>{ m with gP:=eP m.gP ((s.d2 am).getD 0) s.tk,dR:=eP m.dR s.tk (s.of.getD 0),kp:=mZ m.kp s.tk }
 |.load _ _ _=>{ m with bg:=mZ m.bg s.tk }
 |_=>m
structure Fo(c:Cf)(m:Mo)(s:Sl):Prop where
 st:∀x y d,s.row = .store x y d->(∃p,s.d2 c.am=aA p)/\(∃e,aX m.kp s.tk=aA e)/\m.gP.length<1000/\m.dR.length<1000
 ld:∀x y d,s.row = .load x y d->aX m.kp s.tk=aD/\∃e,aX m.bg s.tk=aA e
theorem aJ.HH(r:aJ c g m h):aJ c g { m with gP:=sto' } (h.put (c.b+13)<|.aN<|dE AV.int sto'):=
 r.sZ 13 ⟨r.W.tk,r.W.t0,r.W.sn,r.W.sw,r.W.wn,r.W.wl,r.W.kn,r.W.kl,r.W.bn,r.W.bl,r.W.fn,r.W.fk,r.W.fo,r.W.ff⟩ rfl rfl (aV _)
theorem aJ.C9(r:aJ c g m h):aJ c g { m with dR:=gon' } (h.put (c.b+14)<|.aN<|dE AV.int gon'):=
 r.sZ 14 ⟨r.W.tk,r.W.t0,r.W.sn,r.W.sw,r.W.wn,r.W.wl,r.W.kn,r.W.kl,r.W.bn,r.W.bl,r.W.fn,r.W.fk,r.W.fo,r.W.ff⟩ rfl rfl (aV _)
theorem aDs{β:Type}{l:Dc β}{f:Int×β->Bool}(nd:(l.map (·.1)).Pairwise (·<·)):((l.filter f).map (·.1)).Pairwise (·<·):=xW (List.filter_sublist.map _) nd
theorem U2(r:aJ c g m h)(L:nV c g s h)(N:Fo c m s)(ho:∃o,s.of=aA o)(q:∀h',aJ c g (m.note c.am s) h'->iM c g h g h'->(∀n,n<c.b->h'.ob n=h.ob n)->R .aG h'):WC (run pg (k+2) 26 [.ref (c.b+1),.ref (c.b+11),.ref s.a]) h R:=by
 have big:=kG;have lo:∀{h:AH}{i:Nat}{o:bB}{n:Nat},n<c.b->(h.put (c.b+i) o).ob n=h.ob n:=λhn=>bN (by omega);by_cases cs:aM.kn s.row=("store":cX)
 .obtain⟨x,y,d,er⟩:=ie.mp cs;obtain⟨⟨p,ep⟩,⟨e,ek⟩,l1,l2⟩:=N.st x y d er;obtain⟨off,eo⟩:=ho;have o:∀{h},nV c g s h->h.ob s.a=aA (.ins 18<|{ s.lt c.am with of:=aA off }.ff (s.a+2) [.int s.pc,oI (s.d1 c.am),.int p,oI (s.d3 c.am),oI (s.d4 c.am),(s.ft c.am).getD .aG]):=λL=>by rw[L.o];unfold Sl.lt Sl.dt;rw[eo,ep];rfl
  unfold Mo.note at q;rw[er]at q;dsimp only at q;rw[ep,eo]at q;refine aT rfl rfl<|aC.of (o L)<|aC.of gI<|aE.dt cs<|aC.of (o L)<|aC.of (r.at 11)<|aC.of (o L)<|rO (k:=.inl p) (r.at 13) rfl (by rw[mY];omega) ?_;rw[xJ];have r1:=r.HH (sto':=eP m.gP p s.tk);have f1:iM c g h g _:=.put (o':=.aN (dE AV.int<|eP m.gP p s.tk)) r (i:=13) (by decide) rfl;have L1:=L.fr f1;refine aC.of (o L1)<|aC.of (r1.at 11)<|aC.of (o L1)<|rO (k:=.inl s.tk) (v:=.int off) (kvs:=dE AV.int m.dR) (r1.at 14) rfl (by rw[mY];show m.dR.length<_;omega) ?_;rw[xJ];have r2:=r1.C9 (gon':=eP m.dR s.tk off);have f2:=f1.trans (.put (o':=.aN (dE AV.int<|eP m.dR s.tk off)) r1 (i:=14) (by decide) rfl);have L2:=L.fr f2;refine aC.of (o L2)<|aC.of gI<|aE.dt cs<|aC.of (r2.at 1)<|aC.of (r2.at 8)<|aC.of (o L2)<|M3 (k:=k) (t:=s.tk) r2.shr ek λv=>?_;exact q _ (r2.BI (aDs r2.W.kn)<|zI r2.W.kl) (f2.trans<|.put r2 (i:=9) (by decide) rfl) λn hn=>by rw[lo hn,lo hn,lo hn]
 .refine aT rfl rfl<|aC.of L.o<|aC.of gI<|aE.df cs<|aC.of L.o<|aC.of gI<|aE.df cs<|aC.of L.o<|aC.of gI ?_;by_cases cl:aM.kn s.row=("load":cX)
  .obtain⟨x,y,d,er⟩:=ic.mp cl;obtain⟨ek,e,eb⟩:=N.ld x y d er;unfold Mo.note at q;rw[er]at q;refine aE.dt cl<|aC.of (r.at 1)<|aC.of (r.at 8)<|aC.of L.o<|M1 (k:=k) (t:=s.tk) r.shr ek eb λv=>?_;exact q _ (r.Vo (oA r.W.bn)<|zI r.W.bl) (.put r (i:=10) (by decide) rfl) λn hn=>lo hn
  .have e:m.note c.am s=m:=by
    unfold Mo.note;split
    .exact absurd (ie.mpr ⟨_,_,_,‹s.row=_›⟩) cs
    .exact absurd (ic.mpr ⟨_,_,_,‹s.row=_›⟩) cl
    .rfl
   rw[e]at q;exact aE.df cl<|q h r .refl λ_ _=>rfl
end
section
variable {k:Nat}{g:Gh}
structure xi(c:Cf)(m:Mo)(s:Sl):Prop where
 fi:s.fi.isSome=aB
 ws:s.ws=s.wi.map aA
 nw:s.wi.length=s.row.nw
 b1:∀x,s.d1 c.am=aA x->(0<=x/\x<8)/\∃w,s.d3 c.am=aA w
 b2:∀p,s.d1 c.am=aD->s.d2 c.am=aA p->(0<=p/\p<m.sd.mem.length)/\∃w,s.d3 c.am=aA w
 bl:m.sd.bx.length=8
 ml:m.sd.mem.length<=80
 nt:s.ft c.am=aD->Fo c m s
 gn:s.ft c.am=aD->∀u,s.src=aA u->∃v,aX (m.note c.am s).dR u=aA v
 sl:m.cD.length<900
def Mo.By(m:Mo)(am:Int)(s:Sl)(rest:Yr):Mo:={ m with ac:=rest,cD:=m.cD++[(s.lt am).iF],sd:=match s.ft am with|some _=>m.sd|none=>m.sd.fv (s.d1 am) (s.d2 am) (s.d3 am) (s.d4 am) }
def Mo.take(m:Mo)(am:Int)(s:Sl)(rest:Yr):Mo:=match s.ft am with
 |some _=>({ m.By am s rest with brk:=aB }:Mo).cut s.tk
 |none=>(m.By am s rest).note am s
theorem nV.os(L:nV c g s h)(hf:s.fi.isSome=aB):h.ob s.a=aA (.ins 18<|(s.lt c.am).fs (s.a+2)):=by rw[L.o,Zd];unfold iB.fk iB.ff;rw[show(s.lt c.am).dd=s.dd c.am from rfl,yg hf]
theorem aJ.snU{x:AV}(r:aJ c g m h):aJ c g { m with cD:=m.cD++[x] } (h.put (c.b+12)<|.lst aB<|m.cD++[x]):=
 r.sZ 12 ⟨r.W.tk,r.W.t0,r.W.sn,r.W.sw,r.W.wn,r.W.wl,r.W.kn,r.W.kl,r.W.bn,r.W.bl,r.W.fn,r.W.fk,r.W.fo,r.W.ff⟩ rfl rfl (by simp)
theorem aJ.Jv{b':Bool}(r:aJ c g m h):aJ c g { m with sd:=sd',brk:=b' } (h.put (c.b+11)<|.ins 20<|{ m with sd:=sd',brk:=b' }.lf c):=
 r.sZ 11 ⟨r.W.tk,r.W.t0,r.W.sn,r.W.sw,r.W.wn,r.W.wl,r.W.kn,r.W.kl,r.W.bn,r.W.bl,r.W.fn,r.W.fk,r.W.fo,r.W.ff⟩ rfl rfl (aV _)
theorem aNr{K:Nat->Yg}(r:aJ c g m h)(L:nV c g s h)(G:lT c n K h)(hn:n+2<=2*m.cD.length+10)(hn2:n+2<=2000)(nw:s.wi.length=s.row.nw)(nt:s.ft c.am=aD->Fo c m s)(ho:∃o,s.of=aA o)(gn:s.ft c.am=aD->∀u,s.src=aA u->∃v,aX (m.note c.am s).dR u=aA v)
  (q:∀g' h',aJ c g' (match s.ft c.am with|some _=>({ m with brk:=aB }:Mo).cut s.tk|none=>m.note c.am s) h'->iM c g h g' h'->R .aG h') :
  dZ (run pg<|k+6) (bK<|bK<|bK<|bK ph) [aA (.ref<|c.b+1),aA (.ref<|c.b+11),aA (.ref s.a)] h (λ_ h1=>R .aG h1) R (λ_ _=>False) λ_ _=>False:=by
 cases d:s.ft c.am with
 |some f=>
  rw[d]at q;obtain⟨xs,rfl⟩:∃xs,f = .tup xs:=Ig d;have o:h.ob s.a=aA (.ins 18<|(s.lt c.am).ff (s.a+2) [.int s.pc,oI (s.d1 c.am),oI (s.d2 c.am),oI (s.d3 c.am),oI (s.d4 c.am),.tup xs]):=by rw[L.o];unfold Sl.dt;rw[d];rfl
  refine aC.of o<|aC.of (r.at 11) ?_;have e:=r.Jv (sd':=m.sd) (b':=aB);have f1:iM c g h g (h.put (c.b+11)<|.ins 20<|{ m with sd:=m.sd,brk:=aB }.lf c):=.put r (by decide) rfl;refine aC.of (e.at 1)<|aC.of (L.fr f1).o (Bw e λv g' h' i j fr=>?_);exact q g' h' i<|f1.trans ⟨j,λn a b _=>fr n a b⟩
 |none=>
  rw[d]at q;have o:h.ob s.a=aA (.ins 18<|(s.lt c.am).ff (s.a+2) [.int s.pc,oI (s.d1 c.am),oI (s.d2 c.am),oI (s.d3 c.am),oI (s.d4 c.am),.aG]):=by rw[L.o];unfold Sl.dt;rw[d];rfl
  refine aC.of o<|U2 r L (nt d) ho λh1 e f1 lo=>?_;have ns:(m.note c.am s).cD=m.cD:=by unfold Mo.note;split<;>rfl
  exact aOe e (L.fr f1) (G.low (aV _) lo) (ns▸hn) hn2 nw (λu l=>by obtain⟨v,p⟩:=gn d u l;rw[p];rfl) λt i f2=>q g t i (f1.trans f2)
theorem aNv{K:Nat->Yg}(r:aJ c g m h)(L:nV c g s h)(G:lT c (2*m.cD.length+10) K h)(T:xi c m s)(ho:∃o,s.of=aA o)(q:∀g' h',aJ c g' (m.take c.am s m.ac) h'->iM c g h g' h'->R .aG h') :
  dZ (run pg<|k+6) (bK<|bK ph) [aA (.ref<|c.b+1),aA (.ref<|c.b+11),aA (.ref s.a)] h (λ_ h1=>R .aG h1) R (λ_ _=>False) λ_ _=>False:=by
 have sl:=T.sl;have big:=kG;refine aC.of (r.at 11) ?_;refine aE.t rfl<|aC.of rfl<|aE.t (uO<|r.at 12)<|aC.of (L.os T.fi)<|Nv (L.os T.fi)<|WC.of<|bu (r.at 12) (by lia) ?_;have a:=r.snU (x:=(s.lt c.am).iF);have f1:iM c g h g (h.put (c.b+12)<|.lst aB<|m.cD++[(s.lt c.am).iF]):=.put r (by decide) rfl;have d:lT c (2*m.cD.length+10) K (h.put (c.b+12)<|.lst aB<|m.cD++[(s.lt c.am).iF]):=G.low (aV _) λn hn=>bN (by lia);revert a f1 d
 generalize h.put (c.b+12) (.lst aB<|m.cD++[(s.lt c.am).iF])=h1;intro a f1 d;have p:=L.fr f1;have fin:∀sd',(m.take c.am s m.ac)=(match s.ft c.am with|some _=>({ m with cD:=m.cD++[(s.lt c.am).iF],sd:=sd',brk:=aB }:Mo).cut s.tk|none=>({ m with cD:=m.cD++[(s.lt c.am).iF],sd:=sd' }:Mo).note c.am s) ->
   dZ (run pg<|k+6) (bK<|bK<|bK<|bK ph) [aA (.ref<|c.b+1),aA (.ref<|c.b+11),aA (.ref s.a)] (h1.put (c.b+11)<|.ins 20<|{ m with cD:=m.cD++[(s.lt c.am).iF],sd:=sd' }.lf c) (λ_ h1=>R .aG h1) R (λ_ _=>False) λ_ _=>False:=λsd' em=>by
  have f2:=f1.trans (.put (o':=.ins 20 ({ m with cD:=m.cD++[(s.lt c.am).iF],sd:=sd' }.lf c)) a (i:=11) (by decide) rfl);have t:lT c (2*m.cD.length+10) K (h1.put (c.b+11)<|.ins 20<|{ m with cD:=m.cD++[(s.lt c.am).iF],sd:=sd' }.lf c):=d.low (aV _) λn hn=>bN (by lia);refine aNr (k:=k) (a.Jv (sd':=sd') (b':=m.brk)) (L.fr f2) t (by show _<=2*(m.cD++[_]).length+10;rw[dQ];show _<=2*(m.cD.length+1)+10;lia) (by lia) T.nw (λe=>⟨(T.nt e).st,(T.nt e).ld⟩) ho (λe u w=>?_) λg' h' y z=>q g' h' (em▸y) (f2.trans z);obtain⟨v,A⟩:=T.gn e u w;refine⟨v,?_⟩;rw[<- A];unfold Mo.note;split<;>rfl
 unfold Mo.take Mo.By at fin;refine aC.of (a.at 11)<|aC.of p.o ?_;cases b:s.ft c.am with
 |some f=>
  rw[b]at fin;obtain⟨xs,rfl⟩:∃xs,f = .tup xs:=Ig b;have j:s.dt c.am=[.int s.pc,.aG,.aG,.aG,.aG,.tup xs]:=by unfold Sl.dt Sl.d1 Sl.d2 Sl.d3 Sl.d4;rw[b];rfl
  rw[j];refine VF ?_;exact aC.of rfl<|aC.of rfl<|aC.of (a.at 11)<|fin m.sd rfl
 |none=>
  rw[b]at fin;have l:s.d4 c.am=aA (s.row.gs s.pc s.wi):=by unfold Sl.d4;rw[b];rfl
  have j:s.dt c.am=[.int s.pc,oI (s.d1 c.am),oI (s.d2 c.am),oI (s.d3 c.am),.int (s.row.gs s.pc s.wi),.aG]:=by unfold Sl.dt;rw[b,l];rfl
  rw[j];refine VG T.bl T.ml T.b1 T.b2 ?_;exact aC.of rfl<|aC.of rfl<|aC.of (a.at 11)<|fin (m.sd.fv (s.d1 c.am) (s.d2 c.am) (s.d3 c.am)<|aA<|s.row.gs s.pc s.wi) (by rw[l])
theorem aNz{rest:Yr}(r:aJ c g m h)(hs:m.ac=s::rest)(T:xi c m { s with of:=aA m.nw })(q:∀g' h',aJ c g' (m.take c.am { s with of:=aA m.nw } rest) h'->nV c g' { s with of:=aA m.nw } h'->h.nx<=h'.nx->(∀n,n<h.nx->28<=g.kd n->c.b<=n->n≠s.a->h'.ob n=h.ob n/\g'.kd n=g.kd n)->R .aG h'):WC (run pg (k+7) 25 [.ref (c.b+1),.ref (c.b+11),.ref s.a]) h R:=by
 have h0:m.ac[0]?=aA s:=by rw[hs];rfl
 refine aT rfl rfl<|aC.of (r.at 1)<|aC.of (r.cK<|bX h0) ?_;obtain⟨s1,f⟩:∃s1:Sl,s1={ s with of:=aA m.nw }:=⟨_,rfl⟩;rw[<- f]at T q;have A:s1.a=s.a:=by rw[f]
 refine A9 r h0 A (by rw[f]) (by rw[f]) (by rw[f]) (by rw[f]) (by rw[f];rfl) λd a H l=>?_;have j:(m.cZ 0 s1).ac=s1::rest:=by unfold Mo.cZ;rw[hs];rfl
 have b:=j▸fP;have I:=pR (a.W.t0 s1 b);have B:nV c g s1 d:=⟨a.Bs b T.fi,by have:=a.jw b;rw[T.ws,Pm]at this;exact this,a.GR b,a.Kd b,by rw[(a.X.dy _ _ _ (by lia)<|zG a.W b).1];lia,by rw[(a.X.dy _ _ _ (by lia)<|zH a.W b).1];lia⟩;obtain⟨K,C⟩:=a.G;have k2:∀{o:bB},Kp d (d.new o):=Kp.refl.new;refine kb<|aC.of (a.at 1)<|WC.of<|Ck (lo:=aA ((1:Nat):Int)) (hi:=aD) a.kH.1 ?_;rw[Wy,show((m.cZ 0 s1).ac.map λs:Sl=>AV.ref s.a).drop 1=rest.map λs=>.ref s.a by rw[j];rfl];have p:=a.Br (th:=m.jW) (k2) (aV _) (cF _) bP (by rw[j];exact List.sublist_cons_self ..);refine aC.of rfl<|aC.of rfl<|aC.of (k2.get (a.lt 1)<|a.at 1) ?_;have f2:iM c g d { g with sl:=d.nx,kd:=λi=>if i=d.nx then 15 else g.kd i } ((d.new<|.lst aB<|rest.map λs=>AV.ref s.a).put (c.b+1) (.ins 19<|{ m.cZ 0 s1 with ac:=rest,jW:=m.jW }.wf c d.nx)):=⟨hA _,λn hn t _=>⟨by rw[bN λw=>by rw[w,(a.X.st 1 _ rfl).1]at t;omega,dY (bQ hn)],if_neg (bQ hn)⟩⟩;have x:lT c (2*m.cD.length+10) K ((d.new<|.lst aB<|rest.map λs=>AV.ref s.a).put (c.b+1) (.ins 19<|{ m.cZ 0 s1 with ac:=rest,jW:=m.jW }.wf c d.nx)):=C.low (aV _) λn hn=>by have:=a.bx;rw[bN (by omega),dY (by omega)]
 revert p f2 x
 change _->_->_->dZ (run pg<|k+6) (bK<|bK ph) [aA (.ref<|c.b+1),aA (.ref<|c.b+11),aA (.ref s.a)] ((d.new<|.lst aB<|rest.map λs=>AV.ref s.a).put (c.b+1) (.ins 19<|{ m.cZ 0 s1 with ac:=rest,jW:=m.jW }.wf c d.nx)) (λ_ d=>R .aG d) R (λ_ _=>False) λ_ _=>False;intro p f2 x;rw[<- A];exact aNv p (B.fr f2) x ⟨T.fi,T.ws,T.nw,T.b1,T.b2,T.bl,T.ml,λe=>⟨(T.nt e).st,(T.nt e).ld⟩,λe u D=>by
  obtain⟨v,E⟩:=T.gn e u D;refine⟨v,?_⟩;rw[<- E];unfold Mo.note;split<;>rfl,T.sl⟩ ⟨m.nw,by rw[f]⟩ λg' h' F y=>q g' h' F (B.fr<|f2.trans y) (by have:=(f2.trans y).nx;omega) λn hn t hb G=>by
  have z:=(f2.trans y).ob n (by omega) t hb;exact⟨z.1.trans (l n G),z.2⟩
end
section
variable {k:Nat}{g:Gh}
theorem uk{V:AV->AH->Prop}(r:aJ c g m h)(z:V (.int m.ac.length) h):WC (Bi.g .len [.ref g.sl]) h V:=WC.of (kK (cO r.kH.1) (by rw[aU];exact z))
theorem aJ.fresh(r:aJ c g m h)(k1:Kp h h')(hn:h.nx<=n):aJ c { g with kd:=λi=>if i=n then 28 else g.kd i } m h':=by
 have a:=r.keep k1;refine⟨⟨λi o e=>?_,λk j o b e=>?_⟩,a.G,⟨r.W.tk,r.W.t0,r.W.sn,r.W.sw,r.W.wn,r.W.wl,r.W.kn,r.W.kl,r.W.bn,r.W.bl,r.W.fn,r.W.fk,r.W.fo,r.W.ff⟩⟩
 .have z:=r.X.st i o e;have d:=a.X.st i o e;exact⟨(if_neg (by lia)).trans z.1,d.2⟩
 .have z:=r.X.dy k j o b e;exact⟨(if_neg (by lia)).trans z.1,(a.X.dy k j o b e).2⟩
theorem aJ.Js(r:aJ c g m h)(hb:c.b<=n)(hk:g.kd n=28)(kx:Kx [n] h h'):aJ c g m h':=by
 refine⟨⟨λi o e=>?_,λk j o a e=>?_⟩,r.G.imp λ_ z=>z.low (aV _) (kx.lowG r.bx λn hn=>by rw[List.mem_singleton.mp hn];exact hb),r.W⟩
 .have z:=r.X.st i o e;have d:i<15:=(List.getElem?_eq_some_iff.mp e).1;exact⟨z.1,bA z.2.1 kx.nx,kx.get z.2.1 (λw=>by rw[List.mem_singleton.mp w,hk]at z;lia) z.2.2⟩
 .have z:=r.X.dy k j o a e;refine⟨z.1,z.2.1,bA z.2.2.1 kx.nx,kx.get z.2.2.1 (λw=>?_) z.2.2.2⟩;rw[List.mem_singleton.mp w,hk]at z;rw[<- z.1]at e;obtain⟨f,b,_⟩:=Option.map_eq_some_iff.mp e;have:=r.W.fk _ _ b;lia
end
section
variable {k:Nat}{g:Gh}
theorem aJ.wkU{wk':Dc (Int×Int)}(r:aJ c g m h)(kx:Kx [c.b+7] h h')(e:h'.ob (c.b+7)=aA (.aN<|dE eR wk'))(wn:(wk'.map (·.1)).Nodup)(wl:wk'.length<64):aJ c g { m with wk:=wk' } h':=
 r.xC 7 kx e ⟨r.W.tk,r.W.t0,r.W.sn,r.W.sw,wn,wl,r.W.kn,r.W.kl,r.W.bn,r.W.bl,r.W.fn,r.W.fk,r.W.fo,r.W.ff⟩ rfl rfl (aV _)
end
section
variable {k:Nat}{g:Gh}
theorem aJ.Xm(r:aJ c g m h)(q:R (.bl<|decide<|(c.rs.length:Int)<=m.ah) h):WC (run pg (k+1) 109 [.ref (c.b+1)]) h R:=PH (r.at 1) rfl rfl (r.at 2) (by rw[aU];exact q)
def Mo.eD(m:Mo)(c:Cf):AV:=if m.brk=aB then .str "fault" else if m.ac=[]/\(c.rs.length:Int)<=m.ah then .str "end" else .aG
theorem zr(r:aJ c g m h)(q:R (m.eD c) h):WC (run pg (k+2) 123 [.ref c.b]) h R:=by
 have o0:=r.at 0;unfold Mo.eD at q;refine aT rfl rfl<|aC.of o0<|aC.of (r.at 11)<|aE.by (b:=m.brk) (λa=>?_) λa=>?_
 .rw[if_pos a]at q;exact q
 .rw[if_neg (a▸fZ)]at q;refine aC.of o0 (aC.of (r.at 1)<|uk r<|aE.dc (λf=>?_) λf=>?_)
  .have e:m.ac=[]:=List.length_eq_zero_iff.mp (by lia);refine aC.of o0 (aC.of (r.at 1)<|r.Xm<|aE.dc (λd=>?_) λd=>?_)
   .rw[if_pos ⟨e,d⟩]at q;exact q
   .rw[if_neg λz=>d z.2]at q;exact q
  .rw[if_neg λz=>f (by rw[z.1];rfl)]at q;exact q
theorem GD(r:aJ c g m h)(hh:m.eD c = .aG)(q:R .aG h):WC (run pg (k+3) 124 [.ref c.b]) h R:=by have o0:=r.at 0;refine aT rfl rfl<|aC.of o0<|zr r ?_;rw[hh];exact q
theorem aJ.Lh(r:aJ c g m h):aJ c g { m with nw:=m.nw+1 } (h.put (c.b+1)<|.ins 19<|{ m with nw:=m.nw+1 }.wf c g.sl):=
 r.sZ 1 ⟨r.W.tk,r.W.t0,r.W.sn,r.W.sw,r.W.wn,r.W.wl,r.W.kn,r.W.kl,r.W.bn,r.W.bl,r.W.fn,r.W.fk,r.W.fo,r.W.ff⟩ rfl rfl (aV _)
theorem aOr(r:aJ c g m h)(hh:m.eD c = .aG)
  (q:∀h1,aJ c g { m with nw:=m.nw+1 } h1->bD c g h g h1->WC (run pg (k+9) 24 [.ref (c.b+1),.ref (c.b+11)]) h1 λv h2=>∃g2 m2,aJ c g2 m2 h2/\(m2.eD c ≠ .aG->R v h2)/\(m2.eD c = .aG->WC (run pg (k+9) 29 [.ref (c.b+1),.ref (c.b+11)]) h2 λ_ h3=>(∃g3 m3,aJ c g3 m3 h3)/\WC (run pg (k+9) 32 [.ref (c.b+1),.ref (c.b+11)]) h3 λ_ h4=>(∃g4 m4,aJ c g4 m4 h4)/\WC (run pg (k+9) 15 [.ref (c.b+1),.ref (c.b+11)]) h4 λ_ h5=>R v h5)):WC (run pg (k+10) 118 [.ref c.b]) h R:=by
 have o0:∀{h m g},aJ c g m h->h.ob c.b=aA (.ins 21 [("window",.ref (c.b+1)),("ledger",.ref (c.b+11))]):=λr=>r.at 0;refine aT rfl rfl<|aC.of (o0 r)<|GD r hh<|aC.of (o0 r)<|aC.of (r.at 1)<|aC.of (r.at 1) ?_;have e:=r.Lh;refine aC.of (o0 e)<|WC.of<|(q _ e<|bD.st r (by decide) ⟨_,rfl⟩).we.mono λv h2 z=>?_;obtain⟨g2,m2,d,f,i⟩:=z;refine aC.of (o0 d)<|zr d ?_;by_cases cn:m2.eD c = .aG
 .rw[cn];refine aC.of (o0 d)<|WC.of<|(i cn).we.mono λp h3 z=>?_;obtain⟨⟨g3,m3,j⟩,w3⟩:=z;refine aC.of (o0 j)<|WC.of<|w3.we.mono λv4 h4 z=>?_;obtain⟨⟨g4,m4,l⟩,n⟩:=z;exact aC.of (o0 l)<|WC.of<|n.we.mono λs h5 z=>z
 .have o:=f cn;have:nC (m2.eD c)=aH:=by
   unfold Mo.eD at cn ⊢;split
   .rfl
   .split
    .rfl
    .rename_i a b;rw[if_neg a,if_neg b]at cn;exact absurd rfl cn
  exact aE.f this o
end
section
variable {k:Nat}
theorem R8(q:∀h',h'.nx=h.nx+2->Kp h h'->h'.ob h.nx=aA (.ins 16 [("filled",.ref (h.nx+1))])->h'.ob (h.nx+1)=aA (.aN [])->R .aG h'):WC (run pg (k+1) 88 [.ref h.nx]) (h.new<|.ins 16 []) R:=by have k1:∀{a b:bB},Kp h ((h.new a).new b):=Kp.refl.new.new;exact aT rfl rfl<|aC.of ((dY<|bQ<|cF _).trans bP)<|q _ rfl (k1.put<|aV _) bS<|(bN<|kL<|cF _).trans bP
theorem VH(q:∀h',h'.nx=h.nx+2->Kp h h'->h'.ob h.nx=aA (.ins 15<|fw tb<|h.nx+1)->h'.ob (h.nx+1)=aA (.aN [])->R .aG h'):WC (run pg (k+1) 82 [.ref h.nx,.tup (tb.map eR)]) (h.new<|.ins 15 []) R:=by exact aT rfl rfl<|aC.of bP<|aC.of ((dY<|bQ<|cF _).trans bS)<|q _ rfl (((Kp.refl.new.put<|aV _).new).put (aV _)) bS<|(bN<|kL<|cF _).trans bP
theorem aKq(q:∀h',h'.nx=h.nx+3->Kp h h'->h'.ob h.nx=aA (.ins 17 [("kept",.ref (h.nx+1)),("begun",.ref (h.nx+2))])->h'.ob (h.nx+1)=aA (.aN [])->h'.ob (h.nx+2)=aA (.aN [])->R .aG h'):WC (run pg (k+1) 93 [.ref h.nx]) (h.new<|.ins 17 []) R:=by
 have a:h.nx≠h.nx+1:=by lia
 have b:h.nx≠h.nx+2:=by lia
 have c:h.nx+1≠h.nx+2:=by lia
 exact aT rfl rfl<|aC.of ((dY a).trans bP)<|aC.of ((dY b).trans bS)<|q _ rfl (((((Kp.refl.new).new).put (aV _)).new).put (aV _)) bS ((bN a.symm).trans ((dY c).trans ((bN a.symm).trans bP)))<|(bN b.symm).trans bP
theorem M4{sd:Sd}(q:∀h',h'.nx=h.nx+4->Kp h h'->h'.ob h.nx=aA (.ins 20 [("state",sd.av),("guesser",.ref gu),("nerve",.ref nv),("slips",.ref (h.nx+1)),("storers",.ref (h.nx+2)),("gone",.ref (h.nx+3)),("broken",.bl aH)])->h'.ob (h.nx+1)=aA (.lst aB [])->h'.ob (h.nx+2)=aA (.aN [])->h'.ob (h.nx+3)=aA (.aN [])->R .aG h'):WC (run pg (k+1) 115 [.ref h.nx,sd.av,.ref gu,.ref nv]) (h.new<|.ins 20 []) R:=by
 have n1:h.nx≠h.nx+1:=by omega
 have n2:h.nx≠h.nx+2:=by omega
 have n3:h.nx≠h.nx+3:=by omega
 have n4:h.nx+1≠h.nx+2:=by omega
 have n5:h.nx+1≠h.nx+3:=by omega
 have n6:h.nx+2≠h.nx+3:=by omega
 have le:=aV h.nx;refine aT rfl rfl<|aC.of bP<|aC.of bS<|aC.of bS<|aC.of ((dY n1).trans bS)<|aC.of ((dY n2).trans bS)<|aC.of ((dY n3).trans bS)<|aC.of bS ?_;refine q _ rfl ((((((((((Kp.refl.new).put le).put le).put le).new).put le).new).put le).new).put le |>.put le) bS ?_ ?_ ?_
 .exact(bN n1.symm).trans ((bN n1.symm).trans ((dY n5).trans ((bN n1.symm).trans ((dY n4).trans ((bN n1.symm).trans bP)))))
 .exact(bN n2.symm).trans ((bN n2.symm).trans ((dY n6).trans ((bN n2.symm).trans bP)))
 .exact(bN n3.symm).trans ((bN n3.symm).trans bP)
def ai(sd:Sd):Mo:=⟨[],sd.pc,0,0,0,λ_=>[],[],[],[],sd,[],[],[],aH⟩
def wf5(n:Nat)(pc sz wd:Int):List (cX×AV):=[("program",.ref (n+1)),("ahead",.int pc),("size",.int sz),("wide",.int wd),("slots",.ref (n+2))]
theorem aRd{sz wd:Int}(nx:h.nx=n+3)(ow:h.ob n=aA (.ins 19<|wf5 n pc sz wd))
  (q:∀h',h'.nx=n+10->(∀i,i<n+3->i≠n->h'.ob i=h.ob i)->h'.ob n=aA (.ins 19 [("program",.ref (n+1)),("ahead",.int pc),("size",.int sz),("wide",.int wd),("slots",.ref (n+2)),("names",.ref (n+3)),("benches",.ref (n+5)),("shelf",.ref (n+7)),("tickets",.int 0),("thrown",.int 0),("now",.int 0)]) ->
   h'.ob (n+3)=aA (.ins 16 [("filled",.ref (n+4))])->h'.ob (n+4)=aA (.aN [])->h'.ob (n+5)=aA (.ins 15<|fw tb<|n+6)->h'.ob (n+6)=aA (.aN [])->h'.ob (n+7)=aA (.ins 17 [("kept",.ref (n+8)),("begun",.ref (n+9))])->h'.ob (n+8)=aA (.aN [])->h'.ob (n+9)=aA (.aN [])->R .aG h') :
  dZ (run pg<|k+1) (bK<|bK<|bK<|bK<|bK Vc) [aA (.ref n),aA (.ref np),aA (.int pc),aA (.int sz),aA (.int wd),aA (.tup<|tb.map eR)] h (λ_ h1=>R .aG h1) R (λ_ _=>False) λ_ _=>False:=by
 have po:∀{h:AH}{o:bB}{i j:Nat},i≠j->(h.put j o).ob i=h.ob i:=λe=>bN e;refine R8 (k:=k) λh1 x1 k1 a1 a2=>⟨rfl,?_⟩;rw[nx]at x1 a1 a2 ⊢;refine aC.of rfl<|aC.of rfl<|aC.of (k1.get (by omega) ow) ?_;refine VH (k:=k) (h:=h1.put n _) λh2 x2 k2 b1 b2=>⟨rfl,?_⟩;have y1:∀{o:bB},(h1.put n o).nx=n+5:=x1;rw[y1]at x2 b1 b2 ⊢;refine aC.of rfl<|aC.of rfl<|aC.of (k2.get (by show n<h1.nx;omega) bS) ?_;refine aKq (k:=k) (h:=h2.put n _) λh3 x3 k3 c1 c2 c3=>⟨rfl,?_⟩;have y2:∀{o:bB},(h2.put n o).nx=n+7:=x2;rw[y2]at x3 c1 c2 c3 ⊢;refine aC.of rfl<|aC.of rfl<|aC.of (k3.get (by show n<h2.nx;omega) bS)<|aC.of bS<|aC.of bS<|aC.of bS ?_;have l1:h1.nx=n+5:=x1;have l2:h2.nx=n+7:=x2;have e3:∀{i},i≠n->i<n+7->h3.ob i=h2.ob i:=λ{i} ni li=>(k3.ob i (by show i<h2.nx;omega)).trans (bN ni);have e2:∀{i},i≠n->i<n+5->h2.ob i=h1.ob i:=λ{i} ni li=>(k2.ob i (by show i<h1.nx;omega)).trans (bN ni);have e4:∀{i:Nat}{o1 o2 o3 o4:bB},i≠n->((((h3.put n o1).put n o2).put n o3).put n o4).ob i=h3.ob i:=λni=>by rw[bN ni,bN ni,bN ni,bN ni]
 refine q _ x3 (λi li ni=>?_) bS ?_ ?_ ?_ ?_ ?_ ?_ ?_
 .rw[e4 ni,e3 ni (by omega),e2 ni (by omega)];exact k1.ob i (by omega)
 .rw[e4 (by omega),e3 (by omega) (by omega),e2 (by omega) (by omega)];exact a1
 .rw[e4 (by omega),e3 (by omega) (by omega),e2 (by omega) (by omega)];exact a2
 .rw[e4 (by omega),e3 (by omega) (by omega)];exact b1
 .rw[e4 (by omega),e3 (by omega) (by omega)];exact b2
 .rw[e4 (by omega)];exact c1
 .rw[e4 (by omega)];exact c2
 .rw[e4 (by omega)];exact c3
theorem aRe{sz wd:Int}{sd:Sd}(op:h.ob np=aA (.lst aB<|rs.map aM.av))(lp:np<h.nx)
  (q:∀h',h'.nx=h.nx+10->Kp h h'->h'.ob h.nx=aA (.ins 19 [("program",.ref (h.nx+1)),("ahead",.int sd.pc),("size",.int sz),("wide",.int wd),("slots",.ref (h.nx+2)),("names",.ref (h.nx+3)),("benches",.ref (h.nx+5)),("shelf",.ref (h.nx+7)),("tickets",.int 0),("thrown",.int 0),("now",.int 0)]) ->
   h'.ob (h.nx+1)=aA (.lst aB<|rs.map aM.av)->h'.ob (h.nx+2)=aA (.lst aB [])->h'.ob (h.nx+3)=aA (.ins 16 [("filled",.ref (h.nx+4))])->h'.ob (h.nx+4)=aA (.aN [])->h'.ob (h.nx+5)=aA (.ins 15<|fw tb<|h.nx+6)->h'.ob (h.nx+6)=aA (.aN [])->h'.ob (h.nx+7)=aA (.ins 17 [("kept",.ref (h.nx+8)),("begun",.ref (h.nx+9))])->h'.ob (h.nx+8)=aA (.aN [])->h'.ob (h.nx+9)=aA (.aN [])->R .aG h') :
  WC (run pg (k+2) 108 [.ref h.nx,.ref np,.int sd.pc,.int sz,.int wd,.tup (tb.map eR)]) (h.new<|.ins 19 []) R:=by
 have le:=aV h.nx;have g:h.nx≠h.nx+1:=by lia
 have l:h.nx≠h.nx+2:=by omega
 have j:h.nx+1≠h.nx+2:=by omega
 refine aT rfl rfl<|WC.of<|JE (cO<|(dY<|bQ lp).trans op)<|aC.of rfl<|aC.of rfl<|aC.of ((dY g).trans bP)<|aC.of bS<|aC.of bS<|aC.of bS<|aC.of ((dY l).trans bS) ?_;have v:∀{m n o p r s t u:bB},Kp h ((((((((h.new m).new n).put h.nx o).put h.nx p).put h.nx r).put h.nx s).new t).put h.nx u):=λ{m n o p r s t u}=>(((((((Kp.refl.new).new).put le).put le).put le).put le).new).put le;refine aRd rfl bS λh' nx fr w a b c d e f x=>q h' nx ⟨by omega,λi y=>(fr i (by omega)<|bQ ‹_›).trans (v.ob i y)⟩ w ?_ ?_ a b c d e f x
 .exact(fr _ (by omega)<|kL<|cF _).trans ((bN g.symm).trans ((dY j).trans ((bN g.symm).trans ((bN g.symm).trans ((bN g.symm).trans ((bN g.symm).trans bP))))))
 .exact(fr _ (aV _) (by omega)).trans ((bN l.symm).trans bP)
theorem DH(q:R (.ref n) h):WC (run pg (k+1) 35 [.ref n]) h R:=aT rfl rfl q
def wu(P:Nat->bB->Prop):Nat->List (Option bB)->Prop
 |_,[]=>True
 |i,aD::l=>wu P (i+1) l
 |i,aA o::l=>P i o/\wu P (i+1) l
theorem Ut{P:Nat->bB->Prop}:∀{l:List (Option bB)}{n:Nat},wu P n l->∀i o,l[i]?=aA (aA o)->P (n+i) o
 |[],_,_,i,o,e=>by cases e
 |x::l,n,a,0,o,e=>by cases e;exact a.1
 |x::l,n,a,i+1,o,e=>by
  have b:wu P (n+1) l:=by
   cases x with
   |none=>exact a|some y=>exact a.2
  have:=Ut b i o e;rw[Nat.add_assoc,MH 1 i]at this;exact this
theorem wf0{sd:Sd}{kd:Nat->Nat}:Wf ⟨n,[],kd⟩ (ai sd):=by refine⟨ky,λ_ h=>(oO h).elim,(by decide:0<64),λ_ h=>(oO h).elim,ky,(by decide:0<64),ky,(by decide:0<64),ky,(by decide:0<64),ky,λx f h=>?_,λ_ _=>rfl,λ_=>(by decide:0<99999)⟩;cases h
theorem P4{lo:List (Nat×bB)}{b:Nat}{sz wd:Int}{sd:Sd}{K:Nat->Yg}(hb:h.nx=b)(op:h.ob np=aA (.lst aB<|rs.map aM.av))(lp:np<h.nx)(G:lT ⟨b,rs,sz,wd,tb,gu,nv,sd.mem.length,lo⟩ 10 K h)
  (q:∀g h',aJ ⟨b,rs,sz,wd,tb,gu,nv,sd.mem.length,lo⟩ g (ai sd) h'->Kp h h'->R .aG h'):WC (run pg (k+3) 117 [.ref b,.ref np,sd.av,.int sz,.int wd,.tup (tb.map eR),.ref gu,.ref nv]) (h.new<|.ins 21 []) R:=by
 subst hb;have k0:Kp h (h.new<|.ins 21 []):=Kp.refl.new;refine aT rfl rfl<|aRe (k:=k) (h:=h.new (.ins 21 [])) (sd:=sd) (tb:=tb) (k0.get lp op) (iJ lp) λh1 x1 k1 w1 w2 w3 w4 w5 w6 w7 w8 w9 w10=>⟨rfl,aC.of rfl (aC.of rfl<|aC.of (k1.get (cF _) bP) ?_)⟩;refine DH (k:=k+1)<|DH (k:=k+1) ?_;have x1:h1.nx=h.nx+11:=x1;refine M4 (k:=k+1) (h:=h1.put h.nx _) (sd:=sd) λh2 x2 k2 l1 l2 l3 l4=>⟨rfl,?_⟩;have y1:∀{o:bB},(h1.put h.nx o).nx=h.nx+11:=x1;rw[y1]at x2 l1 l2 l3 l4 ⊢;refine aC.of rfl<|aC.of rfl<|aC.of (k2.get (by show h.nx<h1.nx;omega) bS) ?_;have e2:∀{i}{o:bB},i≠h.nx->i<h.nx+11->(h2.put h.nx o).ob i=h1.ob i:=λ{i o} ni li=>(bN ni).trans ((k2.ob i (by show i<h1.nx;omega)).trans (bN ni));have e3:∀{i}{o:bB},i≠h.nx->(h2.put h.nx o).ob i=h2.ob i:=λni=>bN ni;have kF:∀{o:bB},Kp h (h2.put h.nx o):=λ{o}=>⟨by show h.nx<=h2.nx;omega,λi hi=>(e2 (by omega) (by omega)).trans ((k1.ob i (by show i<h.nx+1;omega)).trans (k0.ob i hi))⟩;have rF:aJ ⟨h.nx,rs,sz,wd,tb,gu,nv,sd.mem.length,lo⟩ ⟨h.nx+3,[],λn=>if n=h.nx+3 then 15 else n-h.nx⟩ (ai sd) (h2.put h.nx<|.ins 21 [("window",.ref (h.nx+1)),("ledger",.ref (h.nx+11))]):=?_
 .exact q _ _ rF kF
 refine⟨⟨λi o e=>?_,λj n o hj e=>?_⟩,⟨K,G.low (aV _) λn hn=>kF.ob n hn⟩,wf0⟩
 .have fin:∀{i o},i<15->i≠3->(h2.put h.nx<|.ins 21 [("window",.ref (h.nx+1)),("ledger",.ref (h.nx+11))]).ob (h.nx+i)=aA o->(if h.nx+i=h.nx+3 then 15 else h.nx+i-h.nx)=i/\h.nx+i<h2.nx/\(h2.put h.nx<|.ins 21 [("window",.ref (h.nx+1)),("ledger",.ref (h.nx+11))]).ob (h.nx+i)=aA o:=λ{i o} a b z=>⟨by rw[if_neg (by omega)];omega,by omega,z⟩;have m1:∀{i o},i<11->i≠3->i≠0->h1.ob (h.nx+i)=aA o->_:=λ{i o} a b c z=>fin (i:=i) (o:=o) (by omega) b ((e2 (by omega) (by omega)).trans z);have m2:∀{i o},i<15->i≠3->i≠0->h2.ob (h.nx+i)=aA o->_:=λ{i o} a b c z=>fin (i:=i) (o:=o) a b ((e3 (by omega)).trans z);have key:=Ut (P:=λi o=>(if h.nx+i=h.nx+3 then 15 else h.nx+i-h.nx)=i/\h.nx+i<h2.nx/\(h2.put h.nx<|.ins 21 [("window",.ref (h.nx+1)),("ledger",.ref (h.nx+11))]).ob (h.nx+i)=aA o) (n:=0) (l:=(ai sd).fR ⟨h.nx,rs,sz,wd,tb,gu,nv,sd.mem.length,lo⟩ ⟨h.nx+3,[],λn=>if n=h.nx+3 then 15 else n-h.nx⟩) ⟨fin (by decide) (by decide) bS,m1 (by decide) (by decide) (by decide) w1,m1 (by decide) (by decide) (by decide) w2,m1 (by decide) (by decide) (by decide) w4,m1 (by decide) (by decide) (by decide) w5,m1 (by decide) (by decide) (by decide) w6,m1 (by decide) (by decide) (by decide) w7,m1 (by decide) (by decide) (by decide) w8,m1 (by decide) (by decide) (by decide) w9,m1 (by decide) (by decide) (by decide) w10,m2 (by decide) (by decide) (by decide) l1,m2 (by decide) (by decide) (by decide) l2,m2 (by decide) (by decide) (by decide) l3,m2 (by decide) (by decide) (by decide) l4,trivial⟩ i o e;rw[Nat.zero_add]at key;exact key
 .unfold Mo.dyn at e;split at e
  .rename_i z;subst z;cases e;exact⟨if_pos rfl,mR ..,by show h.nx+3<h2.nx;omega,(e2 (i:=h.nx+3) (by omega) (by omega)).trans w3⟩
  .split at e
   .cases e
   .cases e
end
section
variable {k:Nat}{g:Gh}
theorem x6(r:aJ c g m h)(w0:0<=c.wd)(w8:c.wd<=8)(P:Nat->Mo->Prop)(p0:P 0 m)
  (stp:∀i m,P i m->(i:Int)<c.wd->(m.ac.length:Int)<c.sz->m.ah<c.rs.length->∃row,nu c m row/\m.sd.bx.length=8/\(∀a,(m.enter row a).wX c.am m.ac.length 0 row.dB)/\∀a dr gs,P (i+1) (m.pY c row a dr gs))
  (q:∀i m' g' h',P i m'->(i:Int)<=c.wd->aJ c g' m' h'->bD c g h g' h'->R .aG h'):WC (run pg (k+7) 15 [.ref (c.b+1),.ref (c.b+11)]) h R:=by
 refine aT rfl rfl<|WB.of<|Cv ?_;refine vd (λi d h'=>i<=c.wd/\d=[aA (.ref<|c.b+1),aA (.ref<|c.b+11),aA (.int i)]/\∃g' m',aJ c g' m' h'/\P i m'/\bD c g h g' h') 8 (λi d h' y=>by lia) (λi d h' y=>?_) FU 0 _ _ (by rw[fI];lia) ⟨w0,rfl,g,m,r,p0,bD.refl⟩;obtain⟨o,rfl,g',m',b,e,f⟩:=y;have fin:=q i m' g' h' e o b f;refine oH _<|aC.of (b.at 1)<|aE.dc (λj=>?_) λj=>?_;rotate_left
 .exact fin
 refine aC.of (b.at 1)<|uk b<|aC.of (b.at 1)<|aE.dc (λl=>?_) λl=>?_;rotate_left
 .exact fin
 refine aC.of (b.at 1)<|b.Xm ?_;by_cases n:(c.rs.length:Int)<=m'.ah
 .rw[decide_eq_true n];exact fin
 .rw[decide_eq_false n];obtain⟨row,E,bl,ok,p⟩:=stp i m' e j l (by lia);refine(gX _ ?_:Wt (jR (run pg<|k+6) _ _) _ _ _ _ _);refine x8 b E bl ok λa dr gs g2 u s t=>?_;exact⟨‹_›,rfl,g2,_,s,p a dr gs,f.trans t⟩
theorem aLu{t:Int×Int}(hs:m.ac[i]?=aA s):((m.start c t i s).ac.map (·.a))=m.ac.map (·.a):=by
 unfold Mo.start;split
 .split
  .rfl
  .exact rC hs BP.1
 .rfl
theorem aLq(r:aJ c g m h)(P:Nat->Mo->Prop)(p0:P 0 m)
  (stp:∀i m s,P i m->m.ac[i]?=aA s->(s.put<m.nw->s.st=aD->s.ws.all ly=aB->∃t,xg c m s/\cN (c.tb.map eR) s.row.iQ=aA (eR t)/\aX m.wk s.tk=aD/\m.wk.length<63/\P (i+1) (m.start c t i s))/\(¬(s.put<m.nw/\s.st=aD/\s.ws.all ly=aB)->P (i+1) m))
  (q:∀m' h',P m.ac.length m'->aJ c g m' h'->bD c g h g h'->R .aG h'):WC (run pg (k+6) 32 [.ref (c.b+1),.ref (c.b+11)]) h R:=by
 have sn:=r.W.sn;refine aT rfl rfl<|WB.of<|mO<|nO<|aC.of (r.at 1)<|oJ r.kH.1 ?_;refine uF (bb:=aB) (xs:=m.ac.map λs=>.ref s.a) (λj e h'=>∃m' v2,e=[aA (.ref<|c.b+1),aA (.ref<|c.b+11),v2]/\aJ c g m' h'/\P j m'/\m'.ac.map (·.a)=m.ac.map (·.a)/\bD c g h g h') (by rw[aU,fI];lia) ⟨m,_,rfl,r,p0,rfl,bD.refl⟩ (λj e h' y=>?_) (λj x e h' v y=>?_)<|λe h' y=>?_
 .obtain⟨m',v2,_,b,_,d,_⟩:=y;rw[b.kH.1];have:=congrArg (Qu AV.ref) d;rw[jE,jE]at this;exact congrArg (λz=>aA (bB.lst aB z)) this
 .obtain⟨m',v2,rfl,b,f,d,l⟩:=y;obtain⟨s0,h0,rfl⟩:=lH v;have p:(m'.ac.map (·.a))[j]?=aA s0.a:=by rw[d,fO,h0];rfl
  rw[fO]at p;obtain⟨s,n,w⟩:=Option.map_eq_some_iff.mp p;have hm:=bX n;obtain⟨A,B⟩:=stp j m' s f n;rw[<- w];have no:=λz=>(⟨m',aA (.ref s.a),rfl,b,B z,d,l⟩:∃m' v2,[aA (AV.ref<|c.b+1),aA (.ref<|c.b+11),aA (.ref s.a)]=[aA (.ref<|c.b+1),aA (.ref<|c.b+11),v2]/\aJ c g m' h'/\P (j+1) m'/\m'.ac.map (·.a)=m.ac.map (·.a)/\bD c g h g h');refine kJ _<|gX _<|aC.of (b.cK hm)<|aC.of (b.at 1)<|aE.dc (λcp=>?_) λcp=>no λz=>cp z.1;cases ht:s.st with
  |some C=>
   have o:h'.ob s.a=aA (.ins 18<|{ s.lt c.am with st:=aA C }.fk (s.a+2)):=by rw[b.lK hm];unfold Sl.lt;rw[ht]
   exact aC.of o (no λz=>by rw[ht]at z;cases z.2.1)
  |none=>
   have o:h'.ob s.a=aA (.ins 18<|{ s.lt c.am with st:=aD }.fk (s.a+2)):=by rw[b.lK hm];unfold Sl.lt;rw[ht]
   refine aC.of o<|aC.of o<|aJu (b.cK hm) (b.jw hm) ?_;cases u:s.ws.all ly with
   |false=>exact no λz=>by rw[u]at z;cases z.2.2
   |true=>obtain⟨t,O,D,hn,wl,E⟩:=A cp ht u;exact Q3 b n O D hn wl λH F G=>⟨_,_,rfl,F,E,(aLu n).trans d,l.trans G⟩
 .obtain⟨m',v2,rfl,b,f,d,l⟩:=y;rw[aU]at f;exact q m' h' f b l
theorem aNx(r:aJ c g m h)(w0:0<=c.wd)(w8:c.wd<=8)(P:Hr->Mo->Prop)(p0:P [] m)
  (stp:∀l m s rest,P l m->(l.length:Int)<c.wd->m.ac=s::rest->s.fi.isSome=aB->xi c m { s with of:=aA m.nw }/\P (l++[(({ s with of:=aA m.nw }:Sl).lt c.am).iF]) (m.take c.am { s with of:=aA m.nw } rest))
  (q:∀l m' n g' h',P l m'->((l.length:Int)=c.wd\/∀s,m'.ac[0]?=aA s->s.fi=aD)->aJ c g' m' h'->h.nx<=n->n<h'.nx->h'.ob n=aA (.lst aB l)->g'.kd n=28->bD c g h g' h'->R (.ref n) h'):WC (run pg (k+8) 24 [.ref (c.b+1),.ref (c.b+11)]) h R:=by
 have k1:Kp h (h.new<|.lst aB []):=Kp.refl.new;refine aT rfl rfl<|WB.of<|Cv ?_;refine vd (λi f h'=>(i:Int)<=c.wd/\(∃p,f=[aA (.ref<|c.b+1),aA (.ref<|c.b+11),aA (.ref h.nx),p])/\∃g' m' l,aJ c g' m' h'/\P l m'/\l.length=i/\g'.kd h.nx=28/\h.nx<h'.nx/\h'.ob h.nx=aA (.lst aB l)/\bD c g h g' h') 8 (λi f h' y=>by lia) (λi f h' y=>?_) FU 0 _ _ (by rw[fI];lia) ⟨w0,⟨_,rfl⟩,_,m,[],(r.fresh (n:=h.nx) k1<|aV _),p0,rfl,if_pos rfl,cF _,bP,⟨hA _,λn hn j _=>⟨dY (bQ hn),(if_neg<|bQ hn).trans j⟩⟩⟩;obtain⟨F,⟨p,rfl⟩,g',m',l,a,t,A,kd,lt,ol,ff⟩:=y;have fin:=λz=>q l m' h.nx g' h' t z a (aV _) lt ol kd ff;refine oH _<|WC.of<|kK (cO ol)<|aC.of (a.at 1)<|aE.dc (λB=>?_) λB=>?_;rotate_left
 .exact fin<|.inl (by lia)
 refine aC.of (a.at 1)<|uk a ?_;cases b:m'.ac with
 |nil=>exact fin (.inr λs e=>by rw[b]at e;cases e)|cons s rest=>
  have h0:m'.ac[0]?=aA s:=by rw[b];rfl
  have hm:=bX h0;have u:cN (m'.ac.map λs=>AV.ref s.a) 0=aA (.ref s.a):=b▸gI;refine aE.dt (by simp only[jC];lia)<|aC.of (a.at 1)<|WC.of<|gQ (cO a.kH.1) u ?_;cases d:s.fi with
  |none=>
   have o:h'.ob s.a=aA (.ins 18<|{ s.lt c.am with fi:=aD }.fk (s.a+2)):=by rw[a.lK hm];unfold Sl.lt;rw[d]
   exact aC.of o<|fin (.inr λz e=>by rw[h0]at e;cases e;exact d)
  |some C=>
   have o:h'.ob s.a=aA (.ins 18<|{ s.lt c.am with fi:=aA C }.fk (s.a+2)):=by rw[a.lK hm];unfold Sl.lt;rw[d]
   obtain⟨T,D⟩:=stp l m' s rest t (by omega) b (by rw[d];rfl);refine aC.of o ?_;refine(gX _ ?_:Wt (jR (run pg<|k+7) _ _) _ _ _ _ _);refine(aC.of (a.at 1)<|WC.of<|gQ (cO a.kH.1) u<|aNz a b T λg2 G E v x fr=>?_);have ne:=(rG ol (a.cK hm) nofun);have fn:=fr h.nx lt (by rw[kd];exact aV _) r.bx ne;have on:=fn.1.trans ol;refine aE.t (uO on)<|aC.of (v.os T.fi)<|Nv (v.os T.fi)<|WC.of<|bu on (by have:=kG;omega) ?_;exact⟨by omega,⟨_,rfl⟩,_,_,_,E.Js r.bx (fn.2.trans kd) (Kx.refl.put<|List.mem_singleton.mpr rfl),D,by rw[dQ,A];rfl,fn.2.trans kd,bA lt x,bS,⟨dG ff.nx x,λn hn j hb=>by have z:=ff.ob n hn j hb;have y:=fr n (bA hn ff.nx) (Rn z.2.symm) hb λw=>(a.ia hm).1 (w▸z.2);exact⟨(bN<|bQ hn).trans (y.1.trans z.1),y.2.trans z.2⟩⟩⟩
end
section
variable {k:Nat}{g:Gh}
theorem C3{t:Int}(r:aJ c g m h)(P:Nat->Nat->Mo->Prop)(p0:P 0 0 m)
  (stp:∀i j m s,P i j m->m.ac[i]?=aA s->j<s.bH.length->(s.bH[j]?=aA (aA t)->yL m s j/\P i (j+1) (m.give i j w))/\(s.bH[j]?≠aA (aA t)->P i (j+1) m))
  (nxt:∀i m s,P i s.bH.length m->m.ac[i]?=aA s->P (i+1) 0 m)
  (q:∀i m' g' h',P i 0 m'->m'.ac.length<=i->aJ c g' m' h'->bD c g h g' h'->R .aG h'):WC (run pg (k+5) 31 [.ref (c.b+1),.int t,.int w]) h R:=by
 refine aT rfl rfl<|WB.of<|Cv ?_;refine vd (λi Z h'=>i<=64/\(∃v4 v5,Z=[aA (.ref<|c.b+1),aA (.int t),aA (.int w),aA (.int i),v4,v5])/\∃g' m',aJ c g' m' h'/\P i 0 m'/\bD c g h g' h') 64 (λi Z h' y=>y.1) (λi Z h' y=>?_) FU 0 _ h (by rw[fI];omega) ⟨kM _,⟨_,_,rfl⟩,g,m,r,p0,bD.refl⟩;obtain⟨_,⟨v4,v5,rfl⟩,g',m',r',p',f'⟩:=y;refine oH _<|aC.of (r'.at 1)<|uk r' ?_;show if decide (i<(m'.ac.length:Int))=aB then _ else _
 by_cases ci:i<m'.ac.length
 .rw[if_pos (by simpa)];have sn:=r'.W.sn;obtain⟨s,es⟩:∃s,m'.ac[i]?=aA s:=⟨_,eM ci⟩;have hm:=bX es;have e1:cN (m'.ac.map λs=>AV.ref s.a) i=aA (.ref s.a):=oy (by rw[fO,es];rfl);have nl:s.bH.length<=2:=by rw[(r'.W.sw _ hm).2];exact aj
  have nl':((s.lt c.am).bH.map oI).length=s.bH.length:=aU ..;refine gX _<|aC.of (r'.at 1)<|WC.of<|gQ (cO r'.kH.1) e1<|WB.of<|mO<|Co ?_;refine aC.of (r'.cK hm) ⟨uh (by omega) (by omega),?_⟩;refine Ib (λj Z h''=>(∃v5,Z=[aA (.ref<|c.b+1),aA (.int t),aA (.int w),aA (.int i),aA (.ref s.a),v5])/\∃g2 m2 s2,aJ c g2 m2 h''/\P i j m2/\bD c g h g2 h''/\m2.ac[i]?=aA s2/\s2.a=s.a/\s2.bH=s.bH) (by rw[fI,rT];omega) ⟨⟨_,rfl⟩,g',m',s,r',p',f',es,rfl,rfl⟩ (λj Z h'' hj y=>?_)<|λZ h'' y=>?_
  .obtain⟨⟨v5,rfl⟩,g2,m2,s2,r2,p2,f2,es2,ea,en⟩:=y;rw[nl',<- en]at hj;have e2:cN (s2.bH.map oI) (j:Int)=aA (oI ((s2.bH)[j]?).join):=Uy hj;obtain⟨y1,y2⟩:=stp i j m2 s2 p2 es2 hj;rw[<- ea,Int.zero_add];refine kJ _<|gX _<|aC.of (r2.cK<|bX es2)<|aC.of e2 ?_;cases eo:(s2.bH[j]?).join with
   |none=>exact WC.of<|Ci rfl ⟨⟨_,rfl⟩,g2,m2,s2,r2,y2 (λz=>by rw[z]at eo;cases eo),f2,es2,rfl,en⟩|some u=>
    refine aE.dc (λz=>?_) λz=>?_
    .have e3:s2.bH[j]?=aA (aA t):=by rw[eM hj]at eo ⊢;rw[show s2.bH[j]=aA u from eo,show u=t from z]
     obtain⟨G,p3⟩:=y1 e3;refine aC.of (r2.at 1)<|Zz r2 es2 rfl G λv g3 h3 r3 f3=>?_;exact⟨⟨_,rfl⟩,g3,_,_,r3,p3,f2.trans f3,(Io r2.W.tk es2).1,rfl,en⟩
    .exact⟨⟨_,rfl⟩,g2,m2,s2,r2,y2 (λw=>z (by rw[w]at eo;exact(dI eo).symm)),f2,es2,rfl,en⟩
  .obtain⟨⟨v5,rfl⟩,g2,m2,s2,r2,p2,f2,es2,ea,en⟩:=y;rw[nl',<- en]at p2;exact⟨by omega,⟨_,_,rfl⟩,g2,m2,r2,nxt i m2 s2 p2 es2,f2⟩
 .rw[if_neg (by simpa using ci)];exact q i m' g' h' p' (by omega) r' f'
end
section
variable {k:Nat}{g:Gh}
theorem z9{v:Int}(ev:v=c.am)(es:s'={ s with fi:=aA m.nw })(r:aJ c g m h)(hs:m.ac[i]?=aA s)(ews:s.ws=s.wi.map aA)(hw:kY s.wi)(hf:s.fi=aD)
  (P:Nat->Nat->Mo->Prop)(Q:Mo->Prop)(qm:∀m,Q m->s'∈m.ac)(q0:s'.d1 c.am=aD->Q (m.cZ i s'))
  (q1:∀x,s'.d1 c.am=aA x->∃w,s'.d3 c.am=aA w/\P 0 0 (m.cZ i s')/\∀i j m s,P i j m->m.ac[i]?=aA s->j<s.bH.length->(s.bH[j]?=aA (aA s'.tk)->yL m s j/\P i (j+1) (m.give i j w))/\(s.bH[j]?≠aA (aA s'.tk)->P i (j+1) m))
  (nxt:∀i m s,P i s.bH.length m->m.ac[i]?=aA s->P (i+1) 0 m)(q2:∀n m2,P n 0 m2->m2.ac.length<=n->Q m2)
  (q:∀m2 g' h',Q m2->aJ c g' (m2.jmp c.am s') h'->bD c g h g' h'->R .aG h'):WC (run pg (k+7) 30 [.ref (c.b+1),.ref s.a,.int v]) h R:=by
 subst ev;have hm:=bX hs;have t:=r.jw hm;rw[ews,Pm]at t;have wl:s.wi.length=s.row.nw:=by rw[<- (r.W.sw s hm).1];exact aU ..
 refine aT rfl rfl<|aC.of (r.cK hm)<|aC.of (r.cK hm)<|aC.of (r.cK hm)<|WC.of<|vM (cO t)<|aC.of (r.cK hm)<|O3 wl hw ?_;rw[show(s.lt c.am).row.gi (s.lt c.am).pc s.wi c.am (oI (s.lt c.am).eY) = .tup (s.dt c.am) from Xg];refine aC.of rfl<|aC.of rfl<|aC.of (r.cK hm) ?_;have nb:c.b+1≠s.a:=(rG (r.at 1) (r.cK hm) (λz=>by cases z));refine aC.of ((bN nb).trans (r.at 1))<|aC.of bS ?_;have A:gJ "finished" (.int m.nw) (gJ "deed" (.tup<|s.dt c.am)<|(s.lt c.am).fs (s.a+2))=(s'.lt c.am).fs (s.a+2):=by rw[es];unfold Sl.lt;rw[show({ s with fi:=aA m.nw }:Sl).dd c.am = .tup (s.dt c.am) from yg rfl];rfl
 have d:s'.a=s.a:=by rw[es]
 have u:s'.fi.isSome=aB:=by rw[es];rfl
 have a:=r.uj hs d (by rw[es]) (by rw[es]) (by rw[es]) (by rw[es]);rw[<- A,<- ED]at a;have kd:=(r.ia hm).1;have fr:∀{B C:bB},bD c g h g ((h.put s.a B).put s.a C):=(bD.put kd).trans (bD.put kd);have o:=a.Bs (bX<|xO (m:=m) (s':=s') hs) u;rw[d]at o;refine aC.of o ?_;have fin:=λm2 g2 f v2 l (f2:bD c g h g2 f) (y:Q m2)=>z8 (k:=k+3) (v2:=v2) l (qm m2 y) u λg' h' D E=>q m2 g' h' y D (f2.trans<|bD.A8 E);rw[d]at fin;have e:s'.dt c.am=[.int s'.pc,oI (s'.d1 c.am),oI (s'.d2 c.am),oI (s'.d3 c.am),oI (s'.d4 c.am),(s'.ft c.am).getD .aG]:=rfl;cases b:s'.d1 c.am with
 |none=>rw[b]at e;rw[e];exact fin _ _ _ _ a fr<|q0 b
 |some x=>obtain⟨w,F,p0,p⟩:=q1 x b;rw[b,F]at e;rw[e]at o ⊢;exact aC.of o<|aC.of o<|C3 a P p0 p nxt λn m2 g2 f G l2 l f2=>fin m2 g2 f _ l (fr.trans f2) (q2 n m2 G l2)
end
section
variable {k:Nat}{g:Gh}
inductive Ud(c:Cf)(m:Mo)(i:Nat)(s s':Sl)(Z:Mo->Prop):Prop
 |mk (P:Nat->Nat->Mo->Prop) (Q:Mo->Prop) (_:s'={ s with fi:=aA m.nw }) (_:s.ws=s.wi.map aA) (_:kY s.wi) (_:s.fi=aD) (_:∀m,Q m->s'∈m.ac) (_:s'.d1 c.am=aD->Q (m.cZ i s'))
  (_:∀x,s'.d1 c.am=aA x->∃w,s'.d3 c.am=aA w/\P 0 0 (m.cZ i s')/\∀i j m s,P i j m->m.ac[i]?=aA s->j<s.bH.length->(s.bH[j]?=aA (aA s'.tk)->yL m s j/\P i (j+1) (m.give i j w))/\(s.bH[j]?≠aA (aA s'.tk)->P i (j+1) m))
  (_:∀i m s,P i s.bH.length m->m.ac[i]?=aA s->P (i+1) 0 m) (_:∀n m2,P n 0 m2->m2.ac.length<=n->Q m2) (_:∀m2,Q m2->Z (m2.jmp c.am s'))
theorem y7(r:aJ c g m h)(et:ts=kX aH (pX m.wk m.nw))(P:Ht->Mo->Prop)(p0:P ts { m with wk:=m.wk.filter λp=>!decide (p.2.2<=m.nw) })
  (stp:∀t ts m,P (t::ts) m->c.am=m.sd.mem.length/\(m.slot t=aD->P ts m)/\∀i s,m.ac[i]?=aA s->s.tk=t->∃s',Ud c m i s s' (P ts))
  (q:∀m' g' h',P [] m'->aJ c g' m' h'->bD c g h g' h'->R .aG h'):WC (run pg (k+8) 29 [.ref (c.b+1),.ref (c.b+11)]) h R:=by
 have tl:ts.length<64:=by rw[et,(Ny aH<|pX m.wk m.nw).length_eq];unfold pX;rw[aU];exact zI r.W.wl
 refine aT rfl rfl<|WB.of<|mO<|nO ?_;refine aC.of (r.at 1)<|aC.of (r.at 6)<|aC.of (r.at 1)<|YG r.xu r.W.wl λn C kx e hn f on=>?_;have D:=(r.fresh Kp.refl hn).wkU kx e (oA r.W.wn) (zI r.W.wl);have f1:bD c g h ⟨g.sl,g.kf,λi=>if i=n then 28 else g.kd i⟩ C:=⟨kx.nx,λi d A hb=>⟨((bD.kx r (by decide) ⟨_,rfl⟩ kx).ob i d A hb).1,(if_neg (by omega)).trans A⟩⟩;rw[<- et]at on;refine oJ on ?_;refine uF (λj l h'=>h'.ob n=aA (.lst aB<|ts.map .int)/\(∃v2 B,l=[aA (.ref<|c.b+1),aA (.ref<|c.b+11),v2,B])/\∃g' m',aJ c g' m' h'/\P (ts.drop j) m'/\g'.kd n=28/\n<h'.nx/\bD c g h g' h') (by rw[aU,fI];omega) ⟨on,⟨_,_,rfl⟩,_,_,D,p0,if_pos rfl,f,f1⟩ (λ_ _ _ y=>y.1) (λj x l h' E y=>?_)<|λl h' y=>?_
 .obtain⟨on,⟨v2,B,rfl⟩,g',m',a,b,kd,lt,nx⟩:=y;obtain⟨t,ht,rfl⟩:=lH E;rw[Hi ht]at b;obtain⟨rm,F,G⟩:=stp t _ m' b;refine kJ _<|gX _<|aC.of (a.at 1)<|HA a ?_;cases o:m'.slot t with
  |none=>exact⟨on,⟨_,_,rfl⟩,g',m',a,F o,kd,lt,nx⟩|some s=>have hm:s∈m'.ac:=cv o;obtain⟨i,d⟩:=Dt hm;have et:s.tk=t:=of_decide_eq_true (Qm (p:=λs:Sl=>decide (s.tk=t)) o);obtain⟨s',⟨H,Q,I,u,hw,J,K,L,M,w,N,z⟩⟩:=G i s d et;refine aC.of (a.at 11)<|z9 (v:=((m'.sd.mem.map AV.int).length:Int)) (by rw[aU,rm]) I a d u hw J H Q K L M w N λO g2 U S T f2=>?_;have fn:=f2.ob n lt kd (dG r.bx hn);exact⟨fn.1.trans on,⟨_,_,rfl⟩,g2,_,T,z O S,fn.2,bA lt f2.nx,nx.trans f2⟩
 .obtain⟨_,_,g',m',a,b,_,_,nx⟩:=y;rw[aU,Dn]at b;exact q m' g' h' b a nx
end
section
abbrev Cr:=Int×Int×aM×Yi×Int
def Sl.cr(s:Sl):Cr:=(s.tk,s.pc,s.row,s.bH,s.put)
def fT(x:Int)(l:List Cr):Ht:=l.filterMap λp=>if aM.fx p.2.2.1=aA x then aA p.1 else aD
structure NI(off:Int->Ht)(cs:List Cr)(fl:Int->Ht):Prop where
 f:∀x,fl x=off x++fT x cs
 w:∀x,(fl x).Pairwise (·<·)
 n:∀(k:Nat) (p:Cr),cs[k]?=aA p->p.2.2.2.1=p.2.2.1.dB.map λx=>(off x++fT x (cs.take k)).getLast?
 o:∀x,∀u∈off x,∀p∈cs,u<p.1
 s:(cs.map (·.1)).Pairwise (·<·)
variable {off:Int->Ht}{cs a b:List Cr}{fl:Int->Ht}{t:Int}{p:Cr}
theorem DY{l:Ht}(h:l.Pairwise (·<·)):kC t l=l.filter λu=>decide (u<t):=by
 have key:∀r:Ht,r.Pairwise (λa b=>b<a)->r.dropWhile (λu=>decide (t<=u))=r.filter λu=>decide (u<t):=λr=>by
  induction r with
  |nil=>exact λ_=>rfl|cons u r f=>
   intro h;have e:=List.pairwise_cons.mp h;rw[List.dropWhile_cons,jB];by_cases c:t<=u
   .rw[if_pos (decide_eq_true c),if_neg (by rw[decide_eq_false (Int.not_lt.mpr c)];exact fZ),f e.2]
   .have d:=Int.not_le.mp c;rw[if_neg (by rw[decide_eq_false c];exact fZ),if_pos (decide_eq_true d),List.filter_eq_self.mpr λv g=>decide_eq_true (vP (e.1 v g) d)]
 unfold kC;rw[key _ (List.pairwise_reverse.mpr h),List.filter_reverse,ME]
theorem yq:fT x (a++b)=fT x a++fT x b:=Dq
theorem Xv(h:u∈fT x cs):∃p∈cs,p.1=u:=by
 obtain⟨p,a,e⟩:=List.mem_filterMap.mp h;split at e
 .exact⟨p,a,dI e⟩
 .cases e
theorem ZA:fT x (cs.filter λp=>decide (p.1<t))=(fT x cs).filter λu=>decide (u<t):=by
 unfold fT;rw[List.filterMap_filter,List.filter_filterMap];congr 1
 funext p
 by_cases c:aM.fx p.2.2.1=aA x
 .rw[if_pos c];rfl
 .rw[if_neg c];split<;>rfl
theorem XC(h:(cs.map (·.1)).Pairwise (·<·)):∃n,cs.filter (λp=>decide (p.1<t))=cs.take n:=by
 induction cs with
 |nil=>exact⟨0,rfl⟩|cons z l b=>
  have a:=List.pairwise_cons.mp h;rw[jB];split
  .obtain⟨n,e⟩:=b a.2;exact⟨n+1,by rw[e,Rj]⟩
  .rename_i w;exact⟨0,List.filter_eq_nil_iff.mpr λs c y=>w (decide_eq_true<|vP (a.1 _<|List.mem_map.mpr ⟨s,c,rfl⟩)<|of_decide_eq_true y)⟩
theorem NI.cut(I:NI off cs fl)(h:∃p∈cs,p.1<=t):NI off (cs.filter λp=>decide (p.1<t)) λx=>kC t (fl x):=by
 obtain⟨p,c,le⟩:=h;obtain⟨n,en⟩:=XC I.s;refine⟨λx=>?_,λx=>?_,λk q a=>?_,λx u b q a=>I.o x u b q (List.mem_filter.mp a).1,I.s.sublist (List.filter_sublist.map _)⟩
 .rw[DY (I.w x),I.f x,xY,List.filter_eq_self.mpr λu b=>decide_eq_true (Dk (I.o x u b p c) le),ZA]
 .rw[DY (I.w x)];exact(I.w x).sublist LF
 .rw[en]at a ⊢;rw[Qp]at a;split at a
  .rw[List.take_take,vp (mS ‹_›)];exact I.n k q a
  .cases a
theorem NI.take(I:NI off (p::cs) fl):NI (λx=>off x++fT x [p]) cs fl:=by
 have b:=List.pairwise_cons.mp I.s;refine⟨λx=>?_,I.w,λk q a=>?_,λx u hu q a=>?_,b.2⟩
 .rw[I.f x,tM,<- yq];rfl
 .rw[I.n (k+1) q a];exact lj λx _=>by rw[tM,<- yq];rfl
 .rcases List.mem_append.mp hu with hu|hu
  .exact I.o x u hu q<|hW _ a
  .obtain⟨r,hr,e⟩:=Xv hu;rw[<- e,List.mem_singleton.mp hr];exact b.1 _<|List.mem_map.mpr ⟨q,a,rfl⟩
theorem Yw{put:Int}{ns:Yi}:lW fl row t x=fl x++fT x [(t,pc,row,ns,put)]:=by
 unfold lW fT;rw[jO];cases e:aM.fx row with
 |none=>exact(jY _).symm|some y=>
  dsimp only;unfold lL;by_cases c:x=y
  .subst c;rw[if_pos rfl,if_pos rfl];rfl
  .rw[if_neg c,if_neg λw=>c (dI w).symm];exact(jY _).symm
theorem NI.enter{put:Int}(I:NI off cs fl)(h1:∀x,∀u∈fl x,u<t)(h2:∀p∈cs,p.1<t):NI off (cs++[(t,pc,row,row.dB.map λx=>(fl x).getLast?,put)]) (lW fl row t):=by
 refine⟨λx=>?_,λx=>?_,λk q hq=>?_,λx u a q hq=>?_,?_⟩
 .rw[Yw,yq,<- tM,<- I.f x]
 .rw[Yw (pc:=pc) (put:=put) (ns:=[])];refine List.pairwise_append.mpr ⟨I.w x,?_,λu a v b=>?_⟩
  .unfold fT;rw[jO];split
   .exact .nil
   .exact vn ..
  .obtain⟨r,hr,e⟩:=Xv b;rw[<- e,List.mem_singleton.mp hr];exact h1 x u a
 .by_cases c:k<cs.length
  .rw[rW c]at hq;rw[aTr (mS c)];exact I.n k q hq
  .rw[lh (vo c)]at hq;have d:=(List.getElem?_eq_some_iff.mp hq).1;have f:k=cs.length:=by rw[Qt]at d;lia
   subst f;rw[Ee]at hq;cases hq;rw[List.take_left' rfl];exact lj λx _=>by rw[<- I.f x]
 .rcases List.mem_append.mp hq with hq|hq
  .exact I.o x u a q hq
  .rw[List.mem_singleton.mp hq];exact h1 x u (by rw[I.f x];exact vQ _ a)
 .rw[gB];refine List.pairwise_append.mpr ⟨I.s,vn ..,λu a v b=>?_⟩;obtain⟨p,g,rfl⟩:=List.mem_map.mp a;rw[List.mem_singleton.mp b];exact h2 p g
structure Yc(Y:Mo->Prop):Prop where
 u:∀{m m':Mo},m'.ac.map Sl.cr=m.ac.map Sl.cr->m'.fl=m.fl->Y m->Y m'
 c:∀{m:Mo}{t:Int},(∃s∈m.ac,s.tk<=t)->Y m->Y (m.cut t)
end
def Sl.dn(am:Int)(s:Sl):Prop:=s.fi.isSome=aB/\s.ft am=aD
def dS(s:Sl):Option (Int×Hq×Hq):=match s.row with
 |.store _ _ d=>aA (s.tk,((s.ws[1]?).join).map (·+d),(s.ws[0]?).join)
 |_=>aD
theorem xB{p:Int×Hq×Hq}(h:dS s=aA p):p.1=s.tk:=by unfold dS at h;split at h<;>cases h;rfl
abbrev pN(l:Yr):Prop:=(l.map (·.tk)).Pairwise (·<·)
theorem pN.eq(h:pN l)(hs:s∈l)(hz:z∈l)(e:z.tk=s.tk):z=s:=by have b:=vG hz h;rw[e]at b;exact dI<|b.symm.trans<|vG hs h
theorem pN.ix{k:Nat}(h:pN l)(hk:l[k]?=aA z)(hs:l[i]?=aA s)(e:z.tk=s.tk):k=i:=by
 have nd:(l.map (·.tk)).Nodup:=h.imp vk;have a:(l.map (·.tk))[k]?=aA z.tk:=by rw[fO,hk];rfl
 have b:(l.map (·.tk))[i]?=aA z.tk:=by rw[fO,hs,e];rfl
 obtain⟨ha,a⟩:=List.getElem?_eq_some_iff.mp a;obtain⟨hb,b⟩:=List.getElem?_eq_some_iff.mp b;exact(Dv nd).mp (a.trans b.symm)
theorem jh(hs:l[i]?=aA s):s'∈l.set i s':=bX (mQ (List.getElem?_eq_some_iff.mp hs).1)
theorem GU{k:Nat}(hs:l[i]?=aA s)(hk:(l.set i s')[k]?=aA z):(k=i/\z=s')\/(k≠i/\l[k]?=aA z):=by
 by_cases w:i=k
 .subst w;rw[mQ (List.getElem?_eq_some_iff.mp hs).1]at hk;exact .inl ⟨rfl,(dI hk).symm⟩
 .rw[lO w]at hk;exact .inr ⟨λe=>w e.symm,hk⟩
theorem aKl(h:pN l)(hs:l[i]?=aA s)(hz:z∈l.set i s'):z=s'\/(z∈l/\z.tk≠s.tk):=by
 obtain⟨k,a⟩:=Dt hz;rcases GU hs a with⟨_,e⟩|⟨ne,e⟩
 .exact .inl e
 .exact .inr ⟨bX e,λw=>ne (h.ix e hs w)⟩
theorem Nt(hs:l[i]?=aA s)(hz:z∈l)(e:z.tk≠s.tk):z∈l.set i s':=by obtain⟨k,a⟩:=Dt hz;refine bX<|(lO λw=>?_).trans a;subst w;rw[hs]at a;cases a;exact e rfl
theorem BJ:((l.filterMap dS).map (·.1)).Sublist (l.map (·.tk)):=by
 induction l with
 |nil=>exact .slnil|cons z l a=>
  rw[jO];split
  .exact a.cons _
  .rw[iH,xB ‹_›];exact a.cons_cons _
theorem K8{f:Int->Bool}:(l.filterMap dS).filter (λp=>f p.1)=(l.filter λs=>f s.tk).filterMap dS:=by
 induction l with
 |nil=>rfl|cons z l a=>
  rw[jO,jB];cases e:dS z with
  |none=>
   rw[a];split
   .rw[jO,e]
   .rfl
  |some p=>
   rw[jB,xB e];split
   .rw[jO,e,a]
   .exact a
theorem Ad(hs:l[i]?=aA s)(ek:dS s'=dS s):(l.set i s').filterMap dS=l.filterMap dS:=by
 induction l generalizing i with
 |nil=>rfl|cons z l a=>
  cases i with
  |zero=>cases hs;rw[Rg,jO,jO,ek]|succ i=>rw[Rf,jO,jO,a hs]
theorem Ae{v w:Hq×Hq}(h:pN l)(hs:l[i]?=aA s)(e1:dS s=aA (s.tk,w))(e2:dS s'=aA (s.tk,v)):(l.set i s').filterMap dS=eP (l.filterMap dS) s.tk v/\aX (l.filterMap dS) s.tk=aA w:=by
 have hm:(s.tk,w)∈l.filterMap dS:=List.mem_filterMap.mpr ⟨s,bX hs,e1⟩;refine⟨?_,nE ((xW BJ h).imp vk) hm⟩;unfold eP;rw[if_pos (List.any_eq_true.mpr ⟨_,hm,decide_eq_true rfl⟩)];clear hm;induction l generalizing i with
 |nil=>cases hs|cons z l c=>
  have a:=List.pairwise_cons.mp h;cases i with
  |zero=>cases hs;rw[Rg,jO,jO,e1,e2,iH,if_pos rfl];refine congrArg _ ((lj λp b=>?_).trans (LX _)).symm;refine if_neg λw=>?_;have:=a.1 p.1 (BJ.subset<|List.mem_map.mpr ⟨p,b,rfl⟩);rw[w]at this;exact xU _ this
  |succ i=>
   rw[Rf,jO,jO,c a.2 hs];cases e:dS z with
   |none=>rfl|some p=>rw[iH,if_neg (by rw[xB e];exact vk<|a.1 s.tk<|List.mem_map.mpr ⟨s,bX hs,rfl⟩)]
theorem y3{t:Int}(h:pN l):∃n,l.filter (λs=>decide (s.tk<t))=l.take n:=by
 induction l with
 |nil=>exact⟨0,rfl⟩|cons z l b=>
  have a:=List.pairwise_cons.mp h;rw[jB];split
  .obtain⟨n,e⟩:=b a.2;exact⟨n+1,by rw[e,Rj]⟩
  .rename_i w;refine⟨0,List.filter_eq_nil_iff.mpr λs c y=>w ?_⟩;have:=a.1 s.tk (List.mem_map.mpr ⟨s,c,rfl⟩);exact decide_eq_true<|vP this<|of_decide_eq_true y
theorem x9{t:Int}{k:Nat}(h:pN l)(e:(l.filter<|λs=>decide (s.tk<t))[k]?=aA s):l[k]?=aA s:=by
 obtain⟨n,en⟩:=y3 h;rw[en,Qp]at e;split at e
 .exact e
 .cases e
theorem DX{t:Int}{l:Ht}:(kC t l).Sublist l:=by have:=List.reverse_sublist.mpr (KY (λu=>decide (t<=u)) (l:=l.reverse));rw[ME]at this;exact this
theorem AD{wk:Dc (Int×Int)}{f:Int×Int×Int->Bool}{g:Int}:nY (wk.filter f) g<=nY wk g:=Int.ofNat_le.mpr (List.filter_sublist.filter _).length_le
theorem CP{β:Type}{d:Dc β}(h:pN l)(nd:(d.map (·.1)).Nodup)(hd:∀p∈d,∃s∈l,s.tk=p.1):d.length<=l.length:=by
 have:=KN nd λx a=>by obtain⟨p,b,rfl⟩:=List.mem_map.mp a;obtain⟨s,hs,e⟩:=hd p b;exact List.mem_map.mpr ⟨s,hs,e⟩
 rwa [aU,aU]at this
theorem xr{t:Int}(h:pQ bg t p=aA b):(∃q∈bg,q.1=b)/\t<b:=by
 unfold pQ Am at h;split at h
 .cases h
 .rename_i w;cases h;obtain⟨q,a,e⟩:=List.mem_map.mp (Kh λz=>w (by rw[z];rfl));rw[Dz]at a;refine⟨⟨q,a.1,e⟩,?_⟩;have:=a.2;unfold mG at this;rw[bT,decide_eq_true_eq]at this;rw[<- e];exact this.1
theorem N5{l:List (Int×Hq×Hq)}(h:uQ p dr l=aA (aA (u,w))):∃q∈l,q.1=u/\q.2.2=aA w:=by
 induction l with
 |nil=>cases h|cons q l a=>
  obtain⟨t,sp,v⟩:=q;unfold uQ at h;split at h
  .cases h
  .split at h
   .cases v with
    |none=>cases h|some v=>cases h;exact⟨_,fP,rfl,rfl⟩
   .obtain⟨q,b,e⟩:=a h;exact⟨q,hW _ b,e⟩
section
variable {nw nw' tks':Int}{K K':Int->Prop}
def jn(c:Cf)(g:Int):Int:=(c.tb.getD g.toNat (1,1)).1
def Mo.xP(m:Mo)(u:Int):Prop:=∃z∈m.ac,z.tk=u/\(dS z).isSome=aB
structure mW(c:Cf)(nw bF:Int)(K:Int->Prop)(dR:Dc Int)(bg:Dc (Int×Hq))(s:Sl):Prop where
 t0:0<=s.tk
 t1:s.tk<bF
 p0:0<=s.pc
 hr:c.rs[s.pc.toNat]?=aA s.row
 wl:s.ws.length=s.row.nw
 nl:s.bH.length=s.row.nw
 wo:∀w,aA w∈s.ws->wd w
 nm:∀u,aA u∈s.bH->u<s.tk
 hw:∀w,s.eY=aA w->wd w
 pu:s.put<=nw
 s0:s.st=aD->s.fi=aD/\s.src=aD
 s1:∀τ,s.st=aA τ->s.put<τ/\τ<=nw/\aD∉s.ws
 f1:∀φ,s.fi=aA φ->φ<=nw/\∃τ,s.st=aA τ/\φ=τ+vE c.tb s.row
 sr:∀u,s.src=aA u->(u<s.tk/\K u)\/(aX dR u).isSome=aB
 ld:∀x y d,s.row = .load x y d->s.st.isSome=aB->0<=cell s.wi 0+d/\cell s.wi 0+d<c.am->s.eY.isSome=aB/\∃e,(s.tk,e)∈bg
 of:s.of=aD
theorem mW.go(i:mW c nw bF K dR bg s)(hn:nw<=nw')(ht:bF<=tks')(hs:∀u,(u<s.tk/\K u)\/(aX dR u).isSome=aB->(u<s.tk/\K' u)\/(aX gon' u).isSome=aB)(hb:∀e,(s.tk,e)∈bg->(s.tk,e)∈bg'):mW c nw' tks' K' gon' bg' s:=
 ⟨i.t0,Dk i.t1 ht,i.p0,i.hr,i.wl,i.nl,i.wo,i.nm,i.hw,rS i.pu hn,i.s0,λb e=>have z:=i.s1 b e;⟨z.1,rS z.2.1 hn,z.2.2⟩,λf e=>have z:=i.f1 f e;⟨rS z.1 hn,z.2⟩,λu e=>hs u (i.sr u e),λx y d e a p=>have z:=i.ld x y d e a p;⟨z.1,z.2.imp λ_=>hb _⟩,i.of⟩
structure MI(c:Cf)(ts:Ht)(G:Nat->Nat->Int->Prop)(e:Int)(m:Mo):Prop where
 so:pN m.ac
 sl:∀s∈m.ac,mW c e m.bF m.xP m.dR m.bg s
 sz:(m.ac.length:Int)<=c.sz
 wn:(m.wk.map (·.1)).Nodup
 w1:∀p∈m.wk,e<p.2.2/\∃s∈m.ac,s.tk=p.1/\s.fi=aD/\p.2.1=s.row.iQ/\∃τ,s.st=aA τ/\p.2.2=τ+vE c.tb s.row
 w2:∀s∈m.ac,s.st.isSome=aB->s.fi=aD->s.tk∈ts\/∃p∈m.wk,p.1=s.tk
 w3:∀g,nY m.wk g<=jn c g
 tn:ts.Nodup
 td:∀s∈m.ac,s.tk∈ts->s.fi=aD/\∃τ,s.st=aA τ/\τ+vE c.tb s.row=m.nw
 kp:m.kp=m.ac.filterMap dS
 bn:(m.bg.map (·.1)).Nodup
 b1:∀p∈m.bg,∃s∈m.ac,s.tk=p.1/\qP s.row=aB/\s.st.isSome=aB
 fl:∀x,(∀u∈m.fl x,u<m.bF)/\((m.fl x).length:Int)<=m.bF
 sd:m.sd.ok
 rm:c.am=m.sd.mem.length
 st:∀p∈m.gP,(aX m.dR p.2).isSome=aB
 l1:m.gP.length<=m.cD.length
 l2:m.dR.length<=m.cD.length
 ah:0<=m.ah
 t0:0<=m.bF
 nb:∀k s l u,m.ac[k]?=aA s->s.bH[l]?=aA (aA u)->(∃z∈m.ac,z.tk=u/\¬z.dn c.am)\/G k l u->s.ws[l]?=aA aD
theorem MI.weak(I:MI c ts G e m)(h:∀k l u,G' k l u->G k l u):MI c ts G' e m:={ I with nb:=λk s l u a b w=>I.nb k s l u a b (w.imp id<|h k l u) }
theorem MI.tW(I:MI c ts G e m)(h:0<=a):MI c ts G e { m with ah:=a }:=⟨I.so,I.sl,I.sz,I.wn,I.w1,I.w2,I.w3,I.tn,I.td,I.kp,I.bn,I.b1,I.fl,I.sd,I.rm,I.st,I.l1,I.l2,h,I.t0,I.nb⟩
theorem MI.cut{t:Int}(I:MI c ts G e m):MI c ts G e (m.cut t):=by
 have kf:∀{β:Type}{d:Dc β}{p:Int×β},p∈d->p.1<t->p∈d.filter λp=>!decide (t<=p.1):=λj hl=>List.mem_filter.mpr ⟨j,by rw[decide_eq_false (Int.not_le.mpr hl)];rfl⟩;have v:∀{β:Type}{d:Dc β}{p:Int×β},(p∈d.filter λp=>!decide (t<=p.1))->p∈d/\p.1<t:=λj=>by rw[Dz]at j;exact⟨j.1,by simpa using j.2⟩
 have o:∀{s},s∈m.ac->s.tk<t->s∈(m.cut t).ac:=λi hl=>List.mem_filter.mpr ⟨i,decide_eq_true hl⟩;have n:∀{s},s∈(m.cut t).ac->s∈m.ac/\s.tk<t:=λi=>by have:=List.mem_filter.mp i;exact⟨this.1,of_decide_eq_true this.2⟩
 refine⟨xW (List.filter_sublist.map _) I.so,λs i=>?_,rS (Int.ofNat_le.mpr (pF ..)) I.sz,oA I.wn,λp j=>?_,λs i a b=>?_,λg=>rS AD (I.w3 g),I.tn,λs i=>I.td s (n i).1,?_,oA I.bn,λp j=>?_,λx=>⟨λu q=>(I.fl x).1 u (DX.subset q),rS (Int.ofNat_le.mpr DX.length_le) (I.fl x).2⟩,I.sd,I.rm,I.st,I.l1,I.l2,I.ah,I.t0,λk s l u a b w=>I.nb k s l u (x9 I.so a) b (w.imp (λ⟨z,r,w⟩=>⟨z,(n r).1,w⟩) id)⟩
 .obtain⟨i,hl⟩:=n i;refine(I.sl s i).go (iG _) (iG _) (λu q=>q.imp (λ⟨a,b⟩=>⟨a,?_⟩) id) λe he=>kf he hl;obtain⟨z,r,e,b⟩:=b;exact⟨z,o r (by rw[e];exact vP a hl),e,b⟩
 .obtain⟨j,hl⟩:=v j;obtain⟨a,s,i,e,b⟩:=I.w1 p j;exact⟨a,s,o i (e▸hl),e,b⟩
 .obtain⟨i,hl⟩:=n i;exact(I.w2 s i a b).imp id λ⟨p,j,e⟩=>⟨p,kf j (e▸hl),e⟩
 .show m.kp.filter _=(m.ac.filter _).filterMap dS;rw[I.kp,K8 (f:=λx=>!decide (t<=x))];refine congrArg _<|Ql λs _=>?_;by_cases h:s.tk<t
  .rw[decide_eq_true h,decide_eq_false (Int.not_le.mpr h)];rfl
  .rw[decide_eq_false h,decide_eq_true (Int.not_lt.mp h)];rfl
 .obtain⟨j,hl⟩:=v j;obtain⟨s,i,e,b⟩:=I.b1 p j;exact⟨s,o i (e▸hl),e,b⟩
theorem K5(er:s'.row=s.row):(dS s').isSome=(dS s).isSome:=by unfold dS;rw[er];split<;>rfl
theorem MI.set{ts':Ht}{wk':Dc (Int×Int)}{kp':Dc (Hq×Hq)}{a:Int}(I:MI c ts G e m)(hs:m.ac[i]?=aA s)(et:s'.tk=s.tk)(er:s'.row=s.row)(en:s'.bH=s.bH)(S:mW c e m.bF m.xP m.dR bg' s')
  (wn:(wk'.map (·.1)).Nodup) (w1:∀p∈wk',(p∈m.wk/\p.1≠s.tk)\/(e<p.2.2/\s.tk=p.1/\s'.fi=aD/\p.2.1=s.row.iQ/\∃τ,s'.st=aA τ/\p.2.2=τ+vE c.tb s.row)) (w2:∀p∈m.wk,p∈wk') (w3:∀g,nY wk' g<=jn c g) (w4:s'.st.isSome=aB->s'.fi=aD->∃p∈wk',p.1=s.tk)
  (tn:ts'.Nodup) (t1:∀t∈ts,t≠s.tk->t∈ts') (td:∀t∈ts',t∈ts/\t≠s.tk) (kp:kp'=(m.ac.set i s').filterMap dS)
  (bn:(bg'.map (·.1)).Nodup) (b1:∀p∈bg',p∈m.bg\/(p.1=s.tk/\qP s.row=aB/\s'.st.isSome=aB)) (b2:∀p∈m.bg,p∈bg') (b3:s.st.isSome=aB->s'.st.isSome=aB) (ha:0<=a)
  (nd:¬s'.dn c.am->¬s.dn c.am) (hG:∀k l u,G' k l u->(∃z∈m.ac,z.tk=u/\¬z.dn c.am)\/G k l u) (hw:∀l u,s.bH[l]?=aA (aA u)->s.ws[l]?=aA aD->(∃z∈m.ac,z.tk=u/\¬z.dn c.am)\/G' i l u->s'.ws[l]?=aA aD) :
  MI c ts' G' e { m with ac:=m.ac.set i s',wk:=wk',kp:=kp',bg:=bg',ah:=a }:=by
 have hm:=bX hs;have old:∀{z},z∈m.ac->z≠s->z∈m.ac.set i s':=λf h=>Nt hs f λw=>h (I.so.eq hm f w);have cs:∀{z},z∈m.ac.set i s'->z=s'\/(z∈m.ac/\z.tk≠s.tk):=λf=>aKl I.so hs f;have st:∀u,m.xP u->({ m with ac:=m.ac.set i s',wk:=wk',kp:=kp',bg:=bg',ah:=a }:Mo).xP u:=λu ⟨z,f,e,b⟩=>by
  by_cases w:z=s
  .exact⟨s',jh hs,by rw[et,<- w];exact e,by rw[K5 er,<- w];exact b⟩
  .exact⟨z,old f w,e,b⟩
 refine⟨by show(Qu _<|m.ac.set i s').Pairwise _;rw[rC hs et];exact I.so,λz f=>?_,by show((m.ac.set i s').length:Int)<=_;rw[tN];exact I.sz,wn,λp o=>?_,λz f a b=>?_,w3,tn,λz f ht=>?_,kp,bn,λp o=>?_,I.fl,I.sd,I.rm,I.st,I.l1,I.l2,ha,I.t0,λk z l u r hn w=>?_⟩
 .have go:∀{z},mW c e m.bF m.xP m.dR bg' z->mW c e m.bF ({ m with ac:=m.ac.set i s',wk:=wk',kp:=kp',bg:=bg',ah:=a }:Mo).xP m.dR bg' z:=λS=>S.go (iG _) (iG _) (λu B=>B.imp (λw=>⟨w.1,st u w.2⟩) id) λ_=>id;rcases cs f with rfl|⟨f,_⟩
  .exact go S
  .exact go<|(I.sl z f).go (iG _) (iG _) (λ_=>id) λe=>b2 _
 .rcases w1 p o with⟨o,ne⟩|⟨n,j,q,C,D⟩
  .obtain⟨n,z,f,j,q⟩:=I.w1 p o;exact⟨n,z,Nt hs f (j▸ne),j,q⟩
  .exact⟨n,s',jh hs,et.trans j,q,er▸C,er▸D⟩
 .rcases cs f with rfl|⟨f,ne⟩
  .rw[et];exact .inr<|w4 a b
  .exact(I.w2 z f a b).imp (λh=>t1 _ h ne) λ⟨p,o,e⟩=>⟨p,w2 p o,e⟩
 .obtain⟨n,j⟩:=td _ ht;rcases cs f with rfl|⟨f,ne⟩
  .exact absurd et j
  .exact I.td z f n
 .rcases b1 p o with o|⟨n,j,q⟩
  .obtain⟨z,f,n,j,q⟩:=I.b1 p o;by_cases w:z=s
   .subst w;exact⟨s',jh hs,et.trans n,er▸j,b3 q⟩
   .exact⟨z,old f w,n,j,q⟩
  .exact⟨s',jh hs,et.trans n.symm,er▸j,q⟩
 .have x:(∃z∈m.ac,z.tk=u/\¬z.dn c.am)\/G' k l u:=w.imp (λ⟨y,v,e,d⟩=>by
   rcases cs v with rfl|⟨v,_⟩
   .exact⟨s,hm,et.symm.trans e,nd d⟩
   .exact⟨y,v,e,d⟩) id
  have A:=x.elim .inl (hG k l u);rcases GU hs r with⟨rfl,rfl⟩|⟨ne,r⟩
  .rw[en]at hn;exact hw l u hn (I.nb k s l u hs hn A) x
  .exact I.nb k z l u r hn A
end
theorem MI.HG(I:MI c ts G e m)(hm:s∈m.ac)(ni:aD∈s.ws):s.st=aD/\s.fi=aD/\s.src=aD:=by
 have S:=I.sl s hm;have st:s.st=aD:=by
  cases e:s.st with
  |none=>rfl|some a=>exact absurd ni (S.s1 a e).2.2
 exact⟨st,S.s0 st⟩
theorem MI.Lg(I:MI c ts G e m)(hm:s∈m.ac)(st:s.st=aD):s.tk∉ts/\∀p∈m.wk,p.1≠s.tk:=by
 refine⟨λh=>?_,λp b w=>?_⟩
 .obtain⟨_,d,e,_⟩:=I.td s hm h;rw[st]at e;cases e
 .obtain⟨_,z,f,g,_,_,d,a,_⟩:=I.w1 p b;rw[I.so.eq hm f (g.trans w),st]at a;cases a
theorem MI.Ax{b:Int}(I:MI c ts G e m):0<=Ax (m.slot b):=by
 cases h:m.slot b with
 |none=>exact iG _|some z=>exact(I.sl z<|cv h).p0
theorem qZ{d:Int}(er:s.row = .store x y d):dS s=aA (s.tk,((s.ws[1]?).join).map (·+d),(s.ws[0]?).join):=by unfold dS;rw[er]
theorem MI.gv(I:MI c ts G e m)(hs:m.ac[i]?=aA s)(hj:s.ws[j]?=aA aD):yL m s j:=by
 refine⟨(I.HG (bX hs)<|bX hj).2.1,(List.getElem?_eq_some_iff.mp hj).1,λx y d a=>?_,λt p b f=>?_⟩
 .refine⟨_,by rw[I.kp];exact(Ae I.so hs (qZ a)<|qZ a).2,λe=>?_,λe=>?_⟩
  .subst e;rw[hj];rfl
  .subst e;rw[hj];rfl
 .obtain⟨⟨q,g,e⟩,_⟩:=xr f;obtain⟨s,hs,h,_⟩:=I.b1 q g;exact⟨s,by rw[<- e,<- h];exact vG hs I.so⟩
theorem MI.word(I:MI c ts G e m)(hs:m.ac[i]?=aA s)(hj:s.ws[j]?=aA aD)(hw:wd w)(hg:∀k l u,G' k l u->G k l u)(hn:∀u,s.bH[j]?=aA (aA u)->(∀z∈m.ac,z.tk=u->z.dn c.am)/\¬G' i j u):MI c ts G' e { m with ac:=m.ac.set i { s with ws:=s.ws.set j (aA w) },kp:=(m.ac.set i { s with ws:=s.ws.set j (aA w) }).filterMap dS }:=by
 have hm:=bX hs;have S:=I.sl s hm;obtain⟨st,fi,sr⟩:=I.HG hm (bX hj);obtain⟨n1,n2⟩:=I.Lg hm st;have ns:∀{p:Prop},s.st.isSome=aB->p:=λh=>by rw[st]at h;cases h
 refine I.set hs rfl rfl rfl ⟨S.t0,S.t1,S.p0,S.hr,by show(s.ws.set j<|aA w).length=_;rw[tN];exact S.wl,S.nl,λv hv=>?_,S.nm,S.hw,S.pu,S.s0,λτ e=>ns (by rw[show s.st=aA τ from e];rfl),S.f1,S.sr,λx y d _ h=>ns h,S.of⟩ I.wn (λp hp=>.inl ⟨hp,n2 p hp⟩) (λ_=>id) I.w3 (λh=>ns h) I.tn (λ_ h _=>h) (λt h=>⟨h,λw=>n1 (w▸h)⟩) rfl I.bn (λ_=>.inl) (λ_=>id) id I.ah (λ_ h=>by have:=h.1;rw[fi]at this;cases this) (λk l u h=>.inr (hg k l u h)) λl u a b w'=>?_
 .rcases Ea hv with h|h
  .exact S.wo v h
  .cases h;exact hw
 .by_cases h:j=l
  .subst h;obtain⟨h1,h2⟩:=hn u a;exact(w'.elim (λ⟨z,hz,e,d⟩=>d (h1 z hz e)) h2).elim
  .exact(lO h).trans b
theorem MI.give(I:MI c ts G e m)(hs:m.ac[i]?=aA s)(hj:s.ws[j]?=aA aD)(hw:wd w)(hg:∀k l u,G' k l u->G k l u)(hn:∀u,s.bH[j]?=aA (aA u)->(∀z∈m.ac,z.tk=u->z.dn c.am)/\¬G' i j u):MI c ts G' e (m.give i j w):=by
 have W:=I.word hs hj hw hg hn;have jl:=(List.getElem?_eq_some_iff.mp hj).1;unfold Mo.give;rw[hs];dsimp only;split
 .rename_i x y d ev a b;have nl:s.ws.length=2:=by rw[(I.sl s<|bX hs).wl,a];rfl
  have key:∀v,dS { s with ws:=s.ws.set j (aA w) }=aA (s.tk,v)->(MI c ts G' e { m.cZ i { s with ws:=s.ws.set j (aA w) }with kp:=eP m.kp s.tk v }/\ev=(((s.ws[1]?).join).map (·+d),(s.ws[0]?).join)):=λv g=>by obtain⟨k1,k2⟩:=Ae I.so hs (qZ a) g;rw[k1,<- I.kp]at W;rw[<- I.kp,b]at k2;exact⟨W,dI k2⟩
  split
  .rename_i h;subst h;obtain⟨K,rfl⟩:=key _ ((qZ (s:={ s with ws:=s.ws.set 0 (aA w) }) a).trans (by show aA (s.tk,((s.ws.set 0<|aA w)[1]?).join.map (·+d),((s.ws.set 0<|aA w)[0]?).join)=_;rw[lO (by decide),mQ jl]));exact K
  .rename_i h;have:j=1:=by lia
   subst this;obtain⟨K,rfl⟩:=key _ ((qZ (s:={ s with ws:=s.ws.set 1 (aA w) }) a).trans (by show aA (s.tk,((s.ws.set 1<|aA w)[1]?).join.map (·+d),((s.ws.set 1<|aA w)[0]?).join)=_;rw[mQ jl,lO (by decide)]));unfold Mo.place;split
   .exact K
   .exact(K.tW W.Ax).cut
 .rename_i f;have b:(m.ac.set i { s with ws:=s.ws.set j (aA w) }).filterMap dS=m.kp:=(Ad hs (by
   unfold dS;split
   .rename_i x y d a;exact absurd (by rw[I.kp];exact(Ae I.so hs (qZ a)<|qZ a).2)<|f x y d _ a
   .rfl)).trans I.kp.symm
  rw[b]at W;exact W
theorem C5(hp:pN m.ac)(hs:m.ac[i]?=aA s)(hz:z∈m.ac)(hl:z.tk<s.tk):z∈(m.give i j w).ac:=by
 have a:z∈m.ac.set i { s with ws:=s.ws.set j (aA w) }:=Nt hs hz (vk hl);unfold Mo.give;rw[hs];dsimp only;split
 .split
  .exact a
  .unfold Mo.place;split
   .exact a
   .exact List.mem_filter.mpr ⟨a,decide_eq_true (vP hl (xr ‹_›).2)⟩
 .exact a
def Mo.ct(m:Mo):Int×Int×Hr×Bool:=(m.nw,m.bF,m.cD,m.brk)
theorem Zy:(m.give i j w).ct=m.ct:=by
 unfold Mo.give;split
 .rfl
 .split
  .split
   .rfl
   .unfold Mo.place;split<;>rfl
  .rfl
theorem Yc.give{Y:Mo->Prop}(H:Yc Y)(hs:m.ac[i]?=aA s)(y:Y m):Y (m.give i j w):=by
 have e:(m.ac.set i { s with ws:=s.ws.set j (aA w) }).map Sl.cr=m.ac.map Sl.cr:=rC hs rfl;unfold Mo.give;rw[hs];dsimp only;split
 .split
  .exact H.u e rfl y
  .unfold Mo.place;split
   .exact H.u e rfl y
   .exact H.c ⟨_,jh hs,Qf (xr ‹_›).2⟩<|H.u e rfl y
 .exact H.u e rfl y
theorem MI.gl(I:MI c ts G e m)(hs:m.ac[i]?=aA s)(hl:m.ac.length=i+1):(m.give i j w).ac.map Sl.cr=m.ac.map Sl.cr/\(m.give i j w).fl=m.fl:=by
 have e:(m.ac.set i { s with ws:=s.ws.set j (aA w) }).map Sl.cr=m.ac.map Sl.cr:=rC hs rfl;unfold Mo.give;rw[hs];dsimp only;split
 .split
  .exact⟨e,rfl⟩
  .unfold Mo.place;split
   .exact⟨e,rfl⟩
   .obtain⟨⟨q,d,eq⟩,lt⟩:=xr ‹_›;obtain⟨z,f,b,_⟩:=I.b1 q d;obtain⟨k,a⟩:=Dt f;obtain⟨kl,g⟩:=List.getElem?_eq_some_iff.mp a;obtain⟨h,l⟩:=List.getElem?_eq_some_iff.mp hs;rcases Nat.lt_or_eq_of_le (Nat.le_of_lt_succ<|hl▸kl)with c|c
    .have:=List.pairwise_iff_getElem.mp I.so k i (by rw[aU];exact kl) (by rw[aU];exact h) c;rw[Dw,Dw,g,l,b,eq]at this;exact absurd this<|Int.lt_asymm lt
    .subst c;rw[hs]at a;cases a;exact absurd lt (by rw[b,eq];exact xU _)
 .exact⟨e,rfl⟩
section
variable {nw:Int}{K:Int->Prop}
structure mU(c:Cf):Prop where
 rs:∀r∈c.rs,rK r
 tb:Uq c.tb
 sz:c.sz<=32
 w0:1<=c.wd
 w8:c.wd<=8
 rm:c.am<=80
theorem JL(S:mW c nw bF K dR bg s):kY s.wi:=λx a=>by
 obtain⟨o,b,rfl⟩:=List.mem_map.mp a;cases o with
 |none=>exact⟨by decide,by decide⟩|some v=>exact S.wo v b
theorem Pn(h:aD∉s.ws):s.ws=s.wi.map aA:=by
 unfold Sl.wi;rw[jE];refine((lj λo a=>?_).trans (LX _)).symm;cases o with
 |none=>exact absurd a h|some v=>rfl
theorem mW.ok(S:mW c nw bF K dR bg s)(X:mU c):rK s.row:=X.rs _ (bX S.hr)
theorem Hd(S:mW c nw bF K dR bg s)(X:mU c)(h:s.d3 c.am=aA w):wd w:=by
 have ww:=JL S;have key:∀r,rK r->aM.ft s.wi c.am r=aD->aM.Gd s.wi s.eY r=aA w->wd w:=λr ok f h=>by
  cases r with
  |way v x y z=>
   cases h;have a:=gb ww (i:=0);have b:=gb ww (i:=1);exact aRf a.1 a.2 b.1 b.2 λe=>by have f:cond v.sr (if cell s.wi 1=0 then aA (AV.tup [.str "nought",.int (cell s.wi 0)]) else aD) aD=aD:=f;rw[e.1,if_pos e.2]at f;cases f
  |set x v=>cases h;exact ok.2|move x y=>cases h;exact gb ww|load x y d=>exact S.hw w h|store x y d=>cases h;exact gb ww|_=>cases h
 unfold Sl.d3 nF Sl.ft at h;split at h
 .exact key _ (S.ok X) ‹_› h
 .cases h
theorem AE(ok:rK r)(h:0<=p):0<=r.gs p ws:=by
 cases r with
 |go t=>exact ok|fU x t=>show 0<=ite _ _ _;split;exact ok.2;lia|_=>show 0<=p+1;lia
end
section
variable {t nw:Int}{K:Int->Prop}
abbrev nG:Nat->Nat->Int->Prop:=λ_ _ _=>False
theorem AZ(h:s.d1 c.am=aA w):s.ft c.am=aD/\aM.fx s.row=aA w:=by
 unfold Sl.d1 nF at h;split at h
 .exact⟨‹_›,h⟩
 .cases h
theorem Hc(S:mW c nw bF K dR bg s)(st:s.st.isSome=aB)(f:s.ft c.am=aD)(h:(aM.fx s.row).isSome=aB\/(dS s).isSome=aB):∃w,s.d3 c.am=aA w:=by
 have ld:=S.ld;unfold Sl.d3;rw[f];unfold Sl.ft at f;unfold dS at h;revert h f ld
 cases s.row with
 |load x y d=>
  intro f _ ld;have f:(if 0<=cell s.wi 0+d/\cell s.wi 0+d<c.am then aD else aA (AV.tup [.str "place",.int (cell s.wi 0+d)]))=aD:=f;by_cases a:0<=cell s.wi 0+d/\cell s.wi 0+d<c.am
  .exact Option.isSome_iff_exists.mp (ld x y d rfl st a).1
  .rw[if_neg a]at f;cases f
 |fU x t=>intro _ h _;rcases h with h|h<;>cases h
 |go t=>intro _ h _;rcases h with h|h<;>cases h
 |fault v=>intro f;cases f|_=>exact λ_ _ _=>⟨_,rfl⟩
theorem MI.fin(I:MI c (t::ts) nG m.nw m)(hs:m.ac[i]?=aA s)(et:s.tk=t):MI c ts (λ_ _ u=>u=s.tk) m.nw (m.cZ i { s with fi:=aA m.nw }):=by
 have hm:=bX hs;have S:=I.sl s hm;obtain⟨fi,o,st,f⟩:=I.td s hm (et▸fP);have tn:=List.nodup_cons.mp I.tn;have nd:¬s.dn c.am:=λh=>by have:=h.1;rw[fi]at this;cases this
 refine I.set hs rfl rfl rfl ⟨S.t0,S.t1,S.p0,S.hr,S.wl,S.nl,S.wo,S.nm,S.hw,S.pu,λh=>(by rw[show s.st=aD from h]at st;cases st),S.s1,λx h=>?_,S.sr,S.ld,S.of⟩ I.wn (λp g=>.inl ⟨g,λw=>?_⟩) (λ_=>id) I.w3 (λ_ h=>nomatch h) tn.2 (λu d ne=>(List.mem_cons.mp d).resolve_left λw=>ne (w.trans et.symm)) (λu d=>⟨hW _ d,λw=>tn.1 (by rw[<- et,<- w];exact d)⟩) (I.kp.trans (Ad (s':={ s with fi:=aA m.nw }) hs rfl).symm) I.bn (λ_=>.inl) (λ_=>id) id I.ah (λ_=>nd) (λk l u h=>.inl ⟨s,hm,h.symm,nd⟩) λl u a b y=>b
 .cases h;exact⟨iG _,o,st,f.symm⟩
 .obtain⟨j,z,q,r,_,_,v,e,n⟩:=I.w1 p g;rw[I.so.eq hm q (r.trans w)]at e n;rw[st]at e;cases e;rw[n,f]at j;exact xU _ j
theorem J1:(m.jmp c.am s).ct=m.ct:=by
 unfold Mo.jmp;split
 .split<;>rfl
 .rfl
theorem Yc.jmp{Y:Mo->Prop}(H:Yc Y)(hs:s∈m.ac)(y:Y m):Y (m.jmp c.am s):=by
 unfold Mo.jmp;split
 .split
  .exact y
  .exact H.c ⟨s,hs,Qf (Qh _)⟩<|H.u (m:=m) rfl rfl y
 .exact y
theorem y6{Y Z:Mo->Prop}(H:Yc Y)(y:Y m)(X:mU c)(I:MI c (t::ts) nG m.nw m)(hs:m.ac[i]?=aA s)(et:s.tk=t)(hZ:∀m',MI c ts nG m'.nw m'->m'.ct=m.ct->Y m'->Z m'):∃s',Ud c m i s s' Z:=by
 have hm:=bX hs;have S:=I.sl s hm;obtain⟨fi,J,st,N⟩:=I.td s hm (et▸fP);have F:=I.fin hs et;obtain⟨s',o⟩:∃s':Sl,s'={ s with fi:=aA m.nw }:=⟨_,rfl⟩;rw[<- o]at F;have tk:s'.tk=s.tk:=by rw[o]
 have j:s'∈(m.cZ i s').ac:=jh hs;have v:=F.sl s' j;have E:Y (m.cZ i s'):=H.u (rC hs (by rw[o];rfl)) rfl y;refine⟨s',⟨λq C d=>MI c ts (λk l u=>u=s.tk/\(q<k\/(q=k/\C<=l))) m.nw d/\s'∈d.ac/\d.ct=m.ct/\Y d,λd=>MI c ts nG m.nw d/\s'∈d.ac/\d.ct=m.ct/\Y d,o,Pn (S.s1 J st).2.2,JL S,fi,λd h=>h.2.1,λ_=>⟨F.weak λ_ _ _=>lN,j,rfl,E⟩,λx K=>?_,λq d z h _=>⟨h.1.weak λk l u ⟨a,b⟩=>⟨a,.inl (by lia)⟩,h.2⟩,λn d h _=>⟨h.1.weak λ_ _ _=>lN,h.2⟩,λd h=>?_⟩⟩
 .obtain⟨f,fx⟩:=AZ K;obtain⟨w,hw⟩:=Hc v (by rw[o];rw[st];rfl) f (.inl (by rw[fx];rfl));refine⟨w,hw,⟨F.weak λk l u h=>h.1,j,rfl,E⟩,λq C d z h p O=>⟨λhn=>?_,λhn=>⟨h.1.weak λk l u ⟨a,b⟩=>⟨a,by omega⟩,h.2⟩⟩⟩;obtain⟨g,A,B,D⟩:=h;rw[tk]at hn;have r:=g.nb q z C s.tk p hn (.inr ⟨rfl,.inr ⟨rfl,aV _⟩⟩);refine⟨g.gv p r,g.give p r (Hd v X hw) (λk l u ⟨a,b⟩=>⟨a,by omega⟩) λu G=>?_,C5 g.so p A (by rw[tk];exact(g.sl z<|bX p).nm _ (bX hn)),Zy.trans B,H.give p D⟩;rw[hn]at G;cases G;refine⟨λy L e=>?_,λh=>by lia⟩;rw[g.so.eq A L (e.trans tk.symm)];exact⟨by rw[o];rfl,f⟩
 .obtain⟨g,A,B,D⟩:=h;have M:d.nw=m.nw:=congrArg (·.1) B;have g:=M▸g;refine hZ _ ?_ (J1.trans B)<|H.jmp A D;unfold Mo.jmp;split
  .split
   .exact g
   .have:0<=(s'.d4 c.am).getD 0:=by
     unfold Sl.d4 nF;split
     .exact AE (v.ok X) v.p0
     .exact iG _
    exact(g.tW this).cut
  .exact g
end
section
variable {t:Int}
theorem MI.YS(I:MI c [] nG (m.nw-1) m):MI c (kX aH<|pX m.wk m.nw) nG m.nw { m with wk:=m.wk.filter λp=>!decide (p.2.2<=m.nw) }:=by
 have pm:=Ny aH (pX m.wk m.nw);have i:∀{p:Int×Int×Int},(p∈m.wk.filter λp=>!decide (p.2.2<=m.nw))↔p∈m.wk/\m.nw<p.2.2:=λ{p}=>by simp
 refine⟨I.so,λs f=>(I.sl s f).go (by lia) (iG _) (λ_=>id) λ_=>id,I.sz,oA I.wn,λp d=>⟨(i.mp d).2,(I.w1 p (i.mp d).1).2⟩,λs f a b=>?_,λg=>rS AD (I.w3 g),pm.nodup_iff.mpr (oA I.wn),λs f ht=>?_,I.kp,I.bn,I.b1,I.fl,I.sd,I.rm,I.st,I.l1,I.l2,I.ah,I.t0,I.nb⟩
 .rcases I.w2 s f a b with h|⟨p,d,e⟩
  .cases h
  .by_cases w:p.2.2<=m.nw
   .exact .inl<|pm.mem_iff.mpr<|List.mem_map.mpr ⟨p,List.mem_filter.mpr ⟨d,decide_eq_true w⟩,e⟩
   .exact .inr ⟨p,i.mpr ⟨d,Int.not_le.mp w⟩,e⟩
 .obtain⟨p,d,e⟩:=List.mem_map.mp (pm.mem_iff.mp ht);obtain⟨d,w⟩:=List.mem_filter.mp d;obtain⟨r,z,l,n,j,_,o,k,q⟩:=I.w1 p d;have w:=of_decide_eq_true w;rw[I.so.eq f l (n.trans e)]at j k q;exact⟨j,o,k,by show _=m.nw;lia⟩
theorem ae{β:Type}{l:Dc β}(h:∀p∈l,p.1≠x):aX l x=aD:=by unfold aX;rw[List.find?_eq_none.mpr λp a z=>h p a (of_decide_eq_true z)];rfl
theorem D1{r:aM}:∃n:Nat,n<5/\r.iQ=n:=by
 cases r with
 |way w=>cases w<;>first|exact⟨0,by decide,rfl⟩|exact⟨1,by decide,rfl⟩|exact⟨2,by decide,rfl⟩
 |load=>exact⟨3,by decide,rfl⟩|store=>exact⟨3,by decide,rfl⟩|set=>exact⟨0,by decide,rfl⟩|move=>exact⟨0,by decide,rfl⟩|_=>exact⟨4,by decide,rfl⟩
theorem aOd(X:mU c):cN (c.tb.map eR) r.iQ=aA (eR (jn c r.iQ,vE c.tb r))/\1<=vE c.tb r:=by
 obtain⟨h1,a⟩:=X.tb;obtain⟨n,hn,e⟩:=@D1 r;have hl:n<c.tb.length:=by lia
 have b:c.tb.getD n (1,1)=c.tb[n]:=by rw[Ds,eM hl];rfl
 unfold jn vE;rw[e,rT,b];exact⟨L2.oy (by rw[fO,eM hl];rfl),(a _<|LR hl).2.1⟩
theorem D2{wk:Dc (Int×Int)}{p:Int×Int×Int}{g:Int}:nY (wk++[p]) g=nY wk g+if p.2.1=g then 1 else 0:=by
 unfold nY;rw[xY,dQ];congr 1
 by_cases h:p.2.1=g
 .rw[if_pos h,jB,decide_eq_true h];rfl
 .rw[if_neg h,jB,decide_eq_false h];rfl
theorem MI.sU{l:Option (Int×Hq×Int)}(I:MI c ts G e m)(h:m.sU c.am s=aA l):(l=aD/\∀x y d,s.row = .load x y d->¬(0<=cell s.wi 0+d/\cell s.wi 0+d<c.am))\/∃p u w,l=aA (p,u,w)/\qP s.row=aB/\wd w/\∀v,u=aA v->(v<s.tk/\m.xP v)\/(aX m.dR v).isSome=aB:=by
 unfold Mo.sU at h;split at h
 .rename_i x y d g;have j:qP s.row=aB:=by rw[g];rfl
  split at h
  .split at h
   .cases h
   .cases h;exact .inr ⟨_,_,_,rfl,j,gb I.sd.mw,λv b=>.inr (I.st _<|sv b)⟩
   .rename_i u w hl;cases h;obtain⟨q,f,k,o⟩:=N5 hl;rw[List.mem_reverse,Dz,I.kp]at f;obtain⟨z,n,a⟩:=List.mem_filterMap.mp f.1;refine .inr ⟨_,_,_,rfl,j,?_,λv b=>.inl ⟨?_,z,n,?_,by rw[a];rfl⟩⟩
    .unfold dS at a;split at a
     .cases a;exact(I.sl z n).wo w (bX (i:=0)<|Option.join_eq_some_iff.mp o)
     .cases a
    .cases b;rw[<- k];exact of_decide_eq_true f.2
    .cases b;rw[<- (xB a),k]
  .rename_i r;cases h;exact .inl ⟨rfl,λt A B e=>by rw[g]at e;cases e;exact r⟩
 .rename_i nl;cases h;exact .inl ⟨rfl,λx y d e=>absurd e (nl x y d)⟩
theorem aLv{t:Int×Int}:(m.start c t i s).ct=m.ct:=by
 unfold Mo.start;split
 .split<;>rfl
 .rfl
theorem Yc.start{Y:Mo->Prop}(H:Yc Y){t:Int×Int}(hs:m.ac[i]?=aA s)(y:Y m):Y (m.start c t i s):=by
 unfold Mo.start;split
 .split
  .exact y
  .rename_i l _;exact H.u (rC hs (by cases l<;>rfl)) rfl y
 .exact y
theorem MI.start(X:mU c)(I:MI c [] nG m.nw m)(hs:m.ac[i]?=aA s)(hp:s.put<m.nw)(st:s.st=aD)(hw:s.ws.all ly=aB) :
  ∃t,xg c m s/\cN (c.tb.map eR) s.row.iQ=aA (eR t)/\aX m.wk s.tk=aD/\m.wk.length<63/\MI c [] nG m.nw (m.start c t i s):=by
 have hm:=bX hs;have S:=I.sl s hm;obtain⟨fi,sr⟩:=S.s0 st;obtain⟨_,n⟩:=I.Lg hm st;have nn:aD∉s.ws:=λh=>nomatch List.all_eq_true.mp hw aD h;have bg:∀p∈m.bg,p.1≠s.tk:=λp hp w=>by obtain⟨z,o,C,_,B⟩:=I.b1 p hp;rw[I.so.eq hm o (C.trans w),st]at B;cases B
 obtain⟨ta,tl⟩:=aOd X;have sz:=I.sz;have:=X.sz;have bl:=CP I.so I.bn λp hp=>(I.b1 p hp).imp λ_ z=>⟨z.1,z.2.1⟩;have wl:=CP I.so I.wn λp hp=>(I.w1 p hp).2.imp λ_ z=>⟨z.1,z.2.1⟩;refine⟨_,⟨fi,Pn nn,ae bg,λx y d j=>ae λp hp w=>?_,by lia,I.rm⟩,ta,ae n,by lia,?_⟩
 .rw[I.kp]at hp;obtain⟨z,o,k⟩:=List.mem_filterMap.mp hp;rw[I.so.eq hm o ((xB k).symm.trans w)]at k;unfold dS at k;rw[j]at k;cases k
 unfold Mo.start;split
 .rename_i D;have key:∀src eY (f:Dc (Int×Hq)),(∀u,src=aA u->(u<s.tk/\m.xP u)\/(aX m.dR u).isSome=aB)->(∀w,eY=aA w->wd w)->(∀x y d,s.row = .load x y d->0<=cell s.wi 0+d/\cell s.wi 0+d<c.am->eY.isSome=aB/\∃e,(s.tk,e)∈f)->(f.map (·.1)).Nodup->(∀p∈f,p∈m.bg\/(p.1=s.tk/\qP s.row=aB))->(∀p∈m.bg,p∈f) ->
    MI c [] nG m.nw { m.cZ i { s with src:=src,eY:=eY,st:=aA m.nw }with bg:=f,wk:=m.wk++[(s.tk,s.row.iQ,m.nw+vE c.tb s.row)] }:=λsrc eY f q r A E F G=>by
   refine I.set hs rfl rfl rfl ⟨S.t0,S.t1,S.p0,S.hr,S.wl,S.nl,S.wo,S.nm,r,S.pu,(nofun),λK h=>(by cases h;exact⟨hp,iG _,nn⟩),(λH h=>by rw[show s.fi=aA H from h]at fi;cases fi),q,λx y d j _=>A x y d j,S.of⟩ (An I.wn<|ae n) (λp hp=>?_) (λp hp=>vQ _ hp) (λg=>?_) (λ_ _=>⟨_,iI _ (List.mem_singleton.mpr rfl),rfl⟩) I.tn (λ_ h=>nomatch h) (λ_ h=>nomatch h) (I.kp.trans (Ad (s':={ s with src:=src,eY:=eY,st:=aA m.nw }) hs rfl).symm) E (λp hp=>(F p hp).imp id λw=>⟨w.1,w.2,rfl⟩) G (λ_=>rfl) I.ah (λ_ h=>by have:=h.1;rw[fi]at this;cases this) (λ_ _ _ h=>h.elim) λl u a b L=>b
   .rcases List.mem_append.mp hp with hp|hp
    .exact .inl ⟨hp,n p hp⟩
    .cases List.mem_singleton.mp hp;exact .inr ⟨by show m.nw<m.nw+vE c.tb s.row;omega,rfl,fi,rfl,_,rfl,rfl⟩
   .rw[D2];split
    .rename_i h;have h:s.row.iQ=g:=h;rw[h]at D;omega
    .have:=I.w3 g;omega
  split
  .exact I
  .rename_i l hl;rcases I.sU hl with⟨rfl,h⟩|⟨p,u,w,rfl,q,r,A⟩
   .exact key s.src s.eY m.bg S.sr S.hw (λx y d j J=>absurd J (h x y d j)) I.bn (λ_=>.inl) λ_=>id
   .exact key u (aA w) (m.bg++[(s.tk,p,u)]) A (λv e=>by cases e;exact r) (λx y d j _=>⟨rfl,_,iI _ (List.mem_singleton.mpr rfl)⟩) (An I.bn<|ae bg) (λp hp=>(List.mem_append.mp hp).imp id λh=>by rw[List.mem_singleton.mp h];exact⟨rfl,q⟩) λp hp=>vQ _ hp
 .exact I
end
section
variable {a:Nat}
theorem aSz(h:rK r):∀x∈r.dB,0<=x/\x<8:=by
 cases r with
 |way w x y z=>intro v hv;rcases List.mem_cons.mp hv with rfl|hv;exact h.2.1;rw[List.mem_singleton.mp hv];exact h.2.2
 |store x y d=>intro v hv;rcases List.mem_cons.mp hv with rfl|hv;exact h.1;rw[List.mem_singleton.mp hv];exact h.2
 |move x y=>intro v hv;rw[List.mem_singleton.mp hv];exact h.2|load x y d=>intro v hv;rw[List.mem_singleton.mp hv];exact h.2|fU x t=>intro v hv;rw[List.mem_singleton.mp hv];exact h.1|_=>exact λ_ h=>nomatch h
theorem MI.en(X:mU c)(I:MI c [] nG e m)(hl:(m.ac.length:Int)<c.sz)(hr:c.rs[m.ah.toNat]?=aA row)(ht:m.bF<9000):nu c m row:=by
 have:=X.sz;refine⟨hr,I.ah,X.rs _ (bX hr),I.t0,λs d=>(I.sl s d).t1,λy u h=>(I.fl y).1 u (MA h),λp a=>?_,ae λp a w=>?_,by lia,?_,λx=>?_⟩
 .rw[I.kp]at a;obtain⟨z,b,f⟩:=List.mem_filterMap.mp a;rw[xB f];exact(I.sl z b).t1
 .obtain⟨z,b,g,_⟩:=I.b1 p a;have:=(I.sl z b).t1;rw[g,w]at this;exact xU _ this
 .have:=aTo dS m.ac;rw[I.kp];lia
 .have:=(I.fl x).2;lia
theorem MI.enter(I:MI c [] nG m.nw m)(hl:(m.ac.length:Int)<c.sz)(hr:c.rs[m.ah.toNat]?=aA row):MI c [] nG m.nw (m.enter row a):=by
 obtain⟨s0,d⟩:∃s0,s0=m.tI row a:=⟨_,rfl⟩;have ml:∀{z},z∈m.ac->z∈m.ac++[s0]:=λh=>vQ _ h;have cs:∀{z},z∈m.ac++[s0]->z∈m.ac\/z=s0:=λh=>(List.mem_append.mp h).imp id List.mem_singleton.mp;have lt:=λz b=>(I.sl z b).t1;unfold Mo.enter;rw[<- d];have le:m.bF<=m.bF+1:=by lia
 refine⟨?_,λz b=>?_,?_,I.wn,λp i=>?_,λz b h=>?_,I.w3,I.tn,(λ_ _ h=>nomatch h),?_,I.bn,λp i=>(I.b1 p i).imp λz h=>⟨ml h.1,h.2⟩,λx=>?_,I.sd,I.rm,I.st,I.l1,I.l2,I.ah,rS I.t0 le,λk z l u e hn w=>?_⟩
 .show(Qu _<|m.ac++[s0]).Pairwise _;rw[gB,Qy];refine⟨I.so,vn ..,λx n y f=>?_⟩;obtain⟨z,b,rfl⟩:=List.mem_map.mp n;rw[List.mem_singleton.mp f,d];exact lt z b
 .rcases cs b with b|rfl
  .exact(I.sl z b).go (iG _) le (λu hu=>hu.imp (λh=>⟨h.1,h.2.imp λ_ y=>⟨ml y.1,y.2⟩⟩) id) λ_=>id
  .subst d;refine⟨I.t0,Qh _,I.ah,hr,Dx ..,(aU ..).trans bz,(λw h=>nomatch LA h),λu h=>?_,(nofun),iG _,λ_=>⟨rfl,rfl⟩,(nofun),(nofun),(nofun),(λ_ _ _ _ h=>nomatch h),rfl⟩;obtain⟨x,_,h⟩:=List.mem_map.mp h;exact(I.fl x).1 u (MA h)
 .show((m.ac++[s0]).length:Int)<=_;rw[dQ];exact hl
 .obtain⟨o,z,b,h⟩:=I.w1 p i;exact⟨o,z,ml b,h⟩
 .rcases cs b with b|rfl
  .exact I.w2 z b h
  .rw[d]at h;cases h
 .show ig m.kp row m.bF=(m.ac++[s0]).filterMap dS;rw[Dq,<- I.kp];subst d;cases row<;>first|rfl|exact(jY _).symm
 .show(∀u∈lW m.fl row m.bF x,u<m.bF+1)/\((lW m.fl row m.bF x).length:Int)<=m.bF+1;have old:(∀u∈m.fl x,u<m.bF+1)/\((m.fl x).length:Int)<=m.bF+1:=⟨λu hu=>Dk ((I.fl x).1 u hu) le,rS (I.fl x).2 le⟩;cases j:aM.fx row with
  |some y=>
   rw[show lW m.fl row m.bF=lL m.fl y (m.fl y++[m.bF]) by unfold lW;rw[j]];unfold lL;by_cases h:x=y
   .subst h;rw[if_pos rfl];refine⟨λu hu=>?_,by rw[dQ];exact Int.add_le_add_right (I.fl x).2 1⟩;rcases List.mem_append.mp hu with hu|hu
    .exact old.1 u hu
    .rw[List.mem_singleton.mp hu];exact Qh _
   .rw[if_neg h];exact old
  |none=>rw[show lW m.fl row m.bF=m.fl by unfold lW;rw[j]];exact old
 .have e:=e;by_cases h:k<m.ac.length
  .rw[rW h]at e;have b:=bX e;refine I.nb k z l u e hn<|.inl ?_;obtain⟨y,f,g,q⟩:=w.resolve_right id;rcases cs f with f|rfl
   .exact⟨y,f,g,q⟩
   .have:=(I.sl z b).nm u (bX hn);have:=lt z b;rw[d]at g;have g:m.bF=u:=g;lia
  .rw[lh (vo h)]at e;have:=List.mem_singleton.mp (bX e);subst this;subst d;have hl:=(List.getElem?_eq_some_iff.mp hn).1;show(eN row.nw aD)[l]?=_;rw[Du,if_pos];rw[show(m.tI row a).bH=row.dB.map λx=>(m.fl x).getLast? from rfl,aU,bz]at hl;exact hl
theorem MI.eX(X:mU c):∀(l:Ht) (j:Nat) (m:Mo) (s:Sl),MI c [] nG e m->m.ac[i]?=aA s->m.ac.length=i+1->(∀x∈l,0<=x/\x<8)->(∀k,j<=k->k<j+l.length->s.ws[k]?=aA aD) ->
  m.wX c.am i j l/\MI c [] nG e (m.eX c.am i j l)/\(m.eX c.am i j l).ct=m.ct/\((m.eX c.am i j l).ac.map Sl.cr=m.ac.map Sl.cr/\(m.eX c.am i j l).fl=m.fl)/\∃s',(m.eX c.am i j l).ac[i]?=aA s'/\s'.st=s.st
 |[],_,m,s,I,g,_,_,_=>⟨trivial,I,rfl,⟨rfl,rfl⟩,s,g,rfl⟩
 |x::l,j,m,s,I,g,hn,p,hw=>by
  have n:=λy D=>p y (hW _ D);have B:=hw j (aV _) (by rw[jC];lia);cases d:rA c.am (((s.bH[j]?).join).bind m.slot) (cell m.sd.bx x) with
  |none=>
   obtain⟨q,r,t⟩:=MI.eX X l (j+1) m s I g hn n λk a b=>hw k (by omega) (by rw[jC];omega);have e:m.eX c.am i j (x::l)=m.eX c.am i (j+1) l:=by rw[Ip g,d]
   rw[e];exact⟨⟨p x fP,s,g,λ_=>q,λw h=>by rw[d]at h;cases h⟩,r,t⟩
  |some w=>
   have key:(∀u,s.bH[j]?=aA (aA u)->∀z∈m.ac,z.tk=u->z.dn c.am)/\wd w:=by
    cases f:((s.bH[j]?).join).bind m.slot with
    |none=>rw[f]at d;cases d;refine⟨λu o z A e=>?_,gb I.sd.bw⟩;rw[o]at f;have f:m.slot u=aD:=f;unfold Mo.slot at f;rw[<- e,vG A I.so]at f;cases f
    |some y=>
     rw[f]at d;unfold rA at d;dsimp only at d;split at d
     .rename_i E;obtain⟨v,_,F⟩:=Option.bind_eq_some_iff.mp f;refine⟨λu o z A e=>?_,Hd (I.sl y<|cv F) X d⟩;rw[o]at f;have f:m.slot u=aA y:=f;unfold Mo.slot at f;rw[<- e,vG A I.so]at f;cases f;refine⟨E,?_⟩;unfold Sl.d3 nF at d;split at d
      .assumption
      .cases d
     .cases d
   have G:=I.give g B key.2 (λ_ _ _=>id) λu o=>⟨key.1 u o,id⟩;have gl:=I.gl (j:=j) (w:=w) g hn;obtain⟨q,r,t,C,s',H,J⟩:=MI.eX X l (j+1) (m.give i j w) _ G ((Io (j:=j) (w:=w) I.so g).1) (by rw[<- aU,gl.1,aU];exact hn) n λk a b=>(lO<|bQ ‹_›).trans (hw k (by omega) (by rw[jC];omega));have e:m.eX c.am i j (x::l)=(m.give i j w).eX c.am i (j+1) l:=by rw[Ip g,d]
   rw[e];exact⟨⟨p x fP,s,g,(λh=>by rw[d]at h;cases h),λK h=>by rw[d]at h;cases h;exact⟨I.gv g B,q⟩⟩,r,t.trans Zy,⟨C.1.trans gl.1,C.2.trans gl.2⟩,s',H,J⟩
theorem MI.pY(X:mU c)(I:MI c [] nG m.nw m)(hl:(m.ac.length:Int)<c.sz)(ha:m.ah<c.rs.length)(ht:m.bF<9000) :
  ∃row,nu c m row/\m.sd.bx.length=8/\(∀a,(m.enter row a).wX c.am m.ac.length 0 row.dB)/\∀a dr gs,MI c [] nG m.nw (m.pY c row a dr gs)/\(m.pY c row a dr gs).ct=(m.nw,m.bF+1,m.cD,m.brk)/\(m.pY c row a dr gs).ac.map Sl.cr=m.ac.map Sl.cr++[(m.tI row a).cr]/\(m.pY c row a dr gs).fl=lW m.fl row m.bF:=by
 have h0:=I.ah;obtain⟨row,hr⟩:∃row,c.rs[m.ah.toNat]?=aA row:=⟨_,eM (by lia)⟩;have ok:=X.rs _ (bX hr);have key:=λa=>MI.eX X row.dB 0 (m.enter row a) (m.tI row a) (I.enter hl hr) LL dQ (aSz ok) λk _ f=>by show(eN row.nw aD)[k]?=_;rw[Du,if_pos (by rw[<- bz];lia)]
 refine⟨row,I.en X hl hr ht,I.sd.bl,λa=>(key a).1,λa dr gs=>?_⟩;obtain⟨_,J,ct,cr,s',d,st⟩:=key a;unfold Mo.pY;dsimp only;rw[d];have hm:=bX d;have S:=J.sl s' hm;obtain⟨fi,_⟩:=S.s0 st;refine⟨J.set (ts':=[]) d rfl rfl rfl ⟨S.t0,S.t1,S.p0,S.hr,S.wl,S.nl,S.wo,S.nm,S.hw,S.pu,S.s0,S.s1,S.f1,S.sr,S.ld,S.of⟩ J.wn (λp e=>.inl ⟨e,((J.Lg hm st).2) p e⟩) (λ_=>id) J.w3 (λh=>by rw[show s'.st=aD from st]at h;cases h) J.tn (λ_ h=>nomatch h) (λ_ h=>nomatch h) (J.kp.trans (Ad (s':={ s' with dr:=if qP s'.row=aB then dr else s'.dr,ch:=aM.pS s'.pc gs s'.row }) d rfl).symm) J.bn (λ_=>.inl) (λ_=>id) id ?_ (λ_ h=>by have:=h.1;rw[fi]at this;cases this) (λ_ _ _ h=>h.elim) λl u a b g=>b,ct,.trans (rC d (by rfl)) (cr.1.trans gB),cr.2⟩;have p0:=S.p0;have ok:=S.ok X;revert ok
 cases s'.row with
 |fU x t=>intro ok;show 0<=ite _ _ _;split;exact ok.2;omega|go t=>exact id|_=>intro _;show 0<=s'.pc+1;omega
end
section
variable {rest:Yr}{nw:Int}{K:Int->Prop}
theorem Ka{β:Type}{l:Dc β}{v:β}:aX (eP l x v) y=if x=y then aA v else aX l y:=by
 unfold aX eP;by_cases e:x=y
 .subst e;rw[if_pos rfl];split
  .rename_i z;induction l with
   |nil=>cases z|cons p l a=>
    rw[iH,nP];by_cases w:p.1=x
    .simp[w]
    .rw[rV,decide_eq_false w]at z;rw[if_neg w,decide_eq_false w];exact a z
  .rename_i z;rw[Dr,List.find?_eq_none.mpr (λp b w=>z (List.any_eq_true.mpr ⟨p,b,w⟩))];simp
 .rw[if_neg e];split
  .rename_i z;clear z;induction l with
   |nil=>rfl|cons p l a=>
    rw[iH,nP,nP];by_cases w:p.1=x
    .rw[if_pos w,show decide (p.1=y)=aH from decide_eq_false λz=>e (w.symm.trans z)];exact a
    .rw[if_neg w];split
     .rfl
     .exact a
  .rw[Dr];simp[e]
theorem Lp{v:Int}(h:(aX dR y).isSome=aB):(aX (eP dR x v) y).isSome=aB:=by
 rw[Ka];split
 .rfl
 .exact h
theorem O9{β:Type}{l:Dc β}{v:β}{p:Int×β}(h:p∈eP l x v):p∈l\/p.2=v:=by
 unfold eP at h;split at h
 .obtain⟨q,a,e⟩:=List.mem_map.mp h;split at e
  .exact .inr (by rw[<- e])
  .exact .inl<|e▸a
 .rcases List.mem_append.mp h with h|h
  .exact .inl h
  .exact .inr (by rw[List.mem_singleton.mp h])
theorem Ai{β:Type}{l:Dc β}{p:Int×β}:p∈mZ l x↔p∈l/\p.1≠x:=by unfold mZ;rw[Dz,decide_eq_true_eq]
theorem MI.off{sl:Hr}(I:MI c [] nG e m)(es:m.ac=s::rest)(hf:s.fi.isSome=aB)(kp:kp'=rest.filterMap dS)(bn:(bg.map (·.1)).Nodup)(b1:∀p∈bg,p∈m.bg/\(qP s.row=aB->p.1≠s.tk))(b2:∀p∈m.bg,p.1≠s.tk->p∈bg)(g1:∀u,(aX m.dR u).isSome=aB->(aX gon' u).isSome=aB)(g2:(dS s).isSome=aB->(aX gon' s.tk).isSome=aB)(st:∀p∈sto',(aX gon' p.2).isSome=aB)(l1:sto'.length<=sl.length)(l2:gon'.length<=sl.length)(sd:sd'.ok)(rm:c.am=sd'.mem.length) :
  MI c [] nG e { m with ac:=rest,cD:=sl,sd:=sd',kp:=kp',bg:=bg,gP:=sto',dR:=gon' }:=by
 have so:=I.so;rw[es]at so;have d:=List.pairwise_cons.mp so;have n:∀{z},z∈rest->z∈m.ac:=λh=>by rw[es];exact hW _ h
 have ms:∀{z},z∈m.ac->z=s\/z∈rest:=λh=>by rw[es]at h;exact List.mem_cons.mp h
 have lt:=λz a=>d.1 _ (List.mem_map.mpr ⟨z,a,rfl⟩);have ne:∀{z},z∈m.ac->z.fi=aD->z∈rest:=λh f=>(ms h).resolve_left λw=>by rw[w]at f;rw[f]at hf;cases hf
 refine⟨d.2,λz a=>?_,?_,I.wn,λp d=>?_,λz a=>I.w2 z (n a),I.w3,I.tn,(λ_ _ h=>nomatch h),kp,bn,λp d=>?_,I.fl,sd,rm,st,l1,l2,I.ah,I.t0,λk z l u o hn w=>?_⟩
 .refine(I.sl z<|n a).go (iG _) (iG _) (λu q=>?_) λe he=>b2 _ he (KJ<|lt z a);rcases q with⟨i,y,hy,g,b⟩|h
  .rcases ms hy with rfl|hy
   .rw[<- g];exact .inr<|g2 b
   .exact .inl ⟨i,y,hy,g,b⟩
  .exact .inr<|g1 u h
 .have:=I.sz;rw[es,jC]at this;show(rest.length:Int)<=_;lia
 .obtain⟨i,z,a,g,b,j⟩:=I.w1 p d;exact⟨i,z,ne a b,g,b,j⟩
 .obtain⟨i,g⟩:=b1 p d;obtain⟨z,a,b,j,r⟩:=I.b1 p i;refine⟨z,(ms a).resolve_left λw=>?_,b,j,r⟩;subst w;exact g j b.symm
 .refine I.nb (k+1) z l u (es▸o) hn<|.inl ?_;obtain⟨y,hy,h⟩:=w.resolve_right id;exact⟨y,n hy,h⟩
theorem rp(h:∀x y d,s.row ≠ .store x y d):dS s=aD:=by
 unfold dS;split
 .exact absurd ‹_› (h _ _ _)
 .rfl
theorem VE(S:mW c nw bF K dR bg s)(X:mU c)(st:s.st.isSome=aB)(f:s.ft c.am=aD){sd:Sd}(h:sd.ok):(sd.fv (s.d1 c.am) (s.d2 c.am) (s.d3 c.am)<|s.d4 c.am).ok/\(sd.fv (s.d1 c.am) (s.d2 c.am) (s.d3 c.am)<|s.d4 c.am).mem.length=sd.mem.length:=by
 have p:0<=(s.d4 c.am).getD 0:=by unfold Sl.d4;rw[f];exact AE (S.ok X) S.p0
 have w:wd ((s.d3 c.am).getD 0):=by
  cases e:s.d3 c.am with
  |none=>exact⟨by decide,by decide⟩|some v=>exact Hd S X e
 unfold Sd.fv;split
 .exact⟨⟨p,(tN ..).trans h.bl,Pk h.bw w,h.mw⟩,rfl⟩
 .exact⟨⟨p,h.bl,h.bw,Pk h.mw w⟩,tN ..⟩
 .exact⟨⟨p,h.bl,h.bw,h.mw⟩,rfl⟩
theorem MI.take(X:mU c)(I:MI c [] nG e m)(es:m.ac=s::rest)(hf:s.fi.isSome=aB)(hl:m.cD.length<900) :
  xi c m { s with of:=aA m.nw }/\MI c [] nG e (m.take c.am { s with of:=aA m.nw } rest)/\(m.take c.am { s with of:=aA m.nw } rest).nw=m.nw/\(m.take c.am { s with of:=aA m.nw } rest).bF=m.bF/\(m.take c.am { s with of:=aA m.nw } rest).cD.length=m.cD.length+1/\((m.take c.am { s with of:=aA m.nw } rest).brk=m.brk\/(m.take c.am { s with of:=aA m.nw } rest).ac=[]):=by
 have hm:=es▸fP;have S:=I.sl s hm;obtain⟨C,D⟩:=Option.isSome_iff_exists.mp hf;obtain⟨_,E,l,_⟩:=S.f1 C D;have st:s.st.isSome=aB:=by rw[l];rfl
 have ww:=Pn (S.s1 E l).2.2;have so:=I.so;rw[es]at so;have b:=List.pairwise_cons.mp so;have r:(∀x y d,s.row ≠ .store x y d)->∀p∈m.kp,p.1≠s.tk:=λh p b w=>by rw[I.kp]at b;obtain⟨z,hz,o⟩:=List.mem_filterMap.mp b;rw[I.so.eq hm hz ((xB o).symm.trans w),rp h]at o;cases o
 have l1:=I.l1;have l2:=I.l2;have inr:∀x y d,s.row = .load x y d->s.ft c.am=aD->∃e,(s.tk,e)∈m.bg:=λx y d a f=>(S.ld x y d a st (by
  unfold Sl.ft at f;rw[a]at f;have f:(if 0<=cell s.wi 0+d/\cell s.wi 0+d<c.am then aD else aA (AV.tup [.str "place",.int (cell s.wi 0+d)]))=aD:=f;by_cases q:0<=cell s.wi 0+d/\cell s.wi 0+d<c.am
  .exact q
  .rw[if_neg q]at f;cases f)).2
 have ins:∀x y d,s.row = .store x y d->s.ft c.am=aD->s.d2 c.am=aA (cell s.wi 1+d)/\0<=cell s.wi 1+d/\cell s.wi 1+d<c.am:=λx y d a f=>by
  refine⟨by unfold Sl.d2;rw[f,a];rfl,?_⟩;unfold Sl.ft at f;rw[a]at f;have f:(if 0<=cell s.wi 1+d/\cell s.wi 1+d<c.am then aD else aA (AV.tup [.str "place",.int (cell s.wi 1+d)]))=aD:=f;by_cases q:0<=cell s.wi 1+d/\cell s.wi 1+d<c.am
  .exact q
  .rw[if_neg q]at f;cases f
 have gn:=λu A=>(S.sr u A).resolve_left λ⟨j,z,hz,g,_⟩=>by
  rw[es]at hz;rcases List.mem_cons.mp hz with rfl|hz
  .exact vk j g.symm
  .have L:s.tk<z.tk:=b.1 _ (List.mem_map.mpr ⟨z,hz,rfl⟩);lia
 refine⟨⟨hf,ww,(aU ..).trans S.wl,λx F=>?_,λp j g=>?_,I.sd.bl,?_,λf=>⟨λx y d a=>⟨⟨_,(ins x y d a f).1⟩,?_,by omega,by omega⟩,λx y d a=>⟨ae (r λ_ _ _ h=>by rw[show s.row=_ from a]at h;cases h),?_⟩⟩,λf u A=>?_,hl⟩,?_⟩
 .obtain⟨f,fx⟩:=AZ F;exact⟨Ze (S.ok X) fx,Hc (s:=s) S st f (.inl (by rw[show aM.fx s.row=_ from fx];rfl))⟩
 .have f:s.ft c.am=aD:=by
   cases f:s.ft c.am with
   |none=>rfl|some v=>have g:s.d2 c.am=aA p:=g;unfold Sl.d2 at g;rw[f]at g;cases g
  have j:s.d1 c.am=aD:=j;have g:s.d2 c.am=aA p:=g;have a:∃x y d,s.row = .store x y d:=by
   unfold Sl.d1 at j;unfold Sl.d2 at g;rw[f]at j g;revert j g
   cases s.row with
   |store x y d=>exact λ_ _=>⟨x,y,d,rfl⟩|load=>exact λh _=>nomatch h|_=>exact nofun
  obtain⟨x,y,d,a⟩:=a;obtain⟨G,H⟩:=ins x y d a f;rw[G]at g;cases g;rw[<- I.rm];exact⟨H,Hc (s:=s) S st f (.inr (by rw[qZ a];rfl))⟩
 .have:=X.rm;have:=I.rm;omega
 .have:=(Ae (i:=0) (s:=s) I.so (by rw[es];rfl) (qZ a)<|qZ (s:=s) a).2;rw[<- I.kp]at this;exact⟨_,this⟩
 .obtain⟨e,he⟩:=inr x y d a f;exact⟨e,nE I.bn he⟩
 .have:=gn u A;unfold Mo.note;split
  .exact Option.isSome_iff_exists.mp<|Lp this
  .exact Option.isSome_iff_exists.mp this
  .exact Option.isSome_iff_exists.mp this
 unfold Mo.take Mo.By;cases f:s.ft c.am with
 |some v=>
  rw[show Sl.ft c.am { s with of:=aA m.nw }=aA v from f];have J:=I.cut (t:=s.tk);unfold Mo.cut at J;rw[es,jB,decide_eq_false (xU _)]at J;have k:∀x:AV,m.cD.length<=(m.cD++[x]).length:=λx=>by rw[dQ];exact hA _
  exact⟨⟨J.so,J.sl,J.sz,J.wn,J.w1,J.w2,J.w3,J.tn,J.td,J.kp,J.bn,J.b1,J.fl,J.sd,J.rm,J.st,dG J.l1 (k _),dG J.l2 (k _),J.ah,J.t0,J.nb⟩,rfl,rfl,dQ,.inr (List.filter_eq_nil_iff.mpr λz hz h=>xU _ (vP (of_decide_eq_true h)<|b.1 _<|List.mem_map.mpr ⟨z,hz,rfl⟩))⟩
 |none=>
  rw[show Sl.ft c.am { s with of:=aA m.nw }=aD from f];obtain⟨B,K⟩:=VE S X st f I.sd;have rm:=I.rm.trans (congrArg _ K.symm);have kp:=I.kp;rw[es,jO]at kp;have k:∀{x:AV}{n:Nat},n<=m.cD.length->n<=(m.cD++[x]).length:=λh=>by rw[dQ];exact Ec h
  have ne:∀{z},z∈rest->z.tk≠s.tk:=λhz=>KJ (b.1 _<|List.mem_map.mpr ⟨_,hz,rfl⟩);dsimp only;unfold Mo.note;split
  .rename_i x y d a;have a:s.row = .store x y d:=a;rw[qZ a]at kp;refine⟨I.off es hf ?_ I.bn (λp b=>⟨b,λh=>by rw[a]at h;cases h⟩) (λp b _=>b) (λu=>Lp) (λ_=>by rw[Ka,if_pos rfl];rfl) (λp b=>?_) ?_ ?_ B rm,rfl,rfl,dQ,.inl rfl⟩
   .show mZ m.kp s.tk=_;rw[kp];unfold mZ;rw[jB,decide_eq_false λh=>h rfl];refine List.filter_eq_self.mpr λp b=>decide_eq_true ?_;obtain⟨z,hz,o⟩:=List.mem_filterMap.mp b;rw[xB o];exact ne hz
   .rcases O9 b with h|h
    .exact Lp<|I.st p h
    .rw[h,Ka];exact(if_pos rfl).symm▸rfl
   .rw[dQ];exact dG EC<|vq l1
   .rw[dQ];exact dG EC<|vq l2
  .rename_i x y d a;rw[rp λ_ _ _ h=>by rw[a]at h;cases h]at kp;exact⟨I.off es hf kp (oA I.bn) (λp b=>⟨(Ai.mp b).1,λ_=>(Ai.mp b).2⟩) (λp b h=>Ai.mpr ⟨b,h⟩) (λ_=>id) (λh=>by rw[rp λ_ _ _ h=>by rw[a]at h;cases h]at h;cases h) I.st (k l1) (k l2) B rm,rfl,rfl,dQ,.inl rfl⟩
  .rename_i j g;have j:∀x y d,s.row ≠ .store x y d:=j;rw[rp j]at kp;exact⟨I.off es hf kp I.bn (λp b=>⟨b,λh=>by revert h g;cases s.row with|load x y d=>exact λh _=>absurd rfl (h x y d)|_=>exact λ_ h=>nomatch h⟩) (λp b _=>b) (λ_=>id) (λh=>by rw[rp j]at h;cases h) I.st (k l1) (k l2) B rm,rfl,rfl,dQ,.inl rfl⟩
end
section
variable {e' t:Int}{sd:Sd}
theorem MI.skip(I:MI c (t::ts) nG e m)(h:m.slot t=aD):MI c ts nG e m:=by
 have ne:∀s∈m.ac,s.tk≠t:=λs d w=>by unfold Mo.slot at h;rw[<- w,vG d I.so]at h;cases h
 exact { I with w2:=λs d a b=>(I.w2 s d a b).imp (λh=>(List.mem_cons.mp h).resolve_left (ne s d)) id,tn:=(List.nodup_cons.mp I.tn).2,td:=λs d h=>I.td s d (hW _ h) }
theorem MI.Lh(I:MI c [] nG m.nw m):MI c [] nG m.nw { m with nw:=m.nw+1 }:=⟨I.so,I.sl,I.sz,I.wn,I.w1,I.w2,I.w3,I.tn,(λ_ _ h=>nomatch h),I.kp,I.bn,I.b1,I.fl,I.sd,I.rm,I.st,I.l1,I.l2,I.ah,I.t0,I.nb⟩
theorem MI.emp(I:MI c [] nG e m)(h:m.ac=[]):MI c [] nG e' m:=by
 have no:∀{p:Sl->Prop},¬ ∃s∈m.ac,p s:=λ⟨s,hs,_⟩=>by rw[h]at hs;cases hs
 exact { I with sl:=λs hs=>(no (p:=λ_=>True) ⟨s,hs,trivial⟩).elim,w1:=λp hp=>(no (I.w1 p hp).2).elim,w2:=I.w2,td:=I.td,nb:=I.nb }
theorem P0(X:mU c)(s0:0<=c.sz)(ok:sd.ok)(rm:c.am=sd.mem.length):MI c [] nG 0 (ai sd):=by
 have w3:∀g,0<=jn c g:=λg=>by
  unfold jn;rw[Ds];cases h:c.tb[g.toNat]? with
  |none=>exact(by decide:(0:Int)<=1)|some p=>have:=(X.tb.2 p<|bX h).1;show 0<=p.1;lia
 exact⟨.nil,(λ_ h=>nomatch h),s0,.nil,(λ_ h=>nomatch h),(λ_ h=>nomatch h),w3,.nil,(λ_ h=>nomatch h),rfl,.nil,(λ_ h=>nomatch h),λx=>⟨(λ_ h=>nomatch h),iG _⟩,ok,rm,(λ_ h=>nomatch h),aV _,aV _,ok.pc,iG _,(λ_ _ _ _ h=>nomatch h)⟩
def Mo.sY(m:Mo)(p w:Int):Mo:={ m with sd:=⟨m.sd.pc,m.sd.bx,m.sd.mem.set p.toNat w⟩,gP:=mZ m.gP p }
def Mo.iR(m:Mo)(p w:Int):Mo:=match m.ac with
 |[]=>{ m.sY p w with ah:=m.sd.pc }
 |s::_=>{ (m.sY p w).cut s.tk with ah:=m.sd.pc }
theorem MI.iR{p w:Int}(I:MI c [] nG e m)(hw:wd w):MI c [] nG e (m.iR p w)/\(m.iR p w).ac=[]/\(m.iR p w).ct=m.ct:=by
 have J:MI c [] nG e (m.sY p w):=⟨I.so,I.sl,I.sz,I.wn,I.w1,I.w2,I.w3,I.tn,I.td,I.kp,I.bn,I.b1,I.fl,⟨I.sd.pc,I.sd.bl,I.sd.bw,Pk I.sd.mw hw⟩,by show _=((m.sd.mem.set p.toNat w).length:Int);rw[tN];exact I.rm,λq a=>I.st q (Ai.mp a).1,dG (pF ..) I.l1,I.l2,I.ah,I.t0,I.nb⟩;unfold Mo.iR;split
 .exact⟨J.tW I.sd.pc,‹_›,rfl⟩
 .rename_i s rest b;refine⟨J.cut.tW I.sd.pc,?_,rfl⟩;show m.ac.filter _=[];have so:=I.so;rw[b]at so ⊢;refine List.filter_eq_nil_iff.mpr λz hz h=>?_;have h:=of_decide_eq_true h;rcases List.mem_cons.mp hz with rfl|hz
  .exact xU _ h
  .exact xU _<|vP h<|(List.pairwise_cons.mp so).1 _ (List.mem_map.mpr ⟨z,hz,rfl⟩)
structure TI(c:Cf)(n:Int)(m:Mo):Prop where
 I:MI c [] nG n m
 nw:m.nw=n
 tk:m.bF<=8*n
 sl:(m.cD.length:Int)<=8*n
 bk:m.brk=aB->m.ac=[]
theorem TI.iR{n p w:Int}(T:TI c n m)(hw:wd w):TI c n (m.iR p w)/\(m.iR p w).ac=[]:=by obtain⟨a,b,ct⟩:=T.I.iR hw;have d:=congrArg (·.1) ct;have e:(m.iR p w).bF=m.bF:=congrArg (·.2.1) ct;have f:(m.iR p w).cD=m.cD:=congrArg (·.2.2.1) ct;exact⟨⟨a,d.trans T.nw,e▸T.tk,f▸T.sl,λ_=>b⟩,b⟩
end
section
variable {k:Nat}{g:Gh}
theorem aPw{y z:AV}{k:aP}(e:h.ob n=aA (.aN kvs))(hk:eZ y=aA k)(q1:∀v,bL kvs k=aA v->V1 v (h.put n<|.aN<|uA kvs k))(q2:bL kvs k=aD->V1 z h):We (Dm.g .pop (.ref n) [y,z]) h V1:=by
 show We (zM (.ref n) [y,z]) h V1;unfold We zM;simp only[tZ e,hk];cases l:bL kvs k with
 |none=>exact q2 l|some v=>exact q1 v l
theorem aJ.o0(r:aJ c g m h):h.ob c.b=aA (.ins 21 [("window",.ref (c.b+1)),("ledger",.ref (c.b+11))]):=r.at 0
theorem aCm{sd:Sd}(h0:0<=p)(h1:p<sd.mem.length)(hl:sd.mem.length<=80)(q:R (Sd.av ⟨sd.pc,sd.bx,sd.mem.set p.toNat w⟩) h):WC (run pg (k+2) 23 [sd.av,.int p,.int w]) h R:=by refine aT rfl rfl<|AK ?_;rw[decide_eq_true ⟨h0,h1⟩];exact Nj h0 h1 hl q
theorem N9(r:aJ c g m h)(h0:0<=p)(h1:p<m.sd.mem.length)(hl:m.sd.mem.length<=80)(q:∀v h',aJ c g (m.sY p w) h'->bD c g h g h'->R v h'):WC (run pg (k+3) 116 [.ref (c.b+11),.int p,.int w]) h R:=by
 refine aT rfl rfl<|aC.of (r.at 11)<|aCm h0 h1 hl<|aC.of rfl<|aC.of rfl<|aC.of (r.at 11) ?_;have a:=r.Jv (sd':=⟨m.sd.pc,m.sd.bx,m.sd.mem.set p.toNat w⟩) (b':=m.brk);have f1:bD c g h g (h.put (c.b+11)<|.ins 20<|{ m with sd:=⟨m.sd.pc,m.sd.bx,m.sd.mem.set p.toNat w⟩,brk:=m.brk }.lf c):=bD.st r (by decide) ⟨_,rfl⟩;refine aC.of (a.at 11)<|aE.t (B:=False) rfl<|aC.of rfl<|aE.t (qO<|a.at 13)<|WC.of<|aPw (a.at 13) rfl (λv e=>?_) λe=>?_
 .rw[yo];exact q _ _ (a.HH)<|f1.trans<|bD.st a (by decide) ⟨_,rfl⟩
 .rw[iZ]at e;have e:aX m.gP p=aD:=by cases l:aX m.gP p with|none=>rfl|some v=>rw[l]at e;cases e
  refine q _ _ ?_ f1;unfold Mo.sY;rw[show mZ m.gP p=m.gP from List.filter_eq_self.mpr λz b=>decide_eq_true λw=>by unfold aX at e;rw[MW,List.find?_eq_none]at e;exact e z b<|decide_eq_true w]
  exact a
theorem aCl(r:aJ c g m h)(hh:m.eD c = .aG)(h0:0<=p)(h1:p<m.sd.mem.length)(hl:m.sd.mem.length<=80)(q:∀v g' h',aJ c g' (m.iR p w) h'->bD c g h g' h'->R v h'):WC (run pg (k+4) 126 [.ref c.b,.int p,.int w]) h R:=by
 refine aT rfl rfl<|aC.of r.o0<|GD r hh<|aC.of r.o0<|aC.of (r.at 11)<|N9 r h0 h1 hl λv h1 b u=>aC.of b.o0 (aC.of (b.at 1)<|uk b ?_);have fin:∀{g2 i j},aJ c g2 j i->j.sd=(m.sY p w).sd->bD c g h g2 i->{ j with ah:=m.sd.pc }=m.iR p w->_:=λ{g2 i j} f d n e=>(show dZ (run pg<|k+3) (bK<|bK<|bK<|bK Vb) [aA (.ref c.b),aA (.int p),aA (.int w),aA (.ref<|c.b+1)] i (λ_ h1=>R .aG h1) R (λ_ _=>False) λ_ _=>False from by
  have o:i.ob (c.b+11)=aA (.ins 20<|{ j with sd:=⟨m.sd.pc,m.sd.bx,m.sd.mem.set p.toNat w⟩ }.lf c):=by rw[f.at 11];unfold Mo.lf;rw[d];rfl
  refine aC.of f.o0<|aC.of o<|aC.of (f.at 1) ?_;have l:=f.tW (a:=m.sd.pc);refine aC.of l.o0<|aC.of (l.at 11)<|WC.of<|kK (cO<|l.at 12) ?_;exact q _ _ _ (e▸l)<|n.trans<|bD.st f (by decide) ⟨_,rfl⟩)
 cases d:m.ac with
 |nil=>
  have t:¬((m.sY p w).ac.length:Int) > 0:=by show¬((m.ac.length:Int) > 0);rw[d];decide
  exact aE.df t<|fin b rfl u (by unfold Mo.iR;rw[d])
 |cons s rest=>
  have t:((m.sY p w).ac.length:Int) > 0:=by show(m.ac.length:Int) > 0;rw[d,jC];lia
  have hm:s∈(m.sY p w).ac:=by show s∈m.ac;rw[d];exact fP
  have x:cN ((m.sY p w).ac.map λs=>AV.ref s.a) 0=aA (.ref s.a):=by show cN (m.ac.map _) 0=_;rw[d];exact gI
  refine aE.dt t<|aC.of (b.at 1)<|aC.of (b.at 1)<|WC.of<|gQ (cO b.kH.1) x<|aC.of (b.cK hm)<|Bw b λv g2 i f n f2=>fin f rfl (u.trans<|bD.of n f2) (by unfold Mo.iR;rw[d])
end
section
variable {k:Nat}{g:Gh}{n:Int}{off:Int->Ht}{rest:Yr}{L:List Cr}
theorem E4(h:m.eD c ≠ .aG)(b:m.brk=aB->m.ac=[]):m.ac=[]:=by
 unfold Mo.eD at h;split at h
 .exact b ‹_›
 .split at h
  .exact(‹_/\_›:_/\_).1
  .exact absurd rfl h
theorem Jc(h:m.eD c = .aG):m.brk=aH:=by
 cases e:m.brk with
 |false=>rfl|true=>unfold Mo.eD at h;rw[if_pos e]at h;cases h
def oU(am:Int)(off:Int->Ht)(ss:Yr):Int->Ht:=λx=>off x++ss.filterMap λs=>if s.d1 am=aA x then aA s.tk else aD
theorem aNy(h:z∈(m.take c.am s rest).ac):z∈rest:=by
 unfold Mo.take at h;split at h
 .exact(List.mem_filter.mp h).1
 .unfold Mo.note at h;split at h<;>exact h
theorem aNw(h:(m.take c.am s rest).brk=aH):s.ft c.am=aD/\(m.take c.am s rest).ac=rest/\(m.take c.am s rest).fl=m.fl/\m.brk=aH:=by
 unfold Mo.take at h ⊢;cases e:s.ft c.am with
 |some v=>rw[e]at h;cases h|none=>rw[e]at h;dsimp only at h ⊢;unfold Mo.note at h ⊢;split at h<;>exact⟨rfl,rfl,rfl,h⟩
theorem NI.tko{ss:Yr}{fl:Int->Ht}{o:Hq}(N:NI (oU c.am off ss) ((s::rest).map Sl.cr) fl)(f:Sl.ft c.am { s with of:=o }=aD):NI (oU c.am off<|ss++[{ s with of:=o }]) (rest.map Sl.cr) fl:=by
 have e:oU c.am off (ss++[{ s with of:=o }])=λx=>oU c.am off ss x++fT x [s.cr]:=funext λx=>by
  unfold oU fT;rw[Dq,<- tM];congr 1
  rw[jO,show Sl.d1 c.am { s with of:=o }=aM.fx s.row by unfold Sl.d1;rw[f];rfl];rfl
 rw[e];exact N.take
def Yn(off:Int->Ht)(L:List Cr)(m:Mo):Prop:=NI off (m.ac.map Sl.cr) m.fl/\∀p∈m.ac.map Sl.cr,p∈L
theorem Px:Yc (Yn off L):=⟨λa b y=>by unfold Yn;rw[a,b];exact y,λ{m t} h y=>by have e:(m.cut t).ac.map Sl.cr=(m.ac.map Sl.cr).filter λp=>decide (p.1<t):=(LD (f:=Sl.cr) (p:=λp=>decide (p.1<t))).symm;unfold Yn;rw[e];obtain⟨s,c,le⟩:=h;exact⟨y.1.cut ⟨s.cr,List.mem_map.mpr ⟨s,c,rfl⟩,le⟩,λp d=>y.2 p (List.mem_filter.mp d).1⟩⟩
theorem Q9(X:mU c)(T:TI c n m)(N:m.brk=aH->NI off (m.ac.map Sl.cr) m.fl)(n0:0<=n)(hn:n<100)(r:aJ c g m h)(hh:m.eD c = .aG)
  (q:∀(ss:Yr) a g' m' h' (cs fr:List Cr),aJ c g' m' h'->TI c (n+1) m'->(m'.brk=aH->NI (oU c.am off ss) (m'.ac.map Sl.cr) m'.fl)->(∀s∈ss,s.cr∈m.ac.map Sl.cr/\s.fi.isSome=aB)->ss.length<=8->h'.ob a=aA (.lst aB<|ss.map λs=>(s.lt c.am).iF)->a<h'.nx->m'.ac.map Sl.cr=cs++fr->(∀p∈cs,p∈m.ac.map Sl.cr)->(∀(j:Nat) (p:Cr),fr[j]?=aA p->p.1=m.bF+j/\p.2.2.2.2=n+1)->m'.bF=m.bF+fr.length->bD c g h g' h'->R (.ref a) h'):WC (run pg (k+10) 118 [.ref c.b]) h R:=by
 obtain⟨I,rfl,tk,sl,bk⟩:=T;have N:=N (Jc hh);have w8:=X.w8;have w0:=X.w0;refine aOr (k:=k) r hh λF r1 fa=>?_;refine aNx (k:=k+1) r1 (by omega) w8 (λl f=>∃ss:Yr,l=ss.map (λs=>(s.lt c.am).iF)/\(∀s∈ss,s.cr∈m.ac.map Sl.cr/\s.fi.isSome=aB)/\(MI c [] nG m.nw f/\f.nw=m.nw+1/\f.bF=m.bF/\f.cD.length=m.cD.length+l.length/\(f.brk=aB->f.ac=[])/\(l.length:Int)<=c.wd)/\(∀s∈f.ac,s.cr∈m.ac.map Sl.cr)/\(f.brk=aH->NI (oU c.am off ss) (f.ac.map Sl.cr) f.fl)) ⟨[],rfl,(λ_ h=>nomatch h),⟨I.Lh,rfl,rfl,rfl,bk,by show(0:Int)<=_;omega⟩,λs y=>List.mem_map.mpr ⟨s,y,rfl⟩,λ_=>by rw[show oU c.am off []=off from funext λx=>jY _];exact N⟩ (λl f s rest p hl C hf=>?_) λl f a g2 U p hc V ha D oa kd fb=>?_
 .obtain⟨ss,rfl,F,⟨J,G,O,P,U,_⟩,W,E⟩:=p;rw[aU]at hl P;obtain⟨T1,J2,f1,f2,H,f4⟩:=J.take X C hf (by omega);have ms:∀{z},z∈s::rest->z.cr∈m.ac.map Sl.cr:=λh=>W _ (by rw[C];exact h);refine⟨T1,ss++[{ s with of:=aA f.nw }],by rw[gB];rfl,λz hz=>?_,⟨J2,f1.trans G,f2.trans O,by rw[H,P,dQ,aU];rfl,λhb=>f4.elim (λw=>?_) id,by rw[dQ,aU];exact hl⟩,λz hz=>ms (hW _<|aNy hz),λhb=>?_⟩
  .rcases List.mem_append.mp hz with hz|hz
   .exact F z hz
   .rw[List.mem_singleton.mp hz];exact⟨ms (z:=s) fP,hf⟩
  .have:=U (w▸hb);rw[C]at this;cases this
  .obtain⟨g1,g2,g3,g4⟩:=aNw hb;rw[g2,g3];have E:=E g4;rw[C]at E;exact E.tko g1
 obtain⟨ss,rfl,F,⟨J,G,O,P,h3,l8⟩,W,E⟩:=p;rw[aU]at P l8;have K:ss.length<=8:=by omega
 refine⟨g2,f,V,λhl=>?_,λhl=>?_⟩
 .have C:=E4 hl h3;exact q ss a g2 f U [] [] V ⟨J.emp C,G,by omega,by omega,λ_=>C⟩ E F K oa D (by rw[C];rfl) (λ_ h=>nomatch h) (λ_ _ h=>nomatch h) (O.trans (Dj _).symm)<|fa.trans fb
 have bf:=Jc hl;have Y2:Yn (oU c.am off ss) (m.ac.map Sl.cr) f:=⟨E bf,λp A=>by obtain⟨s,y,rfl⟩:=List.mem_map.mp A;exact W s y⟩;have ct:∀u:Mo,u.ct=f.ct->u.nw=m.nw+1/\u.bF=m.bF/\u.cD=f.cD/\u.brk=aH:=λu e=>⟨(congrArg (·.1) e).trans G,(congrArg (·.2.1) e).trans O,congrArg (·.2.2.1) e,(congrArg (·.2.2.2) e).trans bf⟩;refine y7 (k:=k+1) V rfl (λts u=>(MI c ts nG u.nw u/\u.ct=f.ct)/\Yn (oU c.am off ss) (m.ac.map Sl.cr) u) ⟨⟨MI.YS (by rw[G,Int.add_sub_cancel];exact J),rfl⟩,Y2⟩ (λt ts u p=>⟨p.1.1.rm,λh=>⟨⟨p.1.1.skip h,p.1.2⟩,p.2⟩,λi s y Q=>y6 Px p.2 X p.1.1 y Q λv a b d=>⟨⟨a,b.trans p.1.2⟩,d⟩⟩) λu g3 h3 p r3 H=>⟨⟨g3,u,r3⟩,?_⟩;refine aLq (k:=k+3) r3 (λi v=>(MI c [] nG v.nw v/\v.ct=f.ct)/\Yn (oU c.am off ss) (m.ac.map Sl.cr) v) p (λi v s p y=>⟨λa b d=>?_,λhn=>p⟩) λv h4 p r4 f4=>⟨⟨g3,v,r4⟩,?_⟩
 .obtain⟨t,a1,a2,Y,Z,a5⟩:=p.1.1.start X y a b d;have sc:=aLv (m:=v) (c:=c) (i:=i) (s:=s) (t:=t);exact⟨_,a1,a2,Y,Z,⟨by rw[show(v.start c _ i s).nw=v.nw from congrArg (·.1) sc];exact a5,sc.trans p.1.2⟩,Px.start y p.2⟩
 obtain⟨d1,d2,d3,d4⟩:=ct v p.1.2;refine x6 (k:=k+2) r4 (by omega) w8 (λi o=>(MI c [] nG o.nw o/\o.ct=(m.nw+1,m.bF+i,f.cD,aH))/\NI (oU c.am off ss) (o.ac.map Sl.cr) o.fl/\∃cs fr,o.ac.map Sl.cr=cs++fr/\(∀p∈cs,p∈m.ac.map Sl.cr)/\fr.length=i/\∀(j:Nat) p,fr[j]?=aA p->p.1=m.bF+j/\p.2.2.2.2=m.nw+1) ⟨⟨p.1.1,by unfold Mo.ct;rw[d1,d2,d3,d4];exact congrArg _<|congrArg (·,_) (Dj _).symm⟩,p.2.1,_,[],(jY _).symm,p.2.2,rfl,λ_ _ h=>nomatch h⟩ (λi o p hi hl ha=>?_) λi o g5 h5 p hi r5 f5=>?_
 .obtain⟨⟨L,B⟩,p3,cs,fr,p4,p5,S,p7⟩:=p;have Q:o.bF=m.bF+i:=congrArg (·.2.1) B;obtain⟨row,a1,a2,Y,Z⟩:=L.pY X hl ha (by omega);refine⟨row,a1,a2,Y,λa dr gs=>?_⟩;obtain⟨b1,b2,b4,b5⟩:=Z a dr gs;have b3:(o.pY c row a dr gs).nw=o.nw:=congrArg (·.1) b2;have M:o.nw=m.nw+1:=congrArg (·.1) B;have z2:o.cD=f.cD:=congrArg (·.2.2.1) B;have z3:o.brk=aH:=congrArg (·.2.2.2) B;refine⟨⟨by rw[b3];exact b1,b2.trans (by rw[M,z2,z3,Q,Int.natCast_add,Int.add_assoc];rfl)⟩,?_,cs,fr++[(o.tI row a).cr],by rw[b4,p4,tM],p5,by rw[dQ,S];rfl,λj p A=>?_⟩
  .rw[b4,b5];exact p3.enter (λx=>(L.fl x).1) λp A=>by obtain⟨s,y,rfl⟩:=List.mem_map.mp A;exact(L.sl s y).t1
  .by_cases hj:j<fr.length
   .rw[rW hj]at A;exact p7 j p A
   .rw[lh (vo hj)]at A;have hk:=(List.getElem?_eq_some_iff.mp A).1;have ej:j=fr.length:=by rw[Qt]at hk;omega
    subst ej;rw[Ee]at A;cases A;exact⟨by rw[S];exact Q,M⟩
 .obtain⟨⟨L,B⟩,p3,cs,fr,p4,p5,S,p7⟩:=p;have M:o.nw=m.nw+1:=congrArg (·.1) B;have z2:o.cD=f.cD:=congrArg (·.2.2.1) B;have z3:o.brk=aH:=congrArg (·.2.2.2) B;have z4:o.bF=m.bF+i:=congrArg (·.2.1) B;have ob:=((H.trans f4).trans f5).ob a D kd (dG r1.bx ha);exact q ss a g5 o h5 cs fr r5 ⟨by rw[<- M];exact L,M,by omega,by rw[z2];omega,λh=>by rw[z3]at h;cases h⟩ (λ_=>p3) F K (ob.1.trans oa) (bA D ((H.trans f4).trans f5).nx) p4 p5 p7 (by rw[S];exact z4)<|(fa.trans fb).trans ((H.trans f4).trans f5)
end
section
variable {k:Nat}
theorem aKs{c:Int}(q:∀a b,1<=a->a<=32->1<=b->b<=8->R (.tup [.int a,.int b]) h):WC (run pg (k+2) 50 [.int c]) h R:=by refine aT rfl rfl<|rJ (by lia) (by lia) λz f g=>?_;have d:∀a,1<=a->a<=32->dZ (run pg<|k+1) (bK<|bK<|bK Vi) [aA (.int c),aA (.int z),aA (.int a),aD] h (λ_ e=>R .aG e) R (λ_ _=>False) λ_ _=>False:=λa a1 a2=>aE.dc (λ_=>q _ _ a1 a2 (by lia) (by lia)) λ_=>q _ _ a1 a2 (by lia) (by lia);exact aE.dc (λ_=>d _ (by lia) (by lia)) λ_=>d _ (by lia) (by lia)
theorem O1(q:R (.ref h.nx) (h.new<|.lst aB<|r.dB.map AV.int)):WC (run pg (k+1) 46 [r.av]) h R:=by
 refine aT rfl rfl ?_;cases r with
 |way w x y z=>exact aE.df (S9 w)<|aE.df (Kt w)<|aE.df (Ks w)<|aE.df (tf w)<|aE.df (S7 w)<|aE.df (Kv w)<|aE.df (Ap w) q|_=>exact q
theorem M6(q:R (oI<|aM.fx r) h):WC (run pg (k+1) 51 [r.av]) h R:=by
 refine aT rfl rfl ?_;cases r with
 |way w x y z=>exact aE.df (Ap w)<|aE.df (tf w)<|aE.df (Kt w)<|aE.df (Ks w) q|_=>exact q
theorem Us(hv:v = .aG\/(∃i,v = .int i)\/∃s,aB=aB/\v = .str s)(q:R (.bl aB) h):WC (run pg (k+1) 47 [v,v]) h R:=by
 refine aT rfl rfl ?_;rcases hv with rfl|⟨i,rfl⟩|⟨s,_,rfl⟩
 .exact q
 .have:R (.bl<|decide<|i=i) h:=by rw[decide_eq_true rfl];exact q
  exact this
 .have:R (.bl<|decide<|s=s) h:=by rw[decide_eq_true rfl];exact q
  exact this
end
theorem xm:∀(n:Nat) {k:Nat}{v:AV}{h:AH}{R:AV->AH->Prop},Pl aB n v->R (.bl aB) h->WC (run pg (k+n+1) 47 [v,v]) h R:=by
 intro n;induction n with
 |zero=>intro k v h R hv q;exact Us hv q|succ n ih=>
  intro k v h R hv q;rcases hv with hv|⟨xs,rfl,hx,hp⟩
  .exact Us hv q
  .refine aT rfl rfl<|aE.nt rfl<|WB.of ?_;with_reducible refine mO (aRc ?_)
   refine⟨_,_,_,_,rfl,rfl,rfl,?_⟩;refine A5 (λi Z h'=>h'=h/\∃a b,Z=[aA (.tup xs),aA (.tup xs),a,b]) rfl (by rw[fI];omega) ⟨rfl,_,_,rfl⟩ ?_ ?_
   .rintro i x y Z h' e1 e2 ⟨rfl,a,b,rfl⟩
    rw[e1]at e2;cases e2;exact kJ _<|gX _<|ih (k:=k) (hp x<|bX e1) ⟨rfl,_,_,rfl⟩
   .rintro Z h' ⟨rfl,a,b,rfl⟩
    exact q
theorem aCc{o:Hq}:Pl aB n (oI o):=by
 have z:oI o = .aG\/(∃i,oI o = .int i)\/∃s,aB=aB/\oI o = .str s:=by
  cases o with
  |none=>exact .inl rfl|some v=>exact .inr<|.inl ⟨v,rfl⟩
 cases n with
 |zero=>exact z|succ n=>exact .inl z
theorem DT{os:Yi}(h:os.length<=2):Pl aB (n+1) (.tup<|os.map oI):=.inr ⟨_,rfl,by rw[aU];exact dG h (by decide),λx a=>by obtain⟨o,_,rfl⟩:=List.mem_map.mp a;exact aCc⟩
def wR(p:Cr):AV:=.tup [.int p.2.1,.tup (p.2.2.2.1.map oI),.int p.2.2.2.2]
theorem DS{p:Cr}(h:p.2.2.2.1.length<=2):Pl aB 2 (wR p):=.inr ⟨_,rfl,(by decide:3<=1000),λx hx=>by
 rcases List.mem_cons.mp hx with rfl|hx
 .exact .inl<|.inr<|.inl ⟨_,rfl⟩
 rcases List.mem_cons.mp hx with rfl|hx
 .exact DT h
 .rw[List.mem_singleton.mp hx];exact .inl<|.inr<|.inl ⟨_,rfl⟩⟩
def yx(t p n:Int)(bH:Yi):AV:=.tup [.int t,.int p,.tup (bH.map oI),.aG,.aG,.tup [.int n,.aG,.aG,.aG]]
theorem aCa{t n:Int}(h:bH.length<=2):Pl aB 2 (yx t p n bH):=.inr ⟨_,rfl,(by decide:6<=1000),λx hx=>by
 have pi:∀{i:Int},Pl aB 1 (.int i):=.inl (.inr<|.inl ⟨_,rfl⟩);have pn:Pl aB 1 .aG:=.inl (.inl rfl);rcases List.mem_cons.mp hx with rfl|hx
 .exact pi
 rcases List.mem_cons.mp hx with rfl|hx
 .exact pi
 rcases List.mem_cons.mp hx with rfl|hx
 .exact DT h
 rcases List.mem_cons.mp hx with rfl|hx
 .exact pn
 rcases List.mem_cons.mp hx with rfl|hx
 .exact pn
 .rw[List.mem_singleton.mp hx];exact .inr ⟨[.int n,.aG,.aG,.aG],rfl,(by decide:4<=1000),λy hy=>by
   rcases List.mem_cons.mp hy with rfl|hy
   .exact .inr<|.inl ⟨_,rfl⟩
   .exact .inl<|LA (n:=3) hy⟩⟩
section
variable {k:Nat}
theorem GN(p0:0<=p)(hr:rs[p.toNat]?=aA r):cN (rs.map aM.av) p=aA r.av:=by obtain⟨n,rfl⟩:=cq p0;rw[rT]at hr;exact L2.oy (by rw[fO,hr];rfl)
theorem aRg:r.dB.length<=2:=by rw[bz];exact aj
theorem A7{t n:Int}{f:Int->Hq}(on:h.ob np=aA (.lst aB<|rs.map aM.av))(og:h.ob ng=aA (.aN kvs))(lg:ng<h.nx)(p0:0<=p)(hr:rs[p.toNat]?=aA row)(hf:∀x,(bL kvs<|.inl x).getD .aG=oI (f x))(q:∀h',Kp h h'->R (.bl aB) h'):WC (run pg (k+4) 52 [yx t p n (row.dB.map f),.int t,.int n,.ref np,.ref ng]) h R:=by
 have big:=kG;have hl:=(List.getElem?_eq_some_iff.mp hr).1;have w2:=aRg (r:=row);refine aT rfl rfl<|aE.df (by omega)<|WC.of<|kK (cO on)<|aE.df (by rw[aU];omega) ?_;refine WC.of<|cf<|nO<|WC.of<|gQ (cO on) (GN p0 hr)<|O1<|oJ bP ?_;have k1:Kp h (h.new<|.lst aB<|row.dB.map AV.int):=Kp.refl.new;have o1:(h.new<|.lst aB<|row.dB.map AV.int).ob h.nx=aA (.lst aB<|row.dB.map AV.int):=bP;generalize h.new (.lst aB<|row.dB.map AV.int)=h1 at k1 o1 ⊢;have og1:=k1.get lg og;refine Ha (λj ys Z h'=>h'=h1/\(∃a,Z=[a,aA (.ref ng)])/\ys=((row.dB.take j).map f).map oI) (by rw[aU,fI];omega) ⟨rfl,⟨_,rfl⟩,rfl⟩ (λ_ _ _ _ y=>y.1▸o1) (λj x ys Z h' hx y=>?_)<|λys Z h' y=>?_
 .obtain⟨rfl,⟨a,rfl⟩,rfl⟩:=y;obtain⟨x,hr,rfl⟩:=lH hx;have et:row.dB.take (j+1)=row.dB.take j++[x]:=by rw[pG,hr];rfl
  refine vc<|cH _<|aE.t (qO og1)<|WC.of<|Ch og1 rfl ⟨?_,rfl,⟨_,rfl⟩,?_⟩
  .rw[aU,aU,lP];omega
  .rw[et,gB,gB,hf];rfl
 .obtain⟨rfl,⟨a,rfl⟩,rfl⟩:=y;rw[aU,pH];refine WC.of<|vM (cO bP)<|xm 2 (aCa (by rw[aU];exact w2))<|q _ k1.new
end
section
variable {k:Nat}{off f:Int->Ht}{t:Int}{ss:Yr}{p:Cr}
def oT(kvs:List (aP×AV))(f:Int->Ht):Prop:=∀x:Int,bL kvs (.inl x)=((f x).getLast?).map AV.int
theorem oT.put{g:Int->Ht}(F:oT kvs f)(e:∀y,g y=f y++if aA x=aA y then[t] else[]):oT (gT kvs (.inl x)<|.int t) g:=λy=>by
 rw[Cd,e];by_cases c:x=y
 .subst c;rw[if_pos rfl,if_pos rfl,LU];rfl
 .rw[if_neg λw=>c (mm w),if_neg λw=>c (dI w),jY];exact F y
theorem oT.same{g:Int->Ht}(F:oT kvs f){o:Hq}(z:o=aD)(e:∀y,g y=f y++if o=aA y then[t] else[]):oT kvs g:=λy=>by rw[e,z];show bL kvs (.inl y)=((f y++[]).getLast?).map AV.int;rw[jY];exact F y
theorem U5:oU am off (ss++[s]) y=oU am off ss y++if s.d1 am=aA y then[s.tk] else[]:=by
 unfold oU;rw[Dq,<- tM];congr 1
 rw[jO];by_cases c:s.d1 am=aA y
 .rw[if_pos c,if_pos c];rfl
 .rw[if_neg c,if_neg c];rfl
theorem ZB:fT y [p]=if aM.fx p.2.2.1=aA y then[p.1] else[]:=by
 unfold fT;rw[jO];by_cases c:aM.fx p.2.2.1=aA y
 .rw[if_pos c,if_pos c];rfl
 .rw[if_neg c,if_neg c];rfl
theorem aQq{y:AV}{k:aP}(e:h.ob n=aA (.aN kvs))(hk:eZ y=aA k)(q:V1 (.bl<|!(bL kvs k).isSome) h):We (Cp.g .nin y<|.ref n) h V1:=by show We (nB aB y<|.ref n) h V1;unfold We nB;simp only[gE,e,hk];exact q
theorem aKy(hf:s.fi.isSome=aB):(s.lt am).iF = .tup [.int s.tk,.int s.pc,.tup (s.bH.map oI),oI s.src,.tup [.int s.pc,oI (s.d1 am),oI (s.d2 am),oI (s.d3 am),oI (s.d4 am),(s.ft am).getD .aG],.tup [.int s.put,oI s.st,oI s.fi,oI s.of]]:=by unfold iB.iF;rw[show(s.lt am).dd = .tup (s.dt am) from yg hf];rfl
theorem aOi{a nf:Nat}(oa:h.ob a=aA (.lst aB<|ss.map λs=>(s.lt am).iF))(la:a<h.nx)(ok:h.ob nk=aA (.aN kv))(lk:nk<h.nx)(of:h.ob nf=aA (.aN vf))(kf:nk≠nf)(hs:∀s∈ss,bL kv (.inl s.tk)=aA (wR s.cr)/\s.fi.isSome=aB/\s.bH.length<=2)(F:oT vf off)(vl:vf.length<1000)(sl:ss.length<=8)
  (q:∀h' vf',Kx [nf] h h'->h'.ob nf=aA (.aN vf')->oT vf' (oU am off ss)->vf'.length<=vf.length+ss.length->R (.bl aB) h'):WC (run pg (k+4) 54 [.ref a,.ref nk,.ref nf]) h R:=by
 have big:=oR;have af:a∉[nf]:=λw=>by rw[List.mem_singleton.mp w,of]at oa;cases oa
 have kf:=λw=>kf (List.mem_singleton.mp w);refine aT rfl rfl<|WB.of<|mO<|nO<|oJ oa ?_;refine uF (λj Z h'=>(∃v3,Z=[aA (.ref a),aA (.ref nk),aA (.ref nf),v3])/\Kx [nf] h h'/\∃vf',h'.ob nf=aA (.aN vf')/\oT vf' (oU am off<|ss.take j)/\vf'.length<=vf.length+j) (by rw[aU,fI];lia) ⟨⟨_,rfl⟩,Kx.refl,vf,of,by rw[Rk,show oU am off []=off from funext λx=>jY _];exact F,aV _⟩ (λ_ _ _ y=>y.2.1.get la af oa) (λj v Z h' hx y=>?_)<|λZ h' y=>?_
 .obtain⟨⟨v3,rfl⟩,kx,vf',of',F',l'⟩:=y;obtain⟨s,hm,rfl⟩:=lH hx;have hj:=(List.getElem?_eq_some_iff.mp hm).1;obtain⟨h1,h2,h3⟩:=hs s (bX hm);have et:ss.take (j+1)=ss.take j++[s]:=by rw[pG,hm];rfl
  have eo:∀y,oU am off (ss.take<|j+1) y=oU am off (ss.take j) y++if s.d1 am=aA y then[s.tk] else[]:=λy=>by rw[et,U5]
  have ok':=kx.get lk kf ok;rw[aKy h2];refine kJ _<|gX _<|WC.of<|aQq ok' rfl ?_;rw[h1];refine WC.of<|jx ok' rfl h1<|xm 2 (v:=wR s.cr) (DS h3) ?_;cases e1:s.d1 am with
  |none=>exact⟨⟨_,rfl⟩,kx,vf',of',F'.same e1 eo,dG l' (Nat.add_le_add_left (hA _) _)⟩|some x=>rw[e1]at eo;refine rO of' rfl (by lia) ⟨⟨_,rfl⟩,kx.put (List.mem_singleton.mpr rfl),_,bS,F'.put eo,dG Bb (vq l')⟩
 .obtain⟨⟨v3,rfl⟩,kx,vf',of',F',l'⟩:=y;rw[aU]at F' l';rw[pH]at F';exact q _ _ kx of' F' l'
end
section
variable {k:Nat}{off:Int->Ht}{t n:Int}{cs fr:List Cr}
structure vZ(kv:List (aP×AV))(ps:List Cr)(t:Int):Prop where
 a:∀p∈ps,bL kv (.inl p.1)=aA (wR p)
 b:∀key v,bL kv key=aA v->∃u,key = .inl u/\u<t
def yw:aR->aR
 |.cons (.uE _ _ b) _=>b
 |_=>.nil
theorem aPu{n:Nat}(e:h.ob n=aA (.aN kvs))(q:V1 (.ref h.nx) (h.new<|.aN kvs)):We (Bi.g .dict [.ref n]) h V1:=by show We (qp [.ref n]) h V1;unfold We qp lX;simp only[e];exact q
structure xk(h:AH)(nk ng:Nat)(kv vf:List (aP×AV))(off:Int->Ht)(cs fr:List Cr)(t:Int)(i:Nat)(h':AH)(kv' vg:List (aP×AV)):Prop where
 kx:Kx [nk] h h'
 ok:h'.ob nk=aA (.aN kv')
 og:h'.ob ng=aA (.aN vg)
 lg:ng<h'.nx
 F:oT vg λx=>off x++fT x ((cs++fr).take i)
 K:vZ kv' (cs++fr.take (i-cs.length)) (t+((i-cs.length:Nat):Int))
 l1:kv'.length<=kv.length+(i-cs.length)
 l2:vg.length<=vf.length+i
theorem vZ.put{ps:List Cr}{p:Cr}(K:vZ kv ps t)(e:p.1=t):vZ (gT kv (.inl p.1)<|wR p) (ps++[p]) (t+1):=by
 refine⟨λr hr=>?_,λkey v h=>?_⟩
 .rw[Cd];rcases List.mem_append.mp hr with hr|hr
  .obtain⟨u,a,lt⟩:=K.b _ _ (K.a r hr);rw[if_neg λw=>by have:=mm w;have:=mm a;lia];exact K.a r hr
  .rw[List.mem_singleton.mp hr,if_pos rfl]
 .rw[Cd]at h;split at h
  .exact⟨p.1,‹_=_›.symm,by lia⟩
  .obtain⟨u,a,lt⟩:=K.b _ _ h;exact⟨u,a,by lia⟩
theorem JT{vg:List (aP×AV)}{v0 v1 v2 v3 v5 v7 v9:Option AV}(op:h.ob np=aA (.lst aB<|rs.map aM.av))(og:h.ob ng=aA (.aN vg))(p0:0<=s.pc)(hr:rs[s.pc.toNat]?=aA s.row)(vl:vg.length<sizeLine)
  (q1:aM.fx s.row=aD->N [v0,v1,v2,v3,aA (.ref np),v5,aA (.ref ng),v7,aA (.tup<|.int s.tk :: .int s.pc::xs),aA .aG] h)(q2:∀x,aM.fx s.row=aA x->N [v0,v1,v2,v3,aA (.ref np),v5,aA (.ref ng),v7,aA (.tup<|.int s.tk :: .int s.pc::xs),aA (.int x)] (h.put ng<|.aN<|gT vg (.inl x)<|.int s.tk)) :
  dZ (run pg<|k+1) (bK<|yw<|bK<|bK xp) [v0,v1,v2,v3,aA (.ref np),v5,aA (.ref ng),v7,aA (.tup<|.int s.tk :: .int s.pc::xs),v9] h N R B C:=by
 have at1:cN (AV.int s.tk :: .int s.pc::xs) 1=aA (.int s.pc):=L2.oy (j:=1) rfl;refine aC.of at1<|WC.of<|gQ (cO op) (GN p0 hr)<|M6 (k:=k) ?_;cases e:aM.fx s.row with
 |none=>exact q1 e|some x=>exact aC.of gI<|rO (k:=.inl x) og rfl vl<|q2 x e
theorem O2{a nf:Nat}{ps:Yr}(oa:h.ob a=aA (.lst aB<|ps.map λs=>(s.lt am).iF))(la:a<h.nx)(ok:h.ob nk=aA (.aN kv))(lk:nk<h.nx)(of:h.ob nf=aA (.aN vf))(lf:nf<h.nx)(op:h.ob np=aA (.lst aB<|rs.map aM.av))(lp:np<h.nx)(F:oT vf off)(K:vZ kv cs t)(el:ps.map Sl.cr=cs++fr)(hf:∀(j:Nat) (p:Cr),fr[j]?=aA p->p.1=t+j/\p.2.2.2.2=n)
  (N:∀(k:Nat) (p:Cr),(cs++fr)[k]?=aA p->p.2.2.2.1=p.2.2.1.dB.map λx=>(off x++fT x ((cs++fr).take k)).getLast?)(hs:∀s∈ps,0<=s.pc/\rs[s.pc.toNat]?=aA s.row/\s.bH.length<=2/\(s.put=n->(s.lt am).iF=yx s.tk s.pc n s.bH))(vl:vf.length<1000)(kl:kv.length<1000)(sl:ps.length<64)
  (q:∀h' kv',Kx [nk] h h'->h'.ob nk=aA (.aN kv')->vZ kv' (cs++fr) (t+fr.length)->kv'.length<=kv.length+fr.length->R (.int<|t+fr.length) h'):WC (run pg (k+5) 53 [.ref a,.ref nk,.int t,.int n,.ref np,.ref nf]) h R:=by
 have big:=oR;have cl:ps.length=cs.length+fr.length:=by have:=congrArg LV el;rw[aU,dQ]at this;exact this
 have ak:a∉[nk]:=λw=>by rw[List.mem_singleton.mp w,ok]at oa;cases oa
 have X:np∉[nk]:=λw=>by rw[List.mem_singleton.mp w,ok]at op;cases op
 refine aT rfl rfl<|WC.of<|aPu of ?_;have k1:Kp h (h.new<|.aN vf):=Kp.refl.new;have W0:xk h nk h.nx kv vf off cs fr t 0 (h.new<|.aN vf) kv vf:=⟨Kx.of k1,k1.get lk ok,bP,cF _,λx=>by show bL vf (.inl x)=((off x++[]).getLast?).map AV.int;rw[jY];exact F x,by rw[MR,Rk,jY,show t+((0:Nat):Int)=t from Dj t];exact K,mR ..,aV _⟩;have L:=k1.get la oa;refine WB.of<|mO<|nO<|oJ L ?_;refine uF (n:=a) (bb:=aB) (xs:=ps.map λs=>(s.lt am).iF) (λi M h'=>(∃O A,M=[aA (.ref a),aA (.ref nk),aA (.int t),aA (.int n),aA (.ref np),aA (.ref nf),aA (.ref h.nx),aA (.int<|t+((i-cs.length:Nat):Int)),O,A])/\∃kv' d,xk h nk h.nx kv vf off cs fr t i h' kv' d) (by rw[aU,fI];lia) ⟨⟨aD,aD,by rw[MR,show t+((0:Nat):Int)=t from Dj t];rfl⟩,kv,vf,W0⟩ (λ_ _ _ y=>by obtain⟨_,_,_,w⟩:=y;exact w.kx.get la ak oa) (λi v M h' hx y=>?_)<|λM h' y=>?_
 .obtain⟨⟨O,A,rfl⟩,kv',d,W⟩:=y;obtain⟨s,hm,rfl⟩:=lH hx;have hi:=(List.getElem?_eq_some_iff.mp hm).1;obtain⟨p0,hr,n2,es⟩:=hs s (bX hm);have l:(cs++fr)[i]?=aA s.cr:=by rw[<- el,fO,hm];rfl
  have Y:∀x,off x++fT x ((cs++fr).take (i+1))=off x++fT x ((cs++fr).take i)++if aM.fx s.row=aA x then[s.tk] else[]:=λx=>by rw[pG,l,tM,yq];exact congrArg _<|congrArg _ ZB
  have B:=W.l2;have C:=W.kx.get lp X op;have step:∀{g:AH}{b:List (aP×AV)},Kx [nk] h g->g.ob nk=aA (.aN b)->g.ob h.nx=aA (.aN d)->h.nx<g.nx->vZ b (cs++fr.take (i+1-cs.length)) (t+((i+1-cs.length:Nat):Int))->b.length<=kv.length+(i+1-cs.length)->(aM.fx s.row=aD->∃kv' d,xk h nk h.nx kv vf off cs fr t (i+1) g kv' d)/\∀x,aM.fx s.row=aA x->∃kv' P,xk h nk h.nx kv vf off cs fr t (i+1) (g.put h.nx<|.aN<|gT d (.inl x)<|.int s.tk) kv' P:=λ{g b} kx D Q E f l1=>
   ⟨λe=>⟨b,d,kx,D,Q,E,W.F.same e Y,f,l1,Ec B⟩,λx e=>⟨b,_,kx.putN (aV _),(bN<|bQ lk).trans D,bS,E,W.F.put λy=>(Y y).trans (by rw[e]),f,l1,dG Bb (vq B)⟩⟩
  refine kJ _<|gX _ ?_;by_cases c:i<cs.length
  .rw[rW c]at l;have z0:=MO (mS c);have S:=MO c;have m:=W.K.a s.cr (vQ _<|bX l);have m:bL kv' (.inl s.tk)=aA (wR s.cr):=m;have f:=W.K;have l1:=W.l1;rw[z0]at f l1 ⊢;rw[S]at step ⊢;obtain⟨s1,s2⟩:=step W.kx W.ok W.og W.lg f l1;refine WC.of<|vK (k:=.inl s.tk) W.ok rfl ?_;rw[m];refine WC.of<|jx (k:=.inl s.tk) W.ok rfl m<|xm 2 (k:=k+1) (v:=wR s.cr) (DS n2) ?_;change dZ (run pg<|k+4) (bK<|yw<|bK<|bK xp) [aA (.ref a),aA (.ref nk),aA (.int t),aA (.int n),aA (.ref np),aA (.ref nf),aA (.ref h.nx),aA (.int<|t+((0:Nat):Int)),aA (.tup<|.int s.tk :: .int s.pc::[.tup (s.bH.map oI),oI s.src,s.dd am,.tup [.int s.put,oI s.st,oI s.fi,oI s.of]]),A] h' _ R _ _;refine JT (k:=k+3) (s:=s) C W.og p0 hr (by omega) (λe=>?_) λx e=>?_
   .exact⟨⟨_,_,rfl⟩,s1 e⟩
   .exact⟨⟨_,_,rfl⟩,s2 x e⟩
  .have c:=vo c;rw[lh c]at l;obtain⟨r,I⟩:=hf _ _ l;have r:s.tk=t+((i-cs.length:Nat):Int):=r;have I:=I;have S:=Nat.succ_sub c;have m:bL kv' (.inl s.tk)=aD:=by
    cases z:bL kv' (.inl s.tk) with
    |none=>rfl|some v=>obtain⟨u,eu,lt⟩:=W.K.b _ _ z;have:=mm eu;omega
   have en:s.bH=s.row.dB.map λx=>(off x++fT x ((cs++fr).take i)).getLast?:=N i s.cr (by rw[<- el,fO,hm];rfl);have et:fr.take (i-cs.length+1)=fr.take (i-cs.length)++[s.cr]:=by rw[pG,l];rfl
   have f:=W.K.put (p:=s.cr) r;rw[tM,<- et]at f;have ev:wR s.cr = .tup [.int s.pc,.tup (s.bH.map oI),.int n]:=by rw[<- I];rfl
   have T:t+((i-cs.length:Nat):Int)+1=t+((i-cs.length+1:Nat):Int):=by omega
   rw[S]at step ⊢;have l1:=W.l1;rw[es I,<- r];refine WC.of<|vK (k:=.inl s.tk) W.ok rfl ?_;rw[m,en];refine A7 (k:=k) C W.og W.lg p0 hr (λx=>?_) λZ J=>?_
   .rw[W.F x];cases(off x++fT x ((cs++fr).take i)).getLast?<;>rfl
   .have U:=W.kx.trans (Kx.of J);have G:∀{o:bB},Kx [nk] h (Z.put nk o):=U.put (List.mem_singleton.mpr rfl);have V:=kL lk;rw[ev,T,en]at f;have H:(Z.put nk<|.aN<|gT kv' (.inl s.tk)<|.tup [.int s.pc,.tup ((s.row.dB.map λx=>(off x++fT x ((cs++fr).take i)).getLast?).map oI),.int n]).ob h.nx=aA (.aN d):=(bN V).trans (J.get W.lg W.og);refine rO (k:=.inl s.tk) (J.get (bA lk W.kx.nx) W.ok) rfl (by omega) ?_;obtain⟨s1,s2⟩:=step G bS H (bA W.lg J.nx) f (dG Bb<|vq l1);change dZ (run pg<|k+4) (bK<|yw<|bK<|bK xp) [aA (.ref a),aA (.ref nk),aA (.int t),aA (.int n),aA (.ref np),aA (.ref nf),aA (.ref h.nx),aA (.int<|s.tk+1),aA (.tup<|.int s.tk :: .int s.pc::[.tup ((s.row.dB.map λx=>(off x++fT x ((cs++fr).take i)).getLast?).map oI),.aG,.aG,.tup [.int n,.aG,.aG,.aG]]),A] _ _ R _ _;refine JT (k:=k+3) (s:=s) ((G (o:=_)).get lp X op) H p0 hr (by omega) (λe=>?_) λx e=>?_
    .rw[show s.tk+1=_ from(congrArg (·+1) r).trans T];exact⟨⟨_,_,rfl⟩,s1 e⟩
    .rw[show s.tk+1=_ from(congrArg (·+1) r).trans T];exact⟨⟨_,_,rfl⟩,s2 x e⟩
 .obtain⟨⟨O,A,rfl⟩,kv',d,W⟩:=y;have K:=W.K;have l1:=W.l1;rw[aU,cl,aTs]at K l1 ⊢;rw[pH]at K;exact q _ _ W.kx W.ok K l1
end
section
variable {k:Nat}{g:Gh}
theorem aJ.CF(r:aJ c g m h)(p:Nat×bB)(hp:p∈c.lo):p.1<h.nx/\h.ob p.1=aA p.2:=by obtain⟨K,G⟩:=r.G;have z:=G.lo p hp;exact⟨bA z.2.1 r.bx,z.2.2⟩
theorem F7(r:aJ c g m h)(q:∀h',Kp h h'->h'.ob h.nx=aA (.lst aB<|m.ac.map λs=>(s.lt c.am).iF)->h.nx<h'.nx->R (.ref h.nx) h'):WC (run pg (k+2) 121 [.ref c.b]) h R:=by
 have sn:=r.W.sn;have big:=kG;refine aT rfl rfl<|WC.of<|cf<|nO<|aC.of r.o0<|aC.of (r.at 1)<|oJ r.kH.1 ?_;refine Ha (λj a b h'=>h'=h/\(∃v0,b=[v0])/\a=((m.ac.take j).map λs=>(s.lt c.am).iF)) (by rw[aU,fI];lia) ⟨rfl,⟨_,rfl⟩,rfl⟩ (λ_ _ _ _ y=>y.1▸r.kH.1) (λj x a b h' d y=>?_)<|λa b h' y=>?_
 .obtain⟨rfl,⟨v0,rfl⟩,rfl⟩:=y;obtain⟨s,hr,rfl⟩:=lH d;have e:m.ac.take (j+1)=m.ac.take j++[s]:=by rw[pG,hr];rfl
  refine vc<|cH _<|aC.of (r.cK<|bX hr)<|Nv (r.cK<|bX hr) ⟨?_,rfl,⟨_,rfl⟩,?_⟩
  .have f:(m.ac.take j).length<=m.ac.length:=by rw[lP];lia
   rw[aU];lia
  .rw[e,gB];rfl
 .obtain⟨rfl,⟨v0,rfl⟩,rfl⟩:=y;rw[aU,pH];exact q _ Kp.refl.new bP<|cF _
theorem aBw{u:AV}{b:Bool}(e:h.ob n=aA (.lst aB [u,v]))(q:Q (if b=aB then v else u) h):WC (Op.g .ix (.ref n)<|.int<|if b=aB then 1 else 0) h Q:=by
 cases b with
 |true=>exact WC.of<|gQ (cO e) rfl q|false=>exact WC.of<|gQ (cO e) rfl q
theorem AO(z:m.eD c ≠ .aG):nC (m.eD c)=aH:=by
 unfold Mo.eD at z ⊢;split
 .rfl
 .split
  .rfl
  .rename_i a b;rw[if_neg a,if_neg b]at z;exact absurd rfl z
theorem XB(r:aJ c g m h)(q:R (.tup [.int m.bF,.int m.cD.length,.int m.jW]) h):WC (run pg (k+1) 125 [.ref c.b]) h R:=aT rfl rfl (aC.of r.o0<|aC.of (r.at 1)<|aC.of r.o0<|aC.of (r.at 11)<|WC.of<|kK (cO<|r.at 12)<|aC.of r.o0<|aC.of (r.at 1) q)
theorem VS{b:Bool}(e:h.ob n=aA (.lst b xs)):tX h (.ref n)=aA .lst:=by simp only[tX,e]
theorem NI.iR{off:Int->Ht}{p w:Int}(N:NI off (m.ac.map Sl.cr) m.fl):NI off ((m.iR p w).ac.map Sl.cr) (m.iR p w).fl/\(m.iR p w).bF=m.bF:=by
 unfold Mo.iR;split
 .exact⟨N,rfl⟩
 .rename_i s rest a;exact⟨((Px).c ⟨s,by show s∈m.ac;rw[a];exact fP,iG _⟩ ⟨N,λ_ h=>h⟩).1,rfl⟩
structure LI(c:Cf)(nk nf i:Nat)(off:Int->Ht)(kv vf:List (aP×AV))(g:Gh)(m:Mo)(h:AH):Prop where
 r:aJ c g m h
 T:TI c i m
 N:m.brk=aH->NI off (m.ac.map Sl.cr) m.fl
 ok:h.ob nk=aA (.aN kv)
 of:h.ob nf=aA (.aN vf)
 K:vZ kv (m.ac.map Sl.cr) m.bF
 F:oT vf off
 kl:(kv.length:Int)<=m.bF
 vl:vf.length<=8*i
 kk:g.kd nk=28
 kf:g.kd nf=28
 lk:nk<h.nx
 lf:nf<h.nx
theorem A6{n:Int}{K:Int->Prop}(S:mW c n bF K dR bg s)(e:s.put=n):(s.lt c.am).iF=yx s.tk s.pc n s.bH:=by
 have st:s.st=aD:=by
  cases z:s.st with
  |none=>rfl|some a=>have:=S.s1 a z;lia
 obtain⟨fi,sr⟩:=S.s0 st;show AV.tup [.int s.tk,.int s.pc,.tup (s.bH.map oI),oI s.src,s.dd c.am,.tup [.int s.put,oI s.st,oI s.fi,oI s.of]]=_;rw[show s.dd c.am = .aG by unfold Sl.dd;rw[fi],st,fi,sr,S.of,e];rfl
end
section
variable {g:Gh}{off:Int->Ht}
noncomputable abbrev L8:aR:=bK (bK<|bK<|bK<|bK<|bK<|bK<|bK<|bK<|bK Vh)
theorem L7{calm:Bool}{nr nf:Nat}{sd0:Sd}{sz wd:Int}{v13 v14:Option AV}(X:mU c)(hi:i<40)(lo0:(0,bB.lst aH (ns.map AV.int))∈c.lo)(lo1:(nr,bB.lst aB (c.rs.map aM.av))∈c.lo)(sm:0<sd0.mem.length)(rm:c.am=sd0.mem.length)(bk:c.b<=nk)(bf:c.b<=nf)(ne:nk≠nf)(L:LI c nk nf i off kv vf g m h)
  (qn:∀v13 v14 off kv vf g m h,LI c nk nf (i+1) off kv vf g m h->N [aA (.ref 0),aA (.bl calm),aA (.ref nr),aA sd0.av,aA (.int sz),aA (.int wd),aA (.ref gu),aA (.ref nv),aA (.ref c.b),aA (.ref nk),aA (.ref nf),aA (.int m.bF),aA (.int<|1+(i:Int)),v13,v14] h)(qb:∀Z h,B Z h) :
  dZ (run pg 23) (yw L8) [aA (.ref 0),aA (.bl calm),aA (.ref nr),aA sd0.av,aA (.int sz),aA (.int wd),aA (.ref gu),aA (.ref nv),aA (.ref c.b),aA (.ref nk),aA (.ref nf),aA (.int m.bF),aA (.int<|1+(i:Int)),v13,v14] h N R B N:=by
 refine aC.of L.r.o0<|zr (k:=21) L.r ?_;by_cases z:m.eD c = .aG
 rotate_left
 .exact aE.t (by rw[AO z];rfl)<|qb _ _
 rw[z];have tk8:=L.T.tk;have kl:=L.kl;have vl:=L.vl;refine aC.of L.r.o0<|Q9 (k:=13) X L.T L.N (by omega) (by omega) L.r z λss a g1 m1 h1 cs fr r1 T1 N1 os sl oa la ec hcs hfr htk f1=>?_;have eT:(i:Int)+1=1+i:=Int.add_comm ..;rw[eT]at T1 hfr;obtain⟨ok1,kk1⟩:=f1.ob nk L.lk L.kk bk;obtain⟨of1,kf1⟩:=f1.ob nf L.lf L.kf bf;have lk1:=bA L.lk f1.nx;have lf1:=bA L.lf f1.nx;refine aC.of (VS oa)<|aOi (k:=19) (am:=c.am) oa la (ok1.trans L.ok) lk1 (of1.trans L.of) ne (λs hs=>⟨L.K.a _ (os s hs).1,(os s hs).2,?_⟩) L.F (by omega) sl λh2 vf2 kx2 of2 F2 l2=>?_
 .obtain⟨z,hz,e⟩:=List.mem_map.mp (os s hs).1;have e:z.bH=s.bH:=congrArg (·.2.2.2.1) e;rw[<- e,(L.T.I.sl z hz).nl];exact aj
 have r2:=r1.Js bf kf1 kx2;have nk2:nk∉[nf]:=λw=>ne (List.mem_singleton.mp w);have ok2:=kx2.get lk1 nk2 (ok1.trans L.ok);have lk2:=bA lk1 kx2.nx;have lf2:=bA lf1 kx2.nx;refine aC.of r2.o0<|F7 (k:=21) r2 λh3 k3 o3 l3=>?_;have r3:=r2.keep k3;obtain⟨lp,op⟩:=r3.CF _ lo1;refine O2 (k:=18) (ps:=m1.ac) o3 l3 (k3.get lk2 ok2) (bA lk2 k3.nx) (k3.get lf2 of2) (bA lf2 k3.nx) op lp F2 ⟨λp hp=>L.K.a p (hcs p hp),L.K.b⟩ ec hfr (λk p hp=>?_) (λs hs=>?_) (by omega) (by omega) r1.W.sn λh4 kv4 kx4 ok4 K4 l4=>?_
 .rw[<- ec]at hp ⊢;cases e:m1.brk with
  |false=>exact(N1 e).n k p hp|true=>rw[T1.bk e]at hp;cases hp
 .have S:=T1.I.sl s hs;exact⟨S.p0,S.hr,by rw[S.nl];exact aj,A6 S⟩
 have r4:=r3.Js bk kk1 kx4;rw[<- ec,<- htk]at K4;rw[<- htk];have nf4:nf∉[nk]:=λw=>ne (List.mem_singleton.mp w).symm;have L5:LI c nk nf (i+1) (oU c.am off ss) kv4 vf2 g1 m1 h4:=⟨r4,by rw[show((i+1:Nat):Int)=1+i by omega];exact T1,N1,ok4,kx4.get (bA lf2 k3.nx) nf4 (k3.get lf2 of2),K4,F2,by omega,by omega,kk1,kf1,bA (bA lk2 k3.nx) kx4.nx,bA (bA lf2 k3.nx) kx4.nx⟩;have t0:=T1.I.t0;refine aE.df (c:=m1.bF<0) (by omega)<|aC.of r4.o0<|XB (k:=22) r4<|xm 0 (k:=22) (v:=.int m1.bF) (.inr<|.inl ⟨_,rfl⟩) ?_;obtain⟨_,e0⟩:=r4.CF _ lo0;refine wL (k:=22) (by decide) e0 λc7=>rJ (k:=22) (by omega) (by omega) λz7 z70 z71=>?_;refine aC.of r4.o0<|zr (k:=21) r4 ?_;by_cases z5:m1.eD c = .aG
 rotate_left
 .exact aE.f (AO z5)<|qn _ _ _ _ _ _ _ _ L5
 rw[z5];refine aE.dc (λ_=>?_) λ_=>qn _ _ _ _ _ _ _ _ L5;have ml:m1.sd.mem.length=sd0.mem.length:=by have:=T1.I.rm;omega
 have sm':(0:Int)<sd0.mem.length:=by omega
 have am:=X.rm;refine aC.of r4.o0<|aE.dt (by rw[aU];exact sm') ?_;rw[aU];refine aCl (k:=19) r4 z5 (mE _ (by omega)) (by rw[ml];exact mP _ sm') (by omega) λv g6 h6 r6 f6=>?_;obtain⟨T6,e6⟩:=L5.T.iR (w:=z7 / 900%8) ⟨by omega,by omega⟩;obtain⟨N6,t6⟩:=(N1<|Jc z5).iR;obtain⟨ok6,kk6⟩:=f6.ob nk L5.lk kk1 bk;obtain⟨of6,kf6⟩:=f6.ob nf L5.lf kf1 bf;have L6:LI c nk nf (i+1) (oU c.am off ss) kv4 vf2 g6 _ h6:=⟨r6,T6,λ_=>N6,ok6.trans ok4,of6.trans L5.of,by rw[e6,t6];exact⟨(λ_ h=>nomatch h),K4.b⟩,F2,by rw[t6];exact L5.kl,L5.vl,kk6,kf6,bA L5.lk f6.nx,bA L5.lf f6.nx⟩;have:=qn (aA<|.ref a) (aA<|.int z7) _ _ _ _ _ _ L6;rw[t6]at this;exact this
theorem aCp:∃ms:Ht,iP (ns.map AV.int) (aA 8) (aA 63)=ms.map AV.int/\ms.length<=55:=by
 refine⟨(ns.drop<|HT.cC ns.length 0<|aA 8).take (HT.cC ns.length ns.length (aA 63)-HT.cC ns.length 0 (aA 8)),?_,?_⟩
 .unfold iP;rw[aU,Qw,Qv]
 .rw[show(aA 8:Hq)=aA ((8:Nat):Int) from rfl,show(aA 63:Hq)=aA ((63:Nat):Int) from rfl,HT.jf,HT.jf,lP];refine dG (ML _ _) ?_;rcases Ro 8 ns.length with h|h
  .rw[vp h];exact MP (ML 63 _) 8
  .rw[Rr h];exact dG (MP (MM 63 _) _) (by rw[Ee];exact kM _)
theorem keeps:Keeps pg 24 55:=by
 have big:sizeLine=16777216:=oR;refine Keeps.of λns hns=>WC.we (aT rfl rfl ?_);have e0:(h0 ns).ob 0=aA (.lst aH<|ns.map AV.int):=rfl;have z0:0<(h0 ns).nx:=MQ;generalize h0 ns=h at e0 z0 ⊢;refine wL (k:=22) (by decide) e0 λc0=>?_;obtain⟨ms,em,lm⟩:=aCp (ns:=ns);refine kb<|WC.of<|Ck e0 ?_;rw[em];have k1:Kp h (h.new<|.lst aB<|ms.map AV.int):=Kp.refl.new;refine aCq (k:=19) bP (cF _) (by omega) λh2 nr rs k2 lr Rw rl=>?_;have k2:=k1.trans k2;have e2:=k2.get z0 e0;refine wL (k:=22) (by decide) e2 λc1=>wL (k:=22) (by decide) e2 λc2=>aLs (k:=21) λh3 bx mem k3 bw bl mw m0 ml=>?_;have e3:=(k2.trans k3).get z0 e0;have z3:=bA z0 (k2.trans k3).nx;have o3:=k3.get lr Rw.1;have l3:=bA lr k3.nx;refine wL (k:=22) (by decide) e3 λc3=>aKs (k:=21) λsz wd s1 s2 d1 d2=>?_;refine wL (k:=22) (by decide) e3 λc5=>BO (k:=19) (K:=λ_=>aD) (b:=10) e3 hns (λ_ _ e=>nomatch e) (λ_ _ e=>nomatch e) λh6 gu K6 k6 T6 l6 a6 g6=>?_;have e6:=k6.get z3 e3;refine wL (k:=22) (by decide) e6 λc6=>BO (k:=19) e6 hns T6 l6 λh7 nv K7 k7 T7 l7 a7 g7=>?_;have k37:=k6.trans k7;have e7:=k37.get z3 e3;have z7:=bA z3 k37.nx;have o7:=k37.get l3 o3;have lr7:=bA l3 k37.nx;refine wL (k:=22) (by decide) e7 λc4=>aNq (k:=21) λh8 tb k8 tok=>?_;have k38:=k37.trans k8;have G:lT ⟨h8.nx,rs,sz,wd,tb,gu,nv,(mem.length:Int),[(0,.lst aH (ns.map AV.int)),(nr,.lst aB (rs.map aM.av))]⟩ 10 K7 h8:=by
  refine⟨T7.kp l7 k8,(a7 _<|l6 _ _ g6).trans g6,g7,λj t e=>bA (l7 j t e) k8.nx,λp hp=>?_⟩;have low:∀{x:Nat}{o:bB},x<h3.nx->h3.ob x=aA o->K7 x=aD/\x<h8.nx/\h8.ob x=aA o:=λ{x o} hx ho=>⟨(a7 x<|bA hx k6.nx).trans (a6 x hx),bA hx k38.nx,k38.get hx ho⟩;rcases List.mem_cons.mp hp with rfl|hp
  .exact low z3 e3
  .rw[List.mem_singleton.mp hp];exact low l3 o3
 refine P4 (k:=20) (sd:=⟨0,bx,mem⟩) rfl (k38.get l3 o3) (bA l3 k38.nx) G λg8 h9 r9 k9=>⟨rfl,?_⟩;have X:mU ⟨h8.nx,rs,sz,wd,tb,gu,nv,(mem.length:Int),[(0,.lst aH (ns.map AV.int)),(nr,.lst aB (rs.map aM.av))]⟩:=⟨Rw.2,tok,s2,d1,d2,by show(mem.length:Int)<=80;omega⟩;have I:=P0 (sd:=⟨0,bx,mem⟩) X (by show 0<=sz;omega) ⟨iG _,bl,bw,mw⟩ rfl;generalize hc:(⟨h8.nx,rs,sz,wd,tb,gu,nv,(mem.length:Int),[(0,.lst aH (ns.map AV.int)),(nr,.lst aB (rs.map aM.av))]⟩:Cf)=c at X I r9;have ecb:h8.nx=c.b:=by rw[<- hc]
 have ers:c.rs=rs:=by rw[<- hc]
 have erm:c.am=mem.length:=by rw[<- hc]
 have elo:c.lo=[(0,.lst aH (ns.map AV.int)),(nr,.lst aB (rs.map aM.av))]:=by rw[<- hc]
 clear hc;rw[ecb];subst ers;have lo0:(0,bB.lst aH (ns.map AV.int))∈c.lo:=by rw[elo];exact fP
 have lo1:(nr,bB.lst aB (c.rs.map aM.av))∈c.lo:=by rw[elo];exact hW _ fP
 have T0:TI c (0:Nat) (ai ⟨0,bx,mem⟩):=⟨I,rfl,iG _,iG _,λh=>nomatch h⟩;have n1:h9.nx≠h9.nx+1:=bQ (cF _);have L0:∀{o:bB},LI c h9.nx (h9.nx+1) 0 (λ_=>[]) [] [] _ (ai ⟨0,bx,mem⟩) (((h9.new<|.aN []).new (.aN [])).new o):=λ{o}=>⟨((r9.fresh (n:=h9.nx) Kp.refl.new<|aV _).fresh (n:=h9.nx+1) Kp.refl.new (aV _)).keep Kp.refl.new,T0,λ_=>⟨λ_=>rfl,λ_=>.nil,(λ_ _ h=>nomatch h),(λ_ _ h=>nomatch h),.nil⟩,(dY<|bQ<|iJ<|cF _).trans ((dY n1).trans bP),(dY<|bQ<|cF _).trans bP,⟨(λ_ h=>nomatch h),(λ_ _ h=>nomatch h)⟩,λ_=>rfl,iG _,aV _,(if_neg n1).trans (if_pos rfl),if_pos rfl,iJ (iJ<|cF _),iJ (cF _)⟩;have bx:=r9.bx;refine WB.of<|mO<|aQx<|aBw (b:=decide (sz > 12)) bP ?_;obtain⟨j,ej,hj⟩:∃j:Int,(if decide (sz > 12)=aB then AV.int 17 else AV.int 41) = .int j/\1<=j/\j<=41:=by
  split
  .exact⟨17,rfl,by decide,by decide⟩
  .exact⟨41,rfl,by decide,by decide⟩
 rw[ej];refine aC.of rfl ⟨by rw[uh (j:=j) (by omega) (by omega)];rfl,?_⟩;refine Ib (lo:=1) (λi Z h'=>∃off kv vf g m,(∃v12 v13 v14,Z=[aA (.ref 0),aA (.bl<|!decide (c0%3=1)),aA (.ref nr),aA (Sd.av ⟨0,_,mem⟩),aA (.int sz),aA (.int wd),aA (.ref gu),aA (.ref nv),aA (.ref c.b),aA (.ref h9.nx),aA (.ref<|h9.nx+1),aA (.int m.bF),v12,v13,v14])/\LI c h9.nx (h9.nx+1) i off kv vf g m h') (by rw[fI];omega) ⟨_,_,_,_,_,⟨_,_,_,rfl⟩,L0⟩ (λi Z h' hi y=>?_)<|λZ h' y=>rfl;obtain⟨off,kv,vf,g,m,⟨v12,v13,v14,rfl⟩,L⟩:=y;exact kJ _<|gX _<|L7 (ns:=ns) X (by omega) lo0 lo1 m0 erm bx (Ec bx) n1 L (λv13 v14 off kv vf g m h L=>⟨off,kv,vf,g,m,⟨_,_,_,rfl⟩,L⟩) λZ h=>rfl
end
def fK:Xx:=[21,102,109,116,123,130,137,145,152,159,166,173,180,187,194,201,208,215,222,229,815,822,829,836,871,878,885,892,899,906,913,920,927,934,941,1037,1044,1051,1058,1065,1072,1079,1086,1093,1098,1103,1110,1117,1124,1129,1136,1143,1148,1155,1162,1169,243,250,257,278,285,292,299,306,327,347,354,361,381,388,395,415,422,429,448,455,474,481,488,508,515,522,541,546,553,558,565,570,591,598,605,610,617,638,643,650,657,664,669,676,683,688,693,698,719,726,733,740,761,768,775,782,789,796,801,850,857,962,969,976,983,988,995,1002,1009,1016,1023]
def cs:Yt:=[(6,260),(7,309),(8,330),(9,364),(10,398),(11,432),(12,458),(13,491),(14,525),(15,573),(16,620),(17,701),(18,743),(19,804),(20,860),(21,1026)]
theorem Af{α:Type}{x:Str}{v:α}(h:([]:List (Str×α)).lookup x=aA v):False:=by cases h
theorem ab{α:Type}{x k:Str}{v u:α}{r:List (Str×α)}(h:((k,u)::r).lookup x=aA v):(x=k/\v=u)\/r.lookup x=aA v:=by
 rw[jD]at h;split at h
 .rename_i q;exact .inl ⟨eq_of_beq q,(dI h).symm⟩
 .exact .inr h
theorem aWd{α:Type}{x:Nat}{v:α}(h:([]:List (Nat×α)).lookup x=aA v):False:=by cases h
theorem aWc{α:Type}{x k:Nat}{v u:α}{r:List (Nat×α)}(h:((k,u)::r).lookup x=aA v):(x=k/\v=u)\/r.lookup x=aA v:=by
 rw[jD]at h;split at h
 .rename_i q;exact .inl ⟨eq_of_beq q,(dI h).symm⟩
 .exact .inr h
theorem Jy{α β:Type} [BEq α] {p:β->Bool}{k:α}{v:β}:∀{l:List (α×β)},l.lookup k=aA v->p v=aB->(l.filter λe=>p e.2).lookup k=aA v
 |[],h,_=>by cases h
 | (a,b)::l,h,hp=>by
  rw[jD]at h;by_cases e:(k==a)=aB
  .rw[e]at h;cases h;rw[LC (p:=λe:α×β=>p e.2) (a:=(a,v)) hp,jD,e]
  .rw[Bool.not_eq_true]at e;rw[e]at h;by_cases hb:p b=aB
   .rw[LC (p:=λe:α×β=>p e.2) (a:=(a,b)) hb,jD,e];exact Jy h hp
   .rw[aTl (p:=λe:α×β=>p e.2) (a:=(a,b)) hb];exact Jy h hp
theorem M8{α:Type}{x:Str×Nat}{v:α}(h:([]:List ((Str×Nat)×α)).lookup x=aA v):False:=by cases h
theorem Jz{α:Type}{x y:Str}{m:Nat}{v u:α}{r:List ((Str×Nat)×α)}(h:(((y,m),u)::r).lookup (x,n)=aA v):(x=y/\n=m/\v=u)\/r.lookup (x,n)=aA v:=by
 rw[jD]at h;split at h
 .rename_i q;have q:=eq_of_beq q;cases q;exact .inl ⟨rfl,rfl,(dI h).symm⟩
 .exact .inr h
theorem all_mk{l:Sf}{w:bW}{K:bJ}{h:bI}{mg:Str->Xy}{fa:Addr} (X:K.In h) (G:h.Ns jG mg) (hfa:mg "law"=aA (.ref fa)) {fds:List eS} (D:jI K Hf fK fds) (lb:∀v,bindArgs (fds.getD 55 default) ⟨[v],[]⟩=pure [(("_law_script":Str),v)]) (oN:tj K pr fK=aB) (oF:CY K pr cs=aB) (oM:DA K pr fK cs=aB) (oK:CZ K pr fK cs=aB)
  {HZ:Tok}{IA:Tok}{aNo:Tok}{aNn:Tok}{Il:Addr}{aMd aMe aMf aMg aMh aMi aMj aMk aMl aMm t10_WAYS t11_WAYS:Tok}{XY:ZF}{T5:Nat}{aLp:ZC}{zU:Addr}{Li:Obj}{aNp:Tok}
  (Pw:vS K jG "Guesser"=aA (aA<|.ref 309))(Fy:Binds K (fds.getD 65 default) ["self","first"] [dg aH])(Fx:Binds K (fds.getD 68 default) ["self","many","begin"] [yD 1 HZ])(Fz:Binds K (fds.getD 71 default) ["self","many","long"] [yD 4 IA])(Gf:Ep K (.ref 309) "__getattribute__"=aA (aA<|.builtin "type.__getattribute__"))(Ge:So K 309 (.type "type")=aB)(Ga:Si K (.ref 309) (.type "type") "__init__"=aA (.val<|.ref 278))(Pq:vS K jG "BITS"=aA (aA<|.int 64 aNo))(Pp:vS K jG "BEYOND"=aA (aA<|.int 18446744073709551616 aNn))(Pu:vS K jG "WAYS"=aA (aA<|.ref Il))(Ju:K.lookup Il=aA ⟨.type "tuple",XY,.seq #[nR "sum" aMd,nR "less" aMe,nR "times" aMf,nR "share" aMg,nR "rest" aMh,nR "both" aMi,nR "some" aMj,nR "odd" aMk,nR "up" aMl,nR "down" aMm,nR "below" t10_WAYS,nR "same" t11_WAYS] T5,aLp⟩)(Pt:vS K jG "GROUPS"=aA (aA<|.ref zU))(Jt:K.lookup zU=aA Li)(Hk:Ei Rx (λ_=>aA Li) zU (([("times",1),("share",2),("rest",2),("load",3),("store",3),("jump",4),("go",4),("fault",4)]:Yk).map λp=>(p.1,sA p.2))=aB)(Lr:Eh (λ_=>aA Li) zU=(([("times",1),("share",2),("rest",2),("load",3),("store",3),("jump",4),("go",4),("fault",4)]:Yk).map λp=>(p.1,sA p.2)).map λp=>(Su l.prog w).hash p.1)(Ps:vS K jG "GREATEST_COUNT"=aA (aA<|.int 3 aNp)) :
  ∃fd:eS,(∀(s:aI) (v:Value),kh s fd ⟨[v],[]⟩ [("_law_script",v)])/\∀base:bI,K.In base->base.Ns jG mg->iL l.prog w K mg base (kQ l.prog w) (2*24+2) fa fd ["_law_script"] (Nz K):=by
 have e:=hfa.symm.trans (DB X G D oN 55 _ rfl);cases e;have O:Fs l.prog w pr ⟨K,λkvs a=>(kvs=([("times",1),("share",2),("rest",2),("load",3),("store",3),("jump",4),("go",4),("fault",4)]:Yk)/\a=zU)\/False,λi=>cs.lookup i⟩ mg (λi=>fK.getD i 0) (λi=>fds.getD i default):=by
  refine⟨λi d hd=>?_,λi d hd=>?_,λx v hx=>?_,λx hx=>?_,λkvs a ht=>?_,λf cs hx=>?_,λm dp hx c i hi=>?_,λx n c i dv hx=>?_,λy cs hx=>?_,λx m i hx=>?_⟩
  .exact jI.get D i d hd
  .exact DB X G D oN i d hd
  .rcases ab hx with⟨rfl,rfl⟩|hx
   .exact⟨_,.int 64,vR X G Pq,⟨_,rfl⟩,λ_ _=>.int _⟩
   rcases ab hx with⟨rfl,rfl⟩|hx
   .exact⟨_,.int 18446744073709551616,vR X G Pp,⟨_,rfl⟩,λ_ _=>.int _⟩
   rcases ab hx with⟨rfl,rfl⟩|hx
   .exact⟨_,.ref Il,vR X G Pu,rfl,λ_ _=>.tup (ys:=[.str "sum",.str "less",.str "times",.str "share",.str "rest",.str "both",.str "some",.str "odd",.str "up",.str "down",.str "below",.str "same"]) (.inr ⟨_,_,_,Ju,rfl,rfl,(by decide:12<=sizeLine),(.cons ⟨_,rfl⟩<|.cons ⟨_,rfl⟩<|.cons ⟨_,rfl⟩<|.cons ⟨_,rfl⟩<|.cons ⟨_,rfl⟩<|.cons ⟨_,rfl⟩<|.cons ⟨_,rfl⟩<|.cons ⟨_,rfl⟩<|.cons ⟨_,rfl⟩<|.cons ⟨_,rfl⟩<|.cons ⟨_,rfl⟩<|.cons ⟨_,rfl⟩ .nil)⟩) (.cons (.str _)<|.cons (.str _)<|.cons (.str _)<|.cons (.str _)<|.cons (.str _)<|.cons (.str _)<|.cons (.str _)<|.cons (.str _)<|.cons (.str _)<|.cons (.str _)<|.cons (.str _)<|.cons (.str _) .nil)⟩
   rcases ab hx with⟨rfl,rfl⟩|hx
   .exact⟨_,.ref zU,vR X G Pt,rfl,λ_ _=>.lF (.inl ⟨rfl,rfl⟩)⟩
   rcases ab hx with⟨rfl,rfl⟩|hx
   .exact⟨_,.int 3,vR X G Ps,⟨_,rfl⟩,λ_ _=>.int _⟩
   exact(Af hx).elim
  .exact V0 X G oN x hx
  .rcases ht with⟨rfl,rfl⟩|ht
   .exact AM.L3 Jt Hk (by decide +kernel) Lr
   .exact ht.elim
  .exact U7 oF f cs hx
  .exact U9 D oM m dp hx c i hi
  .refine U8 X G D oK (λx n c i dv hx hv=>?_) x n c i dv hx;have hx:=Jy (p:=λv=>!v.2.2.isEmpty) hx (by cases dv with|nil=>exact absurd rfl hv|cons _ _=>rfl);replace hx:rX (x,n) [(("Paths",1),(11,71,[.int 4])),(("Last",0),(9,65,[.bl aH])),(("Counts",1),(10,68,[.int 1]))]=aA (c,i,dv):=hx
   rcases Jz hx with⟨rfl,rfl,e⟩|hx
   .cases e;exact⟨_,[yD 4 IA],[.int 4],rfl,Fz,(.cons ⟨_,rfl⟩ .nil),λ_ _=>(.cons (.int _) .nil)⟩
   rcases Jz hx with⟨rfl,rfl,e⟩|hx
   .cases e;exact⟨_,[dg aH],[.bl aH],rfl,Fy,(.cons rfl .nil),λ_ _=>(.cons (.bl _) .nil)⟩
   rcases Jz hx with⟨rfl,rfl,e⟩|hx
   .cases e;exact⟨_,[yD 1 HZ],[.int 1],rfl,Fx,(.cons ⟨_,rfl⟩ .nil),λ_ _=>(.cons (.int _) .nil)⟩
   exact(M8 hx).elim
  .exact(Af hx).elim
  .obtain⟨r,h1,h2⟩:=Option.bind_eq_some_iff.mp hx;clear hx;rcases ab h1 with⟨rfl,rfl⟩|h1
   .rcases ab h2 with⟨rfl,rfl⟩|h2
    .exact⟨_,309,rfl,vR X G Pw,(jI.get (f0:=default) D 59 _ rfl).fn.kp,Gf,Ge,Ga,rfl⟩
    exact(Af h2).elim
   exact(Af h1).elim
 have hk:Keeps pr.ir 24 55:=by rw[G4];exact keeps
 exact⟨_,λs v=>.of_eq (lb v),λbase _ _=>M0 (T:=⟨K,λkvs a=>(kvs=([("times",1),("share",2),("rest",2),("load",3),("store",3),("jump",4),("go",4),("fault",4)]:Yk)/\a=zU)\/False,λi=>cs.lookup i⟩) O (i:=55) rfl hk⟩
end AMx
open PySem PySem.W PyProof.Rows
theorem PySem.Challenge.cw_aheadmill_k42_names_told_holds : PySem.Challenge.rw_aheadmill_k42_names_told.Holds := by
 refine PySem.W.Fast.te0 ?_;k_fill
 refine AM.walk (k:=2*24+2) (x:="_law_script") (l:=NB) rfl rfl ⟨rfl,by decide,by decide⟩ (λw h Y=>W.kIn_of Y) ?F
 case F=>
  intro w mg fa h KX G hmg;refine' AMx.all_mk KX G hmg ?D ?lb ?oN ?oF ?oM ?oK ?Pw ?Fy ?Fx ?Fz ?Gf ?Ge ?Ga ?Pq ?Pp ?Pu ?Ju ?Pt ?Jt ?Hk ?Lr ?Ps
  case D=>
   unfold AMx.Hf AMx.fK;repeat' first
    |exact AM.jI.nil
    | (apply AM.jI.one (dV:=.none);(case l=>k_is);(case c=>k_is);(case k=>k_is);(case b=>first|exact L2.Binds.all λus hl=>by obtain⟨v0,rfl⟩:=AM.Ow hl;rfl|exact L2.Binds.all λus hl=>by obtain⟨v0,v1,rfl⟩:=AM.ju hl;rfl|exact L2.Binds.all λus hl=>by obtain⟨v0,v1,v2,rfl⟩:=AM.Ox hl;rfl|exact L2.Binds.all λus hl=>by obtain⟨v0,v1,v2,v3,rfl⟩:=AM.Oy hl;rfl|exact L2.Binds.all λus hl=>by obtain⟨v0,v1,v2,v3,v4,rfl⟩:=AM.IP hl;rfl|exact L2.Binds.all λus hl=>by obtain⟨v0,v1,v2,v3,v4,v5,rfl⟩:=AM.IQ hl;rfl);(case s=>exact⟨by kernel_rfl,by kernel_rfl,by kernel_rfl,by decide +kernel,by kernel_rfl,by decide +kernel,by decide +kernel⟩))
    | (apply AM.jI.one;(case l=>k_is);(case c=>k_is);(case k=>k_is);(case b=>apply AM.xq rfl;(case l=>k_is);(case hs=>rfl);(case h=>first|exact λus hl=>by rw[jY]at hl ⊢;obtain⟨v0,v1,rfl⟩:=AM.ju hl;exact⟨_,rfl,rfl⟩|exact λus hl=>by rw[jY]at hl ⊢;obtain⟨v0,v1,v2,rfl⟩:=AM.Ox hl;exact⟨_,rfl,rfl⟩|exact λus hl=>by rw[jY]at hl ⊢;obtain⟨v0,v1,v2,v3,rfl⟩:=AM.Oy hl;exact⟨_,rfl,rfl⟩|exact λus hl=>by rw[jY]at hl ⊢;obtain⟨v0,v1,v2,v3,v4,v5,v6,v7,rfl⟩:=AM.IS hl;exact⟨_,rfl,rfl⟩));(case s=>exact⟨by kernel_rfl,by kernel_rfl,by kernel_rfl,by decide +kernel,by kernel_rfl,by decide +kernel,by decide +kernel⟩))
  (case lb=>exact λv=>rfl)
  (case Fy=>apply AM.xq rfl;(case l=>k_is);(case hs=>rfl);(case h=>exact λus hl=>by have hl:us.length=1:=(by simpa using hl);obtain⟨v0,rfl⟩:=AM.Ow hl;exact⟨_,rfl,rfl⟩))
  (case Fx=>apply AM.xq rfl;(case l=>k_is);(case hs=>rfl);(case h=>exact λus hl=>by have hl:us.length=2:=(by simpa using hl);obtain⟨v0,v1,rfl⟩:=AM.ju hl;exact⟨_,rfl,rfl⟩))
  (case Fz=>apply AM.xq rfl;(case l=>k_is);(case hs=>rfl);(case h=>exact λus hl=>by have hl:us.length=2:=(by simpa using hl);obtain⟨v0,v1,rfl⟩:=AM.ju hl;exact⟨_,rfl,rfl⟩))
  (case Pw|Gf|Ge|Ga|Pq|Pp|Pu|Ju|Pt|Jt=>k_is)
  (case Hk|Lr=>rfl)
  (case Ps=>k_is)
  (all_goals kernel_rfl)
