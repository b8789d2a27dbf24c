import PyProof.Rows.All
import KE.KIsAll
import OpenK.KLine
import KE.KItem
import OpenK.KRaise
import OpenK.KOwn
import KE.LcSums
import KE.KSortAsk
import KE.KTryMore
import KE.KItemsList
import KE.KSortTup
import Lean
import PyProof.EqAt
import PyProof.EqKinds
import PyProof.TupleCall
import PySem.Challenge.RW_atonce_k16_whole_rings_and_chains
set_option Elab.async false
set_option linter.all false
set_option maxRecDepth 100000
set_option maxHeartbeats 4000000
namespace L2
open PySem
def Ys (s:Stmt) (j:Nat):Stmt:=match s with
 |.ClassDef _ _ _ body _ _ _ _ _ _ _=>body.getD j (.Pass ⟨0,0,0,0⟩)
 |_=>.Pass ⟨0,0,0,0⟩
def Zx (s:Stmt):Arguments:=match s with
 |.FunctionDef _ a _ _ _ _ _ _ _ _=>a
 |_=>{ posonlyargs:=[],args:=[],vararg:=none,kwonlyargs:=[],kw_defaults:=[],kwarg:=none,defaults:=[] }
def Zw (s:Stmt):List Stmt:=match s with
 |.FunctionDef _ _ b _ _ _ _ _ _ _=>b
 |_=>[]
def Zg (s:Stmt):Scope:=match s with
 |.FunctionDef _ _ _ _ _ _ sc _ _ _=>sc
 |_=>{ kind:=.function,names:=[],isGenerator:=false,isCoroutine:=false }
def tyL:Value->Bool
 |.type s=>s == "list"
 |_=>false
def DC (K:PySem.W.Frag):Bool:=K.all fun p=>!tyL p.2.cls
def AF:List String:=["NoneType","bool","int","str","list","tuple","dict"]
end L2
namespace MP
noncomputable section
open PySem L2
def top (i:Nat):Stmt:=PySem.Challenge.pw_atonce_k16_whole_rings_and_chains.main.body.getD i (.Pass ⟨0,0,0,0⟩)
abbrev Kq:Stmt:=top 43
abbrev KF:Stmt:=top 45
abbrev KJ:Stmt:=Ys (top 34) 0
abbrev Jr:Stmt:=Ys (top 34) 1
abbrev KU:Stmt:=Ys (top 34) 2
abbrev K3:Stmt:=Ys (top 32) 0
abbrev Ku:Stmt:=Ys (top 32) 1
abbrev Ky:Stmt:=Ys (top 37) 0
abbrev JJ:Stmt:=Ys (top 32) 2
abbrev Jw:Stmt:=Ys (top 32) 3
abbrev QC:Stmt:=Ys (top 37) 7
abbrev Pe:Stmt:=Ys (top 34) 3
abbrev Q7:Stmt:=Ys (top 37) 8
abbrev QH:Stmt:=Ys (top 37) 2
abbrev Qz:Stmt:=top 46
abbrev Q1:Stmt:=Ys (top 37) 6
abbrev QQ:Stmt:=Ys (top 37) 5
abbrev Pq:Stmt:=Ys (top 32) 5
abbrev Pg:Stmt:=Ys (top 37) 4
abbrev QJ:Stmt:=top 2
abbrev Pb:Stmt:=top 3
abbrev Po:Stmt:=top 4
abbrev Pl:Stmt:=top 5
abbrev QK:Stmt:=top 6
abbrev QV:Stmt:=top 7
abbrev QD:Stmt:=top 15
abbrev Qw:Stmt:=top 16
abbrev Q9:Stmt:=top 8
abbrev Py:Stmt:=top 17
abbrev QA:Stmt:=top 9
abbrev Q3:Stmt:=top 18
abbrev QF:Stmt:=top 19
abbrev QR:Stmt:=top 20
abbrev QX:Stmt:=top 21
abbrev Pk:Stmt:=top 22
abbrev QL:Stmt:=Ys (top 41) 2
abbrev Pw:Stmt:=top 40
abbrev QT:Stmt:=top 39
abbrev QU:Stmt:=Ys (top 41) 0
abbrev Ps:Stmt:=Ys (top 41) 1
abbrev Pf:Stmt:=top 47
def Vy (as:List Addr) (h:Heap):W.Frag:=as.filterMap fun a=>(h.get? a).map fun o=>(a,o)
theorem Px (h:Heap):∀as:List Addr,(Vy as h).In h
 |[],_,_,e=>by simp[Vy]at e
 |a::as,b,o,e=>by
  have ih:=Px h as b o
  unfold Vy at e ih
  cases hg:h.get? a with
  |none=>simp only[List.filterMap_cons,hg,Option.map_none]at e; exact ih e
  |some v =>
   simp only[List.filterMap_cons,hg,Option.map_some,List.lookup_cons]at e
   by_cases hb:b=a
   ·subst hb; simp at e; rw[hg,e]
   ·have:(b == a)=false:=by simpa using hb
    rw[this]at e; exact ih e
def nth {α:Type}:List α->Nat->Option α
 |[],_=>none
 |a::_,0=>some a
 |_::l,n+1=>nth l n
theorem Ta {α:Type} {l r:List α} (h:l=r) (i:Nat) {x y:α} (h1:nth l i=some x) (h2:nth r i=some y):x=y:=by
 subst h; rw[h1]at h2; exact Option.some.inj h2
def nrm (f:FuncData):FuncData:={ f with kwdefaults:=.none,doc:=.none,pyModule:=.none,annotations:=none,code:=.none,closureTuple:=.none }
def fnV (K:W.Frag) (f:Addr) (q:Str):Option (FuncData × Bool):=match K.lookup f with
 |some ⟨_,_,.func d,_⟩=>some (nrm d,W.codeIn K d.code q)
 |_=>none
def obK (K:W.Frag) (f:Addr):Obj:=(K.lookup f).getD default
def fdK (K:W.Frag) (f:Addr):FuncData:=match (obK K f).data with|.func d=>d|_=>default
theorem Ko {K:W.Frag} {f:Addr} {q n q':Str} {a:Arguments} {b:List Stmt} {s:Scope} (h:fnV K f q=some (nrm (W.fnOf n q' a b s .none .none .none .none none .none .none),true)) :
    K.lookup f=some ⟨(obK K f).cls,(obK K f).dict,.func (W.fnOf n q' a b s .none (fdK K f).kwdefaults (fdK K f).doc (fdK K f).pyModule (fdK K f).annotations (fdK K f).code (fdK K f).closureTuple),(obK K f).slots⟩∧W.codeIn K (fdK K f).code q=true:=by
 unfold fnV at h
 cases hl:K.lookup f with
 |none=>rw[hl]at h; cases h
 |some v =>
  obtain ⟨c,d,dt,sl⟩:=v
  rw[hl]at h
  cases dt with
  |func fd =>
   obtain ⟨h1,h2⟩:=Prod.mk.inj (Option.some.inj h)
   have e1:obK K f=⟨c,d,.func fd,sl⟩:=by simp[obK,hl]
   have e2:fdK K f=fd:=by simp[fdK,e1]
   rw[e2,e1]
   refine ⟨?_,h2⟩
   obtain ⟨x1,x2,x3,x4,x5,x6,x7,x8,x9,x10,x11,x12,x13,x14,x15⟩:=fd
   unfold nrm at h1
   injection h1 with y1 y2 y3 y4 y5 y6 y7 y8 _ _ _ _ _ _ y15
   dsimp only at y1 y2 y3 y4 y5 y6 y7 y8 y15
   subst y1 y2 y3 y4 y5 y6 y7 y8 y15
   rfl
  |_=>cases h
theorem YK {K:W.Frag} {f:Addr} {q n q':Str} {a:Arguments} {b:List Stmt} {s:Scope} (h:fnV K f q=some (nrm (W.fnOf n q' a b s .none .none .none .none none .none .none),true)) :
    K.lookup f=some ⟨(obK K f).cls,(obK K f).dict,.func (W.fnOf n q' a b s .none (fdK K f).kwdefaults (fdK K f).doc (fdK K f).pyModule (fdK K f).annotations (fdK K f).code (fdK K f).closureTuple),(obK K f).slots⟩:=(Ko h).1
theorem YL {K:W.Frag} {f:Addr} {q n q':Str} {a:Arguments} {b:List Stmt} {s:Scope} (h:fnV K f q=some (nrm (W.fnOf n q' a b s .none .none .none .none none .none .none),true)):W.codeIn K (fdK K f).code q=true:=(Ko h).2
def MH (x:Option (Option Value)):Option Int:=match x with|some (some (.int i _))=>some i|_=>none
theorem Mf {x:Option (Option Value)} {i:Int} (h:MH x=some i):∃t,x=some (some (.int i t)):=by
 unfold MH at h; split at h
 ·cases h; exact ⟨_,rfl⟩
 ·cases h
def CU (K:W.Frag) (a:Addr):Option (String × Str):=match K.lookup a with
 |some ⟨.type t,_,.seq vs _,_⟩=>(match vs.toList with|[.str x _]=>some (t,x)|_=>none)
 |_=>none
theorem B3 {K:W.Frag} {a:Addr} {t:String} {x:Str} (h:CU K a=some (t,x)):∃od n tk sl,K.lookup a=some ⟨.type t,od,.seq #[.str x tk] n,sl⟩:=by
 unfold CU at h; split at h
 ·rename_i od vs n sl hl
  split at h
  ·rename_i y tk hv
   cases h
   have:vs=#[.str x tk]:=Array.toList_inj.mp (by rw[hv])
   subst this
   exact ⟨_,_,_,_,hl⟩
  ·cases h
 ·cases h
def Cl (K:W.Frag):List (Option (Option Value)):=[W.nsIn K mainGlobals "Map",
 W.nsIn K mainGlobals "Board",
 W.nsIn K mainGlobals "Orders",
 W.nsIn K mainGlobals "Turn",
 W.nsIn K mainGlobals "OrderError",
 W.nsIn K mainGlobals "NoPlace",
 W.nsIn K mainGlobals "NoSide",
 W.nsIn K mainGlobals "Crowded",
 W.nsIn K mainGlobals "NoUnit",
 W.nsIn K mainGlobals "OutOfReach",
 W.nsIn K mainGlobals "STAND",
 W.nsIn K mainGlobals "_law_cell_at",
 W.nsIn K mainGlobals "_law_places",
 W.findIn K (.ref 295) "__init__",
 W.findIn K (.ref 295) "need_place",
 W.findIn K (.ref 295) "link",
 W.findIn K (.ref 246) "__init__",
 W.findIn K (.ref 246) "post",
 W.findIn K (.ref 371) "__init__",
 W.findIn K (.ref 246) "side_at",
 W.findIn K (.ref 246) "need_unit",
 W.findIn K (.ref 371) "need_all",
 W.findIn K (.ref 295) "beside",
 W.findIn K (.ref 371) "need_beside",
 W.findIn K (.ref 371) "move",
 W.nsIn K mainGlobals "_law_orders_on",
 W.findIn K (.ref 371) "goal_of",
 W.findIn K (.ref 371) "movers",
 W.findIn K (.ref 246) "roll",
 W.findIn K (.ref 371) "told",
 W.nsIn K mainGlobals "is_cut",
 W.nsIn K mainGlobals "fits",
 W.nsIn K mainGlobals "counts",
 W.nsIn K mainGlobals "backs",
 W.nsIn K mainGlobals "backing",
 W.nsIn K mainGlobals "force",
 W.nsIn K mainGlobals "weigh_movers",
 W.nsIn K mainGlobals "is_outdone",
 W.nsIn K mainGlobals "force_against",
 W.nsIn K mainGlobals "overcomes",
 W.nsIn K mainGlobals "firmness",
 W.nsIn K mainGlobals "hindrance",
 W.nsIn K mainGlobals "hindrances",
 W.nsIn K mainGlobals "fault",
 W.nsIn K mainGlobals "strikes",
 W.nsIn K mainGlobals "settled",
 W.findIn K (.ref 435) "aside",
 W.nsIn K mainGlobals "units_after",
 W.nsIn K mainGlobals "posted_board",
 W.findIn K (.ref 435) "__init__",
 W.findIn K (.ref 435) "done",
 W.nsIn K mainGlobals "law",
 W.findIn K (.ref 246) "__setattr__",
 W.findIn K (.ref 295) "__setattr__",
 W.findIn K (.ref 371) "__setattr__",
 W.findIn K (.ref 435) "__setattr__",
 W.findIn K (.ref 246) "chart",
 W.findIn K (.ref 246) "units",
 W.findIn K (.ref 295) "links",
 W.findIn K (.ref 295) "size",
 W.findIn K (.ref 371) "board",
 W.findIn K (.ref 371) "given",
 W.findIn K (.ref 435) "board",
 W.findIn K (.ref 435) "closed",
 W.findIn K (.ref 435) "comers",
 W.findIn K (.ref 435) "goals",
 W.findIn K (.ref 435) "pushed",
 W.nsIn K mainGlobals "any",
 W.nsIn K mainGlobals "int",
 W.nsIn K mainGlobals "len",
 W.nsIn K mainGlobals "min",
 W.nsIn K mainGlobals "range",
 W.nsIn K mainGlobals "set",
 W.nsIn K mainGlobals "sorted"]
def CG:List (Option (Option Value)):=[some (some (.ref 295)),
 some (some (.ref 246)),
 some (some (.ref 371)),
 some (some (.ref 435)),
 some (some (.ref 131)),
 some (some (.ref 144)),
 some (some (.ref 156)),
 some (some (.ref 168)),
 some (some (.ref 180)),
 some (some (.ref 192)),
 some (some (.ref 300)),
 some (some (.ref 446)),
 some (some (.ref 458)),
 some (some (.ref 264)),
 some (some (.ref 271)),
 some (some (.ref 278)),
 some (some (.ref 208)),
 some (some (.ref 215)),
 some (some (.ref 314)),
 some (some (.ref 222)),
 some (some (.ref 229)),
 some (some (.ref 361)),
 some (some (.ref 285)),
 some (some (.ref 368)),
 some (some (.ref 328)),
 some (some (.ref 465)),
 some (some (.ref 354)),
 some (some (.ref 347)),
 some (some (.ref 243)),
 some (some (.ref 342)),
 some (some (.ref 26)),
 some (some (.ref 33)),
 some (some (.ref 40)),
 some (some (.ref 47)),
 some (some (.ref 52)),
 some (some (.ref 59)),
 some (some (.ref 78)),
 some (some (.ref 83)),
 some (some (.ref 64)),
 some (some (.ref 90)),
 some (some (.ref 71)),
 some (some (.ref 97)),
 some (some (.ref 104)),
 some (some (.ref 111)),
 some (some (.ref 116)),
 some (some (.ref 121)),
 some (some (.ref 411)),
 some (some (.ref 387)),
 some (some (.ref 382)),
 some (some (.ref 399)),
 some (some (.ref 406)),
 some (some (.ref 470)),
 some (some (.builtin "object.__setattr__")),
 some (some (.builtin "object.__setattr__")),
 some (some (.builtin "object.__setattr__")),
 some (some (.builtin "object.__setattr__")),
 some none,
 some none,
 some none,
 some none,
 some none,
 some none,
 some none,
 some none,
 some none,
 some none,
 some none,
 some none,
 some none,
 some none,
 some none,
 some none,
 some none,
 some none]
def Cs (K:W.Frag):List Bool:=[W.keepIn K (.ref 446),
 W.keepIn K (.ref 458),
 W.isFn K (.ref 264),
 W.keepIn K (.ref 264),
 W.isFn K (.ref 271),
 W.keepIn K (.ref 271),
 W.isFn K (.ref 278),
 W.keepIn K (.ref 278),
 W.isFn K (.ref 208),
 W.keepIn K (.ref 208),
 W.isFn K (.ref 215),
 W.keepIn K (.ref 215),
 W.isFn K (.ref 314),
 W.keepIn K (.ref 314),
 W.isFn K (.ref 222),
 W.keepIn K (.ref 222),
 W.isFn K (.ref 229),
 W.keepIn K (.ref 229),
 W.isFn K (.ref 361),
 W.keepIn K (.ref 361),
 W.isFn K (.ref 285),
 W.keepIn K (.ref 285),
 W.isFn K (.ref 368),
 W.keepIn K (.ref 368),
 W.isFn K (.ref 328),
 W.keepIn K (.ref 328),
 W.keepIn K (.ref 465),
 W.isFn K (.ref 354),
 W.keepIn K (.ref 354),
 W.isFn K (.ref 347),
 W.keepIn K (.ref 347),
 W.isFn K (.ref 243),
 W.keepIn K (.ref 243),
 W.isFn K (.ref 342),
 W.keepIn K (.ref 342),
 W.keepIn K (.ref 26),
 W.keepIn K (.ref 33),
 W.keepIn K (.ref 40),
 W.keepIn K (.ref 47),
 W.keepIn K (.ref 52),
 W.keepIn K (.ref 59),
 W.keepIn K (.ref 78),
 W.keepIn K (.ref 83),
 W.keepIn K (.ref 64),
 W.keepIn K (.ref 90),
 W.keepIn K (.ref 71),
 W.keepIn K (.ref 97),
 W.keepIn K (.ref 104),
 W.keepIn K (.ref 111),
 W.keepIn K (.ref 116),
 W.keepIn K (.ref 121),
 W.isFn K (.ref 411),
 W.keepIn K (.ref 411),
 W.keepIn K (.ref 387),
 W.keepIn K (.ref 382),
 W.isFn K (.ref 399),
 W.keepIn K (.ref 399),
 W.isFn K (.ref 406),
 W.keepIn K (.ref 406),
 W.keepIn K (.ref 470),
 W.plainGet K 246 Str.empty,
 W.hasDictIn K 246,
 W.plainOver K 246,
 W.plainGet K 295 Str.empty,
 W.hasDictIn K 295,
 W.plainOver K 295,
 W.plainGet K 371 Str.empty,
 W.hasDictIn K 371,
 W.plainOver K 371,
 W.plainGet K 435 Str.empty,
 W.hasDictIn K 435,
 W.plainOver K 435,
 W.makesIn K 246,
 W.keepIn K (.ref 246),
 W.makesIn K 295,
 W.keepIn K (.ref 295),
 W.makesIn K 371,
 W.keepIn K (.ref 371),
 W.makesIn K 435,
 W.keepIn K (.ref 435),
 W.excIn K 168 [.type "ValueError",.type "Exception",.type "BaseException",.type "object"] "ValueError.__new__",
 W.excIn K 144 [.type "ValueError",.type "Exception",.type "BaseException",.type "object"] "ValueError.__new__",
 W.excIn K 156 [.type "ValueError",.type "Exception",.type "BaseException",.type "object"] "ValueError.__new__",
 W.excIn K 180 [.type "ValueError",.type "Exception",.type "BaseException",.type "object"] "ValueError.__new__",
 W.excIn K 192 [.type "ValueError",.type "Exception",.type "BaseException",.type "object"] "ValueError.__new__",
 DC K]
def D8:List Bool:=[true,true,true,true,true,true,true,true,true,true,true,true,true,true,true,true,true,true,true,true,true,true,true,true,true,true,true,true,true,true,true,true,true,true,true,true,true,true,true,true,true,true,true,true,true,true,true,true,true,true,true,true,true,true,true,true,true,true,true,true,true,true,true,true,true,true,true,true,true,true,true,true,true,true,true,true,true,true,true,true,true,true,true,true,true,true]
def D6 (K:W.Frag):List (Option (FuncData × Bool)):=[fnV K 446 "_law_cell_at",
 fnV K 458 "_law_places",
 fnV K 264 "Map.__init__",
 fnV K 271 "Map.need_place",
 fnV K 278 "Map.link",
 fnV K 208 "Board.__init__",
 fnV K 215 "Board.post",
 fnV K 314 "Orders.__init__",
 fnV K 222 "Board.side_at",
 fnV K 229 "Board.need_unit",
 fnV K 361 "Orders.need_all",
 fnV K 285 "Map.beside",
 fnV K 368 "Orders.need_beside",
 fnV K 328 "Orders.move",
 fnV K 465 "_law_orders_on",
 fnV K 354 "Orders.goal_of",
 fnV K 347 "Orders.movers",
 fnV K 243 "Board.roll",
 fnV K 342 "Orders.told",
 fnV K 26 "is_cut",
 fnV K 33 "fits",
 fnV K 40 "counts",
 fnV K 47 "backs",
 fnV K 52 "backing",
 fnV K 59 "force",
 fnV K 78 "weigh_movers",
 fnV K 83 "is_outdone",
 fnV K 64 "force_against",
 fnV K 90 "overcomes",
 fnV K 71 "firmness",
 fnV K 97 "hindrance",
 fnV K 104 "hindrances",
 fnV K 111 "fault",
 fnV K 116 "strikes",
 fnV K 121 "settled",
 fnV K 411 "Turn.aside",
 fnV K 387 "units_after",
 fnV K 382 "posted_board",
 fnV K 399 "Turn.__init__",
 fnV K 406 "Turn.done",
 fnV K 470 "law"]
def CC:List (Option (FuncData × Bool)):=[some (nrm (W.fnOf "_law_cell_at" "_law_cell_at" (Zx Kq) (Zw Kq) (Zg Kq) .none .none .none .none none .none .none),true),
 some (nrm (W.fnOf "_law_places" "_law_places" (Zx KF) (Zw KF) (Zg KF) .none .none .none .none none .none .none),true),
 some (nrm (W.fnOf "__init__" "Map.__init__" (Zx KJ) (Zw KJ) (Zg KJ) .none .none .none .none none .none .none),true),
 some (nrm (W.fnOf "need_place" "Map.need_place" (Zx Jr) (Zw Jr) (Zg Jr) .none .none .none .none none .none .none),true),
 some (nrm (W.fnOf "link" "Map.link" (Zx KU) (Zw KU) (Zg KU) .none .none .none .none none .none .none),true),
 some (nrm (W.fnOf "__init__" "Board.__init__" (Zx K3) (Zw K3) (Zg K3) .none .none .none .none none .none .none),true),
 some (nrm (W.fnOf "post" "Board.post" (Zx Ku) (Zw Ku) (Zg Ku) .none .none .none .none none .none .none),true),
 some (nrm (W.fnOf "__init__" "Orders.__init__" (Zx Ky) (Zw Ky) (Zg Ky) .none .none .none .none none .none .none),true),
 some (nrm (W.fnOf "side_at" "Board.side_at" (Zx JJ) (Zw JJ) (Zg JJ) .none .none .none .none none .none .none),true),
 some (nrm (W.fnOf "need_unit" "Board.need_unit" (Zx Jw) (Zw Jw) (Zg Jw) .none .none .none .none none .none .none),true),
 some (nrm (W.fnOf "need_all" "Orders.need_all" (Zx QC) (Zw QC) (Zg QC) .none .none .none .none none .none .none),true),
 some (nrm (W.fnOf "beside" "Map.beside" (Zx Pe) (Zw Pe) (Zg Pe) .none .none .none .none none .none .none),true),
 some (nrm (W.fnOf "need_beside" "Orders.need_beside" (Zx Q7) (Zw Q7) (Zg Q7) .none .none .none .none none .none .none),true),
 some (nrm (W.fnOf "move" "Orders.move" (Zx QH) (Zw QH) (Zg QH) .none .none .none .none none .none .none),true),
 some (nrm (W.fnOf "_law_orders_on" "_law_orders_on" (Zx Qz) (Zw Qz) (Zg Qz) .none .none .none .none none .none .none),true),
 some (nrm (W.fnOf "goal_of" "Orders.goal_of" (Zx Q1) (Zw Q1) (Zg Q1) .none .none .none .none none .none .none),true),
 some (nrm (W.fnOf "movers" "Orders.movers" (Zx QQ) (Zw QQ) (Zg QQ) .none .none .none .none none .none .none),true),
 some (nrm (W.fnOf "roll" "Board.roll" (Zx Pq) (Zw Pq) (Zg Pq) .none .none .none .none none .none .none),true),
 some (nrm (W.fnOf "told" "Orders.told" (Zx Pg) (Zw Pg) (Zg Pg) .none .none .none .none none .none .none),true),
 some (nrm (W.fnOf "is_cut" "is_cut" (Zx QJ) (Zw QJ) (Zg QJ) .none .none .none .none none .none .none),true),
 some (nrm (W.fnOf "fits" "fits" (Zx Pb) (Zw Pb) (Zg Pb) .none .none .none .none none .none .none),true),
 some (nrm (W.fnOf "counts" "counts" (Zx Po) (Zw Po) (Zg Po) .none .none .none .none none .none .none),true),
 some (nrm (W.fnOf "backs" "backs" (Zx Pl) (Zw Pl) (Zg Pl) .none .none .none .none none .none .none),true),
 some (nrm (W.fnOf "backing" "backing" (Zx QK) (Zw QK) (Zg QK) .none .none .none .none none .none .none),true),
 some (nrm (W.fnOf "force" "force" (Zx QV) (Zw QV) (Zg QV) .none .none .none .none none .none .none),true),
 some (nrm (W.fnOf "weigh_movers" "weigh_movers" (Zx QD) (Zw QD) (Zg QD) .none .none .none .none none .none .none),true),
 some (nrm (W.fnOf "is_outdone" "is_outdone" (Zx Qw) (Zw Qw) (Zg Qw) .none .none .none .none none .none .none),true),
 some (nrm (W.fnOf "force_against" "force_against" (Zx Q9) (Zw Q9) (Zg Q9) .none .none .none .none none .none .none),true),
 some (nrm (W.fnOf "overcomes" "overcomes" (Zx Py) (Zw Py) (Zg Py) .none .none .none .none none .none .none),true),
 some (nrm (W.fnOf "firmness" "firmness" (Zx QA) (Zw QA) (Zg QA) .none .none .none .none none .none .none),true),
 some (nrm (W.fnOf "hindrance" "hindrance" (Zx Q3) (Zw Q3) (Zg Q3) .none .none .none .none none .none .none),true),
 some (nrm (W.fnOf "hindrances" "hindrances" (Zx QF) (Zw QF) (Zg QF) .none .none .none .none none .none .none),true),
 some (nrm (W.fnOf "fault" "fault" (Zx QR) (Zw QR) (Zg QR) .none .none .none .none none .none .none),true),
 some (nrm (W.fnOf "strikes" "strikes" (Zx QX) (Zw QX) (Zg QX) .none .none .none .none none .none .none),true),
 some (nrm (W.fnOf "settled" "settled" (Zx Pk) (Zw Pk) (Zg Pk) .none .none .none .none none .none .none),true),
 some (nrm (W.fnOf "aside" "Turn.aside" (Zx QL) (Zw QL) (Zg QL) .none .none .none .none none .none .none),true),
 some (nrm (W.fnOf "units_after" "units_after" (Zx Pw) (Zw Pw) (Zg Pw) .none .none .none .none none .none .none),true),
 some (nrm (W.fnOf "posted_board" "posted_board" (Zx QT) (Zw QT) (Zg QT) .none .none .none .none none .none .none),true),
 some (nrm (W.fnOf "__init__" "Turn.__init__" (Zx QU) (Zw QU) (Zg QU) .none .none .none .none none .none .none),true),
 some (nrm (W.fnOf "done" "Turn.done" (Zx Ps) (Zw Ps) (Zg Ps) .none .none .none .none none .none .none),true),
 some (nrm (W.fnOf "law" "law" (Zx Pf) (Zw Pf) (Zg Pf) .none .none .none .none none .none .none),true)]
def Bp (K:W.Frag):List (Option Int):=[MH (W.nsIn K mainGlobals "FACED"),
 MH (W.nsIn K mainGlobals "FREE"),
 MH (W.nsIn K mainGlobals "HELD"),
 MH (W.nsIn K mainGlobals "LAST_SIDE"),
 MH (W.nsIn K mainGlobals "RIVAL")]
def BN:List (Option Int):=[some 2,
 some 0,
 some 3,
 some 7,
 some 1]
def B6 (K:W.Frag):List (Option (String × Str)):=[CU K 300]
def Bx:List (Option (String × Str)):=[some ("tuple","stand")]
def Bi (K:W.Frag):List (List (Option Bool)):=[]
def Be:List (List (Option Bool)):=[]
def BS (K:W.Frag):List (Option Bool):=[]
def Bo:List (Option Bool):=[]
abbrev OT:Type:=List (Option (Option Value)) × List Bool × List (Option (FuncData × Bool)) × List (Option Int) × List (Option (String × Str)) × List (List (Option Bool)) × List (Option Bool)
def NQ (K:W.Frag):OT:=(Cl K,Cs K,D6 K,Bp K,B6 K,Bi K,BS K)
def HA:OT:=(CG,D8,CC,BN,Bx,Be,Bo)
def GK (K:W.Frag):Prop:=Cl K=CG∧Cs K=D8∧D6 K=CC∧Bp K=BN∧B6 K=Bx∧Bi K=Be∧BS K=Bo
theorem Af {K:W.Frag} (h:NQ K=HA):GK K:=by
 unfold NQ HA at h
 simp only[Prod.mk.injEq]at h
 exact h
def asK:List Addr:=[2,3,15,17,18,20,21,22,25,26,27,29,30,32,33,34,36,37,39,40,41,43,44,46,47,48,51,52,53,55,56,58,59,60,63,64,65,67,68,70,71,72,74,75,77,78,79,82,83,84,86,87,89,90,91,93,94,96,97,98,100,101,103,104,105,107,108,110,111,112,115,116,117,120,121,122,129,130,131,132,135,142,143,144,147,154,155,156,159,166,167,168,171,178,179,180,183,190,191,192,202,204,205,207,208,209,211,212,214,215,216,218,219,221,222,223,225,226,228,229,230,232,233,235,236,237,239,240,242,243,244,245,246,247,248,258,260,261,263,264,265,267,268,270,271,272,274,275,277,278,279,281,282,284,285,286,288,289,291,292,293,294,295,296,297,300,308,310,311,313,314,315,317,318,320,321,322,324,325,327,328,329,331,332,334,335,336,338,339,341,342,343,346,347,348,350,351,353,354,355,357,358,360,361,362,364,365,367,368,369,370,371,372,373,376,378,379,381,382,383,386,387,395,398,399,400,402,403,405,406,407,410,411,412,414,415,417,418,419,421,422,424,425,426,428,429,431,432,433,434,435,436,437,440,442,443,445,446,454,457,458,459,461,462,464,465,466,469,470]
def hook:W.Hook:=⟨OT,fun s=>NQ (Vy asK s.heap),fun _=>HA,fun _ h=>∃K:W.Frag,K.In h∧GK K,fun _ s e=>⟨_,Px s.heap asK,Af e⟩,fun _ _ _ ⟨K,x,g⟩ k=>⟨K,W.Frag.In.keeps x k,g⟩⟩
def view:Program:={ PySem.Challenge.pw_atonce_k16_whole_rings_and_chains with main:={ PySem.Challenge.pw_atonce_k16_whole_rings_and_chains.main with body:=[top 0,top 2,top 3,top 4,top 5,top 6,top 7,top 8,top 9,top 11,top 12,top 13,top 14,top 15,top 16,top 17,top 18,top 19,top 20,top 21,top 22,top 24,top 25,top 26,top 27,top 28,top 29,top 31,top 32,top 34,top 36,top 37,top 39,top 40,top 41,top 43,top 44,top 45,top 46,top 47] } }
theorem Qb {α β γ:Type} {x:Option α} {f:α->β} {g:α->γ} {a:β} {b:γ} (h1:x.map f=some a) (h2:x.map g=some b):x.map (fun s=>(f s,g s))=some (a,b):=by
 cases x with
 |none=>cases h1
 |some v=>simp only[Option.map_some,Option.some.injEq]at h1 h2 ⊢; rw[h1,h2]
def Xt (s:Shared):Bool:=W.xlAt view [] s&&W.recOk (W.RowW.records PySem.Challenge.rw_atonce_k16_whole_rings_and_chains.row.toRowW) s
def rT (tb:String->Option Builtin) (q:Program) (v:World) (m:Nat) (an:Option Value):Nat->W.SharedT->Thread->Option W.SharedT
 |0,_,_=>none
 |i+1,x,y=>match W.through y with
  |true=>some x
  |false=>match W.stepOk m an y with
   |false=>none
   |true=>match W.stepT (denote tb) q v x y with
    |some (x',y')=>rT tb q v m an i x' y'
    |none=>none
theorem Eh {tb:String->Option Builtin} {q:Program} {v:World} {m:Nat} {an:Option Value}:∀{i:Nat} {x x':W.SharedT} {y:Thread},rT tb q v m an i x y=some x'->W.topRun tb q v m an i x.abs y=some x'.abs
 |0,_,_,_,h=>by cases h
 |i+1,x,x',y,h=>by
  unfold rT at h
  unfold W.topRun
  cases ht:W.through y with
  |true=>rw[ht]at h; cases h; rfl
  |false =>
   rw[ht]at h
   cases hk:W.stepOk m an y with
   |false=>rw[hk]at h; cases h
   |true =>
    rw[hk]at h
    cases hs:W.stepT (denote tb) q v x y with
    |none=>rw[hs]at h; cases h
    |some r=>obtain ⟨x2,y2⟩:=r; rw[hs]at h; rw[W.stepT_spec hs]; exact Eh h
def LG:List Obj->Nat->W.BT->Option W.BT
 |[],_,t=>some t
 |o::l,n,t=>match ((t.ins n o).get n).isSome with
  |true=>LG l (n+1) (t.ins n o)
  |false=>none
theorem N9 {lf:Life}:∀{l:List Obj} {n:Nat} {t t':W.BT},LG l n t=some t'->(W.absHeap t' (n+l.length) lf).objs.toList=(W.absHeap t n lf).objs.toList++l
 |[],n,t,t',h=>by cases h; simp
 |o::l,n,t,t',h=>by
  unfold LG at h
  split at h
  ·rename_i e
   have ih:=N9 (lf:=lf) h
   rw[W.absHeap_ins e]at ih
   have:n+(o::l).length=n+1+l.length:=by simp; omega
   rw[this,ih]
   show ((W.absHeap t n lf).objs.push o).toList++l=_
   simp
  ·cases h
def goT (q:Program) (v:World) (m:Nat) (an:Option Value) (i:Nat) (os:OsState):Option W.SharedT :=
 (LG (W.boot_heap v.params).objs.toList 0 .nil).bind fun t=>rT treeTable q v m an i ⟨t,m,(W.boot_heap v.params).life,Array.mk [],W.boot_drawn,W.boot_toks,os⟩ (W.topStub q)
def okT (q:Program) (v:World) (s:Shared):Bool:=W.staticsOk (PySem.importedModules q.main.body) (W.boot_heap v.params) s.heap&&W.namesBound q s.heap&&W.gensDone s&&W.laidKept (W.boot_heap v.params) s.heap
theorem C1 {p q:Program} {loose:List Str} {Xt:Shared->Bool} {α:Type} {Yf:Shared->α} {Ya:World->α} {N m:Nat} {an:Option Value}
    (e:W.opening p=W.plainProg p.main.scope.names) (hN:Nat.ble 600 N=true) (f:∀s,fenceModules? p s=some s)
    (z:∀w:World,((W.boot_heap w.params).isNs mainGlobals,(W.boot_heap w.params).objs.toList.length,(W.boot_heap w.params).nsMap mainGlobals "__annotations__")=(true,m,an))
    (run:∀(w:World) (os:OsState),(goT p w m an N os).map (fun x=>(okT p w x.abs,W.openSeen q loose (PySem.importedModules p.main.body) Xt true x.abs,Yf x.abs))=some (true,W.openGood q loose,Ya w)) :
    W.LeftO p q loose Xt Yf Ya N:=fun w=>by
 obtain ⟨⟨h,gs,d,k,os⟩,o,o'⟩:=Option.map_eq_some_iff.mp (W.boot_open e hN f w)
 obtain ⟨rfl,rfl,rfl,rfl⟩:h=W.boot_heap w.params∧gs=Array.mk []∧d=W.boot_drawn∧k=W.boot_toks:=by simpa using o'
 obtain ⟨z1,z2,z3⟩:_∧_∧_:=by simpa only [Prod.mk.injEq] using z w
 obtain ⟨x,hx,hv⟩:=Option.map_eq_some_iff.mp (run w os)
 obtain ⟨l1,l2,l3⟩:_∧_∧_:=by simpa only [Prod.mk.injEq] using hv
 obtain ⟨t,ht,hr⟩:=Option.bind_eq_some_iff.mp hx
 have r:=Eh hr
 have hp:=N9 (lf:=(W.boot_heap w.params).life) ht
 rw[z2,Nat.zero_add]at hp
 have ha:W.absHeap t m (W.boot_heap w.params).life=W.boot_heap w.params:=by
  have:(W.absHeap t m (W.boot_heap w.params).life).objs=(W.boot_heap w.params).objs:=Array.toList_inj.mp (by rw[hp]; simp[W.absHeap,W.BT.list])
  exact congrArg (fun o=>Heap.mk o (W.boot_heap w.params).life) this
 have hs:(W.boot_heap w.params).objs.size=m:=by rw[← z2]; simp
 unfold W.SharedT.abs at r
 dsimp only at r
 rw[ha]at r
 have tt:W.topFrom treeTable p w N ⟨W.boot_heap w.params,Array.mk [],W.boot_drawn,W.boot_toks,os⟩=some x.abs:=by
  unfold W.topFrom
  dsimp only
  rw[z1,z3,hs,r]
  show (match okT p w x.abs with|true=>some x.abs|false=>none)=_
  rw[l1]
 unfold W.openEnds
 rw[o]
 show (W.topFrom treeTable p w N _).map _=_
 rw[tt]
 exact congrArg some (Prod.ext l2 l3)
def CZ (t:W.BT) (n a:Nat):Option Obj:=match Nat.blt a n with
 |true=>W.alive ((t.get a).getD default)
 |false=>none
theorem Hy (t:W.BT) (n:Nat) (lf:Life) (a:Nat):(W.absHeap t n lf).get? a=CZ t n a:=by
 unfold CZ
 by_cases h:a < n
 ·have:Nat.blt a n=true:=by simpa [Nat.blt_eq] using h
  rw[this]
  unfold Heap.get?
  rw[W.absHeap_at,if_pos h]
  generalize (t.get a).getD default=o
  show (match some o with|some ⟨_,_,.freed,_⟩=>none|o=>o)=W.alive o
  obtain ⟨c,d,dt,sl⟩:=o
  cases dt <;> rfl
 ·have:Nat.blt a n=false:=by
   cases hb:Nat.blt a n with
   |false=>rfl
   |true=>exact absurd (by simpa [Nat.blt_eq] using hb) h
  rw[this,W.abs_get_none h]
def LZ (as:List Addr) (t:W.BT) (n:Nat):W.Frag:=as.filterMap fun a=>(CZ t n a).map fun o=>(a,o)
theorem Jd (as:List Addr) (t:W.BT) (n:Nat) (lf:Life):Vy as (W.absHeap t n lf)=LZ as t n:=by
 unfold Vy LZ
 simp only[Hy]
theorem AE (w:World):((W.boot_heap w.params).isNs mainGlobals,(W.boot_heap w.params).objs.toList.length,(W.boot_heap w.params).nsMap mainGlobals "__annotations__")=(true,11,(some (.ref 6))):=by kernel_rfl
set_option maxRecDepth 100000 in
set_option maxHeartbeats 0 in
theorem B4 (w:World) (os:OsState):Option.map (fun x=>okT PySem.Challenge.pw_atonce_k16_whole_rings_and_chains w x.abs) (goT PySem.Challenge.pw_atonce_k16_whole_rings_and_chains w 11 (some (.ref 6)) 7484 os)=some true:=by kernel_rfl
set_option maxRecDepth 100000 in
set_option maxHeartbeats 0 in
theorem Ah (w:World) (os:OsState):Option.map (fun x=>(W.openSeen view [] (PySem.importedModules PySem.Challenge.pw_atonce_k16_whole_rings_and_chains.main.body) Xt true x.abs).1) (goT PySem.Challenge.pw_atonce_k16_whole_rings_and_chains w 11 (some (.ref 6)) 7484 os)=some (W.openGood view []).1:=by kernel_rfl
set_option maxRecDepth 100000 in
set_option maxHeartbeats 0 in
theorem BE (w:World) (os:OsState):Option.map (fun x=>(W.openSeen view [] (PySem.importedModules PySem.Challenge.pw_atonce_k16_whole_rings_and_chains.main.body) Xt true x.abs).2) (goT PySem.Challenge.pw_atonce_k16_whole_rings_and_chains w 11 (some (.ref 6)) 7484 os)=some (W.openGood view []).2:=by kernel_rfl
set_option maxRecDepth 100000 in
set_option maxHeartbeats 0 in
theorem BG (w:World) (os:OsState):Option.map (fun x=>NQ (LZ asK x.tree x.n)) (goT PySem.Challenge.pw_atonce_k16_whole_rings_and_chains w 11 (some (.ref 6)) 7484 os)=some HA:=by kernel_rfl
theorem GA:(fun x:W.SharedT=>NQ (LZ asK x.tree x.n))=fun x=>NQ (Vy asK x.abs.heap):=funext fun x=>congrArg NQ (Jd asK x.tree x.n x.life).symm
theorem Bw (w:World) (os:OsState):Option.map (fun x=>NQ (Vy asK x.abs.heap)) (goT PySem.Challenge.pw_atonce_k16_whole_rings_and_chains w 11 (some (.ref 6)) 7484 os)=some HA:=GA ▸ BG w os
theorem run:W.LeftO PySem.Challenge.pw_atonce_k16_whole_rings_and_chains view [] Xt (W.Hook.obs hook) (W.Hook.val hook) 7484:=C1 (by kernel_rfl) (by decide) (fun _=>rfl) AE fun w os=>Qb (B4 w os) (Qb (Qb (Ah w os) (BE w os)) (Bw w os))
end
end MP
namespace L2
open PySem PySem.Spec PyProof.Rows
abbrev Key:=Sum Int Str
def RM:Key->Value->Bool
 |.inl k,v=>Value.isInt k v
 |.inr x,v=>Value.isStrOf x v
def AR (w:World):Key->Int
 |.inl k=>hashInt k
 |.inr x=>hashStr w x
theorem Yu:∀{k:Key} {v:Value},RM k v=true->(∃i t,k=Sum.inl i∧v=Value.int i t)∨(∃x t,k=Sum.inr x∧v=Value.str x t)
 |.inl i,v,h=>by
  obtain ⟨t,e⟩:=Value.isInt_shape (k:=i) (v:=v) h
  exact .inl ⟨i,t,rfl,e⟩
 |.inr x,v,h=>by
  obtain ⟨t,e⟩:=Value.isStrOf_shape (x:=x) (v:=v) h
  exact .inr ⟨x,t,rfl,e⟩
theorem JK (i:Int) (t:Tok):RM (.inl i) (.int i t)=true:=by simp[RM,Value.isInt]
theorem Js (x:Str) (t:Tok):RM (.inr x) (.str x t)=true:=by simp[RM,Value.isStrOf]
theorem CL (a b:Int):decide ((Sum.inl a:Key)=Sum.inl b)=(a == b):=by
 by_cases e:a=b
 ·subst e; simp
 ·have h:¬ (Sum.inl a:Key)=Sum.inl b:=fun q=>e (Sum.inl.inj q)
  rw[decide_eq_false h]
  exact (beq_eq_false_iff_ne.mpr e).symm
theorem Cu (a b:Str):decide ((Sum.inr a:Key)=Sum.inr b)=decide (a=b):=by
 by_cases e:a=b
 ·subst e; simp
 ·have h:¬ (Sum.inr a:Key)=Sum.inr b:=fun q=>e (Sum.inr.inj q)
  rw[decide_eq_false h,decide_eq_false e]
theorem DB (a:Int) (b:Str):decide ((Sum.inl a:Key)=Sum.inr b)=false:=decide_eq_false (fun q=>nomatch q)
theorem DU (a:Str) (b:Int):decide ((Sum.inr a:Key)=Sum.inl b)=false:=decide_eq_false (fun q=>nomatch q)
def ZM (prog:Program) (w:World):PySem.KeyKind prog w Key where
 is:=RM
 hash:=AR w
 inj:=fun v a b ha hb=>by
  rcases Yu ha with ⟨i,t,rfl,rfl⟩|⟨x,t,rfl,rfl⟩
  ·rcases Yu hb with ⟨j,u,rfl,e⟩|⟨y,u,rfl,e⟩
   ·injection e with e1 _; rw[e1]
   ·exact nomatch e
  ·rcases Yu hb with ⟨j,u,rfl,e⟩|⟨y,u,rfl,e⟩
   ·exact nomatch e
   ·injection e with e1 _; rw[e1]
 byValue:=fun k v h=>by
  rcases Yu h with ⟨i,t,rfl,rfl⟩|⟨x,t,rfl,rfl⟩ <;> rfl
 pyHash:=fun hv h=>by
  rcases Yu hv with ⟨i,t,rfl,rfl⟩|⟨x,t,rfl,rfl⟩
  ·exact wpAny_pyHash_int h
  ·exact wpAny_pyHash_str h
 eqBool:=fun hu hv h=>by
  rcases Yu hu with ⟨i,t,rfl,rfl⟩|⟨x,t,rfl,rfl⟩
  ·rcases Yu hv with ⟨j,u,rfl,rfl⟩|⟨y,u,rfl,rfl⟩
   ·rw[CL]at h; exact wpAny_eqBool_int h
   ·rw[DB]at h; exact SeqAt.EqAt.int_str i t y u _ _ _ _ h
  ·rcases Yu hv with ⟨j,u,rfl,rfl⟩|⟨y,u,rfl,rfl⟩
   ·rw[DU]at h; exact SeqAt.EqAt.str_int x t j u _ _ _ _ h
   ·rw[Cu]at h; exact wpAny_eqBool_str h
 «strs»:=fun k x t v h=>by
  rcases Yu h with ⟨i,u,rfl,e⟩|⟨y,u,rfl,e⟩
  ·exact nomatch e
  ·injection e with e1 _
   subst e1
   cases v <;> rfl
theorem O6 (prog:Program) (w:World) (i:Int) (t:Tok):(ZM prog w).is (.inl i) (.int i t)=true:=JK i t
theorem N1 (prog:Program) (w:World) (x:Str) (t:Tok):(ZM prog w).is (.inr x) (.str x t)=true:=Js x t
open PySem PySem.Spec PyProof.Rows
inductive V where
 |non|bl (b:Bool)|int (i:Int)|str (x:Str)|byt (b:Array UInt8)|flt (b:UInt64)|ref (a:Addr)|ty (n:String)
 deriving DecidableEq
def RelV:V->Value->Prop
 |.non,u=>u=Value.none
 |.bl b,u=>u=Value.bool b
 |.int i,u=>∃t,u=Value.int i t
 |.str x,u=>∃t,u=Value.str x t
 |.byt b,u=>∃t,u=Value.bytes b t
 |.flt b,u=>∃t,u=Value.float b t
 |.ref a,u=>u=Value.ref a
 |.ty n,u=>u=Value.type n
abbrev Vals:List V->List Value->Prop:=Paired RelV
theorem Vals.length {xs:List V} {us:List Value} (r:Vals xs us):xs.length=us.length:=Paired.length r
theorem Vals.get:∀{xs:List V} {us:List Value} {i:Nat} {x:V},Vals xs us->xs[i]?=some x->∃u,us[i]?=some u∧RelV x u
 |_,_,_,_,.nil,e=>by simp at e
 |_,_,0,_,.cons r _,e=>by simp at e; subst e; exact ⟨_,rfl,r⟩
 |_,_,i+1,x,.cons _ t,e=>by
  obtain ⟨u,h1,h2⟩:=Vals.get (i:=i) (x:=x) t (by simpa using e)
  exact ⟨u,by simpa using h1,h2⟩
theorem Vals.append:∀{xs ys:List V} {us ws:List Value},Vals xs us->Vals ys ws->Vals (xs++ys) (us++ws)
 |_,_,_,_,.nil,s=>s
 |_,_,_,_,.cons r t,s=>.cons r (Vals.append t s)
def RelO:Option V->Option Value->Prop
 |some v,some u=>RelV v u
 |none,none=>True
 |_,_=>False
def KV {κ:Type}:List (κ × V)->List (κ × Value)->Prop:=Paired fun (p:κ × V) (q:κ × Value)=>p.1=q.1∧RelV p.2 q.2
def kV:Key->V
 |.inl i=>.int i
 |.inr x=>.str x
inductive HO where
 |lst (xs:List V)
 |tup (xs:List V)
 |dK (kvs:List (Key × V))|dT (kvs:List (List Key × V))
 |set (S:Int->Bool) (n:Nat)
 |ins (C dx:Addr) (fs:List (Str × V))
 |own (x:Addr)
 |xd (fs:List (Str × V))
 |met (f x:Addr)
 |rng (lo hi:Int)
 |frz (o:Obj) (u:HO)
 |tbl (ps:Array Value)
 |ext (φ:Heap->Prop)
abbrev Hp:=Addr->Option HO
def upd (H:Hp) (a:Addr) (o:HO):Hp:=fun b=>if b=a then some o else H b
theorem Zu {H:Hp} {a:Addr} {o:HO}:upd H a o a=some o:=by unfold upd; rw[if_pos rfl]
theorem Zr {H:Hp} {a b:Addr} {o:HO} (h:b≠a):upd H a o b=H b:=by unfold upd; rw[if_neg h]
theorem LL {H:Hp} {a:Addr} {o u:HO}:upd (upd H a o) a u=upd H a u:=by
 funext b; unfold upd; split <;> rfl
theorem Ae {H:Hp} {a b:Addr} {o u:HO} (h:H a=some o) (h':H b=some u) (d:o≠u):a≠b:=by
 intro e; subst e; rw[h]at h'; exact d (Option.some.inj h')
theorem ZR {H:Hp} {a b:Addr} {o:HO} (h:H a=some o) (h':H b=none):a≠b:=by
 intro e; subst e; rw[h]at h'; cases h'
section
variable (P:Program) (w:World)
def ObjOk (H:Hp) (h:Heap) (a:Addr):HO->Prop
 |.lst xs=>xs.length<=sizeLine∧∃(its:List Value) (n:Nat),Vals xs its∧h.get? a=some { cls:=.type "list",data:=.seq its.toArray n }
 |.tup xs=>xs.length<=sizeLine∧∃its:List Value,Vals xs its∧IsTup h a its.toArray
 |.dK kvs=>kvs.length<=sizeLine∧(a == sysModules)=false∧∃vs,KV kvs vs∧h.DictOf (ZM P w) a vs
 | .dT kvs => kvs.length <= sizeLine ∧ (a == sysModules) = false ∧ ∃ xs : List (List Key × Addr × Value),
     Paired (fun (p:List Key × V) (q:List Key × Addr × Value)=>p.1=q.1∧H q.2.1=some (.tup (p.1.map kV))∧RelV p.2 q.2.2) kvs xs ∧
     ∃o es ep,h.get? a=some o∧o.ExactDict∧o.data=.dict es ep∧es.toList=xs.map (entryOfKey (tupleKind (ZM P w)))∧(xs.map (·.1)).Nodup
 |.set S n=>h.SetOf (intKind P w) a S n
 | .ins C dx fs => H dx = some (.own a) ∧ fs.length <= 1000 ∧ dx ≠ a ∧ h.get? a = some (PySem.W.instObj C dx) ∧
     ∃mA,h.Ns1 dx mA∧(∀f,RelO (fs.lookup f) (mA f))∧PySem.Within mA (fs.map (·.1))
 |.own _=>∃o,h.get? a=some o
 |.xd fs=>∃mA,h.Ns1 a mA∧∀f,RelO (fs.lookup f) (mA f)
 |.rng lo hi=>∃t u v,h.get? a=some { cls:=.type "range",data:=.fields #[.int lo t,.int hi u,.int 1 v] }
 |.frz o u=>h.get? a=some o∧ObjOk H h a u
 |.tbl ps=>h.get? a=some { cls:=.none,data:=.fields ps }
 |.met f x=>h.get? a=some (PySem.W.methodObj (.ref f) (.ref x))
 |.ext φ=>φ h∧(∃o,h.get? a=some o)∧∀h1 h2:Heap,φ h1->(∀o,h1.get? a=some o->h2.get? a=some o)->φ h2
def HOk (H:Hp) (h:Heap):Prop:=∀a o,H a=some o->ObjOk P w H h a o
end
section
variable {P:Program} {w:World} {H H':Hp} {h h':Heap} {a:Addr} {o:HO}
theorem ObjOk.lt (x:ObjOk P w H h a o):a < h.objs.size:=by
 cases o with
 |lst xs=>obtain ⟨_,_,_,_,e⟩:=x; exact Heap.lt_size e
 |tup xs=>obtain ⟨_,_,_,p⟩:=x; exact p.lt
 |dK kvs=>obtain ⟨_,_,_,_,o,_,_,e,_⟩:=x; exact Heap.lt_size e
 |dT kvs=>obtain ⟨_,_,_,_,o,_,_,e,_⟩:=x; exact Heap.lt_size e
 |set S n=>obtain ⟨o,_,_,_,e,_⟩:=x; exact Heap.lt_size e
 |ins C dx fs=>obtain ⟨_,_,_,e,_⟩:=x; exact Heap.lt_size e
 |own y=>obtain ⟨_,e⟩:=x; exact Heap.lt_size e
 |xd fs=>obtain ⟨_,⟨_,_,_,e,_⟩,_⟩:=x; exact Heap.lt_size e
 |rng lo hi=>obtain ⟨_,_,_,e⟩:=x; exact Heap.lt_size e
 |frz ob u=>obtain ⟨e,_⟩:=x; exact Heap.lt_size e
 |tbl ps=>exact Heap.lt_size (show h.get? a=some _ from x)
 |met f y=>exact Heap.lt_size (show h.get? a=some _ from x)
 |ext φ=>obtain ⟨_,⟨_,e⟩,_⟩:=x; exact Heap.lt_size e
theorem Paired.mapP {α β:Type} {F G:α->β->Prop}:∀{l₁:List α} {l₂:List β},Paired F l₁ l₂->(∀a b,F a b->G a b)->Paired G l₁ l₂
 |_,_,.nil,_=>.nil
 |_,_,.cons r t,f=>.cons (f _ _ r) (Paired.mapP t f)
theorem ObjOk.stay (x:ObjOk P w H h a o) (k:∀b u,(b=a∨H b=some (.own a))->h.get? b=some u->h'.get? b=some u)
    (ho:∀b,H b=some (.own a)->H' b=some (.own a)) (ht:∀b xs,H b=some (.tup xs)->H' b=some (.tup xs)):ObjOk P w H' h' a o:=by
 induction o with
 |lst xs=>obtain ⟨z,its,n,r,e⟩:=x; exact ⟨z,its,n,r,k _ _ (.inl rfl) e⟩
 |tup xs=>obtain ⟨z,its,r,ob,e,c⟩:=x; exact ⟨z,its,r,ob,k _ _ (.inl rfl) e,c⟩
 |dK kvs=>obtain ⟨z,y,vs,r,ob,es,ep,e,c⟩:=x; exact ⟨z,y,vs,r,ob,es,ep,k _ _ (.inl rfl) e,c⟩
 |dT kvs =>
  obtain ⟨z,y,xs,r,ob,es,ep,e,c⟩:=x
  exact ⟨z,y,xs,Paired.mapP r fun p q z=>⟨z.1,ht _ _ z.2.1,z.2.2⟩,ob,es,ep,k _ _ (.inl rfl) e,c⟩
 |set S n=>obtain ⟨ob,es,ep,t,e,c⟩:=x; exact ⟨ob,es,ep,t,k _ _ (.inl rfl) e,c⟩
 |ins C dx fs =>
  obtain ⟨d,z,ne,e,mA,⟨od,es,ep,e2,c⟩,r⟩:=x
  exact ⟨ho _ d,z,ne,k _ _ (.inl rfl) e,mA,⟨od,es,ep,k _ _ (.inr d) e2,c⟩,r⟩
 |own y=>obtain ⟨ob,e⟩:=x; exact ⟨ob,k _ _ (.inl rfl) e⟩
 |xd fs=>obtain ⟨mA,⟨od,es,ep,e,c⟩,r⟩:=x; exact ⟨mA,⟨od,es,ep,k _ _ (.inl rfl) e,c⟩,r⟩
 |rng lo hi=>obtain ⟨t,u,v,e⟩:=x; exact ⟨t,u,v,k _ _ (.inl rfl) e⟩
 |frz ob u ih=>obtain ⟨e,q⟩:=x; exact ⟨k _ _ (.inl rfl) e,ih q⟩
 |tbl ps =>
  have e:h.get? a=some { cls:=.none,data:=.fields ps }:=x
  show h'.get? a=some { cls:=.none,data:=.fields ps }
  exact k a _ (.inl rfl) e
 |met f y =>
  have e:h.get? a=some (PySem.W.methodObj (.ref f) (.ref y)):=x
  show h'.get? a=some (PySem.W.methodObj (.ref f) (.ref y))
  exact k a _ (.inl rfl) e
 |ext φ=>obtain ⟨p,⟨o,e⟩,st⟩:=x; exact ⟨st _ _ p fun o q=>k _ _ (.inl rfl) q,⟨o,k _ _ (.inl rfl) e⟩,st⟩
theorem HOk.lt (x:HOk P w H h) (e:H a=some o):a < h.objs.size:=(x a o e).lt
theorem HOk.fresh (x:HOk P w H h) (e:h.objs.size<=a):H a=none:=by
 cases q:H a with
 |none=>rfl
 |some u=>exact absurd (Nat.lt_of_lt_of_le (x.lt q) e) (Nat.lt_irrefl _)
theorem HOk.kept (x:HOk P w H h) (k:∀b u,h.get? b=some u->h'.get? b=some u):HOk P w H h':=fun a o e =>
 (x a o e).stay (fun b u _ q=>k b u q) (fun _ q=>q) fun _ _ q=>q
theorem HOk.laid (x:HOk P w H h) (k:∀b u,h.get? b=some u->h'.get? b=some u) (hp:h.objs.size<=a) (new:ObjOk P w (upd H a o) h' a o):HOk P w (upd H a o) h':=fun b u e=>by
 have hn:=x.fresh hp
 by_cases hb:b=a
 ·subst hb; rw[Zu]at e; cases e; exact new
 ·rw[Zr hb]at e
  exact (x b u e).stay (fun c v _ q=>k c v q) (fun c q=>by rw[Zr (ZR q hn)]; exact q) fun c xs q=>by rw[Zr (ZR q hn)]; exact q
end
def Rd (H:Hp) (a:Addr) (u:HO):Prop:=H a=some u∨∃o,H a=some (.frz o u)
theorem Rd.ok {P:Program} {w:World} {H:Hp} {h:Heap} {a:Addr} {u:HO} (r:Rd H a u) (x:HOk P w H h):ObjOk P w H h a u:=by
 rcases r with r|⟨o,r⟩
 ·exact x a u r
 ·obtain ⟨_,q⟩:=x a _ r
  exact q
def Mut:Option HO->Prop
 |some (.lst _)=>True
 |some (.dK _)=>True
 |some (.dT _)=>True
 |some (.set _ _)=>True
 |some (.ins _ _ _)=>True
 |some (.ext _)=>True
 |_=>False
section
variable {P:Program} {w:World} {H:Hp} {h h':Heap} {x e:Addr} {o':HO}
theorem HOk.write (ok:HOk P w H h) (mu:Mut (H x)) (he:e=x∨H e=some (.own x)) (k:∀b u,b≠e->h.get? b=some u->h'.get? b=some u) (heo:∃u,h'.get? e=some u)
    (new:ObjOk P w (upd H x o') h' x o'):HOk P w (upd H x o') h':=fun b u q=>by
 have nown:∀c y,H c=some (.own y)->c≠x:=fun c y r z=>by subst z; rw[r]at mu; exact mu
 have ntup:∀c xs,H c=some (.tup xs)->c≠x:=fun c xs r z=>by subst z; rw[r]at mu; exact mu
 by_cases hb:b=x
 ·subst hb; rw[Zu]at q; cases q; exact new
 ·rw[Zr hb]at q
  by_cases hbe:b=e
  ·have q':H b=some (.own x):=by
    rcases he with z|z
    ·exact absurd (hbe.trans z) hb
    ·rw[hbe]; exact z
   rw[q]at q'; cases q'
   obtain ⟨v,hv⟩:=heo
   exact ⟨v,by rw[hbe]; exact hv⟩
  ·refine (ok b u q).stay (fun c v hc r=>k c v ?_ r) (fun c r=>by rw[Zr (nown c b r)]; exact r) fun c xs r=>by rw[Zr (ntup c xs r)]; exact r
   rcases hc with rfl|hc
   ·exact hbe
   ·rintro rfl
    rcases he with z|z
    ·exact nown c b hc z
    ·rw[hc]at z; cases z; exact hb rfl
end
structure Un (fs ex:List Addr) (H H':Hp) (h h':Heap):Prop where
 keep:∀b o,h.get? b=some o->H b=none->b ∉ fs->b ∉ ex->h'.get? b=some o
 slot:∀b o,h.get? b=some o->H b=none->b∈fs->b ∉ ex->∃sl,h'.get? b=some { o with slots:=sl }
 free:∀b o,h.get? b=some o->H b=none->b ∉ ex->H' b=none
 there:∀b o,h.get? b=some o->b ∉ ex->∃o',h'.get? b=some o'
 tups:∀b xs,H b=some (.tup xs)->H' b=some (.tup xs)
 frzs:∀b o u,H b=some (.frz o u)->H' b=some (.frz o u)
 tbls:∀b ps,H b=some (.tbl ps)->∃more,H' b=some (.tbl (ps++more))
section
variable {fs fs' ex ex':List Addr} {H H1 H2:Hp} {h h1 h2 h':Heap} {a x e:Addr} {o:HO}
theorem Un.any (u:Un fs ex H H1 h h1) {b:Addr} {ob:Obj} (q:h.get? b=some ob) (n:H b=none) (hx:b ∉ ex):∃sl,h1.get? b=some { ob with slots:=sl }:=by
 by_cases hb:b∈fs
 ·exact u.slot b ob q n hb hx
 ·exact ⟨ob.slots,u.keep b ob q n hb hx⟩
theorem Un.kept (k:∀b u,h.get? b=some u->h'.get? b=some u):Un fs ex H H h h' :=
 ⟨fun b ob q _ _ _=>k b ob q,fun b ob q _ _ _=>⟨ob.slots,k b ob q⟩,fun _ _ _ n _=>n,fun b ob q _=>⟨ob,k b ob q⟩,fun _ _ q=>q,fun _ _ _ q=>q,fun _ ps q=>⟨#[],by rw[q]; simp⟩⟩
theorem Un.refl:Un fs ex H H h h:=Un.kept fun _ _ q=>q
theorem Un.laid (k:∀b u,h.get? b=some u->h'.get? b=some u) (hp:h.objs.size<=a) (hn:H a=none):Un fs ex H (upd H a o) h h' where
 keep:=fun b u q _ _ _=>k b u q
 slot:=fun b u q _ _ _=>⟨u.slots,k b u q⟩
 free:=fun b u q n _=>by rw[Zr (Nat.ne_of_lt (Nat.lt_of_lt_of_le (Heap.lt_size q) hp))]; exact n
 there:=fun b u q _=>⟨u,k b u q⟩
 tups:=fun b xs q=>by rw[Zr (ZR q hn)]; exact q
 frzs:=fun b u xs q=>by rw[Zr (ZR q hn)]; exact q
 tbls:=fun b ps q=>⟨#[],by rw[Zr (ZR q hn),q]; simp⟩
theorem Un.write (mu:Mut (H x)) (he:e=x∨H e=some (.own x)) (k:∀b u,b≠e->h.get? b=some u->h'.get? b=some u) (heo:∃u,h'.get? e=some u):Un fs ex H (upd H x o) h h':=by
 have hx:∀b,H b=none->b≠x:=fun b n z=>by subst z; rw[n]at mu; exact mu
 have hb:∀b,H b=none->b≠e:=fun b n z=>by
  subst z
  rcases he with r|r
  ·exact hx b n r
  ·rw[n]at r; cases r
 have hm:∀b u,H b=some u->¬ Mut (some u)->b≠x:=fun b u q nm z=>by subst z; rw[q]at mu; exact nm mu
 refine ⟨fun b u q n _ _=>k b u (hb b n) q,fun b u q n _ _=>⟨u.slots,k b u (hb b n) q⟩,fun b u q n _=>by rw[Zr (hx b n)]; exact n,fun b u q _=>?_,
  fun b xs q=>by rw[Zr (hm b _ q fun z=>z)]; exact q,fun b u xs q=>by rw[Zr (hm b _ q fun z=>z)]; exact q,fun b ps q=>⟨#[],by rw[Zr (hm b _ q fun z=>z),q]; simp⟩⟩
 by_cases hbe:b=e
 ·subst hbe; exact heo
 ·exact ⟨u,k b u hbe q⟩
end
def trk (h:Heap) (H:Hp):List Addr:=(List.range h.objs.size).filter fun a=>(H a).isSome
def Oc (h:Heap) (H:Hp):Heap:=PySem.W.hideAll h (trk h H)
theorem Jh (h:Heap) (H:Hp):(Oc h H).objs.size=h.objs.size:=PySem.W.hideAll_size _ _
theorem IJ {h:Heap} {H:Hp} {b:Addr} {o:Obj} (e:h.get? b=some o) (n:H b=none):(Oc h H).get? b=some o :=
 PySem.W.hideAll_get _ e fun hm=>by
  have q:(H b).isSome=true:=(List.mem_filter.mp hm).2
  rw[n]at q; simp at q
theorem GC {h:Heap} {H:Hp} {b:Addr} {o:Obj} (e:(Oc h H).get? b=some o):h.get? b=some o∧H b=none:=by
 have e':h.get? b=some o:=PySem.W.of_hideAll (trk h H) e
 refine ⟨e',?_⟩
 cases q:H b with
 |none=>rfl
 |some x =>
  have hm:b∈trk h H:=List.mem_filter.mpr ⟨List.mem_range.mpr (Heap.lt_size e'),by simp[q]⟩
  have z:(Oc h H).get? b=none:=PySem.W.hideAll_none (trk h H) hm
  rw[z]at e; cases e
open PySem PySem.Spec PyProof.Rows
structure Mod (K:PySem.W.Frag) (mg:Str->Option Value) (base:Heap):Prop where
 kin:K.In base
 glob:base.Ns mainGlobals mg
 blt:∃mb,base.Ns builtinsNs mb∧∀x:Str,x≠"__name__"->mb x=bootBuiltins x
 nolimit:base.NoLimit
structure Cx where
 prog:Program
 w:World
 K:PySem.W.Frag
 mg:Str->Option Value
 base:Heap
 A:Around
 N:List Str
 s₀:Shared
 H₀:Hp
 env:Env
 outer:List Env
 stack:List Env
 ex:List Addr
 fn:Str->Bool
 calm:Bool
 pn:List (Addr × Obj)
 xe:Value->Shared->Prop
def frs (l:List Env):List Addr:=l.filterMap (·.frame)
abbrev Cx.fs (X:Cx):List Addr:=frs X.outer
def Vis (sc:Scope) (x:Str):Prop:=sc.names.lookup x=some .local∨sc.names.lookup x=some .cell∨sc.names.lookup x=some .free
def Loc (sc:Scope) (x:Str):Prop:=sc.names.lookup x=some .local∨sc.names.lookup x=some .cell
def AQ (env:Env) (h:Heap) (m:Str->Option Value) (x:Str) (u:Value):Prop :=
 (env.kindOf x=some .local∧m x=some u)∨((env.kindOf x=some .cell∨env.kindOf x=some .free)∧∃c,env.cells.lookup x=some c∧h.IsCell c (some u))
structure Cx.Ok (X:Cx):Prop where
 mod:Mod X.K X.mg X.base
 kind:X.env.scope.kind=.function
 glob:X.env.globals=mainGlobals
 blt:X.env.builtins=builtinsNs
 above:X.s₀.heap.objs.size<=X.env.locals
 inj:∀x y c,X.env.cells.lookup x=some c->X.env.cells.lookup y=some c->x=y
 has:∀x,(X.env.kindOf x=some .cell∨X.env.kindOf x=some .free)->∃c,X.env.cells.lookup x=some c
 cab:∀x c,X.fn x=true->X.env.cells.lookup x=some c->X.s₀.heap.objs.size<=c
 hd:X.calm=true->X.A.handled=none
 frames:X.A.frames=some X.stack
 stk:X.stack=X.outer∨(X.stack=X.env::X.outer∧X.env.frame=some X.env.locals)
 exf:∀b∈X.ex,b≠X.env.locals∧∀x c,X.env.cells.lookup x=some c->c≠b
 bs:∀b o,X.base.get? b=some o->X.s₀.heap.get? b=some o∧X.H₀ b=none
 bsz:X.base.objs.size<=X.s₀.heap.objs.size
 noex:∀b o,X.base.get? b=some o->b ∉ X.ex
 exfs:∀b∈X.ex,b ∉ X.fs
 funs:X.s₀.heap.FunFrames X.base X.outer
 frf:∀b∈X.fs,X.H₀ b=none
structure Inv (X:Cx) (pins:List (Addr × Obj)) (σ:List (Option V)) (H:Hp) (s:Shared):Prop where
 ok:X.Ok
 os:s.os=X.s₀.os
 bare:AllBare s.gens
 base:Un X.fs X.ex X.H₀ H X.s₀.heap s.heap
 loc:∃m,s.heap.Ns X.env.locals m∧∀(i:Nat) (x:Str) (v:V),X.N[i]?=some x->σ[i]?=some (some v)->Vis X.env.scope x->∃u,RelV v u∧AQ X.env s.heap m x u
 cell:∀x c,X.env.cells.lookup x=some c->∃v,s.heap.IsCell c v
 free:H X.env.locals=none
 freeC:∀x c,X.env.cells.lookup x=some c->H c=none
 pin:∀p∈X.pn++pins,s.heap.get? p.1=some p.2∧H p.1=none∧p.1≠X.env.locals∧p.1 ∉ X.fs∧∀v,p.2.data≠.cell v
 hok:HOk X.prog X.w H s.heap
 len:σ.length=X.N.length
section
variable {X:Cx} {pins:List (Addr × Obj)} {σ:List (Option V)} {H H':Hp} {s:Shared} {h':Heap}
theorem Cx.Ok.nofr (ok:X.Ok) {b:Addr} {o:Obj} (e:X.base.get? b=some o):b ∉ X.fs:=fun hb=>by
 have:=(ok.funs.mem hb).1
 rw[e]at this; cases this
theorem Inv.bs (I:Inv X pins σ H s):∀b o,X.base.get? b=some o->s.heap.get? b=some o∧H b=none:=fun b o e =>
 ⟨I.base.keep b o (I.ok.bs b o e).1 (I.ok.bs b o e).2 (I.ok.nofr e) (I.ok.noex b o e),I.base.free b o (I.ok.bs b o e).1 (I.ok.bs b o e).2 (I.ok.noex b o e)⟩
theorem Inv.bk (I:Inv X pins σ H s):∀b o,X.base.get? b=some o->s.heap.get? b=some o:=fun b o e=>(I.bs b o e).1
theorem Inv.mod (I:Inv X pins σ H s):Mod X.K X.mg X.base:=I.ok.mod
theorem Inv.kIn (I:Inv X pins σ H s):X.K.In s.heap:=I.ok.mod.kin.keeps I.bk
theorem Inv.lt (I:Inv X pins σ H s):X.env.locals < s.heap.objs.size:=let ⟨_,hn,_⟩:=I.loc; hn.lt
theorem Inv.sz (I:Inv X pins σ H s):X.s₀.heap.objs.size<=s.heap.objs.size:=Nat.le_trans I.ok.above (Nat.le_of_lt I.lt)
theorem Inv.nofs (I:Inv X pins σ H s) {a:Addr} (h:s.heap.objs.size<=a):a ∉ X.fs:=fun hb=>by
 obtain ⟨_,o,ho,_⟩:=I.ok.funs.mem hb
 exact absurd (Nat.lt_of_lt_of_le (Heap.lt_size ho) (Nat.le_trans I.sz h)) (Nat.lt_irrefl _)
theorem Inv.cne (I:Inv X pins σ H s):∀x c,X.env.cells.lookup x=some c->c≠X.env.locals:=fun x c e z=>by
 obtain ⟨v,o,ho,hd⟩:=I.cell x c e
 obtain ⟨m,⟨o',es,ep,ho',hd',_⟩,_⟩:=I.loc
 rw[z,ho']at ho; cases ho; rw[hd']at hd; cases hd
theorem Inv.funs (I:Inv X pins σ H s):s.heap.FunFrames X.base X.outer:=by
 have all:∀(l:List Env),(∀b∈frs l,b∈X.fs)->X.s₀.heap.FunFrames X.base l->s.heap.FunFrames X.base l:=by
  intro l
  induction l with
  |nil=>intro _ _; trivial
  |cons env r ih =>
   intro hs hl
   obtain ⟨hk,⟨L,o,hf,hn,ho,hd⟩,hr⟩:=hl
   have hL:L∈X.fs:=hs L (by unfold frs; rw[List.filterMap_cons,hf]; exact List.mem_cons_self)
   obtain ⟨sl,e⟩:=I.base.slot L o ho (I.ok.frf L hL) hL fun z=>I.ok.exfs L z hL
   exact ⟨hk,⟨L,_,hf,hn,e,hd⟩,ih (fun b hb=>hs b (by unfold frs; rw[List.filterMap_cons,hf]; exact List.mem_cons_of_mem _ hb)) hr⟩
 exact all X.outer (fun _ hb=>hb) I.ok.funs
theorem Inv.stack (I:Inv X pins σ H s):s.heap.FunFrames X.base X.stack:=by
 rcases I.ok.stk with e|⟨e,hf⟩
 ·rw[e]; exact I.funs
 ·rw[e]
  obtain ⟨m,hn,_⟩:=I.loc
  refine .cons (by rw[I.ok.kind]; decide) hf hn ?_ I.funs
  exact Heap.get?_none_of_le (Nat.le_trans I.ok.bsz I.ok.above)
theorem Inv.stkSub (I:Inv X pins σ H s):∀b∈frs X.stack,b∈X.env.locals::X.fs:=fun b hb=>by
 rcases I.ok.stk with e|⟨e,hf⟩
 ·rw[e]at hb; exact List.mem_cons_of_mem _ hb
 ·rw[e]at hb
  unfold frs at hb
  rw[List.filterMap_cons,hf]at hb
  exact hb
theorem Inv.stkFree (I:Inv X pins σ H s):∀b∈frs X.stack,H b=none:=fun b hb=>by
 rcases List.mem_cons.mp (I.stkSub b hb) with e|hb
 ·rw[e]; exact I.free
 ·obtain ⟨_,o,ho,_⟩:=I.ok.funs.mem hb
  exact I.base.free b o ho (I.ok.frf b hb) fun z=>I.ok.exfs b z hb
theorem Inv.step {g':Array GenState} {t':Nat} {d':Drawn} {ch:List Addr} (I:Inv X pins σ H s)
    (hch:∀b∈ch,(b∈X.ex∨X.s₀.heap.objs.size<=b)∧b≠X.env.locals∧(∀x c,X.env.cells.lookup x=some c->c≠b)∧∀p∈X.pn++pins,p.1≠b)
    (keep:∀b o,b≠X.env.locals->b ∉ X.fs->b ∉ ch->s.heap.get? b=some o->H b=none->h'.get? b=some o)
    (slot:∀b o,b≠X.env.locals->b∈X.fs->b ∉ ch->s.heap.get? b=some o->H b=none->∃sl,h'.get? b=some { o with slots:=sl }) (free:∀b o,b ∉ ch->s.heap.get? b=some o->H b=none->H' b=none)
    (there:∀b o,b ∉ ch->s.heap.get? b=some o->∃o',h'.get? b=some o')
    (tups:∀b xs,H b=some (.tup xs)->H' b=some (.tup xs)) (frzs:∀b o u,H b=some (.frz o u)->H' b=some (.frz o u)) (tbls:∀b ps,H b=some (.tbl ps)->∃more,H' b=some (.tbl (ps++more)))
    (ns:∀m,s.heap.Ns X.env.locals m->h'.Ns X.env.locals m) (hok:HOk X.prog X.w H' h') (hg:AllBare g') :
    Inv X pins σ H' { s with heap:=h',gens:=g',drawn:=d',toks:=t' }:=by
 have neL:∀b o,X.s₀.heap.get? b=some o->b≠X.env.locals:=fun b o e=>Nat.ne_of_lt (Nat.lt_of_lt_of_le (Heap.lt_size e) I.ok.above)
 have neC:∀b o,X.s₀.heap.get? b=some o->b ∉ X.ex->b ∉ ch:=fun b o e hx hb=>by
  rcases (hch b hb).1 with z|z
  ·exact hx z
  ·exact absurd (Nat.lt_of_lt_of_le (Heap.lt_size e) z) (Nat.lt_irrefl _)
 have cellK:∀x c,X.env.cells.lookup x=some c->∀v,s.heap.IsCell c v->h'.IsCell c v:=fun x c e v ⟨o,ho,hd⟩=>by
  have nch:c ∉ ch:=fun z=>(hch c z).2.2.1 x c e rfl
  by_cases hc:c∈X.fs
  ·obtain ⟨sl,q⟩:=slot c o (I.cne x c e) hc nch ho (I.freeC x c e)
   exact ⟨_,q,hd⟩
  ·exact ⟨o,keep c o (I.cne x c e) hc nch ho (I.freeC x c e),hd⟩
 refine ⟨I.ok,I.os,hg,⟨fun b o e n hb hx=>?_,fun b o e n hb hx=>?_,fun b o e n hx=>?_,fun b o e hx=>?_,fun b xs e=>tups b xs (I.base.tups b xs e),fun b o xs e=>frzs b o xs (I.base.frzs b o xs e),fun b ps e=>?_⟩,?_,fun x c e=>?_,?_,fun x c e=>?_,fun p hp=>?_,hok,I.len⟩
 ·exact keep b o (neL b o e) hb (neC b o e hx) (I.base.keep b o e n hb hx) (I.base.free b o e n hx)
 ·obtain ⟨sl,e1⟩:=I.base.slot b o e n hb hx
  obtain ⟨sl',e2⟩:=slot b _ (neL b o e) hb (neC b o e hx) e1 (I.base.free b o e n hx)
  exact ⟨sl',e2⟩
 ·obtain ⟨o',e1⟩:=I.base.there b o e hx
  exact free b o' (neC b o e hx) e1 (I.base.free b o e n hx)
 ·obtain ⟨o',e1⟩:=I.base.there b o e hx
  exact there b o' (neC b o e hx) e1
 ·obtain ⟨m1,e1⟩:=I.base.tbls b ps e
  obtain ⟨m2,e2⟩:=tbls b _ e1
  exact ⟨m1++m2,by rw[e2,Array.append_assoc]⟩
 ·obtain ⟨m,hn,hl⟩:=I.loc
  refine ⟨m,ns m hn,fun i x v e1 e2 e3=>?_⟩
  obtain ⟨u,r,l⟩:=hl i x v e1 e2 e3
  refine ⟨u,r,?_⟩
  rcases l with l|⟨k,c,e,z⟩
  ·exact .inl l
  ·exact .inr ⟨k,c,e,cellK x c e _ z⟩
 ·obtain ⟨v,z⟩:=I.cell x c e
  exact ⟨v,cellK x c e v z⟩
 ·obtain ⟨m,⟨o,_,_,ho,_⟩,_⟩:=I.loc
  exact free _ o (fun z=>(hch _ z).2.1 rfl) ho I.free
 ·obtain ⟨v,o,ho,hd⟩:=I.cell x c e
  exact free c o (fun z=>(hch c z).2.2.1 x c e rfl) ho (I.freeC x c e)
 ·obtain ⟨e,n,ne,nf,d⟩:=I.pin p hp
  have nch:p.1 ∉ ch:=fun z=>(hch p.1 z).2.2.2 p hp rfl
  exact ⟨keep p.1 p.2 ne nf nch e n,free p.1 p.2 nch e n,ne,nf,d⟩
theorem Inv.un {t':Nat} (I:Inv X pins σ H s) (u:Un X.fs [] H H' s.heap h') (hok:HOk X.prog X.w H' h'):Inv X pins σ H' { s with heap:=h',toks:=t' }:=by
 obtain ⟨m,⟨o,es,ep,ho,r⟩,_⟩:=id I.loc
 obtain ⟨sl,hL⟩:=u.any ho I.free (by simp)
 exact I.step (g':=s.gens) (d':=s.drawn) (ch:=[]) (fun _ z=>nomatch z) (fun b o _ hb _ e n=>u.keep b o e n hb (by simp)) (fun b o _ hb _ e n=>u.slot b o e n hb (by simp)) (fun b o _ e n=>u.free b o e n (by simp)) (fun b o _ e=>u.there b o e (by simp)) u.tups u.frzs u.tbls (fun m' hm=>by
  obtain ⟨o',es',ep',ho',r'⟩:=hm
  rw[ho]at ho'; cases ho'
  exact ⟨_,es',ep',hL,r'⟩) hok I.bare
theorem Inv.call {g':Array GenState} {t':Nat} {d':Drawn} {ch:List Addr} (I:Inv X pins σ H s) (u:Un (frs X.stack) ch H H' s.heap h') (hok:HOk X.prog X.w H' h') (hg:AllBare g')
    (hch:∀b∈ch,(b∈X.ex∨X.s₀.heap.objs.size<=b)∧b≠X.env.locals∧(∀x c,X.env.cells.lookup x=some c->c≠b)∧∀p∈X.pn++pins,p.1≠b) :
    Inv X pins σ H' { s with heap:=h',gens:=g',drawn:=d',toks:=t' }:=by
 obtain ⟨m,⟨o,es,ep,ho,r⟩,_⟩:=id I.loc
 obtain ⟨sl,hL⟩:=u.any ho I.free fun z=>(hch _ z).2.1 rfl
 exact I.step (ch:=ch) hch (fun b o hL hb hc e n=>u.keep b o e n (fun z=>(List.mem_cons.mp (I.stkSub b z)).elim hL hb) hc) (fun b o _ _ hc e n=>u.any e n hc) (fun b o hc e n=>u.free b o e n hc) (fun b o hc e=>u.there b o e hc) u.tups u.frzs u.tbls (fun m' hm=>by
  obtain ⟨o',es',ep',ho',r'⟩:=hm
  rw[ho]at ho'; cases ho'
  exact ⟨_,es',ep',hL,r'⟩) hok hg
theorem Inv.turned {t':Nat} {it:Addr} (I:Inv X pins σ H s) (k:∀b o,b≠it->s.heap.get? b=some o->h'.get? b=some o) (hn:H it=none) (hL:it≠X.env.locals)
    (h1:it∈X.ex∨X.s₀.heap.objs.size<=it) (h2:∀x c,X.env.cells.lookup x=some c->c≠it) (h3:∀p∈X.pn++pins,p.1≠it):Inv X pins σ H { s with heap:=h',toks:=t' }:=by
 have nit:∀b u,H b=some u->b≠it:=fun b u e z=>by rw[z,hn]at e; cases e
 refine I.step (g':=s.gens) (d':=s.drawn) (ch:=[it]) (fun b hb=>?_) (fun b o _ _ hc e _=>k b o (fun z=>hc (by simp[z])) e) (fun b o _ _ hc e _=>⟨o.slots,k b o (fun z=>hc (by simp[z])) e⟩) (fun _ _ _ _ n=>n)
  (fun b o hc e=>⟨o,k b o (fun z=>hc (by simp[z])) e⟩) (fun _ _ e=>e) (fun _ _ _ e=>e) (fun b ps e=>⟨#[],by rw[e]; simp⟩) (fun m hm=>?_) (fun b u e=>?_) I.bare
 ·have e:b=it:=by simpa using hb
  subst e
  exact ⟨h1,hL,h2,h3⟩
 ·obtain ⟨o,es,ep,ho,r⟩:=hm
  exact ⟨o,es,ep,k _ o (Ne.symm hL) ho,r⟩
 ·refine (I.hok b u e).stay (fun c v hc q=>k c v ?_ q) (fun _ q=>q) fun _ _ q=>q
  rcases hc with z|z
  ·rw[z]; exact nit b u e
  ·exact nit c _ z
theorem Inv.tok (I:Inv X pins σ H s) (t:Nat):Inv X pins σ H { s with toks:=t }:=I.un (h':=s.heap) (t':=t) Un.refl I.hok
theorem Inv.kept {t':Nat} (I:Inv X pins σ H s) (k:∀b u,s.heap.get? b=some u->h'.get? b=some u):Inv X pins σ H { s with heap:=h',toks:=t' }:=I.un (Un.kept k) (I.hok.kept k)
theorem Inv.laid {a:Addr} {o:HO} {t':Nat} (I:Inv X pins σ H s) (k:∀b u,s.heap.get? b=some u->h'.get? b=some u) (hp:s.heap.objs.size<=a) (new:ObjOk X.prog X.w (upd H a o) h' a o) :
    Inv X pins σ (upd H a o) { s with heap:=h',toks:=t' }:=I.un (Un.laid k hp (I.hok.fresh hp)) (I.hok.laid k hp new)
theorem Inv.write {x e:Addr} {o:HO} {t':Nat} (I:Inv X pins σ H s) (mu:Mut (H x)) (he:e=x∨H e=some (.own x)) (k:∀b u,b≠e->s.heap.get? b=some u->h'.get? b=some u) (heo:∃u,h'.get? e=some u)
    (new:ObjOk X.prog X.w (upd H x o) h' x o):Inv X pins σ (upd H x o) { s with heap:=h',toks:=t' }:=I.un (Un.write mu he k heo) (I.hok.write mu he k heo new)
theorem Inv.pins_of {pins':List (Addr × Obj)} (I:Inv X pins σ H s) (h:∀p∈pins',s.heap.get? p.1=some p.2∧H p.1=none∧p.1≠X.env.locals∧p.1 ∉ X.fs∧∀v,p.2.data≠.cell v):Inv X pins' σ H s :=
 ⟨I.ok,I.os,I.bare,I.base,I.loc,I.cell,I.free,I.freeC,fun p hp=>(List.mem_append.mp hp).elim (fun z=>I.pin p (List.mem_append_left _ z)) (h p),I.hok,I.len⟩
theorem NL {N:List Str} (hN:N.Nodup) {i j:Nat} {x:Str} (a:N[i]?=some x) (b:N[j]?=some x):i=j:=by
 obtain ⟨h1,e1⟩:=List.getElem?_eq_some_iff.mp a
 obtain ⟨h2,e2⟩:=List.getElem?_eq_some_iff.mp b
 exact (List.getElem_inj hN).mp (e1.trans e2.symm)
theorem TN {M:Model} {A:Around} {E:Value->Shared->Prop} {i:Nat} {x:Str} {v:V} {u:Value} {Q:Unit->Shared->Prop} (I:Inv X pins σ H s) (hN:X.N.Nodup) (hi:X.N[i]?=some x) (hx:Loc X.env.scope x) (r:RelV v u)
    (h:∀s',Inv X pins (σ.set i (some v)) H s'->(∃a,Heap.SameBut a s.heap s'.heap∧(a=X.env.locals∨X.env.cells.lookup x=some a))->Q () s') (hf:X.fn x=true∨X.env.scope.names.lookup x=some .local:=by first|exact .inl rfl|exact .inr rfl|assumption):wpAny M A (storeName X.env x u) Q E s:=by
 obtain ⟨m,hn,hl⟩:=id I.loc
 have hcls:(X.env.scope.kind == .class || (X.env.scope.kind == .module&&X.env.locals != X.env.globals))=false:=by rw[I.ok.kind]; rfl
 have hiσ:i < σ.length:=by rw[I.len]; exact (List.getElem?_eq_some_iff.mp hi).1
 have cne:=I.cne
 have tracked:∀{a:Addr} {h':Heap},(∃o,s.heap.get? a=some o∧H a=none)->Heap.SameBut a s.heap h'->HOk X.prog X.w H h':=fun {a h'} ha hs b ob e=>by
  obtain ⟨_,_,hfree⟩:=ha
  refine (I.hok b ob e).stay (fun c w' hc q=>(hs.2 c ?_).trans q) (fun _ q=>q) fun _ _ q=>q
  rintro rfl
  rcases hc with rfl|hc
  ·rw[hfree]at e; cases e
  ·rw[hfree]at hc; cases hc
 rcases hx with hk|hk
 ·refine wpAny_storeName_local hk hn (fun h' hn' hs=>?_) hcls
  obtain ⟨oL,_,_,hoL,_⟩:=id hn
  refine h _ ⟨I.ok,I.os,I.bare,⟨fun b o e n hb hx=>?_,fun b o e n hb hx=>?_,I.base.free,fun b o e hx=>?_,I.base.tups,I.base.frzs,I.base.tbls⟩,⟨_,hn',fun j y v' e1 e2 e3=>?_⟩,fun y c e=>?_,I.free,I.freeC,fun p hp=>?_,tracked ⟨oL,hoL,I.free⟩ hs,by simpa using I.len⟩ ⟨_,hs,.inl rfl⟩
  ·exact (hs.2 b (Nat.ne_of_lt (Nat.lt_of_lt_of_le (Heap.lt_size e) I.ok.above))).trans (I.base.keep b o e n hb hx)
  ·obtain ⟨sl,e1⟩:=I.base.slot b o e n hb hx
   exact ⟨sl,(hs.2 b (Nat.ne_of_lt (Nat.lt_of_lt_of_le (Heap.lt_size e) I.ok.above))).trans e1⟩
  ·obtain ⟨o',e1⟩:=I.base.there b o e hx
   exact ⟨o',(hs.2 b (Nat.ne_of_lt (Nat.lt_of_lt_of_le (Heap.lt_size e) I.ok.above))).trans e1⟩
  ·by_cases hj:j=i
   ·subst hj
    rw[hi]at e1; cases e1
    rw[List.getElem?_set_self hiσ]at e2
    cases e2
    exact ⟨u,r,.inl ⟨hk,by simp⟩⟩
   ·rw[List.getElem?_set_ne (Ne.symm hj)]at e2
    obtain ⟨u',r',q⟩:=hl j y v' e1 e2 e3
    refine ⟨u',r',?_⟩
    rcases q with ⟨k,e⟩|⟨k,c,e,z⟩
    ·refine .inl ⟨k,?_⟩
     have:y≠x:=fun e=>hj (NL hN e1 (e ▸ hi))
     simp[this,e]
    ·exact .inr ⟨k,c,e,z.sameBut hs (cne y c e)⟩
  ·obtain ⟨w',z⟩:=I.cell y c e
   exact ⟨w',z.sameBut hs (cne y c e)⟩
  ·obtain ⟨e,n,ne,nf,d⟩:=I.pin p hp
   exact ⟨(hs.2 p.1 ne).trans e,n,ne,nf,d⟩
 ·have hfn:X.fn x=true:=by
   rcases hf with z|z
   ·exact z
   ·rw[z]at hk; cases hk
  obtain ⟨c,hc⟩:=I.ok.has x (.inl hk)
  obtain ⟨w',z⟩:=I.cell x c hc
  refine wpAny_storeName_cell I.ok.kind hk hc z (fun h' hc' hs=>?_)
  obtain ⟨oc,hoc,hocd⟩:=id z
  refine h { s with heap:=h' } ⟨I.ok,I.os,I.bare,⟨fun b o e n hb hx=>?_,fun b o e n hb hx=>?_,I.base.free,fun b o e hx=>?_,I.base.tups,I.base.frzs,I.base.tbls⟩,⟨m,hn.sameBut hs (Ne.symm (cne x c hc)),fun j y v' e1 e2 e3=>?_⟩,fun y c' e=>?_,I.free,I.freeC,fun p hp=>?_,tracked ⟨oc,hoc,I.freeC x c hc⟩ hs,by simpa using I.len⟩ ⟨c,hs,.inr hc⟩
  ·exact (hs.2 b (Nat.ne_of_lt (Nat.lt_of_lt_of_le (Heap.lt_size e) (I.ok.cab x c hfn hc)))).trans (I.base.keep b o e n hb hx)
  ·obtain ⟨sl,e1⟩:=I.base.slot b o e n hb hx
   exact ⟨sl,(hs.2 b (Nat.ne_of_lt (Nat.lt_of_lt_of_le (Heap.lt_size e) (I.ok.cab x c hfn hc)))).trans e1⟩
  ·obtain ⟨o',e1⟩:=I.base.there b o e hx
   exact ⟨o',(hs.2 b (Nat.ne_of_lt (Nat.lt_of_lt_of_le (Heap.lt_size e) (I.ok.cab x c hfn hc)))).trans e1⟩
  ·by_cases hj:j=i
   ·subst hj
    rw[hi]at e1; cases e1
    rw[List.getElem?_set_self hiσ]at e2
    cases e2
    exact ⟨u,r,.inr ⟨.inl hk,c,hc,hc'⟩⟩
   ·rw[List.getElem?_set_ne (Ne.symm hj)]at e2
    obtain ⟨u',r',q⟩:=hl j y v' e1 e2 e3
    refine ⟨u',r',?_⟩
    rcases q with q|⟨k,c',e,z'⟩
    ·exact .inl q
    ·refine .inr ⟨k,c',e,z'.sameBut hs ?_⟩
     rintro rfl
     exact hj (NL hN e1 (I.ok.inj _ _ _ e hc ▸ hi))
  ·by_cases hcc:c'=c
   ·subst hcc; exact ⟨_,hc'⟩
   ·obtain ⟨w2,z2⟩:=I.cell y c' e
    exact ⟨w2,z2.sameBut hs hcc⟩
  ·obtain ⟨e,n,ne,nf,d⟩:=I.pin p hp
   refine ⟨(hs.2 p.1 ?_).trans e,n,ne,nf,d⟩
   intro q
   rw[q,hoc]at e
   have q':oc=p.2:=Option.some.inj e
   exact d w' (by rw[← q']; exact hocd)
theorem Rq {M:Model} {A:Around} {E:Value->Shared->Prop} {i:Nat} {x:Str} {v:V} {u:Value} {Q:Unit->Shared->Prop} (I:Inv X pins σ H s) (hN:X.N.Nodup) (hi:X.N[i]?=some x) (hx:Loc X.env.scope x) (r:RelV v u)
    (h:∀s',Inv X pins (σ.set i (some v)) H s'->Q () s') (hf:X.fn x=true∨X.env.scope.names.lookup x=some .local:=by first|exact .inl rfl|exact .inr rfl|assumption):wpAny M A (storeName X.env x u) Q E s :=
 TN I hN hi hx r (fun s' I' _=>h s' I') hf
theorem Inv.call' {s':Shared} {ch:List Addr} (I:Inv X pins σ H s) (ho:s'.os=s.os) (u:Un (frs X.stack) ch H H' s.heap s'.heap) (hok:HOk X.prog X.w H' s'.heap) (hg:AllBare s'.gens)
    (hch:∀b∈ch,(b∈X.ex∨X.s₀.heap.objs.size<=b)∧b≠X.env.locals∧(∀x c,X.env.cells.lookup x=some c->c≠b)∧∀p∈X.pn++pins,p.1≠b):Inv X pins σ H' s':=by
 obtain ⟨h',g',d',t',o'⟩:=s'
 have e:o'=s.os:=ho
 subst e
 exact I.call (g':=g') (t':=t') (d':=d') u hok hg hch
end
abbrev XK:=Value->Option Addr->Hp->Prop
abbrev St:=List (Option V)
abbrev VK:=V->Hp->Prop
abbrev TE:=St->Hp->VK->Prop
abbrev TT:=St->Hp->(Bool->Hp->Prop)->Prop
abbrev TA:=St->Hp->(List V->Hp->Prop)->Prop
structure Ends where
 nx:St->Hp->Prop
 rt:VK
 bk:St->Hp->Prop:=fun _ _=>False
 ct:St->Hp->Prop:=fun _ _=>False
abbrev TS:=Ends->St->Hp->Prop
def EP (X:Cx) (pins:List (Addr × Obj)) (σ:St) (Q:VK) (u:Value) (s':Shared):Prop:=∃v H',Inv X pins σ H' s'∧RelV v u∧Q v H'
def TP (X:Cx) (pins:List (Addr × Obj)) (σ:St) (Q:Bool->Hp->Prop) (b:Bool) (s':Shared):Prop:=∃H',Inv X pins σ H' s'∧Q b H'
def AP (X:Cx) (pins:List (Addr × Obj)) (σ:St) (Q:List V->Hp->Prop) (us:List Value) (s':Shared):Prop:=∃vs H',Inv X pins σ H' s'∧Vals vs us∧Q vs H'
def SP (X:Cx) (pins:List (Addr × Obj)) (D:Ends) (f:Flow) (s':Shared):Prop :=
 match f with
 |.next=>∃σ' H',Inv X pins σ' H' s'∧D.nx σ' H'
 |.brk=>∃σ' H',Inv X pins σ' H' s'∧D.bk σ' H'
 |.cont=>∃σ' H',Inv X pins σ' H' s'∧D.ct σ' H'
 |.ret u=>∃v σ' H',Inv X pins σ' H' s'∧RelV v u∧D.rt v H'
def PE (X:Cx) (e:Expr) (t:TE):Prop :=
 ∀(pins:List (Addr × Obj)) (s:Shared) (σ:St) (H:Hp) (Q:VK),Inv X pins σ H s->t σ H Q->wpAny (model X.prog X.w) X.A (eval e X.env) (EP X pins σ Q) X.xe s
def PT (X:Cx) (e:Expr) (t:TT):Prop :=
 ∀(pins:List (Addr × Obj)) (s:Shared) (σ:St) (H:Hp) (Q:Bool->Hp->Prop),Inv X pins σ H s->t σ H Q->wpAny (model X.prog X.w) X.A (isTrue e X.env (eval e X.env)) (TP X pins σ Q) X.xe s
def PW (X:Cx) (e:Expr) (t:TT):Prop :=
 ∀(whole:Sem Value) (pins:List (Addr × Obj)) (s:Shared) (σ:St) (H:Hp) (Q:Bool->Hp->Prop),Inv X pins σ H s->t σ H Q->wpAny (model X.prog X.w) X.A (isTrue e X.env whole) (TP X pins σ Q) X.xe s
theorem PW.pt {X:Cx} {e:Expr} {t:TT} (h:PW X e t):PT X e t:=h _
def PA (X:Cx) (es:List Expr) (t:TA):Prop :=
 ∀(pos:Pos) (pins:List (Addr × Obj)) (s:Shared) (σ:St) (H:Hp) (Q:List V->Hp->Prop),Inv X pins σ H s->t σ H Q->wpAny (model X.prog X.w) X.A (spliced (backTo pos (starEach es X.env))) (AP X pins σ Q) X.xe s
def PS (X:Cx) (st:Stmt) (t:TS):Prop :=
 ∀(pins:List (Addr × Obj)) (s:Shared) (σ:St) (H:Hp) (D:Ends),Inv X pins σ H s->t D σ H->wpAny (model X.prog X.w) X.A (exec st X.env) (SP X pins D) X.xe s
def PSs (X:Cx) (st:List Stmt) (t:TS):Prop :=
 ∀(pins:List (Addr × Obj)) (s:Shared) (σ:St) (H:Hp) (D:Ends),Inv X pins σ H s->t D σ H->wpAny (model X.prog X.w) X.A (execs st X.env) (SP X pins D) X.xe s
theorem thn {α:Type} {t:Sem α} {Q Q':α->Shared->Prop} {M:Model} {A:Around} {E:Value->Shared->Prop} {s:Shared} (h:wpAny M A t Q E s) (hQ:∀a s,Q a s->Q' a s):wpAny M A t Q' E s:=wpAny_mono h hQ fun _ _ x=>x
open PySem PySem.Spec PyProof.Rows
section
variable {X:Cx}
def BX (i:Nat):TE:=fun σ H Q=>∃v,σ[i]?=some (some v)∧Q v H
def tC (v:V):TE:=fun _ H Q=>Q v H
theorem Ck {i:Nat} {x:Str} {pos:Pos} (hN:X.N[i]?=some x) (hv:Vis X.env.scope x) (hd:(x == ("__debug__":Str))=false:=by decide) (hcd:(x == ("__classdict__":Str))=false:=by decide):PE X (.Name x pos) (BX i):=by
 intro pins s σ H Q I h
 obtain ⟨v,e,h⟩:=h
 obtain ⟨m,hn,hl⟩:=I.loc
 obtain ⟨u,r,l⟩:=hl i x v hN e hv
 have fin:EP X pins σ Q u s:=⟨v,H,I,r,h⟩
 rcases l with ⟨hk,hm⟩|⟨hk,c,hc,hcell⟩
 ·exact wpAny_Name (wpAny_loadName_local I.ok.kind hk hn hm fin) hd
 ·rcases hk with hk|hk
  ·exact wpAny_Name (wpAny_loadName_cell I.ok.kind hk hc hcell fin) hd
  ·exact wpAny_Name (wpAny_loadName_free I.ok.kind hk hc hcell fin hcd) hd
theorem CP {i j pos}:PE X (.Constant (.int i) j pos) (tC (.int i)):=fun _ _ _ H _ I h=>wpAny_Constant_int ⟨.int i,H,I.tok _,⟨_,rfl⟩,h⟩
theorem BY {b j pos}:PE X (.Constant (.bool b) j pos) (tC (.bl b)):=fun _ _ _ H _ I h=>Constant_bool ⟨.bl b,H,I,rfl,h⟩
theorem D4 {j pos}:PE X (.Constant .none j pos) (tC .non):=fun _ _ _ H _ I h=>Constant_none ⟨.non,H,I,rfl,h⟩
theorem Gd {x j pos}:PE X (.Constant (.str x) j pos) (tC (.str x)):=fun _ _ _ H _ I h=>Calls.Constant_str ⟨.str x,H,I.tok _,⟨_,rfl⟩,h⟩
def Gl (X:Cx) (x:Str):Prop:=X.env.kindOf x=some .globalImplicit
theorem SL {E:Value->Shared->Prop} {pins:List (Addr × Obj)} {s:Shared} {σ:St} {H:Hp} {x:Str} {u:Value} {pos:Pos} {Q:Value->Shared->Prop} (I:Inv X pins σ H s) (hg:Gl X x) (hm:X.mg x=some u) (h:Q u s)
    (hd:(x == ("__debug__":Str))=false:=by decide):wpAny (model X.prog X.w) X.A (eval (.Name x pos) X.env) Q E s :=
 Calls.Name_function_global I.ok.kind hg (Calls.loadGlobal_global (by rw[I.ok.glob]; exact I.mod.glob.keeps I.bk) hm h) hd
theorem MX {E:Value->Shared->Prop} {pins:List (Addr × Obj)} {s:Shared} {σ:St} {H:Hp} {x:Str} {u:Value} {pos:Pos} {Q:Value->Shared->Prop} (I:Inv X pins σ H s) (hg:Gl X x) (hm:X.mg x=none) (hv:bootBuiltins x=some u) (h:Q u s)
    (hn:x≠"__name__":=by decide) (hd:(x == ("__debug__":Str))=false:=by decide):wpAny (model X.prog X.w) X.A (eval (.Name x pos) X.env) Q E s:=by
 obtain ⟨mb,h1,h2⟩:=I.mod.blt
 exact Calls.Name_function_global I.ok.kind hg (Calls.loadGlobal_builtin (by rw[I.ok.glob]; exact I.mod.glob.keeps I.bk) hm (by rw[I.ok.blt]; exact h1.keeps I.bk) ((h2 x hn).trans hv) h) hd
theorem LJ {x:Str} {v:V} {u:Value} {pos:Pos} (hg:Gl X x) (hm:X.mg x=some u) (r:RelV v u) (hd:(x == ("__debug__":Str))=false:=by decide):PE X (.Name x pos) (tC v) :=
 fun _ _ _ H _ I h=>SL I hg hm ⟨v,H,I,r,h⟩ hd
variable {a b:Expr} {ta tb:TE} {pos:Pos}
def PC (X:Cx) (op:CmpOp) (a b:Expr) (t:TE):Prop :=
 ∀(pins:List (Addr × Obj)) (s:Shared) (σ:St) (H:Hp) (Q:VK),Inv X pins σ H s->t σ H Q ->
  wpAny (model X.prog X.w) X.A (eval a X.env) (fun v s₁=>wpAny (model X.prog X.w) X.A (eval b X.env) (fun u s₂=>wpAny (model X.prog X.w) X.A (compareOp op v u) (EP X pins σ Q) X.xe s₂) X.xe s₁) X.xe s
theorem NX (b:Expr) {op:CmpOp} (h:op≠.In) (h2:op≠.NotIn):behindInMarks op b=false:=by
 have e1:(op == CmpOp.In)=false:=by cases op <;> first|rfl|exact absurd rfl h
 have e2:(op == CmpOp.NotIn)=false:=by cases op <;> first|rfl|exact absurd rfl h2
 cases b <;> simp[behindInMarks,e1,e2]
def Ay (ta:TE):TE:=fun σ H Q=>ta σ H fun x H1=>Q (.bl (decide (x=.non))) H1
def Ar (ta:TE):TE:=fun σ H Q=>ta σ H fun x H1=>Q (.bl (!decide (x=.non))) H1
theorem RelV.none_iff {x:V} {v:Value} (r:RelV x v):(v == Value.none)=decide (x=.non):=by
 cases x with
 |non=>cases r; rfl
 |bl _=>cases r; rfl
 |int _=>obtain ⟨t,rfl⟩:=r; rfl
 |str _=>obtain ⟨t,rfl⟩:=r; rfl
 |byt _=>obtain ⟨t,rfl⟩:=r; rfl
 |flt _=>obtain ⟨t,rfl⟩:=r; rfl
 |ref _=>cases r; rfl
 |ty _=>cases r; rfl
theorem J3 {j pos'} (ha:PE X a ta):PC X .Is a (.Constant .none j pos') (Ay ta):=by
 intro pins s σ H Q I h
 refine thn (ha pins s σ H _ I h) fun v s1 ⟨x,H1,I1,r1,q1⟩=>?_
 exact Constant_none (is_none_gen ⟨.bl _,H1,I1,by rw[r1.none_iff]; rfl,q1⟩)
theorem FG {j pos'} (ha:PE X a ta):PC X .IsNot a (.Constant .none j pos') (Ar ta):=by
 intro pins s σ H Q I h
 refine thn (ha pins s σ H _ I h) fun v s1 ⟨x,H1,I1,r1,q1⟩=>?_
 exact Constant_none (isnot_none_gen ⟨.bl _,H1,I1,by rw[r1.none_iff]; rfl,q1⟩)
def tB (t:TE):TT:=fun σ H Q=>t σ H fun x H1=>∃c,x=.bl c∧Q c H1
theorem Gh {op:CmpOp} {t:TE} (h:PC X op a b t) (h1:behindInMarks op b=false:=by first|exact NX _ (by decide) (by decide)|rfl):PE X (.Compare a [op] [b] pos) t:=fun pins s σ H Q I hw=>wpAny_Compare1 (h pins s σ H Q I hw) h1
theorem P4 {op:CmpOp} {t:TE} (h:PC X op a b t) (h1:behindInMarks op b=false:=by first|exact NX _ (by decide) (by decide)|rfl):PT X (.Compare a [op] [b] pos) (tB t):=by
 intro pins s σ H Q I hw
 refine wpAny_isTrue_Compare1 (thn (h pins s σ H _ I hw) fun v s1 h1=>thn h1 fun u s2 h2=>thn h2 fun c s3 ⟨x,H1,I1,r1,q1⟩=>?_) h1
 obtain ⟨d,rfl,q⟩:=q1
 cases r1
 exact wpAny_truthy_bool ⟨H1,I1,q⟩
variable {tA tB':TT} {rest:List Expr}
def Bk (t u:TT):TT:=fun σ H Q=>t σ H fun c H1=>if c=true then u σ H1 Q else Q false H1
def tOr (t u:TT):TT:=fun σ H Q=>t σ H fun c H1=>if c=true then Q true H1 else u σ H1 Q
def AC (t:TT):TT:=fun σ H Q=>t σ H fun c H1=>Q (!c) H1
theorem FY (ha:PT X a tA):PW X (.BoolOp .And [a] pos) tA:=by
 intro wh pins s σ H Q I h
 refine isTrue_and (thn (ha pins s σ H Q I h) fun c s1 e=>?_)
 cases c with
 |true=>exact isTrue_and_nil e
 |false=>exact e
theorem CH (ha:PT X a tA):PW X (.BoolOp .Or [a] pos) tA:=by
 intro wh pins s σ H Q I h
 refine isTrue_or (thn (ha pins s σ H Q I h) fun c s1 e=>?_)
 cases c with
 |false=>exact isTrue_or_nil e
 |true=>exact e
theorem Dx (ha:PT X a tA) (hb:PW X (.BoolOp .And (b::rest) pos) tB'):PW X (.BoolOp .And (a::b::rest) pos) (Bk tA tB'):=by
 intro wh pins s σ H Q I h
 refine isTrue_and (thn (ha pins s σ H _ I h) fun c s1 ⟨H1,I1,q1⟩=>?_)
 cases c with
 |true=>exact hb wh pins s1 σ H1 Q I1 q1
 |false=>exact ⟨H1,I1,q1⟩
theorem BW (ha:PT X a tA) (hb:PW X (.BoolOp .Or (b::rest) pos) tB'):PW X (.BoolOp .Or (a::b::rest) pos) (tOr tA tB'):=by
 intro wh pins s σ H Q I h
 refine isTrue_or (thn (ha pins s σ H _ I h) fun c s1 ⟨H1,I1,q1⟩=>?_)
 cases c with
 |true=>exact ⟨H1,I1,q1⟩
 |false=>exact hb wh pins s1 σ H1 Q I1 q1
theorem DO (ha:PT X a tA):PT X (.UnaryOp .Not a pos) (AC tA):=by
 intro pins s σ H Q I h
 exact isTrue_not (ha pins s σ H (fun c H1=>Q (!c) H1) I h)
def Ba (ta tb:TE):TE:=fun σ H Q=>ta σ H fun x H1=>∃c,x=.bl c∧if c=true then tb σ H1 Q else Q (.bl false) H1
def C8 (ta:TE):TE:=fun σ H Q=>ta σ H fun x H1=>∃c,x=.bl c∧Q (.bl (!c)) H1
theorem Ce {op} {t:TE} (h:PE X a t):PE X (.BoolOp op [a] pos) t:=fun pins s σ H Q I hw=>BoolOp_one (h pins s σ H Q I hw)
theorem Co (ha:PE X a ta) (hb:PE X (.BoolOp .And (b::rest) pos) tb):PE X (.BoolOp .And (a::b::rest) pos) (Ba ta tb):=by
 intro pins s σ H Q I h
 refine BoolOp_and (thn (ha pins s σ H _ I h) fun v s1 ⟨x,H1,I1,r1,q1⟩=>?_)
 obtain ⟨c,rfl,q1⟩:=q1
 cases r1
 refine wpAny_truthy_bool ?_
 cases c with
 |true=>exact hb pins s1 σ H1 Q I1 q1
 |false=>exact ⟨.bl false,H1,I1,rfl,q1⟩
theorem DY (ha:PE X a ta):PE X (.UnaryOp .Not a pos) (C8 ta):=by
 intro pins s σ H Q I h
 refine UnaryOp_ (thn (ha pins s σ H _ I h) fun v s1 ⟨x,H1,I1,r1,q1⟩=>?_)
 obtain ⟨c,rfl,q1⟩:=q1
 cases r1
 exact not_of (wpAny_truthy_bool ⟨.bl (!c),H1,I1,rfl,q1⟩)
def tIf (t:TT) (ta tb:TE):TE:=fun σ H Q=>t σ H fun c H1=>if c=true then ta σ H1 Q else tb σ H1 Q
theorem JQ {c:Expr} (hc:PT X c tA) (ha:PE X a ta) (hb:PE X b tb):PE X (.IfExp c a b pos) (tIf tA ta tb):=by
 intro pins s σ H Q I h
 refine wpAny_IfExp (thn (hc pins s σ H _ I h) fun d s1 ⟨H1,I1,q1⟩=>?_)
 cases d with
 |true=>exact ha pins s1 σ H1 Q I1 q1
 |false=>exact hb pins s1 σ H1 Q I1 q1
end
open PySem PySem.Spec PyProof.Rows
def SqL (K:PySem.W.Frag) (H:Hp) (a:Addr) (xs:List V):Prop :=
 Rd H a (.lst xs) ∨
  ∃(o:Obj) (its:Array Value) (n:Nat),K.lookup a=some o∧o.cls=.type "list"∧o.dict=none∧o.data=.seq its n∧its.size<=sizeLine∧Vals xs its.toList
def SqT (K:PySem.W.Frag) (H:Hp) (a:Addr) (xs:List V):Prop :=
 Rd H a (.tup xs) ∨
  ∃(o:Obj) (its:Array Value) (n:Nat),K.lookup a=some o∧o.cls=.type "tuple"∧o.data=.seq its n∧its.size<=sizeLine∧Vals xs its.toList
def At:Value->Option V
 |.none=>some .non
 |.bool b=>some (.bl b)
 |.int i _=>some (.int i)
 |.str x _=>some (.str x)
 |.bytes b _=>some (.byt b)
 |.float b _=>some (.flt b)
 |.ref a=>some (.ref a)
 |.type n=>some (.ty n)
 |_=>none
theorem RelV.abs {x:V} {u:Value} (r:RelV x u):At u=some x:=by
 cases x with
 |non=>cases r; rfl
 |bl _=>cases r; rfl
 |int _=>obtain ⟨t,rfl⟩:=r; rfl
 |str _=>obtain ⟨t,rfl⟩:=r; rfl
 |byt _=>obtain ⟨t,rfl⟩:=r; rfl
 |flt _=>obtain ⟨t,rfl⟩:=r; rfl
 |ref _=>cases r; rfl
 |ty _=>cases r; rfl
theorem RelV.inj {x y:V} {u:Value} (r:RelV x u) (q:RelV y u):x=y:=Option.some.inj (r.abs.symm.trans q.abs)
theorem Vals.inj:∀{xs ys:List V} {us:List Value},Vals xs us->Vals ys us->xs=ys
 |_,_,_,.nil,.nil=>rfl
 |_,_,_,.cons r t,.cons r' t'=>by rw[r.inj r',Vals.inj t t']
section
variable {X:Cx} {pins:List (Addr × Obj)} {σ:St} {H:Hp} {s:Shared} {a:Addr} {xs ys:List V}
theorem SqL.of {K:PySem.W.Frag} (h:H a=some (.lst xs)):SqL K H a xs:=.inl (.inl h)
theorem SqT.of {K:PySem.W.Frag} (h:H a=some (.tup xs)):SqT K H a xs:=.inl (.inl h)
theorem Inv.list (I:Inv X pins σ H s) (h:SqL X.K H a xs):∃its:List Value,Vals xs its∧PlainL s.heap a its.toArray∧xs.length<=sizeLine:=by
 rcases h with h|⟨o,its,n,hk,hc,hd,hs,hz,r⟩
 ·obtain ⟨z,its,n,r,e⟩:=h.ok I.hok
  exact ⟨its,r,⟨_,n,e,rfl,rfl,rfl⟩,z⟩
 ·refine ⟨its.toList,r,⟨o,n,I.kIn a o hk,hc,hd,by simpa using hs⟩,?_⟩
  have e:=r.length
  simp only[Array.length_toList]at e
  omega
theorem Inv.tuple (I:Inv X pins σ H s) (h:SqT X.K H a xs):∃its:List Value,Vals xs its∧IsTup s.heap a its.toArray∧xs.length<=sizeLine:=by
 rcases h with h|⟨o,its,n,hk,hc,hs,hz,r⟩
 ·obtain ⟨z,its,r,p⟩:=h.ok I.hok
  exact ⟨its,r,p,z⟩
 ·refine ⟨its.toList,r,⟨o,I.kIn a o hk,hc,n,by simpa using hs⟩,?_⟩
  have e:=r.length
  simp only[Array.length_toList]at e
  omega
theorem Inv.list_inj (I:Inv X pins σ H s) (h:SqL X.K H a xs) (h':SqL X.K H a ys):xs=ys:=by
 obtain ⟨its,r,⟨o,n,e,_,_,d⟩,_⟩:=I.list h
 obtain ⟨its',r',⟨o',n',e',_,_,d'⟩,_⟩:=I.list h'
 rw[e]at e'; cases e'
 rw[d]at d'
 injection d' with d1 _
 have:its=its':=by simpa using congrArg Array.toList d1
 subst this
 exact r.inj r'
end
abbrev Cx.wish (X:Cx) (E:Value->Shared->Prop):Cx:={ X with xe:=E }
abbrev Cx.nox (X:Cx):Cx:=X.wish fun _ _=>False
theorem Cx.Ok.wish {X:Cx} (ok:X.Ok) (E:Value->Shared->Prop):(X.wish E).Ok :=
 ⟨ok.mod,ok.kind,ok.glob,ok.blt,ok.above,ok.inj,ok.has,ok.cab,ok.hd,ok.frames,ok.stk,ok.exf,ok.bs,ok.bsz,ok.noex,ok.exfs,ok.funs,ok.frf⟩
theorem Cx.Ok.unwish {X:Cx} {E:Value->Shared->Prop} (ok:(X.wish E).Ok):X.Ok :=
 ⟨ok.mod,ok.kind,ok.glob,ok.blt,ok.above,ok.inj,ok.has,ok.cab,ok.hd,ok.frames,ok.stk,ok.exf,ok.bs,ok.bsz,ok.noex,ok.exfs,ok.funs,ok.frf⟩
section
variable {X:Cx} {pins:List (Addr × Obj)} {σ:St} {H:Hp} {s:Shared} {E:Value->Shared->Prop}
theorem Inv.wish (I:Inv X pins σ H s) (E:Value->Shared->Prop):Inv (X.wish E) pins σ H s:=⟨I.ok.wish E,I.os,I.bare,I.base,I.loc,I.cell,I.free,I.freeC,I.pin,I.hok,I.len⟩
theorem Inv.unwish (I:Inv (X.wish E) pins σ H s):Inv X pins σ H s:=⟨I.ok.unwish,I.os,I.bare,I.base,I.loc,I.cell,I.free,I.freeC,I.pin,I.hok,I.len⟩
theorem SP.unwish {D:Ends} {f:Flow} {s':Shared} (h:SP (X.wish E) pins D f s'):SP X pins D f s':=by
 cases f with
 |next=>obtain ⟨σ',H',I,q⟩:=h; exact ⟨σ',H',I.unwish,q⟩
 |brk=>obtain ⟨σ',H',I,q⟩:=h; exact ⟨σ',H',I.unwish,q⟩
 |cont=>obtain ⟨σ',H',I,q⟩:=h; exact ⟨σ',H',I.unwish,q⟩
 |ret u=>obtain ⟨v,σ',H',I,r,q⟩:=h; exact ⟨v,σ',H',I.unwish,r,q⟩
theorem PE.nox {e:Expr} {t:TE} (h:PE X.nox e t):PE X e t:=fun pins s σ H Q I hw =>
 wpAny_mono (h pins s σ H Q (I.wish _) hw) (fun _ _ ⟨v,H',I',r,q⟩=>⟨v,H',I'.unwish,r,q⟩) fun _ _ z=>False.elim z
theorem PT.nox {e:Expr} {t:TT} (h:PT X.nox e t):PT X e t:=fun pins s σ H Q I hw =>
 wpAny_mono (h pins s σ H Q (I.wish _) hw) (fun _ _ ⟨H',I',q⟩=>⟨H',I'.unwish,q⟩) fun _ _ z=>False.elim z
theorem PSs.nox {st:List Stmt} {t:TS} (h:PSs X.nox st t):PSs X st t:=fun pins s σ H D I hw =>
 wpAny_mono (h pins s σ H D (I.wish _) hw) (fun _ _ q=>q.unwish) fun _ _ z=>False.elim z
end
section
variable {X:Cx} {st:Stmt} {rest:List Stmt} {t u:TS} {e:Expr} {te:TE} {pos:Pos}
def Bd:TS:=fun D σ H=>D.nx σ H
def AT (t u:TS):TS:=fun D σ H=>t { D with nx:=u D } σ H
theorem Gz:PSs X [] Bd:=fun _ _ σ H _ I h=>wpAny_execs_nil ⟨σ,H,I,h⟩
theorem Iq (h1:PS X st t) (h2:PSs X rest u):PSs X (st::rest) (AT t u):=by
 intro pins s σ H D I h
 refine wpAny_execs_cons (thn (h1 pins s σ H { D with nx:=u D } I h) fun f s1 q=>?_)
 cases f with
 |next =>
  obtain ⟨σ',H',I',q⟩:=q
  exact h2 pins s1 σ' H' D I' q
 |ret v=>exact q
 |brk=>exact q
 |cont=>exact q
theorem GB (h1:PS X st t):PSs X [st] t:=by
 intro pins s σ H D I h
 refine wpAny_execs_cons (thn (h1 pins s σ H D I h) fun f s1 q=>?_)
 cases f with
 |next=>exact wpAny_execs_nil q
 |ret v=>exact q
 |brk=>exact q
 |cont=>exact q
theorem Inv.quiet {pins:List (Addr × Obj)} {σ:St} {H:Hp} {s:Shared} (I:Inv X pins σ H s):interactive X.env=false:=by simp[interactive,I.ok.kind]
def By (te:TE):TS:=fun D σ H=>te σ H fun _ H1=>D.nx σ H1
theorem F8 (he:PE X e te) (hs:swapsWith e none pos.line X.env=pure false:=by rfl):PS X (.Expr e pos) (By te):=by
 intro pins s σ H D I h
 exact wpAny_Expr_any (thn (he pins s σ H _ I h) fun v s1 ⟨x,H1,I1,r1,q1⟩=>⟨σ,H1,I1,q1⟩) I.quiet hs
def AU (te:TE):TS:=fun D σ H=>te σ H D.rt
theorem Cp (he:PE X e te):PS X (.Return (some e) pos) (AU te):=by
 intro pins s σ H D I h
 exact wpAny_Return_some (thn (he pins s σ H _ I h) fun v s1 ⟨x,H1,I1,r1,q1⟩=>⟨x,σ,H1,I1,r1,q1⟩)
def Bj (c:TT) (t u:TS):TS:=fun D σ H=>c σ H fun b H1=>if b=true then t D σ H1 else u D σ H1
theorem BJ {c:Expr} {a b:List Stmt} {tc:TT} (hc:PT X c tc) (ha:PSs X a t) (hb:PSs X b u):PS X (.If c a b pos) (Bj tc t u):=by
 intro pins s σ H D I h
 refine wpAny_If (thn (hc pins s σ H _ I h) fun d s1 ⟨H1,I1,q1⟩=>?_)
 cases d with
 |true=>exact ha pins s1 σ H1 D I1 q1
 |false=>exact hb pins s1 σ H1 D I1 q1
end
abbrev TG:=V->St->Hp->(St->Hp->Prop)->Prop
abbrev TGs:=List V->St->Hp->(St->Hp->Prop)->Prop
def PG (X:Cx) (target:Expr) (t:TG):Prop :=
 ∀(pins:List (Addr × Obj)) (s:Shared) (σ:St) (H:Hp) (v:V) (u:Value) (Q:St->Hp->Prop),Inv X pins σ H s->RelV v u->t v σ H Q ->
  wpAny (model X.prog X.w) X.A (assign target X.env u) (fun _ s'=>∃σ' H',Inv X pins σ' H' s'∧Q σ' H') X.xe s
def PGs (X:Cx) (ts:List Expr) (t:TGs):Prop :=
 ∀(pins:List (Addr × Obj)) (s:Shared) (σ:St) (H:Hp) (vs:List V) (us:List Value) (Q:St->Hp->Prop),Inv X pins σ H s->Vals vs us->t vs σ H Q ->
  wpAny (model X.prog X.w) X.A (assignInOrder ((assignEach ts X.env).map (·.2)) us) (fun _ s'=>∃σ' H',Inv X pins σ' H' s'∧Q σ' H') X.xe s
section
variable {X:Cx} {pos:Pos}
def LK (i:Nat):TG:=fun v σ H Q=>Q (σ.set i (some v)) H
theorem Yx {i:Nat} {x:Str} (hN:X.N.Nodup) (hi:X.N[i]?=some x) (hx:Loc X.env.scope x) (hf:X.fn x=true∨X.env.scope.names.lookup x=some .local:=by first|exact .inl rfl|exact .inr rfl|assumption):PG X (.Name x pos) (LK i):=by
 intro pins s σ H v u Q I r h
 exact wpAny_assign_Name (Rq I hN hi hx r (fun s' I'=>⟨_,H,I',h⟩) hf)
def B1:TGs:=fun vs σ H Q=>vs=[]∧Q σ H
def Ev (t:TG) (u:TGs):TGs:=fun vs σ H Q=>∃v r,vs=v::r∧t v σ H fun σ' H'=>u r σ' H' Q
theorem U6:PGs X [] B1:=by
 intro pins s σ H vs us Q I r h
 obtain ⟨e,h⟩:=h
 subst e
 cases r
 exact assignInOrder_nil ⟨σ,H,I,h⟩
theorem Xd {e:Expr} {es:List Expr} {t:TG} {u:TGs} (h1:PG X e t) (h2:PGs X es u)
    (hs:(assignEach (e::es) X.env).map (·.2)=assign e X.env::(assignEach es X.env).map (·.2):=by rfl):PGs X (e::es) (Ev t u):=by
 intro pins s σ H vs us Q I r h
 obtain ⟨v,vr,e1,h⟩:=h
 subst e1
 cases r with
 |cons r rr =>
  rw[hs]
  refine assignInOrder_cons (thn (h1 pins s σ H _ _ _ I r h) fun _ s1 ⟨σ1,H1,I1,q1⟩=>?_)
  exact h2 pins s1 σ1 H1 _ _ Q I1 rr q1
def Jg (K:PySem.W.Frag) (n:Nat) (t:TGs):TG:=fun v σ H Q=>∃a xs,v=.ref a∧SqT K H a xs∧xs.length=n∧t xs σ H Q
theorem RF {es:List Expr} {k:Nat} {t:TGs} {n:Nat} (hc:X.calm=true) (h:PGs X es t)
    (hn:(assignEach es X.env).length=n:=by rfl) (hst:(assignEach es X.env).findIdx? (·.1)=none:=by rfl):PG X (.Tuple es k pos) (Jg X.K n t):=by
 intro pins s σ H v u Q I r hw
 obtain ⟨a,xs,e1,hq,hl,hw⟩:=hw
 subst e1
 cases r
 obtain ⟨its,rv,ht,hz⟩:=I.tuple hq
 refine assign_Tuple_tuple (I.ok.hd hc) ht (by simp[hn,← hl,rv.length]) hst fun h' hx=>?_
 have I1:Inv X pins σ H { s with heap:=h' }:=I.kept (t':=s.toks) fun b o e=>hx b o (Nat.ne_of_lt (Heap.lt_size e)) e
 exact h pins _ σ H xs _ Q I1 (by simpa using rv) hw
def AH (te:TE) (g:TG):TS:=fun D σ H=>te σ H fun x H1=>g x σ H1 D.nx
theorem DL {i:Nat} {x:Str} {e:Expr} {te:TE} {pos':Pos} (hN:X.N.Nodup) (hi:X.N[i]?=some x) (hx:Loc X.env.scope x) (he:PE X e te) (hs:swapsWith e (some (.Name x pos')) pos.line X.env=pure false:=by rfl) (hf:X.fn x=true∨X.env.scope.names.lookup x=some .local:=by first|exact .inl rfl|exact .inr rfl|assumption) :
    PS X (.Assign [.Name x pos'] e pos) (AH te (LK i)):=by
 intro pins s σ H D I h
 refine wpAny_Assign_Name (thn (he pins s σ H _ I h) fun v s1 ⟨y,H1,I1,r1,q1⟩=>?_) hs
 exact Rq I1 hN hi hx r1 (fun s2 I2=>⟨_,H1,I2,q1⟩) hf
end
section
variable {X:Cx} {pos:Pos}
def CS (c:TT) (tb:TS):TS:=fun D σ H=>∃W:Nat->St->Hp->Prop,(∃m,W m σ H)∧∀m σ H,W m σ H ->
 c σ H fun b H1=>if b=true then ∃N:St->Hp->Prop,(∀σ' H',N σ' H'->∃m',m' < m∧W m' σ' H')∧tb { D with nx:=N,ct:=N,bk:=D.nx } σ H1 else D.nx σ H1
theorem Ga {c:Expr} {body:List Stmt} {tc:TT} {tb:TS} (hp:PassesOwn (model X.prog X.w) X.A X.env X.xe) (hc:PT X c tc) (hb:PSs X body tb):PS X (.While c body [] pos) (CS tc tb):=by
 intro pins s σ H D I h
 obtain ⟨W,⟨m0,w0⟩,turn⟩:=h
 refine wpAny_While (codeAny_whileLoop (fun n s'=>∃σ' H',Inv X pins σ' H' s'∧W n σ' H') ?_ m0 ⟨σ,H,I,w0⟩)
 rintro n s1 ⟨σ1,H1,I1,w1⟩
 refine wpAny_passesOwn hp (thn (hc pins s1 σ1 H1 _ I1 (turn n σ1 H1 w1)) fun b s2 ⟨H2,I2,q2⟩=>?_)
 cases b with
 |true =>
  obtain ⟨N,hN,q2⟩:=q2
  rw[if_pos rfl]
  refine wpAny_passesOwn hp (thn (hb pins s2 σ1 H2 _ I2 q2) fun f s3 q3=>?_)
  cases f with
  |next =>
   obtain ⟨σ3,H3,I3,n3⟩:=q3
   obtain ⟨m',hm,w3⟩:=hN σ3 H3 n3
   exact ⟨m',hm,σ3,H3,I3,w3⟩
  |cont =>
   obtain ⟨σ3,H3,I3,n3⟩:=q3
   obtain ⟨m',hm,w3⟩:=hN σ3 H3 n3
   exact ⟨m',hm,σ3,H3,I3,w3⟩
  |brk=>exact q3
  |ret v=>exact q3
 |false =>
  rw[if_neg Bool.false_ne_true]
  exact wpAny_execs_nil ⟨σ1,H2,I2,q2⟩
end
structure It where
 go:Nat->Hp->Prop
 yld:Nat->Hp->V->Hp->Prop
 stop:Nat->Hp->Prop
def Sz (X:Cx) (pins:List (Addr × Obj)) (H:Hp) (b:Addr):Prop :=
 H b=none∧b≠X.env.locals∧b ∉ X.fs∧(b∈X.ex∨X.s₀.heap.objs.size<=b)∧(∀x c,X.env.cells.lookup x=some c->c≠b)∧∀p∈X.pn++pins,p.1≠b
theorem Inv.fpOk {X:Cx} {pins:List (Addr × Obj)} {σ:St} {H H':Hp} {s:Shared} {b:Addr} (I:Inv X pins σ H s) (hb:s.heap.objs.size<=b) (hn:H' b=none):Sz X pins H' b:=by
 refine ⟨hn,Nat.ne_of_gt (Nat.lt_of_lt_of_le I.lt hb),I.nofs hb,.inr (Nat.le_trans I.sz hb),fun x c e z=>?_,fun p hp z=>?_⟩
 ·obtain ⟨v,q⟩:=I.cell x c e
  exact absurd (Nat.lt_of_lt_of_le q.lt (by rw[z]; exact hb)) (Nat.lt_irrefl _)
 ·exact absurd (Nat.lt_of_lt_of_le (Heap.lt_size (I.pin p hp).1) (by rw[z]; exact hb)) (Nat.lt_irrefl _)
structure Turn (P:Program) (w:World) (K:PySem.W.Frag) (tg:Expr) (J:It) (fp:List Addr) (it:Addr) (tn:Nat->Heap->Prop):Prop where
 mem:it∈fp
 obj:∀i h,tn i h->∀b∈fp,∃o,h.get? b=some o∧∀v,o.data≠.cell v
 keep:∀i h h',tn i h->(∀b∈fp,∀o,h.get? b=some o->h'.get? b=some o)->tn i h'
 item:∀(X:Cx),X.prog=P->X.w=w->X.K=K->X.calm=true->∀(i:Nat) (pins:List (Addr × Obj)) (s:Shared) (σ:St) (H:Hp) (E:Value->Shared->Prop),Inv X pins σ H s->(∀b∈fp,Sz X pins H b)->tn i s.heap->J.go i H ->
  wpAny (model P w) X.A (pyNext (.ref it)) (fun r s1=>∃u,r=some u ∧
   wpAny (model P w) X.A (letOwnedTupleGo tg (.ref it) u) (fun _ s2=>∃x H',Inv X pins σ H' s2∧RelV x u∧J.yld i H x H'∧tn (i+1) s2.heap∧∀b∈fp,H' b=none) E s1) E s
 done:∀(X:Cx),X.prog=P->X.w=w->X.K=K->X.calm=true->∀(i:Nat) (pins:List (Addr × Obj)) (s:Shared) (σ:St) (H:Hp) (E:Value->Shared->Prop),Inv X pins σ H s->(∀b∈fp,Sz X pins H b)->tn i s.heap->J.stop i H ->
  wpAny (model P w) X.A (pyNext (.ref it)) (fun r s1=>r=none∧Inv X pins σ H s1) E s
 self:∀(A:Around) (i:Nat) (s:Shared) (Q:Value->Shared->Prop) (E:Value->Shared->Prop),tn i s.heap->Q (.ref it) s->wpAny (model P w) A (pyIter (.ref it)) Q E s
abbrev TI:=St->Hp->(It->Hp->Prop)->Prop
def PIE (X:Cx) (pins:List (Addr × Obj)) (σ:St) (tg:Expr) (R:It->Hp->Prop) (itv:Value) (s2:Shared):Prop :=
 ∃(it:Addr) (fp:List Addr) (tn:Nat->Heap->Prop) (J:It) (H':Hp),itv=.ref it∧Inv X pins σ H' s2∧Turn X.prog X.w X.K tg J fp it tn∧tn 0 s2.heap∧(∀b∈fp,Sz X pins H' b)∧R J H'
def PI (X:Cx) (tg iter:Expr) (wi:TI):Prop :=
 ∀(pins:List (Addr × Obj)) (s:Shared) (σ:St) (H:Hp) (R:It->Hp->Prop),Inv X pins σ H s->wi σ H R ->
  wpAny (model X.prog X.w) X.A (eval iter X.env) (fun v s1=>wpAny (model X.prog X.w) X.A (pyIter v) (PIE X pins σ tg R) X.xe s1) X.xe s
theorem HY {M:Model} {A:Around} {E:Value->Shared->Prop} {s:Shared} {tg:Expr} {it:Addr} {u:Value} {o:Obj} {n:String} {vs:Array Value} {Q:Unit->Shared->Prop} (ho:s.heap.get? it=some o) (hc:o.cls=.type n) (hd:o.data=.fields vs)
    (hn:["enumerate","zip","dict_itemiterator","dict_reverseitemiterator","odict_iterator","itertools.zip_longest","itertools.pairwise"].contains n=false) (hQ:Q () s):wpAny M A (letOwnedTupleGo tg (.ref it) u) Q E s:=by
 unfold letOwnedTupleGo
 cases tg <;> first
  |exact wpAny_pure hQ
  | (cases u <;> first
      |exact wpAny_pure hQ
      | (refine wpAny_bind (wpAny_load ho ?_)
         rw[hc,hd]
         show wpAny M A (if (["enumerate","zip","dict_itemiterator","dict_reverseitemiterator","odict_iterator","itertools.zip_longest","itertools.pairwise"].contains n&&vs[0]? == some (rawInt _))=true then _ else _) Q E s
         rw[if_neg (by intro h; rw[hn,Bool.false_and]at h; cases h)]
         exact wpAny_pure hQ))
def Itl (K:PySem.W.Frag) (a:Addr):It :=
 ⟨fun i H=>∃xs x,SqL K H a xs∧xs[i]?=some x,fun i H x H'=>H'=H∧∀xs,SqL K H a xs->xs[i]?=some x,fun i H=>∃xs,SqL K H a xs∧xs.length<=i⟩
def Itr (lo:Int) (n:Nat):It:=⟨fun i _=>i < n,fun i H x H'=>H'=H∧x=.int (lo+i),fun i _=>n<=i⟩
theorem KB {P:Program} {w:World} {K:PySem.W.Frag} {tg:Expr} (a it:Addr):Turn P w K tg (Itl K a) [it] it (fun i h=>h.IsListIter it a i) where
 mem:=by simp
 obj:=fun i h st b hb=>by
  have e:b=it:=by simpa using hb
  subst e
  obtain ⟨o,e,c,d⟩:=st
  exact ⟨o,e,fun v z=>by rw[d]at z; cases z⟩
 keep:=fun i h h' st k=>st.at fun o e=>k it (by simp) o e
 item:=by
  intro X hP hw hK hc i pins s σ H E I hf st hg
  subst hP hw hK
  obtain ⟨xs,x,hq,hx⟩:=hg
  obtain ⟨its,rv,p,hz⟩:=I.list hq
  obtain ⟨u,hu,ru⟩:=rv.get hx
  obtain ⟨f0,f1,f2,f3,f4,f5⟩:=hf it (by simp)
  refine wpAny_pyNext_list_item st p.isList (x:=u) (by simpa using hu) fun h' st' sb=>?_
  have I1:Inv X pins σ H { s with heap:=h' }:=I.turned (t':=s.toks) (fun b o hb e=>(sb.2 b hb).trans e) f0 f1 f3 f4 f5
  obtain ⟨o,e,c,d⟩:=id st'
  exact ⟨u,rfl,HY (s:={ s with heap:=h' }) e c d (by decide) ⟨x,H,I1,ru,⟨rfl,fun ys hy=>by rw[I.list_inj hy hq]; exact hx⟩,st',fun b hb=>(hf b hb).1⟩⟩
 done:=by
  intro X hP hw hK hc i pins s σ H E I hf st hg
  subst hP hw hK
  obtain ⟨xs,hq,hx⟩:=hg
  obtain ⟨its,rv,p,hz⟩:=I.list hq
  obtain ⟨f0,f1,f2,f3,f4,f5⟩:=hf it (by simp)
  have hl:=rv.length
  exact wpAny_pyNext_list_end (I.ok.hd hc) st p.isList (by simp; omega) fun h' eb=>⟨rfl,I.turned (t':=s.toks) (fun b o hb e=>eb b o hb e) f0 f1 f3 f4 f5⟩
 self:=fun _ _ _ _ _ st h=>wpAny_pyIter_listiter st h
theorem Mr {P:Program} {w:World} {K:PySem.W.Frag} {tg:Expr} (it:Addr) (lo:Int) (n:Nat):Turn P w K tg (Itr lo n) [it] it (fun i h=>IsRangeIter h it (lo+(i:Nat) * 1) ((n:Int) - (i:Nat)) 1) where
 mem:=by simp
 obj:=fun i h st b hb=>by
  have e:b=it:=by simpa using hb
  subst e
  exact ⟨_,st,fun v z=>by
   have z':Data.fields _=Data.cell v:=z
   cases z'⟩
 keep:=fun i h h' st k=>k it (by simp) _ st
 item:=by
  intro X hP hw hK hc i pins s σ H E I hf st hg
  subst hP hw hK
  obtain ⟨f0,f1,f2,f3,f4,f5⟩:=hf it (by simp)
  have W:=Walks.range (prog:=X.prog) (w:=X.w) (I.ok.hd hc) it lo 1 n
  refine W.item i s _ _ hg st fun v h' tk hv st' kk=>?_
  obtain ⟨t,rfl⟩:=hv
  have I1:Inv X pins σ H { s with heap:=h',toks:=tk }:=I.turned (fun b o hb e=>kk b o (by simpa using hb) e) f0 f1 f3 f4 f5
  refine ⟨_,rfl,HY (s:={ s with heap:=h',toks:=tk }) (n:="range_iterator") st' rfl rfl (by decide) ⟨.int (lo+i),H,I1,⟨t,?_⟩,⟨rfl,rfl⟩,st',fun b hb=>(hf b hb).1⟩⟩
  rw[Int.mul_one]
 done:=by
  intro X hP hw hK hc i pins s σ H E I hf st hg
  subst hP hw hK
  obtain ⟨f0,f1,f2,f3,f4,f5⟩:=hf it (by simp)
  exact wpAny_pyNext_range_end (I.ok.hd hc) st (by have:n<=i:=hg; omega) fun h' eb=>⟨rfl,I.turned (t':=s.toks) (fun b o hb e=>eb b o hb e) f0 f1 f3 f4 f5⟩
 self:=fun _ _ _ _ _ st h=>wpAny_pyIter_rangeiter st h
open PySem PySem.Spec PyProof.Rows
section
variable {X:Cx} {tg:Expr}
def BI (K:PySem.W.Frag) (tl:TE):TI:=fun σ H R=>tl σ H fun x H1=>∃a,x=.ref a∧(∃xs,SqL K H1 a xs)∧R (Itl K a) H1
theorem Fq {l:Expr} {tl:TE} (hl:PE X l tl):PI X tg l (BI X.K tl):=by
 intro pins s σ H R I h
 refine thn (hl pins s σ H _ I h) fun v s1 ⟨x,H1,I1,r1,q1⟩=>?_
 obtain ⟨a,e,⟨xs,hq⟩,q⟩:=q1
 subst e
 cases r1
 obtain ⟨its,rv,p,hz⟩:=I1.list hq
 refine wpAny_pyIter_list p.isList ?_
 refine ⟨s1.heap.objs.size,[s1.heap.objs.size],_,_,H1,rfl,I1.kept (t':=s1.toks) fun b o e=>Heap.get?_push_of_some _ e,KB a _,⟨_,Heap.get?_push_size _ rfl,rfl,rfl⟩,fun b hb=>?_,q⟩
 have e:b=s1.heap.objs.size:=by simpa using hb
 subst e
 exact I1.fpOk (Nat.le_refl _) (I1.hok.fresh (Nat.le_refl _))
theorem IM {pins:List (Addr × Obj)} {σ:St} {H:Hp} {s:Shared} {R:It->Hp->Prop} {E:Value->Shared->Prop} {lo hi:Int} {t u v:Tok} {tk:Nat} (I:Inv X pins σ H s) (h1:-(2 ^ 62)<=lo) (h2:lo < 2 ^ 62) (h3:-(2 ^ 62)<=hi) (h4:hi < 2 ^ 62)
    (q:R (Itr lo (hi - lo).toNat) H):wpAny (model X.prog X.w) X.A (pyIter (.ref s.heap.objs.size)) (PIE X pins σ tg R) E { s with heap:=s.heap.push { cls:=.type "range",data:=.fields #[.int lo t,.int hi u,.int 1 v] },toks:=tk }:=by
 refine wpAny_pyIter_range (IsRange.new ..) (small_one h1 h2 h3 h4) ?_
 have I1:Inv X pins σ H { s with heap:=s.heap.push { cls:=.type "range",data:=.fields #[.int lo t,.int hi u,.int 1 v] },toks:=tk }:=I.kept fun b o e=>Heap.get?_push_of_some _ e
 refine ⟨(s.heap.push { cls:=.type "range",data:=.fields #[.int lo t,.int hi u,.int 1 v] }).objs.size,[(s.heap.push { cls:=.type "range",data:=.fields #[.int lo t,.int hi u,.int 1 v] }).objs.size],_,_,H,rfl,
  I1.kept (t':=tk) fun b o e=>Heap.get?_push_of_some _ e,Mr _ lo (hi - lo).toNat,?_,fun b hb=>?_,q⟩
 ·have e1:lo+((0:Nat):Int) * 1=lo:=by simp
  have e2:(((hi - lo).toNat:Nat):Int) - ((0:Nat):Int)=Builtin.Range.rangeSize lo hi 1:=by rw[rangeSize_one]; split <;> omega
  show IsRangeIter _ _ (lo+((0:Nat):Int) * 1) ((((hi - lo).toNat:Nat):Int) - ((0:Nat):Int)) 1
  rw[e1,e2]
  exact Heap.get?_push_size _ rfl
 ·have e:b=(s.heap.push { cls:=.type "range",data:=.fields #[.int lo t,.int hi u,.int 1 v] }).objs.size:=by simpa using hb
  subst e
  exact I1.fpOk (Nat.le_refl _) (I1.hok.fresh (Nat.le_refl _))
def Bh (ta:TA):TI:=fun σ H R=>ta σ H fun vs H1=>∃j:Int,vs=[.int j]∧-(2 ^ 62)<=j∧j < 2 ^ 62∧R (Itr 0 j.toNat) H1
theorem JE {a:Expr} {ta:TA} {p pos:Pos} (hg:Gl X "range") (hm:X.mg "range"=none) (ha:PA X [a] ta) (hs:starEach [a] X.env=[(false,eval a X.env)]:=by rfl):PI X tg (.Call (.Name "range" p) [a] [] pos) (Bh ta):=by
 intro pins s σ H R I h
 refine Call_ (MX I hg hm boot_range (PyProof.Rows.callWith_type1 (thn (ha pos pins s σ H _ I h) fun us s1 ⟨vs,H1,I1,r1,q1⟩=>?_) hs rfl))
 obtain ⟨j,e,q1,q2,q⟩:=q1
 subst e
 cases r1 with
 |cons r rr =>
  cases rr
  obtain ⟨t,rfl⟩:=r
  exact call_range_1 (IM I1 (by omega) (by omega) q1 q2 (by simpa using q))
def AG (wi:TI) (g:TG) (tb:TS):TS:=fun D σ H=>wi σ H fun J H1=>∃W:Nat->Nat->St->Hp->Prop,(∃m,W 0 m σ H1)∧∀i m σ H,W i m σ H ->
 (J.stop i H∧D.nx σ H)∨(J.go i H∧∃N:St->Hp->Prop,(∀σ' H',N σ' H'->∃m',m' < m∧W (i+1) m' σ' H')∧∀x H',J.yld i H x H'->g x σ H' fun σ2 H2=>tb { D with nx:=N,ct:=N,bk:=D.nx } σ2 H2)
def W4 (fp:List Addr) (h:Heap):List (Addr × Obj):=fp.filterMap fun b=>(h.get? b).map fun o=>(b,o)
theorem XF {fp:List Addr} {h:Heap} {b:Addr} {o:Obj} (hb:b∈fp) (e:h.get? b=some o):(b,o)∈W4 fp h:=List.mem_filterMap.mpr ⟨b,hb,by rw[e]; rfl⟩
theorem K1 {fp:List Addr} {h:Heap} {p:Addr × Obj} (hp:p∈W4 fp h):p.1∈fp∧h.get? p.1=some p.2:=by
 obtain ⟨b,hb,e⟩:=List.mem_filterMap.mp hp
 cases q:h.get? b with
 |none=>rw[q]at e; cases e
 |some o =>
  rw[q]at e
  have e':(b,o)=p:=Option.some.inj e
  subst e'
  exact ⟨hb,q⟩
theorem Inv.pinned {pins:List (Addr × Obj)} {σ:St} {H:Hp} {s:Shared} {fp:List Addr} (I:Inv X pins σ H s) (hf:∀b∈fp,Sz X pins H b) (ho:∀b∈fp,∃o,s.heap.get? b=some o∧∀v,o.data≠.cell v):Inv X (pins++W4 fp s.heap) σ H s :=
 I.pins_of fun p hp=>(List.mem_append.mp hp).elim (fun z=>I.pin p (List.mem_append_right _ z)) fun z=>by
  obtain ⟨hb,e⟩:=K1 z
  obtain ⟨f0,f1,f2,_⟩:=hf p.1 hb
  obtain ⟨o,e',d⟩:=ho p.1 hb
  rw[e]at e'; cases e'
  exact ⟨e,f0,f1,f2,d⟩
theorem Inv.unpinned {pins pl:List (Addr × Obj)} {σ:St} {H:Hp} {s:Shared} (I:Inv X (pins++pl) σ H s):Inv X pins σ H s:=I.pins_of fun p hp=>I.pin p (List.mem_append_right _ (List.mem_append_left _ hp))
theorem JS {iter:Expr} {body:List Stmt} {wi:TI} {g:TG} {tb:TS} {pos:Pos} (hp:PassesOwn (model X.prog X.w) X.A X.env X.xe) (hc:X.calm=true) (hi:PI X tg iter wi) (hg:PG X tg g) (hb:PSs X body tb)
    (hs:∀x,foldedSetIterable iter X.env x=pure x:=by intro _; rfl):PS X (.For tg iter body [] pos) (AG wi g tb):=by
 intro pins s σ H D I h
 refine wpAny_For (thn (hi pins s σ H _ I h) fun v s1 h1=>thn h1 fun itv s2 h2=>?_) hs
 obtain ⟨it,fp,tn,J,H2,e,I2,T,st2,f2,W,⟨m0,w0⟩,turn⟩:=h2
 subst e
 have stat:∀{H':Hp},(∀b∈fp,H' b=none)->∀b∈fp,Sz X pins H' b:=fun hn b hb=>⟨hn b hb,(f2 b hb).2⟩
 refine codeAny_forLoop_any (fun n s'=>∃i σ' H',Inv X pins σ' H' s'∧tn i s'.heap∧(∀b∈fp,H' b=none)∧W i n σ' H') ?_ m0 ⟨0,σ,H2,I2,st2,fun b hb=>(f2 b hb).1,w0⟩
 rintro n s3 ⟨i,σ3,H3,I3,st3,fr3,w3⟩
 rcases turn i n σ3 H3 w3 with ⟨stop,qn⟩|⟨go,N,hN,step⟩
 ·refine wpAny_passesOwn hp (thn (T.done X rfl rfl rfl hc i pins s3 σ3 H3 X.xe I3 (stat fr3) st3 stop) fun r s4 ⟨hr,I4⟩=>?_)
  subst hr
  exact wpAny_execs_nil ⟨σ3,H3,I4,qn⟩
 ·refine wpAny_passesOwn hp (thn (T.item X rfl rfl rfl hc i pins s3 σ3 H3 X.xe I3 (stat fr3) st3 go) fun r s4 ⟨u,hr,h4⟩=>?_)
  subst hr
  refine wpAny_passesOwn hp (thn h4 fun _ s5 ⟨x,H5,I5,r5,y5,st5,fr5⟩=>?_)
  have I5':=I5.pinned (stat fr5) (T.obj _ _ st5)
  refine wpAny_passesOwn hp (thn (hg _ s5 σ3 H5 x u _ I5' r5 (step x H5 y5)) fun _ s6 ⟨σ6,H6,I6,q6⟩=>?_)
  refine wpAny_passesOwn hp (thn (hb _ s6 σ6 H6 _ I6 q6) fun f s7 q7=>?_)
  have again:∀{σ7:St} {H7:Hp},Inv X (pins++W4 fp s5.heap) σ7 H7 s7->N σ7 H7->∃m,m < n∧∃i σ' H',Inv X pins σ' H' s7∧tn i s7.heap∧(∀b∈fp,H' b=none)∧W i m σ' H':=fun {σ7 H7} I7 n7=>by
   obtain ⟨m',hm,w7⟩:=hN σ7 H7 n7
   refine ⟨m',hm,i+1,σ7,H7,I7.unpinned,T.keep _ _ _ st5 fun b hb o e=>(I7.pin (b,o) (List.mem_append_right _ (List.mem_append_right _ (XF hb e)))).1,fun b hb=>?_,w7⟩
   obtain ⟨o,e,d⟩:=T.obj _ _ st5 b hb
   exact (I7.pin (b,o) (List.mem_append_right _ (List.mem_append_right _ (XF hb e)))).2.1
  cases f with
  |next=>obtain ⟨σ7,H7,I7,n7⟩:=q7; exact again I7 n7
  |cont=>obtain ⟨σ7,H7,I7,n7⟩:=q7; exact again I7 n7
  |brk=>obtain ⟨σ7,H7,I7,q7⟩:=q7; exact ⟨σ7,H7,I7.unpinned,q7⟩
  |ret v=>obtain ⟨x7,σ7,H7,I7,r7,q7⟩:=q7; exact ⟨x7,σ7,H7,I7.unpinned,r7,q7⟩
end
open PySem PySem.Spec PyProof.Rows
abbrev R2:=V->V->Hp->VK->Prop
def OpR (X:Cx) (f:Value->Value->Sem Value) (r:R2):Prop :=
 ∀(pins:List (Addr × Obj)) (s:Shared) (σ:St) (H:Hp) (x y:V) (v u:Value) (Q:VK),Inv X pins σ H s->RelV x v->RelV y u->r x y H Q ->
  wpAny (model X.prog X.w) X.A (f v u) (EP X pins σ Q) X.xe s
def CallR (X:Cx) (f:Value) (r:List V->Hp->VK->Prop):Prop :=
 ∀(pins:List (Addr × Obj)) (s:Shared) (σ:St) (H:Hp) (xs:List V) (us:List Value) (Q:VK),Inv X pins σ H s->Vals xs us->r xs H Q ->
  wpAny (model X.prog X.w) X.A (call f us) (EP X pins σ Q) X.xe s
def AD (X:Cx) (r:V->Hp->(Bool->Hp->Prop)->Prop):Prop :=
 ∀(pins:List (Addr × Obj)) (s:Shared) (σ:St) (H:Hp) (x:V) (v:Value) (Q:Bool->Hp->Prop),Inv X pins σ H s->RelV x v->r x H Q ->
  wpAny (model X.prog X.w) X.A (truthy v) (TP X pins σ Q) X.xe s
def tOp (r:R2) (ta tb:TE):TE:=fun σ H Q=>ta σ H fun x H1=>tb σ H1 fun y H2=>r x y H2 Q
def rI (C:Int->Int->Prop) (g:Int->Int->V):R2:=fun x y H Q=>∃i j,x=.int i∧y=.int j∧C i j∧Q (g i j) H
def rI0 (g:Int->Int->V):R2:=fun x y H Q=>∃i j,x=.int i∧y=.int j∧Q (g i j) H
section
variable {X:Cx} {a b c:Expr} {ta tb tc:TE} {pos:Pos}
theorem DR (ha:PE X a ta) (hb:PE X b tb) {pins:List (Addr × Obj)} {s:Shared} {σ:St} {H:Hp} {R:V->V->Hp->Prop} (I:Inv X pins σ H s)
    (h:ta σ H fun x H1=>tb σ H1 fun y H2=>R x y H2) {Q:Value->Shared->Prop} {f:Value->Value->Sem Value}
    (hf:∀v u s2 x y H2,Inv X pins σ H2 s2->RelV x v->RelV y u->R x y H2->wpAny (model X.prog X.w) X.A (f v u) Q X.xe s2) :
    wpAny (model X.prog X.w) X.A (eval a X.env) (fun v s₁=>wpAny (model X.prog X.w) X.A (eval b X.env) (fun u s₂=>wpAny (model X.prog X.w) X.A (f v u) Q X.xe s₂) X.xe s₁) X.xe s:=by
 refine thn (ha pins s σ H _ I h) fun v s1 ⟨x,H1,I1,r1,q1⟩=>?_
 refine thn (hb pins s1 σ H1 _ I1 q1) fun u s2 ⟨y,H2,I2,r2,q2⟩=>?_
 exact hf v u s2 x y H2 I2 r1 r2 q2
theorem Eu {op:Operator} {r:R2} (ho:OpR X (binaryOp op) r) (ha:PE X a ta) (hb:PE X b tb):PE X (.BinOp a op b pos) (tOp r ta tb):=by
 intro pins s σ H Q I h
 exact wpAny_BinOp (DR ha hb I h fun v u s2 x y H2 I2 rx ry q=>ho pins s2 σ H2 x y v u Q I2 rx ry q)
theorem opI {f:Value->Value->Sem Value} {C:Int->Int->Prop} {g:Int->Int->Int}
    (rule:∀(i j:Int) (t u:Tok) (s:Shared) (Q:Value->Shared->Prop) (E:Value->Shared->Prop),C i j->Q (.int (g i j) s.toks) { s with toks:=s.toks+1 }->wpAny (model X.prog X.w) X.A (f (.int i t) (.int j u)) Q E s) :
    OpR X f (rI C fun i j=>.int (g i j)):=by
 intro pins s σ H x y v u Q I rx ry h
 obtain ⟨i,j,rfl,rfl,hc,q⟩:=h
 obtain ⟨t,rfl⟩:=rx
 obtain ⟨t',rfl⟩:=ry
 exact rule i j t t' s _ _ hc ⟨.int (g i j),H,I.tok _,⟨_,rfl⟩,q⟩
theorem BU {f:Value->Value->Sem Value} {g:Int->Int->Int}
    (rule:∀(i j:Int) (t u:Tok) (s:Shared) (Q:Value->Shared->Prop) (E:Value->Shared->Prop),Q (.int (g i j) s.toks) { s with toks:=s.toks+1 }->wpAny (model X.prog X.w) X.A (f (.int i t) (.int j u)) Q E s) :
    OpR X f (rI0 fun i j=>.int (g i j)):=by
 intro pins s σ H x y v u Q I rx ry h
 obtain ⟨i,j,rfl,rfl,q⟩:=h
 obtain ⟨t,rfl⟩:=rx
 obtain ⟨t',rfl⟩:=ry
 exact rule i j t t' s _ _ ⟨.int (g i j),H,I.tok _,⟨_,rfl⟩,q⟩
theorem Ca {f:Value->Value->Sem Value} {g:Int->Int->Bool}
    (rule:∀(i j:Int) (t u:Tok) (s:Shared) (Q:Value->Shared->Prop) (E:Value->Shared->Prop),Q (.bool (g i j)) s->wpAny (model X.prog X.w) X.A (f (.int i t) (.int j u)) Q E s) :
    OpR X f (rI0 fun i j=>.bl (g i j)):=by
 intro pins s σ H x y v u Q I rx ry h
 obtain ⟨i,j,rfl,rfl,q⟩:=h
 obtain ⟨t,rfl⟩:=rx
 obtain ⟨t',rfl⟩:=ry
 exact rule i j t t' s _ _ ⟨.bl (g i j),H,I,rfl,q⟩
def AI (i j:Int):Prop:=0 < j∧j < 1073741824
def CMul (i j:Int):Prop:=(-(2 ^ 64) < i∧i < 2 ^ 64)∨(-(2 ^ 64) < j∧j < 2 ^ 64)
theorem CMul.ok {i j:Int} (h:CMul i j):IntMulOk i j:=by
 rcases h with ⟨h1,h2⟩|⟨h1,h2⟩
 ·exact .of_left (intBits_le_64 h1 h2)
 ·exact .of_right (intBits_le_64 h1 h2)
theorem Cy:OpR X (binaryOp .Add) (rI0 fun i j=>.int (i+j)):=BU fun _ _ _ _ _ _ _ q=>add_int q
theorem D3:OpR X (binaryOp .Sub) (rI0 fun i j=>.int (i - j)):=BU fun _ _ _ _ _ _ _ q=>sub_int q
theorem Dk:OpR X (binaryOp .Mult) (rI CMul fun i j=>.int (i * j)):=opI fun _ _ _ _ _ _ _ hc q=>mul_int q hc.ok
theorem Ec:OpR X (binaryOp .FloorDiv) (rI AI fun i j=>.int (i / j)):=opI fun i j _ _ _ _ _ hc q=>by
 have h1:(0:Int) < j:=hc.1
 have h2:j < 1073741824:=hc.2
 exact floordiv_int (by omega) (by rw[Int.fdiv_eq_ediv_of_nonneg i (by omega)]; exact q) (.inl (PyProof.noPylong_small (by omega)))
theorem DQ:OpR X (binaryOp .Mod) (rI (fun _ j=>0 < j) fun i j=>.int (i % j)):=opI fun i j _ _ _ _ _ hc q=>by
 have h1:(0:Int) < j:=hc
 exact mod_int' (by omega) (by rw[Int.fmod_eq_emod_of_nonneg i (by omega)]; exact q)
end
section
variable {X:Cx} {a b c:Expr} {ta tb tc:TE} {pos:Pos}
theorem Ex:OpR X (compareOp .Lt) (rI0 fun i j=>.bl (decide (i < j))):=Ca fun _ _ _ _ _ _ _ q=>lt_int q
theorem E4:OpR X (compareOp .Gt) (rI0 fun i j=>.bl (decide (j < i))):=Ca fun _ _ _ _ _ _ _ q=>gt_int q
theorem EJ:OpR X (compareOp .GtE) (rI0 fun i j=>.bl (decide (j<=i))):=Ca fun _ _ _ _ _ _ _ q=>ge_int q
theorem WG (b:Expr) {op:CmpOp} (h:op≠.In:=by decide) (h2:op≠.NotIn:=by decide):behindInMarks op b=false:=by
 have e1:(op == CmpOp.In)=false:=by cases op <;> first|rfl|exact absurd rfl h
 have e2:(op == CmpOp.NotIn)=false:=by cases op <;> first|rfl|exact absurd rfl h2
 cases b <;> simp[behindInMarks,e1,e2]
theorem Fm {op:CmpOp} {r:R2} (ho:OpR X (compareOp op) r) (ha:PE X a ta) (hb:PE X b tb) (hm:behindInMarks op b=false):PE X (.Compare a [op] [b] pos) (tOp r ta tb):=by
 intro pins s σ H Q I h
 exact wpAny_Compare1 (DR ha hb I h fun v u s2 x y H2 I2 rx ry q=>ho pins s2 σ H2 x y v u Q I2 rx ry q) hm
def C4 (t:TE):TT:=fun σ H Q=>t σ H fun x H'=>∃k,x=.bl k∧Q k H'
theorem Fs {op:CmpOp} {r:R2} (ho:OpR X (compareOp op) r) (ha:PE X a ta) (hb:PE X b tb) (hm:behindInMarks op b=false):PT X (.Compare a [op] [b] pos) (C4 (tOp r ta tb)):=by
 intro pins s σ H Q I h
 refine wpAny_isTrue_Compare1 (thn (ha pins s σ H _ I h) fun v s1 ⟨x,H1,I1,r1,q1⟩=>thn (hb pins s1 σ H1 _ I1 q1) fun u s2 ⟨y,H2,I2,r2,q2⟩ =>
  thn (ho pins s2 σ H2 x y v u _ I2 r1 r2 q2) fun c s3 ⟨z,H3,I3,r3,k,e,q3⟩=>?_) hm
 subst e
 cases r3
 exact wpAny_truthy_bool ⟨H3,I3,q3⟩
def Cd (K:PySem.W.Frag) (x:V) (H:Hp) (k:Bool):Prop :=
 match x with
 |.non=>k=false
 |.bl b=>k=b
 |.int i=>k=(i != 0)
 |.str y=>y.length<=sizeLine∧k=((y.length:Int) != 0)
 |.byt y=>y.size<=sizeLine∧k=((y.size:Int) != 0)
 |.ref p=>(∃xs,SqL K H p xs∧k=!xs.isEmpty)∨(∃xs,SqT K H p xs∧k=!xs.isEmpty)∨∃kvs,H p=some (.dK kvs)∧k=!kvs.isEmpty
 |_=>False
theorem Mo {κ:Type} {kvs:List (κ × V)} {vs:List (κ × Value)} (r:KV kvs vs):(!vs.isEmpty)=!kvs.isEmpty:=by
 cases r <;> rfl
theorem RL {xs:List V} {its:List Value} (r:Vals xs its):(!its.toArray.isEmpty)=!xs.isEmpty:=by
 cases r <;> simp
theorem Ro:(sizeLine:Nat) < 2 ^ 63:=by rw[sizeLine_eq]; decide
theorem DT:AD X (fun x H Q=>∃k,Cd X.K x H k∧Q k H):=by
 intro pins s σ H x v Q I rx h
 obtain ⟨k,e,q⟩:=h
 have hl:=Ro
 have hs:sizeLine=16777216:=sizeLine_eq
 cases x with
 |non =>
  cases rx
  have e':k=false:=e
  subst e'
  exact truthy_none ⟨H,I,q⟩
 |bl b =>
  cases rx
  have e':k=b:=e
  subst e'
  exact wpAny_truthy_bool ⟨H,I,q⟩
 |int i =>
  obtain ⟨t,rfl⟩:=rx
  have e':k=(i != 0):=e
  subst e'
  exact PySem.P.truthy_int ⟨H,I,q⟩
 |str y =>
  obtain ⟨t,rfl⟩:=rx
  obtain ⟨hy,e'⟩:y.length<=sizeLine∧k=((y.length:Int) != 0):=e
  subst e'
  exact PySem.P.truthy_str (by omega) ⟨H,I.tok _,q⟩
 |byt y =>
  obtain ⟨t,rfl⟩:=rx
  obtain ⟨hy,e'⟩:y.size<=sizeLine∧k=((y.size:Int) != 0):=e
  subst e'
  exact PySem.W.truthy_bytes (by omega) ⟨H,I.tok _,q⟩
 |ref p =>
  cases rx
  have e':(∃xs,SqL X.K H p xs∧k=!xs.isEmpty)∨(∃xs,SqT X.K H p xs∧k=!xs.isEmpty)∨∃kvs,H p=some (.dK kvs)∧k=!kvs.isEmpty:=e
  rcases e' with ⟨xs,hx,e'⟩|⟨xs,hx,e'⟩|⟨kvs,hx,e'⟩
  ·subst e'
   obtain ⟨its,r,pl,hz⟩:=I.list hx
   have hlen:=r.length
   exact wpAny_truthy_list pl.isList (by simp only[List.size_toArray]; omega) ⟨H,I.tok _,by rw[RL r]; exact q⟩
  ·subst e'
   obtain ⟨its,r,pl,hz⟩:=I.tuple hx
   have hlen:=r.length
   exact truthy_tuple pl (by simp only[List.size_toArray]; omega) ⟨H,I.tok _,by rw[RL r]; exact q⟩
  ·subst e'
   obtain ⟨hz,hS,vs,r,m⟩:kvs.length<=sizeLine∧(p == sysModules)=false∧∃vs,KV kvs vs∧s.heap.DictOf (ZM X.prog X.w) p vs:=I.hok p _ hx
   have hlen:kvs.length=vs.length:=Paired.length r
   exact wpAny_truthy_dict hS m (by omega) ⟨H,I.tok _,by rw[Mo r]; exact q⟩
 |_=>exact (show False from e).elim
theorem HL (ha:PE X a ta) (he:∀whole,isTrue a X.env whole=(do let v ← whole; standAt a.pos; holding [v] (truthy v))) :
    PT X a (fun σ H Q=>ta σ H fun x H'=>∃k,Cd X.K x H' k∧Q k H'):=by
 intro pins s σ H Q I h
 exact isTrue_plain (thn (ha pins s σ H _ I h) fun v s1 ⟨x,H1,I1,r1,q1⟩=>DT pins s1 σ H1 x v Q I1 r1 q1) (he _)
theorem V1 {x:V} {us:List Value} (r:Vals [x] us):∃u,us=[u]∧RelV x u:=by
 cases r with
 |cons r1 r2=>cases r2; exact ⟨_,rfl,r1⟩
theorem Bb {x y:V} {us:List Value} (r:Vals [x,y] us):∃u w',us=[u,w']∧RelV x u∧RelV y w':=by
 cases r with
 |cons r1 r2 =>
  cases r2 with
  |cons r3 r4=>cases r4; exact ⟨_,_,rfl,r1,r3⟩
theorem Kz (hc:X.calm=true):CallR X (.builtin "min") (fun xs H Q=>∃i j,xs=[.int i,.int j]∧Q (.int (if j < i then j else i)) H):=by
 intro pins s σ H xs us Q I r h
 obtain ⟨i,j,rfl,q⟩:=h
 obtain ⟨u,w',rfl,⟨t,rfl⟩,⟨t',rfl⟩⟩:=Bb r
 refine min_two_ints (I.ok.hd hc) fun h' tk k=>⟨_,H,I.kept k,?_,q⟩
 by_cases hj:j < i
 ·rw[if_pos hj,if_pos hj]; exact ⟨_,rfl⟩
 ·rw[if_neg hj,if_neg hj]; exact ⟨_,rfl⟩
theorem JF:CallR X (.type "int") (fun xs H Q=>(∃i,xs=[.int i]∧Q (.int i) H)∨∃k,xs=[.bl k]∧Q (.int (if k then 1 else 0)) H):=by
 intro pins s σ H xs us Q I r h
 rcases h with ⟨i,rfl,q⟩|⟨k,rfl,q⟩
 ·obtain ⟨u,rfl,t,rfl⟩:=V1 r
  exact call_int_int ⟨.int i,H,I,⟨_,rfl⟩,q⟩
 ·obtain ⟨u,rfl,r1⟩:=V1 r
  cases r1
  exact call_int_bool ⟨.int (if k then 1 else 0),H,I.tok _,⟨_,rfl⟩,q⟩
end
open PySem PySem.Spec PyProof.Rows
structure ObjM (h:Heap) (x dx C:Addr) (mA:Str->Option Value):Prop where
 obj:h.get? x=some (PySem.W.instObj C dx)
 ns:h.Ns1 dx mA
 ne:dx≠x
theorem Je {h:Heap} {dx:Addr} {mA:Str->Option Value} (n:h.Ns1 dx mA):∃od,h.get? dx=some od∧∀name,PySem.W.lookIn name od=some (mA name):=by
 obtain ⟨o,es,ep,ho,hd,hk,_,hm⟩:=n
 refine ⟨o,ho,fun name=>?_⟩
 have e:=hm name
 unfold nsFind findBy at e
 rw[← Array.find?_toList]at e
 unfold PySem.W.lookIn
 rw[hd]
 dsimp only
 split
 ·rename_i y q
  rw[q]at e
  exact congrArg some e
 ·rename_i q
  rw[q]at e
  have a:es.toList.any (·.refKey)=false:=by
   rw[List.any_eq_false]
   intro y hy
   obtain ⟨z,t,hkey⟩:=hk y (Array.mem_toList_iff.mp hy)
   simp[DictEntry.refKey,hkey]
  have a':¬ es.toList.any (·.refKey)=true:=by rw[a]; exact Bool.false_ne_true
  rw[if_neg a']
  exact congrArg some e
theorem ObjM.look {h:Heap} {x dx C:Addr} {mA:Str->Option Value} (I:ObjM h x dx C mA):∃od,PySem.W.InstAt h x (PySem.W.instObj C dx) C (some od)∧∀name,PySem.W.lookIn name od=some (mA name) :=
 let ⟨od,ho,hl⟩:=Je I.ns
 ⟨od,⟨I.obj,rfl,rfl,ho⟩,hl⟩
section
variable {prog:Program} {w:World} {A:Around} {E:Value->Shared->Prop} {s:Shared} {K:PySem.W.Frag} {x dx C f:Addr} {mA:Str->Option Value} {name:Str} {v:Value}
theorem Gw {expr:Bool} {Q:Value->Shared->Prop} (X:K.In s.heap) (I:ObjM s.heap x dx C mA) (hg:PySem.W.plainGet K C name=true) (hh:PySem.W.hasDictIn K C=true)
    (ha:PySem.W.findIn K (.ref C) name=some none) (hv:mA name=some v) (hv':PySem.W.handedIn v=true) (h:Q v { s with toks:=s.toks+1 }) :
    wpAny (model prog w) A (getAttr (.ref x) name expr) Q E s:=by
 obtain ⟨od,J,hl⟩:=I.look
 exact PySem.W.get_value X J (PySem.W.plainGet_of hg).1 (PySem.W.findObj_own hh ha rfl (by rw[hl,hv])) hv' h
theorem Ho {pl:Sem Bool} {Q:Value × List Value->Shared->Prop} (X:K.In s.heap) (I:ObjM s.heap x dx C mA) (hg:PySem.W.plainGet K C name=true)
    (hf:PySem.W.findIn K (.ref C) name=some (some (.ref f))) (ht:PySem.W.isFn K (.ref f)=true) (hv:mA name=none) (h:Q (.ref f,[.ref x]) s) :
    wpAny (model prog w) A (getMethod (.ref x) name pl) Q E s:=by
 obtain ⟨od,J,hl⟩:=I.look
 exact PySem.W.method_fn X J (PySem.W.plainGet_of hg).1 (PySem.W.plainGet_of hg).2 hf (beq_iff_eq.mp ht) (by show (PySem.W.lookIn name od).map (·.isSome)=some false; rw[hl,hv]; rfl) h
theorem GF {ns:List Str} {Q:Unit->Shared->Prop} (X:K.In s.heap) (I:ObjM s.heap x dx C mA)
    (hs:PySem.W.findIn K (.ref C) "__setattr__"=some (some (.builtin "object.__setattr__"))) (hp:PySem.W.plainOver K C=true) (ht:PySem.W.takerIn K C name=some none) (hh:PySem.W.hasDictIn K C=true)
    (hw:PySem.Within mA ns) (hsz:ns.length<=sizeLine)
    (h:∀h',ObjM h' x dx C (fun y=>if y=name then some v else mA y)->Heap.SameBut dx s.heap h'->Q () { s with heap:=h',toks:=s.toks+2 }) :
    wpAny (model prog w) A (setAttr (.ref x) name v) Q E s:=by
 obtain ⟨od,J,hl⟩:=I.look
 refine PySem.W.set_plain X J hs (PySem.W.osa_open (s:={ s with toks:=s.toks+1 }) (r:=none) X J hp ht fun b=>?_)
 obtain ⟨cd,hc,hd'⟩:=PySem.W.any_some hh
 have hx:s.heap.get? x=some ⟨.ref C,some dx,.plain,#[]⟩:=I.obj
 refine wpAny_bind (wpAny_pure (wpAny_bind (wpAny_bind (wpAny_loadPart hx (wpAny_bind (PySem.W.Looks.here (s:={ s with toks:=s.toks+1 }) (PySem.W.looks_clsIn X hc) ?_))))))
 rw[hd']
 refine wpAny_pure (a:=some dx) (wpAny_bind (wpAny_pure (wpAny_bind ?_)))
 refine wpAny_nsSet1 (s:={ s with toks:=s.toks+1 }) I.ns fun h' hn2 hs2=>?_
 obtain ⟨oD,esD,epD,hoD,hdD,hcD⟩:=hn2.count (PySem.Within.cons name v hw)
 refine wpAny_bind (wpAny_lookBehind hoD (by rw[hdD]; exact pastItsLine_dict (Nat.le_trans hcD (by rw[List.length_cons]; omega))) ?_)
 exact wpAny_pure (h _ ⟨(hs2.2 _ (Ne.symm I.ne)).trans I.obj,hn2,I.ne⟩ hs2)
theorem J7 {R:Result->Shared->Prop} {vs:List Value} {kw:List (Str × Value)} (X:K.In s.heap) (hm:PySem.W.makesIn K C=true)
    (hi:PySem.W.findIn K (.ref C) "__init__"=some (some (.ref f))) (hf:PySem.W.typeIn K (.ref f)=some (.type "function"))
    (h:codeAny (model prog w) (A.under (.builtin "type.__call__" ⟨.ref C::vs,kw⟩)) (.call (.ref f) ⟨.ref (s.heap.objs.size+1)::vs,kw⟩) (PySem.W.InitBack (s.heap.objs.size+1) R)
     { s with heap:=(s.heap.push PySem.W.emptyDict).push (PySem.W.instObj C s.heap.objs.size) }) :
    codeAny (model prog w) A (.call (.ref C) ⟨vs,kw⟩) R s:=by
 obtain ⟨hh,g,d,t,os⟩:=s
 exact PySem.W.make_core (PySem.W.makes_of X hm) (PySem.W.looks_findIn X hi) (fun self=>PySem.W.bind_fn X self hf) (.inl rfl) h
end
def putF (f:Str) (v:V):List (Str × V)->List (Str × V)
 |[]=>[(f,v)]
 |(g,x)::r=>if g=f then (g,v)::r else (g,x)::putF f v r
theorem Sh (f g:Str) (v:V):∀fs:List (Str × V),(putF f v fs).lookup g=if g=f then some v else fs.lookup g
 |[]=>by
  show List.lookup g [(f,v)]=_
  by_cases h:g=f
  ·have hb:(g == f)=true:=beq_iff_eq.mpr h
   simp only[List.lookup,hb,if_pos h]
  ·have hb:(g == f)=false:=beq_eq_false_iff_ne.mpr h
   simp only[List.lookup,hb,if_neg h]
 |(k,x)::r=>by
  have ih:=Sh f g v r
  rw[show putF f v ((k,x)::r)=(if k=f then (k,v)::r else (k,x)::putF f v r) from rfl]
  by_cases hk:k=f
  ·rw[if_pos hk]
   by_cases h:g=k
   ·have hb:(g == k)=true:=beq_iff_eq.mpr h
    simp only[List.lookup,hb,if_pos (h.trans hk)]
   ·have hb:(g == k)=false:=beq_eq_false_iff_ne.mpr h
    simp only[List.lookup,hb,if_neg (fun e:g=f=>h (e.trans hk.symm))]
  ·rw[if_neg hk]
   by_cases h:g=k
   ·have hb:(g == k)=true:=beq_iff_eq.mpr h
    simp only[List.lookup,hb,if_neg (fun e:g=f=>hk (h.symm.trans e))]
   ·have hb:(g == k)=false:=beq_eq_false_iff_ne.mpr h
    simp only[List.lookup,hb]
    exact ih
theorem Tw (f:Str) (v:V):∀fs:List (Str × V),f∈(putF f v fs).map (·.1)∧∀g,g∈fs.map (·.1)->g∈(putF f v fs).map (·.1)
 |[]=>⟨by simp[putF],fun g h=>by simp at h⟩
 |(k,x)::r=>by
  obtain ⟨i1,i2⟩:=Tw f v r
  rw[show putF f v ((k,x)::r)=(if k=f then (k,v)::r else (k,x)::putF f v r) from rfl]
  by_cases hk:k=f
  ·rw[if_pos hk]
   subst hk
   exact ⟨by simp,fun g h=>by simpa using h⟩
  ·rw[if_neg hk]
   refine ⟨?_,fun g h=>?_⟩
   ·rw[List.map_cons]
    exact List.mem_cons_of_mem _ i1
   ·rw[List.map_cons]at h ⊢
    rcases List.mem_cons.mp h with e|e
    ·exact List.mem_cons.mpr (.inl e)
    ·exact List.mem_cons_of_mem _ (i2 g e)
theorem T9 (f:Str) (v:V):∀fs:List (Str × V),(putF f v fs).length<=fs.length+1
 |[]=>by simp[putF]
 |(k,x)::r=>by
  have ih:=T9 f v r
  rw[show putF f v ((k,x)::r)=(if k=f then (k,v)::r else (k,x)::putF f v r) from rfl]
  by_cases hk:k=f
  ·rw[if_pos hk,List.length_cons,List.length_cons]; omega
  ·rw[if_neg hk,List.length_cons,List.length_cons]; omega
theorem RelO.some_of {v:V} {o:Option Value} (r:RelO (some v) o):∃u,o=some u∧RelV v u:=by
 cases o with
 |none=>exact (show False from r).elim
 |some u=>exact ⟨u,rfl,r⟩
theorem RelO.none_of {o:Option Value} (r:RelO none o):o=none:=by
 cases o with
 |none=>rfl
 |some u=>exact (show False from r).elim
theorem Ja {v:V} {u:Value} (r:RelV v u):PySem.W.handedIn u=true:=by
 cases v with
 |non=>cases (show u=Value.none from r); rfl
 |bl b=>cases (show u=Value.bool b from r); rfl
 |int i=>obtain ⟨t,e⟩:=(show ∃t,u=Value.int i t from r); cases e; rfl
 |str x=>obtain ⟨t,e⟩:=(show ∃t,u=Value.str x t from r); cases e; rfl
 |byt b=>obtain ⟨t,e⟩:=(show ∃t,u=Value.bytes b t from r); cases e; rfl
 |flt b=>obtain ⟨t,e⟩:=(show ∃t,u=Value.float b t from r); cases e; rfl
 |ref a=>cases (show u=Value.ref a from r); rfl
 |ty n=>cases (show u=Value.type n from r); rfl
section
variable {P:Program} {w:World} {H H':Hp} {h h':Heap} {a C dx:Addr} {fs fs':List (Str × V)}
theorem ON (hok:HOk P w H h) (e:H a=some (.ins C dx fs)):∃mA,ObjM h a dx C mA∧(∀f,RelO (fs.lookup f) (mA f))∧PySem.Within mA (fs.map (·.1))∧fs.length<=1000∧H dx=some (.own a):=by
 obtain ⟨d,z,ne,ob,mA,n,r,q⟩:=(show ObjOk P w H h a (.ins C dx fs) from hok a _ e)
 exact ⟨mA,⟨ob,n,ne⟩,r,q,z,d⟩
end
structure Cls (K:PySem.W.Frag) (C:Addr):Prop where
 pg:PySem.W.plainGet K C Str.empty=true
 hd:PySem.W.hasDictIn K C=true
 po:PySem.W.plainOver K C=true
 sa:PySem.W.findIn K (.ref C) "__setattr__"=some (some (.builtin "object.__setattr__"))
theorem Cls.get {K:PySem.W.Frag} {C:Addr} (c:Cls K C) (f:Str):PySem.W.plainGet K C f=true:=c.pg
def NoAttr (K:PySem.W.Frag) (C:Addr) (f:Str):Prop:=PySem.W.findIn K (.ref C) f=some none
theorem NoAttr.taker {K:PySem.W.Frag} {C:Addr} {f:Str} (n:NoAttr K C f):PySem.W.takerIn K C f=some none:=by
 unfold PySem.W.takerIn
 rw[show PySem.W.findIn K (.ref C) f=some none from n]
 rfl
structure Meth (K:PySem.W.Frag) (C:Addr) (m:Str) (f:Addr):Prop where
 at_:PySem.W.findIn K (.ref C) m=some (some (.ref f))
 fn:PySem.W.isFn K (.ref f)=true
 kp:PySem.W.keepIn K (.ref f)=true
section
variable {X:Cx} {pins:List (Addr × Obj)} {σ:St} {H:Hp} {s:Shared} {a C dx:Addr} {fs:List (Str × V)} {f:Str} {v:V} {A:Around} {E:Value->Shared->Prop}
theorem M8 {b:Bool} {Q:Value->Shared->Prop} (I:Inv X pins σ H s) (e:H a=some (.ins C dx fs)) (c:Cls X.K C) (n:NoAttr X.K C f) (l:fs.lookup f=some v)
    (h:∀u s',Inv X pins σ H s'->RelV v u->Q u s'):wpAny (model X.prog X.w) A (getAttr (.ref a) f b) Q E s:=by
 obtain ⟨mA,O,r,_,_,_⟩:=ON I.hok e
 obtain ⟨u,hu,ru⟩:=RelO.some_of (v:=v) (o:=mA f) (by rw[← l]; exact r f)
 exact Gw I.kIn O (c.get f) c.hd n hu (Ja ru) (h u _ (I.tok _) ru)
theorem S3 {m:Str} {g:Addr} {pl:Sem Bool} {Q:Value × List Value->Shared->Prop} (I:Inv X pins σ H s) (e:H a=some (.ins C dx fs)) (c:Cls X.K C) (k:Meth X.K C m g) (l:fs.lookup m=none)
    (h:Q (.ref g,[.ref a]) s):wpAny (model X.prog X.w) A (getMethod (.ref a) m pl) Q E s:=by
 obtain ⟨mA,O,r,_,_,_⟩:=ON I.hok e
 have hn:mA m=none:=RelO.none_of (by rw[← l]; exact r m)
 exact Ho I.kIn O (c.get m) k.at_ k.fn hn h
theorem M7 {y:V} {u:Value} {Q:Unit->Shared->Prop} (I:Inv X pins σ H s) (e:H a=some (.ins C dx fs)) (c:Cls X.K C) (n:NoAttr X.K C f) (hl:fs.length < 1000) (ry:RelV y u)
    (h:∀s',Inv X pins σ (upd H a (.ins C dx (putF f y fs))) s'->Q () s'):wpAny (model X.prog X.w) A (setAttr (.ref a) f u) Q E s:=by
 obtain ⟨mA,O,r,wi,_,ho⟩:=ON I.hok e
 have hz:(fs.map (·.1)).length<=sizeLine:=by rw[List.length_map,sizeLine_eq]; omega
 refine GF I.kIn O c.sa c.po n.taker c.hd wi hz fun h' O' sb=>h _ ?_
 have hd:∃o,h'.get? dx=some o:=let ⟨o,_,_,e',_⟩:=O'.ns; ⟨o,e'⟩
 refine I.write (x:=a) (e:=dx) (by rw[e]; exact True.intro) (.inr ho) (fun b q hb z=>(sb.2 b hb).trans z) hd ?_
 refine ⟨by rw[Zr O.ne]; exact ho,?_,O.ne,O'.obj,_,O'.ns,fun g=>?_,fun g hg=>?_⟩
 ·have:=T9 f y fs; omega
 ·show RelO ((putF f y fs).lookup g) (if g=f then some u else mA g)
  rw[Sh]
  by_cases q:g=f
  ·rw[if_pos q,if_pos q]; exact ry
  ·rw[if_neg q,if_neg q]; exact r g
 ·by_cases q:g=f
  ·rw[q]; exact (Tw f y fs).1
  ·refine (Tw f y fs).2 g (wi g fun z=>hg ?_)
   show (if g=f then some u else mA g)=none
   rw[if_neg q]; exact z
theorem Inv.made (I:Inv X pins σ H s):Inv X pins σ (upd (upd H s.heap.objs.size (.own (s.heap.objs.size+1))) (s.heap.objs.size+1) (.ins C s.heap.objs.size []))
    { s with heap:=(s.heap.push PySem.W.emptyDict).push (PySem.W.instObj C s.heap.objs.size) }:=by
 have e1:(s.heap.push PySem.W.emptyDict).get? s.heap.objs.size=some PySem.W.emptyDict:=Heap.get?_push_size s.heap rfl
 have e2:((s.heap.push PySem.W.emptyDict).push (PySem.W.instObj C s.heap.objs.size)).get? (s.heap.objs.size+1)=some (PySem.W.instObj C s.heap.objs.size):=by
  have:=Heap.get?_push_size (s.heap.push PySem.W.emptyDict) (o:=PySem.W.instObj C s.heap.objs.size) rfl
  rwa [Heap.size_push]at this
 have e3:(s.heap.push PySem.W.emptyDict).Ns s.heap.objs.size (fun _=>none):=⟨PySem.W.emptyDict,#[],_,e1,rfl,(fun e he=>absurd he (by simp)),fun _=>rfl⟩
 have I1:=I.laid (a:=s.heap.objs.size) (o:=.own (s.heap.objs.size+1)) (h':=s.heap.push PySem.W.emptyDict) (t':=s.toks) (fun b u q=>Heap.get?_push_of_some _ q) (Nat.le_refl _) ⟨_,e1⟩
 refine I1.laid (a:=s.heap.objs.size+1) (o:=.ins C s.heap.objs.size []) (t':=s.toks) (fun b u q=>Heap.get?_push_of_some _ q) (Nat.le_of_eq (Heap.size_push _ _)) ?_
 have ne:s.heap.objs.size≠s.heap.objs.size+1:=Nat.ne_of_lt (Nat.lt_succ_self _)
 refine ⟨by rw[Zr ne,Zu],Nat.zero_le _,ne,e2,fun _=>none,(Heap.Ns1.of_empty e3).at fun o q=>Heap.get?_push_of_some _ q,fun _=>True.intro,fun y hy=>absurd rfl hy⟩
theorem Fg {prog:Program} {w:World} {env:Env} {e:Expr} {f:Str} {pos:Pos} {s:Shared} {Q:Value->Shared->Prop} (hb:attributeBase e f env (eval e env)=eval e env)
    (h:wpAny (model prog w) A (eval e env) (fun o s₁=>wpAny (model prog w) A (getAttr o f true) Q E s₁) E s):wpAny (model prog w) A (eval (.Attribute e f pos) env) Q E s :=
 Attribute_any_ h (by rw[arm_eval_Attribute,hb])
end
def AN (K:PySem.W.Frag) (ta:TE) (f:Str):TE:=fun σ H Q=>ta σ H fun x H1=>∃a C dx fs v,x=.ref a∧H1 a=some (.ins C dx fs)∧Cls K C∧NoAttr K C f∧fs.lookup f=some v∧Q v H1
def AK (K:PySem.W.Frag) (ta tv:TE) (f:Str):TS:=fun D σ H=>tv σ H fun y H1=>ta σ H1 fun x H2=>∃a C dx fs,x=.ref a∧H2 a=some (.ins C dx fs)∧Cls K C∧NoAttr K C f∧fs.length < 1000 ∧
 D.nx σ (upd H2 a (.ins C dx (putF f y fs)))
section
variable {X:Cx} {o e value:Expr} {f:Str} {pos pos' tpos:Pos} {ta tv:TE}
theorem DS (he:PE X e ta) (hb:attributeBase e f X.env (eval e X.env)=eval e X.env):PE X (.Attribute e f pos) (AN X.K ta f):=by
 intro pins s σ H Q I h
 refine Fg hb (thn (he pins s σ H _ I h) fun u s1 ⟨x,H1,I1,rx,a,C,dx,fs,v,ex,ea,c,n,l,q⟩=>?_)
 subst ex
 obtain rfl:u=Value.ref a:=rx
 exact M8 I1 ea c n l fun u' s2 I2 ru=>⟨v,H1,I2,ru,q⟩
theorem D1 (ha:PE X o ta) (hv:PE X value tv) (hs:swapsWith value (some (.Attribute o f pos')) pos.line X.env=pure false):PS X (.Assign [.Attribute o f pos'] value pos) (AK X.K ta tv f):=by
 intro pins s σ H D I h
 refine plainObj_wpAny_Assign_Attribute (thn (hv pins s σ H _ I h) fun u s1 ⟨y,H1,I1,ry,q⟩=>thn (ha pins s1 σ H1 _ I1 q) fun ov s2 ⟨x,H2,I2,rx,a,C,dx,fs,ex,ea,c,n,l,q2⟩=>?_) hs
 subst ex
 obtain rfl:ov=Value.ref a:=rx
 exact M7 I2 ea c n l ry fun s3 I3=>⟨σ,_,I3,q2⟩
end
section
variable {X:Cx} {pins:List (Addr × Obj)} {σ:St} {H:Hp} {s:Shared} {A:Around} {E:Value->Shared->Prop} {Q:Value->Shared->Prop} {c:Value} {b:Bool}
end
open PySem PySem.Spec PyProof.Rows
structure Room (k:Nat) (A:Around):Prop where
 hd:A.handled=none
 dp:A.depth+3 * k+5 < recursionLimit
 un:A.units+16 * k+200 < cLine
theorem Room.mono {j k:Nat} {A:Around} (r:Room k A) (h:j<=k):Room j A:=⟨r.hd,by have:=r.dp; omega,by have:=r.un; omega⟩
theorem Room.deeper {k:Nat} {A:Around} (r:Room (k+1) A) (env:Env):Room k (A.deeper env) :=
 ⟨r.hd,by have:=r.dp; show A.depth+1+3 * k+5 < _; omega,by have:=r.un; show A.units+3+16 * k+200 < _; omega⟩
theorem MD {A:Around} {C:Addr} {us:List Value} {kw:List (Str × Value)}:(A.under (.builtin "type.__call__" ⟨.ref C::us,kw⟩)).depth=A.depth+1:=by
 first|rfl|simp[Around.under,Code.weight,Code.isCreation,Code.isGuard,Code.isCaller,Code.frames,Code.isFrame,guardIds]
theorem Mn {A:Around} {C:Addr} {us:List Value} {kw:List (Str × Value)}:(A.under (.builtin "type.__call__" ⟨.ref C::us,kw⟩)).units=A.units+1:=by
 first|rfl|simp[Around.under,Code.cUnits,Code.frames,Code.isFrame]
theorem Room.make {k:Nat} {A:Around} (r:Room (k+1) A) (C:Addr) (us:List Value) (kw:List (Str × Value)):Room k (A.under (.builtin "type.__call__" ⟨.ref C::us,kw⟩)) :=
 ⟨r.hd,by have:=r.dp; rw[MD]; omega,by have:=r.un; rw[Mn]; omega⟩
theorem Room.depth {k:Nat} {A:Around} (r:Room k A):A.depth < recursionLimit:=by have:=r.dp; omega
theorem Room.units {k:Nat} {A:Around} (r:Room k A):A.units+64 < cLine:=by have:=r.un; omega
def Cj:TA:=fun _ H Q=>Q [] H
def BQ (ta:TE) (tr:TA):TA:=fun σ H Q=>ta σ H fun x H1=>tr σ H1 fun xs H2=>Q (x::xs) H2
section
variable {X:Cx} {e:Expr} {es:List Expr} {te:TE} {t:TA} {pos:Pos}
theorem Vo:PA X [] Cj:=fun _ _ _ _ H Q I h=>Calls.spliced_nil ⟨[],H,I,.nil,h⟩
theorem WB (ha:PE X e te) (hr:PA X es t) (hs:starEach (e::es) X.env=(false,eval e X.env)::starEach es X.env:=by rfl):PA X (e::es) (BQ te t):=by
 intro pos pins s σ H Q I h
 rw[hs]
 show wpAny _ _ (spliced ((false,eval e X.env)::backTo pos (starEach es X.env))) _ _ s
 refine Calls.spliced_cons (thn (ha pins s σ H _ I h) fun u s1 ⟨x,H1,I1,r1,q1⟩=>?_)
 exact thn (hr pos pins s1 σ H1 _ I1 q1) fun us s2 ⟨xs,H2,I2,r2,q2⟩=>⟨x::xs,H2,I2,.cons r1 r2,q2⟩
def Au (t:TA):TE:=fun σ H Q=>t σ H fun xs H1=>xs.length<=sizeLine∧∀p,H1 p=none->Q (.ref p) (upd H1 p (.tup xs))
def AM (t:TA):TE:=fun σ H Q=>t σ H fun xs H1=>xs.length<=sizeLine∧∀p,H1 p=none->Q (.ref p) (upd H1 p (.lst xs))
theorem Cv {x1} (h:PA X es t):PE X (.Tuple es x1 pos) (Au t):=by
 intro pins s σ H Q I hq
 refine wpAny_Tuple_spliced (thn (h pos pins s σ H _ I hq) fun us s1 ⟨xs,H1,I1,r,z,q⟩=>⟨by rw[← r.length]; exact z,?_⟩)
 have hf:H1 s1.heap.objs.size=none:=I1.hok.fresh (Nat.le_refl _)
 refine ⟨.ref s1.heap.objs.size,upd H1 s1.heap.objs.size (.tup xs),I1.laid (t':=s1.toks) (fun b u e=>Heap.get?_push_of_some _ e) (Nat.le_refl _) ?_,rfl,q _ hf⟩
 exact ⟨z,us,r,⟨_,Heap.get?_push_size _ rfl,rfl,_,rfl⟩⟩
theorem Gb (h:PA X es t):PE X (.List es pos) (AM t):=by
 intro pins s σ H Q I hq
 refine wpAny_List_spliced (thn (h pos pins s σ H _ I hq) fun us s1 ⟨xs,H1,I1,r,z,q⟩=>⟨by rw[← r.length]; exact z,?_⟩)
 have hf:H1 s1.heap.objs.size=none:=I1.hok.fresh (Nat.le_refl _)
 refine ⟨.ref s1.heap.objs.size,upd H1 s1.heap.objs.size (.lst xs),I1.laid (t':=s1.toks) (fun b u e=>Heap.get?_push_of_some _ e) (Nat.le_refl _) ?_,rfl,q _ hf⟩
 exact ⟨z,us,0,r,Heap.get?_push_size _ rfl⟩
end
abbrev Sp:=List V->Hp->VK->XK->Prop
abbrev CXT:=List Env->Hp->Shared->XK->Value->Shared->Prop
structure Env0 (P:Program) (w:World) (K:PySem.W.Frag) (mg:Str->Option Value) (base:Heap) (A:Around) (outer:List Env) (s:Shared) (H:Hp):Prop where
 frames:A.frames=some outer
 mod:Mod K mg base
 bs:∀b o,base.get? b=some o->s.heap.get? b=some o∧H b=none
 bsz:base.objs.size<=s.heap.objs.size
 funs:s.heap.FunFrames base outer
 frf:∀b∈frs outer,H b=none
 hok:HOk P w H s.heap
 bare:AllBare s.gens
def CE (outer:List Env) (P:Program) (w:World) (H:Hp) (s:Shared) (Q:VK) (u:Value) (s':Shared):Prop :=
 ∃v H',s'.os=s.os∧AllBare s'.gens∧Un (frs outer) [] H H' s.heap s'.heap∧HOk P w H' s'.heap∧RelV v u∧Q v H'
def CR (CX:CXT) (outer:List Env) (P:Program) (w:World) (H:Hp) (s:Shared) (Q:VK) (E:XK) (r:Result) (s':Shared):Prop :=
 match r with
 |.ok (.ret u)=>CE outer P w H s Q u s'
 |.ok _=>False
 |.error e=>CX outer H s E e s'
structure FnOk (P:Program) (w:World) (K:PySem.W.Frag) (mg:Str->Option Value) (base:Heap) (CX:CXT) (k:Nat) (f:Addr) (fd:FuncData) (ps:List Str) (sp:Sp):Prop where
 len:∀vs H Q E,sp vs H Q E->vs.length=ps.length
 run:∀(A:Around) (outer:List Env) (s:Shared) (H:Hp) (args:Args) (us:List Value) (vs:List V) (Q:VK) (E:XK),Room k A->Env0 P w K mg base A outer s H->BindsTo s fd args (ps.zip us)->Vals vs us->sp vs H Q E ->
  codeAny (model P w) A (.call (.ref f) args) (CR CX outer P w H s Q E) s
theorem FnOk.imp {P:Program} {w:World} {K:PySem.W.Frag} {mg:Str->Option Value} {base:Heap} {CX:CXT} {k:Nat} {f:Addr} {fd:FuncData} {ps:List Str} {sp sp':Sp} (F:FnOk P w K mg base CX k f fd ps sp)
    (h:∀vs H Q E,sp' vs H Q E->sp vs H Q E):FnOk P w K mg base CX k f fd ps sp' :=
 ⟨fun vs H Q E q=>F.len vs H Q E (h _ _ _ _ q),fun A outer s H args us vs Q E hr he hb hv hs=>F.run A outer s H args us vs Q E hr he hb hv (h _ _ _ _ hs)⟩
theorem Env0.make {P:Program} {w:World} {K:PySem.W.Frag} {mg:Str->Option Value} {base:Heap} {A:Around} {outer:List Env} {s:Shared} {H:Hp} (e:Env0 P w K mg base A outer s H) (C:Addr) (us:List Value) (kw:List (Str × Value)) :
    Env0 P w K mg base (A.under (.builtin "type.__call__" ⟨.ref C::us,kw⟩)) outer s H:=⟨by first|exact e.frames|(simpa [Around.under,Code.envs,Code.isFrame,pushEnvs] using e.frames),e.mod,e.bs,e.bsz,e.funs,e.frf,e.hok,e.bare⟩
section
variable {X:Cx} {pins:List (Addr × Obj)} {σ:St} {H:Hp} {s s':Shared}
theorem Inv.env0 (I:Inv X pins σ H s):Env0 X.prog X.w X.K X.mg X.base X.A X.stack s H :=
 ⟨I.ok.frames,I.ok.mod,I.bs,Nat.le_trans I.ok.bsz I.sz,I.stack,I.stkFree,I.hok,I.bare⟩
theorem Inv.after {Q:VK} {u:Value} (I:Inv X pins σ H s) (h:CE X.stack X.prog X.w H s Q u s'):EP X pins σ Q u s':=by
 obtain ⟨v,H',os,bare,un,hok,r,q⟩:=h
 obtain ⟨hh,g,d,t,os'⟩:=s'
 obtain rfl:os'=s.os:=os
 exact ⟨v,H',I.call (h':=hh) (g':=g) (d':=d) (t':=t) (ch:=[]) un hok bare (fun b z=>absurd z (by simp)),r,q⟩
end
def BB (sp:Sp) (dvs:List V) (E:XK) (t:TA):TE:=fun σ H Q=>t σ H fun vs H1=>sp (vs++dvs) H1 Q E
def HJ (C:Addr) (m:Str) (sp:Sp) (dvs:List V) (E:XK) (ta:TE) (t:TA):TE:=fun σ H Q=>ta σ H fun x H1=>∃a dx fs,x=.ref a∧H1 a=some (.ins C dx fs)∧fs.lookup m=none ∧
 t σ H1 fun vs H2=>sp (x::(vs++dvs)) H2 Q E
def BM (C:Addr) (sp:Sp) (dvs:List V) (E:XK) (t:TA):TE:=fun σ H Q=>t σ H fun vs H1=>∀x dx,H1 x=none->H1 dx=none->dx≠x ->
 sp (.ref x::(vs++dvs)) (upd (upd H1 dx (.own x)) x (.ins C dx [])) (fun v H2=>v=.non∧Q (.ref x) H2) E
def Binds (K:PySem.W.Frag) (fd:FuncData) (ps:List Str) (ds:List Value):Prop :=
 ∀(s:Shared) (us:List Value),K.In s.heap->(us++ds).length=ps.length->BindsTo s fd ⟨us,[]⟩ (ps.zip (us++ds))
theorem Binds.all {K:PySem.W.Frag} {fd:FuncData} {ps:List Str} (h:∀us:List Value,us.length=ps.length->bindArgs fd ⟨us,[]⟩=pure (ps.zip us)):Binds K fd ps []:=fun s us _ hl=>by
 rw[List.append_nil]at hl ⊢
 exact .of_eq (h us hl)
def XR (CX:CXT) (X:Cx) (E:XK):Prop:=∀(pins:List (Addr × Obj)) (σ:St) (H:Hp) (s:Shared) (e:Value) (s':Shared),Inv X pins σ H s->CX X.stack H s E e s'->X.xe e s'
section
variable {X:Cx} {CX:CXT} {k:Nat} {f C:Addr} {fd:FuncData} {ps:List Str} {sp:Sp} {dvs:List V} {ds:List Value} {E:XK} {x m:Str} {p pos apos:Pos} {e o:Expr} {es:List Expr} {ta:TE} {t:TA}
theorem Ls {pins:List (Addr × Obj)} {σ:St} {H:Hp} {s:Shared} {Q:VK} {us:List Value} {vs:List V} (F:FnOk X.prog X.w X.K X.mg X.base CX k f fd ps sp) (hr:Room k X.A) (hb:Binds X.K fd ps ds) (hd:Vals dvs ds) (hx:XR CX X E)
    (I:Inv X pins σ H s) (r:Vals vs us) (h:sp (vs++dvs) H Q E):wpAny (model X.prog X.w) X.A (call (.ref f) us) (EP X pins σ Q) X.xe s:=by
 have r2:Vals (vs++dvs) (us++ds):=r.append hd
 have hl:(us++ds).length=ps.length:=by rw[← r2.length]; exact F.len _ _ _ _ h
 refine wpAny_call (codeAny_mono (F.run X.A X.stack s H ⟨us,[]⟩ (us++ds) (vs++dvs) Q E hr I.env0 (hb s us I.kIn hl) r2 h) fun r s' hq=>?_)
 cases r with
 |error e=>exact hx pins σ H s e s' I hq
 |ok fl =>
  cases fl with
  |ret u=>exact I.after hq
  |next=>exact False.elim hq
  |brk=>exact False.elim hq
  |cont=>exact False.elim hq
theorem Gu (F:FnOk X.prog X.w X.K X.mg X.base CX k f fd ps sp) (hr:Room k X.A) (hg:Gl X x) (hm:X.mg x=some (.ref f)) (hk:PySem.W.keepIn X.K (.ref f)=true) (hb:Binds X.K fd ps ds) (hd:Vals dvs ds) (hx:XR CX X E)
    (ha:PA X (e::es) t) (hdb:(x == ("__debug__":Str))=false:=by decide) (he:starEach (e::es) X.env=(false,eval e X.env)::starEach es X.env:=by rfl) (hpl:(backTo pos (starEach es X.env)).any (·.1)=false:=by rfl) :
    PE X (.Call (.Name x p) (e::es) [] pos) (BB sp dvs E t):=by
 intro pins s σ H Q I h
 refine wpAny_Call_Name_kw (SL I hg hm ?_ hdb)
 refine PySem.W.callWith_K (h₀:=X.base) I.ok.mod.kin hk (thn (ha pos pins s σ H _ I h) fun us s1 ⟨vs,H1,I1,r,q⟩=>⟨I1.kIn,?_⟩) he hpl
 exact Ls F hr hb hd hx I1 r q
theorem GQ {pl:Sem Bool} (he:PE X o ta) (c:Cls X.K C) (hm:Meth X.K C m f) (F:FnOk X.prog X.w X.K X.mg X.base CX k f fd ps sp) (hr:Room k X.A) (hb:Binds X.K fd ps ds) (hd:Vals dvs ds) (hx:XR CX X E) (ha:PA X (e::es) t)
    (hst:starEach (e::es) X.env=(false,eval e X.env)::starEach es X.env:=by rfl) (hpl:(backTo pos (starEach es X.env)).any (·.1)=false:=by rfl)
    (ht:eval (.Call (.Attribute o m apos) (e::es) [] pos) X.env=(do
     let ov ← eval o X.env
     standAt apos.atName
     let (f,first) ← holding [ov] (getMethod ov m pl)
     callWith pos f first (backTo pos (starEach (e::es) X.env)) (backToKw pos (keywordEach [] X.env))):=by rfl) :
    PE X (.Call (.Attribute o m apos) (e::es) [] pos) (HJ C m sp dvs E ta t):=by
 intro pins s σ H Q I h
 refine PySem.W.methodCall_KW (pl:=pl) (thn (he pins s σ H _ I h) fun u s1 ⟨x,H1,I1,rx,a,dx,fs,ex,ea,l,q⟩=>?_) ht
 subst ex
 obtain rfl:u=Value.ref a:=rx
 refine S3 I1 ea c hm l ?_
 refine PySem.W.callWith_K (first:=[.ref a]) (h₀:=X.base) I.ok.mod.kin hm.kp (thn (ha pos pins s1 σ H1 _ I1 q) fun us s2 ⟨vs,H2,I2,r,q2⟩=>⟨I2.kIn,?_⟩) hst hpl
 exact Ls (us:=.ref a::us) (vs:=.ref a::vs) F hr hb hd hx I2 (.cons rfl r) q2
theorem Hi {pl:Sem Bool} (he:PE X o ta) (c:Cls X.K C) (hm:Meth X.K C m f) (F:FnOk X.prog X.w X.K X.mg X.base CX k f fd ps sp) (hr:Room k X.A) (hb:Binds X.K fd ps ds) (hd:Vals dvs ds) (hx:XR CX X E)
    (ht:eval (.Call (.Attribute o m apos) [] [] pos) X.env=(do
     let ov ← eval o X.env
     standAt apos.atName
     let (f,first) ← holding [ov] (getMethod ov m pl)
     callWith pos f first (backTo pos (starEach [] X.env)) (backToKw pos (keywordEach [] X.env))):=by rfl) :
    PE X (.Call (.Attribute o m apos) [] [] pos) (HJ C m sp dvs E ta Cj):=by
 intro pins s σ H Q I h
 refine PySem.W.methodCall_KW (pl:=pl) (thn (he pins s σ H _ I h) fun u s1 ⟨x,H1,I1,rx,a,dx,fs,ex,ea,l,q⟩=>?_) ht
 subst ex
 obtain rfl:u=Value.ref a:=rx
 refine S3 I1 ea c hm l ?_
 exact PySem.W.callWith_K0 (first:=[.ref a]) I1.kIn hm.kp (Ls (us:=[.ref a]) (vs:=[.ref a]) F hr hb hd hx I1 (.cons rfl .nil) q)
structure Mk (K:PySem.W.Frag) (C f:Addr):Prop where
 makes:PySem.W.makesIn K C=true
 init:PySem.W.findIn K (.ref C) "__init__"=some (some (.ref f))
 fn:PySem.W.isFn K (.ref f)=true
 kp:PySem.W.keepIn K (.ref C)=true
theorem Gf {pins:List (Addr × Obj)} {σ:St} {H:Hp} {s:Shared} {Q:VK} {us:List Value} {vs:List V} (M:Mk X.K C f) (F:FnOk X.prog X.w X.K X.mg X.base CX k f fd ps sp) (hr:Room (k+1) X.A) (hb:Binds X.K fd ps ds) (hd:Vals dvs ds)
    (hx:XR CX X E) (I:Inv X pins σ H s) (r:Vals vs us)
    (h:∀x dx,H x=none->H dx=none->dx≠x->sp (.ref x::(vs++dvs)) (upd (upd H dx (.own x)) x (.ins C dx [])) (fun v H2=>v=.non∧Q (.ref x) H2) E) :
    wpAny (model X.prog X.w) X.A (call (.ref C) us) (EP X pins σ Q) X.xe s:=by
 have hq:=h (s.heap.objs.size+1) s.heap.objs.size (I.hok.fresh (Nat.le_succ _)) (I.hok.fresh (Nat.le_refl _)) (Nat.ne_of_lt (Nat.lt_succ_self _))
 have I2:=Inv.made (C:=C) I
 have r2:Vals (V.ref (s.heap.objs.size+1)::(vs++dvs)) (Value.ref (s.heap.objs.size+1)::(us++ds)):=.cons rfl (r.append hd)
 have hl:(Value.ref (s.heap.objs.size+1)::us++ds).length=ps.length:=by
  have e:=r2.length
  rw[F.len _ _ _ _ hq]at e
  exact e.symm
 refine wpAny_call (J7 (f:=f) I.kIn M.makes M.init (beq_iff_eq.mp M.fn) (codeAny_mono (F.run _ X.stack _ _ ⟨Value.ref (s.heap.objs.size+1)::us,[]⟩ (Value.ref (s.heap.objs.size+1)::(us++ds)) _ _ E (hr.make C us [])
  (I2.env0.make C us []) (hb _ (Value.ref (s.heap.objs.size+1)::us) I2.kIn hl) r2 hq) fun r s' hq'=>?_))
 cases r with
 |error e=>exact hx pins σ _ _ e s' I2 hq'
 |ok fl =>
  cases fl with
  |ret u =>
   obtain ⟨v,H',I3,rv,ev,q3⟩:=I2.after hq'
   subst ev
   exact ⟨rv,⟨V.ref (s.heap.objs.size+1),H',I3,rfl,q3⟩⟩
  |next=>exact False.elim hq'
  |brk=>exact False.elim hq'
  |cont=>exact False.elim hq'
theorem Fo (M:Mk X.K C f) (F:FnOk X.prog X.w X.K X.mg X.base CX k f fd ps sp) (hr:Room (k+1) X.A) (hg:Gl X x) (hm:X.mg x=some (.ref C)) (hb:Binds X.K fd ps ds) (hd:Vals dvs ds) (hx:XR CX X E)
    (ha:PA X (e::es) t) (hdb:(x == ("__debug__":Str))=false:=by decide) (he:starEach (e::es) X.env=(false,eval e X.env)::starEach es X.env:=by rfl) (hpl:(backTo pos (starEach es X.env)).any (·.1)=false:=by rfl) :
    PE X (.Call (.Name x p) (e::es) [] pos) (BM C sp dvs E t):=by
 intro pins s σ H Q I h
 refine wpAny_Call_Name_kw (SL I hg hm ?_ hdb)
 refine PySem.W.callWith_K (h₀:=X.base) I.ok.mod.kin M.kp (thn (ha pos pins s σ H _ I h) fun us s1 ⟨vs,H1,I1,r,q⟩=>⟨I1.kIn,?_⟩) he hpl
 exact Gf M F hr hb hd hx I1 r q
end
section
variable {X:Cx} {CX:CXT} {k:Nat} {f C:Addr} {fd:FuncData} {ps ks:List Str} {sp:Sp} {E:XK} {x m:Str} {p pos apos kpos:Pos} {e o:Expr} {es:List Expr} {kws:List Keyword} {te ta:TE} {t tk:TA} {nm:Option Str}
variable {g:List Value->List Value->List Value} {gV:List V->List V->List V}
end
structure FnScope (N P:List Str) (sc:Scope):Prop where
 kind:sc.kind=.function
 co:sc.isCoroutine=false
 gen:sc.isGenerator=false
 nd:N.Nodup
 pre:N.take P.length=P
 par:∀x∈P,sc.names.lookup x=some .local∨sc.names.lookup x=some .cell
 nofree:∀y∈sc.names,y.2≠.free
theorem Q0 {kindOf:Str->Option NameKind} {x:Str}:∀{binds:List (Str × Value)} {m:Str->Option Value},(∀v,(x,v) ∉ binds)->bindL kindOf binds m x=m x
 |[],_,_=>rfl
 |(n,v)::r,m,h=>by
  unfold bindL
  rw[Q0 fun w hw=>h w (List.mem_cons_of_mem _ hw)]
  split
  ·have:x≠n:=by rintro rfl; exact h v List.mem_cons_self
   simp[this]
  ·rfl
theorem Pt {kindOf:Str->Option NameKind} {x:Str}:∀{binds:List (Str × Value)} {m:Str->Option Value},(∀v,(x,v) ∉ binds)->bindC kindOf binds m x=m x
 |[],_,_=>rfl
 |(n,v)::r,m,h=>by
  unfold bindC
  rw[Pt fun w hw=>h w (List.mem_cons_of_mem _ hw)]
  split
  ·rfl
  ·have:x≠n:=by rintro rfl; exact h v List.mem_cons_self
   simp[this]
theorem Qx {kindOf:Str->Option NameKind} {x:Str} {v:Value}:∀{P:List Str} {vs:List Value} {i:Nat} {m:Str->Option Value},P.Nodup->P[i]?=some x->vs[i]?=some v->kindOf x=some .local ->
    bindL kindOf (P.zip vs) m x=some v
 |[],_,_,_,_,h,_,_=>by simp at h
 |_::_,[],_,_,_,_,h,_=>by simp at h
 |p::P,w::vs,0,m,nd,h1,h2,hk=>by
  simp at h1 h2; subst h1; subst h2
  show bindL kindOf ((p,w)::P.zip vs) m p=_
  unfold bindL
  rw[Q0 fun v hv=>(List.nodup_cons.mp nd).1 (List.of_mem_zip hv).1,if_pos hk]
  simp
 |p::P,w::vs,i+1,m,nd,h1,h2,hk=>by
  show bindL kindOf ((p,w)::P.zip vs) m x=_
  unfold bindL
  exact Qx (i:=i) (List.nodup_cons.mp nd).2 (by simpa using h1) (by simpa using h2) hk
theorem QM {kindOf:Str->Option NameKind} {x:Str} {v:Value}:∀{P:List Str} {vs:List Value} {i:Nat} {m:Str->Option Value},P.Nodup->P[i]?=some x->vs[i]?=some v->kindOf x≠some .local ->
    bindC kindOf (P.zip vs) m x=some v
 |[],_,_,_,_,h,_,_=>by simp at h
 |_::_,[],_,_,_,_,h,_=>by simp at h
 |p::P,w::vs,0,m,nd,h1,h2,hk=>by
  simp at h1 h2; subst h1; subst h2
  show bindC kindOf ((p,w)::P.zip vs) m p=_
  unfold bindC
  rw[Pt fun v hv=>(List.nodup_cons.mp nd).1 (List.of_mem_zip hv).1,if_neg hk]
  simp
 |p::P,w::vs,i+1,m,nd,h1,h2,hk=>by
  show bindC kindOf ((p,w)::P.zip vs) m x=_
  unfold bindC
  exact QM (i:=i) (List.nodup_cons.mp nd).2 (by simpa using h1) (by simpa using h2) hk
def start (N:List Str) (vs:List V):St:=vs.map some++List.replicate (N.length - vs.length) none
def PU (CX:CXT) (P:Program) (w:World) (K:PySem.W.Frag) (mg:Str->Option Value) (base:Heap) (N:List Str) (qual:Str) (scope:Scope) (f:Addr) (cd:Value) (A:Around) (outer:List Env) (s:Shared) (H:Hp) (E:XK):Cx where
 prog:=P
 w:=w
 K:=K
 mg:=mg
 base:=base
 A:=A.deeper (envOfC qual scope s.heap.objs.size f cd)
 N:=N
 s₀:=s
 H₀:=H
 env:=envOfC qual scope s.heap.objs.size f cd
 outer:=outer
 stack:=envOfC qual scope s.heap.objs.size f cd::outer
 ex:=[]
 calm:=true
 fn:=fun _=>true
 pn:=[]
 xe:=fun e s'=>wpAny (model P w) (A.deeper (envOfC qual scope s.heap.objs.size f cd)) (leaving (envOfC qual scope s.heap.objs.size f cd) e) (fun _ s''=>CX outer H s E e s'') (fun e' s''=>CX outer H s E e' s'') s'
theorem OX {sc:Scope} {n:Nat} {x:Str} (h:sc.names.lookup x=some .cell):∃c,(cellsFrom n sc.names []).lookup x=some c:=by
 have q:=PySem.W.cellsFrom_some sc.names n [] (.inl h)
 exact Option.isSome_iff_exists.mp q
theorem K8 {CX:CXT} {P:Program} {w:World} {K:PySem.W.Frag} {mg:Str->Option Value} {base:Heap} {N ps:List Str} {qual:Str} {scope:Scope} {f:Addr} {cd:Value} {A:Around} {outer:List Env} {s s1:Shared} {H:Hp} {E:XK} {us:List Value} {vs:List V}
    (S:FnScope N ps scope) (hd:A.handled=none) (e0:Env0 P w K mg base A outer s H) (hl:vs.length=ps.length) (r:Vals vs us)
    (x:InCallC s s.heap.objs.size (bindL (envOfC qual scope s.heap.objs.size f cd).kindOf (ps.zip us) fun _=>none) (cellsFrom (s.heap.objs.size+1) scope.names []) (bindC (envOfC qual scope s.heap.objs.size f cd).kindOf (ps.zip us) fun _=>none) s1) :
    Inv (PU CX P w K mg base N qual scope f cd A outer s H E) [] (start N vs) H s1:=by
 have hpl:ps.length<=N.length:=by have:=congrArg List.length S.pre; rw[List.length_take]at this; omega
 obtain ⟨h1,tk,rfl,hk⟩:=x.done
 have noA:∀b:Addr,b ∉ (PU CX P w K mg base N qual scope f cd A outer s H E).ex:=fun b z=>absurd (show b∈([]:List Addr) from z) (by simp)
 refine ⟨⟨e0.mod,S.kind,rfl,rfl,Nat.le_refl _,fun y z c h1 h2=>?_,fun y hy=>?_,fun y c _ h=>?_,fun _=>hd,Around.frames_deeper e0.frames,.inr ⟨rfl,rfl⟩,fun b z=>absurd z (noA b),e0.bs,e0.bsz,fun b _ _=>noA b,fun b z=>absurd z (noA b),e0.funs,e0.frf⟩,
  rfl,e0.bare,Un.kept hk,⟨_,x.toInCall.ns,fun i y v h1 h2 h3=>?_⟩,fun y c h=>⟨_,x.cell y c h⟩,e0.hok.fresh (Nat.le_refl _),fun y c h=>?_,fun p hp=>absurd (show p∈([]:List (Addr × Obj)) from hp) (by simp),e0.hok.kept hk,?_⟩
 ·exact name_of_addr x.apart (PySem.mem_of_lookup h1) (PySem.mem_of_lookup h2)
 ·have hy:scope.names.lookup y=some .cell∨scope.names.lookup y=some .free:=hy
  rcases hy with hy|hy
  ·exact OX hy
  ·exact absurd rfl (S.nofree _ (PySem.mem_of_lookup hy))
 ·exact Nat.le_of_lt (x.above y c (PySem.mem_of_lookup h))
 ·have hi:i < vs.length:=by
   unfold start at h2
   by_cases hi:i < vs.length
   ·exact hi
   ·rw[List.getElem?_append_right (by simpa using hi)]at h2
    rw[List.getElem?_replicate]at h2
    split at h2 <;> cases h2
  have ha:vs[i]?=some v:=by
   unfold start at h2
   rw[List.getElem?_append_left (by simpa using hi),List.getElem?_map]at h2
   cases e:vs[i]? with
   |none=>rw[e]at h2; cases h2
   |some a=>rw[e]at h2; cases h2; rfl
  obtain ⟨u,hu,rv⟩:=r.get ha
  have hp:ps[i]?=some y:=by
   rw[← S.pre,List.getElem?_take_of_lt (by omega)]; exact h1
  have ndP:ps.Nodup:=by rw[← S.pre]; exact S.nd.sublist (List.take_sublist _ _)
  refine ⟨u,rv,?_⟩
  rcases S.par y (List.mem_of_getElem? hp) with k|k
  ·exact .inl ⟨k,Qx ndP hp hu k⟩
  ·obtain ⟨c,e⟩:=OX (n:=s.heap.objs.size+1) k
   refine .inr ⟨.inl k,c,e,?_⟩
   have q:=x.cell y c e
   rw[QM ndP hp hu (by show scope.names.lookup y≠_; rw[k]; decide)]at q
   exact q
 ·exact e0.hok.fresh (Nat.le_of_lt (x.above y c (PySem.mem_of_lookup h)))
 ·unfold start
  show _=N.length
  rw[List.length_append,List.length_map,List.length_replicate]
  omega
theorem Bz {CX:CXT} {P:Program} {w:World} {K:PySem.W.Frag} {mg:Str->Option Value} {base:Heap} {k:Nat} {f:Addr} {name qual:Str} {params:Arguments} {body:List Stmt} {scope:Scope} {dV kV doc pm cdv ct oc:Value} {an od:Option Addr}
    {osl:Array (Option Value)} {N ps:List Str} {sp:Sp} (lk:K.lookup f=some ⟨oc,od,.func (PySem.W.fnOf name qual params body scope dV kV doc pm an cdv ct),osl⟩) (hcd:PySem.W.codeIn K cdv qual=true) (S:FnScope N ps scope)
    (len:∀vs H Q E,sp vs H Q E->vs.length=ps.length)
    (hbody:∀(A:Around) (outer:List Env) (s:Shared) (H:Hp) (vs:List V) (Q:VK) (E:XK),Room k (A.deeper (envOfC qual scope s.heap.objs.size f cdv))->sp vs H Q E ->
     ∃t,PSs (PU CX P w K mg base N qual scope f cdv A outer s H E) body t∧t { nx:=fun _ H'=>Q .non H',rt:=Q } (start N vs) H) :
    FnOk P w K mg base CX (k+1) f (PySem.W.fnOf name qual params body scope dV kV doc pm an cdv ct) ps sp:=by
 refine ⟨len,fun A outer s H args us vs Q E hr e0 hb r hsp=>?_⟩
 have hl:=len _ _ _ _ hsp
 have KX:K.In s.heap:=e0.mod.kin.keeps fun b o e=>(e0.bs b o e).1
 have lim:s.heap.NoLimit:=e0.mod.nolimit.keeps fun b o e=>(e0.bs b o e).1
 have hkind:∀y∈ps.zip us,scope.names.lookup y.1=some .local∨(scope.names.lookup y.1=some .cell∧((cellsFrom (s.heap.objs.size+1) scope.names []).lookup y.1).isSome=true):=fun ⟨n,v⟩ hy=>by
  rcases S.par n (List.of_mem_zip hy).1 with q|q
  ·exact .inl q
  ·exact .inr ⟨q,PySem.W.cellsFrom_some _ _ _ (.inl q)⟩
 refine codeAny_call_function hr.depth (KX _ _ lk) rfl S.co S.gen rfl (PySem.W.codeRec_of KX hcd) (hb _ _ _ _ ?_)
 refine wpAny_newFunctionEnv_cells S.kind hkind fun env he s1 x=>?_
 subst he
 refine ⟨lim.keeps x.toInCall.keep,codeAny_func ?_⟩
 obtain ⟨t,ht,hq⟩:=hbody A outer s H vs Q E (hr.deeper _) hsp
 have I:Inv (PU CX P w K mg base N qual scope f cdv A outer s H E) [] (start N vs) H s1:=K8 S hr.hd e0 hl r x
 refine wpAny_mono (ht [] s1 (start N vs) H _ I hq) (fun fl s' hs=>?_) fun e s' hs=>hs
 have fin:∀{σ':St} {H':Hp} {v:V} {u:Value},Inv (PU CX P w K mg base N qual scope f cdv A outer s H E) [] σ' H' s'->RelV v u->Q v H'->CE outer P w H s Q u s' :=
  fun {σ' H' v u} J rv q=>⟨v,H',J.os,J.bare,J.base,J.hok,rv,q⟩
 cases fl with
 |ret u =>
  obtain ⟨v,σ',H',J,rv,q⟩:=hs
  exact fin J rv q
 |next =>
  obtain ⟨σ',H',J,q⟩:=hs
  exact fin (v:=V.non) (u:=Value.none) J rfl q
 |brk =>
  obtain ⟨_,_,_,q⟩:=hs
  exact False.elim q
 |cont =>
  obtain ⟨_,_,_,q⟩:=hs
  exact False.elim q
open PySem PySem.Spec PyProof.Rows
section
variable {X:Cx} {x:Str} {p pos:Pos} {e:Expr} {es:List Expr} {t:TA} {id T:String} {r:List V->Hp->VK->Prop}
def tCB (r:List V->Hp->VK->Prop) (t:TA):TE:=fun σ H Q=>t σ H fun vs H1=>r vs H1 Q
theorem Qc (hc:CallR X (.builtin id) r) (hg:Gl X x) (hm:X.mg x=none) (hv:bootBuiltins x=some (.builtin id)) (ha:PA X (e::es) t) (hn:x≠"__name__":=by decide) (hdb:(x == ("__debug__":Str))=false:=by decide)
    (he:starEach (e::es) X.env=(false,eval e X.env)::starEach es X.env:=by rfl) (hpl:(backTo pos (starEach es X.env)).any (·.1)=false:=by rfl):PE X (.Call (.Name x p) (e::es) [] pos) (tCB r t):=by
 intro pins s σ H Q I h
 refine wpAny_Call_Name_kw (MX I hg hm hv ?_ hn hdb)
 exact PyProof.Rows.callWith_builtin1 (thn (ha pos pins s σ H _ I h) fun us s1 ⟨vs,H1,I1,r1,q1⟩=>hc pins s1 σ H1 vs us Q I1 r1 q1) he hpl
theorem Tp (hc:CallR X (.type T) r) (hg:Gl X x) (hm:X.mg x=none) (hv:bootBuiltins x=some (.type T)) (ha:PA X (e::es) t) (hn:x≠"__name__":=by decide) (hdb:(x == ("__debug__":Str))=false:=by decide)
    (he:starEach (e::es) X.env=(false,eval e X.env)::starEach es X.env:=by rfl) (hpl:(backTo pos (starEach es X.env)).any (·.1)=false:=by rfl):PE X (.Call (.Name x p) (e::es) [] pos) (tCB r t):=by
 intro pins s σ H Q I h
 refine wpAny_Call_Name_kw (MX I hg hm hv ?_ hn hdb)
 exact PyProof.Rows.callWith_type1 (thn (ha pos pins s σ H _ I h) fun us s1 ⟨vs,H1,I1,r1,q1⟩=>hc pins s1 σ H1 vs us Q I1 r1 q1) he hpl
end
end L2
namespace HT
open PySem PyProof.Rows
section
open PySem.SeqAt
open PySem.AutoSeq1 (wpAny_loadPart')
open PySem.MeetsSeq PySem.MeetsSeq2 PySem.MeetsSeq3
end
section
variable {prog:Program} {w:World} {A:Around} {E:Value->Shared->Prop} {s:Shared}
end
end HT
namespace L2
open PySem PySem.Spec PyProof.Rows
section
variable {X:Cx} {e:Expr} {te:TE} {lo hi:Option Expr} {tl th:TO} {pos p2:Pos}
end
open PySem PySem.Spec PyProof.Rows
def ixN (n:Nat) (i:Int):Option Nat:=if 0<=i then (if i < n then some i.toNat else none) else if -(n:Int)<=i then some (i+n).toNat else none
def atI {α:Type} (xs:List α) (i:Int):Option α:=(ixN xs.length i).bind fun j=>xs[j]?
theorem FQ {n:Nat} {i:Int} {j:Nat} (h:ixN n i=some j):seqIndex? i n=some j∧j < n∧-(n:Int)<=i∧i < n:=by
 unfold ixN at h
 by_cases h0:0<=i
 ·rw[if_pos h0]at h
  by_cases h1:i < n
  ·rw[if_pos h1]at h
   have e:i.toNat=j:=Option.some.inj h
   exact ⟨by rw[seqIndex_of h0 h1,e],by omega,by omega,h1⟩
  ·rw[if_neg h1]at h; cases h
 ·rw[if_neg h0]at h
  by_cases h1:-(n:Int)<=i
  ·rw[if_pos h1]at h
   have e:(i+n).toNat=j:=Option.some.inj h
   exact ⟨by rw[seqIndex_neg (by omega) h1,e],by omega,h1,by omega⟩
  ·rw[if_neg h1]at h; cases h
theorem PH {α:Type} {xs:List α} {i:Int} {v:α} (h:atI xs i=some v):∃j,seqIndex? i xs.length=some j∧xs[j]?=some v∧j < xs.length∧-(xs.length:Int)<=i∧i < xs.length:=by
 unfold atI at h
 cases e:ixN xs.length i with
 |none=>rw[e]at h; cases h
 |some j =>
  rw[e]at h
  obtain ⟨h1,h2,h3,h4⟩:=FQ e
  exact ⟨j,h1,h,h2,h3,h4⟩
theorem Fi {α:Type} {xs:List α} {j:Nat} {v:α} (h:xs[j]?=some v):atI xs (j:Int)=some v:=by
 have hj:j < xs.length:=(List.getElem?_eq_some_iff.mp h).1
 have e:ixN xs.length (j:Int)=some j:=by
  unfold ixN
  rw[if_pos (by omega),if_pos (by omega)]; simp
 unfold atI; rw[e]; exact h
def Ou (b:Expr):Prop:=∀o i,subscripted b false o i=operate [o,i] (getItem o i)
def IxR (X:Cx) (r:R2):Prop :=
 ∀(value slice:Expr) (pins:List (Addr × Obj)) (s:Shared) (σ:St) (H:Hp) (x y:V) (v u:Value) (Q:VK),Inv X pins σ H s->RelV x v->RelV y u->r x y H Q ->
  subscripted slice false v u=operate [v,u] (getItem v u)->wpAny (model X.prog X.w) X.A (subscriptTail value slice v u) (EP X pins σ Q) X.xe s
def MtR (X:Cx) (id:String) (r:V->List V->Hp->VK->Prop):Prop :=
 ∀(pins:List (Addr × Obj)) (s:Shared) (σ:St) (H:Hp) (x:V) (xs:List V) (v:Value) (us:List Value) (Q:VK),Inv X pins σ H s->RelV x v->Vals xs us->r x xs H Q ->
  wpAny (model X.prog X.w) X.A (call (.builtin id) (v::us)) (EP X pins σ Q) X.xe s
section
variable {X:Cx} {a b:Expr} {ta tb:TE} {pos:Pos}
theorem IxR.or {r r':R2} (h:IxR X r) (h':IxR X r'):IxR X (fun x y H Q=>r x y H Q∨r' x y H Q):=by
 intro value slice pins s σ H x y v u Q I rx ry q hs
 rcases q with q|q
 ·exact h value slice pins s σ H x y v u Q I rx ry q hs
 ·exact h' value slice pins s σ H x y v u Q I rx ry q hs
theorem Df {r:R2} (hr:IxR X r) (ha:PE X a ta) (hb:PE X b tb) (hs:Ou b):PE X (.Subscript a b pos) (tOp r ta tb):=by
 intro pins s σ H Q I h
 exact Subscript_ (DR ha hb I h fun v u s2 x y H2 I2 rx ry q=>hr a b pins s2 σ H2 x y v u Q I2 rx ry q (hs _ _))
def BH (K:PySem.W.Frag):R2:=fun x y H Q=>∃p xs i v,x=.ref p∧y=.int i∧SqL K H p xs∧atI xs i=some v∧Q v H
def Ap (K:PySem.W.Frag):R2:=fun x y H Q=>∃p xs i v,x=.ref p∧y=.int i∧SqT K H p xs∧atI xs i=some v∧Q v H
def B5:R2:=fun x y H Q=>∃z i c,x=.str z∧y=.int i∧z.length<=sizeLine∧atI z.cps.toList i=some c∧Q (.str ⟨#[c]⟩) H
theorem FR:IxR X (BH X.K):=by
 intro value slice pins s σ H x y v u Q I rx ry h hs
 obtain ⟨p,xs,i,z,rfl,rfl,hq,he,q⟩:=h
 cases rx
 obtain ⟨t,rfl⟩:=ry
 obtain ⟨its,r,pl,hz⟩:=I.list hq
 obtain ⟨j,h1,h2,h3,h4,h5⟩:=PH he
 obtain ⟨w,ew,rw'⟩:=r.get h2
 have hl:=r.length
 have hn:=Ro
 have fin:EP X pins σ Q w s:=⟨z,H,I,rw',q⟩
 by_cases h0:0<=i
 ·have hj:i.toNat=j:=by
   rw[seqIndex_of h0 h5]at h1
   exact Option.some.inj h1
  exact item_listR pl.isList h0 (by omega) (by rw[hj]; simpa using ew) fin hs
 ·have hj:(i+(its.toArray.size:Int)).toNat=j:=by
   rw[seqIndex_neg (by omega) h4]at h1
   rw[List.size_toArray,← hl]
   exact Option.some.inj h1
  exact subscriptTail_builtinR (x:=w) pl.isList.typeIs slot_list_getitem.lookup
   (wpAny_getItem_list_neg (Q:=fun r s'=>r=w∧EP X pins σ Q r s') pl.isList (by omega) (by rw[List.size_toArray] <;> omega) (by omega) (by rw[hj]; simpa using ew) ⟨rfl,fin⟩) hs
theorem CV:IxR X (Ap X.K):=by
 intro value slice pins s σ H x y v u Q I rx ry h hs
 obtain ⟨p,xs,i,z,rfl,rfl,hq,he,q⟩:=h
 cases rx
 obtain ⟨t,rfl⟩:=ry
 obtain ⟨its,r,pl,hz⟩:=I.tuple hq
 obtain ⟨j,h1,h2,h3,h4,h5⟩:=PH he
 obtain ⟨w,ew,rw'⟩:=r.get h2
 have hl:=r.length
 have hn:=Ro
 have fin:EP X pins σ Q w s:=⟨z,H,I,rw',q⟩
 exact subscriptTail_builtinR (x:=w) pl.typeIs slot_tuple_getitem.lookup
  (getItem_tuple (j:=j) (Q:=fun r s'=>r=w∧EP X pins σ Q r s') pl (by omega) (by omega) (by rw[List.size_toArray,← hl]; exact h1) (by simpa using ew) ⟨rfl,fin⟩) hs
theorem DP:IxR X B5:=by
 intro value slice pins s σ H x y v u Q I rx ry h hs
 obtain ⟨z,i,c,rfl,rfl,hz,he,q⟩:=h
 obtain ⟨t,rfl⟩:=rx
 obtain ⟨t',rfl⟩:=ry
 obtain ⟨j,h1,h2,h3,h4,h5⟩:=PH he
 have hl:z.cps.toList.length=z.length:=by simp[Str.length]
 rw[hl]at h1 h4 h5
 have hn:=Ro
 exact tail_any (typeIs_str s z t) slot_str_getitem.lookup (getItem_str (c:=c) (by
  have e1:decide (i < -(2 ^ 63:Int))=false:=decide_eq_false (by omega)
  have e2:decide (i ≥ 2 ^ 63)=false:=decide_eq_false (by omega)
  rw[e1,e2,Bool.or_false]) (by rw[h1]; simpa using h2) ⟨.str ⟨#[c]⟩,H,I.tok _,⟨_,rfl⟩,q⟩) hs
def rIx (K:PySem.W.Frag):R2:=fun x y H Q=>BH K x y H Q∨Ap K x y H Q∨B5 x y H Q
theorem Hu:IxR X (rIx X.K):=FR.or (CV.or DP)
def V7:V->Bool
 |.non=>true
 |.bl _=>true
 |.int _=>true
 |.str _=>true
 |_=>false
def eqV:V->V->Bool
 |.non,.non=>true
 |.bl a,.bl b=>a == b
 |.bl a,.int b=>(if a then 1 else 0) == b
 |.int a,.bl b=>a == (if b then 1 else 0)
 |.int a,.int b=>a == b
 |.str a,.str b=>a == b
 |_,_=>false
theorem Dp {A:Around} {s:Shared} {y x:V} {u v:Value} (ry:RelV y u) (rx:RelV x v) (fy:V7 y=true) (fx:V7 x=true):SeqAt.EqAt A s u v (eqV y x):=by
 cases y with
 |non =>
  cases ry
  cases x with
  |non=>cases rx; exact SeqAt.EqAt.same _
  |bl b=>cases rx; exact SeqAt.EqAt.none_bool b
  |int b=>obtain ⟨t,rfl⟩:=rx; exact SeqAt.EqAt.none_int b t
  |str b=>obtain ⟨t,rfl⟩:=rx; exact SeqAt.EqAt.none_str b t
  |_=>exact absurd (show false=true from fx) Bool.false_ne_true
 |bl a =>
  cases ry
  cases x with
  |non=>cases rx; exact SeqAt.EqAt.bool_none a
  |bl b=>cases rx; exact SeqAt.EqAt.bool_bool a b
  |int b=>obtain ⟨t,rfl⟩:=rx; exact SeqAt.EqAt.bool_int a b t
  |str b=>obtain ⟨t,rfl⟩:=rx; exact SeqAt.EqAt.bool_str a b t
  |_=>exact absurd (show false=true from fx) Bool.false_ne_true
 |int a =>
  obtain ⟨t',rfl⟩:=ry
  cases x with
  |non=>cases rx; exact SeqAt.EqAt.int_none a t'
  |bl b=>cases rx; exact SeqAt.EqAt.int_bool a t' b
  |int b=>obtain ⟨t,rfl⟩:=rx; exact SeqAt.EqAt.int_int a t' b t
  |str b=>obtain ⟨t,rfl⟩:=rx; exact SeqAt.EqAt.int_str a t' b t
  |_=>exact absurd (show false=true from fx) Bool.false_ne_true
 |str a =>
  obtain ⟨t',rfl⟩:=ry
  cases x with
  |non=>cases rx; exact SeqAt.EqAt.str_none a t'
  |bl b=>cases rx; exact SeqAt.EqAt.str_bool a t' b
  |int b=>obtain ⟨t,rfl⟩:=rx; exact SeqAt.EqAt.str_int a t' b t
  |str b=>obtain ⟨t,rfl⟩:=rx; exact SeqAt.EqAt.str_str a t' b t
  |_=>exact absurd (show false=true from fx) Bool.false_ne_true
 |_=>exact absurd (show false=true from fy) Bool.false_ne_true
def eqU (x:V) (u:Value):Bool:=match u with
 |.none=>eqV .non x
 |.bool b=>eqV (.bl b) x
 |.int i _=>eqV (.int i) x
 |.str z _=>eqV (.str z) x
 |_=>false
theorem HF {x y:V} {u:Value} (r:RelV y u) (f:V7 y=true):eqU x u=eqV y x:=by
 cases y with
 |non=>cases r; rfl
 |bl b=>cases r; rfl
 |int i=>obtain ⟨t,rfl⟩:=r; rfl
 |str z=>obtain ⟨t,rfl⟩:=r; rfl
 |_=>exact absurd (show false=true from f) Bool.false_ne_true
theorem U8 {x:V}:∀{xs:List V} {us:List Value},Vals xs us->xs.all V7=true->us.any (eqU x)=xs.any fun y=>eqV y x
 |_,_,.nil,_=>rfl
 |y::xs,u::us,.cons r t,f=>by
  rw[List.all_cons,Bool.and_eq_true]at f
  rw[List.any_cons,List.any_cons,HF r f.1,U8 t f.2]
theorem Vt {A:Around} {s:Shared} {x:V} {v:Value} (rx:RelV x v) (fx:V7 x=true):∀{xs:List V} {us:List Value},Vals xs us->xs.all V7=true->∀u∈us,SeqAt.EqAt A s u v (eqU x u)
 |_,_,.nil,_=>fun u hu=>by cases hu
 |y::xs,u::us,.cons r t,f=>fun u' hu=>by
  rw[List.all_cons,Bool.and_eq_true]at f
  rcases List.mem_cons.mp hu with rfl|hu
  ·rw[HF r f.1]; exact Dp r rx f.1 fx
  ·exact Vt rx fx t f.2 u' hu
def inV (x:V) (xs:List V):Bool:=xs.any fun y=>eqV y x
def rIn (K:PySem.W.Frag) (neg:Bool):R2:=fun x y H Q=>∃p xs,y=.ref p∧(SqL K H p xs∨SqT K H p xs)∧V7 x=true∧xs.all V7=true∧Q (.bl (if neg then !inV x xs else inV x xs)) H
theorem JD:OpR X (compareOp .In) (rIn X.K false):=by
 intro pins s σ H x y v u Q I rx ry h
 obtain ⟨p,xs,rfl,hq,fx,fs,q⟩:=h
 cases ry
 rcases hq with hq|hq
 ·obtain ⟨its,r,pl,hz⟩:=I.list hq
  refine SeqAt.in_listAt (eqU x) pl.isList (fun w hw=>Vt rx fx r fs w (by simpa using hw)) ⟨.bl _,H,I,rfl,?_⟩
  rw[show its.toArray.any (eqU x)=its.any (eqU x) by simp,U8 r fs]
  exact q
 ·obtain ⟨its,r,pl,hz⟩:=I.tuple hq
  refine SeqAt.in_tupleAt (eqU x) pl (fun w hw=>Vt rx fx r fs w (by simpa using hw)) ⟨.bl _,H,I,rfl,?_⟩
  rw[show its.toArray.any (eqU x)=its.any (eqU x) by simp,U8 r fs]
  exact q
theorem Ov:OpR X (compareOp .NotIn) (rIn X.K true):=by
 intro pins s σ H x y v u Q I rx ry h
 obtain ⟨p,xs,rfl,hq,fx,fs,q⟩:=h
 cases ry
 rcases hq with hq|hq
 ·obtain ⟨its,r,pl,hz⟩:=I.list hq
  refine SeqAt.notIn_listAt (eqU x) pl.isList (fun w hw=>Vt rx fx r fs w (by simpa using hw)) ⟨.bl _,H,I,rfl,?_⟩
  rw[show its.toArray.any (eqU x)=its.any (eqU x) by simp,U8 r fs]
  exact q
 ·obtain ⟨its,r,pl,hz⟩:=I.tuple hq
  refine SeqAt.notIn_tupleAt (eqU x) pl (fun w hw=>Vt rx fx r fs w (by simpa using hw)) ⟨.bl _,H,I,rfl,?_⟩
  rw[show its.toArray.any (eqU x)=its.any (eqU x) by simp,U8 r fs]
  exact q
theorem Oz:CallR X (.builtin "len") (fun xs H Q=>∃p ys,xs=[.ref p]∧(SqL X.K H p ys∨SqT X.K H p ys)∧Q (.int ys.length) H):=by
 intro pins s σ H xs us Q I r h
 obtain ⟨p,ys,rfl,hq,q⟩:=h
 obtain ⟨u,rfl,rx⟩:=V1 r
 cases rx
 have hn:=Ro
 rcases hq with hq|hq
 ·obtain ⟨its,r',pl,hz⟩:=I.list hq
  have hlen:=r'.length
  exact Calls.call_len_list pl.isList (by simp only[List.size_toArray] <;> omega) ⟨.int ys.length,H,I.tok _,⟨s.toks+1,by rw[List.size_toArray,hlen]⟩,q⟩
 ·obtain ⟨its,r',pl,hz⟩:=I.tuple hq
  have hlen:=r'.length
  exact len_tuple pl (by simp only[List.size_toArray] <;> omega) ⟨.int ys.length,H,I.tok _,⟨s.toks+1,by rw[List.size_toArray,hlen]⟩,q⟩
theorem CallR.or {f:Value} {r r':List V->Hp->VK->Prop} (h:CallR X f r) (h':CallR X f r'):CallR X f (fun xs H Q=>r xs H Q∨r' xs H Q):=by
 intro pins s σ H xs us Q I rs q
 rcases q with q|q
 ·exact h pins s σ H xs us Q I rs q
 ·exact h' pins s σ H xs us Q I rs q
def tyV (K:PySem.W.Frag) (T:String) (x:V) (H:Hp):Prop:=match x with
 |.str _=>T="str"
 |.int _=>T="int"
 | .ref p => (T = "list" ∧ ∃ xs,SqL K H p xs) ∨ (T = "tuple" ∧ ∃ o,K.lookup p = some o ∧ o.cls = .type "tuple" ∧ o.dict = none) ∨
     (T="dict"∧((∃kvs,H p=some (.dK kvs))∨∃kvs,H p=some (.dT kvs)))∨(T="set"∧∃S n,H p=some (.set S n))
 |_=>False
theorem J9 {pins:List (Addr × Obj)} {σ:St} {H:Hp} {s:Shared} {T:String} {x:V} {v:Value} (I:Inv X pins σ H s) (r:RelV x v) (ty:tyV X.K T x H) :
    s.TypeIs v T∧∀a,v=.ref a->∃ob,s.heap.get? a=some ob∧ob.dict=none:=by
 cases x with
 |str z =>
  obtain ⟨t,rfl⟩:=r
  cases (show T="str" from ty)
  exact ⟨typeIs_str s z t,fun _ e=>nomatch e⟩
 |int i =>
  obtain ⟨t,rfl⟩:=r
  cases (show T="int" from ty)
  exact ⟨typeIs_int s i t,fun _ e=>nomatch e⟩
 |ref p =>
  cases r
  rcases ty with ⟨rfl,xs,hq⟩|⟨rfl,o,hk,hc,hd⟩|⟨rfl,hk⟩|⟨rfl,S,n,hk⟩
  ·obtain ⟨its,_,pl,_⟩:=I.list hq
   refine ⟨pl.isList.typeIs,fun a e=>?_⟩
   cases e
   obtain ⟨o,n,e,c,hd,_⟩:=pl
   exact ⟨o,e,hd⟩
  ·refine ⟨⟨o,I.kIn p o hk,hc⟩,fun a e=>?_⟩
   cases e
   exact ⟨o,I.kIn _ o hk,hd⟩
  ·have z:∃o,s.heap.get? p=some o∧o.ExactDict:=by
    rcases hk with ⟨kvs,hk⟩|⟨kvs,hk⟩
    ·obtain ⟨_,_,_,_,o,_,_,e,ex,_⟩:=I.hok p _ hk
     exact ⟨o,e,ex⟩
    ·obtain ⟨_,_,_,_,o,_,_,e,ex,_⟩:=I.hok p _ hk
     exact ⟨o,e,ex⟩
   obtain ⟨o,e,ex⟩:=z
   refine ⟨⟨o,e,ex.1⟩,fun a e2=>?_⟩
   cases e2
   exact ⟨o,e,ex.2.1⟩
  ·obtain ⟨o,_,_,_,e,ex,_⟩:=I.hok p _ hk
   refine ⟨⟨o,e,ex.1⟩,fun a e2=>?_⟩
   cases e2
   exact ⟨o,e,ex.2.1⟩
 |_=>exact False.elim ty
def As (K:PySem.W.Frag) (T:String) (r:V->List V->Hp->VK->Prop) (to:TE):TE:=fun σ H Q=>to σ H fun x H1=>tyV K T x H1∧r x [] H1 Q
def tBM (K:PySem.W.Frag) (T:String) (r:V->List V->Hp->VK->Prop) (to:TE) (t:TA):TE:=fun σ H Q=>to σ H fun x H1=>tyV K T x H1∧t σ H1 fun xs H2=>r x xs H2 Q
variable {o e:Expr} {es:List Expr} {to:TE} {t:TA} {name:Str} {apos cpos:Pos} {T id:String} {r:V->List V->Hp->VK->Prop}
theorem JY (pa:PlainAttrs T) (slot:Slot T name id) (hty:typeOf (.builtin id)=pure (.type "method_descriptor")) (hm:MtR X id r) (ho:PE X o to)
    (hbase:attributeBase o name X.env (eval o X.env)=eval o X.env:=by rfl) (hline:(apos.endLine == cpos.line)=true:=by rfl):PE X (.Call (.Attribute o name apos) [] [] cpos) (As X.K T r to):=by
 intro pins s σ H Q I h
 refine wpAny_Call_method0_late hbase hline (thn (ho pins s σ H _ I h) fun v s1 ⟨x,H1,I1,r1,ty,q1⟩=>?_)
 obtain ⟨h1,h2⟩:=J9 I1 r1 ty
 exact ⟨T,id,pa,slot,hty,h1,h2,Calls.callWith_builtin rfl (PySem.evalArgs_none (hm pins s1 σ H1 x [] v [] Q I1 r1 .nil q1))⟩
theorem BA (pa:PlainAttrs T) (slot:Slot T name id) (hty:typeOf (.builtin id)=pure (.type "method_descriptor")) (hm:MtR X id r) (ho:PE X o to) (ha:PA X (e::es) t)
    (hbase:attributeBase o name X.env (eval o X.env)=eval o X.env:=by rfl)
    (hfew:((backTo cpos (starEach (e::es) X.env)).all (fun x=>!x.1)&&(backToKw cpos (keywordEach [] X.env)).all (fun x=>x.1.isSome)
     && decide ((e::es).length+([]:List Keyword).length+(if ([]:List Keyword).isEmpty then 0 else 1) < 30))=true:=by rfl)
    (hline:(apos.endLine == cpos.line)=true:=by rfl) (hs:starEach (e::es) X.env=(false,eval e X.env)::starEach es X.env:=by rfl) (hplain:(backTo cpos (starEach es X.env)).any (·.1)=false:=by rfl) :
    PE X (.Call (.Attribute o name apos) (e::es) [] cpos) (tBM X.K T r to t):=by
 intro pins s σ H Q I h
 refine wpAny_Call_method_late hbase hfew hline rfl (thn (ho pins s σ H _ I h) fun v s1 ⟨x,H1,I1,r1,ty,q1⟩=>?_)
 obtain ⟨h1,h2⟩:=J9 I1 r1 ty
 refine ⟨T,id,pa,slot,hty,h1,h2,?_⟩
 have hA:=ha cpos pins s1 σ H1 _ I1 q1
 rw[hs]at hA ⊢
 refine Calls.callWith_builtin (by show (false || (backTo cpos (starEach es X.env)).any (·.1))=false; rw[hplain] <;> rfl) (Calls.evalArgs_plain ?_)
 exact thn hA fun us s2 ⟨vs,H2,I2,r2,q2⟩=>hm pins s2 σ H2 x vs v us Q I2 r1 r2 q2
end
open PySem PySem.Spec PyProof.Rows
def MtM (X:Cx) (id:String) (r:V->List V->Hp->VK->Prop):Prop :=
 ∀(pins:List (Addr × Obj)) (s:Shared) (σ:St) (H:Hp) (x:V) (xs:List V) (v:Value) (us:List Value) (Q:VK),Inv X pins σ H s->RelV x v->Vals xs us->r x xs H Q ->
  wpAny (model X.prog X.w) X.A (call (.builtin id) (v::us)) (EP X pins σ Q) X.xe s
theorem Vals.one:∀{x:V} {us:List Value},Vals [x] us->∃u,us=[u]∧RelV x u
 |_,_,.cons r .nil=>⟨_,rfl,r⟩
theorem Vals.zero:∀{us:List Value},Vals [] us->us=[]
 |_,.nil=>rfl
theorem Vals.reverse {xs:List V} {us:List Value} (h:Vals xs us):Vals xs.reverse us.reverse:=by
 induction h with
 |nil=>exact .nil
 |cons r t ih=>rw[List.reverse_cons,List.reverse_cons]; exact Vals.append ih (.cons r .nil)
section
variable {X:Cx} {pins:List (Addr × Obj)} {σ:St} {H:Hp} {s:Shared} {l b:Addr} {xs ys zs:List V}
theorem Inv.lset {its its':List Value} {n:Nat} {f:Array Value->Array Value} {t':Nat} (I:Inv X pins σ H s) (hH:H l=some (.lst xs))
    (e:s.heap.get? l=some { cls:=.type "list",data:=.seq its.toArray n }) (hf:f its.toArray=its'.toArray) (hv:Vals ys its') (hz:ys.length<=sizeLine) :
    Inv X pins σ (upd H l (.lst ys)) { s with heap:=s.heap.update l (Obj.mapSeq f),toks:=t' }:=by
 have q:=PySem.IsL.update e f
 rw[hf]at q
 refine I.write (x:=l) (e:=l) (by rw[hH]; exact trivial) (.inl rfl) (fun b' u hb hu=>(Heap.get?_update_other s.heap (Obj.mapSeq f) (Ne.symm hb)).trans hu) ⟨_,q⟩ ?_
 exact ⟨hz,its',_,hv,q⟩
theorem Inv.lnew {its:List Value} {t':Nat} (I:Inv X pins σ H s) (hv:Vals ys its) (hz:ys.length<=sizeLine) :
    Inv X pins σ (upd H s.heap.objs.size (.lst ys)) { s with heap:=s.heap.push { cls:=.type "list",data:=.seq its.toArray },toks:=t' } :=
 I.laid (fun _ _ q=>Heap.get?_push_of_some _ q) (Nat.le_refl _) ⟨hz,its,0,hv,Heap.get?_push_size _ rfl⟩
theorem Inv.fresh (I:Inv X pins σ H s):H s.heap.objs.size=none:=I.hok.fresh (Nat.le_refl _)
theorem Inv.lstM (I:Inv X pins σ H s) (hH:H l=some (.lst xs)):xs.length<=sizeLine∧∃(its:List Value) (n:Nat),Vals xs its∧xs.length=its.length∧s.heap.get? l=some { cls:=.type "list",data:=.seq its.toArray n }:=by
 obtain ⟨z,its,n,r,e⟩:=I.hok l _ hH
 exact ⟨z,its,n,r,r.length,e⟩
theorem He {n:Nat} (h:n<=sizeLine):Builtin.List.listTooLong n=false:=by
 unfold Builtin.List.listTooLong
 exact decide_eq_false (by omega)
end
section
variable {X:Cx}
def N8:V->List V->Hp->VK->Prop:=fun x vs H Q=>∃l xs,x=.ref l∧vs=[]∧H l=some (.lst xs)∧Q .non (upd H l (.lst xs.reverse))
theorem Mv:MtM X "list.reverse" N8:=by
 intro pins s σ H x vs v us Q I rx rv h
 obtain ⟨l,xs,rfl,rfl,hH,q⟩:=h
 cases rx
 have hus:=rv.zero
 subst hus
 obtain ⟨z,its,n,r,hl,e⟩:=I.lstM hH
 refine call_meets F.slot_list_reverse ⟨_,e,rfl⟩ F.entry_list_reverse (F.args_list_reverse_1 _) (AutoSeq1.list_reverse_list_0 l its.toArray n (by rw[List.size_toArray]; omega)) ⟨e,?_⟩
 refine ⟨.non,_,I.lset (its':=its.reverse) hH e (by simp) r.reverse ?_,rfl,q⟩
 rw[List.length_reverse]
 omega
end
section
variable {prog:Program} {w:World} {A:Around} {E:Value->Shared->Prop} {s:Shared}
end
section
variable {X:Cx}
end
open PySem PySem.Spec PyProof.Rows
section
variable {κ:Type} [DecidableEq κ]
def UJ (kvs:List (κ × V)) (k:κ):Option V:=(kvs.find? fun kv=>decide (kv.1=k)).map (·.2)
def UP (kvs:List (κ × V)) (k:κ) (v:V):List (κ × V) :=
 if (kvs.any fun kv=>decide (kv.1=k))=true then kvs.map (fun kv=>if kv.1=k then (kv.1,v) else kv) else kvs++[(k,v)]
theorem Rv {p:κ × V} {r:List (κ × V)} {k:κ} (e:p.1=k):UJ (p::r) k=some p.2:=by simp[UJ,List.find?_cons,e]
theorem RB {p:κ × V} {r:List (κ × V)} {k:κ} (e:¬ p.1=k):UJ (p::r) k=UJ r k:=by simp[UJ,List.find?_cons,e]
theorem NO (k:κ):∀kvs:List (κ × V),(kvs.any fun kv=>decide (kv.1=k))=(UJ kvs k).isSome
 |[]=>rfl
 |p::r=>by
  rw[List.any_cons]
  by_cases e:p.1=k
  ·simp only[Rv e,decide_eq_true e,Bool.true_or,Option.isSome_some]
  ·rw[RB e,decide_eq_false e,Bool.false_or]; exact NO k r
theorem T6 (kvs:List (κ × V)) (k:κ) (v:V):(UP kvs k v).length<=kvs.length+1:=by
 unfold UP
 split
 ·rw[List.length_map]; omega
 ·rw[List.length_append,List.length_cons,List.length_nil]; omega
theorem RelO.isSome_eq {o:Option V} {u:Option Value} (r:RelO o u):o.isSome=u.isSome:=by
 cases o with
 |none=>cases u with
  |none=>rfl
  |some _=>exact (show False from r).elim
 |some _=>cases u with
  |none=>exact (show False from r).elim
  |some _=>rfl
theorem RelO.getD {o:Option V} {u:Option Value} {d:V} {d':Value} (r:RelO o u) (rd:RelV d d'):RelV (o.getD d) (u.getD d'):=by
 cases o with
 |none=>cases u with
  |none=>exact rd
  |some _=>exact (show False from r).elim
 |some _=>cases u with
  |none=>exact (show False from r).elim
  |some _=>exact r
theorem KV.val {kvs:List (κ × V)} {vs:List (κ × Value)} (r:KV kvs vs) (k:κ):RelO (UJ kvs k) (valueAt vs k):=by
 unfold KV at r
 induction r with
 |nil=>exact True.intro
 |@cons p q ps qs h t ih =>
  obtain ⟨h1,h2⟩:=h
  by_cases e:p.1=k
  ·have e':q.1=k:=h1.symm.trans e
   have b:valueAt (q::qs) k=some q.2:=by simp[valueAt,List.find?_cons,e']
   rw[Rv e,b]; exact h2
  ·have e':¬ q.1=k:=fun z=>e (h1.trans z)
   have b:valueAt (q::qs) k=valueAt qs k:=by simp[valueAt,List.find?_cons,e']
   rw[RB e,b]; exact ih
theorem KV.any {kvs:List (κ × V)} {vs:List (κ × Value)} (r:KV kvs vs) (k:κ):(kvs.any fun kv=>decide (kv.1=k))=vs.any fun kv=>decide (kv.1=k):=by
 unfold KV at r
 induction r with
 |nil=>rfl
 |cons h t ih=>rw[List.any_cons,List.any_cons,ih,h.1]
theorem KV.repl {kvs:List (κ × V)} {vs:List (κ × Value)} (r:KV kvs vs) (k:κ) {y:V} {u:Value} (ry:RelV y u) :
    KV (kvs.map fun kv=>if kv.1=k then (kv.1,y) else kv) (vs.map fun kv=>if kv.1=k then (kv.1,u) else kv):=by
 unfold KV at r ⊢
 induction r with
 |nil=>exact .nil
 |@cons p q ps qs h t ih =>
  rw[List.map_cons,List.map_cons]
  refine .cons ?_ ih
  obtain ⟨h1,h2⟩:=h
  by_cases e:p.1=k
  ·rw[if_pos e,if_pos (h1.symm.trans e)]; exact ⟨h1,ry⟩
  ·rw[if_neg e,if_neg (fun z=>e (h1.trans z))]; exact ⟨h1,h2⟩
theorem KV.put {kvs:List (κ × V)} {vs:List (κ × Value)} (r:KV kvs vs) (k:κ) {y:V} {u:Value} (ry:RelV y u):KV (UP kvs k y) (stored vs k u):=by
 unfold UP stored
 rw[r.any k]
 by_cases e:(vs.any fun kv=>decide (kv.1=k))=true
 ·rw[if_pos e,if_pos e]; exact r.repl k ry
 ·rw[if_neg e,if_neg e]; exact Paired.snoc r ⟨rfl,ry⟩
theorem KV.length {kvs:List (κ × V)} {vs:List (κ × Value)} (r:KV kvs vs):kvs.length=vs.length:=Paired.length r
end
theorem RT {P:Program} {w:World} {k:Key} {u:Value} (r:RelV (kV k) u):(ZM P w).is k u=true:=by
 cases k with
 |inl i=>obtain ⟨t,e⟩:=(show ∃t,u=Value.int i t from r); subst e; exact O6 P w i t
 |inr x=>obtain ⟨t,e⟩:=(show ∃t,u=Value.str x t from r); subst e; exact N1 P w x t
theorem Q6 {P:Program} {w:World}:∀{ks:List Key} {us:List Value},Vals (ks.map kV) us->ItemsAre (ZM P w) ks us
 |[],_,r=>by rw[List.map_nil]at r; cases r; exact .nil
 |k::ks,_,r=>by
  rw[List.map_cons]at r
  cases r with
  |cons h t=>exact .cons (RT h) (Q6 t)
abbrev KT (H:Hp):List (List Key × V)->List (List Key × Addr × Value)->Prop:=Paired fun p q=>p.1=q.1∧H q.2.1=some (.tup (p.1.map kV))∧RelV p.2 q.2.2
theorem KT.val {H:Hp} {kvs:List (List Key × V)} {xs:List (List Key × Addr × Value)} (r:KT H kvs xs) (k:List Key):RelO (UJ kvs k) ((atKey xs k).map (·.2)):=by
 induction r with
 |nil=>exact True.intro
 |@cons p q ps qs h t ih =>
  obtain ⟨h1,_,h2⟩:=h
  by_cases e:p.1=k
  ·have e':q.1=k:=h1.symm.trans e
   have b:atKey (q::qs) k=some q.2:=by simp[atKey,List.find?_cons,e']
   rw[Rv e,b]; exact h2
  ·have e':¬ q.1=k:=fun z=>e (h1.trans z)
   have b:atKey (q::qs) k=atKey qs k:=by simp[atKey,List.find?_cons,e']
   rw[RB e,b]; exact ih
theorem KT.repl {H:Hp} {kvs:List (List Key × V)} {xs:List (List Key × Addr × Value)} (r:KT H kvs xs) (k:List Key) {y:V} {u:Value} (ry:RelV y u) :
    KT H (kvs.map fun kv=>if kv.1=k then (kv.1,y) else kv) (xs.map (putAt k u)):=by
 induction r with
 |nil=>exact .nil
 |@cons p q ps qs h t ih =>
  rw[List.map_cons,List.map_cons]
  refine .cons ?_ ih
  obtain ⟨h1,h2,h3⟩:=h
  unfold putAt
  by_cases e:p.1=k
  ·rw[if_pos e,if_pos (h1.symm.trans e)]; exact ⟨h1,h2,ry⟩
  ·rw[if_neg e,if_neg (fun z=>e (h1.trans z))]; exact ⟨h1,h2,h3⟩
theorem KT.put {H:Hp} {kvs:List (List Key × V)} {xs:List (List Key × Addr × Value)} (r:KT H kvs xs) (k:List Key) {b:Addr} {y:V} {u:Value} (hb:H b=some (.tup (k.map kV))) (ry:RelV y u) :
    KT H (UP kvs k y) (storedH xs k b u):=by
 have e:(kvs.any fun kv=>decide (kv.1=k))=(atKey xs k).isSome:=by
  rw[NO,(r.val k).isSome_eq,Option.isSome_map]
 unfold UP storedH
 rw[e]
 by_cases q:(atKey xs k).isSome=true
 ·rw[if_pos q,if_pos q]; exact r.repl k ry
 ·rw[if_neg q,if_neg q]; exact Paired.snoc r ⟨rfl,hb,ry⟩
theorem KT.keeps {H H':Hp} {kvs:List (List Key × V)} {xs:List (List Key × Addr × Value)} (r:KT H kvs xs) (ht:∀b ys,H b=some (.tup ys)->H' b=some (.tup ys)):KT H' kvs xs :=
 Paired.mapP r fun _ _ z=>⟨z.1,ht _ _ z.2.1,z.2.2⟩
section
variable {P:Program} {w:World} {H:Hp} {h:Heap} {a:Addr}
theorem EN {u:HO} (ok:HOk P w H h) (e:Rd H a u):ObjOk P w H h a u:=e.ok ok
theorem UA {kvs:List (Key × V)} (ok:HOk P w H h) (e:Rd H a (.dK kvs)):kvs.length<=sizeLine∧(a == sysModules)=false∧∃vs,KV kvs vs∧h.DictOf (ZM P w) a vs :=
 show ObjOk P w H h a (.dK kvs) from EN ok e
theorem BL {kvs:List (Key × V)} (ok:HOk P w H h) (e:H a=some (.dK kvs)):kvs.length<=sizeLine∧(a == sysModules)=false∧∃vs,KV kvs vs∧h.DictOf (ZM P w) a vs:=UA ok (.inl e)
theorem Uo {ks:List Key} (ok:HOk P w H h) (e:H a=some (.tup (ks.map kV))):(tupleKind (ZM P w)).is h ks a:=by
 obtain ⟨_,its,r,o,h1,h2,n,h3⟩:=(show ObjOk P w H h a (.tup (ks.map kV)) from ok a _ e)
 exact ⟨o,its.toArray,n,h1,h2,h3,by simpa using Q6 r⟩
theorem T8 {kvs:List (List Key × V)} (ok:HOk P w H h) (e:Rd H a (.dT kvs)):kvs.length<=sizeLine∧(a == sysModules)=false ∧
    ∃xs,KT H kvs xs∧h.DictOfH (tupleKind (ZM P w)) a xs:=by
 obtain ⟨z,y,xs,r,o,es,ep,h1,h2,h3,h4,h5⟩:=(show ObjOk P w H h a (.dT kvs) from EN ok e)
 refine ⟨z,y,xs,r,o,es,ep,h1,h2,h3,h4,fun x hx=>?_,h5⟩
 have all:∀{l:List (List Key × V)} {m:List (List Key × Addr × Value)},KT H l m->∀x∈m,(tupleKind (ZM P w)).is h x.1 x.2.1:=by
  intro l m q
  induction q with
  |nil=>intro x hx; exact nomatch hx
  |@cons p q ps qs hq t ih =>
   intro x hx
   rcases List.mem_cons.mp hx with e|hx
   ·subst e
    exact Uo ok (by rw[← hq.1]; exact hq.2.1)
   ·exact ih x hx
 exact all r x hx
theorem BZ {kvs:List (List Key × V)} (ok:HOk P w H h) (e:H a=some (.dT kvs)):kvs.length<=sizeLine∧(a == sysModules)=false ∧
    ∃xs,KT H kvs xs∧h.DictOfH (tupleKind (ZM P w)) a xs:=T8 ok (.inl e)
end
def DGet (H:Hp) (a:Addr) (y:V) (r:Option V):Prop :=
 (∃kvs k,Rd H a (.dK kvs)∧y=kV k∧r=UJ kvs k)∨∃kvs k b,Rd H a (.dT kvs)∧y=.ref b∧H b=some (.tup (k.map kV))∧r=UJ kvs k
def DPut (H:Hp) (a:Addr) (y v:V) (H':Hp):Prop :=
 (∃kvs k,H a=some (.dK kvs)∧y=kV k∧kvs.length < sizeLine∧H'=upd H a (.dK (UP kvs k v))) ∨
 ∃kvs k b,H a=some (.dT kvs)∧y=.ref b∧H b=some (.tup (k.map kV))∧kvs.length < sizeLine∧H'=upd H a (.dT (UP kvs k v))
theorem DGet.k {H:Hp} {a:Addr} {kvs:List (Key × V)} {k:Key} (e:H a=some (.dK kvs)):DGet H a (kV k) (UJ kvs k):=.inl ⟨kvs,k,.inl e,rfl,rfl⟩
theorem DGet.t {H:Hp} {a b:Addr} {kvs:List (List Key × V)} {k:List Key} (e:H a=some (.dT kvs)) (eb:H b=some (.tup (k.map kV))):DGet H a (.ref b) (UJ kvs k):=.inr ⟨kvs,k,b,.inl e,rfl,eb,rfl⟩
theorem DPut.k {H:Hp} {a:Addr} {kvs:List (Key × V)} {k:Key} {v:V} (e:H a=some (.dK kvs)) (hl:kvs.length < sizeLine):DPut H a (kV k) v (upd H a (.dK (UP kvs k v))):=.inl ⟨kvs,k,e,rfl,hl,rfl⟩
theorem DPut.t {H:Hp} {a b:Addr} {kvs:List (List Key × V)} {k:List Key} {v:V} (e:H a=some (.dT kvs)) (eb:H b=some (.tup (k.map kV))) (hl:kvs.length < sizeLine) :
    DPut H a (.ref b) v (upd H a (.dT (UP kvs k v))):=.inr ⟨kvs,k,b,e,rfl,eb,hl,rfl⟩
section
variable {X:Cx} {pins:List (Addr × Obj)} {σ:St} {H:Hp} {s:Shared} {a:Addr} {y v:V} {u r:Value} {o:Option V} {A:Around} {E:Value->Shared->Prop}
theorem Inv.big (I:Inv X pins σ H s):sysModules < s.heap.objs.size:=by
 have h:mainGlobals < s.heap.objs.size:=(I.mod.glob.keeps I.bk).lt
 exact Nat.lt_trans (by decide) h
theorem KN {Q:Value->Shared->Prop} (hu:A.units+1 < cLine) (I:Inv X pins σ H s) (g:DGet H a y (some v)) (ry:RelV y u) (h:∀w' s',Inv X pins σ H s'->RelV v w'->Q w' s') :
    wpAny (model X.prog X.w) A (getItem (.ref a) u) Q E s:=by
 rcases g with ⟨kvs,k,e,ey,l⟩|⟨kvs,k,b,e,ey,eb,l⟩
 ·subst ey
  obtain ⟨z,hd,vs,rel,dd⟩:=UA I.hok e
  obtain ⟨w',hw,rw'⟩:=RelO.some_of (v:=v) (o:=valueAt vs k) (by rw[l]; exact rel.val k)
  exact wpAny_getItem_of (RT ry) dd.mapOf hw (h w' _ (I.tok _) rw')
 ·subst ey
  cases (show u=Value.ref b from ry)
  obtain ⟨z,hd,xs,rel,dd⟩:=T8 I.hok e
  obtain ⟨w',hw,rw'⟩:=RelO.some_of (v:=v) (o:=(atKey xs k).map (·.2)) (by rw[l]; exact rel.val k)
  obtain ⟨p,hp,hp2⟩:=Option.map_eq_some_iff.mp hw
  refine wpAny_getItem_heap (tupleKind_room_in1 hu) (Uo I.hok eb) dd hp ?_
  rw[hp2]
  exact h w' _ (I.tok _) rw'
theorem Az {Q:Value->Shared->Prop} (hu:A.units+1 < cLine) (I:Inv X pins σ H s) (g:DGet H a y o) (ry:RelV y u) (h:∀s',Inv X pins σ H s'->Q (.bool o.isSome) s') :
    wpAny (model X.prog X.w) A (compareOp .In u (.ref a)) Q E s:=by
 rcases g with ⟨kvs,k,e,ey,l⟩|⟨kvs,k,b,e,ey,eb,l⟩
 ·subst ey
  obtain ⟨z,hd,vs,rel,dd⟩:=UA I.hok e
  refine wpAny_in_of (RT ry) hd dd.mapOf ?_
  rw[← (rel.val k).isSome_eq,← l]
  exact h _ (I.tok _)
 ·subst ey
  cases (show u=Value.ref b from ry)
  obtain ⟨z,hd,xs,rel,dd⟩:=T8 I.hok e
  refine wpAny_in_heap (tupleKind_room_in1 hu) (Uo I.hok eb) hd dd ?_
  have q:=(rel.val k).isSome_eq
  rw[Option.isSome_map]at q
  rw[← q,← l]
  exact h _ (I.tok _)
theorem Fp {Q:Value->Shared->Prop} (hu:A.units+1 < cLine) (I:Inv X pins σ H s) (g:DGet H a y o) (ry:RelV y u) (h:∀s',Inv X pins σ H s'->Q (.bool (!o.isSome)) s') :
    wpAny (model X.prog X.w) A (compareOp .NotIn u (.ref a)) Q E s:=by
 rcases g with ⟨kvs,k,e,ey,l⟩|⟨kvs,k,b,e,ey,eb,l⟩
 ·subst ey
  obtain ⟨z,hd,vs,rel,dd⟩:=UA I.hok e
  refine wpAny_notIn_of (RT ry) hd dd.mapOf ?_
  rw[← (rel.val k).isSome_eq,← l]
  exact h _ (I.tok _)
 ·subst ey
  cases (show u=Value.ref b from ry)
  obtain ⟨z,hd,xs,rel,dd⟩:=T8 I.hok e
  refine wpAny_notIn_heap (tupleKind_room_in1 hu) (Uo I.hok eb) hd dd ?_
  have q:=(rel.val k).isSome_eq
  rw[Option.isSome_map]at q
  rw[← q,← l]
  exact h _ (I.tok _)
theorem L7 {h':Heap} {t':Nat} {ob:HO} (I:Inv X pins σ H s) (mu:Mut (H a)) (hs:Heap.SameBut a s.heap h') (he:∃q,h'.get? a=some q) (new:ObjOk X.prog X.w (upd H a ob) h' a ob) :
    Inv X pins σ (upd H a ob) { s with heap:=h',toks:=t' } :=
 I.write (x:=a) (e:=a) mu (.inl rfl) (fun b q hb z=>(hs.2 b hb).trans z) he new
theorem Dl {P:Program} {w:World} {H':Hp} {h':Heap} {kvs:List (Key × V)} {vs:List (Key × Value)} (z:kvs.length<=sizeLine) (hd:(a == sysModules)=false) (rel:KV kvs vs) (dd:h'.DictOf (ZM P w) a vs) :
    ObjOk P w H' h' a (.dK kvs):=⟨z,hd,vs,rel,dd⟩
theorem Jk {H':Hp} {Q:Unit->Shared->Prop} (hu:A.units+1 < cLine) (I:Inv X pins σ H s) (g:DPut H a y v H') (ry:RelV y u) (rv:RelV v r) (h:∀s',Inv X pins σ H' s'->Q () s') :
    wpAny (model X.prog X.w) A (setItem (.ref a) u r) Q E s:=by
 rcases g with ⟨kvs,k,e,ey,l,eH⟩|⟨kvs,k,b,e,ey,eb,l,eH⟩
 ·subst ey eH
  obtain ⟨z,hd,vs,rel,dd⟩:=BL I.hok e
  have hz:vs.length<=sizeLine:=by rw[← rel.length]; exact z
  have hl:(UP kvs k v).length<=sizeLine:=by have:=T6 kvs k v; omega
  refine wpAny_setItem_pairs (hsz:=hz) (RT ry) dd fun h' dd' hs=>h _ ?_
  have he:∃q,h'.get? a=some q:=let ⟨q,_,_,hq,_⟩:=dd'; ⟨q,hq⟩
  exact L7 I (by rw[e]; exact True.intro) hs he (Dl hl hd (rel.put k rv) dd')
 ·subst ey eH
  cases (show u=Value.ref b from ry)
  obtain ⟨z,hd,xs,rel,dd⟩:=BZ I.hok e
  have hz:xs.length<=sizeLine:=by rw[← Paired.length rel]; exact z
  have hl:(UP kvs k v).length<=sizeLine:=by have:=T6 kvs k v; omega
  refine wpAny_setItem_heap (hsz:=hz) (tupleKind_room_in1 hu) (Uo I.hok eb) dd fun h' dd' hs=>h _ ?_
  obtain ⟨q,es,ep,hq,h2,h3,h4,_,h5⟩:=dd'
  refine L7 I (by rw[e]; exact True.intro) hs ⟨q,hq⟩ ⟨hl,hd,_,(rel.put k eb rv).keeps fun c ys ec=>?_,q,es,ep,hq,h2,h3,h4,h5⟩
  rw[Zr (Ae ec e (fun z=>nomatch z))]
  exact ec
end
section
variable {X:Cx} {pins:List (Addr × Obj)} {σ:St} {H:Hp} {s:Shared} {a:Addr} {kvs:List (Key × V)} {k:Key} {u:Value} {A:Around} {E:Value->Shared->Prop}
theorem Ac {Q:Value->Shared->Prop} (I:Inv X pins σ H s) (e:Rd H a (.dK kvs)) (h:∀t s',Inv X pins σ H s'->Q (.int kvs.length t) s'):wpAny (model X.prog X.w) A (call (.builtin "len") [.ref a]) Q E s:=by
 obtain ⟨z,hd,vs,rel,dd⟩:=UA I.hok e
 refine call_len_dict hd dd (by rw[← rel.length]; rw[sizeLine_eq]at z; omega) ?_
 rw[← rel.length]
 exact h _ _ (I.tok _)
end
def DX (i:Expr):Prop:=∀ov iv,subscripted i false ov iv=operate [ov,iv] (getItem ov iv)
theorem FV {prog:Program} {w:World} {A:Around} {E:Value->Shared->Prop} {s:Shared} {env:Env} {value slice:Expr} {pos:Pos} {T id:String} {Q:Value->Shared->Prop}
    (hl:typeLookup (.type T) "__getitem__"=pure (some (.builtin id))) (hs:DX slice)
    (h:wpAny (model prog w) A (eval value env) (fun o s₁=>wpAny (model prog w) A (eval slice env) (fun i s₂=>s₂.TypeIs o T∧wpAny (model prog w) A (getItem o i) Q E s₂) E s₁) E s) :
    wpAny (model prog w) A (eval (.Subscript value slice pos) env) Q E s:=by
 refine Subscript_ (wpAny_mono h (fun o s₁ h₁=>wpAny_mono h₁ (fun i s₂ h₂=>?_) fun _ _ x=>x) fun _ _ x=>x)
 obtain ⟨hT,h₂⟩:=h₂
 unfold subscriptTail
 refine wpAny_bind ?_
 rw[getitemInPython_of_ne hT.not_modules]
 refine wpAny_bind (wpAny_specialOf hT hl ?_)
 have fin:wpAny (model prog w) A (subscripted slice false o i) (fun r s₃=>wpAny (model prog w) A (letTemporaryGo value o r >>= fun _=>pure r) Q E s₃) E s₂:=by
  rw[hs o i]
  exact wpAny_operating (wpAny_mono h₂ (fun r s₃ h₃=>wpAny_bind (wpAny_letTemporaryGo (wpAny_pure h₃))) fun _ _ x=>x)
 first
  |exact wpAny_pure (wpAny_bind fin)
  |exact wpAny_bind (wpAny_pure (wpAny_bind fin))
  |exact wpAny_bind fin
theorem NU {X:Cx} {pins:List (Addr × Obj)} {σ:St} {H:Hp} {s:Shared} {a:Addr} {y:V} {o:Option V} (I:Inv X pins σ H s) (g:DGet H a y o):s.TypeIs (.ref a) "dict":=by
 rcases g with ⟨kvs,k,e,_,_⟩|⟨kvs,k,b,e,_,_,_⟩
 ·obtain ⟨_,_,vs,_,dd⟩:=UA I.hok e
  exact dd.typeIs
 ·obtain ⟨_,_,xs,_,dd⟩:=T8 I.hok e
  exact dd.typeIs
def C2 (td ty:TE):TE:=fun σ H Q=>td σ H fun x H1=>ty σ H1 fun y H2=>∃a v,x=.ref a∧DGet H2 a y (some v)∧Q v H2
def AJ (ty td:TE):TE:=fun σ H Q=>ty σ H fun y H1=>td σ H1 fun x H2=>∃a o,x=.ref a∧DGet H2 a y o∧Q (.bl o.isSome) H2
def GX (ty td:TE):TE:=fun σ H Q=>ty σ H fun y H1=>td σ H1 fun x H2=>∃a o,x=.ref a∧DGet H2 a y o∧Q (.bl (!o.isSome)) H2
def Bg (td ty tv:TE):TS:=fun D σ H=>tv σ H fun v H1=>td σ H1 fun x H2=>ty σ H2 fun y H3=>∃a H4,x=.ref a∧DPut H3 a y v H4∧D.nx σ H4
section
variable {X:Cx} {o i e value:Expr} {pos pos' tpos:Pos} {td ty tv:TE}
theorem Eb (hu:X.A.units+1 < cLine) (ho:PE X o td) (hi:PE X i ty) (hs:DX i):PE X (.Subscript o i pos) (C2 td ty):=by
 intro pins s σ H Q I h
 refine FV PySem.F.slot_dict_getitem.lookup hs (thn (ho pins s σ H _ I h) fun u s1 ⟨x,H1,I1,rx,q1⟩=>thn (hi pins s1 σ H1 _ I1 q1) fun iv s2 ⟨y,H2,I2,ry,a,v,ex,g,q2⟩=>?_)
 subst ex
 obtain rfl:u=Value.ref a:=rx
 exact ⟨NU I2 g,KN hu I2 g ry fun w' s3 I3 rw'=>⟨v,H2,I3,rw',q2⟩⟩
theorem Ib (hu:X.A.units+1 < cLine) (hi:PE X i ty) (ho:PE X o td):PC X .In i o (AJ ty td):=by
 intro pins s σ H Q I h
 refine thn (hi pins s σ H _ I h) fun iv s1 ⟨y,H1,I1,ry,q1⟩=>thn (ho pins s1 σ H1 _ I1 q1) fun u s2 ⟨x,H2,I2,rx,a,ov,ex,g,q2⟩=>?_
 subst ex
 obtain rfl:u=Value.ref a:=rx
 exact Az hu I2 g ry fun s3 I3=>⟨.bl ov.isSome,H2,I3,rfl,q2⟩
theorem KM (hu:X.A.units+1 < cLine) (hi:PE X i ty) (ho:PE X o td):PC X .NotIn i o (GX ty td):=by
 intro pins s σ H Q I h
 refine thn (hi pins s σ H _ I h) fun iv s1 ⟨y,H1,I1,ry,q1⟩=>thn (ho pins s1 σ H1 _ I1 q1) fun u s2 ⟨x,H2,I2,rx,a,ov,ex,g,q2⟩=>?_
 subst ex
 obtain rfl:u=Value.ref a:=rx
 exact Fp hu I2 g ry fun s3 I3=>⟨.bl (!ov.isSome),H2,I3,rfl,q2⟩
theorem G5 (hu:X.A.units+1 < cLine) (ho:PE X o td) (hi:PE X i ty) (hv:PE X value tv) (hs:swapsWith value (some (.Subscript o i pos')) pos.line X.env=pure false) :
    PS X (.Assign [.Subscript o i pos'] value pos) (Bg td ty tv):=by
 intro pins s σ H D I h
 refine wpAny_Assign_Subscript (thn (hv pins s σ H _ I h) fun r s1 ⟨v,H1,I1,rv,q1⟩=>thn (ho pins s1 σ H1 _ I1 q1) fun u s2 ⟨x,H2,I2,rx,q2⟩=>thn (hi pins s2 σ H2 _ I2 q2) fun iv s3 ⟨y,H3,I3,ry,a,H4,ex,g,q3⟩=>?_) hs
 subst ex
 obtain rfl:u=Value.ref a:=rx
 exact Jk hu I3 g ry rv fun s4 I4=>⟨σ,H4,I4,q3⟩
end
theorem J6 {P:Program} {w:World} {H:Hp} (h:Heap) (hb:sysModules < h.objs.size):ObjOk P w H (h.push { cls:=.type "dict",data:=.dict #[] }) h.objs.size (.dK []) :=
 ⟨Nat.zero_le _,beq_eq_false_iff_ne.mpr (Ne.symm (Nat.ne_of_lt hb)),[],.nil,Heap.DictOf.new h⟩
theorem JZ {P:Program} {w:World} {H:Hp} (h:Heap) (hb:sysModules < h.objs.size):ObjOk P w H (h.push { cls:=.type "dict",data:=.dict #[] }) h.objs.size (.dT []) :=
 ⟨Nat.zero_le _,beq_eq_false_iff_ne.mpr (Ne.symm (Nat.ne_of_lt hb)),[],.nil,_,#[],0,Heap.get?_push_size _ rfl,⟨rfl,rfl,rfl⟩,rfl,rfl,List.nodup_nil⟩
def DK:TE:=fun _ H Q=>∀p,H p=none->Q (.ref p) (upd H p (.dK []))
def Dr:TE:=fun _ H Q=>∀p,H p=none->Q (.ref p) (upd H p (.dT []))
section
variable {X:Cx} {pos:Pos}
theorem JR:PE X (.Dict [] [] pos) DK:=fun pins s σ H Q I h =>
 wpAny_Dict_empty ⟨.ref s.heap.objs.size,_,I.laid (a:=s.heap.objs.size) (o:=.dK []) (t':=s.toks) (fun _ _ q=>Heap.get?_push_of_some _ q) (Nat.le_refl _) (J6 s.heap I.big),rfl,h _ (I.hok.fresh (Nat.le_refl _))⟩
theorem J8:PE X (.Dict [] [] pos) Dr:=fun pins s σ H Q I h =>
 wpAny_Dict_empty ⟨.ref s.heap.objs.size,_,I.laid (a:=s.heap.objs.size) (o:=.dT []) (t':=s.toks) (fun _ _ q=>Heap.get?_push_of_some _ q) (Nat.le_refl _) (JZ s.heap I.big),rfl,h _ (I.hok.fresh (Nat.le_refl _))⟩
end
structure M1 (X:Cx) (o:Expr) (m:Str) (apos:Pos) (e:Expr) (cpos:Pos):Prop where
 base:attributeBase o m X.env (eval o X.env)=eval o X.env
 few:((backTo cpos (starEach [e] X.env)).all (fun x=>!x.1)&&(backToKw cpos (keywordEach [] X.env)).all (fun x=>x.1.isSome)
  && decide (([e]:List Expr).length+([]:List Keyword).length+(if ([]:List Keyword).isEmpty then 0 else 1) < 30))=true
 line:(apos.endLine == cpos.line)=true
 trees:backTo cpos (starEach [e] X.env)=[(false,eval e X.env)]
structure M2 (X:Cx) (o:Expr) (m:Str) (apos:Pos) (e f:Expr) (cpos:Pos):Prop where
 base:attributeBase o m X.env (eval o X.env)=eval o X.env
 few:((backTo cpos (starEach [e,f] X.env)).all (fun x=>!x.1)&&(backToKw cpos (keywordEach [] X.env)).all (fun x=>x.1.isSome)
  && decide (([e,f]:List Expr).length+([]:List Keyword).length+(if ([]:List Keyword).isEmpty then 0 else 1) < 30))=true
 line:(apos.endLine == cpos.line)=true
 trees:backTo cpos (starEach [e,f] X.env)=[(false,eval e X.env),(false,eval f X.env)]
def IsD (H:Hp) (a:Addr):Prop:=(∃kvs,Rd H a (.dK kvs))∨∃kvs,Rd H a (.dT kvs)
theorem Gi {X:Cx} {pins:List (Addr × Obj)} {σ:St} {H:Hp} {s:Shared} {a:Addr} (I:Inv X pins σ H s) (d:IsD H a) :
    s.TypeIs (.ref a) "dict"∧(∀b,Value.ref a=.ref b->∃ob,s.heap.get? b=some ob∧ob.dict=none)∧(a == sysModules)=false:=by
 rcases d with ⟨kvs,e⟩|⟨kvs,e⟩
 ·obtain ⟨_,hd,vs,_,dd⟩:=UA I.hok e
  refine ⟨dd.typeIs,fun b q=>?_,hd⟩
  cases q
  obtain ⟨ob,_,_,h1,h2,_⟩:=dd
  exact ⟨ob,h1,h2.2.1⟩
 ·obtain ⟨_,hd,xs,_,dd⟩:=T8 I.hok e
  refine ⟨dd.typeIs,fun b q=>?_,hd⟩
  cases q
  obtain ⟨ob,_,_,h1,h2,_⟩:=dd
  exact ⟨ob,h1,h2.2.1⟩
section
variable {X:Cx} {pins:List (Addr × Obj)} {σ:St} {H:Hp} {s:Shared} {a:Addr} {y d:V} {u r:Value} {o:Option V} {A:Around} {E:Value->Shared->Prop}
theorem Dy {Q:Value->Shared->Prop} (hu:A.units+1 < cLine) (I:Inv X pins σ H s) (g:DGet H a y o) (ry:RelV y u) (h:∀w' s',Inv X pins σ H s'->RelV (o.getD .non) w'->Q w' s') :
    wpAny (model X.prog X.w) A (call (.builtin "dict.get") [.ref a,u]) Q E s:=by
 rcases g with ⟨kvs,k,e,ey,l⟩|⟨kvs,k,b,e,ey,eb,l⟩
 ·subst ey
  obtain ⟨z,hd,vs,rel,dd⟩:=UA I.hok e
  refine call_meetsIn PySem.F.slot_dict_get dd.typeIs PySem.F.entry_dict_get (PySem.F.args_dict_get_2 _ _) (meets_dict_get (ZM X.prog X.w) a (RT ry) hd) ⟨_,dd.mapOf,h _ _ (I.tok _) ?_⟩
  rw[l]
  exact (rel.val k).getD rfl
 ·subst ey
  cases (show u=Value.ref b from ry)
  obtain ⟨z,hd,xs,rel,dd⟩:=T8 I.hok e
  refine call_meetsIn PySem.F.slot_dict_get dd.typeIs PySem.F.entry_dict_get (PySem.F.args_dict_get_2 _ _) (meetsH_dict_get (tupleKind (ZM X.prog X.w)) a b hd) ⟨tupleKind_room_in1 hu,k,xs,Uo I.hok eb,dd,h _ _ (I.tok _) ?_⟩
  rw[l]
  exact (rel.val k).getD rfl
theorem Dv {Q:Value->Shared->Prop} (hu:A.units+1 < cLine) (I:Inv X pins σ H s) (g:DGet H a y o) (ry:RelV y u) (rd:RelV d r) (h:∀w' s',Inv X pins σ H s'->RelV (o.getD d) w'->Q w' s') :
    wpAny (model X.prog X.w) A (call (.builtin "dict.get") [.ref a,u,r]) Q E s:=by
 rcases g with ⟨kvs,k,e,ey,l⟩|⟨kvs,k,b,e,ey,eb,l⟩
 ·subst ey
  obtain ⟨z,hd,vs,rel,dd⟩:=UA I.hok e
  refine call_meetsIn PySem.F.slot_dict_get dd.typeIs PySem.F.entry_dict_get (PySem.F.args_dict_get_3 _ _ _) (meets_dict_get_default (ZM X.prog X.w) a (RT ry) hd r) ⟨_,dd.mapOf,h _ _ (I.tok _) ?_⟩
  rw[l]
  exact (rel.val k).getD rd
 ·subst ey
  cases (show u=Value.ref b from ry)
  obtain ⟨z,hd,xs,rel,dd⟩:=T8 I.hok e
  refine call_meetsIn PySem.F.slot_dict_get dd.typeIs PySem.F.entry_dict_get (PySem.F.args_dict_get_3 _ _ _) (meetsH_dict_get_default (tupleKind (ZM X.prog X.w)) a b hd r) ⟨tupleKind_room_in1 hu,k,xs,Uo I.hok eb,dd,h _ _ (I.tok _) ?_⟩
  rw[l]
  exact (rel.val k).getD rd
end
def Ci (td ty:TE):TE:=fun σ H Q=>td σ H fun x H1=>∃a,x=.ref a∧IsD H1 a∧ty σ H1 fun y H2=>∃o,DGet H2 a y o∧Q (o.getD .non) H2
def Cw (td ty tx:TE):TE:=fun σ H Q=>td σ H fun x H1=>∃a,x=.ref a∧IsD H1 a∧ty σ H1 fun y H2=>tx σ H2 fun z H3=>∃o,DGet H3 a y o∧Q (o.getD z) H3
section
variable {X:Cx} {o e f:Expr} {apos cpos:Pos} {td ty tx:TE}
theorem Hc (hu:X.A.units+1 < cLine) (ho:PE X o td) (he:PE X e ty) (m:M1 X o "get" apos e cpos):PE X (.Call (.Attribute o "get" apos) [e] [] cpos) (Ci td ty):=by
 intro pins s σ H Q I h
 refine wpAny_Call_method m.base m.few m.line PySem.F.plainAttrs_dict PySem.F.slot_dict_get PySem.F.type_dict_get (thn (ho pins s σ H _ I h) fun u s1 ⟨x,H1,I1,rx,a,ex,d,q1⟩=>?_)
 subst ex
 obtain rfl:u=Value.ref a:=rx
 obtain ⟨t1,t2,_⟩:=Gi I1 d
 refine ⟨t1,t2,?_⟩
 rw[m.trees]
 refine Calls.callWith_builtin rfl (Calls.evalArgs_plain (Calls.spliced_cons (thn (he pins s1 σ H1 _ I1 q1) fun iv s2 ⟨y,H2,I2,ry,ov,g,q2⟩=>Calls.spliced_nil ?_)))
 exact Dy hu I2 g ry fun w' s3 I3 rw'=>⟨_,H2,I3,rw',q2⟩
theorem Hr (hu:X.A.units+1 < cLine) (ho:PE X o td) (he:PE X e ty) (hf:PE X f tx) (m:M2 X o "get" apos e f cpos):PE X (.Call (.Attribute o "get" apos) [e,f] [] cpos) (Cw td ty tx):=by
 intro pins s σ H Q I h
 refine wpAny_Call_method m.base m.few m.line PySem.F.plainAttrs_dict PySem.F.slot_dict_get PySem.F.type_dict_get (thn (ho pins s σ H _ I h) fun u s1 ⟨x,H1,I1,rx,a,ex,d,q1⟩=>?_)
 subst ex
 obtain rfl:u=Value.ref a:=rx
 obtain ⟨t1,t2,_⟩:=Gi I1 d
 refine ⟨t1,t2,?_⟩
 rw[m.trees]
 refine Calls.callWith_builtin rfl (Calls.evalArgs_plain (Calls.spliced_cons (thn (he pins s1 σ H1 _ I1 q1) fun iv s2 ⟨y,H2,I2,ry,q2⟩ =>
  Calls.spliced_cons (thn (hf pins s2 σ H2 _ I2 q2) fun fv s3 ⟨z,H3,I3,rz,ov,g,q3⟩=>Calls.spliced_nil ?_))))
 exact Dv hu I3 g ry rz fun w' s4 I4 rw'=>⟨_,H3,I4,rw',q3⟩
end
section
variable {X:Cx} {pins:List (Addr × Obj)} {σ:St} {H:Hp} {s:Shared} {a:Addr} {kvs:List (Key × V)} {A:Around} {E:Value->Shared->Prop}
end
section
variable {X:Cx} {pins:List (Addr × Obj)} {σ:St} {H:Hp} {s:Shared} {a:Addr} {y:V} {u:Value} {A:Around} {E:Value->Shared->Prop}
end
end L2
namespace Att
open PySem PySem.W PySem.Calls PyProof.Rows
theorem Sv {P:Params} {h:Heap}:∀(ns:List Int) (vs:List Value),WellAll P h vs (ns.map WData.int)->IntsAre vs ns:=by
 intro ns
 induction ns with
 |nil =>
  intro vs w
  rw[List.map_nil]at w
  cases w
  exact .nil
 |cons n ns ih =>
  intro vs w
  rw[List.map_cons]at w
  cases w with
  |cons a b =>
   cases a
   exact .cons _ _ (ih _ b)
theorem K6 {l:OpenLaw} {n:Nat} (hn:l.most=some n) {P:Params} {h:Heap} {args:List WData} {vals:List Value}
    (hpre:l.row.toRowW.claim.pre args=true) (hwl:WellAll P h vals args) :
    ∃a vs ns,vals=[Value.ref a]∧args=[WData.list (ns.map WData.int)]∧h.get? a=some { cls:=.type "list",data:=.seq vs.toArray }∧IntsAre vs ns∧ns.length<=n:=by
 have hsh:WShape.hasAll [] args [.list .int]=true:=(pre_splitW hpre).1
 have hc:l.pre.holds [] { args:=args }=true:=(pre_splitW hpre).2
 obtain ⟨d,r,rfl,h1,h2⟩:=hasAllW_cons hsh
 obtain rfl:=hasAllW_nil h2
 obtain ⟨xs,rfl,h3⟩:=hasW_list h1
 obtain ⟨ns,rfl⟩:=items_int h3
 have hlen:ns.length<=n:=by
  unfold OpenLaw.pre at hc
  have h4:(WTm.not (.lt (.lit (.int (n:Int))) (.len (.arg 0)))).holds [] { args:=[.list (ns.map .int)] }=true:=by
   have h4:=(holds_andW hc).1
   rw[hn]at h4
   exact h4
  have h5:=condW_of h4 (w_not (w_lt w_lit (w_len_list (w_arg rfl))))
  rw[List.length_map]at h5
  refine Nat.le_of_not_lt fun q=>?_
  have q':(n:Int) < ((ns.length:Nat):Int):=by omega
  first
   |(rw[decide_eq_true q']at h5; exact absurd h5 (by decide))
   |(simp at h5; omega)
 cases hwl with
 |cons w1 w2 =>
  cases w2
  cases w1 with
  |list ho hall=>exact ⟨_,_,ns,rfl,rfl,ho,Sv ns _ hall,hlen⟩
theorem Kx (l:OpenLaw) (args:List WData):l.row.toRowW.claim.post args (.bool true) args=true :=
 postW_of (r:=l.row.toRowW) (X:=(true == true))
  (show WShape.has [] (.bool true) .bool=true by first|rfl|decide|simp[WShape.has,WShape.arms,WShape.armsAll])
  (show (WTm.eq .res (.lit (.bool true))).value [] { args:=args,res:=some (.bool true),after:=args }=some (.bool (true == true)) from w_eq_bool (w_res rfl) w_lit) rfl
theorem attach_call {l:OpenLaw} {n:Nat} {q:Program} {loose:List Str} {XP:(Str->Option Value)->Heap->Prop} {YP:World->Heap->Prop} {d:DefRec}
    (hn:l.most=some n) (hdf:d.params.defaults=[])
    (call:∀(w:World) (s₀ s₁:Shared) (mg mb:Str->Option Value) (fa:Addr) (o:Obj) (pm cd doc:Value) (a:Addr) (vs:List Value) (ns:List Int),
     Ground q loose [] XP w s₀ mg mb s₁.heap->YP w s₁.heap ->
     s₁.heap.get? fa=some o->o.data=.func (docDef d.name d.params d.body d.scope pm cd doc)->s₁.heap.CodeRec cd d.name->mg d.name=some (.ref fa) ->
     s₁.heap.get? a=some { cls:=.type "list",data:=.seq vs.toArray }->IntsAre vs ns->ns.length<=n->s₁.gens=#[] ->
     codeAny (model l.prog w) callerA (.call (.ref fa) ⟨[.ref a],[]⟩) (fun r s'=>r=.ok (.ret (.bool true))∧OldK s₁.heap s'.heap∧s'.os=s₁.os∧AllBare s'.gens) s₁) :
    WalkO q loose XP YP l.row.toRowW d [] (fun f vs=>PySem.call f vs):=by
 intro w s₀ s₁ mg mb G Y fa o pm cd doc dV kV ho hd hcd hD hmg hg args vals as hpre hlay hrd hwl hlo
 obtain rfl:dV=.none:=Dflts.none hD hdf
 obtain rfl:kV=.none:=Dflts.noKw hD
 obtain ⟨a,vs,ns,rfl,rfl,hobj,hints,hlen⟩:=K6 hn hpre hwl
 refine enter_call (codeAny_mono (call w s₀ s₁ mg mb fa o pm cd doc a vs ns G Y ho (fd_plain hd) hcd hmg hobj hints hlen hg) fun r s' hq=>?_)
 obtain ⟨rfl,h2,h3,h4⟩:=hq
 exact ⟨.inl ⟨.bool true,.bool true,[],rfl,fun _=>rfl,.bool true,Kx l _,fun _=>⟨List.Pairwise.nil,fun _ hm=>(nomatch hm)⟩⟩,h2,h3,h4⟩
section
variable {prog:Program} {w:World} {A:Around} {E:Value->Shared->Prop} {s:Shared} {K:Frag}
end
end Att
namespace L2
open PySem PySem.Spec PyProof.Rows
theorem Pr:∀{vs:List Value} {ns:List Int},IntsAre vs ns->Vals (ns.map V.int) vs
 |_,_,.nil=>.nil
 |_,_,.cons n t h=>.cons ⟨t,rfl⟩ (Pr h)
def Br (H:Hp):Prop:=∀b,H b=none∨∃o xs,H b=some (.frz o (.lst xs))
theorem IU {P:Program} {w:World} {K:PySem.W.Frag} {mg mb:Str->Option Value} {CX:CXT} {k:Nat} {fa a:Addr} {fd:FuncData} {x:Str} {sp:Sp} {s₁:Shared} {vs:List Value} {ns:List Int}
    (KX:K.In s₁.heap) (hns:s₁.heap.Ns mainGlobals mg) (hb:s₁.heap.Ns builtinsNs mb) (hbb:∀x:Str,x≠"__name__"->mb x=bootBuiltins x) (hlim:s₁.heap.NoLimit) (hg:s₁.gens=#[])
    (ha:s₁.heap.get? a=some { cls:=.type "list",data:=.seq vs.toArray }) (hi:IntsAre vs ns) (hl:ns.length<=sizeLine) (hr:Room k callerA)
    (F:∀base:Heap,K.In base->base.Ns mainGlobals mg->FnOk P w K mg base CX k fa fd [x] sp) (hbind:∀(s:Shared) (u:Value),BindsTo s fd ⟨[u],[]⟩ [(x,u)])
    (hsp:∀H:Hp,Br H->SqL K H a (ns.map V.int)->sp [.ref a] H (fun v _=>v=.bl true) fun _ _ _=>False)
    (hCX:∀H e s',CX [] H s₁ (fun _ _ _=>False) e s'->False) :
    codeAny (model P w) callerA (.call (.ref fa) ⟨[.ref a],[]⟩) (fun r s'=>r=.ok (.ret (.bool true))∧OldK s₁.heap s'.heap∧s'.os=s₁.os∧AllBare s'.gens) s₁:=by
 have rv:=Pr hi
 have lenV:=hi.length
 have core : ∀ H : Hp,Br H -> SqL K H a (ns.map V.int) -> HOk P w H s₁.heap -> (∀ b,H b ≠ none -> b = a) -> (H a ≠ none -> K.lookup a = none) ->
     codeAny (model P w) callerA (.call (.ref fa) ⟨[.ref a],[]⟩) (fun r s'=>r=.ok (.ret (.bool true))∧OldK s₁.heap s'.heap∧s'.os=s₁.os∧AllBare s'.gens) s₁:=by
  intro H hO hS hok hA hK
  have base_of:∀{b:Addr} {o:Obj},s₁.heap.get? b=some o->H b=none->(Oc s₁.heap H).get? b=some o:=fun e n=>IJ e n
  have noA:∀{b:Addr} {o:Obj} {es:Array DictEntry} {ep:Nat},s₁.heap.get? b=some o->o.data=.dict es ep->H b=none:=fun {b o es ep} e d=>by
   cases q:H b with
   |none=>rfl
   |some u =>
    have e':b=a:=hA b (by rw[q]; simp)
    subst e'
    rw[ha]at e; cases e
    have d':Data.seq vs.toArray _=Data.dict es ep:=d
    cases d'
  have nsK:∀{b:Addr} {m:Str->Option Value},s₁.heap.Ns b m->(Oc s₁.heap H).Ns b m:=fun {b m} ⟨o,es,ep,e,d,r⟩=>⟨o,es,ep,base_of e (noA e d),d,r⟩
  have hKb:K.In (Oc s₁.heap H):=fun b o e=>base_of (KX b o e) (by
   cases q:H b with
   |none=>rfl
   |some u =>
    have e':b=a:=hA b (by rw[q]; simp)
    subst e'
    rw[hK (by rw[q]; simp)]at e; cases e)
  have hM:Mod K mg (Oc s₁.heap H):=⟨hKb,nsK hns,⟨mb,nsK hb,hbb⟩,let ⟨mc,h1,h2⟩:=hlim; ⟨mc,nsK h1,h2⟩⟩
  have e0:Env0 P w K mg (Oc s₁.heap H) callerA [] s₁ H:=⟨rfl,hM,fun b o e=>GC e,Nat.le_of_eq (Jh _ _),trivial,fun b hb=>absurd (show b∈([]:List Addr) from hb) (by simp),hok,.of_eq hg⟩
  refine codeAny_mono ((F _ hKb (nsK hns)).run callerA [] s₁ H ⟨[.ref a],[]⟩ [.ref a] [.ref a] _ _ hr e0 (hbind s₁ (.ref a)) (.cons rfl .nil) (hsp H hO hS)) fun r s' h=>?_
  cases r with
  |error e=>exact (hCX H e s' h).elim
  |ok fl =>
   cases fl with
   |next=>exact False.elim h
   |brk=>exact False.elim h
   |cont=>exact False.elim h
   |ret u =>
    obtain ⟨v,H',os,bare,un,hok',r',q⟩:=h
    have q':v=.bl true:=q
    subst q'
    obtain rfl:u=Value.bool true:=r'
    refine ⟨rfl,OldK.of_keep fun b o e=>?_,os,bare⟩
    cases q:H b with
    |none=>exact un.keep b o e q (by intro z; exact absurd (show b∈([]:List Addr) from z) (by simp)) (by simp)
    |some u =>
     rcases hO b with z|⟨ob,xs,z⟩
     ·rw[q]at z; cases z
     ·have z2:=un.frzs b ob _ z
      obtain ⟨e1,_⟩:=hok b _ z
      obtain ⟨e2,_⟩:=hok' b _ z2
      rw[e]at e1; cases e1
      exact e2
 cases hk:K.lookup a with
 |some o =>
  have e:=KX a o hk
  rw[ha]at e
  cases e
  refine core (fun _=>none) (fun _=>.inl rfl) (.inr ⟨_,vs.toArray,_,hk,rfl,rfl,rfl,by rw[List.size_toArray,lenV]; exact hl,by simpa using rv⟩) (fun b u z=>by have z':(none:Option HO)=some u:=z; cases z') (fun b z=>absurd rfl z) fun z=>absurd rfl z
 |none =>
  refine core (fun b=>if b=a then some (.frz { cls:=.type "list",data:=.seq vs.toArray } (.lst (ns.map V.int))) else none) (fun b=>?_) (.inl (.inr ⟨{ cls:=.type "list",data:=.seq vs.toArray },if_pos rfl⟩)) (fun b u z=>?_) (fun b z=>?_) fun _=>hk
  ·by_cases hb:b=a
   ·exact .inr ⟨_,_,if_pos hb⟩
   ·exact .inl (if_neg hb)
  ·by_cases hb:b=a
   ·have z':=(if_pos hb).symm.trans z
    cases z'
    subst hb
    exact ⟨ha,by rw[List.length_map]; exact hl,vs,_,rv,ha⟩
   ·have z':=(if_neg hb).symm.trans z
    cases z'
  ·by_cases hb:b=a
   ·exact hb
   ·exact absurd (if_neg hb) z
open PySem PySem.Spec PyProof.Rows
open PySem PySem.Spec PyProof.Rows
abbrev E0:XK:=fun _ _ _=>False
structure Fun (K:PySem.W.Frag) (x qual:Str) (st:Stmt) (f:Addr) (fd:FuncData):Prop where
 ex:∃(oc:Value) (od:Option Addr) (kV doc pm:Value) (an:Option Addr) (cdv ct:Value) (osl:Array (Option Value)),
  fd=PySem.W.fnOf x qual (Zx st) (Zw st) (Zg st) .none kV doc pm an cdv ct∧K.lookup f=some ⟨oc,od,.func fd,osl⟩∧PySem.W.codeIn K cdv qual=true
 kp:PySem.W.keepIn K (.ref f)=true
section
variable {P:Program} {w:World} {K:PySem.W.Frag} {mg:Str->Option Value} {base:Heap}
theorem Fun.binds {x qual:Str} {st:Stmt} {f:Addr} {fd:FuncData} {ps:List Str} (F:Fun K x qual st f fd)
    (h:∀(kV doc pm:Value) (an:Option Addr) (cdv ct:Value) (us:List Value),us.length=ps.length->bindArgs (PySem.W.fnOf x qual (Zx st) (Zw st) (Zg st) .none kV doc pm an cdv ct) ⟨us,[]⟩=pure (ps.zip us)):Binds K fd ps []:=by
 obtain ⟨oc,od,kV,doc,pm,an,cdv,ct,osl,rfl,lk,hcd⟩:=F.ex
 exact .all (h kV doc pm an cdv ct)
theorem ZS {x qual:Str} {st:Stmt} {f:Addr} {oc:Value} {od an:Option Addr} {osl:Array (Option Value)} {kV doc pm cdv ct:Value} (l:K.lookup f=some ⟨oc,od,.func (PySem.W.fnOf x qual (Zx st) (Zw st) (Zg st) .none kV doc pm an cdv ct),osl⟩)
    (c:PySem.W.codeIn K cdv qual=true) (k:PySem.W.keepIn K (.ref f)=true):Fun K x qual st f (PySem.W.fnOf x qual (Zx st) (Zw st) (Zg st) .none kV doc pm an cdv ct):=⟨⟨oc,od,kV,doc,pm,an,cdv,ct,osl,rfl,l,c⟩,k⟩
end
section
variable {X:Cx}
end
def Same (H H':Hp):Prop:=∀b o,H b=some o->H' b=some o
theorem Same.refl (H:Hp):Same H H:=fun _ _ h=>h
theorem Same.trans {H H1 H2:Hp} (a:Same H H1) (b:Same H1 H2):Same H H2:=fun c o h=>b c o (a c o h)
theorem Same.free {H H':Hp} (e:Same H H') {l:Addr} (h:H' l=Option.none):H l=Option.none:=by
 cases q:H l with
 |none=>rfl
 |some o =>
  rw[e l o q]at h
  cases h
open PySem PySem.Spec PyProof.Rows
section
variable {X:Cx}
theorem Jv:CallR X (.builtin "len") (fun xs H Q=>∃a kvs,xs=[V.ref a]∧H a=some (.dK kvs)∧Q (.int kvs.length) H):=by
 intro pins s σ H xs us Q I r h
 obtain ⟨a,kvs,rfl,ha,q⟩:=h
 obtain ⟨u,rfl,ru⟩:=V1 r
 cases ru
 exact Ac I (.inl ha) fun t s' I'=>⟨.int kvs.length,H,I',⟨t,rfl⟩,q⟩
end
open PySem PySem.Spec PyProof.Rows
section
variable {κ:Type} [DecidableEq κ]
end
open PySem PySem.Spec PyProof.Rows
section
variable {X:Cx} {pins:List (Addr × Obj)} {σ:St} {H:Hp} {s:Shared}
end
section
variable {X:Cx}
end
section
variable {X:Cx} {st:Stmt} {rest:List Stmt} {t u:TS}
end
section
variable {X:Cx} {e:Expr} {es:List Expr} {te:TE} {pos:Pos}
def Aw (te:TE):TE:=fun σ H Q=>te σ H fun x H1=>∃i,x=.int i∧i.natAbs.log2 < 1920∧Q (.str (toString i)) H1
theorem Cg (he:PE X e te):PE X (.FormattedValue e (-1) none pos) (Aw te):=by
 intro pins s σ H Q I h
 refine PyProof.Rows.FormattedValue_plain (thn (he pins s σ H _ I h) fun v s1 ⟨x,H1,I1,r1,i,ex,hb,q⟩=>?_)
 subst ex
 obtain ⟨t,rfl⟩:=r1
 exact PySem.wpAny_formatField_int hb ⟨.str (toString i),H1,I1.tok _,⟨_,rfl⟩,q⟩
def PJ (X:Cx) (n:Nat) (es:List Expr) (t:TA):Prop :=
 ∀(pins:List (Addr × Obj)) (s:Shared) (σ:St) (H:Hp) (acc:Str) (Q:VK),Inv X pins σ H s->acc.length+n * es.length<=sizeLine ->
  t σ H (fun _ H1=>∀z:Str,Q (.str z) H1)->wpAny (model X.prog X.w) X.A (joinParts acc (evalEach es X.env)) (EP X pins σ Q) X.xe s
def CF (n:Nat) (te:TE) (t:TA):TA:=fun σ H Q=>te σ H fun x H1=>(∃y:Str,x=.str y∧y.length<=n)∧t σ H1 Q
theorem D0 {n:Nat}:PJ X n [] Cj:=by
 intro pins s σ H acc Q I hl h
 exact PyProof.Rows.joinParts_nil ⟨.str acc,H,I.tok _,⟨_,rfl⟩,h acc⟩ (by simpa using hl)
theorem Kh {n:Nat} {t:TA} (he:PE X e te) (hr:PJ X n es t) (hs:evalEach (e::es) X.env=eval e X.env::evalEach es X.env:=by rfl):PJ X n (e::es) (CF n te t):=by
 intro pins s σ H acc Q I hl h
 rw[hs]
 refine PyProof.Rows.joinParts_cons (thn (he pins s σ H _ I h) fun v s1 ⟨x,H1,I1,r1,⟨y,ex,hy⟩,q⟩=>?_)
 subst ex
 obtain ⟨t',rfl⟩:=r1
 have hz:acc.length+n * es.length+n<=sizeLine:=by
  rw[List.length_cons,Nat.mul_succ]at hl; omega
 have hap:(acc++y).length=acc.length+y.length:=strLen_append ..
 have hm:(acc++y).length<=sizeLine:=by rw[hap]; omega
 exact ⟨hm,hr pins s1 σ H1 (acc++y) Q I1 (by rw[hap]; omega) q⟩
def Bc (t:TA):TE:=fun σ H Q=>t σ H fun _ H1=>∀z:Str,Q (.str z) H1
theorem G8 {v₁ v₂:Expr} {rest:List Expr} {n:Nat} {t:TA} (h:PJ X n (v₁::v₂::rest) t) (hn:n * (v₁::v₂::rest).length<=16000000)
    (hs:evalEach (v₁::v₂::rest) X.env=eval v₁ X.env::eval v₂ X.env::evalEach rest X.env:=by rfl):PE X (.JoinedStr (v₁::v₂::rest) pos) (Bc t):=by
 intro pins s σ H Q I q
 refine PyProof.Rows.JoinedStr_many ?_
 rw[← hs]
 refine h pins s σ H Str.empty Q I ?_ q
 rw[sizeLine_eq]
 have:Str.empty.length=0:=rfl
 omega
theorem KC {i:Int} {n:Nat} (h:i.natAbs.log2 < 1920) (hn:1921<=n):(toString i:Str).length<=n:=Nat.le_trans (PyProof.Rows.int_text_len_1921 h) hn
end
open PySem PySem.Spec PyProof.Rows
theorem ObjOk.ex {P:Program} {w:World} {H:Hp} {h:Heap} {a:Addr} {o:HO} (x:ObjOk P w H h a o):∃ob,h.get? a=some ob:=by
 cases o with
 |lst xs=>obtain ⟨_,_,_,_,e⟩:=x; exact ⟨_,e⟩
 |tup xs=>obtain ⟨_,_,_,ob,e,_⟩:=x; exact ⟨_,e⟩
 |dK kvs=>obtain ⟨_,_,_,_,o,_,_,e,_⟩:=x; exact ⟨_,e⟩
 |dT kvs=>obtain ⟨_,_,_,_,o,_,_,e,_⟩:=x; exact ⟨_,e⟩
 |set S n=>obtain ⟨o,_,_,_,e,_⟩:=x; exact ⟨_,e⟩
 |ins C dx fs=>obtain ⟨_,_,_,e,_⟩:=x; exact ⟨_,e⟩
 |own y=>exact x
 |xd fs=>obtain ⟨_,⟨_,_,_,e,_⟩,_⟩:=x; exact ⟨_,e⟩
 |rng lo hi=>obtain ⟨_,_,_,e⟩:=x; exact ⟨_,e⟩
 |frz ob u=>obtain ⟨e,_⟩:=x; exact ⟨_,e⟩
 |tbl ps=>exact ⟨_,x⟩
 |met f y=>exact ⟨_,x⟩
 |ext φ=>obtain ⟨_,e,_⟩:=x; exact e
theorem Un.on {fs:List Addr} {H H1:Hp} {h0 h1 h2:Heap} (u:Un fs [] H H1 h0 h1) (kB:∀b o o1,h0.get? b=some o->b ∉ fs->h1.get? b=some o1->h2.get? b=some o1)
    (ks:∀b o o1,h0.get? b=some o->b∈fs->h1.get? b=some o1->∃sl,h2.get? b=some { o1 with slots:=sl }):Un fs [] H H1 h0 h2 where
 keep:=fun b o e n hb hx=>kB b o o e hb (u.keep b o e n hb hx)
 slot:=fun b o e n hb hx=>by
  obtain ⟨sl,e1⟩:=u.slot b o e n hb hx
  obtain ⟨sl2,e2⟩:=ks b o _ e hb e1
  exact ⟨sl2,e2⟩
 free:=u.free
 there:=fun b o e hx=>by
  obtain ⟨o1,e1⟩:=u.there b o e hx
  by_cases hb:b∈fs
  ·obtain ⟨sl,e2⟩:=ks b o o1 e hb e1
   exact ⟨_,e2⟩
  ·exact ⟨o1,kB b o o1 e hb e1⟩
 tups:=u.tups
 frzs:=u.frzs
 tbls:=u.tbls
structure Fly (P:Program) (w:World) (outer:List Env) (H:Hp) (s:Shared) (H':Hp) (a:Addr) (cls:Value) (s':Shared):Prop where
 os:s'.os=s.os
 bare:AllBare s'.gens
 un:Un (frs outer) [] H H' s.heap s'.heap
 hok:HOk P w H' s'.heap
 fl:∃B a0,Heap.FlyingW B outer a cls a0 s'.heap∧(∀b o ob,H' b=some o->s'.heap.get? b=some ob->B.get? b=some ob) ∧
  ∀b o ob,s.heap.get? b=some o->b ∉ frs outer->s'.heap.get? b=some ob->B.get? b=some ob
def CXw (P:Program) (w:World):CXT:=fun outer H s E e s'=>∃a cls H',e=.ref a∧Fly P w outer H s H' a cls s'∧E cls none H'
theorem HOk.flown {P:Program} {w:World} {H:Hp} {h h' B:Heap} (x:HOk P w H h) (c1:∀b o ob,H b=some o->h.get? b=some ob->B.get? b=some ob) (st:B.StaysIn h'):HOk P w H h':=fun b o e =>
 (x b o e).stay (fun c u hc q=>by
  rcases hc with rfl|hc
  ·exact st _ _ (c1 _ _ _ e q)
  ·exact st _ _ (c1 _ _ _ hc q)) (fun _ q=>q) fun _ _ q=>q
section
variable {P:Program} {w:World} {K:PySem.W.Frag} {mg:Str->Option Value} {base:Heap} {N:List Str} {qual:Str} {scope:Scope} {f:Addr} {cd:Value} {A:Around} {outer:List Env} {s:Shared} {H:Hp} {E:XK}
theorem Zt:XR (CXw P w) (PU (CXw P w) P w K mg base N qual scope f cd A outer s H E) E:=by
 intro pins σ H1 s1 e s' I hcx
 obtain ⟨a,cls,H',rfl,fly,hE⟩:=hcx
 have I':=I.call' (ch:=[]) fly.os fly.un fly.hok fly.bare (fun _ z=>nomatch z)
 obtain ⟨B,a0,fl,c1,c2⟩:=fly.fl
 have hfr:(A.deeper (envOfC qual scope s.heap.objs.size f cd)).frames=some (envOfC qual scope s.heap.objs.size f cd::outer):=I.ok.frames
 refine wpAny_leaves_onW (L:=s.heap.objs.size) hfr rfl fl fun h' fl' up=>⟨a,cls,H',rfl,?_,hE⟩
 have hub:Un (frs outer) [] H H' s.heap s'.heap:=I'.base
 have nL:∀b o,s.heap.get? b=some o->b ∉ frs outer->b ∉ frs (envOfC qual scope s.heap.objs.size f cd::outer):=fun b o e hb hm=>by
  unfold frs at hm hb
  rw[List.filterMap_cons]at hm
  rcases List.mem_cons.mp hm with z|z
  ·exact absurd (Heap.lt_size e) (by rw[z]; exact Nat.lt_irrefl _)
  ·exact hb z
 have kB:∀b o o1,s.heap.get? b=some o->b ∉ frs outer->s'.heap.get? b=some o1->B.get? b=some o1:=fun b o o1 e hb e1=>by
  obtain ⟨o2,e2⟩:=(show Un (frs outer) [] H H1 s.heap s1.heap from I.base).there b o e (by simp)
  exact c2 b o2 o1 e2 (nL b o e hb) e1
 refine ⟨I'.os,I'.bare,hub.on (fun b o o1 e hb e1=>fl'.1 _ _ (kB b o o1 e hb e1)) (fun b o o1 e hb e1=>?_),fly.hok.flown c1 fl'.1,B,a0,fl',fun b o ob e eb=>?_,fun b o ob e hb eb=>?_⟩
 ·obtain ⟨_,o',ho',hnf⟩:=I'.funs.mem hb
  have ho':s'.heap.get? b=some o':=ho'
  rw[e1]at ho'
  cases ho'
  exact up b o1 e1 hnf
 ·obtain ⟨ob2,e2⟩:=(fly.hok b o e).ex
  have e3:=c1 b o ob2 e e2
  have e4:=fl'.1 _ _ e3
  have eb:h'.get? b=some ob:=eb
  rw[e4]at eb
  cases eb
  exact e3
 ·obtain ⟨ob2,e2⟩:=hub.there b o e (by simp)
  have e3:=kB b o ob2 e hb e2
  have e4:=fl'.1 _ _ e3
  have eb:h'.get? b=some ob:=eb
  rw[e4]at eb
  cases eb
  exact e3
end
def Lw (X:Cx) (E:XK):Prop:=∀(pins:List (Addr × Obj)) (σ:St) (H:Hp) (s:Shared) (h':Heap) (e:Addr) (cls:Value) (args:List Value),Inv X pins σ H s->Heap.MadeExcOf s.heap h' e cls args->E cls none H->X.xe (.ref e) { s with heap:=h' }
section
variable {P:Program} {w:World} {K:PySem.W.Frag} {mg:Str->Option Value} {base:Heap} {N:List Str} {qual:Str} {scope:Scope} {f:Addr} {cd:Value} {A:Around} {outer:List Env} {s:Shared} {H:Hp} {E:XK}
theorem Tr:Lw (PU (CXw P w) P w K mg base N qual scope f cd A outer s H E) E:=by
 intro pins σ H1 s1 h1 e cls args I hx hE
 have hfr:(A.deeper (envOfC qual scope s.heap.objs.size f cd)).frames=some (envOfC qual scope s.heap.objs.size f cd::outer):=I.ok.frames
 have hst:s1.heap.FunFrames base (envOfC qual scope s.heap.objs.size f cd::outer):=I.stack
 have hl:s1.heap.FunFrames (PySem.W.hideAll s1.heap (frs (envOfC qual scope s.heap.objs.size f cd::outer))) (envOfC qual scope s.heap.objs.size f cd::outer) :=
  PySem.W.funFrames_hide hst fun env he a ha=>List.mem_filterMap.mpr ⟨env,he,ha⟩
 refine wpAny_leaves_madeW (base:=PySem.W.hideAll s1.heap (frs (envOfC qual scope s.heap.objs.size f cd::outer))) (h:=s1.heap) (L:=s.heap.objs.size) hfr rfl (fun b o q=>PySem.W.of_hideAll _ q) hl hx fun h' t fl' _ _ up=>⟨e,cls,H1,rfl,?_,hE⟩
 have hub:Un (frs outer) [] H H1 s.heap s1.heap:=I.base
 have nL:∀b o,s.heap.get? b=some o->b ∉ frs outer->b ∉ frs (envOfC qual scope s.heap.objs.size f cd::outer):=fun b o e hb hm=>by
  unfold frs at hm hb
  rw[List.filterMap_cons]at hm
  rcases List.mem_cons.mp hm with z|z
  ·exact absurd (Heap.lt_size e) (by rw[z]; exact Nat.lt_irrefl _)
  ·exact hb z
 have tB:∀b o ob,H1 b=some o->s1.heap.get? b=some ob->(PySem.W.hideAll s1.heap (frs (envOfC qual scope s.heap.objs.size f cd::outer))).get? b=some ob:=fun b o ob e eb =>
  PySem.W.hideAll_get _ eb fun hm=>by
   have:=I.stkFree b hm
   rw[e]at this
   cases this
 have kB:∀b o o1,s.heap.get? b=some o->b ∉ frs outer->s1.heap.get? b=some o1->(PySem.W.hideAll s1.heap (frs (envOfC qual scope s.heap.objs.size f cd::outer))).get? b=some o1:=fun b o o1 e hb e1 =>
  PySem.W.hideAll_get _ e1 (nL b o e hb)
 refine ⟨I.os,I.bare,hub.on (fun b o o1 e hb e1=>fl'.1 _ _ (kB b o o1 e hb e1)) (fun b o o1 e hb e1=>?_),I.hok.flown tB fl'.1,_,_,fl',fun b o ob e eb=>?_,fun b o ob e hb eb=>?_⟩
 ·obtain ⟨_,o',ho',hnf⟩:=I.funs.mem hb
  have ho':s1.heap.get? b=some o':=ho'
  rw[e1]at ho'
  cases ho'
  exact up b o1 (hx.keeps b o1 e1) hnf
 ·obtain ⟨ob2,e2⟩:=(I.hok b o e).ex
  have e3:=tB b o ob2 e e2
  have e4:=fl'.1 _ _ e3
  have eb:h'.get? b=some ob:=eb
  rw[e4]at eb
  cases eb
  exact e3
 ·obtain ⟨ob2,e2⟩:=hub.there b o e (by simp)
  have e3:=kB b o ob2 e hb e2
  have e4:=fl'.1 _ _ e3
  have eb:h'.get? b=some ob:=eb
  rw[e4]at eb
  cases eb
  exact e3
end
theorem K9 {K:PySem.W.Frag} {h:Heap} {C:Addr} {bmB:List Value} {newId:String} (X:K.In h) (q:PySem.W.excIn K C bmB newId=true) :
    ∃bm Nn nm qn bs hdct sn sub ab col dd k0 k1 k2 k3 k5 mN,h.get? C=some (excClassObj nm qn C Nn bs bm hdct sn sub ab col dd k0 k1 k2 k3 k5 newId)∧h.Ns Nn mN∧mN "__init__"=none∧OwnTail h bmB bm:=by
 unfold PySem.W.excIn at q
 split at q
 ·rename_i dd cd sl ho
  split at q
  ·rename_i C' bm k0 k1 k2 k3 n k5 hm hs
   simp only[Bool.and_eq_true,beq_iff_eq,Bool.not_eq_true']at q
   obtain ⟨⟨⟨⟨⟨e1,e2⟩,hdel⟩,ht⟩,hok⟩,hni⟩:=q
   subst e1 e2
   obtain ⟨nm,bs,mro,ns,qn,hd,sn,sub,ab,col,del⟩:=cd
   dsimp only at hm hdel hok hni
   subst hm hdel
   obtain ⟨l⟩:=sl
   have hs:l=_:=hs
   subst hs
   exact ⟨bm,ns,nm,qn,bs,hd,sn,sub,ab,col,dd,k0,k1,k2,k3,k5,_,X _ _ ho,.of_isNs (PySem.W.isNs_of_in X hok),PySem.W.nsMap_none_of_in X hok hni,PySem.W.tail_of_in X ht⟩
  ·cases q
 ·cases q
section
variable {X:Cx} {x:Str} {C:Addr} {bmB:List Value} {B newId initId:String} {E:XK} {e₀:Expr} {rest:List Expr} {np cpos pos:Pos} {t:TA}
def Dm (C:Addr) (E:XK) (t:TA):TS:=fun _ σ H=>t σ H fun vs H1=>vs.length<=sizeLine∧E (.ref C) none H1
theorem Hb (FB:ExcBaseFacts B newId initId bmB) (q:PySem.W.excIn X.K C bmB newId=true) (hg:Gl X x) (hm:X.mg x=some (.ref C)) (hc:X.calm=true) (hE:Lw X E) (ha:PA X (e₀::rest) t)
    (he:starEach (e₀::rest) X.env=(false,eval e₀ X.env)::starEach rest X.env:=by rfl) (hpl:(backTo cpos (starEach rest X.env)).any (·.1)=false:=by rfl) (hdb:(x == ("__debug__":Str))=false:=by decide) :
    PS X (.Raise (some (.Call (.Name x np) (e₀::rest) [] cpos)) none pos) (Dm C E t):=by
 intro pins s σ H D I h
 obtain ⟨bm,Nn,nm,qn,bs,hdct,sn,sub,ab,col,dd,k0,k1,k2,k3,k5,mN,hC,hN,hni,T⟩:=K9 I.mod.kin q
 refine wpAny_Raise_call_subT (C:=C) (nm:=nm) (q:=qn) (N:=Nn) (bs:=bs) (bm:=bm) (hdct:=hdct) (sn:=sn) (sub:=sub) (ab:=ab) (col:=col) (dd:=dd) (k0:=k0) (k1:=k1) (k2:=k2) (k3:=k3) (k5:=k5)
  FB (mN:=mN) (T.hasType FB.hasBase) (I.ok.hd hc) (by rw[he]; show (false || (backTo cpos (starEach rest X.env)).any (·.1))=false; rw[hpl]; rfl) hni (SL I hg hm ⟨rfl,?_⟩ hdb)
 have hw:=ha cpos pins s σ H _ I h
 rw[he]at hw ⊢
 refine Calls.evalArgs_plain (thn hw fun us s1 ⟨vs,H1,I1,r,hl,hq⟩=>?_)
 exact ⟨rfl,by rw[← r.length]; exact hl,I1.bk _ _ hC,hN.keeps I1.bk,T.keeps I1.bk,fun h' e hmx=>hE pins σ H1 s1 h' e _ _ I1 hmx hq⟩
end
theorem Fun.okX {P:Program} {w:World} {K:PySem.W.Frag} {mg:Str->Option Value} {base:Heap} {x qual:Str} {st:Stmt} {f:Addr} {fd:FuncData} {N ps:List Str} {k:Nat} {sp:Sp} (F:Fun K x qual st f fd) (S:FnScope N ps (Zg st)) (len:∀vs H Q E,sp vs H Q E->vs.length=ps.length)
    (hbody:∀(cdv:Value) (A:Around) (outer:List Env) (s:Shared) (H:Hp) (vs:List V) (Q:VK) (E:XK),Room k (A.deeper (envOfC qual (Zg st) s.heap.objs.size f cdv))->sp vs H Q E ->
     ∃t,PSs (PU (CXw P w) P w K mg base N qual (Zg st) f cdv A outer s H E) (Zw st) t∧t { nx:=fun _ H'=>Q .non H',rt:=Q } (start N vs) H):FnOk P w K mg base (CXw P w) (k+1) f fd ps sp:=by
 obtain ⟨oc,od,kV,doc,pm,an,cdv,ct,osl,rfl,lk,hcd⟩:=F.ex
 exact Bz lk hcd S len fun A outer s H vs Q E hr hsp=>hbody cdv A outer s H vs Q E hr hsp
theorem RS {P:Program} {w:World} {X:Cx}:XR (CXw P w) X E0:=fun _ _ _ _ _ _ _ ⟨_,_,_,_,_,h⟩=>h.elim
open PySem PySem.Spec PyProof.Rows
section
variable {X:Cx} {pins:List (Addr × Obj)} {σ:St}
end
section
variable {X:Cx} {pins:List (Addr × Obj)} {σ:St} {CX:CXT} {k:Nat} {f C:Addr} {fd:FuncData} {ps:List Str} {sp:Sp} {dvs:List V} {ds:List Value} {E:XK} {m:Str} {pos apos:Pos} {e o:Expr} {es:List Expr} {ta:TE} {t:TA}
end
section
variable {X:Cx} {pins:List (Addr × Obj)} {σ:St} {H:Hp} {s:Shared} {a:Addr}
end
def AL (a C:Addr):HO:=.ext fun h=>∃ob,h.get? a=some ob∧ob.cls=.ref C
section
variable {X:Cx} {pins:List (Addr × Obj)} {σ:St} {H H':Hp} {s s':Shared} {h' B:Heap}
end
section
variable {X:Cx} {P:Program} {w:World}
end
structure ExcK (K:PySem.W.Frag) (C:Addr):Prop where
 ga:PySem.W.findIn K (.ref C) "__getattribute__"=some (some (.builtin "BaseException.__getattribute__"))
 gt:PySem.W.findIn K (.ref C) "__getattr__"=some none
 cl:PySem.W.findIn K (.ref C) "__class__"=some (some (.builtin "object.__class__"))
 ob:PySem.W.mroIn K C (.type "object")=some true
 be:PySem.W.mroIn K C (.type "BaseException")=some true
 sp:PySem.W.specialIn K (.builtin "object.__class__") "__get__"=some (some (.builtin "getset_descriptor.__get__"))
 tk:PySem.W.takesIn K (.builtin "object.__class__")=some true
 is:(PySem.W.clsIn K C).isSome=true
open PySem PySem.Spec PyProof.Rows
abbrev Yp (X:Cx) (scope:Scope) (cl:List (Str × Addr)) (x:Str) (cn:List Str) (C:Addr) (s₂:Shared) (H₂:Hp) (fp:List Addr):Cx where
 prog:=X.prog
 w:=X.w
 K:=X.K
 mg:=X.mg
 base:=X.base
 A:=X.A
 N:=x::cn
 s₀:=s₂
 H₀:=H₂
 env:=compEnvC scope cl C X.env
 outer:=X.stack
 stack:=X.stack
 ex:=fp
 fn:=fun _=>false
 calm:=X.calm
 pn:=[]
 xe:=fun _ _=>False
def Y4 (js:List Nat) (v:Option V) (σ:St):St:=v::js.map fun j=>(σ[j]?).join
def VT (X:Cx) (ifs:List Expr) (t:TT):Prop :=
 ∀(pins:List (Addr × Obj)) (s:Shared) (σ:St) (H:Hp) (Q:Bool->Hp->Prop),Inv X pins σ H s->t σ H Q ->
  wpAny (model X.prog X.w) X.A (forIn ifs true fun c r=>if r=true then do let ok ← isTrue c X.env (eval c X.env); pure (ForInStep.yield ok) else pure (ForInStep.yield r)) (TP X pins σ Q) X.xe s
def Bs:TT:=fun _ H Q=>Q true H
theorem HQ {X:Cx}:VT X [] Bs:=fun _ _ _ H _ I h=>wpAny_tests_nil ⟨H,I,h⟩
theorem Gq {X:Cx} {c:Expr} {t:TT} (h:PT X c t):VT X [c] t:=fun pins s σ H Q I q=>wpAny_tests_one (h pins s σ H Q I q)
structure CompOk (X:Cx) (scope:Scope) (cl:List (Str × Addr)) (x:Str) (cn:List Str) (js:List Nat):Prop where
 clos:closureFor scope X.env=pure cl
 nocell:∀y∈scope.names,y.2≠.cell
 kind:scope.kind=.function
 names:∀y∈scope.names,y.2=.local->scope.names.lookup y.1=some .local
 hx:scope.names.lookup x=some .local
 sub:∀y c,cl.lookup y=some c->X.env.cells.lookup y=some c
 has:∀p∈(relabel scope X.env).names,p.2=.cell∨p.2=.free->∃c,cl.lookup p.1=some c
 cap:∀(k:Nat) y,cn[k]?=some y->∃j,js[k]?=some j∧X.N[j]?=some y∧Vis X.env.scope y∧(X.env.kindOf y=some .cell∨X.env.kindOf y=some .free)∧((compEnvC scope cl 0 X.env).kindOf y=some .cell∨(compEnvC scope cl 0 X.env).kindOf y=some .free)
 len:js.length=cn.length
 nd:(x::cn).Nodup
def QO (names:List (Str × NameKind)) (env:Env):List (Str × Addr):=names.foldl (fun cs p=>if p.2 == .free then (match env.cells.lookup p.1 with|some c=>(p.1,c)::cs|none=>cs) else cs) []
theorem Tg (env:Env):∀(names:List (Str × NameKind)) (cs:List (Str × Addr)),(∀p∈cs,env.cells.lookup p.1=some p.2) ->
    ∀p∈names.foldl (fun cs p=>if p.2 == .free then (match env.cells.lookup p.1 with|some c=>(p.1,c)::cs|none=>cs) else cs) cs,env.cells.lookup p.1=some p.2
 |[],cs,h=>h
 |q::r,cs,h=>by
  refine Tg env r _ ?_
  dsimp only
  split
  ·split
   ·rename_i c e
    intro p hp
    rcases List.mem_cons.mp hp with rfl|hp
    ·exact e
    ·exact h p hp
   ·exact h
  ·exact h
def Qu (k:Option NameKind):Bool:=k == some .cell || k == some .free
theorem SM {k:Option NameKind} (h:Qu k=true):k=some .cell∨k=some .free:=by
 unfold Qu at h
 rcases Bool.or_eq_true_iff.mp h with q|q
 ·exact .inl (by simpa using q)
 ·exact .inr (by simpa using q)
theorem Z1 {X:Cx} {scope:Scope} {x:Str} {cn:List Str} {js:List Nat} (clos:closureFor scope X.env=pure (QO scope.names X.env)) (nocell:∀y∈scope.names,y.2≠.cell) (kind:scope.kind=.function)
    (names:∀y∈scope.names,y.2=.local->scope.names.lookup y.1=some .local) (hx:scope.names.lookup x=some .local)
    (has:((relabel scope X.env).names.all fun p=>!(Qu (some p.2)) || ((QO scope.names X.env).lookup p.1).isSome)=true) (len:js.length=cn.length)
    (cap:((cn.zip js).all fun p=>(X.N[p.2]? == some p.1)&&Qu (X.env.scope.names.lookup p.1)&&Qu ((relabel scope X.env).names.lookup p.1))=true)
    (nd:(x::cn).Nodup):CompOk X scope (QO scope.names X.env) x cn js where
 clos:=clos
 nocell:=nocell
 kind:=kind
 names:=names
 hx:=hx
 sub:=fun y c h=>Tg X.env scope.names [] (fun _ z=>(nomatch z)) (y,c) (PySem.mem_of_lookup h)
 has:=fun p hp hk=>by
  have q:=List.all_eq_true.mp has p hp
  have hk':Qu (some p.2)=true:=by rcases hk with z|z <;> rw[z] <;> rfl
  rw[hk']at q
  exact Option.isSome_iff_exists.mp (by simpa using q)
 cap:=fun k y e=>by
  have hk:k < cn.length:=(List.getElem?_eq_some_iff.mp e).1
  have hj:js[k]?=some (js[k]'(by omega)):=List.getElem?_eq_getElem _
  have hz:(y,js[k]'(by omega))∈cn.zip js:=by
   refine List.mem_of_getElem? (i:=k) ?_
   rw[List.getElem?_zip_eq_some]
   exact ⟨e,hj⟩
  have q:=List.all_eq_true.mp cap _ hz
  simp only[Bool.and_eq_true,beq_iff_eq]at q
  obtain ⟨⟨q1,q2⟩,q3⟩:=q
  have c2:=SM q2
  refine ⟨_,hj,q1,?_,c2,SM q3⟩
  rcases c2 with z|z
  ·exact .inr (.inl z)
  ·exact .inr (.inr z)
 len:=len
 nd:=nd
section
variable {X:Cx} {scope:Scope} {cl:List (Str × Addr)} {x:Str} {cn:List Str} {js:List Nat} {pins:List (Addr × Obj)} {σ:St} {H₂:Hp} {s₂:Shared} {fp:List Addr}
theorem CompOk.ok (O:CompOk X scope cl x cn js) (I:Inv X pins σ H₂ s₂) (hf:∀b∈fp,Sz X pins H₂ b) {C:Addr} (hC:s₂.heap.objs.size<=C) (ho:∀b∈fp,∃o,s₂.heap.get? b=some o):(Yp X scope cl x cn C s₂ H₂ fp).Ok where
 mod:=I.mod
 kind:=by show (relabel scope X.env).kind=.function; exact O.kind
 glob:=I.ok.glob
 blt:=I.ok.blt
 above:=hC
 inj:=fun y z c h1 h2=>I.ok.inj y z c (O.sub y c h1) (O.sub z c h2)
 has:=fun y hy=>by
  have hy:(relabel scope X.env).names.lookup y=some .cell∨(relabel scope X.env).names.lookup y=some .free:=hy
  rcases hy with hy|hy
  ·exact O.has _ (PySem.mem_of_lookup hy) (.inl rfl)
  ·exact O.has _ (PySem.mem_of_lookup hy) (.inr rfl)
 cab:=fun _ _ h=>(by cases h)
 hd:=I.ok.hd
 frames:=I.ok.frames
 stk:=.inl rfl
 exf:=fun b hb=>by
  obtain ⟨o,e⟩:=ho b hb
  exact ⟨Nat.ne_of_lt (Nat.lt_of_lt_of_le (Heap.lt_size e) hC),fun y c h=>(hf b hb).2.2.2.2.1 y c (O.sub y c h)⟩
 bs:=I.bs
 bsz:=Nat.le_trans I.ok.bsz I.sz
 noex:=fun b o e hb=>by
  rcases (hf b hb).2.2.2.1 with z|z
  ·exact I.ok.noex b o e z
  ·exact absurd (Nat.lt_of_lt_of_le (Heap.lt_size e) (Nat.le_trans I.ok.bsz z)) (Nat.lt_irrefl _)
 exfs:=fun b hb hm=>(List.mem_cons.mp (I.stkSub b hm)).elim (hf b hb).2.1 (hf b hb).2.2.1
 funs:=I.stack
 frf:=I.stkFree
theorem CompOk.start (O:CompOk X scope cl x cn js) (I:Inv X pins σ H₂ s₂) (hf:∀b∈fp,Sz X pins H₂ b) (ho:∀b∈fp,∃o,s₂.heap.get? b=some o) {h₁:Heap} {m:Str->Option Value} {tk:Nat}
    (hns:h₁.Ns (s₂.heap.objs.size+1) m) (hk:∀b o,s₂.heap.get? b=some o->h₁.get? b=some o) (hD:h₁.get? s₂.heap.objs.size=some { cls:=.type "list",data:=.seq ([]:List Value).toArray }) :
    Inv (Yp X scope cl x cn (s₂.heap.objs.size+1) s₂ H₂ fp) [] (Y4 js none σ) (upd H₂ s₂.heap.objs.size (.lst [])) { s₂ with heap:=h₁,toks:=tk }:=by
 have fD:H₂ s₂.heap.objs.size=none:=I.hok.fresh (Nat.le_refl _)
 have fC:H₂ (s₂.heap.objs.size+1)=none:=I.hok.fresh (Nat.le_succ _)
 have neD:s₂.heap.objs.size+1≠s₂.heap.objs.size:=Nat.succ_ne_self _
 obtain ⟨m0,hn0,hl0⟩:=I.loc
 refine ⟨O.ok I hf (Nat.le_succ _) ho,rfl,I.bare,?_,⟨m,hns,fun i y v e1 e2 e3=>?_⟩,fun y c e=>?_,?_,fun y c e=>?_,(fun p hp=>nomatch hp),?_,?_⟩
 ·exact Un.laid hk (Nat.le_refl _) fD
 ·cases i with
  |zero=>exact nomatch (show (none:Option V)=some v from Option.some.inj e2)
  |succ k =>
   obtain ⟨j,hj,hjN,hvis,hcell,hk2⟩:=O.cap k y (by simpa using e1)
   have e4:(σ[j]?).join=some v:=by
    have z:(js.map fun j=>(σ[j]?).join)[k]?=some (some v):=by simpa [Y4] using e2
    rw[List.getElem?_map,hj]at z
    simpa using z
   have e5:σ[j]?=some (some v):=by
    cases q:σ[j]? with
    |none=>rw[q]at e4; cases e4
    |some o=>rw[q]at e4; simp at e4; rw[e4]
   obtain ⟨u,r,l⟩:=hl0 j y v hjN e5 hvis
   refine ⟨u,r,.inr ⟨hk2,?_⟩⟩
   rcases l with ⟨kl,_⟩|⟨_,c,ec,z⟩
   ·rcases hcell with q|q
    ·rw[kl]at q; cases q
    ·rw[kl]at q; cases q
   ·have hy:∃c',cl.lookup y=some c':=by
     rcases hk2 with q|q
     ·exact O.has _ (PySem.mem_of_lookup (show (relabel scope X.env).names.lookup y=some .cell from q)) (.inl rfl)
     ·exact O.has _ (PySem.mem_of_lookup (show (relabel scope X.env).names.lookup y=some .free from q)) (.inr rfl)
    obtain ⟨c',hc'⟩:=hy
    have ecc:=O.sub y c' hc'
    rw[ec]at ecc
    cases ecc
    exact ⟨c,hc',z.keeps hk⟩
 ·obtain ⟨v,z⟩:=I.cell y c (O.sub y c e)
  exact ⟨v,z.keeps hk⟩
 ·show upd H₂ s₂.heap.objs.size (.lst []) (s₂.heap.objs.size+1)=none
  rw[Zr neD]; exact fC
 ·obtain ⟨v,o,ho',_⟩:=I.cell y c (O.sub y c e)
  rw[Zr (Nat.ne_of_lt (Heap.lt_size ho'))]
  exact I.freeC y c (O.sub y c e)
 ·exact I.hok.laid hk (Nat.le_refl _) ⟨Nat.zero_le _,[],0,.nil,hD⟩
 ·show (Y4 js none σ).length=(x::cn).length
  simp[Y4,O.len]
end
theorem Sn {prog:Program} {w:World} {A:Around} {R:Result->Shared->Prop} {s:Shared} {elt target iter:Expr} {ifs:List Expr} {scope:Scope} {pos:Pos} {it acc:Value} {env:Env} (I:Nat->Shared->Prop)
    (turn:∀n s,I n s->wpAny (model prog w) A (pyNext it) (fun r s₁=>match r with
     |none=>R (.ok .next) s₁
     | some v => wpAny (model prog w) A (letOwnedTupleGo target it v) (fun _ s₁' => wpAny (model prog w) A (assign target env v) (fun _ s₂ =>
         wpAny (model prog w) A (forIn ifs true fun c r=>if r=true then do let ok ← isTrue c env (eval c env); pure (ForInStep.yield ok) else pure (ForInStep.yield r)) (fun ok s₃ =>
          if ok=true then wpAny (model prog w) A (eval elt env) (fun x s₄=>wpAny (model prog w) A (call (.builtin "list.append") [acc,x]) (fun _ s₅=>∃m,m < n∧I m s₅) (fun _ _=>False) s₄) (fun _ _=>False) s₃
          else ∃m,m < n∧I m s₃) (fun _ _=>False) s₂) (fun _ _=>False) s₁') (fun _ _=>False) s₁) (fun _ _=>False) s)
    (n:Nat) (h:I n s):codeAny (model prog w) A (.compLoop (.ListComp elt [⟨target,iter,ifs,0⟩] scope pos) 0 it acc env) R s:=by
 refine codeAny_loop rfl I (fun n s hI=>?_) n h
 show wpAny _ A ((compTurn (.ListComp elt [⟨target,iter,ifs,0⟩] scope pos) 0 it acc env).onRaise (fun x=>do noteFrame x env; theTreesLotGoes x)) _ _ s
 refine wpAny_noted ?_
 rw[compTurn_list]
 refine wpAny_bind (wpAny_standAt (wpAny_bind (wpAny_mono (turn n s hI) (fun r s₁ h₁=>?_) fun _ _ h'=>h'.elim)))
 cases r with
 |none=>exact wpAny_pure h₁
 |some v =>
  refine wpAny_bind (wpAny_mono h₁ (fun _ s₁' h₁'=>?_) fun _ _ h'=>h'.elim)
  refine wpAny_bind (wpAny_mono h₁' (fun _ s₂ h₂=>wpAny_bind (wpAny_mono h₂ (fun ok s₃ h₃=>?_) fun _ _ h'=>h'.elim)) fun _ _ h'=>h'.elim)
  cases ok with
  |false =>
   rw[if_neg Bool.false_ne_true]at h₃
   exact wpAny_pure ⟨rfl,h₃⟩
  |true =>
   rw[if_pos rfl]at h₃
   exact wpAny_bind (wpAny_bind (wpAny_mono h₃ (fun x s₄ h₄=>wpAny_bind (wpAny_mono h₄ (fun _ s₅ h₅=>wpAny_pure (wpAny_pure ⟨rfl,h₅⟩)) fun _ _ h'=>h'.elim)) fun _ _ h'=>h'.elim))
def L6 (wi:TI) (js:List Nat) (tc:Addr->Shared->Hp->List Addr->TT) (te:Addr->Shared->Hp->List Addr->TE):TE:=fun σ H Q=>wi σ H fun J H1=>∀D,H1 D=none->∀C s₂ H₂ fp,∃W:Nat->Nat->List V->Hp->Prop,(∃m,W 0 m [] (upd H1 D (.lst [])))∧∀i m ys H2,W i m ys H2->H2 D=some (.lst ys) ∧
 ((J.stop i H2∧Q (.ref D) H2)∨(J.go i H2∧∀x H',J.yld i H2 x H'->tc C s₂ H₂ fp (Y4 js (some x) σ) H' fun b H3=>if b=true then te C s₂ H₂ fp (Y4 js (some x) σ) H3 fun v H4=>H4 D=some (.lst ys)∧ys.length < sizeLine∧∃m',m' < m∧W (i+1) m' (ys++[v]) (upd H4 D (.lst (ys++[v])))
  else ∃m',m' < m∧W (i+1) m' ys H3))
section
variable {X:Cx} {scope:Scope} {cl:List (Str × Addr)} {x:Str} {cn:List Str} {js:List Nat} {elt iter:Expr} {ifs:List Expr} {px pos:Pos} {wi:TI} {tc:Addr->Shared->Hp->List Addr->TT} {te:Addr->Shared->Hp->List Addr->TE}
theorem SY (O:CompOk X scope cl x cn js) (hc:X.calm=true) (ht:∀C s₂ H₂ fp,VT (Yp X scope cl x cn C s₂ H₂ fp) ifs (tc C s₂ H₂ fp)) (he:∀C s₂ H₂ fp,PE (Yp X scope cl x cn C s₂ H₂ fp) elt (te C s₂ H₂ fp))
    {pins:List (Addr × Obj)} {σ:St} {s₂:Shared} {itv:Value} {R:V->Hp->Prop} {RR:Value->Addr->Result->Shared->Prop} {E:Value->Shared->Prop}
    (h:PIE X pins σ (.Name x px) (fun J H1=>∀D,H1 D=none->∀C s₂ H₂ fp,∃W:Nat->Nat->List V->Hp->Prop,(∃m,W 0 m [] (upd H1 D (.lst [])))∧∀i m ys H2,W i m ys H2->H2 D=some (.lst ys) ∧
     ((J.stop i H2∧R (.ref D) H2)∨(J.go i H2∧∀x H',J.yld i H2 x H'->tc C s₂ H₂ fp (Y4 js (some x) σ) H' fun b H3=>if b=true then te C s₂ H₂ fp (Y4 js (some x) σ) H3 fun v H4=>H4 D=some (.lst ys)∧ys.length < sizeLine∧∃m',m' < m∧W (i+1) m' (ys++[v]) (upd H4 D (.lst (ys++[v])))
      else ∃m',m' < m∧W (i+1) m' ys H3))) itv s₂)
    (hRR:∀D C H' s',Inv X pins σ H' s'->R (.ref D) H'->H' C=none->C≠X.env.locals->X.s₀.heap.objs.size<=C->(∀y c,X.env.cells.lookup y=some c->c≠C)->(∀p∈X.pn++pins,p.1≠C)->(∃m,s'.heap.Ns C m)->RR (.ref D) C (.ok .next) s') :
    wpAny (model X.prog X.w) X.A (newList []) (fun acc s₃=>wpAny (model X.prog X.w) X.A (newFunctionEnv scope X.env.globals cl [] X.env.qual none .none (some X.env)) (fun cenv s₄ =>
     codeAny (model X.prog X.w) X.A (.compStart (.ListComp elt [⟨.Name x px,iter,ifs,0⟩] scope pos) 0 itv acc { cenv with scope:=relabel scope X.env }) (RR acc cenv.locals) s₄) E s₃) E s₂:=by
 obtain ⟨it,fp,tn,J,H₂,rfl,I2,T,st2,f2,hR⟩:=h
 have ho:∀b∈fp,∃o,s₂.heap.get? b=some o:=fun b hb=>let ⟨o,e,_⟩:=T.obj _ _ st2 b hb; ⟨o,e⟩
 obtain ⟨W,⟨m0,w0⟩,turn⟩:=hR s₂.heap.objs.size (I2.hok.fresh (Nat.le_refl _)) (s₂.heap.objs.size+1) s₂ H₂ fp
 refine wpAny_newObj_type (wpAny_newFunctionEnv O.nocell (by intro y hy; simp at hy) (fun h₁ hns₁ hsb₁=>?_) O.kind)
 dsimp only at hns₁ hsb₁ ⊢
 generalize hH2:s₂.heap.push { cls:=.type "list",dict:=none,data:=.seq ([]:List Value).toArray }=HH at hns₁ hsb₁ ⊢
 have hsz:HH.objs.size=s₂.heap.objs.size+1:=by rw[← hH2,Heap.size_push]
 have old:∀b o,s₂.heap.get? b=some o->h₁.get? b=some o:=fun b o e=>by
  refine hsb₁.extBut b o ?_ (Heap.get?_push_of_some _ (hH2 ▸ Heap.get?_push_of_some _ e))
  rw[hsz]
  exact Nat.ne_of_lt (Nat.lt_succ_of_lt (Heap.lt_size e))
 have hD:h₁.get? s₂.heap.objs.size=some { cls:=.type "list",data:=.seq ([]:List Value).toArray }:=by
  refine hsb₁.extBut _ _ ?_ (Heap.get?_push_of_some _ (hH2 ▸ Heap.get?_push_size _ rfl))
  rw[hsz]
  exact Nat.ne_of_lt (Nat.lt_succ_self _)
 rw[hsz]at hns₁
 show codeAny _ _ (.compStart _ 0 (.ref it) (.ref s₂.heap.objs.size) (compEnvC scope cl HH.objs.size X.env)) (RR (.ref s₂.heap.objs.size) HH.objs.size) _
 rw[hsz]
 have I3:=O.start I2 f2 ho (tk:=s₂.toks+([]:List (Str × Value)).length) hns₁ old hD
 have st3:tn 0 h₁:=T.keep 0 _ _ st2 fun b hb o e=>old b o e
 have fpD:∀b∈fp,b≠s₂.heap.objs.size:=fun b hb=>by obtain ⟨o,e⟩:=ho b hb; exact Nat.ne_of_lt (Heap.lt_size e)
 have stat:∀{pl:List (Addr × Obj)} {H':Hp},(∀b∈fp,H' b=none)->(∀p∈pl,∀b∈fp,p.1≠b)->∀b∈fp,Sz (Yp X scope cl x cn (s₂.heap.objs.size+1) s₂ H₂ fp) pl H' b:=fun {pl H'} hn hp b hb =>
  ⟨hn b hb,(I3.ok.exf b hb).1,fun hm=>I3.ok.exfs b hb hm,.inl hb,(I3.ok.exf b hb).2,fun p hpm=>hp p (by simpa using hpm) b hb⟩
 have loop : ∀ s₃ : Shared,s₃ = { s₂ with heap:=h₁,toks:=s₂.toks + ([] : List (Str × Value)).length } ->
     codeAny (model X.prog X.w) X.A (.compLoop (.ListComp elt [⟨.Name x px,iter,ifs,0⟩] scope pos) 0 (.ref it) (.ref s₂.heap.objs.size) (compEnvC scope cl (s₂.heap.objs.size+1) X.env)) (RR (.ref s₂.heap.objs.size) (s₂.heap.objs.size+1)) s₃:=by
  rintro s₃ rfl
  refine Sn (fun n s'=>∃i ys v H',Inv (Yp X scope cl x cn (s₂.heap.objs.size+1) s₂ H₂ fp) [] (Y4 js v σ) H' s'∧tn i s'.heap∧(∀b∈fp,H' b=none)∧W i n ys H') ?_ m0
   ⟨0,[],none,_,I3,st3,fun b hb=>by rw[Zr (fpD b hb)]; exact (f2 b hb).1,w0⟩
  rintro n s4 ⟨i,ys,v4,H4,I4,st4,fr4,w4⟩
  obtain ⟨hD4,tr⟩:=turn i n ys H4 w4
  rcases tr with ⟨stop,qn⟩|⟨go,step⟩
  ·refine wpAny_mono (T.done (Yp X scope cl x cn (s₂.heap.objs.size+1) s₂ H₂ fp) rfl rfl rfl hc i [] s4 _ H4 (fun _ _=>False) I4 (stat fr4 (fun _ z=>nomatch z)) st4 stop) (fun r s5 ⟨hr,I5⟩=>?_) fun _ _ q=>q
   subst hr
   have I6:Inv X pins σ H4 s5:=I2.call' (ch:=fp) I5.os I5.base I5.hok I5.bare fun b hb=>⟨(f2 b hb).2.2.2.1,(f2 b hb).2.1,(f2 b hb).2.2.2.2.1,(f2 b hb).2.2.2.2.2⟩
   obtain ⟨m,hn,_⟩:=I5.loc
   refine hRR _ _ H4 s5 I6 qn I5.free (Nat.ne_of_gt (Nat.lt_succ_of_lt I2.lt)) (Nat.le_succ_of_le I2.sz) (fun y c e z=>?_) (fun p hp z=>?_) ⟨m,hn⟩
   ·obtain ⟨v,o,ho',_⟩:=I2.cell y c e
    exact absurd (Heap.lt_size ho') (by rw[z]; exact Nat.not_lt.mpr (Nat.le_succ _))
   ·exact absurd (Heap.lt_size (I2.pin p hp).1) (by rw[z]; exact Nat.not_lt.mpr (Nat.le_succ _))
  ·refine wpAny_mono (T.item (Yp X scope cl x cn (s₂.heap.objs.size+1) s₂ H₂ fp) rfl rfl rfl hc i [] s4 _ H4 (fun _ _=>False) I4 (stat fr4 (fun _ z=>nomatch z)) st4 go) (fun r s4' ⟨u,hr,h5⟩=>?_) fun _ _ q=>q
   subst hr
   refine wpAny_mono h5 (fun _ s5 ⟨x5,H5,I5,r5,y5,st5,fr5⟩=>?_) fun _ _ q=>q
   have I5p:=I5.pinned (stat fr5 (fun _ z=>nomatch z)) (T.obj _ _ st5)
   refine wpAny_assign_Name (Rq (X:=Yp X scope cl x cn (s₂.heap.objs.size+1) s₂ H₂ fp) (i:=0) (E:=fun _ _=>False) I5p O.nd rfl (.inl (lookup_relabel_local O.hx)) r5 (fun s6 I6=>?_) (.inr (lookup_relabel_local O.hx)))
   have I6:Inv (Yp X scope cl x cn (s₂.heap.objs.size+1) s₂ H₂ fp) ([]++W4 fp s5.heap) (Y4 js (some x5) σ) H5 s6:=I6
   have again:∀{s7:Shared} {H7:Hp},Inv (Yp X scope cl x cn (s₂.heap.objs.size+1) s₂ H₂ fp) ([]++W4 fp s5.heap) (Y4 js (some x5) σ) H7 s7->tn (i+1) s7.heap∧∀b∈fp,H7 b=none:=fun {s7 H7} I7=>by
    refine ⟨T.keep _ _ _ st5 fun b hb o e=>(I7.pin (b,o) (List.mem_append_right _ (List.mem_append_right _ (XF hb e)))).1,fun b hb=>?_⟩
    obtain ⟨o,e,d⟩:=T.obj _ _ st5 b hb
    exact (I7.pin (b,o) (List.mem_append_right _ (List.mem_append_right _ (XF hb e)))).2.1
   refine wpAny_mono (ht _ _ _ _ _ s6 _ H5 _ I6 (step x5 H5 y5)) (fun ok s7 ⟨H7,I7,q7⟩=>?_) fun _ _ q=>q
   cases ok with
   |false =>
    rw[if_neg Bool.false_ne_true]
    rw[if_neg Bool.false_ne_true]at q7
    obtain ⟨m',hm,w7⟩:=q7
    obtain ⟨st7,fr7⟩:=again I7
    exact ⟨m',hm,i+1,ys,some x5,H7,I7.unpinned,st7,fr7,w7⟩
   |true =>
    rw[if_pos rfl]
    rw[if_pos rfl]at q7
    refine wpAny_mono (he _ _ _ _ _ s7 _ H7 _ I7 q7) (fun u8 s8 ⟨v8,H8,I8,r8,hD8,hz8,m',hm,w8⟩=>?_) fun _ _ q=>q
    obtain ⟨st8,fr8⟩:=again I8
    obtain ⟨z8,its,k8,rv8,e8⟩:=I8.hok _ _ hD8
    have hl8:=rv8.length
    refine append_at (E:=fun _ _=>False) (hsz:=by rw[List.size_toArray]; omega) e8 fun h9 hs9 e9=>?_
    have I9:Inv (Yp X scope cl x cn (s₂.heap.objs.size+1) s₂ H₂ fp) ([]++W4 fp s5.heap) (Y4 js (some x5) σ) (upd H8 s₂.heap.objs.size (.lst (ys++[v8]))) { s8 with heap:=h9 }:=by
     refine I8.write (x:=s₂.heap.objs.size) (e:=s₂.heap.objs.size) (t':=s8.toks) (by rw[hD8]; exact True.intro) (.inl rfl) (fun b u hb q=>(hs9.2 b hb).trans q) ⟨_,e9⟩ ?_
     refine ⟨by rw[List.length_append,List.length_singleton]; omega,its++[u8],k8+1,rv8.append (.cons r8 .nil),?_⟩
     rw[e9,List.push_toArray]
    obtain ⟨st9,fr9⟩:=again I9
    exact ⟨m',hm,i+1,ys++[v8],some x5,_,I9.unpinned,st9,fr9,w8⟩
 exact codeAny_compStart_list (loop _ rfl) (T.self _ 0 _ _ _ st3 (loop _ rfl))
theorem Kl (O:CompOk X scope cl x cn js) (hc:X.calm=true) (hi:PI X (.Name x px) iter wi) (ht:∀C s₂ H₂ fp,VT (Yp X scope cl x cn C s₂ H₂ fp) ifs (tc C s₂ H₂ fp)) (he:∀C s₂ H₂ fp,PE (Yp X scope cl x cn C s₂ H₂ fp) elt (te C s₂ H₂ fp))
    (hs:∀v,foldedSetIterable iter X.env v=pure v:=by intro _; rfl):PE X (.ListComp elt [⟨.Name x px,iter,ifs,0⟩] scope pos) (L6 wi js tc te):=by
 intro pins s σ H Q I h
 rw[eval_ListComp]
 refine wpAny_comprehension_free (use:=none) rfl hs O.clos O.kind O.names (thn (hi pins s σ H _ I h) fun v s1 h1=>thn h1 fun itv s2 h2=>?_)
 refine SY O hc ht he (R:=Q) (RR:=fun acc C=>compPost (model X.prog X.w) X.A X.xe none (EP X pins σ Q) acc C) h2 ?_
 intro D C H' s' I' q hC hL h0 hcl hp ⟨m,hn⟩
 refine ⟨m,hn,fun h'' hs''=>⟨.ref D,H',?_,rfl,q⟩⟩
 exact I'.turned (t':=s'.toks) (fun b o hb e=>(hs''.2 b hb).trans e) hC hL (.inr h0) hcl hp
def HN (j:Nat) (wi:TI) (js:List Nat) (tc:Addr->Shared->Hp->List Addr->TT) (te:Addr->Shared->Hp->List Addr->TE):TS:=fun D σ H=>L6 wi js tc te σ H fun v H1=>D.nx (σ.set j (some v)) H1
theorem RH {j:Nat} {y:Str} {py spos:Pos} (O:CompOk X scope cl x cn js) (hc:X.calm=true) (hi:PI X (.Name x px) iter wi) (ht:∀C s₂ H₂ fp,VT (Yp X scope cl x cn C s₂ H₂ fp) ifs (tc C s₂ H₂ fp)) (he:∀C s₂ H₂ fp,PE (Yp X scope cl x cn C s₂ H₂ fp) elt (te C s₂ H₂ fp))
    (hN:X.N.Nodup) (hj:X.N[j]?=some y) (hy:Loc X.env.scope y) (hsw:swapsWith (.ListComp elt [⟨.Name x px,iter,ifs,0⟩] scope pos) (some (.Name y py)) spos.line X.env=pure true)
    (hs:∀v,foldedSetIterable iter X.env v=pure v:=by intro _; rfl) (hf:X.fn y=true∨X.env.scope.names.lookup y=some .local:=by first|exact .inl rfl|exact .inr rfl) :
    PS X (.Assign [.Name y py] (.ListComp elt [⟨.Name x px,iter,ifs,0⟩] scope pos) spos) (HN j wi js tc te):=by
 intro pins s σ H D I h
 rw[exec_Assign_Name_used _ _ _ _ hsw]
 refine wpAny_bind (wpAny_standAt (wpAny_bind ?_))
 show wpAny _ X.A (do let _ ← comprehension (.ListComp elt [⟨.Name x px,iter,ifs,0⟩] scope pos) scope X.env _ (newList []) false (eval iter X.env) (some (assign (.Name y py) X.env))) _ _ s
 refine wpAny_bind (wpAny_mono (wpAny_comprehension_free (use:=some (assign (.Name y py) X.env)) (Q:=fun _ s'=>SP X pins D .next s') rfl hs O.clos O.kind O.names
  (thn (hi pins s σ H _ I h) fun v s1 h1=>thn h1 fun itv s2 h2=>?_)) (fun _ s' hq=>wpAny_pure (wpAny_pure hq)) fun _ _ e=>e)
 refine SY O hc ht he (R:=fun v H1=>D.nx (σ.set j (some v)) H1) (RR:=fun acc C=>compPost (model X.prog X.w) X.A X.xe (some (assign (.Name y py) X.env)) (fun _ s'=>SP X pins D .next s') acc C) h2 ?_
 intro DD C H' s' I' q hC hL h0 hcl hp ⟨m,hn⟩
 show wpAny _ X.A (assign (.Name y py) X.env (.ref DD)) _ _ s'
 refine wpAny_assign_Name (TN I' hN hj hy (v:=.ref DD) rfl (fun s3 I3 ⟨a,hsb,ha⟩=>?_) hf)
 have nCa:C≠a:=fun z=>by
  rcases ha with e|e
  ·exact hL (z.trans e)
  ·exact hcl _ _ e z.symm
 refine ⟨m,hn.sameBut hsb nCa,fun h'' hs''=>⟨_,H',?_,q⟩⟩
 exact I3.turned (t':=s3.toks) (fun b o hb e=>(hs''.2 b hb).trans e) hC hL (.inr h0) hcl hp
end
open PySem PySem.Spec PyProof.Rows
section
variable {X:Cx} {pins:List (Addr × Obj)} {σ:St} {H:Hp} {s:Shared}
theorem Inv.freeze {d:Addr} {ob:Obj} {ks:List (Key × V)} (I:Inv X pins σ H s) (hd:H d=some (.dK ks)) (ho:s.heap.get? d=some ob):Inv X pins σ (upd H d (.frz ob (.dK ks))) s:=by
 have old:∀b x,H b=some x->(∀ys,x≠.dK ys)->upd H d (.frz ob (.dK ks)) b=some x:=fun b x e n=>by
  have hb:b≠d:=fun z=>by rw[z,hd]at e; exact n ks (Option.some.inj e).symm
  rw[Zr hb]; exact e
 have ow:∀b a,H b=some (.own a)->upd H d (.frz ob (.dK ks)) b=some (.own a):=fun b a e=>old b _ e fun _ z=>by cases z
 have tu:∀b xs,H b=some (.tup xs)->upd H d (.frz ob (.dK ks)) b=some (.tup xs):=fun b a e=>old b _ e fun _ z=>by cases z
 refine I.un (h':=s.heap) (t':=s.toks) (H':=upd H d (.frz ob (.dK ks))) ⟨fun b o e n _ _=>e,fun b o e n _ _=>⟨o.slots,e⟩,fun b o e n _=>?_,fun b o e _=>⟨o,e⟩,tu,fun b o u e=>old b _ e (fun _ z=>by cases z),fun b ps e=>⟨#[],?_⟩⟩ (fun b x e=>?_)
 ·rw[Zr (Ne.symm (ZR hd n))]; exact n
 ·rw[Array.append_empty]; exact old b _ e (fun _ z=>by cases z)
 ·by_cases hb:b=d
  ·rw[hb,Zu]at e
   cases e
   rw[hb]
   exact ⟨ho,(I.hok d _ hd).stay (fun _ _ _ q=>q) (fun c q=>ow c _ q) fun c xs q=>tu c xs q⟩
  ·rw[Zr hb]at e
   exact (I.hok b x e).stay (fun _ _ _ q=>q) (fun c q=>ow c _ q) fun c xs q=>tu c xs q
theorem Inv.nofrz {d:Addr} {ks:List (Key × V)} (I:Inv X pins σ H s) (hd:H d=some (.dK ks)):∀o u,X.H₀ d≠some (.frz o u):=fun o u z=>by
 have:=I.base.frzs d o u z
 rw[hd]at this; cases this
theorem Inv.thaw {d:Addr} {ob:Obj} {ks:List (Key × V)} (I:Inv X pins σ H s) (hd:H d=some (.frz ob (.dK ks))) (nf:∀o u,X.H₀ d≠some (.frz o u)):Inv X pins σ (upd H d (.dK ks)) s:=by
 have old:∀b x,H b=some x->b≠d->upd H d (.dK ks) b=some x:=fun b x e n=>by rw[Zr n]; exact e
 have nn:∀b,H b=none->upd H d (.dK ks) b=none:=fun b n=>by rw[Zr (Ne.symm (ZR hd n))]; exact n
 have tu:∀b xs,H b=some (.tup xs)->upd H d (.dK ks) b=some (.tup xs):=fun b xs e=>old b _ e fun z=>by rw[z,hd]at e; cases e
 have ow:∀b a,H b=some (.own a)->upd H d (.dK ks) b=some (.own a):=fun b xs e=>old b _ e fun z=>by rw[z,hd]at e; cases e
 refine ⟨I.ok,I.os,I.bare,⟨I.base.keep,I.base.slot,fun b o e n hx=>nn b (I.base.free b o e n hx),I.base.there,fun b xs e=>tu b xs (I.base.tups b xs e),fun b o u e=>old b _ (I.base.frzs b o u e) (fun z=>nf o u (z ▸ e)),fun b ps e=>?_⟩,
  I.loc,I.cell,nn _ I.free,fun x c e=>nn c (I.freeC x c e),fun p hp=>?_,fun b x e=>?_,I.len⟩
 ·obtain ⟨more,e1⟩:=I.base.tbls b ps e
  exact ⟨more,old b _ e1 fun z=>by rw[z,hd]at e1; cases e1⟩
 ·obtain ⟨h1,h2,h3⟩:=I.pin p hp
  exact ⟨h1,nn _ h2,h3⟩
 ·by_cases hb:b=d
  ·rw[hb,Zu]at e
   cases e
   rw[hb]
   obtain ⟨_,q⟩:=(show s.heap.get? d=some ob∧ObjOk X.prog X.w H s.heap d (.dK ks) from I.hok d _ hd)
   exact q.stay (fun _ _ _ q=>q) (fun c q=>ow c _ q) fun c xs q=>tu c xs q
  ·rw[Zr hb]at e
   exact (I.hok b x e).stay (fun _ _ _ q=>q) (fun c q=>ow c _ q) fun c xs q=>tu c xs q
end
theorem GH {k:Key} {v:Value} (h:RM k v=true):RelV (kV k) v:=by
 rcases Yu h with ⟨i,t,rfl,rfl⟩|⟨x,t,rfl,rfl⟩
 ·exact ⟨t,rfl⟩
 ·exact ⟨t,rfl⟩
theorem Kb {α γ:Type} {R:α->γ->Prop}:∀{xs:List α} {ys:List γ} {i:Nat} {x:α} {y:γ},Paired R xs ys->xs[i]?=some x->ys[i]?=some y->R x y
 |_,_,_,_,_,.nil,e,_=>by simp at e
 |_,_,0,_,_,.cons h _,e1,e2=>by simp at e1 e2; subst e1 e2; exact h
 |_,_,i+1,_,_,.cons _ r,e1,e2=>Kb (i:=i) r (by simpa using e1) (by simpa using e2)
def Itd (d:Addr) (ob:Obj) (ks:List (Key × V)):It :=
 ⟨fun i H=>H d=some (.frz ob (.dK ks))∧i < ks.length,fun i H x H'=>H'=H∧∃p,ks[i]?=some p∧x=kV p.1,fun i H=>H d=some (.frz ob (.dK ks))∧ks.length<=i⟩
def TnD (d:Addr) (ob:Obj) (it:Addr) (i:Nat) (h:Heap):Prop:=∃es ep,h.IsKeyIter it d i es.size ep∧ob.data=.dict es ep
theorem Di {P:Program} {w:World} {H:Hp} {h:Heap} {d:Addr} {ob:Obj} {ks:List (Key × V)} {es:Array DictEntry} {ep:Nat} (ok:HOk P w H h) (hd:H d=some (.frz ob (.dK ks))) (hdat:ob.data=.dict es ep) :
    ∃ws,KV ks ws∧h.DictAt (ZM P w) d ws ep∧es.size=ws.length:=by
 obtain ⟨ho,z,hS,ws,r,m⟩:=(show h.get? d=some ob∧ks.length<=sizeLine∧(d == sysModules)=false∧∃vs,KV ks vs∧h.DictOf (ZM P w) d vs from ok d _ hd)
 obtain ⟨o',es',ep',ho',hex,hdat',hk,hp,hn⟩:=m
 rw[ho]at ho'
 cases ho'
 rw[hdat]at hdat'
 injection hdat' with e1 e2
 subst e1 e2
 refine ⟨ws,r,⟨ob,es,ho,hex,hdat,hk,hp,hn⟩,?_⟩
 have:=hp.length
 simpa using this
theorem Qy {P:Program} {w:World} {K:PySem.W.Frag} {tg:Expr} (d it:Addr) (ob:Obj) (ks:List (Key × V)):Turn P w K tg (Itd d ob ks) [it] it (TnD d ob it) where
 mem:=by simp
 obj:=fun i h ⟨es,ep,st,_⟩ b hb=>by
  have e:b=it:=by simpa using hb
  subst e
  obtain ⟨o,e,c,d⟩:=st
  exact ⟨o,e,fun v z=>by rw[d]at z; cases z⟩
 keep:=fun i h h' ⟨es,ep,⟨o,e,c,q⟩,hd⟩ k=>⟨es,ep,⟨o,k it (by simp) o e,c,q⟩,hd⟩
 item:=by
  intro X hP hw hK hc i pins s σ H E I hf st hg
  subst hP hw hK
  obtain ⟨hd,hi⟩:=hg
  obtain ⟨es,ep,hit,hdat⟩:=st
  obtain ⟨ws,r,hm,hsz⟩:=Di I.hok hd hdat
  have hl:ks.length=ws.length:=r.length
  have hiw:i < ws.length:=by omega
  obtain ⟨f0,f1,f2,f3,f4,f5⟩:=hf it (by simp)
  rw[hsz]at hit
  refine wpAny_pyNext_dict_item (knd:=ZM X.prog X.w) (kvs:=ws) (k:=ws[i].1) (v:=ws[i].2) hit hm (List.getElem?_eq_getElem hiw) fun key h' hkey hit' sb=>?_
  have I1:Inv X pins σ H { s with heap:=h' }:=I.turned (t':=s.toks) (fun b o hb e=>(sb.2 b hb).trans e) f0 f1 f3 f4 f5
  obtain ⟨oi,e1,c1,d1⟩:=id hit'
  obtain ⟨g1,_⟩:=Kb r (List.getElem?_eq_getElem hi) (List.getElem?_eq_getElem hiw)
  refine ⟨key,rfl,HY (s:={ s with heap:=h' }) e1 c1 d1 (by decide) ⟨kV ks[i].1,H,I1,?_,⟨rfl,ks[i],List.getElem?_eq_getElem hi,rfl⟩,⟨es,ep,by rw[hsz]; exact hit',hdat⟩,fun b hb=>(hf b hb).1⟩⟩
  rw[g1]
  exact GH hkey
 done:=by
  intro X hP hw hK hc i pins s σ H E I hf st hg
  subst hP hw hK
  obtain ⟨hd,hi⟩:=hg
  obtain ⟨es,ep,hit,hdat⟩:=st
  obtain ⟨ws,r,hm,hsz⟩:=Di I.hok hd hdat
  have hl:ks.length=ws.length:=r.length
  obtain ⟨f0,f1,f2,f3,f4,f5⟩:=hf it (by simp)
  rw[hsz]at hit
  exact wpAny_pyNext_dict_end (knd:=ZM X.prog X.w) (kvs:=ws) (I.ok.hd hc) hit hm (List.getElem?_eq_none (by omega)) fun h' eb=>⟨rfl,I.turned (t':=s.toks) (fun b o hb e=>eb b o hb e) f0 f1 f3 f4 f5⟩
 self:=fun _ _ _ _ _ ⟨_,_,st,_⟩ h=>wpAny_pyIter_keyiter st h
section
variable {X:Cx} {tg:Expr}
def Es (X:Cx) (tl:TE):TI:=fun σ H R=>tl σ H fun x H1=>∃d ks,x=.ref d∧((H1 d=some (.dK ks)∧∀ob,(∀o u,X.H₀ d≠some (.frz o u))->R (Itd d ob ks) (upd H1 d (.frz ob (.dK ks))))∨∃ob,H1 d=some (.frz ob (.dK ks))∧R (Itd d ob ks) H1)
theorem PK {l:Expr} {tl:TE} (hl:PE X l tl):PI X tg l (Es X tl):=by
 intro pins s σ H R I h
 refine thn (hl pins s σ H _ I h) fun v s1 ⟨x,H1,I1,r1,q1⟩=>?_
 obtain ⟨d,ks,e,q⟩:=q1
 subst e
 cases r1
 rcases q with ⟨hd,q⟩|⟨ob,hd,q⟩
 ·obtain ⟨z,hS,ws,r,m⟩:=(show ks.length<=sizeLine∧(d == sysModules)=false∧∃vs,KV ks vs∧s1.heap.DictOf (ZM X.prog X.w) d vs from I1.hok d _ hd)
  obtain ⟨ob,es,ep,ho,hex,hdat,hk,hp,hn⟩:=m
  have hsz:es.size=ws.length:=by have:=hp.length; simpa using this
  have I2:=I1.freeze hd ho
  refine wpAny_pyIter_dict (knd:=ZM X.prog X.w) (kvs:=ws) (ep:=ep) hS ⟨ob,es,ho,hex,hdat,hk,hp,hn⟩ ?_
  refine ⟨s1.heap.objs.size,[s1.heap.objs.size],_,_,_,rfl,I2.kept (t':=s1.toks) fun b o e=>Heap.get?_push_of_some _ e,Qy d _ ob ks,⟨es,ep,⟨_,Heap.get?_push_size _ rfl,rfl,by rw[hsz]; rfl⟩,hdat⟩,fun b hb=>?_,q ob (I1.nofrz hd)⟩
  have e:b=s1.heap.objs.size:=by simpa using hb
  subst e
  exact I2.fpOk (Nat.le_refl _) (I2.hok.fresh (Nat.le_refl _))
 ·obtain ⟨ho,z,hS,ws,r,m⟩:=(show s1.heap.get? d=some ob∧ks.length<=sizeLine∧(d == sysModules)=false∧∃vs,KV ks vs∧s1.heap.DictOf (ZM X.prog X.w) d vs from I1.hok d _ hd)
  obtain ⟨ob',es,ep,ho',hex,hdat,hk,hp,hn⟩:=m
  rw[ho]at ho'
  cases ho'
  have hsz:es.size=ws.length:=by have:=hp.length; simpa using this
  refine wpAny_pyIter_dict (knd:=ZM X.prog X.w) (kvs:=ws) (ep:=ep) hS ⟨ob,es,ho,hex,hdat,hk,hp,hn⟩ ?_
  refine ⟨s1.heap.objs.size,[s1.heap.objs.size],_,_,_,rfl,I1.kept (t':=s1.toks) fun b o e=>Heap.get?_push_of_some _ e,Qy d _ ob ks,⟨es,ep,⟨_,Heap.get?_push_size _ rfl,rfl,by rw[hsz]; rfl⟩,hdat⟩,fun b hb=>?_,q⟩
  have e:b=s1.heap.objs.size:=by simpa using hb
  subst e
  exact I1.fpOk (Nat.le_refl _) (I1.hok.fresh (Nat.le_refl _))
def Thawed (X:Cx) (Q:Hp->Prop) (H2:Hp):Prop:=(∃d ob ks,(∀o u,X.H₀ d≠some (.frz o u))∧H2 d=some (.frz ob (.dK ks))∧Q (upd H2 d (.dK ks)))∨Q H2
theorem Thawed.inv {Q:Hp->Prop} {pins:List (Addr × Obj)} {σ:St} {H:Hp} {s:Shared} (h:Thawed X Q H) (I:Inv X pins σ H s):∃H',Inv X pins σ H' s∧Q H':=by
 rcases h with ⟨d,ob,ks,nf,hd,q⟩|q
 ·exact ⟨_,I.thaw hd nf,q⟩
 ·exact ⟨H,I,q⟩
theorem FD {e:Expr} {t:TE} (h:PE X e t):PE X e (fun σ H Q=>t σ H fun v=>Thawed X (Q v)):=fun pins s σ H Q I q =>
 thn (h pins s σ H _ I q) fun v s1 ⟨x,H1,I1,r1,q1⟩=>let ⟨H2,I2,q2⟩:=q1.inv I1; ⟨x,H2,I2,r1,q2⟩
def LR (X:Cx) (D:Ends):Ends:=⟨fun σ=>Thawed X (D.nx σ),fun v=>Thawed X (D.rt v),fun σ=>Thawed X (D.bk σ),fun σ=>Thawed X (D.ct σ)⟩
theorem F9 {pins:List (Addr × Obj)} {D:Ends} {f:Flow} {s:Shared} (h:SP X pins (LR X D) f s):SP X pins D f s:=by
 cases f with
 |next=>obtain ⟨σ,H,I,q⟩:=h; obtain ⟨H2,I2,q2⟩:=Thawed.inv q I; exact ⟨σ,_,I2,q2⟩
 |brk=>obtain ⟨σ,H,I,q⟩:=h; obtain ⟨H2,I2,q2⟩:=Thawed.inv q I; exact ⟨σ,_,I2,q2⟩
 |cont=>obtain ⟨σ,H,I,q⟩:=h; obtain ⟨H2,I2,q2⟩:=Thawed.inv q I; exact ⟨σ,_,I2,q2⟩
 |ret u=>obtain ⟨v,σ,H,I,r,q⟩:=h; obtain ⟨H2,I2,q2⟩:=Thawed.inv q I; exact ⟨v,σ,_,I2,r,q2⟩
theorem LX {e:Stmt} {t:TS} (h:PS X e t):PS X e (fun D σ H=>t (LR X D) σ H):=fun pins s σ H D I q=>thn (h pins s σ H _ I q) fun f s1 z=>F9 z
theorem RC:∀{xs:List V} {us:List Value} {ns:List Int},xs=ns.map V.int->Vals xs us->IntsAre us ns
 |_,_,[],e,r=>by subst e; cases r; exact .nil
 |_,_,n::ns,e,r=>by
  subst e
  cases r with
  |cons h r =>
   obtain ⟨t,rfl⟩:=(show ∃t,_=Value.int n t from h)
   exact .cons n t (RC rfl r)
theorem Oy:∀{us:List Value} {ns:List Int},IntsAre us ns->Vals (ns.map V.int) us
 |_,_,.nil=>.nil
 |_,_,.cons n t r=>.cons ⟨t,rfl⟩ (Oy r)
def Ih (K:PySem.W.Frag):List V->Hp->VK->Prop:=fun xs H Q=>∃(l:Addr) (ns:List Int),xs=[.ref l]∧SqL K H l (ns.map V.int)∧ns.length < 64∧∀(p:Addr) (ms:List Int),ms.Perm ns->ms.Pairwise (·<=·)->H p=none->Q (.ref p) (upd H p (.lst (ms.map V.int)))
theorem Mm:CallR X (.builtin "sorted") (Ih X.K):=by
 intro pins s σ H xs us Q I r h
 obtain ⟨l,ns,rfl,hl,h64,q⟩:=h
 obtain ⟨u,rfl,ru⟩:=V1 r
 cases (show u=Value.ref l from ru)
 obtain ⟨its,rv,p,hz⟩:=I.list hl
 have hI:=RC rfl rv
 have hlen:its.length=ns.length:=by have:=rv.length; rw[List.length_map]at this; exact this.symm
 refine sorted_ints (vs:=its) (ns:=ns) p.isList hI (by omega) fun out ms a1 a2 a3=>?_
 obtain ⟨e,he⟩:=sortedAll_at s.heap its out
 refine ⟨.ref (s.heap.objs.size+1),_,I.laid (o:=.lst (ms.map V.int)) (t':=s.toks) (fun _ _=>sortedAll_old) (Nat.le_succ _) ?_,rfl,q _ ms a2 a3 (I.hok.fresh (Nat.le_succ _))⟩
 have hl2:ms.length=ns.length:=a2.length_eq
 refine ⟨by rw[List.length_map,sizeLine_eq]; omega,out.toList,e,Oy a1,?_⟩
 rw[he]
theorem Pv:∀{xs:List V} {us:List Value} {bs:List Bool},xs=bs.map V.bl->Vals xs us->LSm.BoolsAre us bs
 |_,_,[],e,r=>by subst e; cases r; exact .nil
 |_,_,b::bs,e,r=>by
  subst e
  cases r with
  |cons h r =>
   cases (show _=Value.bool b from h)
   exact .cons b (Pv rfl r)
def Dg (K:PySem.W.Frag) (g:List Bool->Bool):List V->Hp->VK->Prop:=fun xs H Q=>∃(l:Addr) (bs:List Bool),xs=[.ref l]∧SqL K H l (bs.map V.bl)∧Q (.bl (g bs)) H
theorem K7 (hc:X.calm=true):CallR X (.builtin "any") (Dg X.K fun bs=>bs.any id):=by
 intro pins s σ H xs us Q I r h
 obtain ⟨l,bs,rfl,hl,q⟩:=h
 obtain ⟨u,rfl,ru⟩:=V1 r
 cases (show u=Value.ref l from ru)
 obtain ⟨its,rv,p,hz⟩:=I.list hl
 have hb:=Pv rfl rv
 have hp:=p.isList
 have hlt:l < s.heap.objs.size:=by obtain ⟨_,e,_⟩:=hp; exact Heap.lt_size e
 refine call_any_walk (wpAny_pyIter_list hp ⟨s.heap.objs.size,[s.heap.objs.size,l],[s.heap.objs.size],its.toArray.size,_,_,fun j=>(bs[j]?).getD false,rfl,Walks.list (A:=X.A.in1) (I.ok.hd hc) _ l (Nat.ne_of_lt hlt) its.toArray,
  ⟨⟨_,Heap.get?_push_size _ rfl,rfl,rfl⟩,hp.push _⟩,fun j v s' Q' E' hP hQ=>?_,fun h' tk hk=>?_⟩)
 ·obtain ⟨b,e,rfl⟩:=hb.get j v (by simpa using hP)
  simp only[e,Option.getD_some]at hQ
  exact wpAny_truthy_bool hQ
 ·have e:((List.range its.toArray.size).any fun j=>(bs[j]?).getD false)=bs.any id:=by
   rw[List.size_toArray,hb.length]; exact LSm.range_any bs
  rw[e]
  exact ⟨.bl _,H,I.kept (t':=tk) (LSm.kept_iter hk),rfl,q⟩
end
open PySem PySem.Spec PyProof.Rows
abbrev Z7 (X:Cx) (scope:Scope) (cl:List (Str × Addr)) (xs cn:List Str) (C:Addr) (s₂:Shared) (H₂:Hp) (fp:List Addr):Cx where
 prog:=X.prog
 w:=X.w
 K:=X.K
 mg:=X.mg
 base:=X.base
 A:=X.A
 N:=xs++cn
 s₀:=s₂
 H₀:=H₂
 env:=compEnvC scope cl C X.env
 outer:=X.stack
 stack:=X.stack
 ex:=fp
 fn:=fun _=>false
 calm:=X.calm
 pn:=[]
 xe:=fun _ _=>False
def Uh (js:List Nat) (σ:St):St:=js.map fun j=>(σ[j]?).join
structure CompOkT (X:Cx) (scope:Scope) (cl:List (Str × Addr)) (xs cn:List Str) (js:List Nat):Prop where
 clos:closureFor scope X.env=pure cl
 nocell:∀y∈scope.names,y.2≠.cell
 kind:scope.kind=.function
 names:∀y∈scope.names,y.2=.local->scope.names.lookup y.1=some .local
 sub:∀y c,cl.lookup y=some c->X.env.cells.lookup y=some c
 has:∀p∈(relabel scope X.env).names,p.2=.cell∨p.2=.free->∃c,cl.lookup p.1=some c
 cap:∀(k:Nat) y,cn[k]?=some y->∃j,js[k]?=some j∧X.N[j]?=some y∧Vis X.env.scope y∧(X.env.kindOf y=some .cell∨X.env.kindOf y=some .free)∧((compEnvC scope cl 0 X.env).kindOf y=some .cell∨(compEnvC scope cl 0 X.env).kindOf y=some .free)
 len:js.length=cn.length
 nd:(xs++cn).Nodup
theorem Us {X:Cx} {scope:Scope} {xs cn:List Str} {js:List Nat} (clos:closureFor scope X.env=pure (QO scope.names X.env)) (nocell:∀y∈scope.names,y.2≠.cell) (kind:scope.kind=.function)
    (names:∀y∈scope.names,y.2=.local->scope.names.lookup y.1=some .local)
    (has:((relabel scope X.env).names.all fun p=>!(Qu (some p.2)) || ((QO scope.names X.env).lookup p.1).isSome)=true) (len:js.length=cn.length)
    (cap:((cn.zip js).all fun p=>(X.N[p.2]? == some p.1)&&Qu (X.env.scope.names.lookup p.1)&&Qu ((relabel scope X.env).names.lookup p.1))=true)
    (nd:(xs++cn).Nodup):CompOkT X scope (QO scope.names X.env) xs cn js where
 clos:=clos
 nocell:=nocell
 kind:=kind
 names:=names
 sub:=fun y c h=>Tg X.env scope.names [] (fun _ z=>(nomatch z)) (y,c) (PySem.mem_of_lookup h)
 has:=fun p hp hk=>by
  have q:=List.all_eq_true.mp has p hp
  have hk':Qu (some p.2)=true:=by rcases hk with z|z <;> rw[z] <;> rfl
  rw[hk']at q
  exact Option.isSome_iff_exists.mp (by simpa using q)
 cap:=fun k y e=>by
  have hk:k < cn.length:=(List.getElem?_eq_some_iff.mp e).1
  have hj:js[k]?=some (js[k]'(by omega)):=List.getElem?_eq_getElem _
  have hz:(y,js[k]'(by omega))∈cn.zip js:=by
   refine List.mem_of_getElem? (i:=k) ?_
   rw[List.getElem?_zip_eq_some]
   exact ⟨e,hj⟩
  have q:=List.all_eq_true.mp cap _ hz
  simp only[Bool.and_eq_true,beq_iff_eq]at q
  obtain ⟨⟨q1,q2⟩,q3⟩:=q
  have c2:=SM q2
  refine ⟨_,hj,q1,?_,c2,SM q3⟩
  rcases c2 with z|z
  ·exact .inr (.inl z)
  ·exact .inr (.inr z)
 len:=len
 nd:=nd
section
variable {X:Cx} {scope:Scope} {cl:List (Str × Addr)} {xs cn:List Str} {js:List Nat} {pins:List (Addr × Obj)} {σ:St} {H₂:Hp} {s₂:Shared} {fp:List Addr}
theorem CompOkT.ok (O:CompOkT X scope cl xs cn js) (I:Inv X pins σ H₂ s₂) (hf:∀b∈fp,Sz X pins H₂ b) {C:Addr} (hC:s₂.heap.objs.size<=C) (ho:∀b∈fp,∃o,s₂.heap.get? b=some o):(Z7 X scope cl xs cn C s₂ H₂ fp).Ok where
 mod:=I.mod
 kind:=by show (relabel scope X.env).kind=.function; exact O.kind
 glob:=I.ok.glob
 blt:=I.ok.blt
 above:=hC
 inj:=fun y z c h1 h2=>I.ok.inj y z c (O.sub y c h1) (O.sub z c h2)
 has:=fun y hy=>by
  have hy:(relabel scope X.env).names.lookup y=some .cell∨(relabel scope X.env).names.lookup y=some .free:=hy
  rcases hy with hy|hy
  ·exact O.has _ (PySem.mem_of_lookup hy) (.inl rfl)
  ·exact O.has _ (PySem.mem_of_lookup hy) (.inr rfl)
 cab:=fun _ _ h=>(by cases h)
 hd:=I.ok.hd
 frames:=I.ok.frames
 stk:=.inl rfl
 exf:=fun b hb=>by
  obtain ⟨o,e⟩:=ho b hb
  exact ⟨Nat.ne_of_lt (Nat.lt_of_lt_of_le (Heap.lt_size e) hC),fun y c h=>(hf b hb).2.2.2.2.1 y c (O.sub y c h)⟩
 bs:=I.bs
 bsz:=Nat.le_trans I.ok.bsz I.sz
 noex:=fun b o e hb=>by
  rcases (hf b hb).2.2.2.1 with z|z
  ·exact I.ok.noex b o e z
  ·exact absurd (Nat.lt_of_lt_of_le (Heap.lt_size e) (Nat.le_trans I.ok.bsz z)) (Nat.lt_irrefl _)
 exfs:=fun b hb hm=>(List.mem_cons.mp (I.stkSub b hm)).elim (hf b hb).2.1 (hf b hb).2.2.1
 funs:=I.stack
 frf:=I.stkFree
theorem CompOkT.start (O:CompOkT X scope cl xs cn js) (I:Inv X pins σ H₂ s₂) (hf:∀b∈fp,Sz X pins H₂ b) (ho:∀b∈fp,∃o,s₂.heap.get? b=some o) {h₁:Heap} {m:Str->Option Value} {tk:Nat}
    (hns:h₁.Ns (s₂.heap.objs.size+1) m) (hk:∀b o,s₂.heap.get? b=some o->h₁.get? b=some o) (hD:h₁.get? s₂.heap.objs.size=some { cls:=.type "list",data:=.seq ([]:List Value).toArray }) :
    Inv (Z7 X scope cl xs cn (s₂.heap.objs.size+1) s₂ H₂ fp) [] (List.replicate xs.length none++Uh js σ) (upd H₂ s₂.heap.objs.size (.lst [])) { s₂ with heap:=h₁,toks:=tk }:=by
 have fD:H₂ s₂.heap.objs.size=none:=I.hok.fresh (Nat.le_refl _)
 have fC:H₂ (s₂.heap.objs.size+1)=none:=I.hok.fresh (Nat.le_succ _)
 have neD:s₂.heap.objs.size+1≠s₂.heap.objs.size:=Nat.succ_ne_self _
 obtain ⟨m0,hn0,hl0⟩:=I.loc
 refine ⟨O.ok I hf (Nat.le_succ _) ho,rfl,I.bare,?_,⟨m,hns,fun i y v e1 e2 e3=>?_⟩,fun y c e=>?_,?_,fun y c e=>?_,(fun p hp=>nomatch hp),?_,?_⟩
 ·exact Un.laid hk (Nat.le_refl _) fD
 ·have hi:xs.length<=i:=by
   by_cases h:i < xs.length
   ·rw[List.getElem?_append_left (by simpa using h),List.getElem?_replicate,if_pos h]at e2
    cases e2
   ·omega
  rw[List.getElem?_append_right (by simpa using hi),List.length_replicate]at e2
  have e1:cn[i - xs.length]?=some y:=by
   have e1:(xs++cn)[i]?=some y:=e1
   rw[List.getElem?_append_right hi]at e1
   exact e1
  ·obtain ⟨j,hj,hjN,hvis,hcell,hk2⟩:=O.cap _ y e1
   have e4:(σ[j]?).join=some v:=by
    have z:(js.map fun j=>(σ[j]?).join)[i - xs.length]?=some (some v):=e2
    rw[List.getElem?_map,hj]at z
    simpa using z
   have e5:σ[j]?=some (some v):=by
    cases q:σ[j]? with
    |none=>rw[q]at e4; cases e4
    |some o=>rw[q]at e4; simp at e4; rw[e4]
   obtain ⟨u,r,l⟩:=hl0 j y v hjN e5 hvis
   refine ⟨u,r,.inr ⟨hk2,?_⟩⟩
   rcases l with ⟨kl,_⟩|⟨_,c,ec,z⟩
   ·rcases hcell with q|q
    ·rw[kl]at q; cases q
    ·rw[kl]at q; cases q
   ·have hy:∃c',cl.lookup y=some c':=by
     rcases hk2 with q|q
     ·exact O.has _ (PySem.mem_of_lookup (show (relabel scope X.env).names.lookup y=some .cell from q)) (.inl rfl)
     ·exact O.has _ (PySem.mem_of_lookup (show (relabel scope X.env).names.lookup y=some .free from q)) (.inr rfl)
    obtain ⟨c',hc'⟩:=hy
    have ecc:=O.sub y c' hc'
    rw[ec]at ecc
    cases ecc
    exact ⟨c,hc',z.keeps hk⟩
 ·obtain ⟨v,z⟩:=I.cell y c (O.sub y c e)
  exact ⟨v,z.keeps hk⟩
 ·show upd H₂ s₂.heap.objs.size (.lst []) (s₂.heap.objs.size+1)=none
  rw[Zr neD]; exact fC
 ·obtain ⟨v,o,ho',_⟩:=I.cell y c (O.sub y c e)
  rw[Zr (Nat.ne_of_lt (Heap.lt_size ho'))]
  exact I.freeC y c (O.sub y c e)
 ·exact I.hok.laid hk (Nat.le_refl _) ⟨Nat.zero_le _,[],0,.nil,hD⟩
 ·show (List.replicate xs.length none++Uh js σ).length=(xs++cn).length
  simp[Uh,O.len]
end
def Lb (wi:TI) (n:Nat) (g:TG) (js:List Nat) (tc:Addr->Shared->Hp->List Addr->TT) (te:Addr->Shared->Hp->List Addr->TE):TE:=fun σ H Q=>wi σ H fun J H1=>∀D,H1 D=none->∀C s₂ H₂ fp,∃W:Nat->Nat->List V->Hp->Prop,(∃m,W 0 m [] (upd H1 D (.lst [])))∧∀i m ys H2,W i m ys H2->H2 D=some (.lst ys) ∧
 ((J.stop i H2∧Q (.ref D) H2)∨(J.go i H2∧∀x H',J.yld i H2 x H'->∀vs:St,vs.length=n->g x (vs++Uh js σ) H' fun σ2 H6=>(∃vs2:St,vs2.length=n∧σ2=vs2++Uh js σ)∧tc C s₂ H₂ fp σ2 H6 fun b H3=>if b=true then te C s₂ H₂ fp σ2 H3 fun v H4=>H4 D=some (.lst ys)∧ys.length < sizeLine∧∃m',m' < m∧W (i+1) m' (ys++[v]) (upd H4 D (.lst (ys++[v])))
  else ∃m',m' < m∧W (i+1) m' ys H3))
section
variable {X:Cx} {scope:Scope} {cl:List (Str × Addr)} {xs cn:List Str} {js:List Nat} {elt iter:Expr} {ifs:List Expr} {tg:Expr} {g:TG} {pos:Pos} {wi:TI} {tc:Addr->Shared->Hp->List Addr->TT} {te:Addr->Shared->Hp->List Addr->TE}
theorem T4 (O:CompOkT X scope cl xs cn js) (hc:X.calm=true) (hg:∀C s₂ H₂ fp,PG (Z7 X scope cl xs cn C s₂ H₂ fp) tg g) (ht:∀C s₂ H₂ fp,VT (Z7 X scope cl xs cn C s₂ H₂ fp) ifs (tc C s₂ H₂ fp)) (he:∀C s₂ H₂ fp,PE (Z7 X scope cl xs cn C s₂ H₂ fp) elt (te C s₂ H₂ fp))
    {pins:List (Addr × Obj)} {σ:St} {s₂:Shared} {itv:Value} {R:V->Hp->Prop} {RR:Value->Addr->Result->Shared->Prop} {E:Value->Shared->Prop}
    (h:PIE X pins σ (tg) (fun J H1=>∀D,H1 D=none->∀C s₂ H₂ fp,∃W:Nat->Nat->List V->Hp->Prop,(∃m,W 0 m [] (upd H1 D (.lst [])))∧∀i m ys H2,W i m ys H2->H2 D=some (.lst ys) ∧
     ((J.stop i H2∧R (.ref D) H2)∨(J.go i H2∧∀x H',J.yld i H2 x H'->∀vs:St,vs.length=xs.length->g x (vs++Uh js σ) H' fun σ2 H6=>(∃vs2:St,vs2.length=xs.length∧σ2=vs2++Uh js σ)∧tc C s₂ H₂ fp σ2 H6 fun b H3=>if b=true then te C s₂ H₂ fp σ2 H3 fun v H4=>H4 D=some (.lst ys)∧ys.length < sizeLine∧∃m',m' < m∧W (i+1) m' (ys++[v]) (upd H4 D (.lst (ys++[v])))
      else ∃m',m' < m∧W (i+1) m' ys H3))) itv s₂)
    (hRR:∀D C H' s',Inv X pins σ H' s'->R (.ref D) H'->H' C=none->C≠X.env.locals->X.s₀.heap.objs.size<=C->(∀y c,X.env.cells.lookup y=some c->c≠C)->(∀p∈X.pn++pins,p.1≠C)->(∃m,s'.heap.Ns C m)->RR (.ref D) C (.ok .next) s') :
    wpAny (model X.prog X.w) X.A (newList []) (fun acc s₃=>wpAny (model X.prog X.w) X.A (newFunctionEnv scope X.env.globals cl [] X.env.qual none .none (some X.env)) (fun cenv s₄ =>
     codeAny (model X.prog X.w) X.A (.compStart (.ListComp elt [⟨tg,iter,ifs,0⟩] scope pos) 0 itv acc { cenv with scope:=relabel scope X.env }) (RR acc cenv.locals) s₄) E s₃) E s₂:=by
 obtain ⟨it,fp,tn,J,H₂,rfl,I2,T,st2,f2,hR⟩:=h
 have ho:∀b∈fp,∃o,s₂.heap.get? b=some o:=fun b hb=>let ⟨o,e,_⟩:=T.obj _ _ st2 b hb; ⟨o,e⟩
 obtain ⟨W,⟨m0,w0⟩,turn⟩:=hR s₂.heap.objs.size (I2.hok.fresh (Nat.le_refl _)) (s₂.heap.objs.size+1) s₂ H₂ fp
 refine wpAny_newObj_type (wpAny_newFunctionEnv O.nocell (by intro y hy; simp at hy) (fun h₁ hns₁ hsb₁=>?_) O.kind)
 dsimp only at hns₁ hsb₁ ⊢
 generalize hH2:s₂.heap.push { cls:=.type "list",dict:=none,data:=.seq ([]:List Value).toArray }=HH at hns₁ hsb₁ ⊢
 have hsz:HH.objs.size=s₂.heap.objs.size+1:=by rw[← hH2,Heap.size_push]
 have old:∀b o,s₂.heap.get? b=some o->h₁.get? b=some o:=fun b o e=>by
  refine hsb₁.extBut b o ?_ (Heap.get?_push_of_some _ (hH2 ▸ Heap.get?_push_of_some _ e))
  rw[hsz]
  exact Nat.ne_of_lt (Nat.lt_succ_of_lt (Heap.lt_size e))
 have hD:h₁.get? s₂.heap.objs.size=some { cls:=.type "list",data:=.seq ([]:List Value).toArray }:=by
  refine hsb₁.extBut _ _ ?_ (Heap.get?_push_of_some _ (hH2 ▸ Heap.get?_push_size _ rfl))
  rw[hsz]
  exact Nat.ne_of_lt (Nat.lt_succ_self _)
 rw[hsz]at hns₁
 show codeAny _ _ (.compStart _ 0 (.ref it) (.ref s₂.heap.objs.size) (compEnvC scope cl HH.objs.size X.env)) (RR (.ref s₂.heap.objs.size) HH.objs.size) _
 rw[hsz]
 have I3:=O.start I2 f2 ho (tk:=s₂.toks+([]:List (Str × Value)).length) hns₁ old hD
 have st3:tn 0 h₁:=T.keep 0 _ _ st2 fun b hb o e=>old b o e
 have fpD:∀b∈fp,b≠s₂.heap.objs.size:=fun b hb=>by obtain ⟨o,e⟩:=ho b hb; exact Nat.ne_of_lt (Heap.lt_size e)
 have stat:∀{pl:List (Addr × Obj)} {H':Hp},(∀b∈fp,H' b=none)->(∀p∈pl,∀b∈fp,p.1≠b)->∀b∈fp,Sz (Z7 X scope cl xs cn (s₂.heap.objs.size+1) s₂ H₂ fp) pl H' b:=fun {pl H'} hn hp b hb =>
  ⟨hn b hb,(I3.ok.exf b hb).1,fun hm=>I3.ok.exfs b hb hm,.inl hb,(I3.ok.exf b hb).2,fun p hpm=>hp p (by simpa using hpm) b hb⟩
 have loop : ∀ s₃ : Shared,s₃ = { s₂ with heap:=h₁,toks:=s₂.toks + ([] : List (Str × Value)).length } ->
     codeAny (model X.prog X.w) X.A (.compLoop (.ListComp elt [⟨tg,iter,ifs,0⟩] scope pos) 0 (.ref it) (.ref s₂.heap.objs.size) (compEnvC scope cl (s₂.heap.objs.size+1) X.env)) (RR (.ref s₂.heap.objs.size) (s₂.heap.objs.size+1)) s₃:=by
  rintro s₃ rfl
  refine Sn (fun n s'=>∃i ys vs H',vs.length=xs.length∧Inv (Z7 X scope cl xs cn (s₂.heap.objs.size+1) s₂ H₂ fp) [] (vs++Uh js σ) H' s'∧tn i s'.heap∧(∀b∈fp,H' b=none)∧W i n ys H') ?_ m0
   ⟨0,[],_,_,List.length_replicate,I3,st3,fun b hb=>by rw[Zr (fpD b hb)]; exact (f2 b hb).1,w0⟩
  rintro n s4 ⟨i,ys,v4,H4,hv4,I4,st4,fr4,w4⟩
  obtain ⟨hD4,tr⟩:=turn i n ys H4 w4
  rcases tr with ⟨stop,qn⟩|⟨go,step⟩
  ·refine wpAny_mono (T.done (Z7 X scope cl xs cn (s₂.heap.objs.size+1) s₂ H₂ fp) rfl rfl rfl hc i [] s4 _ H4 (fun _ _=>False) I4 (stat fr4 (fun _ z=>nomatch z)) st4 stop) (fun r s5 ⟨hr,I5⟩=>?_) fun _ _ q=>q
   subst hr
   have I6:Inv X pins σ H4 s5:=I2.call' (ch:=fp) I5.os I5.base I5.hok I5.bare fun b hb=>⟨(f2 b hb).2.2.2.1,(f2 b hb).2.1,(f2 b hb).2.2.2.2.1,(f2 b hb).2.2.2.2.2⟩
   obtain ⟨m,hn,_⟩:=I5.loc
   refine hRR _ _ H4 s5 I6 qn I5.free (Nat.ne_of_gt (Nat.lt_succ_of_lt I2.lt)) (Nat.le_succ_of_le I2.sz) (fun y c e z=>?_) (fun p hp z=>?_) ⟨m,hn⟩
   ·obtain ⟨v,o,ho',_⟩:=I2.cell y c e
    exact absurd (Heap.lt_size ho') (by rw[z]; exact Nat.not_lt.mpr (Nat.le_succ _))
   ·exact absurd (Heap.lt_size (I2.pin p hp).1) (by rw[z]; exact Nat.not_lt.mpr (Nat.le_succ _))
  ·refine wpAny_mono (T.item (Z7 X scope cl xs cn (s₂.heap.objs.size+1) s₂ H₂ fp) rfl rfl rfl hc i [] s4 _ H4 (fun _ _=>False) I4 (stat fr4 (fun _ z=>nomatch z)) st4 go) (fun r s4' ⟨u,hr,h5⟩=>?_) fun _ _ q=>q
   subst hr
   refine wpAny_mono h5 (fun _ s5 ⟨x5,H5,I5,r5,y5,st5,fr5⟩=>?_) fun _ _ q=>q
   have I5p:=I5.pinned (stat fr5 (fun _ z=>nomatch z)) (T.obj _ _ st5)
   refine wpAny_mono (hg _ _ _ _ _ s5 _ H5 x5 u _ I5p r5 (step x5 H5 y5 v4 hv4)) (fun _ s6 ⟨σ6,H6,I6,⟨vs6,hv6,e6⟩,q6⟩=>?_) fun _ _ q=>q
   subst e6
   have again:∀{s7:Shared} {H7:Hp},Inv (Z7 X scope cl xs cn (s₂.heap.objs.size+1) s₂ H₂ fp) ([]++W4 fp s5.heap) (vs6++Uh js σ) H7 s7->tn (i+1) s7.heap∧∀b∈fp,H7 b=none:=fun {s7 H7} I7=>by
    refine ⟨T.keep _ _ _ st5 fun b hb o e=>(I7.pin (b,o) (List.mem_append_right _ (List.mem_append_right _ (XF hb e)))).1,fun b hb=>?_⟩
    obtain ⟨o,e,d⟩:=T.obj _ _ st5 b hb
    exact (I7.pin (b,o) (List.mem_append_right _ (List.mem_append_right _ (XF hb e)))).2.1
   refine wpAny_mono (ht _ _ _ _ _ s6 _ H6 _ I6 q6) (fun ok s7 ⟨H7,I7,q7⟩=>?_) fun _ _ q=>q
   cases ok with
   |false =>
    rw[if_neg Bool.false_ne_true]
    rw[if_neg Bool.false_ne_true]at q7
    obtain ⟨m',hm,w7⟩:=q7
    obtain ⟨st7,fr7⟩:=again I7
    exact ⟨m',hm,i+1,ys,vs6,H7,hv6,I7.unpinned,st7,fr7,w7⟩
   |true =>
    rw[if_pos rfl]
    rw[if_pos rfl]at q7
    refine wpAny_mono (he _ _ _ _ _ s7 _ H7 _ I7 q7) (fun u8 s8 ⟨v8,H8,I8,r8,hD8,hz8,m',hm,w8⟩=>?_) fun _ _ q=>q
    obtain ⟨st8,fr8⟩:=again I8
    obtain ⟨z8,its,k8,rv8,e8⟩:=I8.hok _ _ hD8
    have hl8:=rv8.length
    refine append_at (E:=fun _ _=>False) (hsz:=by rw[List.size_toArray]; omega) e8 fun h9 hs9 e9=>?_
    have I9:Inv (Z7 X scope cl xs cn (s₂.heap.objs.size+1) s₂ H₂ fp) ([]++W4 fp s5.heap) (vs6++Uh js σ) (upd H8 s₂.heap.objs.size (.lst (ys++[v8]))) { s8 with heap:=h9 }:=by
     refine I8.write (x:=s₂.heap.objs.size) (e:=s₂.heap.objs.size) (t':=s8.toks) (by rw[hD8]; exact True.intro) (.inl rfl) (fun b u hb q=>(hs9.2 b hb).trans q) ⟨_,e9⟩ ?_
     refine ⟨by rw[List.length_append,List.length_singleton]; omega,its++[u8],k8+1,rv8.append (.cons r8 .nil),?_⟩
     rw[e9,List.push_toArray]
    obtain ⟨st9,fr9⟩:=again I9
    exact ⟨m',hm,i+1,ys++[v8],vs6,_,hv6,I9.unpinned,st9,fr9,w8⟩
 exact codeAny_compStart_list (loop _ rfl) (T.self _ 0 _ _ _ st3 (loop _ rfl))
theorem J2 (O:CompOkT X scope cl xs cn js) (hc:X.calm=true) (hg:∀C s₂ H₂ fp,PG (Z7 X scope cl xs cn C s₂ H₂ fp) tg g) (hi:PI X (tg) iter wi) (ht:∀C s₂ H₂ fp,VT (Z7 X scope cl xs cn C s₂ H₂ fp) ifs (tc C s₂ H₂ fp)) (he:∀C s₂ H₂ fp,PE (Z7 X scope cl xs cn C s₂ H₂ fp) elt (te C s₂ H₂ fp))
    (hs:∀v,foldedSetIterable iter X.env v=pure v:=by intro _; rfl):PE X (.ListComp elt [⟨tg,iter,ifs,0⟩] scope pos) (Lb wi xs.length g js tc te):=by
 intro pins s σ H Q I h
 rw[eval_ListComp]
 refine wpAny_comprehension_free (use:=none) rfl hs O.clos O.kind O.names (thn (hi pins s σ H _ I h) fun v s1 h1=>thn h1 fun itv s2 h2=>?_)
 refine T4 O hc hg ht he (R:=Q) (RR:=fun acc C=>compPost (model X.prog X.w) X.A X.xe none (EP X pins σ Q) acc C) h2 ?_
 intro D C H' s' I' q hC hL h0 hcl hp ⟨m,hn⟩
 refine ⟨m,hn,fun h'' hs''=>⟨.ref D,H',?_,rfl,q⟩⟩
 exact I'.turned (t':=s'.toks) (fun b o hb e=>(hs''.2 b hb).trans e) hC hL (.inr h0) hcl hp
def KP (j:Nat) (wi:TI) (n:Nat) (g:TG) (js:List Nat) (tc:Addr->Shared->Hp->List Addr->TT) (te:Addr->Shared->Hp->List Addr->TE):TS:=fun D σ H=>Lb wi n g js tc te σ H fun v H1=>D.nx (σ.set j (some v)) H1
theorem NG {j:Nat} {y:Str} {py spos:Pos} (O:CompOkT X scope cl xs cn js) (hc:X.calm=true) (hg:∀C s₂ H₂ fp,PG (Z7 X scope cl xs cn C s₂ H₂ fp) tg g) (hi:PI X (tg) iter wi) (ht:∀C s₂ H₂ fp,VT (Z7 X scope cl xs cn C s₂ H₂ fp) ifs (tc C s₂ H₂ fp)) (he:∀C s₂ H₂ fp,PE (Z7 X scope cl xs cn C s₂ H₂ fp) elt (te C s₂ H₂ fp))
    (hN:X.N.Nodup) (hj:X.N[j]?=some y) (hy:Loc X.env.scope y) (hsw:swapsWith (.ListComp elt [⟨tg,iter,ifs,0⟩] scope pos) (some (.Name y py)) spos.line X.env=pure true)
    (hs:∀v,foldedSetIterable iter X.env v=pure v:=by intro _; rfl) (hf:X.fn y=true∨X.env.scope.names.lookup y=some .local:=by first|exact .inl rfl|exact .inr rfl) :
    PS X (.Assign [.Name y py] (.ListComp elt [⟨tg,iter,ifs,0⟩] scope pos) spos) (KP j wi xs.length g js tc te):=by
 intro pins s σ H D I h
 rw[exec_Assign_Name_used _ _ _ _ hsw]
 refine wpAny_bind (wpAny_standAt (wpAny_bind ?_))
 show wpAny _ X.A (do let _ ← comprehension (.ListComp elt [⟨tg,iter,ifs,0⟩] scope pos) scope X.env _ (newList []) false (eval iter X.env) (some (assign (.Name y py) X.env))) _ _ s
 refine wpAny_bind (wpAny_mono (wpAny_comprehension_free (use:=some (assign (.Name y py) X.env)) (Q:=fun _ s'=>SP X pins D .next s') rfl hs O.clos O.kind O.names
  (thn (hi pins s σ H _ I h) fun v s1 h1=>thn h1 fun itv s2 h2=>?_)) (fun _ s' hq=>wpAny_pure (wpAny_pure hq)) fun _ _ e=>e)
 refine T4 O hc hg ht he (R:=fun v H1=>D.nx (σ.set j (some v)) H1) (RR:=fun acc C=>compPost (model X.prog X.w) X.A X.xe (some (assign (.Name y py) X.env)) (fun _ s'=>SP X pins D .next s') acc C) h2 ?_
 intro DD C H' s' I' q hC hL h0 hcl hp ⟨m,hn⟩
 show wpAny _ X.A (assign (.Name y py) X.env (.ref DD)) _ _ s'
 refine wpAny_assign_Name (TN I' hN hj hy (v:=.ref DD) rfl (fun s3 I3 ⟨a,hsb,ha⟩=>?_) hf)
 have nCa:C≠a:=fun z=>by
  rcases ha with e|e
  ·exact hL (z.trans e)
  ·exact hcl _ _ e z.symm
 refine ⟨m,hn.sameBut hsb nCa,fun h'' hs''=>⟨_,H',?_,q⟩⟩
 exact I3.turned (t':=s3.toks) (fun b o hb e=>(hs''.2 b hb).trans e) hC hL (.inr h0) hcl hp
end
open PySem PySem.Spec PyProof.Rows
inductive Wv where
 |non|bl (b:Bool)|int (i:Int)|str (x:Str)|lst (ws:List Wv)|tup (ws:List Wv)|o (h:Nat)|g (a:Addr)
inductive Ob where
 |ins (C:Addr) (fs:List (Str × Wv))|lst (ws:List Wv)|dk (kvs:List (Key × Wv))|dt (kvs:List (List Key × Wv))|exc (C:Addr)|dz (kvs:List (Key × Wv))
section
variable (F:Hp) (β:List Addr)
mutual
inductive RW:Wv->V->Prop
 |non:RW .non .non
 |bl (b:Bool):RW (.bl b) (.bl b)
 |int (i:Int):RW (.int i) (.int i)
 |str (x:Str):RW (.str x) (.str x)
 |lst {a:Addr} {xs:List V} {ws:List Wv} (e:Rd F a (.lst xs)) (r:RWs ws xs):RW (.lst ws) (.ref a)
 |tup {a:Addr} {xs:List V} {ws:List Wv} (e:F a=some (.tup xs)) (r:RWs ws xs):RW (.tup ws) (.ref a)
 |o {h:Nat} {a:Addr} (e:β[h]?=some a):RW (.o h) (.ref a)
 |g (a:Addr):RW (.g a) (.ref a)
inductive RWs:List Wv->List V->Prop
 |nil:RWs [] []
 |cons {w:Wv} {ws:List Wv} {v:V} {vs:List V} (h:RW w v) (r:RWs ws vs):RWs (w::ws) (v::vs)
end
end
structure Gr (F F':Hp) (β β':List Addr):Prop where
 same:Same F F'
 pre:∀(h:Nat) (a:Addr),β[h]?=some a->β'[h]?=some a
theorem Gr.refl (F:Hp) (β:List Addr):Gr F F β β:=⟨Same.refl _,fun _ _ e=>e⟩
theorem Gr.trans {F F1 F2:Hp} {β β1 β2:List Addr} (a:Gr F F1 β β1) (b:Gr F1 F2 β1 β2):Gr F F2 β β2:=⟨a.same.trans b.same,fun h x e=>b.pre h x (a.pre h x e)⟩
theorem Rd.same {H H':Hp} {a:Addr} {u:HO} (s:Same H H') (r:Rd H a u):Rd H' a u:=r.elim (fun e=>.inl (s _ _ e)) fun ⟨o,e⟩=>.inr ⟨o,s _ _ e⟩
mutual
theorem RW.mono {F F':Hp} {β β':List Addr} (g:Gr F F' β β'):∀{w:Wv} {v:V},RW F β w v->RW F' β' w v
 |_,_,.non=>.non
 |_,_,.bl b=>.bl b
 |_,_,.int i=>.int i
 |_,_,.str x=>.str x
 |_,_,.lst e r=>.lst (Rd.same g.same e) (RWs.mono g r)
 |_,_,.tup e r=>.tup (g.same _ _ e) (RWs.mono g r)
 |_,_,.o e=>.o (g.pre _ _ e)
 |_,_,.g a=>.g a
theorem RWs.mono {F F':Hp} {β β':List Addr} (g:Gr F F' β β'):∀{ws:List Wv} {vs:List V},RWs F β ws vs->RWs F' β' ws vs
 |_,_,.nil=>.nil
 |_,_,.cons h r=>.cons (RW.mono g h) (RWs.mono g r)
end
section
variable {F:Hp} {β:List Addr}
theorem RWs.length:∀{ws:List Wv} {vs:List V},RWs F β ws vs->ws.length=vs.length
 |_,_,.nil=>rfl
 |_,_,.cons _ r=>by rw[List.length_cons,List.length_cons,RWs.length r]
theorem RWs.get:∀{ws:List Wv} {vs:List V} {i:Nat} {w:Wv},RWs F β ws vs->ws[i]?=some w->∃v,vs[i]?=some v∧RW F β w v
 |_,_,_,_,.nil,e=>by simp at e
 |_,_,0,_,.cons h _,e=>by simp at e; subst e; exact ⟨_,rfl,h⟩
 |_,_,i+1,w,.cons _ r,e=>by
  obtain ⟨v,h1,h2⟩:=RWs.get (i:=i) (w:=w) r (by simpa using e)
  exact ⟨v,by simpa using h1,h2⟩
theorem RWs.append:∀{ws us:List Wv} {vs xs:List V},RWs F β ws vs->RWs F β us xs->RWs F β (ws++us) (vs++xs)
 |_,_,_,_,.nil,s=>s
 |_,_,_,_,.cons h r,s=>.cons h (RWs.append r s)
end
inductive RK (F:Hp) (β:List Addr) {κ:Type}:List (κ × Wv)->List (κ × V)->Prop
 |nil:RK F β [] []
 |cons {k:κ} {w:Wv} {v:V} {ps:List (κ × Wv)} {qs:List (κ × V)} (h:RW F β w v) (r:RK F β ps qs):RK F β ((k,w)::ps) ((k,v)::qs)
theorem RK.mono {F F':Hp} {β β':List Addr} {κ:Type} (g:Gr F F' β β'):∀{ps:List (κ × Wv)} {qs:List (κ × V)},RK F β ps qs->RK F' β' ps qs
 |_,_,.nil=>.nil
 |_,_,.cons h r=>.cons (h.mono g) (RK.mono g r)
def ObR (F H:Hp) (β:List Addr) (a:Addr):Ob->Prop
 |.ins C fs=>∃dx fs',H a=some (.ins C dx fs')∧RK F β fs fs'
 |.lst ws=>∃xs,H a=some (.lst xs)∧RWs F β ws xs
 |.dk kvs=>∃ks,H a=some (.dK ks)∧RK F β kvs ks
 |.dt kvs=>∃ks,H a=some (.dT ks)∧RK F β kvs ks
 |.exc C=>H a=some (AL a C)
 |.dz kvs=>∃o ks,H a=some (.frz o (.dK ks))∧RK F β kvs ks
theorem ObR.mono {F F' H H':Hp} {β β':List Addr} {a:Addr} (g:Gr F F' β β') (e:H' a=H a):∀{ob:Ob},ObR F H β a ob->ObR F' H' β' a ob
 |.ins C fs,⟨dx,fs',h,r⟩=>⟨dx,fs',e.trans h,r.mono g⟩
 |.lst ws,⟨xs,h,r⟩=>⟨xs,e.trans h,r.mono g⟩
 |.dk kvs,⟨ks,h,r⟩=>⟨ks,e.trans h,r.mono g⟩
 |.dt kvs,⟨ks,h,r⟩=>⟨ks,e.trans h,r.mono g⟩
 |.exc C,h=>e.trans h
 |.dz kvs,⟨o,ks,h,r⟩=>⟨o,ks,e.trans h,r.mono g⟩
theorem ObR.ex {F H:Hp} {β:List Addr} {a:Addr}:∀{ob:Ob},ObR F H β a ob->∃x,H a=some x
 |.ins C fs,⟨dx,fs',h,r⟩=>⟨_,h⟩
 |.lst ws,⟨xs,h,r⟩=>⟨_,h⟩
 |.dk kvs,⟨ks,h,r⟩=>⟨_,h⟩
 |.dt kvs,⟨ks,h,r⟩=>⟨_,h⟩
 |.exc C,h=>⟨_,h⟩
 |.dz kvs,⟨o,ks,h,r⟩=>⟨_,h⟩
theorem ndx {α:Type} {l:List α} (hN:l.Nodup) {i j:Nat} {x:α} (a:l[i]?=some x) (b:l[j]?=some x):i=j:=by
 obtain ⟨ha,ea⟩:=List.getElem?_eq_some_iff.mp a
 obtain ⟨hb,eb⟩:=List.getElem?_eq_some_iff.mp b
 have hp:=List.pairwise_iff_getElem.mp hN
 rcases Nat.lt_trichotomy i j with h|h|h
 ·exact absurd (ea.trans eb.symm) (hp i j ha hb h)
 ·exact h
 ·exact absurd (eb.trans ea.symm) (hp j i hb ha h)
structure MOk (F H:Hp) (β:List Addr) (om:List Ob):Prop where
 sub:Same F H
 nd:β.Nodup
 len:β.length=om.length
 free:∀(h:Nat) (a:Addr),β[h]?=some a->F a=none
 ob:∀(h:Nat) (a:Addr) (x:Ob),β[h]?=some a->om[h]?=some x->ObR F H β a x
section
variable {F H:Hp} {β:List Addr} {om:List Ob}
theorem MOk.at (M:MOk F H β om) {h:Nat} {x:Ob} (e:om[h]?=some x):∃a,β[h]?=some a∧F a=none∧ObR F H β a x:=by
 have hl:h < β.length:=by rw[M.len]; exact (List.getElem?_eq_some_iff.mp e).1
 have e1:β[h]?=some β[h]:=List.getElem?_eq_getElem hl
 exact ⟨_,e1,M.free h _ e1,M.ob h _ x e1 e⟩
theorem MOk.there (M:MOk F H β om) {h:Nat} {a:Addr} (e:β[h]?=some a):∃x,H a=some x:=by
 have hl:h < om.length:=by rw[← M.len]; exact (List.getElem?_eq_some_iff.mp e).1
 exact (M.ob h a _ e (List.getElem?_eq_getElem hl)).ex
theorem MOk.newF {p:Addr} {o:HO} (M:MOk F H β om) (hp:H p=none):Gr F (upd F p o) β β∧MOk (upd F p o) (upd H p o) β om:=by
 have fp:F p=none:=M.sub.free hp
 have g:Gr F (upd F p o) β β:=⟨fun b u e=>by rw[Zr (ZR e fp)]; exact e,fun _ _ e=>e⟩
 have ne:∀(h:Nat) (a:Addr),β[h]?=some a->a≠p:=fun h a e z=>by
  obtain ⟨x,hx⟩:=M.there e
  rw[z,hp]at hx; cases hx
 refine ⟨g,fun b u e=>?_,M.nd,M.len,fun h a e=>by rw[Zr (ne h a e)]; exact M.free h a e,fun h a x e1 e2=>(M.ob h a x e1 e2).mono g (Zr (ne h a e1))⟩
 by_cases hb:b=p
 ·subst hb; rw[Zu]at e ⊢; exact e
 ·rw[Zr hb]at e ⊢; exact M.sub b u e
theorem MOk.newO {p:Addr} {o:HO} {x:Ob} (M:MOk F H β om) (hp:H p=none) (hx:∀β',Gr F F β β'->ObR F (upd H p o) β' p x):Gr F F β (β++[p])∧MOk F (upd H p o) (β++[p]) (om++[x])∧(β++[p])[om.length]?=some p:=by
 have fp:F p=none:=M.sub.free hp
 have ne:∀(h:Nat) (a:Addr),β[h]?=some a->a≠p:=fun h a e z=>by
  obtain ⟨y,hy⟩:=M.there e
  rw[z,hp]at hy; cases hy
 have g:Gr F F β (β++[p]):=⟨Same.refl _,fun h a e=>by rw[List.getElem?_append_left (List.getElem?_eq_some_iff.mp e).1]; exact e⟩
 have last:(β++[p])[om.length]?=some p:=by rw[← M.len,List.getElem?_append_right (Nat.le_refl _),Nat.sub_self]; rfl
 have cs:∀(h:Nat) (a:Addr),(β++[p])[h]?=some a->β[h]?=some a∨(h=om.length∧a=p):=fun h a e=>by
  by_cases hl:h < β.length
  ·rw[List.getElem?_append_left hl]at e; exact .inl e
  ·rw[List.getElem?_append_right (by omega)]at e
   have:h - β.length=0:=by
    have:=(List.getElem?_eq_some_iff.mp e).1
    simp at this; omega
   rw[this]at e
   refine .inr ⟨by rw[← M.len]; omega,by simpa using e.symm⟩
 refine ⟨g,⟨fun b u e=>by rw[Zr (ZR e fp)]; exact M.sub b u e,?_,by simp[M.len],fun h a e=>?_,fun h a y e1 e2=>?_⟩,last⟩
 ·rw[List.nodup_append]
  refine ⟨M.nd,by simp,fun a ha b hb z=>?_⟩
  obtain ⟨i,hi⟩:=List.getElem?_of_mem ha
  exact ne i a hi (z.trans (List.mem_singleton.mp hb))
 ·rcases cs h a e with e|⟨_,rfl⟩
  ·exact M.free h a e
  ·exact fp
 ·rcases cs h a e1 with e|⟨rfl,rfl⟩
  ·have hl:h < om.length:=by rw[← M.len]; exact (List.getElem?_eq_some_iff.mp e).1
   rw[List.getElem?_append_left hl]at e2
   exact (M.ob h a y e e2).mono g (Zr (ne h a e))
  ·rw[List.getElem?_append_right (Nat.le_refl _),Nat.sub_self]at e2
   cases e2
   exact hx _ g
theorem MOk.put {h:Nat} {a:Addr} {o:HO} {x:Ob} (M:MOk F H β om) (e:β[h]?=some a) (hx:ObR F (upd H a o) β a x):MOk F (upd H a o) β (om.set h x):=by
 have fa:=M.free h a e
 refine ⟨fun b u eb=>by rw[Zr (ZR eb fa)]; exact M.sub b u eb,M.nd,by simp[M.len],M.free,fun j b y e1 e2=>?_⟩
 by_cases hj:j=h
 ·subst hj
  rw[e]at e1; cases e1
  have hl:j < om.length:=by rw[← M.len]; exact (List.getElem?_eq_some_iff.mp e).1
  rw[List.getElem?_set_self hl]at e2
  cases e2
  exact hx
 ·rw[List.getElem?_set_ne (Ne.symm hj)]at e2
  have nb:b≠a:=fun z=>by
   subst z
   exact hj (ndx M.nd e1 e)
  exact (M.ob j b y e1 e2).mono (Gr.refl _ _) (Zr nb)
end
structure Gx (F F' H H':Hp) (β β':List Addr):Prop extends Gr F F' β β' where
 keep:∀b o,H b=some o->b ∉ β->H' b=some o
 there:∀b,H' b=none->H b=none
 new:∀b,b∈β'->b∈β∨H b=none
 fnew:∀b o,F' b=some o->F b=some o∨H b=none
 frz:∀b o u,H b=some (.frz o u)->H' b=some (.frz o u)
theorem Gx.refl (F H:Hp) (β:List Addr):Gx F F H H β β:=⟨Gr.refl _ _,fun _ _ e _=>e,fun _ e=>e,fun _ e=>.inl e,fun _ _ e=>.inl e,fun _ _ _ e=>e⟩
theorem Gx.trans {F F1 F2 H H1 H2:Hp} {β β1 β2:List Addr} (a:Gx F F1 H H1 β β1) (b:Gx F1 F2 H1 H2 β1 β2):Gx F F2 H H2 β β2:=by
 have n1:∀c o,H c=some o->c ∉ β->c ∉ β1:=fun c o e h h1=>(a.new c h1).elim h fun z=>by rw[e]at z; cases z
 refine ⟨a.toGr.trans b.toGr,fun c o e h=>b.keep c o (a.keep c o e h) (n1 c o e h),fun c e=>a.there c (b.there c e),fun c h=>?_,fun c o e=>?_,fun c o u e=>b.frz c o u (a.frz c o u e)⟩
 ·rcases b.new c h with h|h
  ·exact a.new c h
  ·exact .inr (a.there c h)
 ·rcases b.fnew c o e with h|h
  ·exact a.fnew c o h
  ·exact .inr (a.there c h)
section
variable {F H:Hp} {β:List Addr} {om:List Ob} {p:Addr} {o:HO}
theorem MOk.gxF (M:MOk F H β om) (hp:H p=none):Gx F (upd F p o) H (upd H p o) β β :=
 ⟨(M.newF (o:=o) hp).1,fun b u e _=>by rw[Zr (ZR e hp)]; exact e,fun b e=>by
  by_cases hb:b=p
  ·rw[hb]; exact hp
  ·rw[Zr hb]at e; exact e,fun _ e=>.inl e,fun b u e=>by
  by_cases hb:b=p
  ·rw[hb]; exact .inr hp
  ·rw[Zr hb]at e; exact .inl e,fun b u w e=>by rw[Zr (ZR e hp)]; exact e⟩
theorem MOk.gxU (M:MOk F H β om) (hp:H p=none):Gx F F H (upd H p o) β β :=
 ⟨Gr.refl _ _,fun b u e _=>by rw[Zr (ZR e hp)]; exact e,fun b e=>by
  by_cases hb:b=p
  ·rw[hb]; exact hp
  ·rw[Zr hb]at e; exact e,fun _ e=>.inl e,fun b u e=>.inl e,fun b u w e=>by rw[Zr (ZR e hp)]; exact e⟩
theorem MOk.gxO (M:MOk F H β om) (hp:H p=none) (g:Gr F F β (β++[p])):Gx F F H (upd H p o) β (β++[p]) :=
 ⟨g,(M.gxU (o:=o) hp).keep,(M.gxU (o:=o) hp).there,fun b e=>by
  rcases List.mem_append.mp e with e|e
  ·exact .inl e
  ·rw[List.mem_singleton.mp e]; exact .inr hp,fun b u e=>.inl e,(M.gxU (o:=o) hp).frz⟩
theorem nz {H:Hp} {a:Addr} {x:HO} (h:H a=some x) (hx:∀o u,x≠.frz o u:=by intro _ _ z; cases z):∀o u,H a≠some (.frz o u):=fun o u z=>hx o u (Option.some.inj (h.symm.trans z))
theorem MOk.gxP (M:MOk F H β om) {h:Nat} {a:Addr} (e:β[h]?=some a) (hz:∀u w,H a≠some (.frz u w)):Gx F F H (upd H a o) β β :=
 ⟨Gr.refl _ _,fun b u eb hb=>by
  have hba:b≠a:=fun z=>hb (by rw[z]; exact List.mem_of_getElem? e)
  rw[Zr hba]; exact eb,fun b eb=>by
  by_cases hb:b=a
  ·rw[hb,Zu]at eb; cases eb
  ·rw[Zr hb]at eb; exact eb,fun _ e=>.inl e,fun b u e=>.inl e,fun b u w eb=>by
  have hba:b≠a:=fun z=>hz u w (z ▸ eb)
  rw[Zr hba]; exact eb⟩
theorem MOk.newFx (M:MOk F H β om) (hp:H p=none):Gx F (upd F p o) H (upd H p o) β β∧MOk (upd F p o) (upd H p o) β om:=⟨M.gxF hp,(M.newF hp).2⟩
theorem MOk.newOx {x:Ob} (M:MOk F H β om) (hp:H p=none) (hx:∀β',Gr F F β β'->ObR F (upd H p o) β' p x):Gx F F H (upd H p o) β (β++[p])∧MOk F (upd H p o) (β++[p]) (om++[x])∧(β++[p])[om.length]?=some p :=
 let ⟨g,m,e⟩:=M.newO hp hx; ⟨M.gxO hp g,m,e⟩
end
abbrev Mw (α:Type):=List Ob->Option (Except Addr α × List Ob)
def ret {α:Type} (a:α):Mw α:=fun om=>some (.ok a,om)
def bnd {α γ:Type} (m:Mw α) (k:α->Mw γ):Mw γ:=fun om=>match m om with
 |none=>none
 |some (.ok a,om')=>k a om'
 |some (.error c,om')=>some (.error c,om')
def XN {α:Type}:Mw α:=fun _=>none
def Dd {α:Type} (c:Addr):Mw α:=fun om=>some (.error c,om)
def Z4 {α:Type} (m:Mw α):Mw α:=fun om=>match m om with
 |some (.ok a,om')=>some (.ok a,om')
 |_=>none
def Res (E:XK) {α:Type} (r:Option (Except Addr α × List Ob)) (F H:Hp) (β:List Addr) (P:α->Hp->Hp->List Addr->Prop):Prop:=match r with
 |none=>False
 |some (.ok x,om')=>∀F' H' β',Gx F F' H H' β β'->MOk F' H' β' om'->P x F' H' β'
 |some (.error c,om')=>∀F' H' β',Gx F F' H H' β β'->MOk F' H' β' om'->E (.ref c) none H'
section
variable {E:XK} {α γ:Type} {F F1 H H1:Hp} {β β1:List Addr} {om:List Ob} {P:γ->Hp->Hp->List Addr->Prop} {P':α->Hp->Hp->List Addr->Prop}
theorem Res.mono {r:Option (Except Addr γ × List Ob)} (g:Gx F F1 H H1 β β1) (R:Res E r F H β P):Res E r F1 H1 β1 P:=by
 match r,R with
 |some (.ok x,om'),R=>exact fun F' H' β' g' M=>R F' H' β' (g.trans g') M
 |some (.error c,om'),R=>exact fun F' H' β' g' M=>R F' H' β' (g.trans g') M
theorem Res.bind {m:Mw α} {k:α->Mw γ} (R:Res E (bnd m k om) F H β P) (h:∀x om1 F1 H1 β1,Gx F F1 H H1 β β1->MOk F1 H1 β1 om1->Res E (k x om1) F1 H1 β1 P->P' x F1 H1 β1):Res E (m om) F H β P':=by
 unfold bnd at R
 match hm:m om,R with
 |some (.ok x,om'),R=>exact fun F' H' β' g M=>h x om' F' H' β' g M (Res.mono g R)
 |some (.error c,om'),R=>exact R
end
structure EnvOk (F:Hp) (β:List Addr) (σ:St) (sl:List (Option Wv)):Prop where
 len:sl.length=σ.length
 get:∀(i:Nat) (w:Wv),sl[i]?=some (some w)->∃v,σ[i]?=some (some v)∧RW F β w v
theorem EnvOk.mono {F F':Hp} {β β':List Addr} {σ:St} {sl:List (Option Wv)} (V:EnvOk F β σ sl) (g:Gr F F' β β'):EnvOk F' β' σ sl :=
 ⟨V.len,fun i w e=>let ⟨v,h,r⟩:=V.get i w e; ⟨v,h,r.mono g⟩⟩
theorem EnvOk.set {F:Hp} {β:List Addr} {σ:St} {sl:List (Option Wv)} {w:Wv} {v:V} (V:EnvOk F β σ sl) (i:Nat) (r:RW F β w v):EnvOk F β (σ.set i (some v)) (sl.set i (some w)):=by
 refine ⟨by simp[V.len],fun j u e=>?_⟩
 by_cases hj:j=i
 ·subst hj
  by_cases hl:j < sl.length
  ·rw[List.getElem?_set_self hl]at e
   cases e
   exact ⟨v,by rw[List.getElem?_set_self (by rw[← V.len]; exact hl)],r⟩
  ·rw[List.getElem?_eq_none (by simp; omega)]at e; cases e
 ·rw[List.getElem?_set_ne (Ne.symm hj)]at e ⊢
  exact V.get j u e
abbrev Sl:=List (Option Wv)
abbrev FE:=Sl->Mw Wv
abbrev FT:=Sl->Mw Bool
abbrev FA:=Sl->Mw (List Wv)
inductive Fl where
 |nx|bk|ct|rt (w:Wv)
abbrev FS:=Sl->Mw (Fl × Sl)
def tE (E:XK) (f:FE):TE:=fun σ H Q=>∃F β om sl,MOk F H β om∧EnvOk F β σ sl∧Res E (f sl om) F H β fun w F' H' β'=>∀v,RW F' β' w v->Q v H'
def tT (E:XK) (f:FT):TT:=fun σ H Q=>∃F β om sl,MOk F H β om∧EnvOk F β σ sl∧Res E (f sl om) F H β fun b F' H' β'=>Q b H'
def tA (E:XK) (f:FA):TA:=fun σ H Q=>∃F β om sl,MOk F H β om∧EnvOk F β σ sl∧Res E (f sl om) F H β fun ws F' H' β'=>∀vs,RWs F' β' ws vs->Q vs H'
def FlP (D:Ends) (x:Fl × Sl) (F' H':Hp) (β':List Addr):Prop:=match x.1 with
 |.nx=>∀σ',EnvOk F' β' σ' x.2->D.nx σ' H'
 |.bk=>∀σ',EnvOk F' β' σ' x.2->D.bk σ' H'
 |.ct=>∀σ',EnvOk F' β' σ' x.2->D.ct σ' H'
 |.rt w=>∀v,RW F' β' w v->D.rt v H'
def tS (E:XK) (f:FS):TS:=fun D σ H=>∃F β om sl,MOk F H β om∧EnvOk F β σ sl∧Res E (f sl om) F H β (FlP D)
open PySem PySem.Spec PyProof.Rows
def PV (Q:VK):Wv->Hp->Hp->List Addr->Prop:=fun w F' H' β'=>∀v,RW F' β' w v->Q v H'
theorem Res.now {E:XK} {α:Type} {x:α} {F H:Hp} {β:List Addr} {om:List Ob} {P:α->Hp->Hp->List Addr->Prop} (R:Res E (ret x om) F H β P) (M:MOk F H β om):P x F H β:=R F H β (Gx.refl _ _ _) M
theorem PE.weak {X:Cx} {e:Expr} {t t':TE} (h:PE X e t) (w:∀σ H Q,t' σ H Q->t σ H Q):PE X e t':=fun pins s σ H Q I q=>h pins s σ H Q I (w σ H Q q)
theorem PT.weak {X:Cx} {e:Expr} {t t':TT} (h:PT X e t) (w:∀σ H Q,t' σ H Q->t σ H Q):PT X e t':=fun pins s σ H Q I q=>h pins s σ H Q I (w σ H Q q)
theorem PW.weak {X:Cx} {e:Expr} {t t':TT} (h:PW X e t) (w:∀σ H Q,t' σ H Q->t σ H Q):PW X e t':=fun wh pins s σ H Q I q=>h wh pins s σ H Q I (w σ H Q q)
theorem PA.weak {X:Cx} {es:List Expr} {t t':TA} (h:PA X es t) (w:∀σ H Q,t' σ H Q->t σ H Q):PA X es t':=fun pos pins s σ H Q I q=>h pos pins s σ H Q I (w σ H Q q)
theorem PS.weak {X:Cx} {e:Stmt} {t t':TS} (h:PS X e t) (w:∀D σ H,t' D σ H->t D σ H):PS X e t':=fun pins s σ H Q I q=>h pins s σ H Q I (w Q σ H q)
theorem PSs.weak {X:Cx} {e:List Stmt} {t t':TS} (h:PSs X e t) (w:∀D σ H,t' D σ H->t D σ H):PSs X e t':=fun pins s σ H Q I q=>h pins s σ H Q I (w Q σ H q)
def Za (i:Nat):FE:=fun sl=>match sl[i]? with
 |some (some w)=>ret w
 |_=>XN
def fC (w:Wv):FE:=fun _=>ret w
section
variable {X:Cx} {E:XK} {e a b:Expr} {es:List Expr} {fa fb:FE} {pos:Pos}
theorem Jm {i:Nat} (h:PE X e (BX i)):PE X e (tE E (Za i)):=h.weak fun σ H Q ⟨F,β,om,sl,M,V,R⟩=>by
 unfold Za at R
 match hw:sl[i]?,R with
 |some (some w),R =>
  obtain ⟨v,e1,r⟩:=V.get i w hw
  exact ⟨v,e1,R.now M v r⟩
 |some none,R=>exact R.elim
 |none,R=>exact R.elim
theorem KS {v:V} {w:Wv} (h:PE X e (tC v)) (r:∀F β,RW F β w v):PE X e (tE E (fC w)):=h.weak fun σ H Q ⟨F,β,om,sl,M,V,R⟩=>R.now M v (r F β)
theorem Zs {i j pos}:PE X (.Constant (.int i) j pos) (tE E (fC (.int i))):=KS CP fun _ _=>.int i
theorem OV {i j pos}:PE X (.Constant (.bool i) j pos) (tE E (fC (.bl i))):=KS BY fun _ _=>.bl i
theorem Cr {j pos}:PE X (.Constant .none j pos) (tE E (fC .non)):=KS D4 fun _ _=>.non
theorem Ra {i j pos}:PE X (.Constant (.str i) j pos) (tE E (fC (.str i))):=KS Gd fun _ _=>.str i
theorem Zf (i:Nat) {x:Str} {pos:Pos} (hN:X.N[i]?=some x:=by rfl) (hv:Vis X.env.scope x:=by first|exact Or.inl rfl|exact Or.inr (Or.inl rfl)|exact Or.inr (Or.inr rfl)) (hd:(x == ("__debug__":Str))=false:=by decide) (hcd:(x == ("__classdict__":Str))=false:=by decide) :
    PE X (.Name x pos) (tE E (Za i)):=Jm (Ck hN hv hd hcd)
def f1 (k:Wv->Mw Wv) (fa:FE):FE:=fun sl=>bnd (fa sl) k
def f2 (k:Wv->Wv->Mw Wv) (fa fb:FE):FE:=fun sl=>bnd (fa sl) fun x=>bnd (fb sl) fun y=>k x y
def Op2 (E:XK) (r:R2) (k:Wv->Wv->Mw Wv):Prop:=∀{F H:Hp} {β:List Addr} {om:List Ob} {x y:Wv} {v u:V} {Q:VK},MOk F H β om->RW F β x v->RW F β y u->Res E (k x y om) F H β (PV Q)->r v u H Q
def Op1 (E:XK) (r:V->Hp->VK->Prop) (k:Wv->Mw Wv):Prop:=∀{F H:Hp} {β:List Addr} {om:List Ob} {x:Wv} {v:V} {Q:VK},MOk F H β om->RW F β x v->Res E (k x om) F H β (PV Q)->r v H Q
theorem OM {r:R2} {k:Wv->Wv->Mw Wv} (hk:Op2 E r k) {σ:St} {H:Hp} {Q:VK} (h:tE E (f2 k fa fb) σ H Q):tOp r (tE E fa) (tE E fb) σ H Q:=by
 obtain ⟨F,β,om,sl,M,V,R⟩:=h
 refine ⟨F,β,om,sl,M,V,R.bind fun x om1 F1 H1 β1 g1 M1 R1 v rv=>?_⟩
 refine ⟨F1,β1,om1,sl,M1,V.mono g1.toGr,R1.bind fun y om2 F2 H2 β2 g2 M2 R2 u ru=>?_⟩
 exact hk M2 (rv.mono g2.toGr) ru R2
theorem Hj {r:V->Hp->VK->Prop} {k:Wv->Mw Wv} (hk:Op1 E r k) {σ:St} {H:Hp} {Q:VK} (h:tE E (f1 k fa) σ H Q):tE E fa σ H fun x H1=>r x H1 Q:=by
 obtain ⟨F,β,om,sl,M,V,R⟩:=h
 exact ⟨F,β,om,sl,M,V,R.bind fun x om1 F1 H1 β1 g1 M1 R1 v rv=>hk M1 rv R1⟩
theorem Q5 {op:Operator} {r:R2} {k:Wv->Wv->Mw Wv} (ho:OpR X (binaryOp op) r) (hk:Op2 E r k) (ha:PE X a (tE E fa)) (hb:PE X b (tE E fb)):PE X (.BinOp a op b pos) (tE E (f2 k fa fb)):=(Eu ho ha hb).weak fun _ _ _ h=>OM hk h
theorem SW {op:CmpOp} {r:R2} {k:Wv->Wv->Mw Wv} (ho:OpR X (compareOp op) r) (hk:Op2 E r k) (ha:PE X a (tE E fa)) (hb:PE X b (tE E fb)) (hm:behindInMarks op b=false):PE X (.Compare a [op] [b] pos) (tE E (f2 k fa fb)):=(Fm ho ha hb hm).weak fun _ _ _ h=>OM hk h
def kI (g:Int->Int->Wv):Wv->Wv->Mw Wv
 |.int i,.int j=>ret (g i j)
 |_,_=>XN
def kIc (c:Int->Int->Bool) (g:Int->Int->Wv):Wv->Wv->Mw Wv
 |.int i,.int j=>if c i j=true then ret (g i j) else XN
 |_,_=>XN
theorem Vm {g:Int->Int->V} {g':Int->Int->Wv} (hg:∀F β i j,RW F β (g' i j) (g i j)):Op2 E (rI0 g) (kI g'):=by
 intro F H β om x y v u Q M rx ry R
 cases rx <;> first|exact R.elim|skip
 cases ry <;> first|exact R.elim|skip
 exact ⟨_,_,rfl,rfl,R.now M _ (hg ..)⟩
theorem M5 {C:Int->Int->Prop} {c:Int->Int->Bool} {g:Int->Int->V} {g':Int->Int->Wv} (hc:∀i j,c i j=true->C i j) (hg:∀F β i j,RW F β (g' i j) (g i j)):Op2 E (rI C g) (kIc c g'):=by
 intro F H β om x y v u Q M rx ry R
 cases rx <;> first|exact R.elim|skip
 cases ry <;> first|exact R.elim|skip
 rename_i i j
 have R:Res E ((if c i j=true then ret (g' i j) else XN) om) F H β (PV Q):=R
 by_cases h:c i j=true
 ·rw[if_pos h]at R
  exact ⟨_,_,rfl,rfl,hc _ _ h,R.now M _ (hg ..)⟩
 ·rw[if_neg h]at R
  exact R.elim
abbrev XD:=kI fun i j=>.int (i+j)
abbrev Wq:=kI fun i j=>.int (i - j)
abbrev GS:=kIc (fun i j=>decide (-(2 ^ 64) < i∧i < 2 ^ 64∨-(2 ^ 64) < j∧j < 2 ^ 64)) fun i j=>.int (i * j)
abbrev Sw:=kIc (fun _ j=>decide (0 < j∧j < 1073741824)) fun i j=>.int (i / j)
abbrev XS:=kIc (fun _ j=>decide (0 < j)) fun i j=>.int (i % j)
abbrev kLt:=kI fun i j=>.bl (decide (i < j))
abbrev kGt:=kI fun i j=>.bl (decide (j < i))
abbrev kGe:=kI fun i j=>.bl (decide (j<=i))
theorem Xx (ha:PE X a (tE E fa)) (hb:PE X b (tE E fb)):PE X (.BinOp a .Add b pos) (tE E (f2 XD fa fb)):=Q5 Cy (Vm fun _ _ _ _=>.int _) ha hb
theorem W6 (ha:PE X a (tE E fa)) (hb:PE X b (tE E fb)):PE X (.BinOp a .Sub b pos) (tE E (f2 Wq fa fb)):=Q5 D3 (Vm fun _ _ _ _=>.int _) ha hb
theorem DJ (ha:PE X a (tE E fa)) (hb:PE X b (tE E fb)):PE X (.BinOp a .Mult b pos) (tE E (f2 GS fa fb)):=Q5 Dk (M5 (fun i j h=>of_decide_eq_true h) fun _ _ _ _=>.int _) ha hb
theorem On (ha:PE X a (tE E fa)) (hb:PE X b (tE E fb)):PE X (.BinOp a .FloorDiv b pos) (tE E (f2 Sw fa fb)):=Q5 Ec (M5 (fun i j h=>of_decide_eq_true h) fun _ _ _ _=>.int _) ha hb
theorem WE (ha:PE X a (tE E fa)) (hb:PE X b (tE E fb)):PE X (.BinOp a .Mod b pos) (tE E (f2 XS fa fb)):=Q5 DQ (M5 (fun i j h=>of_decide_eq_true h) fun _ _ _ _=>.int _) ha hb
theorem B9 (ha:PE X a (tE E fa)) (hb:PE X b (tE E fb)):PE X (.Compare a [.Lt] [b] pos) (tE E (f2 kLt fa fb)):=SW Ex (Vm fun _ _ _ _=>.bl _) ha hb (WG _)
theorem Bm (ha:PE X a (tE E fa)) (hb:PE X b (tE E fb)):PE X (.Compare a [.Gt] [b] pos) (tE E (f2 kGt fa fb)):=SW E4 (Vm fun _ _ _ _=>.bl _) ha hb (WG _)
theorem Bu (ha:PE X a (tE E fa)) (hb:PE X b (tE E fb)):PE X (.Compare a [.GtE] [b] pos) (tE E (f2 kGe fa fb)):=SW EJ (Vm fun _ _ _ _=>.bl _) ha hb (WG _)
end
mutual
def Wp (om:List Ob):Wv->Option PyData
 |.non=>some .none
 |.bl b=>some (.bool b)
 |.int i=>some (.int i)
 |.str x=>some (.str x)
 |.lst ws=>(pysOf om ws).map .list
 |.tup ws=>(pysOf om ws).map .tuple
 |.o _=>none
 |.g _=>none
def pysOf (om:List Ob):List Wv->Option (List PyData)
 |[]=>some []
 |w::r=>match Wp om w,pysOf om r with
  |some d,some ds=>some (d::ds)
  |_,_=>none
end
def Y7 (om:List Ob):Wv->Option PyData
 |.o h=>match om[h]? with
  |some (.lst ws)=>(pysOf om ws).map .list
  |_=>none
 |w=>Wp om w
section
variable {X:Cx} {pins:List (Addr × Obj)} {σ:St} {F H:Hp} {s:Shared} {β:List Addr} {om:List Ob}
mutual
theorem RW.reads (I:Inv X pins σ H s) (sub:Same F H):∀{w:Wv} {v:V} {d:PyData} {u:Value},RW F β w v->Wp om w=some d->RelV v u->∃as,Reads s.heap u d as
 |_,_,_,_,.non,e,r=>by unfold Wp at e; cases e; cases r; exact ⟨_,.none⟩
 |_,_,_,_,.bl b,e,r=>by unfold Wp at e; cases e; cases r; exact ⟨_,.bool b⟩
 |_,_,_,_,.int i,e,r=>by unfold Wp at e; cases e; obtain ⟨t,rfl⟩:=r; exact ⟨_,.int i t⟩
 |_,_,_,_,.str x,e,r=>by unfold Wp at e; cases e; obtain ⟨t,rfl⟩:=r; exact ⟨_,.str x t⟩
 |_,_,_,_,.lst (a:=a) (ws:=ws) q rs,e,r=>by
  unfold Wp at e
  cases r
  match hp:pysOf om ws,e with
  |some ds,e =>
   cases e
   obtain ⟨_,its,n,rv,eo⟩:=(Rd.same sub q).ok I.hok
   obtain ⟨as,ra⟩:=RWs.reads I sub rs hp rv
   exact ⟨_,.list eo rfl rfl (by simpa using ra)⟩
 |_,_,_,_,.tup (a:=a) (ws:=ws) q rs,e,r=>by
  unfold Wp at e
  cases r
  match hp:pysOf om ws,e with
  |some ds,e =>
   cases e
   obtain ⟨_,its,rv,o,eo,ec,n,ed⟩:=I.hok a _ (sub _ _ q)
   obtain ⟨as,ra⟩:=RWs.reads I sub rs hp rv
   exact ⟨_,.tuple eo ec ed (by simpa using ra)⟩
 |_,_,_,_,.o _,e,r=>by unfold Wp at e; cases e
 |_,_,_,_,.g _,e,r=>by unfold Wp at e; cases e
theorem RWs.reads (I:Inv X pins σ H s) (sub:Same F H):∀{ws:List Wv} {vs:List V} {ds:List PyData} {us:List Value},RWs F β ws vs->pysOf om ws=some ds->Vals vs us->∃as,ReadsAll s.heap us ds as
 |_,_,_,_,.nil,e,r=>by unfold pysOf at e; cases e; cases r; exact ⟨_,.nil⟩
 |_,_,_,_,.cons (w:=w) (ws:=ws) h q,e,r=>by
  unfold pysOf at e
  cases r with
  |cons r1 r2 =>
   match h1:Wp om w,h2:pysOf om ws,e with
   |some d,some ds,e =>
    cases e
    obtain ⟨as,ra⟩:=RW.reads I sub h h1 r1
    obtain ⟨bs,rb⟩:=RWs.reads I sub q h2 r2
    exact ⟨_,.cons ra rb⟩
end
theorem RW.readsTop (I:Inv X pins σ H s) (M:MOk F H β om) {w:Wv} {v:V} {d:PyData} {u:Value} (rw':RW F β w v) (e:Y7 om w=some d) (r:RelV v u):∃as,Reads s.heap u d as:=by
 match w,e with
 |.non,e=>exact rw'.reads (om:=om) I M.sub e r
 |.bl _,e=>exact rw'.reads (om:=om) I M.sub e r
 |.int _,e=>exact rw'.reads (om:=om) I M.sub e r
 |.str _,e=>exact rw'.reads (om:=om) I M.sub e r
 |.lst _,e=>exact rw'.reads (om:=om) I M.sub e r
 |.tup _,e=>exact rw'.reads (om:=om) I M.sub e r
 |.g _,e=>exact rw'.reads (om:=om) I M.sub e r
 |.o h,e =>
  unfold Y7 at e
  dsimp only at e
  split at e
  ·rename_i ws hw
   cases rw' with
   |o eb =>
    obtain ⟨a,ea,_,xs,hx,rs⟩:=M.at hw
    rw[eb]at ea; cases ea
    cases r
    match hp:pysOf om ws,e with
    |some ds,e =>
     cases e
     obtain ⟨_,its,n,rv,eo⟩:=I.hok _ _ hx
     obtain ⟨as,ra⟩:=RWs.reads I M.sub rs hp rv
     exact ⟨_,.list eo rfl rfl (by simpa using ra)⟩
  ·cases e
end
def WK (d:PyData):Bool:=d.canLay0&&decide (d.depth<=60)
def Wo (neg:Bool) (x y:Wv):Mw Wv:=fun om=>match Y7 om x,Y7 om y with
 |some d,some e=>if (WK d&&WK e)=true then some (.ok (.bl (if neg then !PyData.eqv d e else PyData.eqv d e)),om) else none
 |_,_=>none
abbrev kEq:=Wo false
abbrev kNe:=Wo true
def BO (E:XK) (neg:Bool):R2:=fun v u H Q=>∃F β om x y,MOk F H β om∧RW F β x v∧RW F β y u∧Res E (Wo neg x y om) F H β (PV Q)
section
variable {X:Cx} {E:XK} {a b:Expr} {fa fb:FE} {pos:Pos}
theorem IA (hu:X.A.units+64 < cLine):OpR X (compareOp .Eq) (BO E false):=by
 intro pins s σ H v u v' u' Q I rv ru h
 obtain ⟨F,β,om,x,y,M,rx,ry,R⟩:=h
 unfold Wo at R
 match h1:Y7 om x,h2:Y7 om y,R with
 |some d,some e,R =>
  dsimp only at R
  by_cases hl:(WK d&&WK e)=true
  ·rw[if_pos hl]at R
   obtain ⟨l1,l2⟩:=Bool.and_eq_true_iff.mp hl
   obtain ⟨c1,d1⟩:=Bool.and_eq_true_iff.mp l1
   obtain ⟨c2,d2⟩:=Bool.and_eq_true_iff.mp l2
   obtain ⟨as,ra⟩:=rx.readsTop I M h1 rv
   obtain ⟨bs,rb⟩:=ry.readsTop I M h2 ru
   have:=of_decide_eq_true d1
   have:=of_decide_eq_true d2
   exact SeqAt.rcAt_reads ra rb c1 c2 (by omega) _ _ _ _ ⟨.bl _,H,I,rfl,R F H β (Gx.refl _ _ _) M _ (.bl _)⟩
  ·rw[if_neg hl]at R; exact R.elim
theorem Ig (hu:X.A.units+64 < cLine):OpR X (compareOp .NotEq) (BO E true):=by
 intro pins s σ H v u v' u' Q I rv ru h
 obtain ⟨F,β,om,x,y,M,rx,ry,R⟩:=h
 unfold Wo at R
 match h1:Y7 om x,h2:Y7 om y,R with
 |some d,some e,R =>
  dsimp only at R
  by_cases hl:(WK d&&WK e)=true
  ·rw[if_pos hl]at R
   obtain ⟨l1,l2⟩:=Bool.and_eq_true_iff.mp hl
   obtain ⟨c1,d1⟩:=Bool.and_eq_true_iff.mp l1
   obtain ⟨c2,d2⟩:=Bool.and_eq_true_iff.mp l2
   obtain ⟨as,ra⟩:=rx.readsTop I M h1 rv
   obtain ⟨bs,rb⟩:=ry.readsTop I M h2 ru
   have:=of_decide_eq_true d1
   have:=of_decide_eq_true d2
   exact SeqAt.compareNe_reads ra rb c1 c2 (by omega) ⟨.bl _,H,I,rfl,R F H β (Gx.refl _ _ _) M _ (.bl _)⟩
  ·rw[if_neg hl]at R; exact R.elim
theorem VY (hu:X.A.units+64 < cLine) (ha:PE X a (tE E fa)) (hb:PE X b (tE E fb)):PE X (.Compare a [.Eq] [b] pos) (tE E (f2 kEq fa fb)):=SW (IA (E:=E) hu) (fun M rx ry R=>⟨_,_,_,_,_,M,rx,ry,R⟩) ha hb (WG _)
theorem EE (hu:X.A.units+64 < cLine) (ha:PE X a (tE E fa)) (hb:PE X b (tE E fb)):PE X (.Compare a [.NotEq] [b] pos) (tE E (f2 kNe fa fb)):=SW (Ig (E:=E) hu) (fun M rx ry R=>⟨_,_,_,_,_,M,rx,ry,R⟩) ha hb (WG _)
end
end L2
namespace L2
noncomputable section
open PySem PySem.Spec PyProof.Rows
def kB:Wv->Mw Bool
 |.bl b=>ret b
 |_=>XN
def fB (f:FE):FT:=fun sl=>bnd (f sl) kB
def UZ (f g:FT):FT:=fun sl=>bnd (f sl) fun b=>if b=true then g sl else ret false
def fOr (f g:FT):FT:=fun sl=>bnd (f sl) fun b=>if b=true then ret true else g sl
def FJ (f:FT):FT:=fun sl=>bnd (f sl) fun b=>ret (!b)
def X7 (f g:FE):FE:=fun sl=>bnd (f sl) fun x=>bnd (kB x) fun b=>if b=true then g sl else ret (.bl false)
def IW (c:FT) (f g:FE):FE:=fun sl=>bnd (c sl) fun b=>if b=true then f sl else g sl
def isNon:Wv->Bool
 |.non=>true
 |_=>false
def U3 (x:Wv):Mw Wv:=ret (.bl (isNon x))
def T5 (x:Wv):Mw Wv:=ret (.bl (!isNon x))
def E6 (x:Wv):Mw Wv:=bnd (kB x) fun b=>ret (.bl (!b))
theorem RW.isNon {F:Hp} {β:List Addr} {w:Wv} {v:V} (r:RW F β w v):decide (v=.non)=L2.isNon w:=by
 cases r <;> first|rfl|(refine decide_eq_false ?_; intro z; cases z)
section
variable {X:Cx} {E:XK} {e a b c:Expr} {rest:List Expr} {f fa fb fc:FE} {g ga gb:FT} {pos:Pos}
theorem Res.kB {P:Bool->Hp->Hp->List Addr->Prop} {x:Wv} {v:V} {F H:Hp} {β:List Addr} {om:List Ob} (rv:RW F β x v) (M:MOk F H β om) (R:Res E (L2.kB x om) F H β P):∃b,x=.bl b∧v=.bl b∧P b F H β:=by
 cases rv <;> first|exact R.elim|skip
 exact ⟨_,rfl,rfl,R.now M⟩
theorem Hl {σ:St} {H:Hp} {Q:Bool->Hp->Prop} (h:tT E (fB f) σ H Q):tE E f σ H fun x H'=>∃c,x=.bl c∧Q c H':=by
 obtain ⟨F,β,om,sl,M,V,R⟩:=h
 refine ⟨F,β,om,sl,M,V,R.bind fun x om1 F1 H1 β1 g1 M1 R1 v rv=>?_⟩
 obtain ⟨b,rfl,rfl,q⟩:=R1.kB rv M1
 exact ⟨b,rfl,q⟩
theorem V9 {op:CmpOp} {r:R2} {k:Wv->Wv->Mw Wv} (ho:OpR X (compareOp op) r) (hk:Op2 E r k) (ha:PE X a (tE E fa)) (hb:PE X b (tE E fb)) (hm:behindInMarks op b=false):PT X (.Compare a [op] [b] pos) (tT E (fB (f2 k fa fb))) :=
 (Fs ho ha hb hm).weak fun _ _ _ h=>OM hk (Hl h)
theorem IX (ha:PE X a (tE E fa)) (hb:PE X b (tE E fb)):PT X (.Compare a [.Lt] [b] pos) (tT E (fB (f2 kLt fa fb))):=V9 Ex (Vm fun _ _ _ _=>.bl _) ha hb (WG _)
theorem BV (ha:PE X a (tE E fa)) (hb:PE X b (tE E fb)):PT X (.Compare a [.Gt] [b] pos) (tT E (fB (f2 kGt fa fb))):=V9 E4 (Vm fun _ _ _ _=>.bl _) ha hb (WG _)
theorem BD (ha:PE X a (tE E fa)) (hb:PE X b (tE E fb)):PT X (.Compare a [.GtE] [b] pos) (tT E (fB (f2 kGe fa fb))):=V9 EJ (Vm fun _ _ _ _=>.bl _) ha hb (WG _)
theorem WQ (hu:X.A.units+64 < cLine) (ha:PE X a (tE E fa)) (hb:PE X b (tE E fb)):PT X (.Compare a [.Eq] [b] pos) (tT E (fB (f2 kEq fa fb))):=V9 (IA (E:=E) hu) (fun M rx ry R=>⟨_,_,_,_,_,M,rx,ry,R⟩) ha hb (WG _)
theorem S8 (hu:X.A.units+64 < cLine) (ha:PE X a (tE E fa)) (hb:PE X b (tE E fb)):PT X (.Compare a [.NotEq] [b] pos) (tT E (fB (f2 kNe fa fb))):=V9 (Ig (E:=E) hu) (fun M rx ry R=>⟨_,_,_,_,_,M,rx,ry,R⟩) ha hb (WG _)
theorem Kp:Op1 E (fun x H1 Q=>Q (.bl (decide (x=.non))) H1) U3:=fun M rx R=>by show (_:VK) (.bl (decide _)) _; rw[rx.isNon]; exact R.now M _ (.bl _)
theorem HU:Op1 E (fun x H1 Q=>Q (.bl (!decide (x=.non))) H1) T5:=fun M rx R=>by show (_:VK) (.bl (!decide _)) _; rw[rx.isNon]; exact R.now M _ (.bl _)
theorem DW {j pos'} (ha:PE X a (tE E fa)):PE X (.Compare a [.Is] [.Constant .none j pos'] pos) (tE E (f1 U3 fa)):=(Gh (J3 ha)).weak fun _ _ _ h=>Hj Kp h
theorem Oa {j pos'} (ha:PE X a (tE E fa)):PT X (.Compare a [.Is] [.Constant .none j pos'] pos) (tT E (fB (f1 U3 fa))):=(P4 (J3 ha)).weak fun _ _ _ h=>Hj Kp (Hl h)
theorem Kn {j pos'} (ha:PE X a (tE E fa)):PT X (.Compare a [.IsNot] [.Constant .none j pos'] pos) (tT E (fB (f1 T5 fa))):=(P4 (FG ha)).weak fun _ _ _ h=>Hj HU (Hl h)
theorem DF {σ:St} {H:Hp} {Q:Bool->Hp->Prop} (h:tT E (UZ ga gb) σ H Q):Bk (tT E ga) (tT E gb) σ H Q:=by
 obtain ⟨F,β,om,sl,M,V,R⟩:=h
 refine ⟨F,β,om,sl,M,V,R.bind fun x om1 F1 H1 β1 g1 M1 R1=>?_⟩
 cases x with
 |true=>rw[if_pos rfl]at R1 ⊢; exact ⟨F1,β1,om1,sl,M1,V.mono g1.toGr,R1⟩
 |false=>rw[if_neg Bool.false_ne_true]at R1 ⊢; exact R1.now M1
theorem C0 {σ:St} {H:Hp} {Q:Bool->Hp->Prop} (h:tT E (fOr ga gb) σ H Q):tOr (tT E ga) (tT E gb) σ H Q:=by
 obtain ⟨F,β,om,sl,M,V,R⟩:=h
 refine ⟨F,β,om,sl,M,V,R.bind fun x om1 F1 H1 β1 g1 M1 R1=>?_⟩
 cases x with
 |true=>rw[if_pos rfl]at R1 ⊢; exact R1.now M1
 |false=>rw[if_neg Bool.false_ne_true]at R1 ⊢; exact ⟨F1,β1,om1,sl,M1,V.mono g1.toGr,R1⟩
theorem UR (ha:PT X a (tT E ga)):PW X (.BoolOp .And [a] pos) (tT E ga):=FY ha
theorem MA (ha:PT X a (tT E ga)):PW X (.BoolOp .Or [a] pos) (tT E ga):=CH ha
theorem R6 (ha:PT X a (tT E ga)) (hb:PW X (.BoolOp .And (b::rest) pos) (tT E gb)):PW X (.BoolOp .And (a::b::rest) pos) (tT E (UZ ga gb)):=(Dx ha hb).weak fun _ _ _ h=>DF h
theorem Hd (ha:PT X a (tT E ga)) (hb:PW X (.BoolOp .Or (b::rest) pos) (tT E gb)):PW X (.BoolOp .Or (a::b::rest) pos) (tT E (fOr ga gb)):=(BW ha hb).weak fun _ _ _ h=>C0 h
theorem Ch (ha:PT X a (tT E ga)):PT X (.UnaryOp .Not a pos) (tT E (FJ ga)):=(DO ha).weak fun σ H Q ⟨F,β,om,sl,M,V,R⟩=>⟨F,β,om,sl,M,V,R.bind fun x om1 F1 H1 β1 g1 M1 R1=>R1.now M1⟩
theorem S7 {op} (h:PE X a (tE E f)):PE X (.BoolOp op [a] pos) (tE E f):=Ce h
theorem Ub (ha:PE X a (tE E fa)) (hb:PE X (.BoolOp .And (b::rest) pos) (tE E fb)):PE X (.BoolOp .And (a::b::rest) pos) (tE E (X7 fa fb)):=(Co ha hb).weak fun σ H Q ⟨F,β,om,sl,M,V,R⟩=>by
 refine ⟨F,β,om,sl,M,V,R.bind fun x om1 F1 H1 β1 g1 M1 R1 v rv=>?_⟩
 have R2:Res E (L2.kB x om1) F1 H1 β1 fun y F' H' β'=>(if y=true then tE E fb σ H' Q else Q (.bl false) H'):=R1.bind fun y om2 F2 H2 β2 g2 M2 R2=>by
  cases y with
  |true=>rw[if_pos rfl]at R2 ⊢; exact ⟨F2,β2,om2,sl,M2,V.mono (g1.trans g2).toGr,R2⟩
  |false=>rw[if_neg Bool.false_ne_true]at R2 ⊢; exact R2.now M2 _ (.bl _)
 obtain ⟨c,rfl,rfl,q⟩:=R2.kB rv M1
 exact ⟨c,rfl,q⟩
theorem DN (ha:PE X a (tE E fa)):PE X (.UnaryOp .Not a pos) (tE E (f1 E6 fa)):=(DY ha).weak fun σ H Q ⟨F,β,om,sl,M,V,R⟩=>by
 refine ⟨F,β,om,sl,M,V,R.bind fun x om1 F1 H1 β1 g1 M1 R1 v rv=>?_⟩
 have R2:Res E (L2.kB x om1) F1 H1 β1 fun y F' H' β'=>Q (.bl (!y)) H':=R1.bind fun y om2 F2 H2 β2 g2 M2 R2=>R2.now M2 _ (.bl _)
 obtain ⟨c,rfl,rfl,q⟩:=R2.kB rv M1
 exact ⟨c,rfl,q⟩
theorem JV (hc:PT X c (tT E ga)) (ha:PE X a (tE E fa)) (hb:PE X b (tE E fb)):PE X (.IfExp c a b pos) (tE E (IW ga fa fb)):=(JQ hc ha hb).weak fun σ H Q ⟨F,β,om,sl,M,V,R⟩=>by
 refine ⟨F,β,om,sl,M,V,R.bind fun y om2 F2 H2 β2 g2 M2 R2=>?_⟩
 cases y with
 |false=>rw[if_neg Bool.false_ne_true]at R2 ⊢; exact ⟨F2,β2,om2,sl,M2,V.mono g2.toGr,R2⟩
 |true=>rw[if_pos rfl]at R2 ⊢; exact ⟨F2,β2,om2,sl,M2,V.mono g2.toGr,R2⟩
end
def Xs (om:List Ob):Wv->Option (List Wv)
 |.lst ws=>some ws
 |.tup ws=>some ws
 |.o h=>match om[h]? with
  |some (.lst ws)=>some ws
  |_=>none
 |_=>none
noncomputable def B7:{ n:Nat // n=100000 }:=Classical.choice ⟨⟨100000,rfl⟩⟩
noncomputable def lim:Nat:=B7.1
theorem ZW:lim=100000:=B7.2
theorem Uy:lim < sizeLine:=by rw[ZW]; decide
theorem Ti {X:Cx} {F H:Hp} {β:List Addr} {om:List Ob} {w:Wv} {v:V} {ws:List Wv} (M:MOk F H β om) (r:RW F β w v) (e:Xs om w=some ws) :
    ∃a xs,v=.ref a∧(SqL X.K H a xs∨SqT X.K H a xs)∧RWs F β ws xs:=by
 cases r with
 |lst q rs=>unfold Xs at e; cases e; exact ⟨_,_,rfl,.inl (.inl (Rd.same M.sub q)),rs⟩
 |tup q rs=>unfold Xs at e; cases e; exact ⟨_,_,rfl,.inr (SqT.of (M.sub _ _ q)),rs⟩
 |o eb =>
  rename_i h a
  have e:(match om[h]? with|some (.lst ws)=>some ws|_=>none)=some ws:=e
  match hx:om[h]?,e with
  |none,e=>exact nomatch e
  |some (.ins _ _),e=>exact nomatch e
  |some (.exc _),e=>exact nomatch e
  |some (.dz _),e=>exact nomatch e
  |some (.dk _),e=>exact nomatch e
  |some (.dt _),e=>exact nomatch e
  |some (.lst us),e =>
   have e:some us=some ws:=e
   cases e
   obtain ⟨a',ea,_,xs,hxs,rs⟩:=M.at hx
   rw[eb]at ea; cases ea
   exact ⟨_,_,rfl,.inl (SqL.of hxs),rs⟩
 |_=>unfold Xs at e; cases e
theorem RWs.atI {F:Hp} {β:List Addr} {ws:List Wv} {vs:List V} {i:Int} {w:Wv} (r:RWs F β ws vs) (e:L2.atI ws i=some w):∃v,L2.atI vs i=some v∧RW F β w v:=by
 unfold L2.atI at e ⊢
 rw[← r.length]
 match hx:ixN ws.length i,e with
 |some j,e=>exact r.get e
def kIx (x i:Wv):Mw Wv:=fun om=>match Xs om x,i with
 |some ws,.int k=>match atI ws k with
  |some w=>some (.ok w,om)
  |none=>none
 |_,_=>none
section
variable {X:Cx} {E:XK} {e a b c:Expr} {es:List Expr} {f fa fb fc:FE} {fs:FA} {pos:Pos}
theorem IQ:Op2 E (rIx X.K) kIx:=by
 intro F H β om x y v u Q M rx ry R
 unfold kIx at R
 match hx:Xs om x,y,ry,R with
 |none,_,_,R=>exact R.elim
 |some ws,.int i,.int _,R =>
  have R:Res E (match L2.atI ws i with|some w=>some (Except.ok w,om)|none=>none) F H β (PV Q):=R
  match ha:L2.atI ws i,R with
  |none,R=>exact R.elim
  |some w,R =>
   have R:Res E (ret w om) F H β (PV Q):=R
   obtain ⟨p,xs,rfl,hs,rs⟩:=Ti (X:=X) M rx hx
   obtain ⟨z,ez,rz⟩:=rs.atI ha
   have q:=R.now M z rz
   rcases hs with hs|hs
   ·exact .inl ⟨p,xs,i,z,rfl,rfl,hs,ez,q⟩
   ·exact .inr (.inl ⟨p,xs,i,z,rfl,rfl,hs,ez,q⟩)
theorem Xv (ha:PE X a (tE E fa)) (hb:PE X b (tE E fb)) (hs:Ou b:=by intro _ _; rfl):PE X (.Subscript a b pos) (tE E (f2 kIx fa fb)):=(Df Hu ha hb hs).weak fun _ _ _ h=>OM IQ h
def Zk:FA:=fun _=>ret []
def Zc (f:FE) (r:FA):FA:=fun sl=>bnd (f sl) fun x=>bnd (r sl) fun xs=>ret (x::xs)
theorem Zm:PA X [] (tA E Zk):=Vo.weak fun σ H Q ⟨F,β,om,sl,M,V,R⟩=>R.now M _ .nil
theorem Zd (ha:PE X e (tE E f)) (hr:PA X es (tA E fs)) (hs:starEach (e::es) X.env=(false,eval e X.env)::starEach es X.env:=by rfl):PA X (e::es) (tA E (Zc f fs)):=(WB ha hr hs).weak fun σ H Q ⟨F,β,om,sl,M,V,R⟩=>by
 refine ⟨F,β,om,sl,M,V,R.bind fun x om1 F1 H1 β1 g1 M1 R1 v rv=>?_⟩
 exact ⟨F1,β1,om1,sl,M1,V.mono g1.toGr,R1.bind fun xs om2 F2 H2 β2 g2 M2 R2 vs rvs=>R2.now M2 _ (.cons (rv.mono g2.toGr) rvs)⟩
def VR (ws:List Wv):Mw Wv:=if ws.length<=lim then ret (.tup ws) else XN
def ZQ (ws:List Wv):Mw Wv:=if ws.length<=lim then ret (.lst ws) else XN
def newO (x:Ob):Mw Wv:=fun om=>some (.ok (.o om.length),om++[x])
def Vg (ws:List Wv):Mw Wv:=if ws.length<=lim then newO (.lst ws) else XN
def fA (k:List Wv->Mw Wv) (fs:FA):FE:=fun sl=>bnd (fs sl) k
theorem Res.lay {c:Prop} [Decidable c] {m:Mw Wv} {om:List Ob} {F:Hp} {β:List Addr} {P:Wv->Hp->Hp->List Addr->Prop} (R:Res E ((if c then m else XN) om) F H β P):c∧Res E (m om) F H β P:=by
 by_cases h:c
 ·rw[if_pos h]at R; exact ⟨h,R⟩
 ·rw[if_neg h]at R; exact R.elim
theorem Res.newO {x:Ob} {om:List Ob} {F H:Hp} {β:List Addr} {Q:VK} {p:Addr} {o:HO} (R:Res E (L2.newO x om) F H β (PV Q)) (M:MOk F H β om) (hp:H p=none) (hx:∀β',Gr F F β β'->ObR F (upd H p o) β' p x):Q (.ref p) (upd H p o):=by
 obtain ⟨g,M',e⟩:=M.newOx hp hx
 exact R _ _ _ g M' _ (.o e)
theorem WM {x1} (h:PA X es (tA E fs)):PE X (.Tuple es x1 pos) (tE E (fA VR fs)):=(Cv h).weak fun σ H Q ⟨F,β,om,sl,M,V,R⟩=>by
 refine ⟨F,β,om,sl,M,V,R.bind fun ws om1 F1 H1 β1 g1 M1 R1 vs rs=>?_⟩
 obtain ⟨hl,R2⟩:=Res.lay R1
 have hl2:=Uy
 refine ⟨by rw[← rs.length]; omega,fun p hp=>?_⟩
 obtain ⟨g,M'⟩:=M1.newFx (o:=.tup vs) hp
 exact R2 _ _ _ g M' _ (.tup Zu (rs.mono g.toGr))
theorem Th (h:PA X es (tA E fs)):PE X (.List es pos) (tE E (fA ZQ fs)):=(Gb h).weak fun σ H Q ⟨F,β,om,sl,M,V,R⟩=>by
 refine ⟨F,β,om,sl,M,V,R.bind fun ws om1 F1 H1 β1 g1 M1 R1 vs rs=>?_⟩
 obtain ⟨hl,R2⟩:=Res.lay R1
 have hl2:=Uy
 refine ⟨by rw[← rs.length]; omega,fun p hp=>?_⟩
 obtain ⟨g,M'⟩:=M1.newFx (o:=.lst vs) hp
 exact R2 _ _ _ g M' _ (.lst (.inl Zu) (rs.mono g.toGr))
theorem Fc (h:PA X es (tA E fs)):PE X (.List es pos) (tE E (fA Vg fs)):=(Gb h).weak fun σ H Q ⟨F,β,om,sl,M,V,R⟩=>by
 refine ⟨F,β,om,sl,M,V,R.bind fun ws om1 F1 H1 β1 g1 M1 R1 vs rs=>?_⟩
 obtain ⟨hl,R2⟩:=Res.lay R1
 have hl2:=Uy
 exact ⟨by rw[← rs.length]; omega,fun p hp=>R2.newO M1 hp fun β' g=>⟨vs,Zu,rs.mono g⟩⟩
def chk (c:Bool):Mw Unit:=if c=true then ret () else XN
theorem Res.chk {γ:Type} {c:Bool} {k:Unit->Mw γ} {om:List Ob} {F:Hp} {β:List Addr} {P:γ->Hp->Hp->List Addr->Prop} (R:Res E (bnd (L2.chk c) k om) F H β P):c=true∧Res E (k () om) F H β P:=by
 cases c with
 |true=>exact ⟨rfl,R⟩
 |false=>exact R.elim
def Vf (E:XK) (k:List Wv->Mw Wv):Prop:=∀{ws:List Wv} {vs:List V} {om:List Ob} {F H:Hp} {β:List Addr} {Q:VK} {p:Addr},MOk F H β om->RWs F β ws vs->Res E (k ws om) F H β (PV Q)->vs.length<=lim∧(H p=none->Q (.ref p) (upd H p (.lst vs)))
theorem ZV:Vf E ZQ:=fun M rs R=>by
 obtain ⟨hl,R2⟩:=Res.lay R
 refine ⟨by rw[← rs.length]; exact hl,fun hp=>?_⟩
 obtain ⟨g,M'⟩:=M.newFx (o:=.lst _) hp
 exact R2 _ _ _ g M' _ (.lst (.inl Zu) (rs.mono g.toGr))
theorem KR:Vf E Vg:=fun M rs R=>by
 obtain ⟨hl,R2⟩:=Res.lay R
 exact ⟨by rw[← rs.length]; exact hl,fun hp=>R2.newO M hp fun β' g=>⟨_,Zu,rs.mono g⟩⟩
end
end
end L2
namespace L2
noncomputable section
open PySem PySem.Spec PyProof.Rows
def L1 (om:List Ob):Wv->Option Bool
 |.non=>some false
 |.bl b=>some b
 |.int i=>some (i != 0)
 |.lst ws=>some (!ws.isEmpty)
 |.tup ws=>some (!ws.isEmpty)
 |.o h=>match om[h]? with
  |some (.lst ws)=>some (!ws.isEmpty)
  |some (.dk kvs)=>some (!kvs.isEmpty)
  |_=>none
 |_=>none
def Cm (x:Wv):Mw Bool:=fun om=>match L1 om x with
 |some b=>some (.ok b,om)
 |none=>none
def WZ (f:FE):FT:=fun sl=>bnd (f sl) Cm
theorem RWs.isEmpty {F:Hp} {β:List Addr} {ws:List Wv} {vs:List V} (r:RWs F β ws vs):(!ws.isEmpty)=!vs.isEmpty:=by cases r <;> rfl
theorem RK.isEmpty {F:Hp} {β:List Addr} {κ:Type} {ws:List (κ × Wv)} {vs:List (κ × V)} (r:RK F β ws vs):(!ws.isEmpty)=!vs.isEmpty:=by cases r <;> rfl
theorem Kt {K:PySem.W.Frag} {F H:Hp} {β:List Addr} {om:List Ob} {w:Wv} {v:V} {b:Bool} (M:MOk F H β om) (r:RW F β w v) (e:L1 om w=some b):Cd K v H b:=by
 cases r with
 |non=>cases e; rfl
 |bl c=>cases e; rfl
 |int i=>cases e; rfl
 |str x=>cases e
 |g _=>cases e
 |lst q rs=>cases e; exact .inl ⟨_,.inl (Rd.same M.sub q),rs.isEmpty⟩
 |tup q rs=>cases e; exact .inr (.inl ⟨_,SqT.of (M.sub _ _ q),rs.isEmpty⟩)
 |o eb =>
  rename_i h a
  have e:(match om[h]? with|some (.lst ws)=>some (!ws.isEmpty)|some (.dk kvs)=>some (!kvs.isEmpty)|_=>none)=some b:=e
  match hx:om[h]?,e with
  |none,e=>exact nomatch e
  |some (.ins _ _),e=>exact nomatch e
  |some (.exc _),e=>exact nomatch e
  |some (.dz _),e=>exact nomatch e
  |some (.dt _),e=>exact nomatch e
  |some (.dk kvs),e =>
   have e:some (!kvs.isEmpty)=some b:=e
   obtain ⟨a',ea,_,ks,hk,rs⟩:=M.at hx
   rw[eb]at ea; cases ea
   cases e
   exact .inr (.inr ⟨ks,hk,rs.isEmpty⟩)
  |some (.lst ws),e =>
   have e:some (!ws.isEmpty)=some b:=e
   obtain ⟨a',ea,_,xs,hxs,rs⟩:=M.at hx
   rw[eb]at ea; cases ea
   cases e
   exact .inl ⟨xs,SqL.of hxs,rs.isEmpty⟩
section
variable {X:Cx} {E:XK} {e a b c o:Expr} {es:List Expr} {f fa fb fc:FE} {fs:FA} {pos p2:Pos}
theorem Vz (ha:PE X a (tE E fa)) (he:∀whole,isTrue a X.env whole=(do let v ← whole; standAt a.pos; holding [v] (truthy v)):=by intro _; rfl):PT X a (tT E (WZ fa)):=(HL ha he).weak fun σ H Q ⟨F,β,om,sl,M,V,R⟩=>by
 refine ⟨F,β,om,sl,M,V,R.bind fun x om1 F1 H1 β1 g1 M1 R1 v rv=>?_⟩
 unfold Cm at R1
 match hx:L1 om1 x,R1 with
 |none,R1=>exact R1.elim
 |some b,R1=>exact ⟨b,Kt M1 rv hx,(show Res E (ret b om1) F1 H1 β1 _ from R1).now M1⟩
def UI:Wv->Bool
 |.non|.bl _|.int _|.str _=>true
 |_=>false
def toV:Wv->V
 |.non=>.non
 |.bl b=>.bl b
 |.int i=>.int i
 |.str x=>.str x
 |_=>.non
theorem RW.flat {F:Hp} {β:List Addr} {w:Wv} {v:V} (r:RW F β w v) (h:UI w=true):v=toV w∧V7 v=true:=by
 cases r <;> first|exact ⟨rfl,rfl⟩|cases h
theorem RWs.flat {F:Hp} {β:List Addr}:∀{ws:List Wv} {vs:List V},RWs F β ws vs->ws.all UI=true->vs=ws.map toV∧vs.all V7=true
 |_,_,.nil,_=>⟨rfl,rfl⟩
 |_,_,.cons h r,e=>by
  rw[List.all_cons,Bool.and_eq_true]at e
  obtain ⟨h1,h2⟩:=h.flat e.1
  obtain ⟨h3,h4⟩:=RWs.flat r e.2
  exact ⟨by rw[List.map_cons,← h1,← h3],by rw[List.all_cons,h2,h4]; rfl⟩
def OG (neg:Bool) (x y:Wv):Mw Wv:=fun om=>match Xs om y with
 |some ws=>if (UI x&&ws.all UI)=true then some (.ok (.bl (if neg then !inV (toV x) (ws.map toV) else inV (toV x) (ws.map toV))),om) else none
 |none=>none
theorem IY {neg:Bool}:Op2 E (rIn X.K neg) (OG neg):=by
 intro F H β om x y v u Q M rx ry R
 unfold OG at R
 match hy:Xs om y,R with
 |none,R=>exact R.elim
 |some ws,R =>
  dsimp only at R
  by_cases hc:(UI x&&ws.all UI)=true
  ·rw[if_pos hc]at R
   obtain ⟨h1,h2⟩:=Bool.and_eq_true_iff.mp hc
   obtain ⟨p,xs,rfl,hs,rs⟩:=Ti (X:=X) M ry hy
   obtain ⟨e1,e2⟩:=rx.flat h1
   obtain ⟨e3,e4⟩:=rs.flat h2
   refine ⟨p,xs,rfl,hs,e2,e4,?_⟩
   rw[e1,e3]
   exact (show Res E (ret (Wv.bl _) om) F H β (PV Q) from R).now M _ (.bl _)
  ·rw[if_neg hc]at R; exact R.elim
theorem B2 (ha:PE X a (tE E fa)) (hb:PE X b (tE E fb)) (hm:behindInMarks .In b=false:=by with_unfolding_all rfl):PT X (.Compare a [.In] [b] pos) (tT E (fB (f2 (OG false) fa fb))):=V9 JD (IY (X:=X)) ha hb hm
theorem Du (ha:PE X a (tE E fa)) (hb:PE X b (tE E fb)) (hm:behindInMarks .NotIn b=false:=by with_unfolding_all rfl):PT X (.Compare a [.NotIn] [b] pos) (tT E (fB (f2 (OG true) fa fb))):=V9 Ov (IY (X:=X)) ha hb hm
theorem RK.lookup {F:Hp} {β:List Addr} {k:Str}:∀{ps:List (Str × Wv)} {qs:List (Str × V)},RK F β ps qs->match ps.lookup k with|some w=>∃v,qs.lookup k=some v∧RW F β w v|none=>qs.lookup k=none
 |_,_,.nil=>rfl
 |_,_,.cons (k:=k') h r=>by
  rw[List.lookup_cons,List.lookup_cons]
  cases (k == k') with
  |true=>exact ⟨_,rfl,h⟩
  |false=>exact RK.lookup r
theorem RK.length {F:Hp} {β:List Addr} {κ:Type}:∀{ps:List (κ × Wv)} {qs:List (κ × V)},RK F β ps qs->ps.length=qs.length
 |_,_,.nil=>rfl
 |_,_,.cons _ r=>by rw[List.length_cons,List.length_cons,RK.length r]
def VU (om:List Ob):Wv->Option (Addr × List (Str × Wv))
 |.o h=>match om[h]? with
  |some (.ins C fs)=>some (C,fs)
  |_=>none
 |_=>none
theorem Q2 {F H:Hp} {β:List Addr} {om:List Ob} {w:Wv} {v:V} {C:Addr} {fs:List (Str × Wv)} (M:MOk F H β om) (r:RW F β w v) (e:VU om w=some (C,fs)) :
    ∃h a dx fs',w=.o h∧om[h]?=some (.ins C fs)∧β[h]?=some a∧v=.ref a∧H a=some (.ins C dx fs')∧RK F β fs fs':=by
 cases r with
 |o eb =>
  rename_i h a
  have e:(match om[h]? with|some (.ins C fs)=>some (C,fs)|_=>none)=some (C,fs):=e
  match hx:om[h]?,e with
  |none,e=>exact nomatch e
  |some (.lst _),e=>exact nomatch e
  |some (.exc _),e=>exact nomatch e
  |some (.dz _),e=>exact nomatch e
  |some (.dt _),e=>exact nomatch e
  |some (.dk kvs),e=>exact nomatch e
  |some (.ins C' fs'),e =>
   have e:some (C',fs')=some (C,fs):=e
   cases e
   obtain ⟨a',ea,_,dx,fs2,hxs,rs⟩:=M.at hx
   have ea2:=ea
   rw[eb]at ea; cases ea
   exact ⟨h,_,dx,fs2,rfl,hx,ea2,rfl,hxs,rs⟩
 |_=>exact nomatch e
def ZU (C:Addr) (n:Str) (x:Wv):Mw Wv:=fun om=>match VU om x with
 |some (C',fs)=>if C'=C then (match fs.lookup n with|some w=>some (.ok w,om)|none=>none) else none
 |none=>none
theorem ZP {C:Addr} {n:Str} (cl:Cls X.K C) (na:NoAttr X.K C n) (he:PE X e (tE E f)) (hb:attributeBase e n X.env (eval e X.env)=eval e X.env:=by rfl):PE X (.Attribute e n pos) (tE E (f1 (ZU C n) f)):=(DS he hb).weak fun σ H Q h=>by
 refine Hj (r:=fun x H1 Q=>∃a C dx fs v,x=.ref a∧H1 a=some (.ins C dx fs)∧Cls X.K C∧NoAttr X.K C n∧fs.lookup n=some v∧Q v H1) ?_ h
 intro F H β om x v Q M rx R
 unfold ZU at R
 match hx:VU om x,R with
 |none,R=>exact R.elim
 |some (C',fs),R =>
  dsimp only at R
  by_cases hc:C'=C
  ·have R1:Res E (match fs.lookup n with|some w=>some (Except.ok w,om)|none=>none) F H β (PV Q):=by
    have:=R
    rw[if_pos hc]at this
    exact this
   clear R
   subst hc
   obtain ⟨h,a,dx,fs',_,_,_,rfl,ha,rs⟩:=Q2 M rx hx
   have lk:=rs.lookup (k:=n)
   match hl:fs.lookup n,R1,lk with
   |none,R,_=>exact R.elim
   |some w,R,⟨v,ev,rv⟩=>exact ⟨a,C',dx,fs',v,rfl,ha,cl,na,ev,(show Res E (ret w om) F H β (PV Q) from R).now M v rv⟩
  ·rw[if_neg hc]at R; exact R.elim
def VZ (E:XK) (r:List V->Hp->VK->Prop) (k:List Wv->Mw Wv):Prop:=∀{F H:Hp} {β:List Addr} {om:List Ob} {ws:List Wv} {vs:List V} {Q:VK},MOk F H β om->RWs F β ws vs->Res E (k ws om) F H β (PV Q)->r vs H Q
theorem Aq {r:List V->Hp->VK->Prop} {k:List Wv->Mw Wv} (hk:VZ E r k) {σ:St} {H:Hp} {Q:VK} (h:tE E (fA k fs) σ H Q):tCB r (tA E fs) σ H Q:=by
 obtain ⟨F,β,om,sl,M,V,R⟩:=h
 exact ⟨F,β,om,sl,M,V,R.bind fun ws om1 F1 H1 β1 g1 M1 R1 vs rs=>hk M1 rs R1⟩
theorem W0 {id:String} {x:Str} {p:Pos} {r:List V->Hp->VK->Prop} {k:List Wv->Mw Wv} (hc:CallR X (.builtin id) r) (hk:VZ E r k) (hg:Gl X x) (hm:X.mg x=none) (hv:bootBuiltins x=some (.builtin id)) (ha:PA X (e::es) (tA E fs)) (hn:x≠"__name__":=by decide) (hdb:(x == ("__debug__":Str))=false:=by decide)
    (he:starEach (e::es) X.env=(false,eval e X.env)::starEach es X.env:=by rfl) (hpl:(backTo pos (starEach es X.env)).any (·.1)=false:=by rfl):PE X (.Call (.Name x p) (e::es) [] pos) (tE E (fA k fs)):=(Qc hc hg hm hv ha hn hdb he hpl).weak fun _ _ _ h=>Aq hk h
theorem KO {T:String} {x:Str} {p:Pos} {r:List V->Hp->VK->Prop} {k:List Wv->Mw Wv} (hc:CallR X (.type T) r) (hk:VZ E r k) (hg:Gl X x) (hm:X.mg x=none) (hv:bootBuiltins x=some (.type T)) (ha:PA X (e::es) (tA E fs)) (hn:x≠"__name__":=by decide) (hdb:(x == ("__debug__":Str))=false:=by decide)
    (he:starEach (e::es) X.env=(false,eval e X.env)::starEach es X.env:=by rfl) (hpl:(backTo pos (starEach es X.env)).any (·.1)=false:=by rfl):PE X (.Call (.Name x p) (e::es) [] pos) (tE E (fA k fs)):=(Tp hc hg hm hv ha hn hdb he hpl).weak fun _ _ _ h=>Aq hk h
def UM (ws:List Wv):Mw Wv:=fun om=>match ws with
 |[x]=>match Xs om x with
  |some us=>some (.ok (.int us.length),om)
  |none=>match x with
   |.o h=>match om[h]? with
    |some (.dk kvs)=>some (.ok (.int kvs.length),om)
    |_=>none
   |_=>none
 |_=>none
theorem K2:VZ E (fun xs H Q=>(∃p ys,xs=[.ref p]∧(SqL X.K H p ys∨SqT X.K H p ys)∧Q (.int ys.length) H)∨∃a kvs,xs=[V.ref a]∧H a=some (.dK kvs)∧Q (.int kvs.length) H) UM:=by
 intro F H β om ws vs Q M rs R
 match ws,rs,R with
 |[],_,R=>exact R.elim
 |_::_::_,_,R=>exact R.elim
 |[x],.cons rx .nil,R =>
  unfold UM at R
  dsimp only at R
  match hx:Xs om x,R with
  |some us,R =>
   obtain ⟨p,xs,rfl,hs,r2⟩:=Ti (X:=X) M rx hx
   refine .inl ⟨p,xs,rfl,hs,?_⟩
   rw[← r2.length]
   exact (show Res E (ret (Wv.int _) om) F H β (PV Q) from R).now M _ (.int _)
  |none,R =>
   cases rx with
   |@o h a eb =>
    have R:Res E (match om[h]? with|some (.dk kvs)=>some (Except.ok (Wv.int kvs.length),om)|_=>none) F H β (PV Q):=R
    match hy:om[h]?,R with
    |none,R=>exact R.elim
    |some (.ins _ _),R=>exact R.elim
    |some (.exc _),R=>exact R.elim
    |some (.dz _),R=>exact R.elim
    |some (.dt _),R=>exact R.elim
    |some (.lst _),R=>exact R.elim
    |some (.dk kvs),R =>
     obtain ⟨a',ea,_,ks,hk,r2⟩:=M.at hy
     rw[eb]at ea; cases ea
     refine .inr ⟨_,ks,rfl,hk,?_⟩
     rw[← r2.length]
     exact (show Res E (ret (Wv.int _) om) F H β (PV Q) from R).now M _ (.int _)
   |_=>exact R.elim
theorem RZ {p:Pos} (hg:Gl X "len") (hm:X.mg "len"=none) (ha:PA X [e] (tA E fs)) (he:starEach [e] X.env=(false,eval e X.env)::starEach [] X.env:=by rfl) (hpl:(backTo pos (starEach [] X.env)).any (·.1)=false:=by rfl) :
    PE X (.Call (.Name "len" p) [e] [] pos) (tE E (fA UM fs)):=W0 (Oz.or Jv) (K2 (X:=X)) hg hm PySem.boot_len ha (by decide) (by decide) he hpl
end
end
end L2
namespace L2
noncomputable section
open PySem PySem.Spec PyProof.Rows
section
variable {X:Cx} {E:XK} {e a b c o:Expr} {es:List Expr} {f fa fb fc fo:FE} {fs:FA} {pos p2 p p':Pos}
def spM (n:Nat) (g:List Wv->Mw Wv):Sp:=fun vs H Q E=>∃F β om ws,MOk F H β om∧RWs F β ws vs∧ws.length=n∧Res E (g ws om) F H β (PV Q)
def kN (n:Nat) (g:List Wv->Mw Wv) (ws:List Wv):Mw Wv:=bnd (chk (decide (ws.length=n))) fun _=>g ws
theorem P9 {n:Nat} {g:List Wv->Mw Wv} {F H:Hp} {β:List Addr} {om:List Ob} {ws:List Wv} {vs:List V} {Q:VK} (M:MOk F H β om) (rs:RWs F β ws vs) (R:Res E (kN n g ws om) F H β (PV Q)):spM n g vs H Q E:=by
 obtain ⟨hc,R⟩:=Res.chk R
 exact ⟨F,β,om,ws,M,rs,of_decide_eq_true hc,R⟩
variable {CX:CXT} {k n:Nat} {fn C:Addr} {fd:FuncData} {ps:List Str} {g:List Wv->Mw Wv} {x m:Str}
theorem ZN (G:FnOk X.prog X.w X.K X.mg X.base CX k fn fd ps (spM n g)) (hr:Room k X.A) (hg:Gl X x) (hm:X.mg x=some (.ref fn)) (hk:PySem.W.keepIn X.K (.ref fn)=true) (hb:Binds X.K fd ps []) (hx:XR CX X E)
    (ha:PA X (e::es) (tA E fs)) (hdb:(x == ("__debug__":Str))=false:=by decide) (he:starEach (e::es) X.env=(false,eval e X.env)::starEach es X.env:=by rfl) (hpl:(backTo pos (starEach es X.env)).any (·.1)=false:=by rfl) :
    PE X (.Call (.Name x p) (e::es) [] pos) (tE E (fA (kN n g) fs)):=(Gu G hr hg hm hk hb .nil hx ha hdb he hpl).weak fun σ H Q ⟨F,β,om,sl,M,V,R⟩=>by
 refine ⟨F,β,om,sl,M,V,R.bind fun ws om1 F1 H1 β1 g1 M1 R1 vs rs=>?_⟩
 show spM n g (vs++[]) H1 Q E
 rw[List.append_nil]
 exact P9 M1 rs R1
def Ea (C:Addr) (m:Str) (x:Wv):Mw Unit:=fun om=>match VU om x with
 |some (C',fs)=>if C'=C∧fs.lookup m=none then some (.ok (),om) else none
 |none=>none
theorem N3 {γ:Type} {k:Unit->Mw γ} {F H:Hp} {β:List Addr} {om:List Ob} {w:Wv} {v:V} {P:γ->Hp->Hp->List Addr->Prop} (M:MOk F H β om) (r:RW F β w v) (R:Res E (bnd (Ea C m w) k om) F H β P) :
    ∃a dx fs',v=.ref a∧H a=some (.ins C dx fs')∧fs'.lookup m=none∧Res E (k () om) F H β P:=by
 unfold bnd Ea at R
 match hx:VU om w,R with
 |none,R=>exact R.elim
 |some (C',fs),R =>
  dsimp only at R
  by_cases hc:C'=C∧fs.lookup m=none
  ·have R1:Res E (k () om) F H β P:=by
    have:=R
    rw[if_pos hc]at this
    exact this
   clear R
   obtain ⟨h,a,dx,fs',_,_,_,rfl,ha,rs⟩:=Q2 M r hx
   obtain ⟨rfl,hl⟩:=hc
   have lk:=rs.lookup (k:=m)
   rw[hl]at lk
   exact ⟨a,dx,fs',rfl,ha,lk,R1⟩
  ·rw[if_neg hc]at R; exact R.elim
def Zq (C:Addr) (m:Str) (n:Nat) (g:List Wv->Mw Wv) (fo:FE) (fs:FA):FE:=fun sl=>bnd (fo sl) fun x=>bnd (Ea C m x) fun _=>bnd (fs sl) fun ws=>kN n g (x::ws)
theorem GM {dvs:List V} {σ:St} {H:Hp} {Q:VK} (h:tE E (Zq C m n g fo fs) σ H Q):HJ C m (spM n g) [] E (tE E fo) (tA E fs) σ H Q:=by
 obtain ⟨F,β,om,sl,M,V,R⟩:=h
 refine ⟨F,β,om,sl,M,V,R.bind fun x om1 F1 H1 β1 g1 M1 R1 v rv=>?_⟩
 obtain ⟨a,dx,fs',rfl,ha,hl,R2⟩:=N3 M1 rv R1
 refine ⟨a,dx,fs',rfl,ha,hl,F1,β1,om1,sl,M1,V.mono g1.toGr,R2.bind fun ws om3 F3 H3 β3 g3 M3 R3 vs rs=>?_⟩
 show spM n g (L2.V.ref a::(vs++[])) H3 Q E
 rw[List.append_nil]
 exact P9 M3 (.cons (rv.mono g3.toGr) rs) R3
theorem ZA {pl:Sem Bool} {apos:Pos} (ho:PE X o (tE E fo)) (c:Cls X.K C) (hm:Meth X.K C m fn) (G:FnOk X.prog X.w X.K X.mg X.base CX k fn fd ps (spM n g)) (hr:Room k X.A) (hb:Binds X.K fd ps []) (hx:XR CX X E) (ha:PA X (e::es) (tA E fs))
    (hst:starEach (e::es) X.env=(false,eval e X.env)::starEach es X.env:=by rfl) (hpl:(backTo pos (starEach es X.env)).any (·.1)=false:=by rfl)
    (ht:eval (.Call (.Attribute o m apos) (e::es) [] pos) X.env=(do
     let ov ← eval o X.env
     standAt apos.atName
     let (f,first) ← holding [ov] (getMethod ov m pl)
     callWith pos f first (backTo pos (starEach (e::es) X.env)) (backToKw pos (keywordEach [] X.env))):=by rfl) :
    PE X (.Call (.Attribute o m apos) (e::es) [] pos) (tE E (Zq C m n g fo fs)):=(GQ ho c hm G hr hb .nil hx ha hst hpl ht).weak fun σ H Q h=>GM (dvs:=[]) h
theorem Y2 {pl:Sem Bool} {apos:Pos} (ho:PE X o (tE E fo)) (c:Cls X.K C) (hm:Meth X.K C m fn) (G:FnOk X.prog X.w X.K X.mg X.base CX k fn fd ps (spM n g)) (hr:Room k X.A) (hb:Binds X.K fd ps []) (hx:XR CX X E)
    (ht:eval (.Call (.Attribute o m apos) [] [] pos) X.env=(do
     let ov ← eval o X.env
     standAt apos.atName
     let (f,first) ← holding [ov] (getMethod ov m pl)
     callWith pos f first (backTo pos (starEach [] X.env)) (backToKw pos (keywordEach [] X.env))):=by rfl) :
    PE X (.Call (.Attribute o m apos) [] [] pos) (tE E (Zq C m n g fo Zk)):=(Hi ho c hm G hr hb .nil hx (ht:=ht)).weak fun σ H Q ⟨F,β,om,sl,M,V,R⟩=>by
 refine ⟨F,β,om,sl,M,V,R.bind fun x om1 F1 H1 β1 g1 M1 R1 v rv=>?_⟩
 obtain ⟨a,dx,fs',rfl,ha,hl,R2⟩:=N3 M1 rv R1
 exact ⟨a,dx,fs',rfl,ha,hl,P9 M1 (.cons rv .nil) R2⟩
def YY (C:Addr) (n:Nat) (g:List Wv->Mw Wv) (ws:List Wv):Mw Wv:=fun om=>bnd (kN n g (.o om.length::ws)) (fun r=>match r with|.non=>ret (.o om.length)|_=>XN) (om++[.ins C []])
theorem MOk.newU {F H:Hp} {β:List Addr} {om:List Ob} {p:Addr} {o:HO} (M:MOk F H β om) (hp:H p=none):MOk F (upd H p o) β om:=by
 have ne:∀(h:Nat) (a:Addr),β[h]?=some a->a≠p:=fun h a e z=>by
  obtain ⟨y,hy⟩:=M.there e
  rw[z,hp]at hy; cases hy
 exact ⟨fun b u e=>by rw[Zr (ZR (M.sub _ _ e) hp)]; exact M.sub b u e,M.nd,M.len,M.free,fun h a x e1 e2=>(M.ob h a x e1 e2).mono (Gr.refl _ _) (Zr (ne h a e1))⟩
theorem Dt {F H:Hp} {β:List Addr} {om:List Ob} {ws:List Wv} {vs:List V} {Q:VK} {y dx:Addr} (M:MOk F H β om) (rs:RWs F β ws vs) (R:Res E (YY C n g ws om) F H β (PV Q)) (hx:H y=none) (hdx:H dx=none) (hne:dx≠y) :
    spM n g (.ref y::(vs++[])) (upd (upd H dx (.own y)) y (.ins C dx [])) (fun v H2=>v=.non∧Q (.ref y) H2) E:=by
 have M1:=M.newU (o:=.own y) hdx
 have g0:=M.gxU (o:=.own y) hdx
 obtain ⟨g2,M2,e2⟩:=M1.newOx (p:=y) (o:=.ins C dx []) (x:=.ins C []) (by rw[Zr hne.symm]; exact hx) fun β' _=>⟨dx,[],Zu,.nil⟩
 rw[List.append_nil]
 refine P9 M2 (.cons (.o e2) (rs.mono g2.toGr)) ((Res.mono (g0.trans g2) R).bind fun r om3 F3 H3 β3 g3 M3 R3 v rv=>?_)
 cases rv with
 |non=>exact ⟨rfl,(show Res E (ret (Wv.o om.length) om3) F3 H3 β3 (PV Q) from R3).now M3 _ (.o (g3.pre _ _ e2))⟩
 |_=>exact R3.elim
theorem VE (Mk':Mk X.K C fn) (G:FnOk X.prog X.w X.K X.mg X.base CX k fn fd ps (spM n g)) (hr:Room (k+1) X.A) (hg:Gl X x) (hm:X.mg x=some (.ref C)) (hb:Binds X.K fd ps []) (hx:XR CX X E)
    (ha:PA X (e::es) (tA E fs)) (hdb:(x == ("__debug__":Str))=false:=by decide) (he:starEach (e::es) X.env=(false,eval e X.env)::starEach es X.env:=by rfl) (hpl:(backTo pos (starEach es X.env)).any (·.1)=false:=by rfl) :
    PE X (.Call (.Name x p) (e::es) [] pos) (tE E (fA (YY C n g) fs)):=(Fo Mk' G hr hg hm hb .nil hx ha hdb he hpl).weak fun σ H Q ⟨F,β,om,sl,M,V,R⟩ =>
 ⟨F,β,om,sl,M,V,R.bind fun ws om1 F1 H1 β1 g1 M1 R1 vs rs y dx h1 h2 h3=>Dt M1 rs R1 h1 h2 h3⟩
def UU (om:List Ob):Wv->Option (Nat × List Wv)
 |.o h=>match om[h]? with
  |some (.lst ws)=>some (h,ws)
  |_=>none
 |_=>none
theorem Tn {F H:Hp} {β:List Addr} {om:List Ob} {w:Wv} {v:V} {h:Nat} {ws:List Wv} (M:MOk F H β om) (r:RW F β w v) (e:UU om w=some (h,ws)) :
    ∃a xs,w=.o h∧om[h]?=some (.lst ws)∧β[h]?=some a∧v=.ref a∧H a=some (.lst xs)∧RWs F β ws xs:=by
 cases r with
 |@o h' a eb =>
  have e:(match om[h']? with|some (.lst ws)=>some (h',ws)|_=>none)=some (h,ws):=e
  match hx:om[h']?,e with
  |none,e=>exact nomatch e
  |some (.ins _ _),e=>exact nomatch e
  |some (.exc _),e=>exact nomatch e
  |some (.dz _),e=>exact nomatch e
  |some (.dt _),e=>exact nomatch e
  |some (.dk kvs),e=>exact nomatch e
  |some (.lst us),e =>
   have e:some (h',us)=some (h,ws):=e
   cases e
   obtain ⟨a',ea,_,xs,hxs,rs⟩:=M.at hx
   have ea2:=ea
   rw[eb]at ea; cases ea
   exact ⟨_,xs,rfl,hx,ea2,rfl,hxs,rs⟩
 |_=>exact nomatch e
def Fa (x:Wv):Mw Unit:=fun om=>match UU om x with
 |some _=>some (.ok (),om)
 |none=>none
theorem HS {γ:Type} {k:Unit->Mw γ} {F H:Hp} {β:List Addr} {om:List Ob} {w:Wv} {v:V} {P:γ->Hp->Hp->List Addr->Prop} (M:MOk F H β om) (r:RW F β w v) (R:Res E (bnd (Fa w) k om) F H β P) :
    tyV X.K "list" v H∧Res E (k () om) F H β P:=by
 unfold bnd Fa at R
 match hx:UU om w,R with
 |none,R=>exact R.elim
 |some (h,ws),R =>
  obtain ⟨a,xs,_,_,_,rfl,ha,_⟩:=Tn M r hx
  exact ⟨.inl ⟨rfl,xs,SqL.of ha⟩,R⟩
end
end
end L2
namespace L2
noncomputable section
open PySem PySem.Spec PyProof.Rows
def YE:Wv->Option Key
 |.int i=>some (.inl i)
 |.str x=>some (.inr x)
 |_=>none
def X4:List Wv->Option (List Key)
 |[]=>some []
 |w::r=>match YE w,X4 r with
  |some k,some ks=>some (k::ks)
  |_,_=>none
theorem VN {F:Hp} {β:List Addr} {w:Wv} {v:V} {k:Key} (r:RW F β w v) (e:YE w=some k):v=kV k:=by
 cases r <;> first|(cases e; rfl)|exact nomatch e
theorem Uz {F:Hp} {β:List Addr}:∀{ws:List Wv} {vs:List V} {ks:List Key},RWs F β ws vs->X4 ws=some ks->vs=ks.map kV
 |_,_,_,.nil,e=>by unfold X4 at e; cases e; rfl
 |_,_,_,.cons (w:=w) (ws:=ws) h r,e=>by
  unfold X4 at e
  match h1:YE w,h2:X4 ws,e with
  |some k,some ks,e =>
   have e:some (k::ks)=some _:=e
   cases e
   rw[List.map_cons,← VN h h1,← Uz r h2]
  |some k,none,e=>exact nomatch e
  |none,_,e=>exact nomatch e
section
variable {κ:Type} [DecidableEq κ]
def WP (kvs:List (κ × Wv)) (k:κ):Option Wv:=(kvs.find? fun kv=>decide (kv.1=k)).map (·.2)
def XX (kvs:List (κ × Wv)) (k:κ) (v:Wv):List (κ × Wv) :=
 if (kvs.any fun kv=>decide (kv.1=k))=true then kvs.map (fun kv=>if kv.1=k then (kv.1,v) else kv) else kvs++[(k,v)]
variable {F:Hp} {β:List Addr}
def ROp (F:Hp) (β:List Addr) (o:Option Wv) (u:Option V):Prop:=match o with
 |some w=>∃v,u=some v∧RW F β w v
 |none=>u=none
theorem RK.val:∀{ps:List (κ × Wv)} {qs:List (κ × V)},RK F β ps qs->∀k,ROp F β (WP ps k) (UJ qs k)
 |_,_,.nil,_=>rfl
 |_,_,.cons (k:=k') h r,k=>by
  unfold WP UJ
  rw[List.find?_cons,List.find?_cons]
  by_cases hk:k'=k
  ·simp only[hk,decide_true]; exact ⟨_,rfl,h⟩
  ·simp only[hk,decide_false]; exact RK.val r k
theorem RK.any:∀{ps:List (κ × Wv)} {qs:List (κ × V)},RK F β ps qs->∀k,(ps.any fun kv=>decide (kv.1=k))=(qs.any fun kv=>decide (kv.1=k))
 |_,_,.nil,_=>rfl
 |_,_,.cons (k:=k') h r,k=>by rw[List.any_cons,List.any_cons,RK.any r k]
theorem RK.repl {k:κ} {w:Wv} {v:V} (h:RW F β w v):∀{ps:List (κ × Wv)} {qs:List (κ × V)},RK F β ps qs->RK F β (ps.map fun kv=>if kv.1=k then (kv.1,w) else kv) (qs.map fun kv=>if kv.1=k then (kv.1,v) else kv)
 |_,_,.nil=>.nil
 |_,_,.cons (k:=k') h' r=>by
  rw[List.map_cons,List.map_cons]
  by_cases hk:k'=k
  ·simp only[hk,if_true]; exact .cons h (RK.repl h r)
  ·simp only[hk,if_false]; exact .cons h' (RK.repl h r)
theorem RK.append:∀{ps:List (κ × Wv)} {qs:List (κ × V)} {ps':List (κ × Wv)} {qs':List (κ × V)},RK F β ps qs->RK F β ps' qs'->RK F β (ps++ps') (qs++qs')
 |_,_,_,_,.nil,s=>s
 |_,_,_,_,.cons h r,s=>.cons h (RK.append r s)
theorem RK.put {ps:List (κ × Wv)} {qs:List (κ × V)} {k:κ} {w:Wv} {v:V} (r:RK F β ps qs) (h:RW F β w v):RK F β (XX ps k w) (UP qs k v):=by
 unfold XX UP
 rw[r.any k]
 by_cases hc:(qs.any fun kv=>decide (kv.1=k))=true
 ·rw[if_pos hc,if_pos hc]; exact r.repl h
 ·rw[if_neg hc,if_neg hc]; exact r.append (.cons h .nil)
end
def XB (om:List Ob) (d key:Wv):Option (Option Wv):=match d with
 |.o h=>match om[h]? with
  |some (.dk kvs)=>match YE key with
   |some k=>some (WP kvs k)
   |none=>none
  |some (.dz kvs)=>match YE key with
   |some k=>some (WP kvs k)
   |none=>none
  |some (.dt kvs)=>match key with
   |.tup ws=>match X4 ws with
    |some ks=>some (WP kvs ks)
    |none=>none
   |_=>none
  |_=>none
 |_=>none
theorem WY {F H:Hp} {β:List Addr} {om:List Ob} {d key:Wv} {vd vk:V} {r:Option Wv} (M:MOk F H β om) (rd:RW F β d vd) (rk:RW F β key vk) (e:XB om d key=some r):∃a o,vd=.ref a∧DGet H a vk o∧ROp F β r o:=by
 cases rd with
 |@o h a eb =>
  unfold XB at e
  dsimp only at e
  match hx:om[h]?,e with
  |none,e=>exact nomatch e
  |some (.ins _ _),e=>exact nomatch e
  |some (.exc _),e=>exact nomatch e
  |some (.lst _),e=>exact nomatch e
  |some (.dk kvs),e =>
   obtain ⟨a',ea,_,ks,hk,rs⟩:=M.at hx
   rw[eb]at ea; cases ea
   dsimp only at e
   match h1:YE key,e with
   |none,e=>exact nomatch e
   |some k,e =>
    have e:some (WP kvs k)=some r:=e
    cases e
    rw[VN rk h1]
    exact ⟨_,_,rfl,DGet.k hk,rs.val k⟩
  |some (.dz kvs),e =>
   obtain ⟨a',ea,_,ob,ks,hk,rs⟩:=M.at hx
   rw[eb]at ea; cases ea
   dsimp only at e
   match h1:YE key,e with
   |none,e=>exact nomatch e
   |some k,e =>
    have e:some (WP kvs k)=some r:=e
    cases e
    rw[VN rk h1]
    exact ⟨_,_,rfl,.inl ⟨ks,k,.inr ⟨ob,hk⟩,rfl,rfl⟩,rs.val k⟩
  |some (.dt kvs),e =>
   obtain ⟨a',ea,_,ks,hk,rs⟩:=M.at hx
   rw[eb]at ea; cases ea
   dsimp only at e
   cases rk with
   |@tup b xs ws q rw' =>
    dsimp only at e
    match h1:X4 ws,e with
    |none,e=>exact nomatch e
    |some k,e =>
     have e:some (WP kvs k)=some r:=e
     cases e
     have hb:=M.sub _ _ q
     rw[Uz rw' h1]at hb
     exact ⟨_,_,rfl,DGet.t hk hb,rs.val k⟩
   |_=>exact nomatch e
 |_=>unfold XB at e; cases e
def Qk (om:List Ob) (d key w:Wv):Option (List Ob):=match d with
 |.o h=>match om[h]? with
  |some (.dk kvs)=>match YE key with
   |some k=>if kvs.length < lim then some (om.set h (.dk (XX kvs k w))) else none
   |none=>none
  |some (.dt kvs)=>match key with
   |.tup ws=>match X4 ws with
    |some ks=>if kvs.length < lim then some (om.set h (.dt (XX kvs ks w))) else none
    |none=>none
   |_=>none
  |_=>none
 |_=>none
theorem IE {F H:Hp} {β:List Addr} {om om':List Ob} {d key w:Wv} {vd vk v:V} (M:MOk F H β om) (rd:RW F β d vd) (rk:RW F β key vk) (rw':RW F β w v) (e:Qk om d key w=some om'):∃a H',vd=.ref a∧DPut H a vk v H'∧Gx F F H H' β β∧MOk F H' β om':=by
 have hlim:=Uy
 cases rd with
 |@o h a eb =>
  unfold Qk at e
  dsimp only at e
  match hx:om[h]?,e with
  |none,e=>exact nomatch e
  |some (.ins _ _),e=>exact nomatch e
  |some (.exc _),e=>exact nomatch e
  |some (.dz _),e=>exact nomatch e
  |some (.lst _),e=>exact nomatch e
  |some (.dk kvs),e =>
   obtain ⟨a',ea,_,ks,hk,rs⟩:=M.at hx
   have eb2:=ea
   rw[eb]at ea; cases ea
   dsimp only at e
   match h1:YE key,e with
   |none,e=>exact nomatch e
   |some k,e =>
    have e:(if kvs.length < lim then some (om.set h (.dk (XX kvs k w))) else none)=some om':=e
    by_cases hc:kvs.length < lim
    ·rw[if_pos hc]at e
     cases e
     rw[VN rk h1]
     have:=rs.length
     exact ⟨_,_,rfl,DPut.k hk (by omega),M.gxP eb2 (nz hk),M.put eb2 ⟨_,Zu,rs.put rw'⟩⟩
    ·rw[if_neg hc]at e; exact nomatch e
  |some (.dt kvs),e =>
   obtain ⟨a',ea,_,ks,hk,rs⟩:=M.at hx
   have eb2:=ea
   rw[eb]at ea; cases ea
   dsimp only at e
   cases rk with
   |@tup b xs ws q rw2 =>
    dsimp only at e
    match h1:X4 ws,e with
    |none,e=>exact nomatch e
    |some k,e =>
     have e:(if kvs.length < lim then some (om.set h (.dt (XX kvs k w))) else none)=some om':=e
     by_cases hc:kvs.length < lim
     ·rw[if_pos hc]at e
      cases e
      have hb:=M.sub _ _ q
      rw[Uz rw2 h1]at hb
      have:=rs.length
      exact ⟨_,_,rfl,DPut.t hk hb (by omega),M.gxP eb2 (nz hk),M.put eb2 ⟨_,Zu,rs.put rw'⟩⟩
     ·rw[if_neg hc]at e; exact nomatch e
   |_=>exact nomatch e
 |_=>unfold Qk at e; cases e
def Xu (d key:Wv):Mw Wv:=fun om=>match XB om d key with
 |some (some w)=>some (.ok w,om)
 |_=>none
def X8 (neg:Bool) (key d:Wv):Mw Wv:=fun om=>match XB om d key with
 |some r=>some (.ok (.bl (if neg then !r.isSome else r.isSome)),om)
 |none=>none
def isD (om:List Ob):Wv->Bool
 |.o h=>match om[h]? with
  |some (.dk _)=>true
  |some (.dz _)=>true
  |some (.dt _)=>true
  |_=>false
 |_=>false
def Qo (x:Wv):Mw Unit:=fun om=>if isD om x=true then some (.ok (),om) else none
def LV (d key:Wv):Mw Wv:=fun om=>match XB om d key with
 |some r=>some (.ok (r.getD .non),om)
 |none=>none
def Sd (d key z:Wv):Mw Wv:=fun om=>match XB om d key with
 |some r=>some (.ok (r.getD z),om)
 |none=>none
def Nv (fd fk:FE):FE:=fun sl=>bnd (fd sl) fun d=>bnd (Qo d) fun _=>bnd (fk sl) fun k=>LV d k
def Ry (fd fk fz:FE):FE:=fun sl=>bnd (fd sl) fun d=>bnd (Qo d) fun _=>bnd (fk sl) fun k=>bnd (fz sl) fun z=>Sd d k z
section
variable {X:Cx} {E:XK} {e a b c o i:Expr} {fd fk fz:FE} {pos p2 p apos cpos:Pos}
theorem ROp.isSome {F:Hp} {β:List Addr} {r:Option Wv} {o:Option V} (h:ROp F β r o):r.isSome=o.isSome:=by
 match r,h with
 |some w,⟨v,e,_⟩=>rw[e]; rfl
 |none,h=>rw[show o=none from h]; rfl
theorem ROp.getD {F:Hp} {β:List Addr} {r:Option Wv} {o:Option V} {w:Wv} {v:V} (h:ROp F β r o) (q:RW F β w v):RW F β (r.getD w) (o.getD v):=by
 match r,h with
 |some w,⟨v,e,h⟩=>rw[e]; exact h
 |none,h=>rw[show o=none from h]; exact q
theorem Wu (hu:X.A.units+64 < cLine) (ho:PE X o (tE E fd)) (hi:PE X i (tE E fk)) (hs:DX i:=by intro _ _; rfl):PE X (.Subscript o i pos) (tE E (f2 Xu fd fk)):=(Eb (by omega) ho hi hs).weak fun σ H Q h=>by
 refine OM (r:=fun x y H2 Q=>∃a v,x=.ref a∧DGet H2 a y (some v)∧Q v H2) ?_ h
 intro F H β om x y v u Q M rx ry R
 unfold Xu at R
 match hx:XB om x y,R with
 |none,R=>exact R.elim
 |some none,R=>exact R.elim
 |some (some w),R =>
  obtain ⟨a,o',rfl,hg,z,rfl,rz⟩:=WY M rx ry hx
  exact ⟨a,z,rfl,hg,(show Res E (ret w om) F H β (PV Q) from R).now M _ rz⟩
theorem Cq (hu:X.A.units+64 < cLine) (hi:PE X i (tE E fk)) (ho:PE X o (tE E fd)) (h1:behindInMarks .In o=false:=by with_unfolding_all rfl):PE X (.Compare i [.In] [o] pos) (tE E (f2 (X8 false) fk fd)):=(Gh (Ib (by omega) hi ho) h1).weak fun σ H Q h=>by
 refine OM (r:=fun y x H2 Q=>∃a o,x=.ref a∧DGet H2 a y o∧Q (.bl o.isSome) H2) ?_ h
 intro F H β om y x u v Q M ry rx R
 unfold X8 at R
 match hx:XB om x y,R with
 |none,R=>exact R.elim
 |some r,R =>
  obtain ⟨a,o',rfl,hg,ro⟩:=WY M rx ry hx
  refine ⟨a,o',rfl,hg,?_⟩
  rw[← ro.isSome]
  exact (show Res E (ret (Wv.bl r.isSome) om) F H β (PV Q) from R).now M _ (.bl _)
theorem MY (hu:X.A.units+64 < cLine) (hi:PE X i (tE E fk)) (ho:PE X o (tE E fd)) (h1:behindInMarks .In o=false:=by with_unfolding_all rfl):PT X (.Compare i [.In] [o] pos) (tT E (fB (f2 (X8 false) fk fd))):=(P4 (Ib (by omega) hi ho) h1).weak fun σ H Q h=>by
 refine OM (r:=fun y x H2 Q=>∃a o,x=.ref a∧DGet H2 a y o∧Q (.bl o.isSome) H2) ?_ (Hl h)
 intro F H β om y x u v Q M ry rx R
 unfold X8 at R
 match hx:XB om x y,R with
 |none,R=>exact R.elim
 |some r,R =>
  obtain ⟨a,o',rfl,hg,ro⟩:=WY M rx ry hx
  refine ⟨a,o',rfl,hg,?_⟩
  rw[← ro.isSome]
  exact (show Res E (ret (Wv.bl r.isSome) om) F H β (PV Q) from R).now M _ (.bl _)
theorem Oj (hu:X.A.units+64 < cLine) (hi:PE X i (tE E fk)) (ho:PE X o (tE E fd)) (h1:behindInMarks .NotIn o=false:=by with_unfolding_all rfl):PT X (.Compare i [.NotIn] [o] pos) (tT E (fB (f2 (X8 true) fk fd))):=(P4 (KM (by omega) hi ho) h1).weak fun σ H Q h=>by
 refine OM (r:=fun y x H2 Q=>∃a o,x=.ref a∧DGet H2 a y o∧Q (.bl (!o.isSome)) H2) ?_ (Hl h)
 intro F H β om y x u v Q M ry rx R
 unfold X8 at R
 match hx:XB om x y,R with
 |none,R=>exact R.elim
 |some r,R =>
  obtain ⟨a,o',rfl,hg,ro⟩:=WY M rx ry hx
  refine ⟨a,o',rfl,hg,?_⟩
  rw[← ro.isSome]
  exact (show Res E (ret (Wv.bl (!r.isSome)) om) F H β (PV Q) from R).now M _ (.bl _)
theorem O2 {γ:Type} {k:Unit->Mw γ} {F H:Hp} {β:List Addr} {om:List Ob} {w:Wv} {v:V} {P:γ->Hp->Hp->List Addr->Prop} (M:MOk F H β om) (r:RW F β w v) (R:Res E (bnd (Qo w) k om) F H β P):∃a,v=.ref a∧IsD H a∧Res E (k () om) F H β P:=by
 by_cases hc:isD om w=true
 ·have e1:Qo w om=some (.ok (),om):=if_pos hc
  unfold bnd at R
  rw[e1]at R
  have R1:Res E (k () om) F H β P:=R
  clear R
  cases r with
  |@o h a eb =>
   refine ⟨a,rfl,?_,R1⟩
   have hc:(match om[h]? with|some (.dk _)=>true|some (.dz _)=>true|some (.dt _)=>true|_=>false)=true:=hc
   match hx:om[h]?,hc with
   |none,e=>exact nomatch e
   |some (.ins _ _),e=>exact nomatch e
   |some (.exc _),e=>exact nomatch e
   |some (.lst _),e=>exact nomatch e
   |some (.dk kvs),e =>
    obtain ⟨a',ea,_,ks,hk,rs⟩:=M.at hx
    rw[eb]at ea; cases ea
    exact .inl ⟨ks,.inl hk⟩
   |some (.dz kvs),e =>
    obtain ⟨a',ea,_,ob,ks,hk,rs⟩:=M.at hx
    rw[eb]at ea; cases ea
    exact .inl ⟨ks,.inr ⟨ob,hk⟩⟩
   |some (.dt kvs),e =>
    obtain ⟨a',ea,_,ks,hk,rs⟩:=M.at hx
    rw[eb]at ea; cases ea
    exact .inr ⟨ks,.inl hk⟩
  |_=>exact nomatch hc
 ·have e1:Qo w om=none:=if_neg hc
  unfold bnd at R
  rw[e1]at R
  exact R.elim
theorem GI (hu:X.A.units+64 < cLine) (ho:PE X o (tE E fd)) (he:PE X e (tE E fk)) (m:M1 X o "get" apos e cpos:=by exact ⟨rfl,rfl,rfl,rfl⟩):PE X (.Call (.Attribute o "get" apos) [e] [] cpos) (tE E (Nv fd fk)):=(Hc (by omega) ho he m).weak fun σ H Q ⟨F,β,om,sl,M,V,R⟩=>by
 refine ⟨F,β,om,sl,M,V,R.bind fun x om1 F1 H1 β1 g1 M1 R1 v rv=>?_⟩
 obtain ⟨a,rfl,hd,R2⟩:=O2 M1 rv R1
 refine ⟨a,rfl,hd,F1,β1,om1,sl,M1,V.mono g1.toGr,R2.bind fun y om3 F3 H3 β3 g3 M3 R3 u ru=>?_⟩
 unfold LV at R3
 match hx:XB om3 x y,R3 with
 |none,R=>exact R.elim
 |some r,R =>
  obtain ⟨a',o',e,hg,ro⟩:=WY M3 (rv.mono g3.toGr) ru hx
  cases e
  exact ⟨o',hg,(show Res E (ret (r.getD Wv.non) om3) F3 H3 β3 _ from R).now M3 _ (ro.getD .non)⟩
theorem LP {f':Expr} (hu:X.A.units+64 < cLine) (ho:PE X o (tE E fd)) (he:PE X e (tE E fk)) (hf:PE X f' (tE E fz)) (m:M2 X o "get" apos e f' cpos:=by exact ⟨rfl,rfl,rfl,rfl⟩):PE X (.Call (.Attribute o "get" apos) [e,f'] [] cpos) (tE E (Ry fd fk fz)):=(Hr (by omega) ho he hf m).weak fun σ H Q ⟨F,β,om,sl,M,V,R⟩=>by
 refine ⟨F,β,om,sl,M,V,R.bind fun x om1 F1 H1 β1 g1 M1 R1 v rv=>?_⟩
 obtain ⟨a,rfl,hd,R2⟩:=O2 M1 rv R1
 refine ⟨a,rfl,hd,F1,β1,om1,sl,M1,V.mono g1.toGr,R2.bind fun y om3 F3 H3 β3 g3 M3 R3 u ru=>?_⟩
 refine ⟨F3,β3,om3,sl,M3,V.mono (g1.trans g3).toGr,R3.bind fun z om4 F4 H4 β4 g4 M4 R4 zv rz=>?_⟩
 unfold Sd at R4
 match hx:XB om4 x y,R4 with
 |none,R=>exact R.elim
 |some r,R =>
  obtain ⟨a',o',e,hg,ro⟩:=WY M4 (rv.mono (g3.trans g4).toGr) (ru.mono g4.toGr) hx
  cases e
  exact ⟨o',hg,(show Res E (ret (r.getD z) om4) F4 H4 β4 _ from R).now M4 _ (ro.getD rz)⟩
theorem X6:PE X (.Dict [] [] pos) (tE E fun _=>newO (.dk [])):=JR.weak fun σ H Q ⟨F,β,om,sl,M,V,R⟩ p hp=>Res.newO R M hp fun β' _=>⟨[],Zu,.nil⟩
theorem IZ:PE X (.Dict [] [] pos) (tE E fun _=>newO (.dt [])):=J8.weak fun σ H Q ⟨F,β,om,sl,M,V,R⟩ p hp=>Res.newO R M hp fun β' _=>⟨[],Zu,.nil⟩
end
end
end L2
namespace L2
noncomputable section
open PySem PySem.Spec PyProof.Rows
def Y8:FS:=fun sl=>ret (.nx,sl)
def KI (S:FS):Fl × Sl->Mw (Fl × Sl)
 |(.nx,sl)=>S sl
 |x=>ret x
def ZE (S1 S2:FS):FS:=fun sl=>bnd (S1 sl) (KI S2)
def ZO (i:Nat) (f:FE):FS:=fun sl=>bnd (f sl) fun w=>ret (.nx,sl.set i (some w))
def Yg (f:FE):FS:=fun sl=>bnd (f sl) fun _=>ret (.nx,sl)
def Ym (f:FE):FS:=fun sl=>bnd (f sl) fun w=>ret (.rt w,sl)
def sIf (c:FT) (S1 S2:FS):FS:=fun sl=>bnd (c sl) fun b=>if b=true then S1 sl else S2 sl
section
variable {X:Cx} {E:XK} {st:Stmt} {rest:List Stmt} {e:Expr} {f fo fi fv:FE} {S S1 S2:FS} {c:FT} {pos:Pos}
theorem ZY:PSs X [] (tS E Y8):=Gz.weak fun D σ H ⟨F,β,om,sl,M,V,R⟩=>(show Res E (ret (Fl.nx,sl) om) F H β (FlP D) from R).now M σ V
theorem Zi (h1:PS X st (tS E S1)) (h2:PSs X rest (tS E S2)):PSs X (st::rest) (tS E (ZE S1 S2)):=(Iq h1 h2).weak fun D σ H ⟨F,β,om,sl,M,V,R⟩=>by
 refine ⟨F,β,om,sl,M,V,R.bind fun x om1 F1 H1 β1 g1 M1 R1=>?_⟩
 obtain ⟨fl,sl1⟩:=x
 cases fl with
 |nx=>exact fun σ' V'=>⟨F1,β1,om1,sl1,M1,V',R1⟩
 |bk=>exact (show Res E (ret (Fl.bk,sl1) om1) F1 H1 β1 (FlP D) from R1).now M1
 |ct=>exact (show Res E (ret (Fl.ct,sl1) om1) F1 H1 β1 (FlP D) from R1).now M1
 |rt w=>exact (show Res E (ret (Fl.rt w,sl1) om1) F1 H1 β1 (FlP D) from R1).now M1
theorem Zn (h1:PS X st (tS E S1)):PSs X [st] (tS E S1):=GB h1
theorem ZZ {i:Nat} {x:Str} {pos':Pos} (hN:X.N.Nodup) (hi:X.N[i]?=some x) (hx:Loc X.env.scope x) (he:PE X e (tE E f)) (hs:swapsWith e (some (.Name x pos')) pos.line X.env=pure false:=by rfl) (hf:X.fn x=true∨X.env.scope.names.lookup x=some .local:=by first|exact .inl rfl|exact .inr rfl|assumption) :
    PS X (.Assign [.Name x pos'] e pos) (tS E (ZO i f)):=(DL hN hi hx he hs hf).weak fun D σ H ⟨F,β,om,sl,M,V,R⟩ =>
 ⟨F,β,om,sl,M,V,R.bind fun x om1 F1 H1 β1 g1 M1 R1 v rv=>(show Res E (ret (Fl.nx,sl.set i (some x)) om1) F1 H1 β1 (FlP D) from R1).now M1 _ ((V.mono g1.toGr).set i rv)⟩
theorem Yo (he:PE X e (tE E f)) (hs:swapsWith e none pos.line X.env=pure false:=by rfl):PS X (.Expr e pos) (tS E (Yg f)):=(F8 he hs).weak fun D σ H ⟨F,β,om,sl,M,V,R⟩ =>
 ⟨F,β,om,sl,M,V,R.bind fun x om1 F1 H1 β1 g1 M1 R1 v rv=>(show Res E (ret (Fl.nx,sl) om1) F1 H1 β1 (FlP D) from R1).now M1 _ (V.mono g1.toGr)⟩
theorem ZK (he:PE X e (tE E f)):PS X (.Return (some e) pos) (tS E (Ym f)):=(Cp he).weak fun D σ H ⟨F,β,om,sl,M,V,R⟩ =>
 ⟨F,β,om,sl,M,V,R.bind fun x om1 F1 H1 β1 g1 M1 R1 v rv=>(show Res E (ret (Fl.rt x,sl) om1) F1 H1 β1 (FlP D) from R1).now M1 _ rv⟩
theorem B0 {D:Ends} {σ:St} {H:Hp} (h:tS E (sIf c S1 S2) D σ H):Bj (tT E c) (tS E S1) (tS E S2) D σ H:=by
 obtain ⟨F,β,om,sl,M,V,R⟩:=h
 refine ⟨F,β,om,sl,M,V,R.bind fun b om1 F1 H1 β1 g1 M1 R1=>?_⟩
 cases b with
 |true=>rw[if_pos rfl]at R1 ⊢; exact ⟨F1,β1,om1,sl,M1,V.mono g1.toGr,R1⟩
 |false=>rw[if_neg Bool.false_ne_true]at R1 ⊢; exact ⟨F1,β1,om1,sl,M1,V.mono g1.toGr,R1⟩
theorem YN {t:Expr} {a b:List Stmt} (hc:PT X t (tT E c)) (ha:PSs X a (tS E S1)) (hb:PSs X b (tS E S2)):PS X (.If t a b pos) (tS E (sIf c S1 S2)):=(BJ hc ha hb).weak fun D σ H h=>B0 h
def RG (v d k:Wv):Mw Unit:=fun om=>match Qk om d k v with
 |some om'=>some (.ok (),om')
 |none=>none
def YJ (fv fd fk:FE):FS:=fun sl=>bnd (fv sl) fun v=>bnd (fd sl) fun d=>bnd (fk sl) fun k=>bnd (RG v d k) fun _=>ret (.nx,sl)
theorem X0 {o i v:Expr} {p1:Pos} (hu:X.A.units+64 < cLine) (hv:PE X v (tE E fv)) (ho:PE X o (tE E fo)) (hi:PE X i (tE E fi)) (hs:swapsWith v (some (.Subscript o i p1)) pos.line X.env=pure false:=by rfl) :
    PS X (.Assign [.Subscript o i p1] v pos) (tS E (YJ fv fo fi)):=by
 refine (G5 (by omega) ho hi hv hs).weak fun D σ H ⟨F,β,om,sl,M,V,R⟩=>?_
 refine ⟨F,β,om,sl,M,V,R.bind fun x om1 F1 H1 β1 g1 M1 R1 xv rx=>?_⟩
 refine ⟨F1,β1,om1,sl,M1,V.mono g1.toGr,R1.bind fun y om2 F2 H2 β2 g2 M2 R2 yv ry=>?_⟩
 refine ⟨F2,β2,om2,sl,M2,V.mono (g1.trans g2).toGr,R2.bind fun z om3 F3 H3 β3 g3 M3 R3 zv rz=>?_⟩
 unfold bnd RG at R3
 match hx:Qk om3 y z x,R3 with
 |none,R3=>exact R3.elim
 |some om',R3 =>
  obtain ⟨a,H',rfl,hp,gg,MM⟩:=IE M3 (ry.mono g3.toGr) rz (rx.mono (g2.trans g3).toGr) hx
  exact ⟨a,H',rfl,hp,(show Res E (some (Except.ok (Fl.nx,sl),om')) F3 H3 β3 (FlP D) from R3) F3 H' β3 gg MM σ (V.mono (g1.trans (g2.trans g3)).toGr)⟩
def Xo (f:Str) (v:Wv):List (Str × Wv)->List (Str × Wv)
 |[]=>[(f,v)]
 |(g,u)::r=>if g=f then (g,v)::r else (g,u)::Xo f v r
theorem RK.putF {F:Hp} {β:List Addr} {n:Str} {w:Wv} {v:V} (h:RW F β w v):∀{ps:List (Str × Wv)} {qs:List (Str × V)},RK F β ps qs->RK F β (Xo n w ps) (L2.putF n v qs)
 |_,_,.nil=>.cons h .nil
 |_,_,.cons (k:=k') h' r=>by
  unfold Xo L2.putF
  by_cases hk:k'=n
  ·rw[if_pos hk,if_pos hk]; exact .cons h r
  ·rw[if_neg hk,if_neg hk]; exact .cons h' (RK.putF h r)
def Pd (C:Addr) (n:Str) (v x:Wv):Mw Unit:=fun om=>match x with
 |.o h=>match om[h]? with
  |some (.ins C' fs)=>if C'=C∧fs.length < 900 then some (.ok (),om.set h (.ins C' (Xo n v fs))) else none
  |_=>none
 |_=>none
def Y3 (C:Addr) (n:Str) (fv fo:FE):FS:=fun sl=>bnd (fv sl) fun v=>bnd (fo sl) fun x=>bnd (Pd C n v x) fun _=>ret (.nx,sl)
theorem X9 {o v:Expr} {n:Str} {C:Addr} {p1:Pos} (cl:Cls X.K C) (na:NoAttr X.K C n) (hv:PE X v (tE E fv)) (ho:PE X o (tE E fo)) (hs:swapsWith v (some (.Attribute o n p1)) pos.line X.env=pure false:=by rfl) :
    PS X (.Assign [.Attribute o n p1] v pos) (tS E (Y3 C n fv fo)):=by
 refine (D1 ho hv hs).weak fun D σ H ⟨F,β,om,sl,M,V,R⟩=>?_
 refine ⟨F,β,om,sl,M,V,R.bind fun x om1 F1 H1 β1 g1 M1 R1 xv rx=>?_⟩
 refine ⟨F1,β1,om1,sl,M1,V.mono g1.toGr,R1.bind fun y om2 F2 H2 β2 g2 M2 R2 yv ry=>?_⟩
 unfold bnd Pd at R2
 cases ry with
 |@o h a eb =>
  dsimp only at R2
  match hx:om2[h]?,R2 with
  |none,R=>exact R.elim
  |some (.exc _),R=>exact R.elim
  |some (.dz _),R=>exact R.elim
  |some (.lst _),R=>exact R.elim
  |some (.dt _),R=>exact R.elim
  |some (.dk _),R=>exact R.elim
  |some (.ins C' fs),R =>
   obtain ⟨a',ea,_,dx,fs',hf,rs⟩:=M2.at hx
   have eb2:=ea
   rw[eb]at ea; cases ea
   dsimp only at R
   by_cases hc:C'=C∧fs.length < 900
   ·have R5:Res E (some (Except.ok (Fl.nx,sl),om2.set h (.ins C' (Xo n x fs)))) F2 H2 β2 (FlP D):=by
     have:=R
     rw[if_pos hc]at this
     exact this
    obtain ⟨rfl,hl⟩:=hc
    have:=rs.length
    refine ⟨a,C',dx,fs',rfl,hf,cl,na,by omega,?_⟩
    exact R5 F2 _ β2 (M2.gxP eb2 (nz hf)) (M2.put eb2 ⟨dx,_,Zu,rs.putF (rx.mono g2.toGr)⟩) σ (V.mono (g1.trans g2).toGr)
   ·rw[if_neg hc]at R; exact R.elim
 |_=>exact R2.elim
end
def ItC (C:Hp->Prop) (J:It) (ws:List Wv) (F:Hp) (β:List Addr):Prop:=∀F' β' H,Gr F F' β β'->Same F' H->C H->(∀(i:Nat) w,ws[i]?=some w->J.go i H∧∀x H',J.yld i H x H'->H'=H∧RW F' β' w x)∧∀i,ws.length<=i->J.stop i H
abbrev Mi:=ItC fun _=>True
theorem ItC.mono {C:Hp->Prop} {J:It} {ws:List Wv} {F F':Hp} {β β':List Addr} (h:ItC C J ws F β) (g:Gr F F' β β'):ItC C J ws F' β':=fun F2 β2 H g2 s=>h F2 β2 H (g.trans g2) s
abbrev FI:=Sl->Mw (List Wv)
def tI (E:XK) (f:FI):TI:=fun σ H R=>∃F β om sl,MOk F H β om∧EnvOk F β σ sl∧Res E (f sl om) F H β fun ws F' H' β'=>∀J,Mi J ws F' β'->R J H'
theorem PI.weak {X:Cx} {tg e:Expr} {t t':TI} (h:PI X tg e t) (w:∀σ H Q,t' σ H Q->t σ H Q):PI X tg e t':=fun pins s σ H Q I q=>h pins s σ H Q I (w σ H Q q)
def ZL:Wv->Mw (List Wv)
 |.lst ws=>ret ws
 |_=>XN
def W7 (n:Nat):List Wv:=(List.range n).map fun (i:Nat)=>.int i
def Fv (lo:Int) (n:Nat):List Wv:=(List.range n).map fun (i:Nat)=>.int (lo+i)
def Wn:Wv->Mw (List Wv)
 |.int j=>bnd (chk (decide (-(2 ^ 62)<=j∧j < 2 ^ 62))) fun _=>ret (W7 j.toNat)
 |_=>XN
section
variable {X:Cx} {E:XK} {e a b tg:Expr} {es:List Expr} {f:FE} {fs:FA} {p pos:Pos}
theorem Dj {K:PySem.W.Frag} {F:Hp} {β:List Addr} {a:Addr} {xs:List V} {ws:List Wv} (q:Rd F a (.lst xs)) (rs:RWs F β ws xs):Mi (Itl K a) ws F β:=fun F' β' H g s _=>by
 have hS:SqL K H a xs:=.inl (Rd.same s (Rd.same g.same q))
 refine ⟨fun i w e=>?_,fun i hi=>⟨xs,hS,by rw[← rs.length]; exact hi⟩⟩
 obtain ⟨v,ev,rv⟩:=rs.get e
 refine ⟨⟨xs,v,hS,ev⟩,fun x H' ⟨e1,e2⟩=>⟨e1,?_⟩⟩
 have:=e2 xs hS
 rw[ev]at this
 cases this
 exact rv.mono g
theorem CJ {F:Hp} {β:List Addr} (lo:Int) (n:Nat):Mi (Itr lo n) (Fv lo n) F β:=fun F' β' H g s _=>by
 unfold Fv
 refine ⟨fun i w e=>?_,fun i hi=>(show n<=i by simpa using hi)⟩
 have hi:i < n:=by have:=(List.getElem?_eq_some_iff.mp e).1; simpa using this
 rw[List.getElem?_map,List.getElem?_range hi]at e
 cases e
 exact ⟨hi,fun x H' ⟨e1,e2⟩=>⟨e1,by rw[e2]; exact .int _⟩⟩
theorem FW (n:Nat):W7 n=Fv 0 n:=by
 unfold W7 Fv
 exact List.map_congr_left fun i _=>by rw[Int.zero_add]
theorem Ye (hl:PE X e (tE E f)):PI X tg e (tI E fun sl=>bnd (f sl) ZL):=(Fq hl).weak fun σ H Q ⟨F,β,om,sl,M,V,R⟩=>by
 refine ⟨F,β,om,sl,M,V,R.bind fun x om1 F1 H1 β1 g1 M1 R1 v rv=>?_⟩
 cases rv with
 |@lst a xs ws q rs=>exact ⟨a,rfl,⟨xs,.inl (Rd.same M1.sub q)⟩,(show Res E (ret ws om1) F1 H1 β1 _ from R1).now M1 _ (Dj q rs)⟩
 |_=>exact R1.elim
theorem X3 (hg:Gl X "range") (hm:X.mg "range"=none) (ha:PE X a (tE E f)) (h0:starEach [a] X.env=(false,eval a X.env)::starEach [] X.env:=by rfl) (hs:starEach [a] X.env=[(false,eval a X.env)]:=by rfl):PI X tg (.Call (.Name "range" p) [a] [] pos) (tI E fun sl=>bnd (f sl) Wn):=(JE hg hm (WB ha Vo h0) hs).weak fun σ H Q ⟨F,β,om,sl,M,V,R⟩=>by
 refine ⟨F,β,om,sl,M,V,R.bind fun w om1 F1 H1 β1 g1 M1 R1 v rv=>?_⟩
 cases rv with
 |int j =>
  obtain ⟨hc,R2⟩:=Res.chk R1
  obtain ⟨h1,h2⟩:=of_decide_eq_true hc
  refine ⟨j,rfl,h1,h2,?_⟩
  have R3:Res E (ret (W7 j.toNat) om1) F1 H1 β1 fun ws F' H' β'=>∀J,Mi J ws F' β'->Q J H':=R2
  exact R3.now M1 _ (by rw[FW]; exact CJ 0 _)
 |_=>exact R1.elim
end
abbrev TgW:=Wv->Sl->Option Sl
def KY (g:TG) (T:TgW):Prop:=∀{F H:Hp} {β:List Addr} {om:List Ob} {σ:St} {sl sl':Sl} {w:Wv} {v:V} {Q:St->Hp->Prop},MOk F H β om->EnvOk F β σ sl->RW F β w v->T w sl=some sl'->(∀σ',EnvOk F β σ' sl'->Q σ' H)->g v σ H Q
def tgN (i:Nat):TgW:=fun w sl=>some (sl.set i (some w))
theorem Xl (i:Nat):KY (LK i) (tgN i):=fun M V r e q=>by
 cases e
 exact q _ (V.set i r)
def Sr (again:Sl->Mw (Fl × Sl)):Fl × Sl->Mw (Fl × Sl)
 |(.nx,sl)=>again sl
 |(.ct,sl)=>again sl
 |(.bk,sl)=>ret (.nx,sl)
 |(.rt w,sl)=>ret (.rt w,sl)
def WU (T:TgW) (S:FS):List Wv->FS
 |[],sl=>ret (.nx,sl)
 |w::r,sl=>match T w sl with
  |none=>XN
  |some sl1=>bnd (S sl1) (Sr fun sl2=>WU T S r sl2)
def Tc (fi:FI) (T:TgW) (S:FS):FS:=fun sl=>bnd (fi sl) fun ws=>WU T S ws sl
section
variable {X:Cx} {E:XK} {tg iter:Expr} {body:List Stmt} {fi:FI} {T:TgW} {g:TG} {S:FS} {pos:Pos}
theorem DE {D:Ends} {J:It} {ws:List Wv} {σ:St} {H F:Hp} {β:List Addr} {om:List Ob} {sl:Sl} (ht:KY g T) (hJ:Mi J ws F β) (M:MOk F H β om) (V:EnvOk F β σ sl) (R:Res E (WU T S ws sl om) F H β (FlP D)) :
    ∃W:Nat->Nat->St->Hp->Prop,(∃m,W 0 m σ H)∧∀i m σ H,W i m σ H ->
     (J.stop i H∧D.nx σ H)∨(J.go i H∧∃N:St->Hp->Prop,(∀σ' H',N σ' H'->∃m',m' < m∧W (i+1) m' σ' H')∧∀x H',J.yld i H x H'->g x σ H' fun σ2 H2=>tS E S { D with nx:=N,ct:=N,bk:=D.nx } σ2 H2):=by
 refine ⟨fun i m σ H=>m=ws.length - i∧i<=ws.length∧∃F β om sl,Mi J ws F β∧MOk F H β om∧EnvOk F β σ sl∧Res E (WU T S (ws.drop i) sl om) F H β (FlP D),⟨ws.length,by simp,Nat.zero_le _,F,β,om,sl,hJ,M,V,R⟩,?_⟩
 rintro i m σ H ⟨rfl,hi,F,β,om,sl,hJ,M,V,R⟩
 obtain ⟨j1,j2⟩:=hJ F β H (Gr.refl _ _) M.sub True.intro
 by_cases hlt:i < ws.length
 ·obtain ⟨go,yl⟩:=j1 i ws[i] (List.getElem?_eq_getElem hlt)
  refine .inr ⟨go,fun σ' H'=>i+1<=ws.length∧∃F β om sl,Mi J ws F β∧MOk F H' β om∧EnvOk F β σ' sl∧Res E (WU T S (ws.drop (i+1)) sl om) F H' β (FlP D),fun σ' H' ⟨h1,h2⟩=>⟨ws.length - (i+1),by omega,rfl,h1,h2⟩,fun x H' hy=>?_⟩
  obtain ⟨rfl,rx⟩:=yl x H' hy
  rw[List.drop_eq_getElem_cons hlt]at R
  have R:Res E ((match T ws[i] sl with|none=>XN|some sl1=>bnd (S sl1) (Sr fun sl2=>WU T S (ws.drop (i+1)) sl2)) om) F H' β (FlP D):=R
  match hT:T ws[i] sl,R with
  |none,R=>exact R.elim
  |some sl1,R =>
   refine ht M V rx hT fun σ2 V2=>?_
   refine ⟨F,β,om,sl1,M,V2,Res.bind R fun y om1 F1 H1 β1 g1 M1 R1=>?_⟩
   obtain ⟨fl,sl2⟩:=y
   cases fl with
   |nx=>exact fun σ' V'=>⟨hlt,F1,β1,om1,sl2,hJ.mono g1.toGr,M1,V',R1⟩
   |ct=>exact fun σ' V'=>⟨hlt,F1,β1,om1,sl2,hJ.mono g1.toGr,M1,V',R1⟩
   |bk=>exact (show Res E (ret (Fl.nx,sl2) om1) F1 H1 β1 (FlP D) from R1).now M1
   |rt w=>exact (show Res E (ret (Fl.rt w,sl2) om1) F1 H1 β1 (FlP D) from R1).now M1
 ·have e:i=ws.length:=by omega
  subst e
  rw[List.drop_length]at R
  exact .inl ⟨j2 _ (Nat.le_refl _),(show Res E (ret (Fl.nx,sl) om) F H β (FlP D) from R).now M σ V⟩
theorem Va (hp:PassesOwn (model X.prog X.w) X.A X.env X.xe) (hc:X.calm=true) (hi:PI X tg iter (tI E fi)) (hg:PG X tg g) (ht:KY g T) (hb:PSs X body (tS E S)) (hs:∀x,foldedSetIterable iter X.env x=pure x:=by intro _; rfl):PS X (.For tg iter body [] pos) (tS E (Tc fi T S)):=(JS hp hc hi hg hb hs).weak fun D σ H ⟨F,β,om,sl,M,V,R⟩=>by
 refine ⟨F,β,om,sl,M,V,R.bind fun ws om1 F1 H1 β1 g1 M1 R1 J hJ=>?_⟩
 exact DE ht hJ M1 (V.mono g1.toGr) R1
end
end
end L2
namespace L2
noncomputable section
open PySem PySem.Spec PyProof.Rows
def Xa (js:List Nat) (w:Wv) (sl:Sl):Sl:=some w::js.map fun j=>(sl[j]?).join
theorem EnvOk.comp {F:Hp} {β:List Addr} {σ:St} {sl:Sl} {w:Wv} {v:V} (V:EnvOk F β σ sl) (js:List Nat) (r:RW F β w v):EnvOk F β (Y4 js (some v) σ) (Xa js w sl):=by
 refine ⟨by simp[Xa,Y4],fun i u e=>?_⟩
 cases i with
 |zero =>
  have e:some (some w)=some (some u):=e
  cases e
  exact ⟨v,rfl,r⟩
 |succ k =>
  have e:(js.map fun j=>(sl[j]?).join)[k]?=some (some u):=e
  rw[List.getElem?_map]at e
  match hj:js[k]?,e with
  |none,e=>exact nomatch e
  |some j,e =>
   have e:some (sl[j]?).join=some (some u):=e
   have e2:sl[j]?=some (some u):=by
    cases q:sl[j]? with
    |none=>rw[q]at e; cases e
    |some o =>
     rw[q]at e
     have e:some o=some (some u):=e
     cases e
     rfl
   obtain ⟨v',h1,h2⟩:=V.get j u e2
   refine ⟨v',?_,h2⟩
   show (js.map fun j=>(σ[j]?).join)[k]?=some (some v')
   rw[List.getElem?_map,hj,Option.map_some,h1]
   rfl
def M9 (again:Mw (List Wv)) (f:Mw Wv) (b:Bool):Mw (List Wv):=if b=true then bnd (Z4 f) fun x=>bnd again fun xs=>ret (x::xs) else again
def Xk (c:FT) (f:FE) (mk:Wv->Sl):List Wv->Mw (List Wv)
 |[]=>ret []
 |w::r=>bnd (Z4 (c (mk w))) (M9 (Xk c f mk r) (f (mk w)))
def Yc (k:List Wv->Mw Wv) (js:List Nat) (fi:FI) (c:FT) (f:FE):FE:=fun sl=>bnd (fi sl) fun ws=>bnd (chk (decide (ws.length<=lim))) fun _=>bnd (Xk c f (fun w=>Xa js w sl) ws) k
def XC:FT:=fun _=>ret true
theorem Xb {X:Cx} {E:XK}:VT X [] (tT E XC):=fun pins s σ H Q I ⟨F,β,om,sl,M,V,R⟩=>HQ pins s σ H Q I ((show Res E (ret true om) F H β _ from R).now M)
theorem Xe {X:Cx} {E:XK} {e:Expr} {c:FT} (h:PT X e (tT E c)):VT X [e] (tT E c):=Gq h
theorem VM {α γ δ:Type} (m:Mw α) (k:α->Mw γ) (l:γ->Mw δ):bnd (bnd m k) l=bnd m fun x=>bnd (k x) l:=by
 funext om
 unfold bnd
 match m om with
 |none=>rfl
 |some (.ok a,om')=>rfl
 |some (.error c,om')=>rfl
def wo (H:Hp) (D:Addr):Hp:=fun b=>if b=D then none else H b
theorem Oq {H:Hp} {D:Addr} {o:HO} (e:H D=some o):upd (wo H D) D o=H:=by
 funext b
 unfold upd wo
 by_cases h:b=D
 ·rw[if_pos h,h,e]
 ·rw[if_neg h,if_neg h]
theorem N4 {H:Hp} {D b:Addr} (h:b≠D):wo H D b=H b:=if_neg h
theorem PY {H:Hp} {D:Addr}:wo H D D=none:=if_pos rfl
section
variable {X:Cx} {E:XK} {js:List Nat} {c:FT} {f:FE} {k:List Wv->Mw Wv}
theorem beside {F F' Hm H':Hp} {β β':List Addr} {om om':List Ob} {D:Addr} {ys:List V} (hD:Hm D=none) (M:MOk F Hm β om) (g:Gx F F' (upd Hm D (.lst ys)) H' β β') (M':MOk F' H' β' om') :
    H' D=some (.lst ys)∧Gx F F' Hm (wo H' D) β β'∧MOk F' (wo H' D) β' om':=by
 have nD:D ∉ β:=fun hm=>by
  obtain ⟨i,hi⟩:=List.getElem?_of_mem hm
  obtain ⟨x,hx⟩:=M.there hi
  rw[hD]at hx; cases hx
 have fD:F D=none:=M.sub.free hD
 have e1:H' D=some (.lst ys):=g.keep D _ Zu nD
 have nD':D ∉ β':=fun hm=>(g.new D hm).elim nD fun z=>by rw[Zu]at z; cases z
 have fD':F' D=none:=by
  cases q:F' D with
  |none=>rfl
  |some o =>
   rcases g.fnew D o q with z|z
   ·rw[fD]at z; cases z
   ·rw[Zu]at z; cases z
 refine ⟨e1,⟨g.toGr,fun b o e hb=>?_,fun b e=>?_,fun b hb=>?_,fun b o e=>?_,fun b o u e=>?_⟩,⟨fun b o e=>?_,M'.nd,M'.len,M'.free,fun h a x h1 h2=>(M'.ob h a x h1 h2).mono (Gr.refl _ _) ?_⟩⟩
 ·have hbD:b≠D:=ZR e hD
  rw[N4 hbD]
  exact g.keep b o (by rw[Zr hbD]; exact e) hb
 ·by_cases hbD:b=D
  ·rw[hbD]; exact hD
  ·rw[N4 hbD]at e
   have:=g.there b e
   rw[Zr hbD]at this
   exact this
 ·rcases g.new b hb with h|h
  ·exact .inl h
  ·have hbD:b≠D:=fun z=>nD' (z ▸ hb)
   rw[Zr hbD]at h
   exact .inr h
 ·rcases g.fnew b o e with h|h
  ·exact .inl h
  ·have hbD:b≠D:=fun z=>by rw[z,fD']at e; cases e
   rw[Zr hbD]at h
   exact .inr h
 ·have hbD:b≠D:=ZR e hD
  rw[N4 hbD]
  exact g.frz b o u (by rw[Zr hbD]; exact e)
 ·have hbD:b≠D:=fun z=>by rw[z,fD']at e; cases e
  rw[N4 hbD]
  exact M'.sub b o e
 ·exact N4 fun z=>nD' (z ▸ List.mem_of_getElem? h1)
theorem VL {C:Hp->Prop} {J:It} {ws:List Wv} {σ:St} {sl:Sl} {F1 H1 F0 H0:Hp} {β1 β0:List Addr} {om1:List Ob} {P:Wv->Hp->Hp->List Addr->Prop} {Q:VK} {D:Addr} {mk:Wv->Sl} {K:V->Hp->(St->Hp->Prop)->Prop} (okW:Wv->Prop) (GG:Hp->Hp->List Addr->Prop)
    (hK:∀{F H:Hp} {β:List Addr} {om:List Ob} {w:Wv} {x:V} {P:St->Hp->Prop},MOk F H β om->EnvOk F β σ sl->RW F β w x->okW w->(∀σ2,EnvOk F β σ2 (mk w)->P σ2 H)->K x H P) (hwok:∀w∈ws,okW w)
    (hG:∀{F F' H H':Hp} {β β':List Addr} {om:List Ob},MOk F H β om->GG F H β->Gx F F' H H' β β'->GG F' H' β') (hC:∀{F H:Hp} {β:List Addr},GG F H β->C H) (hJ:ItC C J ws F1 β1)
    (hk:∀{us:List Wv} {vs:List V} {om:List Ob} {F H:Hp} {β:List Addr},MOk F H β om->GG F H β->RWs F β us vs->Res E (k us om) F0 H0 β0 P->H D=none->Q (.ref D) (upd H D (.lst vs)))
    (M1:MOk F1 H1 β1 om1) (V0:EnvOk F1 β1 σ sl) (G1:GG F1 H1 β1) (hD:H1 D=none) (hws:ws.length<=lim) (R1:Res E (bnd (Xk c f mk ws) k om1) F0 H0 β0 P) :
    ∃W:Nat->Nat->List V->Hp->Prop,(∃m,W 0 m [] (upd H1 D (.lst [])))∧∀i m ys H2,W i m ys H2->H2 D=some (.lst ys) ∧
     ((J.stop i H2∧Q (.ref D) H2)∨(J.go i H2∧∀x H',J.yld i H2 x H'->K x H' fun σ2 H6=>tT E0 c σ2 H6 fun b H3=>if b=true then tE E0 f σ2 H3 fun v H4=>H4 D=some (.lst ys)∧ys.length < sizeLine∧∃m',m' < m∧W (i+1) m' (ys++[v]) (upd H4 D (.lst (ys++[v])))
      else ∃m',m' < m∧W (i+1) m' ys H3)):=by
 have hlim:=Uy
 refine ⟨fun i m ys H2=>m=ws.length - i∧i<=ws.length∧ys.length<=i∧∃F β om Hm acc,H2=upd Hm D (.lst ys)∧Hm D=none∧ItC C J ws F β∧GG F Hm β∧MOk F Hm β om∧EnvOk F β σ sl∧RWs F β acc ys∧Res E (bnd (Xk c f mk (ws.drop i)) (fun xs=>k (acc++xs)) om) F0 H0 β0 P,
  ⟨ws.length,by simp,Nat.zero_le _,Nat.zero_le _,F1,β1,om1,H1,[],rfl,hD,hJ,G1,M1,V0,.nil,R1⟩,?_⟩
 rintro i m ys H2 ⟨rfl,hi,hys,F,β,om,Hm,acc,rfl,hDm,hJ,G,M,V,ra,R⟩
 refine ⟨Zu,?_⟩
 have MU:MOk F (upd Hm D (.lst ys)) β om:=M.newU hDm
 obtain ⟨j1,j2⟩:=hJ F β _ (Gr.refl _ _) MU.sub (hC (hG M G (M.gxU (o:=.lst ys) hDm)))
 by_cases hlt:i < ws.length
 ·obtain ⟨go,yl⟩:=j1 i ws[i] (List.getElem?_eq_getElem hlt)
  refine .inr ⟨go,fun x H' hy=>?_⟩
  obtain ⟨rfl,rx⟩:=yl x H' hy
  rw[List.drop_eq_getElem_cons hlt]at R
  have R:Res E (bnd (bnd (Z4 (c (mk ws[i]))) (M9 (Xk c f mk (ws.drop (i+1))) (f (mk ws[i])))) (fun xs=>k (acc++xs)) om) F0 H0 β0 P:=R
  rw[VM]at R
  refine hK MU V rx (hwok _ (List.getElem_mem hlt)) fun σ2 V2=>?_
  refine ⟨F,β,om,_,MU,V2,?_⟩
  have R':=R
  unfold bnd Z4 at R'
  match hm:c (mk ws[i]) om,R' with
  |none,R'=>exact R'.elim
  |some (.error _,_),R'=>exact R'.elim
  |some (.ok b,om1),R' =>
   clear R
   intro F1 H1 β1 g1 M1
   obtain ⟨e1,g1',M1'⟩:=beside hDm M g1 M1
   have R1:Res E (bnd (M9 (Xk c f mk (ws.drop (i+1))) (f (mk ws[i])) b) (fun xs=>k (acc++xs)) om1) F0 H0 β0 P:=R'
   have G1:=hG M G g1'
   cases b with
   |false =>
    rw[if_neg Bool.false_ne_true]
    refine ⟨ws.length - (i+1),by omega,rfl,hlt,by omega,F1,β1,om1,wo H1 D,acc,(Oq e1).symm,PY,hJ.mono g1.toGr,G1,M1',V.mono g1.toGr,ra.mono g1.toGr,R1⟩
   |true =>
    rw[if_pos rfl]
    have R2:Res E (bnd (bnd (Z4 (f (mk ws[i]))) fun x=>bnd (Xk c f mk (ws.drop (i+1))) fun xs=>ret (x::xs)) (fun xs=>k (acc++xs)) om1) F0 H0 β0 P:=R1
    rw[VM]at R2
    refine ⟨F1,β1,om1,_,M1,V2.mono g1.toGr,?_⟩
    unfold bnd Z4 at R2
    match hm2:f (mk ws[i]) om1,R2 with
    |none,R2=>exact R2.elim
    |some (.error _,_),R2=>exact R2.elim
    |some (.ok y,om2),R2 =>
     intro F2 H2 β2 g2 M2 v rv
     obtain ⟨e2,g2',M2'⟩:=beside (Hm:=wo H1 D) (ys:=ys) PY M1' (by rw[Oq e1]; exact g2) M2
     have R3:Res E (bnd (bnd (Xk c f mk (ws.drop (i+1))) fun xs=>ret (y::xs)) (fun xs=>k (acc++xs)) om2) F0 H0 β0 P:=R2
     rw[VM]at R3
     have R3:Res E (bnd (Xk c f mk (ws.drop (i+1))) (fun xs=>k ((acc++[y])++xs)) om2) F0 H0 β0 P:=by
      have e:(fun xs=>k ((acc++[y])++xs))=fun xs=>k (acc++y::xs):=by funext xs; rw[List.append_assoc]; rfl
      rw[e]
      exact R3
     have ra2:RWs F2 β2 (acc++[y]) (ys++[v]):=(ra.mono (g1.trans g2).toGr).append (.cons rv .nil)
     refine ⟨e2,by omega,ws.length - (i+1),by omega,rfl,hlt,by rw[List.length_append,List.length_singleton]; omega,F2,β2,om2,wo H2 D,acc++[y],?_,PY,hJ.mono (g1.trans g2).toGr,hG M1' G1 g2',M2',V.mono (g1.trans g2).toGr,ra2,R3⟩
     rw[← Oq e2,LL,Oq e2]
 ·have e:i=ws.length:=by omega
  subst e
  rw[List.drop_length]at R
  have R:Res E (k (acc++[]) om) F0 H0 β0 P:=R
  rw[List.append_nil]at R
  exact .inl ⟨j2 _ (Nat.le_refl _),hk M G ra R hDm⟩
theorem LI {fi:FI} (hk:Vf E k) {σ:St} {H:Hp} {Q:VK} (h:tE E (Yc k js fi c f) σ H Q):L6 (tI E fi) js (fun _ _ _ _=>tT E0 c) (fun _ _ _ _=>tE E0 f) σ H Q:=by
 obtain ⟨F,β,om,sl,M,V,R⟩:=h
 refine ⟨F,β,om,sl,M,V,R.bind fun ws om1 F1 H1 β1 g1 M1 R1 J hJ D hD _ _ _ _=>?_⟩
 obtain ⟨hws,R1⟩:=Res.chk R1
 exact VL (C:=fun _=>True) (mk:=fun w=>Xa js w sl) (K:=fun x H' P=>P (Y4 js (some x) σ) H') (fun _=>True) (fun F H β=>Gx F1 F H1 H β1 β) (fun _ V r _ h=>h _ (V.comp js r)) (fun _ _=>True.intro) (fun _ a b=>a.trans b) (fun _=>True.intro) hJ (fun M' G' rs R' hD'=>(hk M' rs (Res.mono G' R')).2 hD') M1 (V.mono g1.toGr) (Gx.refl _ _ _) hD (of_decide_eq_true hws) R1
def Bq:Wv->List Wv
 |.tup ws=>ws
 |_=>[]
def Gp (n:Nat):Wv->Bool
 |.tup ws=>decide (ws.length=n)
 |_=>false
def UD (js:List Nat) (w:Wv) (sl:Sl):Sl:=(Bq w).map some++js.map fun j=>(sl[j]?).join
def We (k:List Wv->Mw Wv) (n:Nat) (js:List Nat) (fi:FI) (c:FT) (f:FE):FE:=fun sl=>bnd (fi sl) fun ws=>bnd (chk (decide (ws.length<=lim)&&ws.all (Gp n))) fun _=>bnd (Xk c f (fun w=>UD js w sl) ws) k
abbrev gNs:List Nat->TGs
 |[]=>B1
 |i::is=>Ev (LK i) (gNs is)
theorem QY {H:Hp} {Q:St->Hp->Prop}:∀(k s:Nat) (pre vs0 cap:St) (vs:List V),pre.length=s->vs0.length=k->vs.length=k->Q (pre++vs.map some++cap) H->gNs (List.range' s k) vs (pre++vs0++cap) H Q
 |0,s,pre,[],cap,[],_,_,_,q=>⟨rfl,q⟩
 |k+1,s,pre,a::vs0,cap,v::vs,hp,h0,hv,q=>by
  refine ⟨v,vs,rfl,?_⟩
  have e:(pre++a::vs0++cap).set s (some v)=(pre++[some v])++vs0++cap:=by
   rw[List.append_assoc,List.set_append_right _ _ (by omega),show s - pre.length=0 by omega]
   simp
  show gNs (List.range' (s+1) k) vs ((pre++a::vs0++cap).set s (some v)) H Q
  rw[e]
  refine QY k (s+1) _ vs0 cap vs (by simp[hp]) (by simpa using h0) (by simpa using hv) ?_
  have e2:pre++[some v]++vs.map some++cap=pre++(v::vs).map some++cap:=by simp
  rw[e2]
  exact q
 |0,_,_,_::_,_,_,_,h0,_,_=>by cases h0
 |0,_,_,[],_,_::_,_,_,hv,_=>by cases hv
 |k+1,_,_,[],_,_,_,h0,_,_=>by cases h0
 |k+1,_,_,_::_,_,[],_,_,hv,_=>by cases hv
theorem EnvOk.compT {F:Hp} {β:List Addr} {σ:St} {sl:Sl} {ws:List Wv} {vs:List V} (V:EnvOk F β σ sl) (js:List Nat) (r:RWs F β ws vs):EnvOk F β (vs.map some++Uh js σ) (ws.map some++js.map fun j=>(sl[j]?).join):=by
 refine ⟨by simp[Uh,r.length],fun i u e=>?_⟩
 by_cases hi:i < ws.length
 ·rw[List.getElem?_append_left (by simpa using hi),List.getElem?_map]at e
  match hw:ws[i]?,e with
  |none,e=>exact nomatch e
  |some w,e =>
   have e:some (some w)=some (some u):=e
   cases e
   obtain ⟨v,ev,rv⟩:=r.get hw
   refine ⟨v,?_,rv⟩
   rw[List.getElem?_append_left (by rw[List.length_map,← r.length]; exact hi),List.getElem?_map,ev]
   rfl
 ·have hl:=r.length
  rw[List.getElem?_append_right (by simpa using hi),List.length_map,List.getElem?_map]at e
  match hj:js[i - ws.length]?,e with
  |none,e=>exact nomatch e
  |some j,e =>
   have e:some (sl[j]?).join=some (some u):=e
   have e2:sl[j]?=some (some u):=by
    cases q:sl[j]? with
    |none=>rw[q]at e; cases e
    |some o =>
     rw[q]at e
     have e:some o=some (some u):=e
     cases e
     rfl
   obtain ⟨v',h1,h2⟩:=V.get j u e2
   refine ⟨v',?_,h2⟩
   rw[List.getElem?_append_right (by rw[List.length_map]; omega),List.length_map,← hl]
   show (js.map fun j=>(σ[j]?).join)[i - ws.length]?=some (some v')
   rw[List.getElem?_map,hj,Option.map_some,h1]
   rfl
theorem Mc {Kf:PySem.W.Frag} {fi:FI} {n:Nat} (hk:Vf E k) {σ:St} {H:Hp} {Q:VK} (h:tE E (We k n js fi c f) σ H Q):Lb (tI E fi) n (Jg Kf n (gNs (List.range' 0 n))) js (fun _ _ _ _=>tT E0 c) (fun _ _ _ _=>tE E0 f) σ H Q:=by
 obtain ⟨F,β,om,sl,M,V,R⟩:=h
 refine ⟨F,β,om,sl,M,V,R.bind fun ws om1 F1 H1 β1 g1 M1 R1 J hJ D hD _ _ _ _=>?_⟩
 obtain ⟨hws,R1⟩:=Res.chk R1
 obtain ⟨hw1,hw2⟩:=Bool.and_eq_true_iff.mp hws
 refine VL (C:=fun _=>True) (mk:=fun w=>UD js w sl) (K:=fun x H' P=>∀vs:St,vs.length=n->Jg Kf n (gNs (List.range' 0 n)) x (vs++Uh js σ) H' fun σ2 H6=>(∃vs2:St,vs2.length=n∧σ2=vs2++Uh js σ)∧P σ2 H6) (fun w=>Gp n w=true) (fun F H β=>Gx F1 F H1 H β1 β) ?_ (fun w hw=>List.all_eq_true.mp hw2 w hw) (fun _ a b=>a.trans b) (fun _=>True.intro) hJ (fun M' G' rs R' hD'=>(hk M' rs (Res.mono G' R')).2 hD') M1 (V.mono g1.toGr) (Gx.refl _ _ _) hD (of_decide_eq_true hw1) R1
 intro F2 H2 β2 om2 w x P M2 V2 rw2 hn hP vs hvs
 cases rw2 with
 |@tup a xs us q rs =>
  have hn:us.length=n:=of_decide_eq_true hn
  have hl:=rs.length
  refine ⟨a,xs,rfl,SqT.of (M2.sub _ _ q),by omega,?_⟩
  refine QY n 0 [] vs (Uh js σ) xs rfl hvs (by omega) ⟨⟨xs.map some,by rw[List.length_map]; omega,by simp⟩,hP _ ?_⟩
  exact V2.compT js rs
 |_=>cases hn
def Uf:Key->Wv
 |.inl i=>.int i
 |.inr x=>.str x
def Lj (d:Wv):Mw (Bool × Nat × List Wv):=fun om=>match d with
 |.o h=>match om[h]? with
  |some (.dk kvs)=>if kvs.length<=lim then some (.ok (true,h,kvs.map fun p=>Uf p.1),om.set h (.dz kvs)) else none
  |some (.dz kvs)=>if kvs.length<=lim then some (.ok (false,h,kvs.map fun p=>Uf p.1),om) else none
  |_=>none
 |_=>none
def MK (b:Bool) (h:Nat):Mw Unit:=fun om=>if b=true then (match om[h]? with
 |some (.dz kvs)=>some (.ok (),om.set h (.dk kvs))
 |_=>none) else some (.ok (),om)
def Wb (k:List Wv->Mw Wv) (js:List Nat) (fd:FE) (c:FT) (f:FE):FE:=fun sl=>bnd (fd sl) fun d=>bnd (Lj d) fun p=>bnd (Xk c f (fun w=>Xa js w sl) p.2.2) fun xs=>bnd (MK p.1 p.2.1) fun _=>k xs
theorem PP {F:Hp} {β:List Addr} {d:Addr} {ob:Obj} {kvs:List (Key × Wv)} {ks:List (Key × V)} (rs:RK F β kvs ks):ItC (fun H=>H d=some (.frz ob (.dK ks))) (Itd d ob ks) (kvs.map fun p=>Uf p.1) F β:=fun F' β' H g s hc=>by
 have hl:=rs.length
 have key:∀{ps:List (Key × Wv)} {qs:List (Key × V)},RK F β ps qs->∀(i:Nat) p,qs[i]?=some p->(ps.map fun p=>Uf p.1)[i]?=some (Uf p.1):=by
  intro ps qs r
  induction r with
  |nil=>intro i p e; simp at e
  |cons h r ih =>
   intro i p e
   cases i with
   |zero=>simp at e; subst e; rfl
   |succ i=>simpa using ih i p (by simpa using e)
 refine ⟨fun i w e=>?_,fun i hi=>⟨hc,by rw[List.length_map]at hi; omega⟩⟩
 have hi:i < ks.length:=by have:=(List.getElem?_eq_some_iff.mp e).1; rw[List.length_map]at this; omega
 refine ⟨⟨hc,hi⟩,fun x H' ⟨e1,p,e2,e3⟩=>⟨e1,?_⟩⟩
 have:=key rs i p e2
 rw[e]at this
 cases this
 subst e3
 obtain ⟨k',v⟩:=p
 cases k' with
 |inl n=>exact .int n
 |inr y=>exact .str y
theorem Gx.unfrz {F F' H H':Hp} {β β':List Addr} {d:Addr} {u:HO} {ob:Obj} {om:List Ob} {h:Nat} (hb:β[h]?=some d) (M:MOk F H β om) (hz:H d=some (.frz ob u)) (hu:∀o w,u≠.frz o w) (g:Gx F F' H H' β β'):Gx F F' (upd H d u) (upd H' d u) β β':=by
 have nd:∀b,b ∉ β->b≠d:=fun b n z=>n (z ▸ List.mem_of_getElem? hb)
 refine ⟨g.toGr,fun b o e n=>?_,fun b e=>?_,fun b m=>?_,fun b o e=>?_,fun b o w e=>?_⟩
 ·rw[Zr (nd b n)]at e ⊢; exact g.keep b o e n
 ·by_cases z:b=d
  ·rw[z,Zu]at e; cases e
  ·rw[Zr z]at e ⊢; exact g.there b e
 ·by_cases z:b=d
  ·rw[z]; exact .inl (List.mem_of_getElem? hb)
  ·rw[Zr z]; exact g.new b m
 ·by_cases z:b=d
  ·rcases g.fnew b o e with q|q
   ·exact .inl q
   ·rw[z,hz]at q; cases q
  ·rw[Zr z]; exact g.fnew b o e
 ·by_cases z:b=d
  ·rw[z,Zu]at e; cases e; exact absurd rfl (hu o w)
  ·rw[Zr z]at e ⊢; exact g.frz b o w e
def Held (h:Nat) (d:Addr) (ob:Obj) (ks:List (Key × V)) (F1 H1:Hp) (β1:List Addr):Hp->Hp->List Addr->Prop:=fun F H β=>β[h]?=some d∧H d=some (.frz ob (.dK ks))∧Gx F1 F H1 (upd H d (.dK ks)) β1 β
theorem Held.go {h:Nat} {d:Addr} {ob:Obj} {ks:List (Key × V)} {F1 H1 F F' H H':Hp} {β1 β β':List Addr} {om:List Ob} (M:MOk F H β om) (G:Held h d ob ks F1 H1 β1 F H β) (g:Gx F F' H H' β β'):Held h d ob ks F1 H1 β1 F' H' β' :=
 ⟨g.pre h d G.1,g.frz d _ _ G.2.1,G.2.2.trans (g.unfrz G.1 M G.2.1 (fun _ _ z=>by cases z))⟩
theorem Held.start {h:Nat} {d:Addr} {ob:Obj} {ks:List (Key × V)} {F1 H1:Hp} {β1:List Addr} (eb:β1[h]?=some d) (hks:H1 d=some (.dK ks)):Held h d ob ks F1 H1 β1 F1 (upd H1 d (.frz ob (.dK ks))) β1:=by
 have back:upd (upd H1 d (.frz ob (.dK ks))) d (.dK ks)=H1:=by
  rw[LL]
  funext b
  by_cases z:b=d
  ·rw[z,Zu,hks]
  ·rw[Zr z]
 exact ⟨eb,Zu,by rw[back]; exact Gx.refl _ _ _⟩
theorem Held.thw {γ:Type} {k:Unit->Mw γ} {h:Nat} {d:Addr} {ob:Obj} {ks:List (Key × V)} {F1 H1 F H:Hp} {β1 β:List Addr} {om:List Ob} {P:γ->Hp->Hp->List Addr->Prop} (M:MOk F H β om) (G:Held h d ob ks F1 H1 β1 F H β) (R:Res E (bnd (MK true h) k om) F1 H1 β1 P) :
    ∃kvs,MOk F (upd H d (.dK ks)) β (om.set h (.dk kvs))∧Res E (k () (om.set h (.dk kvs))) F1 H1 β1 P:=by
 obtain ⟨hb',hz',gg⟩:=G
 unfold bnd MK at R
 rw[if_pos rfl]at R
 match hy:om[h]?,R with
 |none,R=>exact R.elim
 |some (.ins _ _),R=>exact R.elim
 |some (.exc _),R=>exact R.elim
 |some (.lst _),R=>exact R.elim
 |some (.dt _),R=>exact R.elim
 |some (.dk _),R=>exact R.elim
 |some (.dz kvs'),R =>
  obtain ⟨a',ea,_,ob',ks',hks',rs'⟩:=M.at hy
  rw[hb']at ea; cases ea
  rw[hz']at hks'
  cases hks'
  exact ⟨kvs',M.put hb' ⟨ks,Zu,rs'⟩,R⟩
theorem Res.frz {γ:Type} {k:Bool × Nat × List Wv->Mw γ} {F H:Hp} {β:List Addr} {om:List Ob} {w:Wv} {v:V} {P:γ->Hp->Hp->List Addr->Prop} (M:MOk F H β om) (r:RW F β w v) (R:Res E (bnd (Lj w) k om) F H β P) :
    ∃h d ks kvs,v=.ref d∧β[h]?=some d∧RK F β kvs ks∧kvs.length<=lim∧((H d=some (.dK ks)∧(∀ob,MOk F (upd H d (.frz ob (.dK ks))) β (om.set h (.dz kvs)))∧Res E (k (true,h,kvs.map fun p=>Uf p.1) (om.set h (.dz kvs))) F H β P)∨∃ob,H d=some (.frz ob (.dK ks))∧Res E (k (false,h,kvs.map fun p=>Uf p.1) om) F H β P):=by
 cases r with
 |@o h d eb =>
  unfold bnd Lj at R
  dsimp only at R
  match hx:om[h]?,R with
  |none,R=>exact R.elim
  |some (.ins _ _),R=>exact R.elim
  |some (.exc _),R=>exact R.elim
  |some (.lst _),R=>exact R.elim
  |some (.dt _),R=>exact R.elim
  |some (.dk kvs),R =>
   obtain ⟨a',ea,hF,ks,hks,rs⟩:=M.at hx
   have eb2:=ea
   rw[eb]at ea; cases ea
   dsimp only at R
   by_cases hlen:kvs.length<=lim
   ·rw[if_pos hlen]at R
    exact ⟨h,d,ks,kvs,rfl,eb2,rs,hlen,.inl ⟨hks,fun ob=>M.put eb2 ⟨ob,ks,Zu,rs⟩,R⟩⟩
   ·rw[if_neg hlen]at R; exact R.elim
  |some (.dz kvs),R =>
   obtain ⟨a',ea,hF,ob,ks,hks,rs⟩:=M.at hx
   have eb2:=ea
   rw[eb]at ea; cases ea
   dsimp only at R
   by_cases hlen:kvs.length<=lim
   ·rw[if_pos hlen]at R
    exact ⟨h,d,ks,kvs,rfl,eb2,rs,hlen,.inr ⟨ob,hks,R⟩⟩
   ·rw[if_neg hlen]at R; exact R.elim
 |_=>exact R.elim
theorem NC {X:Cx} {fd:FE} (hk:Vf E k) {σ:St} {H:Hp} {Q:VK} (h:tE E (Wb k js fd c f) σ H Q):L6 (Es X (tE E fd)) js (fun _ _ _ _=>tT E0 c) (fun _ _ _ _=>tE E0 f) σ H (fun v=>Thawed X (Q v)):=by
 obtain ⟨F,β,om,sl,M,V,R⟩:=h
 refine ⟨F,β,om,sl,M,V,R.bind fun w om1 F1 H1 β1 g1 M1 R1 v rv=>?_⟩
 obtain ⟨h,d,ks,kvs,rfl,eb,rs,hlen,R1⟩:=R1.frz M1 rv
 rcases R1 with ⟨hks,Mz,R2⟩|⟨ob,hks,R2⟩
 ·refine ⟨d,ks,rfl,.inl ⟨hks,fun ob nf D hD _ _ _ _=>?_⟩⟩
  refine VL (C:=fun H=>H d=some (.frz ob (.dK ks))) (Q:=fun v=>Thawed X (Q v)) (mk:=fun w=>Xa js w sl) (K:=fun x H' P=>P (Y4 js (some x) σ) H') (fun _=>True) (Held h d ob ks F1 H1 β1) (fun _ V r _ h=>h _ (V.comp js r)) (fun _ _=>True.intro)
   (fun M' G' g'=>Held.go M' G' g') (fun G'=>G'.2.1) (PP rs) ?_ (Mz ob) (V.mono g1.toGr) (Held.start eb hks) hD (by rw[List.length_map]; exact hlen) R2
  intro us vs om' F' H' β' M' G' ra R' hD'
  have hz':=G'.2.1
  obtain ⟨kvs',Mt,R'⟩:=Held.thw M' G' R'
  have nDd:D≠d:=fun z=>by rw[z,hz']at hD'; cases hD'
  have q:=(hk (p:=D) Mt ra (Res.mono G'.2.2 R')).2 (by rw[Zr nDd]; exact hD')
  refine .inl ⟨d,ob,ks,nf,by rw[Zr (Ne.symm nDd)]; exact hz',?_⟩
  have e:upd (upd H' D (.lst vs)) d (.dK ks)=upd (upd H' d (.dK ks)) D (.lst vs):=by
   funext b
   by_cases z1:b=d
   ·rw[z1,Zu,Zr (Ne.symm nDd),Zu]
   ·by_cases z2:b=D
    ·rw[z2,Zr nDd,Zu,Zu]
    ·rw[Zr z1,Zr z2,Zr z2,Zr z1]
  show Q (.ref D) _
  rw[e]
  exact q
 ·refine ⟨d,ks,rfl,.inr ⟨ob,hks,fun D hD _ _ _ _=>?_⟩⟩
  refine VL (C:=fun H=>H d=some (.frz ob (.dK ks))) (Q:=fun v=>Thawed X (Q v)) (mk:=fun w=>Xa js w sl) (K:=fun x H' P=>P (Y4 js (some x) σ) H') (fun _=>True) (fun F H β=>Gx F1 F H1 H β1 β) (fun _ V r _ h=>h _ (V.comp js r)) (fun _ _=>True.intro)
   (fun _ a b=>a.trans b) (fun G'=>G'.frz d _ _ hks) (PP rs) ?_ M1 (V.mono g1.toGr) (Gx.refl _ _ _) hD (by rw[List.length_map]; exact hlen) R2
  intro us vs om' F' H' β' M' G' ra R' hD'
  have R':Res E (k us om') F1 H1 β1 (PV Q):=R'
  exact .inr ((hk (p:=D) M' ra (Res.mono G' R')).2 hD')
section
variable {scope:Scope} {cl:List (Str × Addr)} {x:Str} {cn:List Str} {elt iter:Expr} {ifs:List Expr} {px pos:Pos} {fi:FI}
theorem Wz (hk:Vf E k) (O:CompOk X scope cl x cn js) (hc:X.calm=true) (hi:PI X (.Name x px) iter (tI E fi)) (ht:∀C s₂ H₂ fp,VT (Yp X scope cl x cn C s₂ H₂ fp) ifs (tT E0 c)) (he:∀C s₂ H₂ fp,PE (Yp X scope cl x cn C s₂ H₂ fp) elt (tE E0 f))
    (hs:∀v,foldedSetIterable iter X.env v=pure v:=by intro _; rfl):PE X (.ListComp elt [⟨.Name x px,iter,ifs,0⟩] scope pos) (tE E (Yc k js fi c f)):=(Kl O hc hi ht he hs).weak fun σ H Q h=>LI hk h
theorem Iw {xs:List Str} {tg:Expr} (hk:Vf E k) (O:CompOkT X scope cl xs cn js) (hc:X.calm=true) (hg:∀C s₂ H₂ fp,PG (Z7 X scope cl xs cn C s₂ H₂ fp) tg (Jg X.K xs.length (gNs (List.range' 0 xs.length)))) (hi:PI X tg iter (tI E fi)) (ht:∀C s₂ H₂ fp,VT (Z7 X scope cl xs cn C s₂ H₂ fp) ifs (tT E0 c)) (he:∀C s₂ H₂ fp,PE (Z7 X scope cl xs cn C s₂ H₂ fp) elt (tE E0 f))
    (hs:∀v,foldedSetIterable iter X.env v=pure v:=by intro _; rfl):PE X (.ListComp elt [⟨tg,iter,ifs,0⟩] scope pos) (tE E (We k xs.length js fi c f)):=(J2 O hc hg hi ht he hs).weak fun σ H Q h=>Mc hk h
theorem Si {xs:List Str} {tg:Expr} {j:Nat} {y:Str} {py spos:Pos} (hk:Vf E k) (O:CompOkT X scope cl xs cn js) (hc:X.calm=true) (hg:∀C s₂ H₂ fp,PG (Z7 X scope cl xs cn C s₂ H₂ fp) tg (Jg X.K xs.length (gNs (List.range' 0 xs.length)))) (hi:PI X tg iter (tI E fi)) (ht:∀C s₂ H₂ fp,VT (Z7 X scope cl xs cn C s₂ H₂ fp) ifs (tT E0 c)) (he:∀C s₂ H₂ fp,PE (Z7 X scope cl xs cn C s₂ H₂ fp) elt (tE E0 f))
    (hN:X.N.Nodup) (hj:X.N[j]?=some y) (hy:Loc X.env.scope y) (hsw:swapsWith (.ListComp elt [⟨tg,iter,ifs,0⟩] scope pos) (some (.Name y py)) spos.line X.env=pure true)
    (hs:∀v,foldedSetIterable iter X.env v=pure v:=by intro _; rfl) (hf:X.fn y=true∨X.env.scope.names.lookup y=some .local:=by first|exact .inl rfl|exact .inr rfl) :
    PS X (.Assign [.Name y py] (.ListComp elt [⟨tg,iter,ifs,0⟩] scope pos) spos) (tS E (ZO j (We k xs.length js fi c f))):=(NG O hc hg hi ht he hN hj hy hsw hs hf).weak fun D σ H ⟨F,β,om,sl,M,V,R⟩=>by
 refine Mc hk ⟨F,β,om,sl,M,V,R.bind fun w om1 F1 H1 β1 g1 M1 R1 v rv=>?_⟩
 exact (show Res E (ret (Fl.nx,sl.set j (some w)) om1) F1 H1 β1 (FlP D) from R1).now M1 _ ((V.mono g1.toGr).set j rv)
theorem Im {fd:FE} (hk:Vf E k) (O:CompOk X scope cl x cn js) (hc:X.calm=true) (hd:PE X iter (tE E fd)) (ht:∀C s₂ H₂ fp,VT (Yp X scope cl x cn C s₂ H₂ fp) ifs (tT E0 c)) (he:∀C s₂ H₂ fp,PE (Yp X scope cl x cn C s₂ H₂ fp) elt (tE E0 f))
    (hs:∀v,foldedSetIterable iter X.env v=pure v:=by intro _; rfl):PE X (.ListComp elt [⟨.Name x px,iter,ifs,0⟩] scope pos) (tE E (Wb k js fd c f)):=(FD (Kl O hc (PK hd) ht he hs)).weak fun σ H Q h=>NC hk h
theorem Xh {j:Nat} {y:Str} {py spos:Pos} (hk:Vf E k) (O:CompOk X scope cl x cn js) (hc:X.calm=true) (hi:PI X (.Name x px) iter (tI E fi)) (ht:∀C s₂ H₂ fp,VT (Yp X scope cl x cn C s₂ H₂ fp) ifs (tT E0 c)) (he:∀C s₂ H₂ fp,PE (Yp X scope cl x cn C s₂ H₂ fp) elt (tE E0 f))
    (hN:X.N.Nodup) (hj:X.N[j]?=some y) (hy:Loc X.env.scope y) (hsw:swapsWith (.ListComp elt [⟨.Name x px,iter,ifs,0⟩] scope pos) (some (.Name y py)) spos.line X.env=pure true)
    (hs:∀v,foldedSetIterable iter X.env v=pure v:=by intro _; rfl) (hf:X.fn y=true∨X.env.scope.names.lookup y=some .local:=by first|exact .inl rfl|exact .inr rfl) :
    PS X (.Assign [.Name y py] (.ListComp elt [⟨.Name x px,iter,ifs,0⟩] scope pos) spos) (tS E (ZO j (Yc k js fi c f))):=(RH O hc hi ht he hN hj hy hsw hs hf).weak fun D σ H ⟨F,β,om,sl,M,V,R⟩=>by
 refine LI hk ⟨F,β,om,sl,M,V,R.bind fun w om1 F1 H1 β1 g1 M1 R1 v rv=>?_⟩
 exact (show Res E (ret (Fl.nx,sl.set j (some w)) om1) F1 H1 β1 (FlP D) from R1).now M1 _ ((V.mono g1.toGr).set j rv)
theorem Nr {j:Nat} {y:Str} {py spos:Pos} {fd:FE} (hk:Vf E k) (O:CompOk X scope cl x cn js) (hc:X.calm=true) (hd:PE X iter (tE E fd)) (ht:∀C s₂ H₂ fp,VT (Yp X scope cl x cn C s₂ H₂ fp) ifs (tT E0 c)) (he:∀C s₂ H₂ fp,PE (Yp X scope cl x cn C s₂ H₂ fp) elt (tE E0 f))
    (hN:X.N.Nodup) (hj:X.N[j]?=some y) (hy:Loc X.env.scope y) (hsw:swapsWith (.ListComp elt [⟨.Name x px,iter,ifs,0⟩] scope pos) (some (.Name y py)) spos.line X.env=pure true)
    (hs:∀v,foldedSetIterable iter X.env v=pure v:=by intro _; rfl) (hf:X.fn y=true∨X.env.scope.names.lookup y=some .local:=by first|exact .inl rfl|exact .inr rfl) :
    PS X (.Assign [.Name y py] (.ListComp elt [⟨.Name x px,iter,ifs,0⟩] scope pos) spos) (tS E (ZO j (Wb k js fd c f))):=(LX (RH O hc (PK hd) ht he hN hj hy hsw hs hf)).weak fun D σ H ⟨F,β,om,sl,M,V,R⟩=>by
 refine NC (Q:=fun v H1=>D.nx (σ.set j (some v)) H1) hk ⟨F,β,om,sl,M,V,R.bind fun w om1 F1 H1 β1 g1 M1 R1 v rv=>?_⟩
 exact (show Res E (ret (Fl.nx,sl.set j (some w)) om1) F1 H1 β1 (FlP D) from R1).now M1 _ ((V.mono g1.toGr).set j rv)
end
end
theorem Lp {α γ:Type} (m:Mw α) (k:α->Mw γ):Z4 (bnd m k)=bnd (Z4 m) fun x=>Z4 (k x):=by
 funext om
 match h:m om with
 |none=>simp[bnd,Z4,h]
 |some (.ok a,om')=>simp[bnd,Z4,h]
 |some (.error c,om')=>simp[bnd,Z4,h]
def LA (fd:FE) (T:TgW) (S:FS):FS:=fun sl=>bnd (fd sl) fun d=>bnd (Lj d) fun p=>bnd (Z4 (WU T S p.2.2 sl)) fun r=>bnd (MK p.1 p.2.1) fun _=>ret r
section
variable {X:Cx} {E:XK} {tg iter:Expr} {body:List Stmt} {fd:FE} {T:TgW} {g:TG} {S:FS} {pos:Pos}
theorem NA {D:Ends} {C:Hp->Prop} {J:It} {ws:List Wv} {σ:St} {H F F0 H0:Hp} {β β0:List Addr} {om:List Ob} {sl:Sl} {P:Fl × Sl->Hp->Hp->List Addr->Prop} {kf:Fl × Sl->Mw (Fl × Sl)} (GG:Hp->Hp->List Addr->Prop)
    (hG:∀{F F' H H':Hp} {β β':List Addr} {om:List Ob},MOk F H β om->GG F H β->Gx F F' H H' β β'->GG F' H' β') (hC:∀{F H:Hp} {β:List Addr},GG F H β->C H) (ht:KY g T) (hJ:ItC C J ws F β)
    (hk:∀{y:Fl × Sl} {om:List Ob} {F H:Hp} {β:List Addr},MOk F H β om->GG F H β->Res E (kf y om) F0 H0 β0 P->FlP D y F H β)
    (M:MOk F H β om) (V:EnvOk F β σ sl) (G:GG F H β) (R:Res E (bnd (Z4 (WU T S ws sl)) kf om) F0 H0 β0 P) :
    ∃W:Nat->Nat->St->Hp->Prop,(∃m,W 0 m σ H)∧∀i m σ H,W i m σ H ->
     (J.stop i H∧D.nx σ H)∨(J.go i H∧∃N:St->Hp->Prop,(∀σ' H',N σ' H'->∃m',m' < m∧W (i+1) m' σ' H')∧∀x H',J.yld i H x H'->g x σ H' fun σ2 H2=>tS E S { D with nx:=N,ct:=N,bk:=D.nx } σ2 H2):=by
 refine ⟨fun i m σ H=>m=ws.length - i∧i<=ws.length∧∃F β om sl,ItC C J ws F β∧GG F H β∧MOk F H β om∧EnvOk F β σ sl∧Res E (bnd (Z4 (WU T S (ws.drop i) sl)) kf om) F0 H0 β0 P,⟨ws.length,by simp,Nat.zero_le _,F,β,om,sl,hJ,G,M,V,R⟩,?_⟩
 rintro i m σ H ⟨rfl,hi,F,β,om,sl,hJ,G,M,V,R⟩
 obtain ⟨j1,j2⟩:=hJ F β H (Gr.refl _ _) M.sub (hC G)
 by_cases hlt:i < ws.length
 ·obtain ⟨go,yl⟩:=j1 i ws[i] (List.getElem?_eq_getElem hlt)
  refine .inr ⟨go,fun σ' H'=>i+1<=ws.length∧∃F β om sl,ItC C J ws F β∧GG F H' β∧MOk F H' β om∧EnvOk F β σ' sl∧Res E (bnd (Z4 (WU T S (ws.drop (i+1)) sl)) kf om) F0 H0 β0 P,fun σ' H' ⟨h1,h2⟩=>⟨ws.length - (i+1),by omega,rfl,h1,h2⟩,fun x H' hy=>?_⟩
  obtain ⟨rfl,rx⟩:=yl x H' hy
  rw[List.drop_eq_getElem_cons hlt]at R
  have R:Res E (bnd (Z4 (match T ws[i] sl with|none=>XN|some sl1=>bnd (S sl1) (Sr fun sl2=>WU T S (ws.drop (i+1)) sl2))) kf om) F0 H0 β0 P:=R
  match hT:T ws[i] sl,R with
  |none,R=>exact R.elim
  |some sl1,R =>
   refine ht M V rx hT fun σ2 V2=>?_
   refine ⟨F,β,om,sl1,M,V2,?_⟩
   dsimp only at R
   rw[Lp,VM]at R
   have R':=R
   unfold bnd Z4 at R'
   match hm:S sl1 om,R' with
   |none,R'=>exact R'.elim
   |some (.error _,_),R'=>exact R'.elim
   |some (.ok y,om1),R' =>
    have R1:Res E (bnd (Z4 (Sr (fun sl2=>WU T S (ws.drop (i+1)) sl2) y)) kf om1) F0 H0 β0 P:=R'
    intro F1 H1 β1 g1 M1
    have G1:=hG M G g1
    obtain ⟨fl,sl2⟩:=y
    cases fl with
    |nx=>exact fun σ' V'=>⟨hlt,F1,β1,om1,sl2,hJ.mono g1.toGr,G1,M1,V',R1⟩
    |ct=>exact fun σ' V'=>⟨hlt,F1,β1,om1,sl2,hJ.mono g1.toGr,G1,M1,V',R1⟩
    |bk=>exact hk (y:=(.nx,sl2)) M1 G1 R1
    |rt w=>exact hk (y:=(.rt w,sl2)) M1 G1 R1
 ·have e:i=ws.length:=by omega
  subst e
  rw[List.drop_length]at R
  exact .inl ⟨j2 _ (Nat.le_refl _),hk (y:=(.nx,sl)) M G (show Res E (kf (.nx,sl) om) F0 H0 β0 P from R) σ V⟩
theorem Fh (hp:PassesOwn (model X.prog X.w) X.A X.env X.xe) (hc:X.calm=true) (hi:PE X iter (tE E fd)) (hg:PG X tg g) (ht:KY g T) (hb:PSs X body (tS E S)) (hs:∀x,foldedSetIterable iter X.env x=pure x:=by intro _; rfl):PS X (.For tg iter body [] pos) (tS E (LA fd T S)):=(LX (JS hp hc (PK hi) hg hb hs)).weak fun D σ H ⟨F,β,om,sl,M,V,R⟩=>by
 refine ⟨F,β,om,sl,M,V,R.bind fun w om1 F1 H1 β1 g1 M1 R1 v rv=>?_⟩
 obtain ⟨h,d,ks,kvs,rfl,eb,rs,hlen,R1⟩:=R1.frz M1 rv
 rcases R1 with ⟨hks,Mz,R2⟩|⟨ob,hks,R2⟩
 ·refine ⟨d,ks,rfl,.inl ⟨hks,fun ob nf=>?_⟩⟩
  refine NA (D:=LR X D) (C:=fun H=>H d=some (.frz ob (.dK ks))) (Held h d ob ks F1 H1 β1) (fun M' G' g'=>Held.go M' G' g') (fun G'=>G'.2.1) ht (PP rs) ?_ (Mz ob) (V.mono g1.toGr) (Held.start eb hks) R2
  intro y om' F' H' β' M' G' R'
  have hz':=G'.2.1
  obtain ⟨kvs',Mt,R'⟩:=Held.thw M' G' R'
  have q:FlP D y F' (upd H' d (.dK ks)) β':=(show Res E (some (Except.ok y,om'.set h (.dk kvs'))) F1 H1 β1 (FlP D) from R') F' _ β' G'.2.2 Mt
  obtain ⟨fl,sl2⟩:=y
  cases fl with
  |nx=>exact fun σ' V'=>.inl ⟨d,ob,ks,nf,hz',q σ' V'⟩
  |bk=>exact fun σ' V'=>.inl ⟨d,ob,ks,nf,hz',q σ' V'⟩
  |ct=>exact fun σ' V'=>.inl ⟨d,ob,ks,nf,hz',q σ' V'⟩
  |rt w=>exact fun v r=>.inl ⟨d,ob,ks,nf,hz',q v r⟩
 ·refine ⟨d,ks,rfl,.inr ⟨ob,hks,?_⟩⟩
  refine NA (D:=LR X D) (C:=fun H=>H d=some (.frz ob (.dK ks))) (fun F H β=>Gx F1 F H1 H β1 β) (fun _ a b=>a.trans b) (fun G'=>G'.frz d _ _ hks) ht (PP rs) ?_ M1 (V.mono g1.toGr) (Gx.refl _ _ _) R2
  intro y om' F' H' β' M' G' R'
  have q:FlP D y F' H' β':=(show Res E (some (Except.ok y,om')) F1 H1 β1 (FlP D) from R') F' H' β' G' M'
  obtain ⟨fl,sl2⟩:=y
  cases fl with
  |nx=>exact fun σ' V'=>.inr (q σ' V')
  |bk=>exact fun σ' V'=>.inr (q σ' V')
  |ct=>exact fun σ' V'=>.inr (q σ' V')
  |rt w=>exact fun v r=>.inr (q v r)
end
def kWh (again:Sl->Mw (Fl × Sl)) (S:FS) (sl:Sl) (b:Bool):Mw (Fl × Sl):=if b=true then bnd (S sl) (Sr again) else ret (.nx,sl)
def WI (c:FT) (S:FS):Nat->FS
 |0,_=>XN
 |n+1,sl=>bnd (c sl) (kWh (fun sl2=>WI c S n sl2) S sl)
section
variable {X:Cx} {E:XK} {t:Expr} {body:List Stmt} {c:FT} {S:FS} {pos:Pos}
theorem HX (n:Nat) (hp:PassesOwn (model X.prog X.w) X.A X.env X.xe) (hc:PT X t (tT E c)) (hb:PSs X body (tS E S)):PS X (.While t body [] pos) (tS E (WI c S n)):=(Ga hp hc hb).weak fun D σ H ⟨F,β,om,sl,M,V,R⟩=>by
 refine ⟨fun m σ H=>∃F β om sl,MOk F H β om∧EnvOk F β σ sl∧Res E (WI c S m sl om) F H β (FlP D),⟨n,F,β,om,sl,M,V,R⟩,?_⟩
 rintro m σ H ⟨F,β,om,sl,M,V,R⟩
 cases m with
 |zero=>exact R.elim
 |succ m =>
  refine ⟨F,β,om,sl,M,V,Res.bind (m:=c sl) (k:=kWh (fun sl2=>WI c S m sl2) S sl) R fun b om1 F1 H1 β1 g1 M1 R1=>?_⟩
  cases b with
  |false =>
   rw[if_neg Bool.false_ne_true]
   exact (show Res E (ret (Fl.nx,sl) om1) F1 H1 β1 (FlP D) from R1).now M1 σ (V.mono g1.toGr)
  |true =>
   rw[if_pos rfl]
   refine ⟨fun σ' H'=>∃F β om sl,MOk F H' β om∧EnvOk F β σ' sl∧Res E (WI c S m sl om) F H' β (FlP D),fun σ' H' h=>⟨m,Nat.lt_succ_self m,h⟩,?_⟩
   refine ⟨F1,β1,om1,sl,M1,V.mono g1.toGr,Res.bind (m:=S sl) (k:=Sr fun sl2=>WI c S m sl2) R1 fun y om2 F2 H2 β2 g2 M2 R2=>?_⟩
   obtain ⟨fl,sl2⟩:=y
   cases fl with
   |nx=>exact fun σ' V'=>⟨F2,β2,om2,sl2,M2,V',R2⟩
   |ct=>exact fun σ' V'=>⟨F2,β2,om2,sl2,M2,V',R2⟩
   |bk=>exact (show Res E (ret (Fl.nx,sl2) om2) F2 H2 β2 (FlP D) from R2).now M2
   |rt w=>exact (show Res E (ret (Fl.rt w,sl2) om2) F2 H2 β2 (FlP D) from R2).now M2
end
def tM (E:XK) (f:Sl->Mw Unit):TA:=fun σ H Q=>∃F β om sl,MOk F H β om∧EnvOk F β σ sl∧Res E (f sl om) F H β fun _ F' H' β'=>∀vs,Q vs H'
def AS:Wv->Mw Unit
 |.int i=>chk (decide (i.natAbs < 1000000000000))
 |_=>XN
def Lf:Sl->Mw Unit:=fun _=>ret ()
def Np (f:FE) (r:Sl->Mw Unit):Sl->Mw Unit:=fun sl=>bnd (f sl) fun x=>bnd (AS x) fun _=>r sl
def Ug (C:Addr) (m:Sl->Mw Unit):FS:=fun sl=>bnd (m sl) fun _=>Dd C
theorem Jz {i:Int} (h:i.natAbs < 1000000000000):i.natAbs.log2 < 1920:=by
 by_cases h0:i.natAbs=0
 ·rw[h0]; decide
 ·exact (Nat.log2_lt h0).mpr (Nat.lt_of_lt_of_le (show i.natAbs < 2 ^ 40 by omega) (Nat.pow_le_pow_right (by decide) (by decide)))
section
variable {X:Cx} {E:XK} {e:Expr} {es:List Expr} {f:FE} {m:Sl->Mw Unit} {pos:Pos}
theorem PJ.weak {n:Nat} {t t':TA} (h:PJ X n es t) (w:∀σ H Q,t' σ H Q->t σ H Q):PJ X n es t':=fun pins s σ H acc Q I hl q=>h pins s σ H acc Q I hl (w σ H _ q)
theorem Ts:PJ X 2000 [] (tM E Lf):=D0.weak fun σ H Q ⟨F,β,om,sl,M,V,R⟩=>(show Res E (ret () om) F H β _ from R).now M []
theorem Vn {x:Str} {j p} (hr:PJ X 2000 es (tM E m)) (hx:x.length<=2000:=by decide) (hs:evalEach (.Constant (.str x) j p::es) X.env=eval (.Constant (.str x) j p) X.env::evalEach es X.env:=by rfl):PJ X 2000 (.Constant (.str x) j p::es) (tM E m):=(Kh Gd hr hs).weak fun σ H Q h=>⟨⟨x,rfl,hx⟩,h⟩
theorem Ua {p:Pos} (he:PE X e (tE E f)) (hr:PJ X 2000 es (tM E m)) (hs:evalEach (.FormattedValue e (-1) none p::es) X.env=eval (.FormattedValue e (-1) none p) X.env::evalEach es X.env:=by rfl):PJ X 2000 (.FormattedValue e (-1) none p::es) (tM E (Np f m)):=(Kh (Cg he) hr hs).weak fun σ H Q ⟨F,β,om,sl,M,V,R⟩=>by
 refine ⟨F,β,om,sl,M,V,R.bind fun w om1 F1 H1 β1 g1 M1 R1 v rv=>?_⟩
 cases rv with
 |int i =>
  obtain ⟨hc,R2⟩:=Res.chk R1
  have hl:=Jz (of_decide_eq_true hc)
  exact ⟨i,rfl,hl,⟨_,rfl,KC hl (by decide)⟩,F1,β1,om1,sl,M1,V.mono g1.toGr,R2⟩
 |_=>exact R1.elim
theorem WW {x:Str} {C:Addr} {bmB:List Value} {B newId initId:String} {v₁ v₂:Expr} {rest:List Expr} {np cpos p2:Pos} (FB:ExcBaseFacts B newId initId bmB) (q:PySem.W.excIn X.K C bmB newId=true) (hg:Gl X x) (hm:X.mg x=some (.ref C)) (hc:X.calm=true) (hE:Lw X E)
    (h:PJ X 2000 (v₁::v₂::rest) (tM E m)) (hn:2000 * (v₁::v₂::rest).length<=16000000:=by decide)
    (hs:evalEach (v₁::v₂::rest) X.env=eval v₁ X.env::eval v₂ X.env::evalEach rest X.env:=by rfl)
    (he:starEach [.JoinedStr (v₁::v₂::rest) p2] X.env=(false,eval (.JoinedStr (v₁::v₂::rest) p2) X.env)::starEach [] X.env:=by rfl) (hpl:(backTo cpos (starEach [] X.env)).any (·.1)=false:=by rfl) (hdb:(x == ("__debug__":Str))=false:=by decide) :
    PS X (.Raise (some (.Call (.Name x np) [.JoinedStr (v₁::v₂::rest) p2] [] cpos)) none pos) (tS E (Ug C m)):=(Hb (E:=E) FB q hg hm hc hE (WB (G8 h hn hs) Vo he) he hpl hdb).weak fun D σ H ⟨F,β,om,sl,M,V,R⟩=>by
 refine ⟨F,β,om,sl,M,V,R.bind fun w om1 F1 H1 β1 g1 M1 R1 vs z=>⟨by show 1<=sizeLine; decide,?_⟩⟩
 exact (show Res E (Dd C om1) F1 H1 β1 (FlP D) from R1) F1 H1 β1 (Gx.refl _ _ _) M1
end
def Lm:Fl × Sl->Mw Wv
 |(.rt w,_)=>ret w
 |(.nx,_)=>ret .non
 |_=>XN
def WD (n:Nat) (ws:List Wv):Sl:=ws.map some++List.replicate (n - ws.length) none
def Yl (n:Nat) (S:FS) (ws:List Wv):Mw Wv:=bnd (S (WD n ws)) Lm
theorem EnvOk.start {F:Hp} {β:List Addr} {ws:List Wv} {vs:List V} (N:List Str) (r:RWs F β ws vs):EnvOk F β (L2.start N vs) (WD N.length ws):=by
 have hl:=r.length
 refine ⟨by simp[L2.start,WD,hl],fun i w e=>?_⟩
 unfold WD at e
 unfold L2.start
 by_cases hi:i < ws.length
 ·rw[List.getElem?_append_left (by simpa using hi),List.getElem?_map]at e
  match hw:ws[i]?,e with
  |none,e=>exact nomatch e
  |some u,e =>
   have e:some (some u)=some (some w):=e
   cases e
   obtain ⟨v,ev,rv⟩:=r.get hw
   refine ⟨v,?_,rv⟩
   rw[List.getElem?_append_left (by rw[List.length_map]; omega),List.getElem?_map,ev]
   rfl
 ·rw[List.getElem?_append_right (by simpa using hi)]at e
  have:=List.mem_of_getElem? e
  rw[List.mem_replicate]at this
  exact nomatch this.2
section
variable {P:Program} {w:World} {K:PySem.W.Frag} {mg:Str->Option Value} {base:Heap}
theorem Z0 {x qual:Str} {st:Stmt} {f:Addr} {fd:FuncData} {N ps:List Str} {k:Nat} {S:FS} (F:Fun K x qual st f fd) (Sc:FnScope N ps (Zg st))
    (h:∀(cdv:Value) (A:Around) (outer:List Env) (s:Shared) (H:Hp) (E:XK),Room k (A.deeper (envOfC qual (Zg st) s.heap.objs.size f cdv))->PSs (PU (CXw P w) P w K mg base N qual (Zg st) f cdv A outer s H E) (Zw st) (tS E S)) :
    FnOk P w K mg base (CXw P w) (k+1) f fd ps (spM ps.length (Yl N.length S)):=by
 refine F.okX Sc (fun vs H Q E h=>?_) (fun cdv A outer s H vs Q E hr hsp=>⟨_,h cdv A outer s H E hr,?_⟩)
 ·obtain ⟨F,β,om,ws,M,rs,hl,R⟩:=h
  rw[← rs.length,hl]
 ·obtain ⟨F,β,om,ws,M,rs,hl,R⟩:=hsp
  refine ⟨F,β,om,_,M,EnvOk.start N rs,Res.bind (m:=S (WD N.length ws)) (k:=Lm) R fun y om1 F1 H1 β1 g1 M1 R1=>?_⟩
  obtain ⟨fl,sl⟩:=y
  cases fl with
  |nx=>exact fun σ' V'=>(show Res E (ret Wv.non om1) F1 H1 β1 (PV Q) from R1).now M1 _ .non
  |bk=>exact R1.elim
  |ct=>exact R1.elim
  |rt u=>exact (show Res E (ret u om1) F1 H1 β1 (PV Q) from R1).now M1
end
end
open PySem PySem.W PyProof.Rows
structure Swo (lt:Nat->Nat->Bool):Prop where
 irr:∀a,lt a a=false
 tr:∀a b c,lt a b=true->lt b c=true->lt a c=true
 neg:∀a b c,lt a c=true->lt a b=true∨lt b c=true
def Hs {α:Type} (lt:Nat->Nat->Bool) (n:Nat) (Q:α->Prop):KasT α->Prop
 |.ret a=>Q a
 |.ask i j k=>i < n∧j < n∧Hs lt n Q (k (lt i j))
theorem Hs.bind {α γ:Type} {lt:Nat->Nat->Bool} {n:Nat} {Q:γ->Prop} {f:α->KasT γ}:∀{t:KasT α},Hs lt n (fun a=>Hs lt n Q (f a)) t->Hs lt n Q (t.bind f)
 |.ret a,h=>h
 |.ask i j k,⟨h1,h2,h3⟩=>⟨h1,h2,Hs.bind h3⟩
theorem Hs.wp {α:Type} {lt:Nat->Nat->Bool} {n:Nat} {Q':α->Prop} {Q:α->Shared->Prop} {cmp:Nat->Nat->(Bool->Shared->Prop)->Shared->Prop} {s:Shared} (hc:∀i j C,i < n->j < n->C (lt i j) s->cmp i j C s) (hq:∀a,Q' a->Q a s):∀{t:KasT α},Hs lt n Q' t->t.kasWp cmp Q s
 |.ret a,h=>hq a h
 |.ask i j k,⟨h1,h2,h3⟩=>hc i j _ h1 h2 (Hs.wp hc hq h3)
def gN (p:Array Nat) (i:Nat):Nat:=p.getD i 0
theorem Nm {p q:Array Nat} {i j:Nat} (h:p[i]?=q[j]?):gN p i=gN q j:=by
 unfold gN
 rw[Array.getD_eq_getD_getElem?,Array.getD_eq_getD_getElem?,h]
theorem Rb {p:Array Nat} {i j:Nat} (hj:j<=p.size) (k:Nat):gN (kas_rev p i j) k=if i<=k∧k < j then gN p (i+j - 1 - k) else gN p k:=by
 have e:=getElem?_mirror_all (xs:=p) (i:=i) hj k
 unfold kas_rev
 split at e <;> rename_i h
 ·rw[if_pos h]; exact Nm e
 ·rw[if_neg h]; exact Nm e
theorem Ht {p:Array Nat} {k d:Nat} (hs:k < p.size) (hd:d<=k) (i:Nat):gN (bubble p k d) i=if i=k - d then gN p k else if k - d < i∧i<=k then gN p (i - 1) else gN p i:=by
 have e:=getElem?_bubble hs d hd i
 by_cases h1:i=k - d
 ·rw[if_pos h1]at e ⊢; exact Nm e
 ·rw[if_neg h1]at e ⊢
  by_cases h2:k - d < i∧i<=k
  ·rw[if_pos h2]at e ⊢; exact Nm e
  ·rw[if_neg h2]at e ⊢; exact Nm e
structure Pm (n:Nat) (p:Array Nat):Prop where
 size:p.size=n
 perm:p.toList.Perm (List.range n)
theorem Pm.lt {n:Nat} {p:Array Nat} (P:Pm n p) (hn:0 < n) (i:Nat):gN p i < n:=by
 unfold gN
 by_cases h:i < p.size
 ·rw[Array.getD_eq_getD_getElem?,Array.getElem?_eq_getElem h]
  have:p[i]∈p.toList:=by simp
  have:=P.perm.mem_iff.mp this
  simpa using this
 ·rw[Array.getD_eq_getD_getElem?,Array.getElem?_eq_none (by omega)]
  exact hn
theorem Pm.rev {n:Nat} {p:Array Nat} (P:Pm n p) (i j:Nat):Pm n (kas_rev p i j) :=
 ⟨(mirror_size _ _ _ _).trans P.size,(Array.perm_iff_toList_perm.mp (mirror_perm _ _ _ _)).trans P.perm⟩
theorem Pm.bub {n:Nat} {p:Array Nat} (P:Pm n p) (k d:Nat):Pm n (bubble p k d) :=
 ⟨(bubble_size _ _ _).trans P.size,(Array.perm_iff_toList_perm.mp (bubble_perm _ _ _)).trans P.perm⟩
section
variable {lt:Nat->Nat->Bool} (O:Swo lt) {n:Nat}
def le' (lt:Nat->Nat->Bool) (a b:Nat):Prop:=lt b a=false
include O
theorem XE {a b c:Nat} (h1:le' lt a b) (h2:le' lt b c):le' lt a c:=by
 unfold le' at *
 cases h:lt c a with
 |false=>rfl
 | true => rcases O.neg c b a h with z | z
           ·rw[h2]at z; cases z
           ·rw[h1]at z; cases z
theorem OK {a b:Nat} (h:lt a b=true):le' lt a b:=by
 unfold le'
 cases z:lt b a with
 |false=>rfl
 |true=>have:=O.tr a b a h z; rw[O.irr]at this; cases this
theorem Cz {a b c:Nat} (h1:lt a b=true) (h2:le' lt b c):lt a c=true:=by
 rcases O.neg a c b h1 with z|z
 ·exact z
 ·rw[h2]at z; cases z
omit O in
def Srt (lt:Nat->Nat->Bool) (p:Array Nat) (m:Nat):Prop:=∀i j,i<=j->j < m->le' lt (gN p i) (gN p j)
omit O in
def Fal (lt:Nat->Nat->Bool) (p:Array Nat) (m:Nat):Prop:=∀i j,i<=j->j < m->le' lt (gN p j) (gN p i)
theorem Srt.more {p:Array Nat} {m:Nat} (h1:1<=m) (S:Srt lt p m) (h:le' lt (gN p (m - 1)) (gN p m)):Srt lt p (m+1):=fun i j hij hj=>by
 by_cases hjm:j < m
 ·exact S i j hij hjm
 ·have:j=m:=by omega
  subst this
  by_cases hi:i=j
  ·subst hi; exact O.irr _
  ·exact XE O (S i (j - 1) (by omega) (by omega)) h
theorem Fal.more {p:Array Nat} {m:Nat} (h1:1<=m) (S:Fal lt p m) (h:le' lt (gN p m) (gN p (m - 1))):Fal lt p (m+1):=fun i j hij hj=>by
 by_cases hjm:j < m
 ·exact S i j hij hjm
 ·have:j=m:=by omega
  subst this
  by_cases hi:i=j
  ·subst hi; exact O.irr _
  ·exact XE O h (S i (j - 1) (by omega) (by omega))
theorem MN {p:Array Nat} (P:Pm n p) (hn:0 < n) {Q:Nat->Prop}:∀(f m:Nat),1<=m->Srt lt p m->(∀k,m<=k->k<=m+f->Srt lt p k->(k < m+f->lt (gN p k) (gN p (k - 1))=true)->Q k)->Hs lt n Q (kas_asc p f m)
 |0,m,h1,S,q=>q m (Nat.le_refl _) (Nat.le_refl _) S fun z=>absurd z (Nat.lt_irrefl _)
 |f+1,m,h1,S,q=>by
  refine ⟨P.lt hn m,P.lt hn (m - 1),?_⟩
  cases h:lt (p.getD m 0) (p.getD (m - 1) 0) with
  |true=>dsimp only; rw[if_pos rfl]; exact q m (Nat.le_refl _) (by omega) S fun _=>h
  |false =>
   dsimp only; rw[if_neg Bool.false_ne_true]
   exact MN P hn f (m+1) (by omega) (S.more O h1 h) fun k h2 h3 S' h4=>q k (by omega) (by omega) S' fun z=>h4 (by omega)
omit O in
def Eq' (lt:Nat->Nat->Bool) (a b:Nat):Prop:=le' lt a b∧le' lt b a
omit O in
def Tl (lt:Nat->Nat->Bool) (p:Array Nat) (m c:Nat):Prop:=∀i,m - c<=i->i < m->Eq' lt (gN p i) (gN p (m - 1))
theorem Of {p:Array Nat} {m c:Nat} (hm:m<=p.size) (hc:c<=m) (S:Fal lt p m) (T:Tl lt p m c):Fal lt (kas_rev p (m - c) m) m∧(∀i,i < m->Eq' lt (gN (kas_rev p (m - c) m) i) (gN p i)):=by
 have e:∀i,i < m->Eq' lt (gN (kas_rev p (m - c) m) i) (gN p i):=fun i hi=>by
  rw[Rb hm]
  by_cases h:m - c<=i∧i < m
  ·rw[if_pos h]
   have t1:=T (m - c+m - 1 - i) (by omega) (by omega)
   have t2:=T i h.1 h.2
   exact ⟨XE O t1.1 t2.2,XE O t2.1 t1.2⟩
  ·rw[if_neg h]; exact ⟨O.irr _,O.irr _⟩
 exact ⟨fun i j hij hj=>XE O (e j hj).1 (XE O (S i j hij hj) (e i (by omega)).2),e⟩
theorem SK (hn:0 < n) {Q:Array Nat × Nat × Nat->Prop}:∀(f:Nat) (p:Array Nat) (m q:Nat),Pm n p->1<=m->q+1<=m->m+f<=n->Fal lt p m->Tl lt p m (q+1) ->
    (∀p' k q',Pm n p'->m<=k->k<=m+f->q'+1<=k->Fal lt p' k->Tl lt p' k (q'+1)->Q (p',k,q'))->Hs lt n Q (kas_desc f p m q)
 |0,p,m,q,P,h1,hq,hm,S,T,k=>k p m q P (Nat.le_refl _) (Nat.le_refl _) hq S T
 |f+1,p,m,q,P,h1,hq,hm,S,T,k=>by
  refine ⟨P.lt hn m,P.lt hn (m - 1),?_⟩
  cases h:lt (p.getD m 0) (p.getD (m - 1) 0) with
  |true =>
   dsimp only; rw[if_pos rfl]
   have hl:le' lt (gN p m) (gN p (m - 1)):=OK O h
   by_cases hq0:q > 0
   ·rw[if_pos hq0]
    obtain ⟨S1,E1⟩:=Of O (by rw[P.size]; omega) hq S T
    refine SK hn f _ (m+1) 0 (P.rev _ _) (by omega) (by omega) (by omega) (Fal.more O h1 S1 ?_) (fun i hi hi2=>?_) fun p' k' q' P' a1 a2 a3 a4 a5=>k p' k' q' P' (by omega) (by omega) a3 a4 a5
    ·have e2:gN (kas_rev p (m - (q+1)) m) m=gN p m:=by rw[Rb (by rw[P.size]; omega),if_neg (by omega)]
     rw[e2]
     exact XE O hl (E1 (m - 1) (by omega)).2
    ·have:i=m+1 - 1:=by omega
     rw[this]; exact ⟨O.irr _,O.irr _⟩
   ·rw[if_neg hq0]
    refine SK hn f _ (m+1) 0 P (by omega) (by omega) (by omega) (Fal.more O h1 S hl) (fun i hi hi2=>?_) fun p' k' q' P' a1 a2 a3 a4 a5=>k p' k' q' P' (by omega) (by omega) a3 a4 a5
    have:i=m+1 - 1:=by omega
    rw[this]; exact ⟨O.irr _,O.irr _⟩
  |false =>
   dsimp only; rw[if_neg Bool.false_ne_true]
   refine ⟨P.lt hn (m - 1),P.lt hn m,?_⟩
   cases h2:lt (p.getD (m - 1) 0) (p.getD m 0) with
   |true=>dsimp only; rw[if_pos rfl]; exact k p m q P (Nat.le_refl _) (by omega) hq S T
   |false =>
    dsimp only; rw[if_neg Bool.false_ne_true]
    have e:Eq' lt (gN p m) (gN p (m - 1)):=⟨h2,h⟩
    refine SK hn f p (m+1) (q+1) P (by omega) (by omega) (by omega) (Fal.more O h1 S e.1) (fun i hi hi2=>?_) fun p' k' q' P' a1 a2 a3 a4 a5=>k p' k' q' P' (by omega) (by omega) a3 a4 a5
    show Eq' lt (gN p i) (gN p m)
    by_cases him:i=m
    ·rw[him]; exact ⟨O.irr _,O.irr _⟩
    ·have t:=T i (by omega) (by omega)
     exact ⟨XE O t.1 e.2,XE O e.1 t.2⟩
theorem Ee {p:Array Nat} {m:Nat} (hm:m<=p.size) (S:Fal lt p m):Srt lt (kas_rev p 0 m) m:=fun i j hij hj=>by
 rw[Rb hm,Rb hm,if_pos (by omega),if_pos (by omega)]
 exact S _ _ (by omega) (by omega)
theorem LU {p:Array Nat} {m:Nat} (P:Pm n p) (hn:0 < n) (h1:1<=m) (hm:m<=n) (S:Fal lt p m) {Q:Nat × Array Nat->Prop} (k:∀c p',Pm n p'->1<=c->c<=n->Srt lt p' c->Q (c,p')):Hs lt n Q (kas_tail3 m n p):=by
 unfold kas_tail3
 refine Hs.bind (MN O (P.rev 0 m) hn (n - m) m h1 (Ee O (by rw[P.size]; exact hm) S) fun c h2 h3 S' _=>?_)
 exact k c _ (P.rev 0 m) (by omega) (by omega) S'
theorem Sg {p:Array Nat} {m:Nat} (P:Pm n p) (hn:0 < n) (h1:1<=m) (hm:m+1<=n) (S:Fal lt p (m+1)) {Q:Nat × Array Nat->Prop} (k:∀c p',Pm n p'->1<=c->c<=n->Srt lt p' c->Q (c,p')):Hs lt n Q (kas_descPart m n p):=by
 unfold kas_descPart
 refine Hs.bind (SK O hn _ p (m+1) 0 P (by omega) (by omega) (by omega) S (fun i hi hi2=>?_) fun p' c q P' a1 a2 a3 a4 a5=>?_)
 ·have:i=m+1 - 1:=by omega
  rw[this]; exact ⟨O.irr _,O.irr _⟩
 ·dsimp only
  by_cases hq:q > 0
  ·rw[if_pos hq]
   exact LU O (P'.rev _ _) hn (by omega) (by omega) (Of O (by rw[P'.size]; omega) a3 a4 a5).1 k
  ·rw[if_neg hq]
   exact LU O P' hn (by omega) (by omega) a4 k
theorem IG {p:Array Nat} (P:Pm n p) (hn:0 < n) {Q:Nat × Array Nat->Prop} (k:∀c p',Pm n p'->1<=c->c<=n->Srt lt p' c->Q (c,p')):Hs lt n Q (kas_count n p):=by
 unfold kas_count
 refine Hs.bind (MN O P hn (n - 1) 1 (Nat.le_refl _) (fun i j hij hj=>?_) fun m h1 h2 S h3=>?_)
 ·have:i=j:=by omega
  rw[this]; exact O.irr _
 ·by_cases he:(m == n)=true
  ·rw[if_pos he]
   exact k m p P h1 (by have:=eq_of_beq he; omega) S
  ·rw[if_neg he]
   have hne:m≠n:=fun z=>he (beq_iff_eq.mpr z)
   have hlt:=h3 (by omega)
   by_cases hm:m > 1
   ·rw[if_pos hm]
    refine ⟨P.lt hn 0,P.lt hn (m - 1),?_⟩
    cases hc:lt (p.getD 0 0) (p.getD (m - 1) 0) with
    |true=>dsimp only; rw[if_pos rfl]; exact k m p P h1 (by omega) S
    |false =>
     dsimp only; rw[if_neg Bool.false_ne_true]
     have alike:∀i,i < m->Eq' lt (gN p i) (gN p (m - 1)):=fun i hi=>⟨S i (m - 1) (by omega) (by omega),XE O (show le' lt (gN p (m - 1)) (gN p 0) from hc) (S 0 i (by omega) hi)⟩
     have F:Fal lt p m:=fun i j hij hj=>XE O (alike j hj).1 (alike i (by omega)).2
     obtain ⟨F1,E1⟩:=Of O (c:=m) (by rw[P.size]; omega) (Nat.le_refl _) F fun i _ hi=>alike i hi
     rw[Nat.sub_self]at F1 E1
     refine Sg O (P.rev 0 m) hn (by omega) (by omega) (Fal.more O (by omega) F1 ?_) k
     have e2:gN (kas_rev p 0 m) m=gN p m:=by rw[Rb (by rw[P.size]; omega),if_neg (by omega)]
     rw[e2]
     exact XE O (OK O hlt) (E1 (m - 1) (by omega)).2
   ·rw[if_neg hm]
    have hm1:m=1:=by omega
    subst hm1
    refine Sg O P hn (by omega) (by omega) (Fal.more O (by omega) (fun i j hij hj=>?_) (OK O hlt)) k
    have:i=j:=by omega
    rw[this]; exact O.irr _
theorem RI {p:Array Nat} {k:Nat} (P:Pm n p) (hn:0 < n) (S:Srt lt p k) {Q:Nat->Prop}:∀(f l r:Nat),l<=r->r<=k->r - l<=f->(∀i,i < l->le' lt (gN p i) (gN p k))->(∀i,r<=i->i < k->lt (gN p k) (gN p i)=true) ->
    (∀m,m<=k->(∀i,i < m->le' lt (gN p i) (gN p k))->(∀i,m<=i->i < k->lt (gN p k) (gN p i)=true)->Q m)->Hs lt n Q (kas_place p k f l r)
 |0,l,r,h1,h2,h3,a,b,q=>q l (by omega) a fun i hi hk=>b i (by omega) hk
 |f+1,l,r,h1,h2,h3,a,b,q=>by
  unfold kas_place
  by_cases hlr:l ≥ r
  ·rw[if_pos hlr]
   exact q l (by omega) a fun i hi hk=>b i (by omega) hk
  ·rw[if_neg hlr]
   refine ⟨P.lt hn k,P.lt hn _,?_⟩
   cases hc:lt (p.getD k 0) (p.getD ((l+r) / 2) 0) with
   |true =>
    dsimp only; rw[if_pos rfl]
    refine RI P hn S f l ((l+r) / 2) (by omega) (by omega) (by omega) a (fun i hi hk=>Cz O hc (S _ _ hi hk)) q
   |false =>
    dsimp only; rw[if_neg Bool.false_ne_true]
    refine RI P hn S f ((l+r) / 2+1) r (by omega) (by omega) (by omega) (fun i hi=>XE O (S i ((l+r) / 2) (by omega) (by omega)) hc) b q
theorem GP {p:Array Nat} {k m:Nat} (hk:k < p.size) (hm:m<=k) (S:Srt lt p k) (a:∀i,i < m->le' lt (gN p i) (gN p k)) (b:∀i,m<=i->i < k->lt (gN p k) (gN p i)=true):Srt lt (bubble p k (k - m)) (k+1):=fun i j hij hj=>by
 have e:k - (k - m)=m:=by omega
 rw[Ht hk (by omega),Ht hk (by omega),e]
 by_cases hi:i=m
 ·rw[if_pos hi]
  by_cases hj2:j=m
  ·rw[if_pos hj2]; exact O.irr _
  ·rw[if_neg hj2,if_pos (by omega)]; exact OK O (b _ (by omega) (by omega))
 ·rw[if_neg hi]
  by_cases hi2:m < i∧i<=k
  ·rw[if_pos hi2,if_neg (by omega),if_pos (by omega)]; exact S _ _ (by omega) (by omega)
  ·rw[if_neg hi2]
   by_cases hj2:j=m
   ·rw[if_pos hj2]; exact a i (by omega)
   ·rw[if_neg hj2]
    by_cases hj3:m < j∧j<=k
    ·rw[if_pos hj3]; exact S _ _ (by omega) (by omega)
    ·rw[if_neg hj3]; exact S _ _ hij (by omega)
theorem Ha (hn:0 < n) {Q:Array Nat->Prop}:∀(f:Nat) (p:Array Nat) (k:Nat),Pm n p->k+f<=n->Srt lt p k->(∀p',Pm n p'->Srt lt p' (k+f)->Q p')->Hs lt n Q (kas_bin f p k)
 |0,p,k,P,h,S,q=>q p P S
 |f+1,p,k,P,h,S,q=>by
  unfold kas_bin
  refine Hs.bind (RI O P hn S k 0 k (Nat.zero_le _) (Nat.le_refl _) (by omega) (fun i hi=>absurd hi (Nat.not_lt_zero _)) (fun i h1 h2=>absurd h2 (by omega)) fun m hm a b=>?_)
  exact Ha hn f _ (k+1) (P.bub _ _) (by omega) (GP O (by rw[P.size]; omega) hm S a b) fun p' P' S'=>q p' P' (by rw[show k+(f+1)=k+1+f by omega]; exact S')
theorem FC (hn:0 < n):Hs lt n (fun p=>Pm n p∧Srt lt p n) (kas_sort n):=by
 unfold kas_sort
 have P0:Pm n (List.toArray (List.range n)):=⟨by simp,by simp⟩
 refine Hs.bind (IG O P0 hn fun c p' P h1 h2 S=>?_)
 dsimp only
 by_cases hc:c < n
 ·rw[if_pos hc]
  have hm:max c 1=c:=by omega
  rw[hm]
  refine Ha O hn (n - c) p' c P (by omega) S fun p2 P2 S2=>⟨P2,?_⟩
  rw[show c+(n - c)=n by omega]at S2
  exact S2
 ·rw[if_neg hc]
  have:c=n:=by omega
  subst this
  exact ⟨P,S⟩
end
end L2
namespace L2
noncomputable section
open PySem PySem.Spec PyProof.Rows
section
variable {X:Cx} {E:XK} {e a b c o:Expr} {es:List Expr} {f fa fb fc fo:FE} {fs:FA} {pos p2 p p':Pos}
theorem Vs {x:Str} {i:Int} (hg:Gl X x) (h:∃t,X.mg x=some (.int i t)) (hd:(x == ("__debug__":Str))=false:=by decide):PE X (.Name x pos) (tE E (fC (.int i))) :=
 let ⟨_,h⟩:=h; KS (LJ (v:=.int i) hg h ⟨_,rfl⟩ hd) fun _ _=>.int i
def C5:R2:=fun x y H Q=>∃l b xs zs,x=.ref l∧y=.ref b∧Rd H l (.lst xs)∧Rd H b (.lst zs)∧xs.length+zs.length<=sizeLine∧∀p,H p=none->Q (.ref p) (upd H p (.lst (xs++zs)))
theorem Fz:OpR X (binaryOp .Add) C5:=by
 intro pins s σ H x y v u Q I rx ry h
 obtain ⟨l,b,xs,zs,rfl,rfl,hl,hb,hz,q⟩:=h
 cases rx
 cases ry
 obtain ⟨_,its,n,r,e1⟩:=hl.ok I.hok
 obtain ⟨_,jts,m,r',e2⟩:=hb.ok I.hok
 have l1:=r.length
 have l2:=r'.length
 refine PySem.P.add_list e1 e2 ?_ (by simp only[List.size_toArray]; omega)
 have ej:its.toArray++jts.toArray=(its++jts).toArray:=by simp
 rw[ej]
 exact ⟨.ref _,_,I.lnew (t':=s.toks) (r.append r') (by rw[List.length_append]; exact hz),rfl,q _ I.fresh⟩
def CT (x y:Wv):Mw Wv:=fun om=>match x,y with
 |.lst ws,.lst us=>if ws.length+us.length<=lim then some (.ok (.lst (ws++us)),om) else none
 |_,_=>none
theorem CY (ha:PE X a (tE E fa)) (hb:PE X b (tE E fb)):PE X (.BinOp a .Add b pos) (tE E (f2 CT fa fb)):=Q5 Fz (by
 intro F H β om x y v u Q M rx ry R
 cases rx <;> first|exact R.elim|skip
 cases ry <;> first|exact R.elim|skip
 rename_i a xs ws q rs a' zs us q' rs'
 have R:Res E (if ws.length+us.length<=lim then some (Except.ok (Wv.lst (ws++us)),om) else none) F H β (PV Q):=R
 by_cases hc:ws.length+us.length<=lim
 ·rw[if_pos hc]at R
  have:=Uy
  have:=rs.length
  have:=rs'.length
  refine ⟨a,a',xs,zs,rfl,rfl,Rd.same M.sub q,Rd.same M.sub q',by omega,fun p hp=>?_⟩
  obtain ⟨g,M'⟩:=M.newFx (o:=.lst (xs++zs)) hp
  exact R _ _ _ g M' _ (.lst (.inl Zu) ((rs.append rs').mono g.toGr))
 ·rw[if_neg hc]at R; exact R.elim) ha hb
end
section
variable {X:Cx} {E:XK} {pins:List (Addr × Obj)} {σ:St} {e o:Expr} {es:List Expr} {st:Stmt} {f fo:FE} {fs:FA} {S S1 S2:FS} {c:FT} {pos:Pos}
variable {CX:CXT} {k n:Nat} {fn C:Addr} {fd:FuncData} {ps:List Str} {g:List Wv->Mw Wv} {x m:Str}
end
structure ExcAll (K:PySem.W.Frag) (isE:Addr->Bool) (kit:Addr->Value->Bool) (Ds:List Value):Prop where
 k:∀C,isE C=true->ExcK K C
 a:∀C D,isE C=true->D∈Ds->PySem.W.kitOne K (.ref C) D=some (kit C D)
section
variable {X:Cx} {E:XK} {e:Expr} {f:FE} {pos p p2:Pos} {isE:Addr->Bool} {kit:Addr->Value->Bool} {Ds:List Value}
end
end
end L2
namespace L2
noncomputable section
open PySem PySem.Spec PyProof.Rows
mutual
def small (n:Nat):Wv->Prop
 |.o h=>h < n
 |.lst ws=>smalls n ws
 |.tup ws=>smalls n ws
 |_=>True
def smalls (n:Nat):List Wv->Prop
 |[]=>True
 |w::r=>small n w∧smalls n r
end
def VJ (n:Nat):Ob->Prop
 |.ins _ fs=>∀p∈fs,small n p.2
 |.lst ws=>smalls n ws
 |.dk kvs=>∀p∈kvs,small n p.2
 |.dt kvs=>∀p∈kvs,small n p.2
 |.exc _=>True
 |.dz kvs=>∀p∈kvs,small n p.2
mutual
theorem RW.small {F:Hp} {β:List Addr}:∀{w:Wv} {v:V},RW F β w v->small β.length w
 |_,_,.non=>trivial
 |_,_,.bl _=>trivial
 |_,_,.int _=>trivial
 |_,_,.str _=>trivial
 |_,_,.lst _ r=>RWs.small r
 |_,_,.tup _ r=>RWs.small r
 |_,_,.o e=>(List.getElem?_eq_some_iff.mp e).1
 |_,_,.g _=>trivial
theorem RWs.small {F:Hp} {β:List Addr}:∀{ws:List Wv} {vs:List V},RWs F β ws vs->smalls β.length ws
 |_,_,.nil=>trivial
 |_,_,.cons h r=>⟨RW.small h,RWs.small r⟩
end
theorem RK.small {F:Hp} {β:List Addr} {κ:Type}:∀{ps:List (κ × Wv)} {qs:List (κ × V)},RK F β ps qs->∀p∈ps,L2.small β.length p.2
 |_,_,.nil,_,hp=>nomatch hp
 |_,_,.cons h r,p,hp=>by
  rcases List.mem_cons.mp hp with rfl|hp
  ·exact h.small
  ·exact RK.small r p hp
theorem MOk.small {F H:Hp} {β:List Addr} {om:List Ob} (M:MOk F H β om):∀x∈om,VJ om.length x:=fun x hx=>by
 obtain ⟨i,hi⟩:=List.getElem?_of_mem hx
 obtain ⟨a,_,_,r⟩:=M.at hi
 rw[← M.len]
 cases x with
 |ins C fs=>obtain ⟨_,_,_,r⟩:=r; exact r.small
 |lst ws=>obtain ⟨_,_,r⟩:=r; exact r.small
 |dk kvs=>obtain ⟨_,_,r⟩:=r; exact r.small
 |dt kvs=>obtain ⟨_,_,r⟩:=r; exact r.small
 |exc C=>trivial
 |dz kvs=>obtain ⟨_,_,_,r⟩:=r; exact r.small
mutual
inductive FzW (om:List Ob) (n:Nat):Wv->Wv->Prop
 |same {w:Wv} (h:small n w):FzW om n w w
 |own {h:Nat} {xs ys:List Wv} (hn:n<=h) (e:om[h]?=some (.lst xs)) (r:FzWs om n xs ys):FzW om n (.o h) (.lst ys)
 |lst {xs ys:List Wv} (r:FzWs om n xs ys):FzW om n (.lst xs) (.lst ys)
 |tup {xs ys:List Wv} (r:FzWs om n xs ys):FzW om n (.tup xs) (.tup ys)
inductive FzWs (om:List Ob) (n:Nat):List Wv->List Wv->Prop
 |nil:FzWs om n [] []
 |cons {x y:Wv} {xs ys:List Wv} (h:FzW om n x y) (r:FzWs om n xs ys):FzWs om n (x::xs) (y::ys)
end
theorem FzWs.of_smalls {om:List Ob} {n:Nat}:∀{ws:List Wv},smalls n ws->FzWs om n ws ws
 |[],_=>.nil
 |_::_,⟨h,r⟩=>.cons (.same h) (FzWs.of_smalls r)
section
variable {F' F'':Hp} {β β':List Addr} {n:Nat} (same':Same F' F'') (ext:∀(h:Nat),h < n->β'[h]?=β[h]?)
mutual
theorem RW.down (same':Same F' F'') (ext:∀(h:Nat),h < n->β'[h]?=β[h]?):∀{w:Wv} {v:V},RW F' β' w v->L2.small n w->RW F'' β w v
 |_,_,.non,_=>.non
 |_,_,.bl b,_=>.bl b
 |_,_,.int i,_=>.int i
 |_,_,.str x,_=>.str x
 |_,_,.lst e r,hs=>.lst (Rd.same same' e) (RWs.down same' ext r hs)
 |_,_,.tup e r,hs=>.tup (same' _ _ e) (RWs.down same' ext r hs)
 |_,_,.o (h:=h) e,hs=>.o ((ext h hs).symm.trans e)
 |_,_,.g a,_=>.g a
theorem RWs.down (same':Same F' F'') (ext:∀(h:Nat),h < n->β'[h]?=β[h]?):∀{ws:List Wv} {vs:List V},RWs F' β' ws vs->smalls n ws->RWs F'' β ws vs
 |_,_,.nil,_=>.nil
 |_,_,.cons h r,hs=>.cons (RW.down same' ext h hs.1) (RWs.down same' ext r hs.2)
end
theorem RK.down (same':Same F' F'') (ext:∀(h:Nat),h < n->β'[h]?=β[h]?) {κ:Type}:∀{ps:List (κ × Wv)} {qs:List (κ × V)},RK F' β' ps qs->(∀p∈ps,L2.small n p.2)->RK F'' β ps qs
 |_,_,.nil,_=>.nil
 |_,_,.cons h r,hs=>.cons (RW.down same' ext h (hs _ (.head _))) (RK.down same' ext r fun q hq=>hs q (.tail _ hq))
variable {om:List Ob}
mutual
theorem FzW.rel (same':Same F' F'') (ext:∀(h:Nat),h < n->β'[h]?=β[h]?) (own:∀h a xs,n<=h->β'[h]?=some a->om[h]?=some (.lst xs)->∃zs,F'' a=some (.lst zs)∧RWs F' β' xs zs):∀{w w':Wv} {v:V},FzW om n w w'->RW F' β' w v->RW F'' β w' v
 |_,_,_,.same h,r=>r.down same' ext h
 |_,_,_,.own hn e r,.o eb=>let ⟨_,h1,h2⟩:=own _ _ _ hn eb e; .lst (.inl h1) (FzWs.rel same' ext own r h2)
 |_,_,_,.lst r,.lst e rs=>.lst (Rd.same same' e) (FzWs.rel same' ext own r rs)
 |_,_,_,.tup r,.tup e rs=>.tup (same' _ _ e) (FzWs.rel same' ext own r rs)
theorem FzWs.rel (same':Same F' F'') (ext:∀(h:Nat),h < n->β'[h]?=β[h]?) (own:∀h a xs,n<=h->β'[h]?=some a->om[h]?=some (.lst xs)->∃zs,F'' a=some (.lst zs)∧RWs F' β' xs zs):∀{ws ws':List Wv} {vs:List V},FzWs om n ws ws'->RWs F' β' ws vs->RWs F'' β ws' vs
 |_,_,_,.nil,.nil=>.nil
 |_,_,_,.cons h r,.cons h' r'=>.cons (FzW.rel same' ext own h h') (FzWs.rel same' ext own r r')
end
end
section
variable {F F' H H':Hp} {β β':List Addr} {om om1 l:List Ob}
def Ix:Option HO->Option HO
 |some (.lst xs)=>some (.lst xs)
 |_=>none
theorem Jy {x:Option HO} {o:HO} (h:Ix x=some o):x=some o:=by
 unfold Ix at h
 split at h
 ·exact h
 ·cases h
def O7 (F' H':Hp) (new:List Addr):Hp:=fun b=>if b∈new then Ix (H' b) else F' b
theorem Q8 (M:MOk F H β om) (g:Gx F F' H H' β β') (M':MOk F' H' β' (om1++l)) (hl:om1.length=om.length) (hs:∀x∈om1,VJ om.length x) :
    ∃F'',Gx F F'' H H' β β∧MOk F'' H' β om1∧∀w w' v,FzW (om1++l) om.length w w'->RW F' β' w v->RW F'' β w' v:=by
 have hβ:β.length=om.length:=M.len
 have hβ':β'.length=om.length+l.length:=by rw[M'.len,List.length_append,hl]
 have ext:∀(h:Nat),h < om.length->β'[h]?=β[h]?:=fun h hh=>by
  have e:β[h]?=some β[h]:=List.getElem?_eq_getElem (by omega)
  rw[e]; exact g.pre h _ e
 have inNew:∀(h:Nat) (a:Addr),om.length<=h->β'[h]?=some a->a∈β'.drop om.length:=fun h a hh e=>by
  refine List.mem_of_getElem? (i:=h - om.length) ?_
  rw[List.getElem?_drop]
  rw[show om.length+(h - om.length)=h by omega]
  exact e
 have ofNew:∀a,a∈β'.drop om.length->∃h,om.length<=h∧β'[h]?=some a:=fun a ha=>by
  obtain ⟨i,hi⟩:=List.getElem?_of_mem ha
  rw[List.getElem?_drop]at hi
  exact ⟨_,Nat.le_add_right _ _,hi⟩
 have oldNew:∀(h:Nat) (a:Addr),β[h]?=some a->a ∉ β'.drop om.length:=fun h a e ha=>by
  obtain ⟨j,hj,ej⟩:=ofNew a ha
  have hh:h < om.length:=by rw[← hβ]; exact (List.getElem?_eq_some_iff.mp e).1
  have:=ndx M'.nd ej (g.pre h a e)
  omega
 have newNone:∀a,a∈β'.drop om.length->H a=none:=fun a ha=>by
  rcases g.new a (List.mem_of_mem_drop ha) with h|h
  ·obtain ⟨i,hi⟩:=List.getElem?_of_mem h
   exact absurd ha (oldNew i a hi)
  ·exact h
 have same':Same F' (O7 F' H' (β'.drop om.length)):=fun b o e=>by
  unfold O7
  by_cases hb:b∈β'.drop om.length
  ·obtain ⟨j,_,ej⟩:=ofNew b hb
   rw[M'.free j b ej]at e; cases e
  ·rw[if_neg hb]; exact e
 have sub':Same (O7 F' H' (β'.drop om.length)) H':=fun b o e=>by
  unfold O7 at e
  by_cases hb:b∈β'.drop om.length
  ·rw[if_pos hb]at e; exact Jy e
  ·rw[if_neg hb]at e; exact M'.sub b o e
 refine ⟨O7 F' H' (β'.drop om.length),⟨⟨g.same.trans same',fun _ _ e=>e⟩,g.keep,g.there,fun b hb=>.inl hb,fun b o e=>?_,g.frz⟩,⟨sub',M.nd,by rw[hβ,hl],fun h a e=>?_,fun h a x e1 e2=>?_⟩,?_⟩
 ·unfold O7 at e
  by_cases hb:b∈β'.drop om.length
  ·exact .inr (newNone b hb)
  ·rw[if_neg hb]at e; exact g.fnew b o e
 ·unfold O7
  rw[if_neg (oldNew h a e)]
  exact M'.free h a (g.pre h a e)
 ·have hh:h < om1.length:=(List.getElem?_eq_some_iff.mp e2).1
  have hx:=M'.ob h a x (g.pre h a e1) (by rw[List.getElem?_append_left hh]; exact e2)
  have sx:=hs x (List.mem_of_getElem? e2)
  cases x with
  |ins C fs=>obtain ⟨dx,fs',h1,r⟩:=hx; exact ⟨dx,fs',h1,r.down same' ext sx⟩
  |lst ws=>obtain ⟨xs,h1,r⟩:=hx; exact ⟨xs,h1,r.down same' ext sx⟩
  |dk kvs=>obtain ⟨ks,h1,r⟩:=hx; exact ⟨ks,h1,r.down same' ext sx⟩
  |dt kvs=>obtain ⟨ks,h1,r⟩:=hx; exact ⟨ks,h1,r.down same' ext sx⟩
  |exc C=>exact hx
  |dz kvs=>obtain ⟨o,ks,h1,r⟩:=hx; exact ⟨o,ks,h1,r.down same' ext sx⟩
 ·intro w w' v fz r
  refine FzW.rel same' ext (fun h a xs hn eb e=>?_) fz r
  obtain ⟨a',ea,_,zs,hz,rs⟩:=M'.at e
  rw[eb]at ea; cases ea
  refine ⟨zs,?_,rs⟩
  unfold O7
  rw[if_pos (inNew h _ hn eb),hz]
  rfl
end
inductive Tidy (om:List Ob):Option (Except Addr Wv × List Ob)->Option (Except Addr Wv × List Ob)->Prop
 |same (r:Option (Except Addr Wv × List Ob)):Tidy om r r
 |ok {w w':Wv} {om1 l:List Ob} (hl:om1.length=om.length) (hs:∀x∈om1,VJ om.length x) (fz:FzW (om1++l) om.length w w'):Tidy om (some (.ok w,om1++l)) (some (.ok w',om1))
 |err {C:Addr} {om1 l:List Ob} (hl:om1.length=om.length) (hs:∀x∈om1,VJ om.length x):Tidy om (some (.error C,om1++l)) (some (.error C,om1))
theorem FnOk.tidy {P:Program} {w:World} {K:PySem.W.Frag} {mg:Str->Option Value} {base:Heap} {k n:Nat} {f:Addr} {fd:FuncData} {ps:List Str} {CX:CXT} {g g':List Wv->Mw Wv} (F:FnOk P w K mg base CX k f fd ps (spM n g))
    (h:∀ws om,ws.length=n->(∀x∈om,VJ om.length x)->g' ws om≠none->Tidy om (g ws om) (g' ws om)):FnOk P w K mg base CX k f fd ps (spM n g') :=
 F.imp fun vs H Q E ⟨F,β,om,ws,M,rs,hl,R⟩=>⟨F,β,om,ws,M,rs,hl,by
  have t:=h ws om hl M.small (fun z=>by rw[z]at R; exact R)
  generalize g ws om=r at t
  generalize g' ws om=r' at t R
  cases t with
  |same=>exact R
  |ok hl' hs fz =>
   intro F' H' β' g1 M' v rv
   obtain ⟨F'',g2,M2,rel⟩:=Q8 M g1 M' hl' hs
   exact R F'' H' β g2 M2 v (rel _ _ v fz rv)
  |err hl' hs =>
   intro F' H' β' g1 M'
   obtain ⟨F'',g2,M2,_⟩:=Q8 M g1 M' hl' hs
   exact R F'' H' β g2 M2⟩
end
end L2
namespace L2
noncomputable section
open PySem PySem.Spec PyProof.Rows PySem.W
def ltP (a b:Int × Int):Bool:=if a.1=b.1 then decide (a.2 < b.2) else decide (a.1 < b.1)
theorem YR {a b:Int × Int}:ltP a b=true ↔ a.1 < b.1∨(a.1=b.1∧a.2 < b.2):=by
 unfold ltP
 split
 ·rw[decide_eq_true_iff]; omega
 ·rw[decide_eq_true_iff]; omega
def Nx (ps:List (Int × Int)) (i j:Nat):Bool:=ltP (ps.getD i (0,0)) (ps.getD j (0,0))
theorem Cb (ps:List (Int × Int)):Swo (Nx ps) where
 irr:=fun a=>by
  cases h:Nx ps a a with
  |false=>rfl
  |true=>have:=YR.mp h; omega
 tr:=fun a b c h1 h2=>by
  have h1:=YR.mp h1
  have h2:=YR.mp h2
  exact YR.mpr (by omega)
 neg:=fun a b c h=>by
  have h:=YR.mp h
  by_cases hb:Nx ps a b=true
  ·exact .inl hb
  ·refine .inr (YR.mpr ?_)
   have hb:¬ (_∨_):=fun z=>hb (YR.mpr z)
   omega
section
variable {prog:Program} {w:World} {A:Around} {E:Value->Shared->Prop} {s:Shared}
structure PrsAt (h:Heap) (as:List Addr) (ps:List (Int × Int)):Prop where
 len:as.length=ps.length
 at':∀(i:Nat) (a:Addr) (p:Int × Int),as[i]?=some a->ps[i]?=some p->∃o t u n,h.get? a=some o∧o.cls=.type "tuple"∧o.data=.seq #[.int p.1 t,.int p.2 u] n
theorem PrsAt.keep {h h':Heap} {as:List Addr} {ps:List (Int × Int)} (x:PrsAt h as ps) (k:∀a∈as,∀o,h.get? a=some o->h'.get? a=some o):PrsAt h' as ps :=
 ⟨x.len,fun i a p e1 e2=>let ⟨o,t,u,n,e,r⟩:=x.at' i a p e1 e2; ⟨o,t,u,n,k a (List.mem_of_getElem? e1) _ e,r⟩⟩
theorem Ge {a b:Addr} {o1 o2:Obj} {n1 n2:Nat} {x y:Int × Int} {t u t' u':Tok} {C:Bool->Shared->Prop} (h1:s.heap.get? a=some o1) (d1:o1.data=.seq #[.int x.1 t,.int x.2 u] n1) (h2:s.heap.get? b=some o2) (d2:o2.data=.seq #[.int y.1 t',.int y.2 u'] n2)
    (h:C (ltP x y) s):wpAny (model prog w) A (keyLt' (tuples' true) (.ref a) (.ref b)) C E s:=by
 refine kat_lt h1 d1 h2 d2 (kat_cons (wpAny_eqBool_int ?_))
 unfold ltP at h
 by_cases he:x.1=y.1
 ·rw[if_pos he]at h
  rw[show (x.1 == y.1)=true from beq_iff_eq.mpr he]
  refine kat_yes (kat_cons (wpAny_eqBool_int ?_))
  by_cases he2:x.2=y.2
  ·rw[show (x.2 == y.2)=true from beq_iff_eq.mpr he2]
   rw[decide_eq_false (by omega)]at h
   exact kat_yes (kat_nil h)
  ·rw[show (x.2 == y.2)=false from beq_eq_false_iff_ne.mpr he2]
   exact kat_no (kat_one _ _ (lt_int h))
 ·rw[if_neg he]at h
  rw[show (x.1 == y.1)=false from beq_eq_false_iff_ne.mpr he]
  exact kat_no (oneLt_int h)
theorem Jp {as:List Addr} {ps:List (Int × Int)} {Q:SortKind->Shared->Prop} (pa:PrsAt s.heap as ps) (hn:0 < ps.length) (h:Q (tuples' true) s):wpAny (model prog w) A (keyKind' (as.map Value.ref).toArray) Q E s:=by
 have key:∀(as:List Addr) (ps:List (Int × Int)),PrsAt s.heap as ps->∃fs,KatTups s.heap (as.map Value.ref) fs∧fs.length=ps.length∧∀v∈fs,∃i t,v=Value.int i t:=by
  intro as
  induction as with
  |nil =>
   intro ps pa
   have:ps=[]:=List.length_eq_zero_iff.mp pa.len.symm
   subst this
   exact ⟨[],KatTups.nil,rfl,fun v hv=>nomatch hv⟩
  |cons a as ih =>
   intro ps pa
   match ps,pa with
   |[],pa=>exact absurd pa.len (by simp)
   |p::ps,pa =>
    obtain ⟨fs,h1,h2,h3⟩:=ih ps ⟨by have:=pa.len; simpa using this,fun i a' p' e1 e2=>pa.at' (i+1) a' p' (by simpa using e1) (by simpa using e2)⟩
    obtain ⟨o,t,u,n,e,ec,ed⟩:=pa.at' 0 a p rfl rfl
    refine ⟨.int p.1 t::fs,KatTups.cons e ec ed rfl h1,by simp[h2],fun v hv=>?_⟩
    rcases List.mem_cons.mp hv with rfl|hv
    ·exact ⟨_,_,rfl⟩
    ·exact h3 v hv
 obtain ⟨fs,h1,h2,h3⟩:=key as ps pa
 refine kat_kind (T:=.type "int") h1 (by omega) (fun v hv=>?_) rfl h
 obtain ⟨i,t,rfl⟩:=h3 v hv
 exact Looks.now
theorem RY {a:Addr} {as:List Addr} {ps:List (Int × Int)} {n:Nat} {P:PySem.Fin->Shared->Prop} (ho:s.heap.get? a=some (seqObj "list" (as.map Value.ref).toArray n)) (pa:PrsAt s.heap as ps) (hna:a ∉ as) (h64:as.length < 64)
    (fin:∀h' bs qs c,(∀b o,b≠a->s.heap.get? b=some o->h'.get? b=some o)->h'.get? a=some (seqObj "list" (bs.map Value.ref).toArray c)->(∃p:List Nat,p.Perm (List.range as.length)∧bs=p.map (fun i=>as.getD i 0)∧qs=p.map (fun i=>ps.getD i (0,0)))->qs.Pairwise (fun x y=>ltP y x=false)->P (.done (.ret .none)) { s with heap:=h' }) :
    wpAny (model prog w) A (Builtin.«list.sort» ⟨[.ref a],[]⟩) P E s:=by
 have ha:a < s.heap.objs.size:=Heap.lt_size ho
 have upd1:=Heap.SameBut.update s.heap a (Obj.mapSeq fun _=>(#[]:Array Value))
 obtain ⟨e1,g1⟩:∃e1,(s.heap.update a (Obj.mapSeq fun _=>(#[]:Array Value))).get? a=some (seqObj "list" #[] e1):=⟨_,get?_update_seq ho fun _=>#[]⟩
 have hvl:(as.map Value.ref).toArray.size=as.length:=by simp
 rw[list_sort_plain]
 refine wpAny_bind (listItems_at ho rfl (wpAny_bind (listUpdate_at ho rfl (wpAny_bind (seqEpoch_at g1 rfl (wpAny_bind (wpAny_newTuple (wpAny_bind (wpAny_newList (wpAny_holding ?_) (Nat.zero_le _))) (by show (as.map Value.ref).length<=_; rw[List.length_map,sizeLine_eq]; omega))))) (by rw[hvl,sizeLine_eq]; omega) (Nat.zero_le _))))
 generalize hH:((s.heap.update a (Obj.mapSeq fun _=>(#[]:Array Value))).push (seqObj "tuple" (as.map Value.ref).toArray 0)).push (seqObj "list" #[] 0)=h3
 have keep3:∀b o,b≠a->s.heap.get? b=some o->h3.get? b=some o:=fun b o hb e=>by
  rw[← hH]
  exact Heap.get?_push_of_some _ (Heap.get?_push_of_some _ ((upd1.2 b hb).trans e))
 have g3:h3.get? a=some (seqObj "list" #[] e1):=by rw[← hH]; exact Heap.get?_push_of_some _ (Heap.get?_push_of_some _ g1)
 have pa3:PrsAt h3 as ps:=pa.keep fun b hb o e=>keep3 b o (fun z=>hna (z ▸ hb)) e
 show wpAny (model prog w) A _ P E { s with heap:=h3 }
 have hend : ∀ (bs : List Addr) (qs : List (Int × Int)) (st : SortSt),(arrOf st).map (·.2) = (bs.map Value.ref).toArray -> bs.length <= as.length -> failedOf st = none -> (∃ p : List Nat,p.Perm (List.range as.length) ∧ bs = p.map (fun i => as.getD i 0) ∧ qs = p.map (fun i => ps.getD i (0,0))) -> qs.Pairwise (fun x y => ltP y x = false) ->
     wpAny (model prog w) A (do
      let touched:=(← seqEpoch a) != e1
      Builtin.List.listUpdate (.ref a) fun _=>(arrOf st).map (·.2)
      if let some e:=failedOf st then rule "list.sort.comparison-raised"; throw e
      if touched then rule "list.sort.modified"; raiseError "ValueError" "list modified during sort"
      PySem.ret .none) P E { s with heap:=h3 }:=fun bs qs st hout hbl hf hp hs=>by
  refine wpAny_bind (seqEpoch_at g3 rfl (wpAny_bind (listUpdate_at g3 rfl ?_ (Nat.zero_le _) (by rw[hout]; simp only[List.size_toArray,List.length_map]; rw[sizeLine_eq]; omega))))
  rw[hout,hf]
  obtain ⟨c2,g4⟩:∃c2,(h3.update a (Obj.mapSeq fun _=>(bs.map Value.ref).toArray)).get? a=some (seqObj "list" (bs.map Value.ref).toArray c2):=⟨_,get?_update_seq g3 fun _=>(bs.map Value.ref).toArray⟩
  have upd2:=Heap.SameBut.update h3 a (Obj.mapSeq fun _=>(bs.map Value.ref).toArray)
  simp only[bne_self_eq_false,Bool.false_eq_true,if_false]
  exact wpAny_pure (fin _ bs qs c2 (fun b o hb e=>(upd2.2 b hb).trans (keep3 b o hb e)) g4 hp hs)
 by_cases h2:as.length < 2
 ·have h2':(as.map Value.ref).toArray.size < 2:=by omega
  dsimp only
  rw[if_pos h2',if_pos h2']
  refine wpAny_bind (wpAny_pure ?_)
  rw[StateT.run_pure]
  refine wpAny_bind (wpAny_pure (hend as ps (SortSt.mk' general' ((as.map Value.ref).toArray.zip (as.map Value.ref).toArray) #[] 7 none) ?_ (Nat.le_refl _) rfl ⟨List.range as.length,List.Perm.refl _,?_,?_⟩ ?_))
  ·show ((as.map Value.ref).toArray.zip (as.map Value.ref).toArray).map (·.2)=_
   apply Array.toList_inj.mp
   simp only[Array.toList_map,Array.toList_zip]
   exact List.map_snd_zip (Nat.le_refl _)
  ·refine List.ext_getElem? fun i=>?_
   by_cases hi:i < as.length
   ·simp[hi]
   ·simp[hi]
  ·refine List.ext_getElem? fun i=>?_
   have:=pa.len
   by_cases hi:i < as.length
   ·simp[hi,show i < ps.length by omega]
   ·simp[hi,show ps.length<=i by omega]
  ·have:=pa.len
   match ps,this with
   |[],_=>exact List.Pairwise.nil
   |[_],_=>exact List.pairwise_singleton _ _
   |_::_::_,h=>simp at h; omega
 ·have h2':¬ (as.map Value.ref).toArray.size < 2:=by omega
  dsimp only
  rw[if_neg h2',if_neg h2']
  have hvs:(as.map Value.ref).length=as.length:=by simp
  refine wpAny_bind (Jp (s:={ s with heap:=h3 }) pa3 (by have:=pa.len; omega) ?_)
  have O:=Cb ps
  have tree:=Hs.wp (Q:=fun (p:Array Nat) s''=>s''={ s with heap:=h3 }∧Pm as.length p∧L2.Srt (Nx ps) p as.length) (cmp:=kas_ask prog w A (tuples' true) (as.map Value.ref)) (s:={ s with heap:=h3 })
   (fun i j C hi hj hC=>by
    unfold kas_ask
    have gi:(as.map Value.ref).getD i Value.none=.ref as[i]:=by simp[hi]
    have gj:(as.map Value.ref).getD j Value.none=.ref as[j]:=by simp[hj]
    rw[gi,gj]
    have hl:=pa.len
    obtain ⟨oi,t,u,ni,ei,_,di⟩:=pa3.at' i as[i] (ps[i]'(by omega)) (List.getElem?_eq_getElem hi) (List.getElem?_eq_getElem (by omega))
    obtain ⟨oj,t',u',nj,ej,_,dj⟩:=pa3.at' j as[j] (ps[j]'(by omega)) (List.getElem?_eq_getElem hj) (List.getElem?_eq_getElem (by omega))
    refine Ge ei di ej dj ?_
    have d1:ps.getD i (0,0)=ps[i]'(by omega):=by simp[show i < ps.length by omega]
    have d2:ps.getD j (0,0)=ps[j]'(by omega):=by simp[show j < ps.length by omega]
    unfold Nx at hC
    rw[d1,d2]at hC
    exact hC) (fun p hp=>⟨rfl,hp⟩) (FC O (n:=as.length) (by omega))
  have tree2:(kas_sort (as.map Value.ref).length).kasWp (kas_ask prog w A (tuples' true) (as.map Value.ref)) (fun (p:Array Nat) s''=>s''={ s with heap:=h3 }∧Pm as.length p∧L2.Srt (Nx ps) p as.length) { s with heap:=h3 }:=by rw[hvs]; exact tree
  refine wpAny_bind (wpAny_mono (kat_run (Q:=fun st' s'=>s'={ s with heap:=h3 }∧∃p:Array Nat,arrOf st'=p.map (kas_item ((as.map Value.ref).toArray.zip (as.map Value.ref).toArray))∧failedOf st'=none∧Pm as.length p∧L2.Srt (Nx ps) p as.length) rfl (by omega) (by omega)
   (fun p st' s' _ a2 a3 a4=>⟨a4.1,p,a2,a3,a4.2.1,a4.2.2⟩) tree2) (fun r s' hr=>?_) fun _ _ e=>e)
  obtain ⟨⟨⟩,st'⟩:=r
  obtain ⟨rfl,p,har,hf,hPm,hSr⟩:=hr
  have hout:=kat_snds rfl har
  have hall:∀i∈p.toList,i < as.length:=fun i hi=>by have:=hPm.perm.mem_iff.mp hi; simpa using this
  refine hend (p.toList.map fun i=>as.getD i 0) (p.toList.map fun i=>ps.getD i (0,0)) st' ?_ (by rw[List.length_map,hPm.perm.length_eq,List.length_range]; exact Nat.le_refl _) hf ⟨p.toList,hPm.perm,rfl,rfl⟩ ?_
  ·rw[hout,List.map_map]
   congr 1
   refine List.map_congr_left fun i hi=>?_
   have:=hall i hi
   simp[this]
  ·rw[List.pairwise_map]
   refine List.pairwise_iff_getElem.mpr fun i j hi hj hij=>?_
   have hpl:p.toList.length=as.length:=by rw[hPm.perm.length_eq,List.length_range]
   have:=hSr i j (by omega) (by omega)
   unfold le' gN Nx at this
   have q1:p.getD i 0=p.toList[i]:=by simp[Array.getD,show i < p.size by simpa using hi]
   have q2:p.getD j 0=p.toList[j]:=by simp[Array.getD,show j < p.size by simpa using hj]
   rw[q1,q2]at this
   exact this
end
end
end L2
namespace L2
noncomputable section
open PySem PySem.Spec PyProof.Rows PySem.W
theorem Rm {α:Type}:∀{as:List Addr} {ps:List α} {i:Nat} {a:Addr} {p:α},as.Nodup->as[i]?=some a->ps[i]?=some p->(as.zip ps).lookup a=some p
 |[],_,_,_,_,_,e,_=>by simp at e
 |_::_,[],_,_,_,_,_,e=>by simp at e
 |b::as,q::ps,0,a,p,nd,e1,e2=>by
  simp at e1 e2
  subst e1 e2
  simp[List.lookup_cons]
 |b::as,q::ps,i+1,a,p,nd,e1,e2=>by
  have e1:as[i]?=some a:=by simpa using e1
  have e2:ps[i]?=some p:=by simpa using e2
  have hb:(a == b)=false:=beq_eq_false_iff_ne.mpr fun z=>(List.nodup_cons.mp nd).1 (z ▸ List.mem_of_getElem? e1)
  rw[List.zip_cons_cons,List.lookup_cons,hb]
  exact Rm (List.nodup_cons.mp nd).2 e1 e2
theorem Y0 {α:Type}:∀{as:List Addr} {ps:List α} {a:Addr} {p:α},(as.zip ps).lookup a=some p->∃i:Nat,as[i]?=some a∧ps[i]?=some p
 |[],_,_,_,e=>by simp at e
 |_::_,[],_,_,e=>by simp at e
 |b::as,q::ps,a,p,e=>by
  rw[List.zip_cons_cons,List.lookup_cons]at e
  cases hb:(a == b) with
  |true=>rw[hb]at e; cases e; exact ⟨0,by simp[eq_of_beq hb],rfl⟩
  |false =>
   rw[hb]at e
   obtain ⟨i,h1,h2⟩:=Y0 e
   exact ⟨i+1,by simpa using h1,by simpa using h2⟩
theorem Rr {α γ:Type} {R:α->γ->Prop}:∀{xs:List α} {ys:List γ} {i:Nat} {x:α} {y:γ},Paired R xs ys->xs[i]?=some x->ys[i]?=some y->R x y
 |_,_,_,_,_,.nil,e,_=>by simp at e
 |_,_,0,_,_,.cons h _,e1,e2=>by simp at e1 e2; subst e1 e2; exact h
 |_,_,i+1,_,_,.cons _ r,e1,e2=>Rr (i:=i) r (by simpa using e1) (by simpa using e2)
theorem Tv:∀bs:List Addr,Vals (bs.map V.ref) (bs.map Value.ref)
 |[]=>.nil
 |_::r=>.cons rfl (Tv r)
def prT (p:Int × Int):HO:=.tup [.int p.1,.int p.2]
def YW (H:Hp) (as:List Addr) (ps:List (Int × Int)):Hp:=fun b=>match (as.zip ps).lookup b with
 |some p=>some (prT p)
 |none=>H b
def Nl (v d:Addr):HO:=.ext fun h=>h.IsItemsView v d
section
variable {X:Cx} {E:XK}
def Dn:V->List V->Hp->VK->Prop:=fun x vs H Q=>∃d kvs,x=.ref d∧vs=[]∧H d=some (.dK kvs)∧∀p,H p=none->Q (.ref p) (upd H p (Nl p d))
theorem Gn:MtM X "dict.items" Dn:=by
 intro pins s σ H x vs v us Q I rx rv h
 obtain ⟨d,kvs,rfl,rfl,hd,q⟩:=h
 cases rx
 cases rv
 obtain ⟨z,hS,ws,r,m⟩:=I.hok d _ hd
 refine call_meetsIn PySem.F.slot_dict_items m.typeIs PySem.F.entry_dict_items (PySem.F.args_dict_items_1 _) (meets_dict_items (ZM X.prog X.w) d hS) ⟨⟨ws,m⟩,?_⟩
 refine ⟨.ref s.heap.objs.size,_,I.laid (o:=Nl s.heap.objs.size d) (t':=s.toks) (fun b u e=>Heap.get?_push_of_some _ e) (Nat.le_refl _) ?_,rfl,q _ I.fresh⟩
 exact ⟨⟨_,Heap.get?_push_size _ rfl,rfl,rfl⟩,⟨_,Heap.get?_push_size _ rfl⟩,fun h1 h2 ⟨o,e1,e2,e3⟩ k=>⟨o,k o e1,e2,e3⟩⟩
def CW:List V->Hp->VK->Prop:=fun xs H Q=>∃v d ps,xs=[.ref v]∧H v=some (Nl v d)∧H d=some (.dK (ps.map fun (p:Int × Int)=>((Sum.inl p.1:Key),V.int p.2)))∧ps.length < 64 ∧
 ∀(B:Addr) (as bs:List Addr) (qs:List (Int × Int)),as.Nodup->as.length=ps.length->(∀a∈as,H a=none)->H B=none->B ∉ as->(∃p:List Nat,p.Perm (List.range as.length)∧bs=p.map (fun i=>as.getD i 0)∧qs=p.map (fun i=>ps.getD i (0,0)))->qs.Pairwise (fun x y=>ltP y x=false) ->
  Q (.ref B) (upd (YW H as ps) B (.lst (bs.map V.ref)))
theorem MC (hc:X.calm=true):CallR X (.builtin "sorted") CW:=by
 intro pins s σ H xs us Q I r h
 obtain ⟨v,d,ps,rfl,hv,hd,h64,q⟩:=h
 obtain ⟨u,rfl,ru⟩:=V1 r
 cases (show u=Value.ref v from ru)
 obtain ⟨hview,_,_⟩:=I.hok v _ hv
 obtain ⟨z,hS,ws,rk,m⟩:=I.hok d _ hd
 obtain ⟨o,es,ep,hm⟩:=m
 have hwl:ws.length=ps.length:=by have:=rk.length; rw[List.length_map]at this; exact this.symm
 refine Calls.call_function_entry kind_sorted plain_sorted entry_sorted (args_sorted1 _) (show wpAny _ _ (Builtin.«sorted» _) _ _ _ from ?_)
 unfold Builtin.«sorted»
 refine wpAny_bind (m:=checkCount "sorted" 1 1 _) (wpAny_pure (wpAny_bind (kdx_collect (A:=X.A.in1) (knd:=ZM X.prog X.w) (kvs:=ws) (ep:=ep) (I.ok.hd hc) hview ⟨o,es,hm⟩ (by rw[sizeLine_eq]; omega) fun h' tk as hk hl hG=>?_)))
 have nd:as.Nodup:=hG.rise.imp fun h=>Nat.ne_of_lt h
 have hal:as.length=ps.length:=by omega
 have pa:PrsAt h' as ps:=⟨hal,fun i a p e1 e2=>by
  obtain ⟨key,k,x,f1,f2,f3⟩:=hG.pairs i a e1
  have e3:(ps.map fun (p:Int × Int)=>((Sum.inl p.1:Key),V.int p.2))[i]?=some ((Sum.inl p.1:Key),V.int p.2):=by rw[List.getElem?_map,e2]; rfl
  obtain ⟨g1,g2⟩:=Rr rk e3 f1
  have g1:(Sum.inl p.1:Key)=k:=g1
  subst g1
  obtain ⟨u,g2⟩:=(show ∃u,x=Value.int p.2 u from g2)
  subst g2
  obtain ⟨t,g3⟩:=Value.isInt_shape (k:=p.1) (v:=key) f2
  subst g3
  exact ⟨_,t,u,_,f3,rfl,rfl⟩⟩
 have hB:∀a∈as,a < h'.objs.size:=fun a ha=>hG.there ha
 refine wpAny_bind (wpAny_newList ?_ (by rw[List.length_map,sizeLine_eq]; omega))
 generalize hH1:h'.push { cls:=.type "list",data:=.seq (as.map Value.ref).toArray }=h1
 have k1:∀b o,h'.get? b=some o->h1.get? b=some o:=fun b o e=>by rw[← hH1]; exact Heap.get?_push_of_some _ e
 have hoL:h1.get? h'.objs.size=some (seqObj "list" (as.map Value.ref).toArray 0):=by rw[← hH1]; exact Heap.get?_push_size _ rfl
 have hBn:h'.objs.size ∉ as:=fun hm=>Nat.lt_irrefl _ (hB _ hm)
 refine wpAny_bind (wpAny_holding (wpAny_call_entry slot_list_sort ⟨_,hoL,rfl⟩ entry_list_sort (RY (s:={ s with heap:=h1,toks:=tk }) hoL (pa.keep fun a _ o e=>k1 a o e) hBn (by omega) fun h2 bs qs c k2 g2 hp hs=>⟨_,rfl,wpAny_pure ⟨_,rfl,?_⟩⟩) (args_list_sort _)))
 have kp:∀b o,s.heap.get? b=some o->h2.get? b=some o:=fun b o e=>k2 b o (Nat.ne_of_lt (Heap.lt_size (hk b o e))) (k1 b o (hk b o e))
 have fa:∀a∈as,s.heap.get? a=none:=fun a ha=>Heap.get?_none_of_le (Nat.le_of_lt (hG.above a ha))
 have fH:∀a∈as,H a=none:=fun a ha=>I.hok.fresh (Nat.le_of_lt (hG.above a ha))
 have fB:H h'.objs.size=none:=by
  cases hh:H h'.objs.size with
  |none=>rfl
  |some ob =>
   obtain ⟨x,ex⟩:=(I.hok _ _ hh).ex
   exact absurd (Heap.lt_size (hk _ _ ex)) (Nat.lt_irrefl _)
 have inA:∀{b:Addr} {p:Int × Int},(as.zip ps).lookup b=some p->b∈as:=fun {b p} e=>let ⟨i,h1,_⟩:=Y0 e; List.mem_of_getElem? h1
 have old:∀b o,H b=some o->upd (YW H as ps) h'.objs.size (.lst (bs.map V.ref)) b=some o:=fun b o e=>by
  rw[Zr (ZR e fB)]
  unfold YW
  match hx:(as.zip ps).lookup b with
  |some p=>rw[fH b (inA hx)]at e; cases e
  |none=>exact e
 have notOld:∀b o,s.heap.get? b=some o->H b=none->upd (YW H as ps) h'.objs.size (.lst (bs.map V.ref)) b=none:=fun b o e n=>by
  rw[Zr (Nat.ne_of_lt (Heap.lt_size (hk b o e)))]
  unfold YW
  match hx:(as.zip ps).lookup b with
  |some p=>rw[fa b (inA hx)]at e; cases e
  |none=>exact n
 refine ⟨.ref h'.objs.size,_,I.un (t':=tk) (H':=upd (YW H as ps) h'.objs.size (.lst (bs.map V.ref))) ⟨fun b o e n _ _=>kp b o e,fun b o e n _ _=>⟨o.slots,kp b o e⟩,fun b o e n _=>notOld b o e n,fun b o e _=>⟨o,kp b o e⟩,fun b xs e=>old b _ e,fun b o u e=>old b _ e,fun b xs e=>⟨#[],by rw[Array.append_empty]; exact old b _ e⟩⟩ (fun b o e=>?_),rfl,q _ as bs qs nd hal fH fB hBn hp hs⟩
 by_cases hb:b=h'.objs.size
 ·subst hb
  rw[Zu]at e
  cases e
  obtain ⟨p,hp1,hp2,hp3⟩:=hp
  refine ⟨?_,bs.map Value.ref,c,?_,g2⟩
  ·rw[List.length_map,hp2,List.length_map,hp1.length_eq,List.length_range,sizeLine_eq]; omega
  ·exact Tv bs
 ·rw[Zr hb]at e
  unfold YW at e
  match hx:(as.zip ps).lookup b,e with
  |some p,e =>
   have e:some (prT p)=some o:=e
   cases e
   obtain ⟨i,h1',h2'⟩:=Y0 hx
   obtain ⟨o',t,u,n',ho,hoc,hod⟩:=pa.at' i b p h1' h2'
   exact ⟨by show 2<=sizeLine; decide,[.int p.1 t,.int p.2 u],.cons ⟨t,rfl⟩ (.cons ⟨u,rfl⟩ .nil),⟨o',k2 b _ hb (k1 b _ ho),hoc,n',hod⟩⟩
  |none,e =>
   exact (I.hok b o e).stay (fun c w' _ q'=>kp c w' q') (fun c q'=>old c _ q') fun c xs q'=>old c _ q'
def JC (p:Int × Int):List (Int × Int)->List (Int × Int)
 |[]=>[p]
 |q::r=>if ltP q p=true then q::JC p r else p::q::r
def YS:List (Int × Int)->List (Int × Int)
 |[]=>[]
 |p::r=>JC p (YS r)
theorem TK (p:Int × Int):∀l,(JC p l).Perm (p::l)
 |[]=>List.Perm.refl _
 |q::r=>by
  unfold JC
  split
  ·exact ((TK p r).cons q).trans (List.Perm.swap p q r)
  ·exact List.Perm.refl _
theorem Yj:∀l,(YS l).Perm l
 |[]=>List.Perm.refl _
 |p::r=>(TK p (YS r)).trans ((Yj r).cons p)
abbrev JX (l:List (Int × Int)):Prop:=l.Pairwise fun x y=>ltP y x=false
theorem O1 (p:Int × Int):∀l,JX l->JX (JC p l)
 |[],_=>List.pairwise_singleton _ _
 |q::r,h=>by
  have h':=List.pairwise_cons.mp h
  unfold JC
  by_cases hc:ltP q p=true
  ·rw[if_pos hc]
   refine List.pairwise_cons.mpr ⟨fun y hy=>?_,O1 p r h'.2⟩
   rcases List.mem_cons.mp ((TK p r).mem_iff.mp hy) with rfl|hy
   ·cases z:ltP y q with
    |false=>rfl
    |true=>have a:=YR.mp hc; have b:=YR.mp z; omega
   ·exact h'.1 y hy
  ·rw[if_neg hc]
   refine List.pairwise_cons.mpr ⟨fun y hy=>?_,h⟩
   have hc':ltP q p=false:=by simpa using hc
   rcases List.mem_cons.mp hy with rfl|hy
   ·exact hc'
   ·cases z:ltP y p with
    |false=>rfl
    |true =>
     have e:=h'.1 y hy
     have a:=YR.mp z
     have b:¬ _:=fun w'=>hc (YR.mpr w')
     have c:¬ _:=fun w'=>absurd (YR.mpr w') (by rw[e]; exact Bool.false_ne_true)
     omega
theorem Xm:∀l,JX (YS l)
 |[]=>List.Pairwise.nil
 |p::r=>O1 p _ (Xm r)
theorem WX:∀{l m:List (Int × Int)},l.Perm m->JX l->JX m->l=m
 |[],m,h,_,_=>(List.nil_perm.mp h).symm
 |x::l,[],h,_,_=>absurd h (by simp)
 |x::l,y::m,h,h1,h2=>by
  have h1':=List.pairwise_cons.mp h1
  have h2':=List.pairwise_cons.mp h2
  have e:x=y:=by
   have hx:=h.mem_iff.mp (List.mem_cons_self (a:=x) (l:=l))
   have hy:=h.mem_iff.mpr (List.mem_cons_self (a:=y) (l:=m))
   rcases List.mem_cons.mp hx with hx|hx
   ·exact hx
   ·rcases List.mem_cons.mp hy with hy|hy
    ·exact hy.symm
    ·have a:=h1'.1 y hy
     have b:=h2'.1 x hx
     have a':¬ _:=fun w'=>absurd (YR.mpr w') (by rw[a]; exact Bool.false_ne_true)
     have b':¬ _:=fun w'=>absurd (YR.mpr w') (by rw[b]; exact Bool.false_ne_true)
     exact Prod.ext (by omega) (by omega)
  subst e
  rw[WX h.cons_inv h1'.2 h2'.2]
def T3:List (Key × Wv)->Option (List (Int × Int))
 |[]=>some []
 |(.inl k,.int v)::r=>match T3 r with
  |some ps=>some ((k,v)::ps)
  |none=>none
 |_=>none
def prW (p:Int × Int):Wv:=.tup [.int p.1,.int p.2]
def SE (d:Wv):Mw (List Wv):=fun om=>match d with
 |.o h=>match om[h]? with
  |some (.dk kvs)=>match T3 kvs with
   |some ps=>if ps.length < 64 then some (.ok ((YS ps).map prW),om) else none
   |none=>none
  |_=>none
 |_=>none
theorem Pi {F:Hp} {β:List Addr}:∀{kvs:List (Key × Wv)} {qs:List (Key × V)} {ps:List (Int × Int)},RK F β kvs qs->T3 kvs=some ps->qs=ps.map fun (p:Int × Int)=>((Sum.inl p.1:Key),V.int p.2)
 |_,_,_,.nil,e=>by cases e; rfl
 |(.inr _,_)::_,_,_,.cons _ _,e=>by cases e
 |(.inl k,w)::r,_,_,.cons h rr,e=>by
  cases h with
  |int v =>
   have e:(match T3 r with|some ps=>some ((k,v)::ps)|none=>none)=some _:=e
   match hr:T3 r,e with
   |some ps,e =>
    have e:some ((k,v)::ps)=some _:=e
    cases e
    rw[List.map_cons,← Pi rr hr]
   |none,e=>exact nomatch e
  |_=>exact nomatch e
theorem MOk.newP {F H:Hp} {β:List Addr} {om:List Ob} {as:List Addr} {ps:List (Int × Int)} (M:MOk F H β om) (hf:∀a∈as,H a=none):Gx F (YW F as ps) H (YW H as ps) β β∧MOk (YW F as ps) (YW H as ps) β om:=by
 have inA:∀{b:Addr} {p:Int × Int},(as.zip ps).lookup b=some p->b∈as:=fun {b p} e=>let ⟨i,h1,_⟩:=Y0 e; List.mem_of_getElem? h1
 have oldH:∀b o,H b=some o->YW H as ps b=some o:=fun b o e=>by
  unfold YW
  match hx:(as.zip ps).lookup b with
  |some p=>rw[hf b (inA hx)]at e; cases e
  |none=>exact e
 have oldF:∀b o,F b=some o->YW F as ps b=some o:=fun b o e=>by
  unfold YW
  match hx:(as.zip ps).lookup b with
  |some p=>have:=M.sub b o e; rw[hf b (inA hx)]at this; cases this
  |none=>exact e
 have out:∀b,b ∉ as->YW F as ps b=F b∧YW H as ps b=H b:=fun b hb=>by
  unfold YW
  match hx:(as.zip ps).lookup b with
  |some p=>exact absurd (inA hx) hb
  |none=>exact ⟨rfl,rfl⟩
 have nb:∀(h:Nat) (a:Addr),β[h]?=some a->a ∉ as:=fun h a e ha=>by
  obtain ⟨x,hx⟩:=M.there e
  rw[hf a ha]at hx; cases hx
 have g:Gr F (YW F as ps) β β:=⟨oldF,fun _ _ e=>e⟩
 refine ⟨⟨g,fun b o e _=>oldH b o e,fun b e=>?_,fun b hb=>.inl hb,fun b o e=>?_,fun b o u e=>oldH b _ e⟩,⟨fun b o e=>?_,M.nd,M.len,fun h a e=>by rw[(out a (nb h a e)).1]; exact M.free h a e,fun h a x e1 e2=>(M.ob h a x e1 e2).mono g (out a (nb h a e1)).2⟩⟩
 ·cases hh:H b with
  |none=>rfl
  |some o=>rw[oldH b o hh]at e; cases e
 ·by_cases hb:b∈as
  ·exact .inr (hf b hb)
  ·rw[(out b hb).1]at e; exact .inl e
 ·unfold YW at e ⊢
  match hx:(as.zip ps).lookup b,e with
  |some p,e=>exact e
  |none,e=>exact M.sub b o e
def UQ (k:List Wv->Mw Wv) (f:FE):FE:=fun sl=>bnd (f sl) fun d=>bnd (SE d) k
variable {o:Expr} {f:FE} {k:List Wv->Mw Wv} {p pos apos cpos:Pos}
theorem QI (hk:Vf E k) (hc:X.calm=true) (hg:Gl X "sorted") (hm:X.mg "sorted"=none) (ho:PE X o (tE E f)) (hbase:attributeBase o "items" X.env (eval o X.env)=eval o X.env:=by rfl) (hline:(apos.endLine == cpos.line)=true:=by rfl)
    (h0:starEach [.Call (.Attribute o "items" apos) [] [] cpos] X.env=(false,eval (.Call (.Attribute o "items" apos) [] [] cpos) X.env)::starEach [] X.env:=by rfl) (hpl:(backTo pos (starEach [] X.env)).any (·.1)=false:=by rfl) :
    PE X (.Call (.Name "sorted" p) [.Call (.Attribute o "items" apos) [] [] cpos] [] pos) (tE E (UQ k f)) :=
 (Qc (MC hc) hg hm PyProof.Rows.boot_sorted (WB (JY PySem.F.plainAttrs_dict PySem.F.slot_dict_items PySem.F.type_dict_items Gn ho hbase hline) Vo h0) (by decide) (by decide) h0 hpl).weak fun σ H Q ⟨F,β,om,sl,M,V,R⟩=>by
 refine ⟨F,β,om,sl,M,V,R.bind fun x om1 F1 H1 β1 g1 M1 R1 v rv=>?_⟩
 cases rv with
 |@o h a eb =>
  unfold bnd SE at R1
  dsimp only at R1
  match hx:om1[h]?,R1 with
  |none,R1=>exact R1.elim
  |some (.ins _ _),R1=>exact R1.elim
  |some (.exc _),R1=>exact R1.elim
  |some (.dz _),R1=>exact R1.elim
  |some (.lst _),R1=>exact R1.elim
  |some (.dt _),R1=>exact R1.elim
  |some (.dk kvs),R1 =>
   obtain ⟨a',ea,_,ks,hks,rs⟩:=M1.at hx
   rw[eb]at ea; cases ea
   dsimp only at R1
   match hp:T3 kvs,R1 with
   |none,R1=>exact R1.elim
   |some ps,R1 =>
    dsimp only at R1
    by_cases hl:ps.length < 64
    ·have R2:Res E (k ((YS ps).map prW) om1) F1 H1 β1 (PV Q):=by
      have:=R1
      rw[if_pos hl]at this
      exact this
     have eks:=Pi rs hp
     refine ⟨.inr (.inr (.inl ⟨rfl,.inl ⟨ks,hks⟩⟩)),a,ks,rfl,rfl,hks,fun v hv=>?_⟩
     have MU:=M1.newU (o:=Nl v a) hv
     have gU:=M1.gxU (o:=Nl v a) hv
     refine ⟨v,a,ps,rfl,Zu,by rw[Zr (ZR hks hv),hks,eks],hl,fun B as bs qs nd hal hf hB hBa ⟨p,hp1,hp2,hp3⟩ hs=>?_⟩
     obtain ⟨g3,M3⟩:=MU.newP (ps:=ps) hf
     have eqs:qs=YS ps:=by
      refine WX ?_ hs (Xm ps)
      refine List.Perm.trans ?_ (Yj ps).symm
      rw[hp3]
      refine (hp1.map _).trans ?_
      rw[hal]
      have:(List.range ps.length).map (fun i=>ps.getD i (0,0))=ps:=List.ext_getElem? fun i=>by
       by_cases hi:i < ps.length
       ·simp[hi]
       ·simp[hi]
      rw[this]
     have rws:RWs (YW F1 as ps) β1 ((YS ps).map prW) (bs.map L2.V.ref):=by
      rw[← eqs,hp3,hp2]
      have hall:∀i∈p,i < as.length:=fun i hi=>by have:=hp1.mem_iff.mp hi; simpa using this
      clear hp1 hp2 hp3 eqs hs
      induction p with
      |nil=>exact .nil
      |cons i p ih =>
       have hi:=hall i (.head _)
       refine .cons ?_ (ih fun j hj=>hall j (.tail _ hj))
       have e1:as.getD i 0=as[i]:=by simp[hi]
       have e2:ps.getD i (0,0)=ps[i]'(by omega):=by simp[show i < ps.length by omega]
       show RW (YW F1 as ps) β1 (prW (ps.getD i (0,0))) (L2.V.ref (as.getD i 0))
       rw[e1,e2]
       refine .tup ?_ (.cons (.int _) (.cons (.int _) .nil))
       unfold YW
       rw[Rm nd (List.getElem?_eq_getElem hi) (List.getElem?_eq_getElem (by omega))]
       rfl
     exact (hk M3 rws (Res.mono (gU.trans g3) R2)).2 (by
      unfold YW
      match hx2:(as.zip ps).lookup B with
      |some p=>exact absurd (let ⟨i,h1,_⟩:=Y0 hx2; List.mem_of_getElem? h1) hBa
      |none=>exact hB)
    ·rw[if_neg hl]at R1; exact R1.elim
 |_=>exact R1.elim
end
end
end L2
namespace L2
noncomputable section
open PySem
theorem Ue {c:FT} {f:FE} {mk:Wv->Sl} {om:List Ob} (p:Wv->Bool) (g:Wv->Wv):∀{l:List Wv},(∀w∈l,c (mk w) om=some (.ok (p w),om))->(∀w∈l,p w=true->f (mk w) om=some (.ok (g w),om))->Xk c f mk l om=some (.ok ((l.filter p).map g),om)
 |[],_,_=>rfl
 |w::r,hc,hf=>by
  have ih:=Ue p g (l:=r) (fun x hx=>hc x (.tail _ hx)) (fun x hx=>hf x (.tail _ hx))
  have h1:=hc w (.head _)
  show bnd (Z4 (c (mk w))) (M9 (Xk c f mk r) (f (mk w))) om=_
  cases hp:p w with
  |false=>simp[bnd,Z4,h1,hp,M9,ih,List.filter_cons]
  |true =>
   have h2:=hf w (.head _) hp
   simp[bnd,Z4,h1,hp,M9,ih,h2,List.filter_cons,ret]
theorem Nc (p:Wv->Bool) (n:Nat):(W7 n).filter p=((List.range n).filter fun k=>p (.int (k:Nat))).map fun (k:Nat)=>Wv.int k:=by
 unfold W7
 rw[List.filter_map]
 rfl
theorem Nf {n:Nat} {w:Wv} (h:w∈W7 n):∃k,k < n∧w=.int (k:Nat):=by
 obtain ⟨k,hk,e⟩:=List.mem_map.mp h
 exact ⟨k,List.mem_range.mp hk,e.symm⟩
theorem Rl (n:Nat):(W7 n).length=n:=by simp[W7]
def Zp (us:List (Int × Int)):List (Key × Wv):=us.map fun p=>(.inl p.1,.int p.2)
theorem VI (us:List (Int × Int)) (k:Int):WP (Zp us) (.inl k)=(us.lookup k).map Wv.int:=by
 induction us with
 |nil=>rfl
 |cons p us ih =>
  unfold WP Zp at ih ⊢
  rw[List.map_cons,List.find?_cons,List.lookup_cons]
  by_cases h:p.1=k
  ·simp[h]
  ·have h':(k == p.1)=false:=beq_eq_false_iff_ne.mpr (Ne.symm h)
   have h2:¬ (Sum.inl p.1:Key)=Sum.inl k:=fun z=>h (Sum.inl.inj z)
   simp only[h2,decide_false,h']
   exact ih
theorem LO {us:List (Int × Int)} {k:Int} (s:Int) (h:us.lookup k=none):XX (Zp us) (.inl k) (.int s)=Zp (us++[(k,s)]):=by
 have:((Zp us).any fun kv=>decide (kv.1=(Sum.inl k:Key)))=false:=by
  have hv:=VI us k
  rw[h]at hv
  unfold WP at hv
  cases hf:(Zp us).find? fun kv=>decide (kv.1=(Sum.inl k:Key)) with
  |some x=>rw[hf]at hv; cases hv
  |none =>
   rw[List.any_eq_false]
   intro x hx
   exact List.find?_eq_none.mp hf x hx
 unfold XX
 rw[this,if_neg Bool.false_ne_true]
 simp[Zp]
theorem Qa:∀us:List (Int × Int),T3 (Zp us)=some us
 |[]=>rfl
 |p::us=>by
  show (match T3 (Zp us) with|some ps=>some ((p.1,p.2)::ps)|none=>none)=_
  rw[Qa us]
theorem Ph (us:List (Int × Int)):(Zp us).length=us.length:=by simp[Zp]
def XU:Option Int->Wv
 |none=>.non
 |some s=>.int s
theorem T7:∀{l m:List (Int × Int)},l.Pairwise (fun x y=>x.1 < y.1)->m.Pairwise (fun x y=>x.1 < y.1)->(∀p,p∈l ↔ p∈m)->l=m
 |[],[],_,_,_=>rfl
 |[],y::m,_,_,h=>absurd ((h y).mpr (.head _)) (by simp)
 |x::l,[],_,_,h=>absurd ((h x).mp (.head _)) (by simp)
 |x::l,y::m,h1,h2,h=>by
  have h1':=List.pairwise_cons.mp h1
  have h2':=List.pairwise_cons.mp h2
  have e:x=y:=by
   rcases List.mem_cons.mp ((h x).mp (.head _)) with hx|hx
   ·exact hx
   ·rcases List.mem_cons.mp ((h y).mpr (.head _)) with hy|hy
    ·exact hy.symm
    ·have a:=h1'.1 y hy
     have b:=h2'.1 x hx
     omega
  subst e
  congr 1
  refine T7 h1'.2 h2'.2 fun p=>⟨fun hp=>?_,fun hp=>?_⟩
  ·rcases List.mem_cons.mp ((h p).mp (.tail _ hp)) with rfl|hq
   ·have:=h1'.1 p hp; omega
   ·exact hq
  ·rcases List.mem_cons.mp ((h p).mpr (.tail _ hp)) with rfl|hq
   ·have:=h2'.1 p hp; omega
   ·exact hq
theorem XG {a b:String}:(Str.ofString a=Str.ofString b)=(a=b):=by
 refine propext ⟨fun h=>?_,fun h=>by rw[h]⟩
 rw[Str.ofString_eq_toList,Str.ofString_eq_toList]at h
 injection h with h
 have h:=congrArg Array.toList h
 simp only at h
 have inj:∀{l m:List Char},l.map Char.toNat=m.map Char.toNat->l=m:=by
  intro l
  induction l with
  |nil=>intro m e; cases m with|nil=>rfl|cons _ _=>simp at e
  |cons x l ih =>
   intro m e
   cases m with
   |nil=>simp at e
   |cons y m =>
    simp only[List.map_cons,List.cons.injEq]at e
    rw[ih e.2,Char.ext (UInt32.toNat_inj.mp e.1)]
 exact String.toList_inj.mp (inj h)
theorem YG {a b:String}:(Str.ofString a == Str.ofString b)=decide (a=b):=by
 rw[Bool.eq_iff_iff,beq_iff_eq,decide_eq_true_iff,XG]
theorem Te (n:Nat) (om:List Ob) (h:n<=lim):Wn (.int n) om=some (.ok (W7 n),om):=by
 have hl:n<=100000:=ZW ▸ h
 have hd:decide (-(2 ^ 62)<=(n:Int)∧(n:Int) < 2 ^ 62)=true:=by
  rw[decide_eq_true_iff]
  exact ⟨by omega,by omega⟩
 simp only[Wn,hd]
 rw[Int.toNat_natCast]
 rfl
theorem PO (a b:Int) (om:List Ob):Wo true (.int a) (.int b) om=some (.ok (.bl (!decide (a=b))),om):=by
 simp[Wo,Y7,Wp,WK,PyData.canLay0,PyData.depth,PyData.eqv]
 rfl
theorem WH (a b:Int) (om:List Ob):Wo false (.int a) (.int b) om=some (.ok (.bl (decide (a=b))),om):=by
 simp[Wo,Y7,Wp,WK,PyData.canLay0,PyData.depth,PyData.eqv]
 rfl
theorem Zh {S1 S2:FS} {sl sl1:Sl} {om om1:List Ob} (h:S1 sl om=some (.ok (.nx,sl1),om1)):ZE S1 S2 sl om=S2 sl1 om1:=by
 simp[ZE,bnd,h,KI]
theorem YI {S1 S2:FS} {sl sl1:Sl} {om om1:List Ob} {w:Wv} (h:S1 sl om=some (.ok (.rt w,sl1),om1)):ZE S1 S2 sl om=some (.ok (.rt w,sl1),om1):=by
 simp[ZE,bnd,h,KI,ret]
theorem ZH {N:Nat} {S:FS} {ws:List Wv} {sl1:Sl} {om om1:List Ob} {w:Wv} (h:S (WD N ws) om=some (.ok (.rt w,sl1),om1)):Yl N S ws om=some (.ok w,om1):=by
 simp[Yl,bnd,h,Lm,ret]
theorem Vr {N:Nat} {S:FS} {ws:List Wv} {sl1:Sl} {om om1:List Ob} (h:S (WD N ws) om=some (.ok (.nx,sl1),om1)):Yl N S ws om=some (.ok .non,om1):=by
 simp[Yl,bnd,h,Lm,ret]
theorem X1 {fi:FI} {T:TgW} {S:FS} {sl sl1:Sl} {om om1 om2:List Ob} {ws:List Wv} {r:Fl × Sl} (h:fi sl om=some (.ok ws,om1)) (hf:WU T S ws sl om1=some (.ok r,om2)):Tc fi T S sl om=some (.ok r,om2):=by
 simp[Tc,bnd,h,hf]
theorem Wg {k:List Wv->Mw Wv} {js:List Nat} {fi:FI} {c:FT} {f:FE} {sl:Sl} {om om1 om2:List Ob} {ws us:List Wv} (h:fi sl om=some (.ok ws,om1)) (hl:ws.length<=lim) (hc:Xk c f (fun w=>Xa js w sl) ws om1=some (.ok us,om2)):Yc k js fi c f sl om=k us om2:=by
 simp[Yc,bnd,h,chk,hl,hc,ret]
theorem ZB {i:Nat} {f:FE} {sl:Sl} {om om1:List Ob} {w:Wv} (h:f sl om=some (.ok w,om1)):ZO i f sl om=some (.ok (.nx,sl.set i (some w)),om1):=by
 simp[ZO,bnd,h,ret]
end
open PySem
theorem Zo {α β:Type} {m:Mw α} {k:α->Mw β} {om om1:List Ob} {a:α} (h:m om=some (.ok a,om1)):bnd m k om=k a om1:=by
 simp[bnd,h]
section
variable {sl sl1:Sl} {om om1 om2:List Ob} {f fa fb fo:FE} {c c1 c2:FT} {S S1 S2:FS} {fs:FA} {w x y:Wv} {ws:List Wv} {b:Bool} {i j n:Nat}
theorem Y1 (h:c sl om=some (.ok true,om1)):sIf c S1 S2 sl om=S1 sl om1:=by simp[sIf,bnd,h]
theorem B8 (h:c sl om=some (.ok false,om1)):sIf c S1 S2 sl om=S2 sl om1:=by simp[sIf,bnd,h]
theorem Z3 (h:c sl om=some (.ok false,om1)):sIf c S1 Y8 sl om=some (.ok (.nx,sl),om1):=(B8 h).trans rfl
theorem Zb (h:sl[i]?=some (some w)):Za i sl om=some (.ok w,om):=by simp[Za,h,ret]
theorem ZD:fC w sl om=some (.ok w,om):=rfl
theorem Zj:Zk sl om=some (.ok [],om):=rfl
theorem Ze (h:f sl om=some (.ok w,om1)) (hr:fs sl om1=some (.ok ws,om2)):Zc f fs sl om=some (.ok (w::ws),om2):=by simp[Zc,bnd,h,hr,ret]
theorem ZI {k:List Wv->Mw Wv} (h:fs sl om=some (.ok ws,om1)):fA k fs sl om=k ws om1:=by simp[fA,bnd,h]
theorem VC {k:Wv->Mw Wv} (h:f sl om=some (.ok w,om1)):f1 k f sl om=k w om1:=by simp[f1,bnd,h]
theorem ZC {k:Wv->Wv->Mw Wv} (h:fa sl om=some (.ok x,om1)) (h2:fb sl om1=some (.ok y,om2)):f2 k fa fb sl om=k x y om2:=by simp[f2,bnd,h,h2]
theorem YF {g:List Wv->Mw Wv} (h:ws.length=n):kN n g ws om=g ws om:=by subst h; simp[kN,chk,bnd,ret]
theorem Z9 (h:f sl om=some (.ok (.bl b),om1)):fB f sl om=some (.ok b,om1):=by simp[fB,bnd,h,kB,ret]
theorem W3 (h:f sl om=some (.ok (.bl b),om1)):WZ f sl om=some (.ok b,om1):=by simp[WZ,bnd,h,Cm,L1]
theorem F6 (h:c sl om=some (.ok b,om1)):FJ c sl om=some (.ok (!b),om1):=by simp[FJ,bnd,h,ret]
theorem Cf (h:c1 sl om=some (.ok true,om1)):UZ c1 c2 sl om=c2 sl om1:=by simp[UZ,bnd,h]
theorem CN (h:c1 sl om=some (.ok false,om1)):UZ c1 c2 sl om=some (.ok false,om1):=by simp[UZ,bnd,h,ret]
theorem Gg (h:c1 sl om=some (.ok false,om1)):fOr c1 c2 sl om=c2 sl om1:=by simp[fOr,bnd,h]
theorem U2 (h:fa sl om=some (.ok (.bl true),om1)):X7 fa fb sl om=fb sl om1:=by simp[X7,bnd,h,kB,ret]
theorem Zv (h:f sl om=some (.ok w,om1)):Ym f sl om=some (.ok (.rt w,sl),om1):=by simp[Ym,bnd,h,ret]
theorem Yw (h:f sl om=some (.ok w,om1)):Yg f sl om=some (.ok (.nx,sl),om1):=by simp[Yg,bnd,h,ret]
theorem Zy {C:Addr} {m:Str} {g:List Wv->Mw Wv} {k:List (Str × Wv)} (h:fo sl om=some (.ok w,om1)) (hi:VU om1 w=some (C,k)) (hk:k.lookup m=none) (hs:fs sl om1=some (.ok ws,om2)) (hn:ws.length+1=n):Zq C m n g fo fs sl om=g (w::ws) om2:=by
 subst hn
 simp[Zq,bnd,h,Ea,hi,hk,hs,kN,chk,ret]
end
open PySem
theorem FZ {K:PySem.W.Frag} (h:DC K=true) {a:Addr} {o:Obj} (e:K.lookup a=some o):o.cls≠.type "list":=by
 intro z
 have hm:∃b,(b,o)∈K:=by
  clear h z
  induction K with
  |nil=>cases e
  |cons p K ih =>
   rw[List.lookup_cons]at e
   split at e
   ·cases e; exact ⟨p.1,.head _⟩
   ·obtain ⟨b,hb⟩:=ih e; exact ⟨b,.tail _ hb⟩
 obtain ⟨b,hb⟩:=hm
 have:=List.all_eq_true.mp h _ hb
 rw[show tyL ((b,o):Addr × Obj).2.cls=true by show tyL o.cls=true; rw[z]; rfl]at this
 cases this
def E2 (K:PySem.W.Frag):Sp:=fun vs H Q _=>∃(a:Addr) (ns:List Int),vs=[.ref a]∧SqL K H a (ns.map V.int)∧ns.length<=63∧∀H',Q (.bl true) H'
theorem NR (F:Hp) (β:List Addr):∀ns:List Int,RWs F β (ns.map Wv.int) (ns.map V.int)
 |[]=>.nil
 |i::ns=>.cons (.int i) (NR F β ns)
theorem FO {P:Program} {w:World} {K:PySem.W.Frag} {mg:Str->Option Value} {base:Heap} {CX:CXT} {k:Nat} {f:Addr} {fd:FuncData} {ps:List Str} {g:List Wv->Mw Wv} (hK:DC K=true) (G:FnOk P w K mg base CX k f fd ps (spM 1 g))
    (h:∀ns:List Int,∃om,g [.lst (ns.map .int)] []=some (.ok (.bl true),om)):FnOk P w K mg base CX k f fd ps (E2 K):=G.imp fun vs H Q E ⟨a,ns,e,S,_,q⟩=>by
 subst e
 have r:Rd H a (.lst (ns.map V.int)):=S.resolve_right fun ⟨o,its,n,e,hc,_⟩=>FZ hK e hc
 obtain ⟨om,e⟩:=h ns
 refine ⟨fun b=>if b=a then H b else none,[],[],[.lst (ns.map .int)],⟨fun b u z=>?_,.nil,rfl,fun h a z=>(by cases z),fun h a x z _=>(by cases z)⟩,.cons (.lst ?_ (NR _ _ ns)) .nil,rfl,?_⟩
 ·by_cases hb:b=a
  ·exact (if_pos hb).symm.trans z
  ·have:=(if_neg hb).symm.trans z; cases this
 ·rcases r with r|⟨o,r⟩
  ·exact .inl ((if_pos rfl).trans r)
  ·exact .inr ⟨o,(if_pos rfl).trans r⟩
 ·rw[e]
  exact fun F' H' β' _ _ v rv=>by cases rv; exact q H'
end L2
namespace L2
noncomputable section
open PySem
def fzW (om:List Ob) (n:Nat):Nat->Wv->Wv
 |0,w=>w
 |k+1,.o h=>if n<=h then (match om[h]? with|some (.lst xs)=>.lst (xs.map (fzW om n k))|_=>.o h) else .o h
 |k+1,.lst xs=>.lst (xs.map (fzW om n k))
 |k+1,.tup xs=>.tup (xs.map (fzW om n k))
 |_+1,w=>w
open Classical in def tidyR (om:List Ob):Option (Except Addr Wv × List Ob)->Option (Except Addr Wv × List Ob)
 |none=>none
 |some (.ok w,om')=>if om'.take om.length=om∧FzW om' om.length w (fzW om' om.length 4 w) then some (.ok (fzW om' om.length 4 w),om) else none
 |some (.error C,om')=>if om'.take om.length=om then some (.error C,om) else none
def tidyG (g:List Wv->Mw Wv):List Wv->Mw Wv:=fun ws om=>tidyR om (g ws om)
open Classical in theorem tidyR_tidy {om:List Ob} (hs:∀x∈om,VJ om.length x) {r:Option (Except Addr Wv × List Ob)} (h:tidyR om r≠none):Tidy om r (tidyR om r):=by
 match r,h with
 |none,h=>exact absurd rfl h
 |some (.ok w,om'),h =>
  have h:¬ ((if om'.take om.length=om∧FzW om' om.length w (fzW om' om.length 4 w) then some (Except.ok (fzW om' om.length 4 w),om) else none)=(none:Option (Except Addr Wv × List Ob))):=h
  by_cases c:om'.take om.length=om∧FzW om' om.length w (fzW om' om.length 4 w)
  ·have e:om'=om++om'.drop om.length:=by
    conv=>lhs; rw[← List.take_append_drop om.length om',c.1]
   show Tidy om (some (.ok w,om')) (if om'.take om.length=om∧FzW om' om.length w (fzW om' om.length 4 w) then some (Except.ok (fzW om' om.length 4 w),om) else none)
   rw[if_pos c]
   have f:=c.2
   generalize fzW om' om.length 4 w=w' at f
   rw[e]at f ⊢
   exact .ok rfl hs f
  ·rw[if_neg c]at h; exact absurd rfl h
 |some (.error C,om'),h =>
  have h:¬ ((if om'.take om.length=om then some (Except.error C,om) else none)=(none:Option (Except Addr Wv × List Ob))):=h
  by_cases c:om'.take om.length=om
  ·have e:om'=om++om'.drop om.length:=by
    conv=>lhs; rw[← List.take_append_drop om.length om',c]
   show Tidy om (some (.error C,om')) (if om'.take om.length=om then some (Except.error C,om) else none)
   rw[if_pos c]
   rw[e]
   exact .err rfl hs
  ·rw[if_neg c]at h; exact absurd rfl h
theorem FnOk.tidyG {P:Program} {w:World} {K:PySem.W.Frag} {mg:Str->Option Value} {base:Heap} {k n:Nat} {f:Addr} {fd:FuncData} {ps:List Str} {CX:CXT} {g:List Wv->Mw Wv} (F:FnOk P w K mg base CX k f fd ps (spM n g)):FnOk P w K mg base CX k f fd ps (spM n (L2.tidyG g)) :=
 FnOk.tidy F fun ws om _ hs h=>tidyR_tidy hs h
open Classical in theorem tidyG_ok {g:List Wv->Mw Wv} {ws:List Wv} {om l:List Ob} {w w':Wv} (h:g ws om=some (.ok w,om++l)) (f:FzW (om++l) om.length w w') (e:fzW (om++l) om.length 4 w=w'):tidyG g ws om=some (.ok w',om):=by
 unfold tidyG
 rw[h]
 show (if (om++l).take om.length=om∧FzW (om++l) om.length w (fzW (om++l) om.length 4 w) then some (Except.ok (fzW (om++l) om.length 4 w),om) else none)=_
 rw[e,if_pos ⟨List.take_left,f⟩]
open Classical in theorem tidyG_er {g:List Wv->Mw Wv} {ws:List Wv} {om l:List Ob} {C:Addr} (h:g ws om=some (.error C,om++l)):tidyG g ws om=some (.error C,om):=by
 unfold tidyG
 rw[h]
 show (if (om++l).take om.length=om then some (Except.error C,om) else none)=_
 rw[if_pos List.take_left]
end
open PySem
theorem YH {om:List Ob} {w v:Wv} {xs:List Wv} {k:Nat} (h:Xs om w=some xs) (e:xs[k]?=some v):kIx w (.int k) om=some (.ok v,om):=by
 simp[kIx,h,Fi e]
theorem Qd {om:List Ob} {w:Wv} {xs:List Wv} (h:Xs om w=some xs):UM [w] om=some (.ok (.int xs.length),om):=by
 simp[UM,h]
theorem FF {α:Type} {f:α->Wv} {xs:List α} {k:Nat} (h:k < xs.length) (d:α):(xs.map f)[k]?=some (f (xs.getD k d)):=by
 simp[h,List.getD_eq_getElem?_getD]
theorem C9 {α:Type} {f:α->Wv} {xs:List α} {om:List Ob} {w:Wv} {k:Nat} (h:Xs om w=some (xs.map f)) (hk:k < xs.length) (d:α):kIx w (.int k) om=some (.ok (f (xs.getD k d)),om) :=
 YH h (FF hk d)
theorem Lg (a b:String) (ha:PyData.strOk (Str.ofString a)=true) (hb:PyData.strOk (Str.ofString b)=true) (om:List Ob):Wo false (.str a) (.str b) om=some (.ok (.bl (decide (a=b))),om):=by
 simp[Wo,Y7,Wp,WK,PyData.canLay0,PyData.depth,PyData.eqv,YG,XG,ha,hb]
theorem Cn (a b:String) (ha:PyData.strOk (Str.ofString a)=true) (hb:PyData.strOk (Str.ofString b)=true) (om:List Ob):Wo true (.str a) (.str b) om=some (.ok (.bl (!decide (a=b))),om):=by
 simp[Wo,Y7,Wp,WK,PyData.canLay0,PyData.depth,PyData.eqv,YG,XG,ha,hb]
theorem Nb (a b:Option Int) (om:List Ob):Wo true (XU a) (XU b) om=some (.ok (.bl (!decide (a=b))),om):=by
 cases a <;> cases b <;> simp[XU,Wo,Y7,Wp,WK,PyData.canLay0,PyData.depth,PyData.eqv] <;> rfl
theorem QE {T:TgW} {S:FS} (J:Nat->Sl->List Ob->Prop):∀(n s:Nat) {sl:Sl} {om:List Ob},(∀m,s<=m->m < s+n->∀sl om,J m sl om->∃sl1 fl sl2 om2,T (.int (m:Nat)) sl=some sl1∧S sl1 om=some (.ok (fl,sl2),om2)∧(fl=.nx∨fl=.ct)∧J (m+1) sl2 om2)->J s sl om->∃sl' om',WU T S ((List.range' s n).map fun (i:Nat)=>Wv.int i) sl om=some (.ok (.nx,sl'),om')∧J (s+n) sl' om'
 |0,s,sl,om,_,j=>⟨sl,om,rfl,j⟩
 |n+1,s,sl,om,h,j=>by
  obtain ⟨sl1,fl,sl2,om2,h1,h2,h3,h4⟩:=h s (Nat.le_refl _) (by omega) sl om j
  obtain ⟨sl',om',e,j'⟩:=QE J n (s+1) (fun m ha hb=>h m (by omega) (by omega)) h4
  refine ⟨sl',om',?_,by rw[show s+(n+1)=s+1+n by omega]; exact j'⟩
  rw[List.range'_succ,List.map_cons]
  show (match T (.int (s:Nat)) sl with|none=>XN|some sl1=>bnd (S sl1) (Sr fun sl2=>WU T S _ sl2)) om=_
  rw[h1]
  rcases h3 with rfl|rfl
  ·simp[bnd,h2,Sr,e]
  ·simp[bnd,h2,Sr,e]
theorem SO {T:TgW} {S:FS} {n:Nat} {sl:Sl} {om:List Ob} (J:Nat->Sl->List Ob->Prop) (h:∀m,m < n->∀sl om,J m sl om->∃sl1 fl sl2 om2,T (.int (m:Nat)) sl=some sl1∧S sl1 om=some (.ok (fl,sl2),om2)∧(fl=.nx∨fl=.ct)∧J (m+1) sl2 om2) (j:J 0 sl om):∃sl' om',WU T S (W7 n) sl om=some (.ok (.nx,sl'),om')∧J n sl' om':=by
 obtain ⟨sl',om',e,j'⟩:=QE J n 0 (fun m _ hm=>h m (by omega)) j
 rw[Nat.zero_add]at j'
 refine ⟨sl',om',?_,j'⟩
 unfold W7
 rw[List.range_eq_range']
 exact e
section
variable {sl:Sl} {om:List Ob} {c1 c2:FT} {b1 b2:Bool} {r:Wv}
theorem R8 (h1:c1 sl om=some (.ok b1,om)) (h2:b1=true->c2 sl om=some (.ok b2,om)):UZ c1 c2 sl om=some (.ok (b1&&b2),om):=by
 cases b1 with
 |true=>exact (Cf h1).trans (h2 rfl)
 |false=>exact CN h1
theorem v2 {k:Wv->Wv->Mw Wv} {i j:Nat} {x y:Wv} (hi:sl[i]?=some (some x)) (hj:sl[j]?=some (some y)):f2 k (Za i) (Za j) sl om=k x y om:=ZC (Zb hi) (Zb hj)
end
theorem L3 (a b:Nat):((a:Int) == (b:Int))=decide (a=b):=by
 by_cases h:a=b
 ·simp[h]
 ·rw[decide_eq_false h]; simpa using (show ¬ (a:Int)=b by omega)
theorem Vp {ws:List Wv} {om:List Ob} (h:ws.length<=8):VR ws om=some (.ok (.tup ws),om):=by
 have:ws.length<=lim:=by have:=ZW; omega
 simp[VR,this,L2.ret]
theorem HI:PyData.strOk (Str.ofString "stand")=true:=by decide +kernel
theorem L9:PyData.strOk (Str.ofString "move")=true:=by decide +kernel
theorem SI:PyData.strOk (Str.ofString "help")=true:=by decide +kernel
end L2
namespace L2
noncomputable section
open PySem PySem.Spec PyProof.Rows
def Ai:Wv->Mw Wv
 |.int i=>ret (.int i)
 |.bl b=>ret (.int (if b then 1 else 0))
 |_=>XN
def Qg:List Wv->Mw Wv
 |[x]=>Ai x
 |_=>XN
def Ny:List Wv->Mw Wv
 |[x,y]=>kI (fun i j=>.int (if j < i then j else i)) x y
 |_=>XN
section
variable {X:Cx} {E:XK} {e a b:Expr} {es:List Expr} {f fa fb:FE} {fs:FA} {pos p:Pos}
theorem Ld:VZ E (fun xs H Q=>(∃i,xs=[.int i]∧Q (.int i) H)∨∃k,xs=[.bl k]∧Q (.int (if k then 1 else 0)) H) Qg:=by
 intro F H β om ws vs Q M rs R
 match ws,rs,R with
 |[],_,R=>exact R.elim
 |_::_::_,_,R=>exact R.elim
 |[x],.cons rx .nil,R =>
  have R:Res E (Ai x om) F H β (PV Q):=R
  cases rx with
  |int i=>exact .inl ⟨i,rfl,(show Res E (ret (Wv.int i) om) F H β (PV Q) from R).now M _ (.int _)⟩
  |bl b=>exact .inr ⟨b,rfl,(show Res E (ret (Wv.int (if b then 1 else 0)) om) F H β (PV Q) from R).now M _ (.int _)⟩
  |_=>exact R.elim
theorem MZ:VZ E (fun xs H Q=>∃i j,xs=[.int i,.int j]∧Q (.int (if j < i then j else i)) H) Ny:=by
 intro F H β om ws vs Q M rs R
 match ws,rs,R with
 |[],_,R=>exact R.elim
 |[_],_,R=>exact R.elim
 |_::_::_::_,_,R=>exact R.elim
 |[x,y],.cons rx (.cons ry .nil),R =>
  have R:Res E (kI (fun i j=>.int (if j < i then j else i)) x y om) F H β (PV Q):=R
  cases rx <;> first|exact R.elim|skip
  cases ry <;> first|exact R.elim|skip
  exact ⟨_,_,rfl,(show Res E (ret (Wv.int _) om) F H β (PV Q) from R).now M _ (.int _)⟩
theorem LQ (hg:Gl X "int") (hm:X.mg "int"=none) (hb:bootBuiltins "int"=some (.type "int")) (ha:PA X [e] (tA E fs)) (he:starEach [e] X.env=(false,eval e X.env)::starEach [] X.env:=by rfl) (hpl:(backTo pos (starEach [] X.env)).any (·.1)=false:=by rfl) :
    PE X (.Call (.Name "int" p) [e] [] pos) (tE E (fA Qg fs)):=KO JF Ld hg hm hb ha (by decide) (by decide) he hpl
theorem Fd (hc:X.calm=true) (hg:Gl X "min") (hm:X.mg "min"=none) (hb:bootBuiltins "min"=some (.builtin "min")) (ha:PA X (e::es) (tA E fs)) (he:starEach (e::es) X.env=(false,eval e X.env)::starEach es X.env:=by rfl) (hpl:(backTo pos (starEach es X.env)).any (·.1)=false:=by rfl) :
    PE X (.Call (.Name "min" p) (e::es) [] pos) (tE E (fA Ny fs)):=W0 (Kz hc) MZ hg hm hb ha (by decide) (by decide) he hpl
end
end
end L2
namespace L2
noncomputable section
open PySem PySem.Spec PyProof.Rows
def tgs:List Nat->List Wv->Sl->Option Sl
 |[],[],sl=>some sl
 |i::is,w::ws,sl=>tgs is ws (sl.set i (some w))
 |_,_,_=>none
def J1 (is:List Nat):TgW:=fun w sl=>match w with
 |.tup ws=>tgs is ws sl
 |_=>none
theorem Hf {F H:Hp} {β:List Addr} {Q:St->Hp->Prop}:∀{is:List Nat} {ws:List Wv} {vs:List V} {σ:St} {sl sl':Sl},EnvOk F β σ sl->RWs F β ws vs->tgs is ws sl=some sl'->(∀σ',EnvOk F β σ' sl'->Q σ' H)->vs.length=is.length∧gNs is vs σ H Q
 |[],[],_,σ,sl,sl',V,.nil,e,q=>by
  have e:some sl=some sl':=e
  cases e
  exact ⟨rfl,rfl,q _ V⟩
 |i::is,w::ws,_,σ,sl,sl',V,.cons r rs,e,q=>by
  have e:tgs is ws (sl.set i (some w))=some sl':=e
  obtain ⟨h1,h2⟩:=Hf (V.set i r) rs e q
  exact ⟨congrArg Nat.succ h1,_,_,rfl,h2⟩
 |[],_::_,_,_,_,_,_,_,e,_=>by cases e
 |_::_,[],_,_,_,_,_,_,e,_=>by cases e
theorem LW {K:PySem.W.Frag} (is:List Nat):KY (Jg K is.length (gNs is)) (J1 is):=fun {F H β om σ sl sl' w v Q} M V r e q=>by
 cases r with
 |@tup a xs ws q2 rs =>
  obtain ⟨h1,h2⟩:=Hf V rs (show tgs is ws sl=some sl' from e) q
  exact ⟨a,xs,rfl,.inl (.inl (M.sub _ _ q2)),h1,h2⟩
 |_=>cases e
end
end L2
namespace L2
noncomputable section
open PySem PySem.Spec PyProof.Rows
abbrev stW:Wv:=.tup [.str "stand"]
def GTup (K:PySem.W.Frag) (a:Addr):Prop:=∃(o:Obj) (its:Array Value) (n:Nat),K.lookup a=some o∧o.cls=.type "tuple"∧o.data=.seq its n∧its.size<=sizeLine∧Vals [V.str "stand"] its.toList
theorem GTup.sq {K:PySem.W.Frag} {a:Addr} (h:GTup K a) (H:Hp):SqT K H a [.str "stand"]:=.inr h
theorem GTup.of {K:PySem.W.Frag} {a:Addr} {od:Option Addr} {n:Nat} {t:Tok} {sl:Array (Option Value)} (h:K.lookup a=some ⟨.type "tuple",od,.seq #[.str "stand" t] n,sl⟩):GTup K a:=⟨_,_,_,h,rfl,rfl,by show 1<=sizeLine; decide,.cons ⟨t,rfl⟩ .nil⟩
def unG (s:Addr):Wv->Wv
 |.g a=>if a=s then stW else .g a
 |w=>w
theorem J4 (s:Addr):unG s (.g s)=stW:=if_pos rfl
theorem DG {F:Hp} {β:List Addr} {s:Addr} {x:Wv} {v:V} (r:RW F β x v):unG s x=x∨(x=.g s∧v=.ref s∧unG s x=stW):=by
 cases r with
 |g a =>
  by_cases h:a=s
  ·subst h; exact .inr ⟨rfl,rfl,J4 _⟩
  ·exact .inl (if_neg h)
 |_=>exact .inl rfl
def WO (s:Addr) (x i:Wv):Mw Wv:=kIx (unG s x) i
section
variable {X:Cx} {E:XK} {e a b:Expr} {es:List Expr} {f fa fb:FE} {fs:FA} {pos p p2:Pos} {s:Addr}
theorem LF {x:Str} (hg:Gl X x) (h:X.mg x=some (.ref s)) (hd:(x == ("__debug__":Str))=false:=by decide):PE X (.Name x pos) (tE E (fC (.g s))):=KS (LJ (v:=.ref s) hg h rfl hd) fun _ _=>.g s
theorem Cc {F:Hp} {β:List Addr}:RWs F β [Wv.str "stand"] [V.str "stand"]:=.cons (.str _) .nil
theorem G7 (G:GTup X.K s):Op2 E (rIx X.K) (WO s):=by
 intro F H β om x y v u Q M rx ry R
 unfold WO at R
 rcases DG (s:=s) rx with h|⟨rfl,rfl,h⟩
 ·rw[h]at R; exact IQ M rx ry R
 ·rw[h]at R
  cases ry with
  |int i =>
   have R:Res E (match L2.atI [Wv.str "stand"] i with|some w=>some (Except.ok w,om)|none=>none) F H β (PV Q):=R
   match ha:L2.atI [Wv.str "stand"] i,R with
   |none,R=>exact R.elim
   |some w,R =>
    obtain ⟨z,ez,rz⟩:=(Cc (F:=F) (β:=β)).atI ha
    exact .inr (.inl ⟨s,_,i,z,rfl,rfl,G.sq H,ez,(show Res E (ret w om) F H β (PV Q) from R).now M z rz⟩)
  |_=>exact R.elim
theorem Vd (G:GTup X.K s) (ha:PE X a (tE E fa)) (hb:PE X b (tE E fb)) (hs:Ou b:=by intro _ _; rfl):PE X (.Subscript a b pos) (tE E (f2 (WO s) fa fb)):=(Df Hu ha hb hs).weak fun _ _ _ h=>OM (G7 G) h
def XQ:List Wv->Option (List Int)
 |[]=>some []
 |.int i::r=>match XQ r with
  |some is=>some (i::is)
  |none=>none
 |_=>none
theorem Uc {F:Hp} {β:List Addr}:∀{ws:List Wv} {vs:List V} {ns:List Int},RWs F β ws vs->XQ ws=some ns->vs=ns.map V.int
 |_,_,_,.nil,e=>by cases e; rfl
 |_,_,_,.cons (ws:=r) h rr,e=>by
  cases h with
  |int i =>
   have e:(match XQ r with|some is=>some (i::is)|none=>none)=some _:=e
   match hr:XQ r,e with
   |some is,e =>
    have e:some (i::is)=some _:=e
    cases e
    rw[List.map_cons,← Uc rr hr]
   |none,e=>exact nomatch e
  |_=>exact nomatch e
def KW (p:Int):List Int->List Int
 |[]=>[p]
 |q::r=>if q < p then q::KW p r else p::q::r
def YT:List Int->List Int
 |[]=>[]
 |p::r=>KW p (YT r)
theorem TL (p:Int):∀l,(KW p l).Perm (p::l)
 |[]=>List.Perm.refl _
 |q::r=>by
  unfold KW
  split
  ·exact ((TL p r).cons q).trans (List.Perm.swap p q r)
  ·exact List.Perm.refl _
theorem Yv:∀l,(YT l).Perm l
 |[]=>List.Perm.refl _
 |p::r=>(TL p (YT r)).trans ((Yv r).cons p)
theorem Nq (p:Int):∀l:List Int,l.Pairwise (·<=·)->(KW p l).Pairwise (·<=·)
 |[],_=>List.pairwise_singleton _ _
 |q::r,h=>by
  have h':=List.pairwise_cons.mp h
  unfold KW
  by_cases hc:q < p
  ·rw[if_pos hc]
   refine List.pairwise_cons.mpr ⟨fun y hy=>?_,Nq p r h'.2⟩
   rcases List.mem_cons.mp ((TL p r).mem_iff.mp hy) with rfl|hy
   ·omega
   ·exact h'.1 y hy
  ·rw[if_neg hc]
   refine List.pairwise_cons.mpr ⟨fun y hy=>?_,h⟩
   rcases List.mem_cons.mp hy with rfl|hy
   ·omega
   ·have:=h'.1 y hy; omega
theorem WV:∀l,(YT l).Pairwise (·<=·)
 |[]=>List.Pairwise.nil
 |p::r=>Nq p _ (WV r)
theorem VQ:∀{l m:List Int},l.Perm m->l.Pairwise (·<=·)->m.Pairwise (·<=·)->l=m
 |[],m,h,_,_=>(List.nil_perm.mp h).symm
 |x::l,[],h,_,_=>absurd h (by simp)
 |x::l,y::m,h,h1,h2=>by
  have h1':=List.pairwise_cons.mp h1
  have h2':=List.pairwise_cons.mp h2
  have e:x=y:=by
   have hx:=h.mem_iff.mp (List.mem_cons_self (a:=x) (l:=l))
   have hy:=h.mem_iff.mpr (List.mem_cons_self (a:=y) (l:=m))
   rcases List.mem_cons.mp hx with hx|hx
   ·exact hx
   ·rcases List.mem_cons.mp hy with hy|hy
    ·exact hy.symm
    ·have a:=h1'.1 y hy
     have b:=h2'.1 x hx
     omega
  subst e
  rw[VQ h.cons_inv h1'.2 h2'.2]
def HP (om:List Ob):Wv->Option (List Wv)
 |.lst ws=>some ws
 |.o h=>match om[h]? with
  |some (.lst ws)=>some ws
  |_=>none
 |_=>none
theorem O4 {F H:Hp} {β:List Addr} {om:List Ob} {w:Wv} {v:V} {ws:List Wv} (M:MOk F H β om) (r:RW F β w v) (e:HP om w=some ws):∃a xs,v=.ref a∧SqL X.K H a xs∧RWs F β ws xs:=by
 cases r with
 |lst q rs=>cases e; exact ⟨_,_,rfl,.inl (Rd.same M.sub q),rs⟩
 |@o h a eb =>
  have e:(match om[h]? with|some (.lst ws)=>some ws|_=>none)=some ws:=e
  match hx:om[h]?,e with
  |none,e=>exact nomatch e
  |some (.ins _ _),e=>exact nomatch e
  |some (.exc _),e=>exact nomatch e
  |some (.dk _),e=>exact nomatch e
  |some (.dt _),e=>exact nomatch e
  |some (.dz _),e=>exact nomatch e
  |some (.lst us),e =>
   have e:some us=some ws:=e
   cases e
   obtain ⟨a',ea,_,xs,hxs,rs⟩:=M.at hx
   rw[eb]at ea; cases ea
   exact ⟨_,_,rfl,SqL.of hxs,rs⟩
 |_=>cases e
def YU (k:List Wv->Mw Wv) (ws:List Wv):Mw Wv:=fun om=>match ws with
 |[x]=>match HP om x with
  |some us=>match XQ us with
   |some ns=>if ns.length < 64 then k ((YT ns).map Wv.int) om else none
   |none=>none
  |none=>none
 |_=>none
theorem U5 {F:Hp} {β:List Addr}:∀ns:List Int,RWs F β (ns.map Wv.int) (ns.map V.int)
 |[]=>.nil
 |_::r=>.cons (.int _) (U5 r)
theorem Mb {k:List Wv->Mw Wv} (lk:Vf E k):VZ E (Ih X.K) (YU k):=by
 intro F H β om ws vs Q M rs R
 match ws,rs,R with
 |[],_,R=>exact R.elim
 |_::_::_,_,R=>exact R.elim
 |[x],.cons rx .nil,R =>
  unfold YU at R
  dsimp only at R
  match hx:HP om x,R with
  |none,R=>exact R.elim
  |some us,R =>
   dsimp only at R
   match hn:XQ us,R with
   |none,R=>exact R.elim
   |some ns,R =>
    dsimp only at R
    by_cases hl:ns.length < 64
    ·rw[if_pos hl]at R
     obtain ⟨p,xs,rfl,hs,r2⟩:=O4 (X:=X) M rx hx
     rw[Uc r2 hn]at hs
     refine ⟨p,ns,rfl,hs,hl,fun q ms h1 h2 hq=>?_⟩
     have e:ms=YT ns:=VQ (h1.trans (Yv ns).symm) h2 (WV ns)
     rw[e]
     exact (lk M (U5 _) R).2 hq
    ·rw[if_neg hl]at R; exact R.elim
theorem Se {k:List Wv->Mw Wv} (lk:Vf E k) (hg:Gl X "sorted") (hm:X.mg "sorted"=none) (ha:PA X [e] (tA E fs)) (he:starEach [e] X.env=(false,eval e X.env)::starEach [] X.env:=by rfl) (hpl:(backTo pos (starEach [] X.env)).any (·.1)=false:=by rfl) :
    PE X (.Call (.Name "sorted" p) [e] [] pos) (tE E (fA (YU k) fs)):=W0 Mm (Mb (X:=X) lk) hg hm PyProof.Rows.boot_sorted ha (by decide) (by decide) he hpl
def WL:List Wv->Option (List Bool)
 |[]=>some []
 |.bl b::r=>match WL r with
  |some bs=>some (b::bs)
  |none=>none
 |_=>none
theorem SS {F:Hp} {β:List Addr}:∀{ws:List Wv} {vs:List V} {bs:List Bool},RWs F β ws vs->WL ws=some bs->vs=bs.map V.bl
 |_,_,_,.nil,e=>by cases e; rfl
 |_,_,_,.cons (ws:=r) h rr,e=>by
  cases h with
  |bl i =>
   have e:(match WL r with|some is=>some (i::is)|none=>none)=some _:=e
   match hr:WL r,e with
   |some is,e =>
    have e:some (i::is)=some _:=e
    cases e
    rw[List.map_cons,← SS rr hr]
   |none,e=>exact nomatch e
  |_=>exact nomatch e
def II (g:List Bool->Bool) (ws:List Wv):Mw Wv:=fun om=>match ws with
 |[x]=>match HP om x with
  |some us=>match WL us with
   |some bs=>some (.ok (.bl (g bs)),om)
   |none=>none
  |none=>none
 |_=>none
abbrev Gy:=II fun bs=>bs.any id
theorem Ll {g:List Bool->Bool}:VZ E (Dg X.K g) (II g):=by
 intro F H β om ws vs Q M rs R
 match ws,rs,R with
 |[],_,R=>exact R.elim
 |_::_::_,_,R=>exact R.elim
 |[x],.cons rx .nil,R =>
  unfold II at R
  dsimp only at R
  match hx:HP om x,R with
  |none,R=>exact R.elim
  |some us,R =>
   dsimp only at R
   match hn:WL us,R with
   |none,R=>exact R.elim
   |some bs,R =>
    obtain ⟨p,xs,rfl,hs,r2⟩:=O4 (X:=X) M rx hx
    rw[SS r2 hn]at hs
    exact ⟨p,bs,rfl,hs,(show Res E (ret (Wv.bl (g bs)) om) F H β (PV Q) from R).now M _ (.bl _)⟩
theorem ID (hc:X.calm=true) (hg:Gl X "any") (hm:X.mg "any"=none) (hb:bootBuiltins "any"=some (.builtin "any")) (ha:PA X [e] (tA E fs)) (he:starEach [e] X.env=(false,eval e X.env)::starEach [] X.env:=by rfl) (hpl:(backTo pos (starEach [] X.env)).any (·.1)=false:=by rfl) :
    PE X (.Call (.Name "any" p) [e] [] pos) (tE E (fA Gy fs)):=W0 (K7 hc) (Ll (X:=X)) hg hm hb ha (by decide) (by decide) he hpl
end
section
variable {X:Cx} {E:XK} {e o:Expr} {fo f:FE}
def En:V->List V->Hp->VK->Prop:=fun x vs H Q=>∃l b xs zs,x=.ref l∧vs=[.ref b]∧H l=some (.lst xs)∧Rd H b (.lst zs)∧xs.length+zs.length<=sizeLine∧Q .non (upd H l (.lst (xs++zs)))
theorem GW:MtM X "list.extend" En:=by
 intro pins s σ H x vs v us Q I rx rv h
 obtain ⟨l,b,xs,zs,rfl,rfl,hH,hB,hz,q⟩:=h
 cases rx
 obtain ⟨u,rfl,ru⟩:=rv.one
 cases ru
 obtain ⟨_,its,n,r,hl,e⟩:=I.lstM hH
 obtain ⟨_,jts,m,r2,e2⟩:=hB.ok I.hok
 have hl2:=r2.length
 have hs:its.toArray.size+jts.toArray.size<=sizeLine:=by simp only[List.size_toArray]; omega
 have hn:¬ (!its.toArray.isEmpty&&Builtin.List.listTooLong (its.toArray.size+jts.toArray.size))=true:=fun z=>by
  rw[He hs,Bool.and_false]at z; cases z
 refine call_meets F.slot_list_extend ⟨_,e,rfl⟩ F.entry_list_extend (F.args_list_extend_2 _ _) (AutoSeq1.list_extend_list_list_0 l its.toArray n b jts.toArray m hn (by simp only[List.size_toArray]; omega) (by omega)) ⟨e,e2,?_⟩
 exact ⟨.non,_,I.lset (its':=its++jts) hH e (by simp) (r.append r2) (by rw[List.length_append]; omega),rfl,q⟩
def CI (x y:Wv):Mw Wv:=fun om=>match UU om x,y with
 |some (h,ws),.lst us=>if ws.length+us.length<=lim then some (.ok .non,om.set h (.lst (ws++us))) else none
 |_,_=>none
def Gv (fo f:FE):FE:=fun sl=>bnd (fo sl) fun x=>bnd (Fa x) fun _=>bnd (f sl) fun y=>CI x y
theorem KL {apos cpos:Pos} (ho:PE X o (tE E fo)) (he:PE X e (tE E f)) (hbase:attributeBase o "extend" X.env (eval o X.env)=eval o X.env:=by rfl)
    (hfew:((backTo cpos (starEach [e] X.env)).all (fun x=>!x.1)&&(backToKw cpos (keywordEach [] X.env)).all (fun x=>x.1.isSome)
     && decide (([e]:List Expr).length+([]:List Keyword).length+(if ([]:List Keyword).isEmpty then 0 else 1) < 30))=true:=by rfl)
    (hline:(apos.endLine == cpos.line)=true:=by rfl) (hs:starEach [e] X.env=(false,eval e X.env)::starEach [] X.env:=by rfl) (hplain:(backTo cpos (starEach [] X.env)).any (·.1)=false:=by rfl) :
    PE X (.Call (.Attribute o "extend" apos) [e] [] cpos) (tE E (Gv fo f)):=(BA PySem.F.plainAttrs_list PySem.F.slot_list_extend PySem.F.type_list_extend GW ho (WB he Vo hs) hbase hfew hline hs hplain).weak fun σ H Q ⟨F,β,om,sl,M,V,R⟩=>by
 refine ⟨F,β,om,sl,M,V,R.bind fun x om1 F1 H1 β1 g1 M1 R1 v rv=>?_⟩
 obtain ⟨ty,R2⟩:=HS (X:=X) M1 rv R1
 refine ⟨ty,F1,β1,om1,sl,M1,V.mono g1.toGr,R2.bind fun y om3 F3 H3 β3 g3 M3 R3 u ru=>?_⟩
 show En v [u] H3 Q
 unfold CI at R3
 match hx:UU om3 x,R3 with
 |none,R3=>exact R3.elim
 |some (h,ws),R3 =>
  cases ru with
  |@lst b zs us q rs2 =>
   dsimp only at R3
   obtain ⟨a,xs,_,_,eb,rfl,ha,rs⟩:=Tn M3 (rv.mono g3.toGr) hx
   by_cases hc:ws.length+us.length<=lim
   ·rw[if_pos hc]at R3
    have:=Uy
    have:=rs.length
    have:=rs2.length
    refine ⟨a,b,xs,zs,rfl,rfl,ha,Rd.same M3.sub q,by omega,?_⟩
    exact R3 F3 _ β3 (M3.gxP eb (nz ha)) (M3.put eb ⟨xs++zs,Zu,rs.append rs2⟩) _ .non
   ·rw[if_neg hc]at R3; exact R3.elim
  |_=>exact R3.elim
end
section
variable {X:Cx} {E:XK} {tg iter:Expr} {body:List Stmt} {fo:FE} {T:TgW} {g:TG} {S:FS} {pos:Pos}
end
end
end L2
namespace MP
noncomputable section
open PySem L2
structure CA where
 Map:Addr
 Board:Addr
 Orders:Addr
 Turn:Addr
 OrderError:Addr
 NoPlace:Addr
 NoSide:Addr
 Crowded:Addr
 NoUnit:Addr
 OutOfReach:Addr
 STAND:Addr
 kit:Addr->Value->Bool
 caught:Addr->Addr->Bool
def R7 (c:CA):FS :=
 (ZE (sIf (fB (f2 kLt (Za 1) (fA UM (Zc (Za 0) Zk)))) (Ym (f2 kIx (Za 0) (Za 1))) Y8)
  (Ym (fC (.int 0))))
def g__law_cell_at (c:CA):List Wv->Mw Wv:=Yl 2 (R7 c)
end
open PySem L2
inductive Od where
 |stand
 |move (g:Nat)
 |help (h g:Nat)
 deriving DecidableEq
def odW:Option Od->Wv
 |none=>.non
 |some .stand=>.tup [.str "stand"]
 |some (.move g)=>.tup [.str "move",.int g]
 |some (.help h g)=>.tup [.str "help",.int h,.int g]
abbrev at' {α:Type} (l:List (Option α)) (k:Nat):Option α:=l.getD k none
structure OkT (told:List (Option Od)) (f:List (Option Int)):Prop where
 len:told.length=f.length
 few:told.length<=60
 both:∀k,k < told.length->((at' told k).isSome=true ↔ (at' f k).isSome=true)
 mv:∀k g,at' told k=some (.move g)->g < told.length∧g≠k
 hl:∀k h g,at' told k=some (.help h g)->h < told.length∧g < told.length∧h≠k∧g≠k∧(at' f h).isSome=true
structure Rows (om:List Ob) (tw sw:Wv) (told:List (Option Od)) (f:List (Option Int)):Prop where
 t:Xs om tw=some (told.map odW)
 s:Xs om sw=some (f.map XU)
def MF (told:List (Option Od)) (f:List (Option Int)) (k g:Nat):Bool:=(List.range told.length).any fun m=>decide (at' told m=some (.move k))&&(!decide (m=g)&&!decide (at' f m=at' f k))
section
variable (c:CA) {om:List Ob} {tw sw:Wv} {told:List (Option Od)} {f:List (Option Int)}
end
open PySem L2
def odN:Od->String
 |.stand=>"stand"
 |.move _=>"move"
 |.help _ _=>"help"
theorem Ka (o:Od):PyData.strOk (Str.ofString (odN o))=true:=by
 cases o with
 |stand=>exact HI
 |move g=>exact L9
 |help h g=>exact SI
def Xg:Option Od->Bool
 |some (.move _)=>true
 |_=>false
theorem OW (o:Option Int) (om:List Ob):U3 (XU o) om=some (.ok (.bl o.isNone),om):=by
 cases o <;> rfl
def XH (told:List (Option Od)) (f:List (Option Int)) (k:Nat):Bool:=match at' told k with
 |some (.help h g)=>!MF told f k g&&(if h=g then !Xg (at' told h) else decide (at' told h=some (.move g)))
 |_=>false
section
variable (c:CA) {om:List Ob} {tw sw:Wv} {told:List (Option Od)} {f:List (Option Int)}
end
open PySem L2
def Lq (told:List (Option Od)) (f:List (Option Int)) (k goal:Nat) (sd:Option Int) (h:Nat):Bool:=decide (at' told h=some (.help k goal))&&(XH told f h&&!decide (at' f h=sd))
def Xr (told:List (Option Od)) (f:List (Option Int)) (k goal:Nat) (sd:Option Int):Int:=(List.range told.length).foldl (fun a h=>bif Lq told f k goal sd h then a+1 else a) 1
def N6 (told:List (Option Od)) (f:List (Option Int)) (k:Nat):Int:=bif Xg (at' told k) then 1 else Xr told f k k (some (-1))
section
variable (c:CA) {om:List Ob} {tw sw kw:Wv} {told:List (Option Od)} {f:List (Option Int)} {kept:List Bool}
end
open PySem L2
abbrev XV (ns:List Int):Wv:=.lst (ns.map .int)
section
variable (c:CA) {om:List Ob}
theorem G6 (ns:List Int) (k:Nat) (om:List Ob):g__law_cell_at c [XV ns,.int k] om=some (.ok (.int (ns.getD k 0)),om):=by
 have hlen:fA UM (Zc (Za 0) Zk) [some (XV ns),some (.int k)] om=some (.ok (.int ns.length),om):=by
  refine (ZI (Ze (Zb rfl) Zj)).trans ((Qd rfl).trans ?_)
  rw[List.length_map]
 have a1:fB (f2 kLt (Za 1) (fA UM (Zc (Za 0) Zk))) [some (XV ns),some (.int k)] om=some (.ok (decide (k < ns.length)),om):=by
  refine Z9 ((ZC (Zb rfl) hlen).trans ?_)
  simp[kI,L2.ret]
 by_cases h:k < ns.length
 ·rw[decide_eq_true h]at a1
  refine ZH (YI ((Y1 a1).trans (Zv ((v2 rfl rfl).trans (C9 (xs:=ns) rfl h 0)))))
 ·rw[decide_eq_false h]at a1
  rw[show ns.getD k 0=0 by simp[List.getD_eq_getElem?_getD,List.getElem?_eq_none (Nat.le_of_not_lt h)]]
  exact ZH ((Zh (Z3 a1)).trans (Zv ZD))
theorem MO {sl:Sl} {i:Nat} {fe:FE} {ns:List Int} {k:Nat} (h:sl[i]?=some (some (XV ns))) (hk:fe sl om=some (.ok (.int k),om)):fA (kN 2 (g__law_cell_at c)) (Zc (Za i) (Zc fe Zk)) sl om=some (.ok (.int (ns.getD k 0)),om) :=
 (ZI (Ze (Zb h) (Ze hk Zj))).trans ((YF rfl).trans (G6 c ns k om))
theorem R0 {sl:Sl} {fa:FE} {a q:Int} (h:fa sl om=some (.ok (.int a),om)) (hq:0 < q):f2 XS fa (fC (.int q)) sl om=some (.ok (.int (a % q)),om):=(ZC h ZD).trans (by simp[kIc,L2.ret,hq])
theorem Kj {sl:Sl} {fa:FE} {a q:Int} (h:fa sl om=some (.ok (.int a),om)) (hq:0 < q∧q < 1073741824):f2 Sw fa (fC (.int q)) sl om=some (.ok (.int (a / q)),om):=(ZC h ZD).trans (by simp[kIc,L2.ret,hq])
theorem GD {sl:Sl} {i m:Nat} (h:sl[i]?=some (some (.int m))) (hm:m<=lim) (om:List Ob):(fun sl=>bnd ((Za i) sl) Wn) sl om=some (.ok (W7 m),om):=(Zo (Zb h)).trans (Te _ _ hm)
end
open PySem L2
abbrev Mx:=List (List Bool)
def P6 (rows:Mx) (a b:Nat):Bool:=(rows.getD a []).getD b false
structure Lk (m:Nat) (rows:Mx):Prop where
 len:rows.length=m
 row:∀a,a < m->(rows.getD a []).length=m
 sym:∀a b,P6 rows a b=P6 rows b a
 dg:∀a,P6 rows a a=false
open PySem L2
section
variable (c:CA) {om:List Ob}
theorem Gc {b:Bool} {om:List Ob} (h:b=true):chk b om=some (.ok (),om):=by subst h; rfl
end
open PySem L2
def Ax (rows:Mx) (f:List (Option Int)) (k:Nat):Option Od->Prop
 |none=>at' f k=none
 |some .stand=>(at' f k).isSome=true
 |some (.move g)=>(at' f k).isSome=true∧g < f.length∧P6 rows k g=true
 |some (.help h g)=>(at' f k).isSome=true∧h < f.length∧g < f.length∧h≠k∧(at' f h).isSome=true∧P6 rows k g=true∧(h=g∨P6 rows h g=true)
section
variable (c:CA) {om:List Ob}
theorem Rj {cT:FT} {f:FE} {mk:Wv->Sl} {om:List Ob} {n:Nat} (p:Nat->Bool) (g:Nat->Wv) (hc:∀k,k < n->cT (mk (.int (k:Nat))) om=some (.ok (p k),om)) (hf:∀k,k < n->p k=true->f (mk (.int (k:Nat))) om=some (.ok (g k),om)):Xk cT f mk (W7 n) om=some (.ok (((List.range n).filter p).map g),om):=by
 rw[Ue (fun w=>match w with|.int i=>p i.toNat|_=>false) (fun w=>match w with|.int i=>g i.toNat|_=>.non)]
 ·rw[Nc,List.map_map]
  have e:((List.range n).filter fun k=>(match Wv.int (k:Nat) with|.int i=>p i.toNat|_=>false))=(List.range n).filter p:=List.filter_congr fun k _=>by
   show p ((k:Nat):Int).toNat=_
   rw[Int.toNat_natCast]
  rw[e]
  refine congrArg (fun l=>some (Except.ok l,om)) (List.map_congr_left fun k _=>?_)
  show g ((k:Nat):Int).toNat=_
  rw[Int.toNat_natCast]
 ·intro w hw
  obtain ⟨k,hk,rfl⟩:=Nf hw
  show _=some (Except.ok (p ((k:Nat):Int).toNat),om)
  rw[Int.toNat_natCast]
  exact hc k hk
 ·intro w hw hp
  obtain ⟨k,hk,rfl⟩:=Nf hw
  have hp:p ((k:Nat):Int).toNat=true:=hp
  rw[Int.toNat_natCast]at hp
  show _=some (Except.ok (g ((k:Nat):Int).toNat),om)
  rw[Int.toNat_natCast]
  exact hf k hk hp
end
open PySem L2
structure Givn (rows:Mx) (f:List (Option Int)) (told:List (Option Od)):Prop where
 lk:Lk f.length rows
 len:told.length=f.length
 few:f.length<=60
 ok:∀k,k < f.length->Ax rows f k (at' told k)
theorem UN {α:Type} {l:List (Option α)} {k:Nat} (h:¬ k < l.length):at' l k=none:=by
 unfold at'; rw[List.getD_eq_getElem?_getD,List.getElem?_eq_none (by omega)]; rfl
theorem Givn.okT {rows:Mx} {f:List (Option Int)} {told:List (Option Od)} (G:Givn rows f told):OkT told f:=by
 have dg:∀k g,P6 rows k g=true->g≠k:=fun k g h z=>by subst z; rw[G.lk.dg]at h; cases h
 have inr:∀k o,at' told k=some o->k < f.length:=fun k o e=>by
  by_cases h:k < told.length
  ·rw[← G.len]; exact h
  ·rw[UN h]at e; cases e
 refine ⟨G.len,by rw[G.len]; exact G.few,fun k hk=>?_,fun k g e=>?_,fun k h g e=>?_⟩
 ·have o:=G.ok k (G.len ▸ hk)
  match e:at' told k,o with
  |none,o=>have o:at' f k=none:=o; rw[o]; simp
  |some .stand,o=>exact ⟨fun _=>o,fun _=>rfl⟩
  |some (.move g),o=>exact ⟨fun _=>o.1,fun _=>rfl⟩
  |some (.help h g),o=>exact ⟨fun _=>o.1,fun _=>rfl⟩
 ·have o:=G.ok k (inr k _ e)
  rw[e]at o
  exact ⟨by rw[G.len]; exact o.2.1,dg k g o.2.2⟩
 ·have o:=G.ok k (inr k _ e)
  rw[e]at o
  exact ⟨by rw[G.len]; exact o.2.1,by rw[G.len]; exact o.2.2.1,o.2.2.2.1,dg k g o.2.2.2.2.2.1,o.2.2.2.2.1⟩
section
variable (c:CA) {om:List Ob}
end
end MP
namespace MP
noncomputable section
open PySem L2
def Ru (c:CA):FS :=
 (ZE (Y3 c.Map "size" (Za 1) (Za 0))
  (Y3 c.Map "links" (fun _=>newO (.dt [])) (Za 0)))
def Wh (c:CA):List Wv->Mw Wv:=Yl 2 (Ru c)
def Tx (c:CA):FS :=
 (sIf (fOr (fB (f2 kLt (Za 1) (fC (.int 0)))) (fB (f2 kGe (Za 1) (f1 (ZU c.Map "size") (Za 0))))) (Ug c.NoPlace (Np (Za 1) Lf)) Y8)
def ZF (c:CA):List Wv->Mw Wv:=Yl 2 (Tx c)
def Ml (c:CA):FS :=
 (ZE (Yg (Zq c.Map "need_place" 2 (ZF c) (Za 0) (Zc (Za 1) Zk)))
  (ZE (Yg (Zq c.Map "need_place" 2 (ZF c) (Za 0) (Zc (Za 2) Zk)))
  (ZE (sIf (fB (f2 kEq (Za 1) (Za 2))) (Ug c.OutOfReach (Np (Za 1) Lf)) Y8)
  (ZE (YJ (fC (.bl true)) (f1 (ZU c.Map "links") (Za 0)) (fA VR (Zc (Za 1) (Zc (Za 2) Zk))))
  (YJ (fC (.bl true)) (f1 (ZU c.Map "links") (Za 0)) (fA VR (Zc (Za 2) (Zc (Za 1) Zk))))))))
def XA (c:CA):List Wv->Mw Wv:=Yl 3 (Ml c)
def PM (c:CA):FS :=
 (ZE (Yg (Zq c.Map "need_place" 2 (ZF c) (Za 0) (Zc (Za 1) Zk)))
  (ZE (Yg (Zq c.Map "need_place" 2 (ZF c) (Za 0) (Zc (Za 2) Zk)))
  (Ym (f2 (X8 false) (fA VR (Zc (Za 1) (Zc (Za 2) Zk))) (f1 (ZU c.Map "links") (Za 0))))))
def Vc (c:CA):List Wv->Mw Wv:=Yl 3 (PM c)
def UY (c:CA):FS :=
 (ZE (Y3 c.Board "chart" (Za 1) (Za 0))
  (Y3 c.Board "units" (fun _=>newO (.dk [])) (Za 0)))
def YQ (c:CA):List Wv->Mw Wv:=Yl 2 (UY c)
def PX (c:CA):FS :=
 (ZE (Yg (Zq c.Map "need_place" 2 (ZF c) (f1 (ZU c.Board "chart") (Za 0)) (Zc (Za 1) Zk)))
  (ZE (sIf (fOr (fB (f2 kLt (Za 2) (fC (.int 0)))) (fB (f2 kGt (Za 2) (fC (.int 7))))) (Ug c.NoSide (Np (Za 2) Lf)) Y8)
  (ZE (sIf (fB (f2 (X8 false) (Za 1) (f1 (ZU c.Board "units") (Za 0)))) (Ug c.Crowded (Np (Za 1) Lf)) Y8)
  (YJ (Za 2) (f1 (ZU c.Board "units") (Za 0)) (Za 1)))))
def Xq (c:CA):List Wv->Mw Wv:=Yl 3 (PX c)
def Su (c:CA):FS :=
 (ZE (Yg (Zq c.Map "need_place" 2 (ZF c) (f1 (ZU c.Board "chart") (Za 0)) (Zc (Za 1) Zk)))
  (Ym (Nv (f1 (ZU c.Board "units") (Za 0)) (Za 1))))
def ZG (c:CA):List Wv->Mw Wv:=Yl 2 (Su c)
def UC (c:CA):FS :=
 (sIf (fB (f1 U3 (Zq c.Board "side_at" 2 (ZG c) (Za 0) (Zc (Za 1) Zk)))) (Ug c.NoUnit (Np (Za 1) Lf)) Y8)
def Yy (c:CA):List Wv->Mw Wv:=Yl 2 (UC c)
def Ow (c:CA):FS :=
 (Ym (UQ ZQ (f1 (ZU c.Board "units") (Za 0))))
def Z5 (c:CA):List Wv->Mw Wv:=Yl 1 (Ow c)
end
open PySem L2
def pk (a b:Int):List Key:=[.inl a,.inl b]
theorem Oh {a b x y:Int}:pk a b=pk x y ↔ a=x∧b=y:=by
 unfold pk
 constructor
 ·intro h; injection h with h1 h2; injection h2 with h2 _; exact ⟨Sum.inl.inj h1,Sum.inl.inj h2⟩
 ·rintro ⟨rfl,rfl⟩; rfl
theorem P3 {κ:Type} [DecidableEq κ] (kvs:List (κ × Wv)) (k k':κ) (v:Wv):(kvs.map (fun kv=>if kv.1=k then (kv.1,v) else kv)).find? (fun kv=>decide (kv.1=k'))=(kvs.find? fun kv=>decide (kv.1=k')).map (fun kv=>if kv.1=k then (kv.1,v) else kv):=by
 induction kvs with
 |nil=>rfl
 |cons p kvs ih =>
  rw[List.map_cons,List.find?_cons,List.find?_cons]
  have e:(if p.1=k then (p.1,v) else p).1=p.1:=by split <;> rfl
  rw[e]
  cases h:decide (p.1=k') with
  |true=>rfl
  |false=>exact ih
theorem OZ {κ:Type} [DecidableEq κ] (kvs:List (κ × Wv)) (k k':κ) (v:Wv):WP (XX kvs k v) k'=if k'=k then some v else WP kvs k':=by
 unfold XX
 by_cases ha:(kvs.any fun kv=>decide (kv.1=k))=true
 ·rw[if_pos ha]
  unfold WP
  rw[P3]
  by_cases h:k'=k
  ·subst h
   rw[if_pos rfl]
   obtain ⟨p,hp,e⟩:=List.any_eq_true.mp ha
   cases hf:kvs.find? fun kv=>decide (kv.1=k') with
   |none=>exact absurd e (List.find?_eq_none.mp hf p hp)
   |some q =>
    have hq:=List.find?_some hf
    have hq:q.1=k':=of_decide_eq_true hq
    simp[hq]
  ·rw[if_neg h]
   cases hf:kvs.find? fun kv=>decide (kv.1=k') with
   |none=>rfl
   |some q =>
    have hq:=List.find?_some hf
    have hq:q.1=k':=of_decide_eq_true hq
    simp[show ¬ q.1=k from fun z=>h (hq ▸ z)]
 ·rw[if_neg ha]
  unfold WP
  rw[List.find?_append]
  have hn:(kvs.find? fun kv=>decide (kv.1=k))=none:=List.find?_eq_none.mpr fun p hp z=>ha (List.any_eq_true.mpr ⟨p,hp,z⟩)
  by_cases h:k'=k
  ·subst h
   rw[if_pos rfl,hn]
   simp
  ·rw[if_neg h]
   cases hf:kvs.find? fun kv=>decide (kv.1=k') with
   |none=>simp[show ¬ k=k' from fun z=>h z.symm]
   |some q=>rfl
theorem Rs {κ:Type} [DecidableEq κ] (kvs:List (κ × Wv)) (k:κ) (v:Wv):(XX kvs k v).length<=kvs.length+1:=by
 unfold XX
 split
 ·simp
 ·simp
abbrev XW (c:CA) (size:Int) (hl:Nat):Ob:=.ins c.Map [("size",.int size),("links",.o hl)]
abbrev YA (c:CA) (hm hu:Nat):Ob:=.ins c.Board [("chart",.o hm),("units",.o hu)]
section
variable (c:CA) {om:List Ob} {h hl:Nat} {size:Int}
theorem Yk {C:Addr} {n:Str} {fs:List (Str × Wv)} {w:Wv} {sl:Sl} {i:Nat} (hv:sl[i]?=some (some (.o h))) (hm:om[h]?=some (.ins C fs)) (hw:fs.lookup n=some w):f1 (ZU C n) (Za i) sl om=some (.ok w,om):=by
 refine (VC (Zb hv)).trans ?_
 simp[ZU,VU,hm,hw]
theorem KG (size:Int) (hl:Nat):List.lookup (Str.ofString "size") [(Str.ofString "size",Wv.int size),(Str.ofString "links",Wv.o hl)]=some (.int size):=by simp[List.lookup_cons,YG]
theorem Rf (size:Int) (hl:Nat):List.lookup (Str.ofString "links") [(Str.ofString "size",Wv.int size),(Str.ofString "links",Wv.o hl)]=some (.o hl):=by simp[List.lookup_cons,YG]
theorem Xw (m:String) (size:Int) (hl:Nat) (h1:m≠"size") (h2:m≠"links"):List.lookup (Str.ofString m) [(Str.ofString "size",Wv.int size),(Str.ofString "links",Wv.o hl)]=none:=by simp[List.lookup_cons,YG,h1,h2]
theorem W5 (hm hu:Nat):List.lookup (Str.ofString "chart") [(Str.ofString "chart",Wv.o hm),(Str.ofString "units",Wv.o hu)]=some (.o hm):=by simp[List.lookup_cons,YG]
theorem Ve (hm hu:Nat):List.lookup (Str.ofString "units") [(Str.ofString "chart",Wv.o hm),(Str.ofString "units",Wv.o hu)]=some (.o hu):=by simp[List.lookup_cons,YG]
theorem Yt (m:String) (hm hu:Nat) (h1:m≠"chart") (h2:m≠"units"):List.lookup (Str.ofString m) [(Str.ofString "chart",Wv.o hm),(Str.ofString "units",Wv.o hu)]=none:=by simp[List.lookup_cons,YG,h1,h2]
theorem Zz {C:Addr} {fs:List (Str × Wv)} (hm:om[h]?=some (.ins C fs)):VU om (.o h)=some (C,fs):=by simp[VU,hm]
theorem U9 (hm:om[h]?=some (XW c size hl)) {a:Int} (h0:0<=a) (h1:a < size):ZF c [.o h,.int a] om=some (.ok .non,om):=by
 have t:fOr (fB (f2 kLt (Za 1) (fC (.int 0)))) (fB (f2 kGe (Za 1) (f1 (ZU c.Map "size") (Za 0)))) [some (.o h),some (.int a)] om=some (.ok false,om):=by
  refine (Gg (Z9 ((ZC (Zb rfl) ZD).trans (show kLt (.int a) (.int 0) om=some (.ok (.bl false),om) by simp[kI,L2.ret,show ¬ a < 0 by omega])))).trans ?_
  exact Z9 ((ZC (Zb rfl) (Yk rfl hm (KG ..))).trans (by simp[kI,L2.ret]; omega))
 exact Vr (Z3 t)
end
open PySem L2
section
variable (c:CA) {om:List Ob} {h hl:Nat} {size:Int} {kvs:List (List Key × Wv)}
def Um (kvs:List (List Key × Wv)) (a b:Int):List (List Key × Wv):=XX (XX kvs (pk a b) (.bl true)) (pk b a) (.bl true)
def OF (kvs:List (List Key × Wv)) (a b:Int):Bool:=(WP kvs (pk a b)).isSome
theorem Jx (kvs:List (List Key × Wv)) (a b x y:Int):OF (Um kvs a b) x y=(decide (x=a∧y=b) || (decide (x=b∧y=a) || OF kvs x y)):=by
 unfold OF Um
 rw[OZ,OZ]
 by_cases h1:pk x y=pk b a
 ·rw[if_pos h1]; simp[Oh.mp h1]
 ·rw[if_neg h1]
  have h1':¬ (x=b∧y=a):=fun z=>h1 (Oh.mpr z)
  by_cases h2:pk x y=pk a b
  ·rw[if_pos h2]; simp[Oh.mp h2]
  ·rw[if_neg h2]
   have h2':¬ (x=a∧y=b):=fun z=>h2 (Oh.mpr z)
   rw[decide_eq_false h1',decide_eq_false h2']; simp
theorem Mh (kvs:List (List Key × Wv)) (a b:Int):(Um kvs a b).length<=kvs.length+2:=by
 unfold Um
 have h1:=Rs kvs (pk a b) (.bl true)
 have h2:=Rs (XX kvs (pk a b) (.bl true)) (pk b a) (.bl true)
 omega
theorem Ie {sl:Sl} {i j k:Nat} {x y:Int} (hh:h≠hl) (hv:sl[i]?=some (some (.o h))) (hm:om[h]?=some (XW c size hl)) (hk:om[hl]?=some (.dt kvs)) (hx:sl[j]?=some (some (.int x))) (hy:sl[k]?=some (some (.int y))) (hlen:kvs.length < lim) :
    YJ (fC (.bl true)) (f1 (ZU c.Map "links") (Za i)) (fA VR (Zc (Za j) (Zc (Za k) Zk))) sl om=some (.ok (.nx,sl),om.set hl (.dt (XX kvs (pk x y) (.bl true)))):=by
 unfold YJ
 rw[Zo ZD,Zo (Yk hv hm (Rf ..)),Zo ((ZI (Ze (Zb hx) (Ze (Zb hy) Zj))).trans (Vp (by simp)))]
 refine (Zo (a:=()) (om1:=om.set hl (.dt (XX kvs (pk x y) (.bl true)))) ?_).trans rfl
 simp[RG,Qk,hk,X4,YE,hlen,pk]
theorem Fb (hh:h≠hl) (hm:om[h]?=some (XW c size hl)) (hk:om[hl]?=some (.dt kvs)) {a b:Int} (ha:0<=a∧a < size) (hb:0<=b∧b < size) (hne:a≠b) (hlen:kvs.length+1 < lim) :
    XA c [.o h,.int a,.int b] om=some (.ok .non,om.set hl (.dt (Um kvs a b))):=by
 have n1:Yg (Zq c.Map "need_place" 2 (ZF c) (Za 0) (Zc (Za 1) Zk)) [some (.o h),some (.int a),some (.int b)] om=_:=Yw ((Zy (Zb rfl) (Zz hm) (Xw _ _ _ (by decide) (by decide)) (Ze (Zb rfl) Zj) rfl).trans (U9 c hm ha.1 ha.2))
 have n2:Yg (Zq c.Map "need_place" 2 (ZF c) (Za 0) (Zc (Za 2) Zk)) [some (.o h),some (.int a),some (.int b)] om=_:=Yw ((Zy (Zb rfl) (Zz hm) (Xw _ _ _ (by decide) (by decide)) (Ze (Zb rfl) Zj) rfl).trans (U9 c hm hb.1 hb.2))
 have t:fB (f2 kEq (Za 1) (Za 2)) [some (.o h),some (.int a),some (.int b)] om=some (.ok false,om):=Z9 ((v2 rfl rfl).trans ((WH _ _ _).trans (by rw[decide_eq_false hne])))
 have hlt:hl < om.length:=(List.getElem?_eq_some_iff.mp hk).1
 have p1:=Ie c (sl:=[some (.o h),some (.int a),some (.int b)]) (i:=0) (j:=1) (k:=2) hh rfl hm hk rfl rfl (by omega)
 have hm2:(om.set hl (.dt (XX kvs (pk a b) (.bl true))))[h]?=some (XW c size hl):=by rw[List.getElem?_set_ne (Ne.symm hh)]; exact hm
 have hk2:(om.set hl (.dt (XX kvs (pk a b) (.bl true))))[hl]?=some (.dt (XX kvs (pk a b) (.bl true))):=by rw[List.getElem?_set_self hlt]
 have p2:=Ie c (sl:=[some (.o h),some (.int a),some (.int b)]) (i:=0) (j:=2) (k:=1) hh rfl hm2 hk2 rfl rfl (by have:=Rs kvs (pk a b) (.bl true); omega)
 rw[List.set_set]at p2
 exact Vr ((Zh n1).trans ((Zh n2).trans ((Zh (Z3 t)).trans ((Zh p1).trans p2))))
theorem Jq (om:List Ob):YY c.Map 2 (Wh c) [.int size] om=some (.ok (.o om.length),om++[XW c size (om.length+1),.dt []]):=by
 simp[Wh,Ru,YY,bnd,kN,chk,L2.ret,Yl,ZE,Y3,Za,WD,Pd,Xo,KI,newO,XG,Lm]
theorem TV (om:List Ob) (hm:Nat):YY c.Board 2 (YQ c) [.o hm] om=some (.ok (.o om.length),om++[YA c hm (om.length+1),.dk []]):=by
 simp[YQ,UY,YY,bnd,kN,chk,L2.ret,Yl,ZE,Y3,Za,WD,Pd,Xo,KI,newO,XG,Lm]
end
open PySem L2
def Ut (off:Nat) (f:List (Option Int)) (n:Nat):List (Int × Int):=(List.range n).filterMap fun k=>(at' f k).map fun s=>((off:Int)+k,s)
theorem KQ (off:Nat) (f:List (Option Int)) (n:Nat):Ut off f (n+1)=Ut off f n++(match at' f n with|some s=>[((off:Int)+n,s)]|none=>[]):=by
 unfold Ut
 rw[List.range_succ,List.filterMap_append]
 congr 1
 rw[List.filterMap_cons,List.filterMap_nil]
 cases at' f n <;> rfl
theorem IF (off:Nat) (f:List (Option Int)) (n:Nat):(Ut off f n).length<=n:=by
 unfold Ut
 exact Nat.le_trans (List.length_filterMap_le _ _) (by simp)
theorem KA (off:Nat) (f:List (Option Int)) (n:Nat) (x:Int):(Ut off f n).lookup x=if 0<=x - off∧x - off < n then at' f (x - off).toNat else none:=by
 induction n with
 |zero=>rw[if_neg (by omega)]; rfl
 |succ n ih =>
  rw[KQ,List.lookup_append,ih]
  by_cases h:0<=x - off∧x - off < n
  ·rw[if_pos h,if_pos (by omega)]
   cases ha:at' f (x - off).toNat with
   |some s=>rfl
   |none =>
    cases hb:at' f n with
    |none=>rfl
    |some s =>
     have:(x == (off:Int)+n)=false:=beq_eq_false_iff_ne.mpr (by omega)
     simp[List.lookup_cons,this]
  ·rw[if_neg h]
   by_cases h2:x=(off:Int)+n
   ·rw[if_pos (by omega),show (x - off).toNat=n by omega]
    cases hb:at' f n with
    |none=>rfl
    |some s=>simp[List.lookup_cons,h2]
   ·rw[if_neg (by omega)]
    cases hb:at' f n with
    |none=>rfl
    |some s =>
     have:(x == (off:Int)+n)=false:=beq_eq_false_iff_ne.mpr h2
     simp[List.lookup_cons,this]
section
variable (c:CA) {om:List Ob} {hb hm hu hl:Nat} {size:Int} {us:List (Int × Int)}
theorem OL {C:Addr} {n:Str} {fs:List (Str × Wv)} {w:Wv} {sl:Sl} {fe:FE} {h:Nat} (hv:fe sl om=some (.ok (.o h),om)) (hm:om[h]?=some (.ins C fs)) (hw:fs.lookup n=some w):f1 (ZU C n) fe sl om=some (.ok w,om):=by
 refine (VC hv).trans ?_
 simp[ZU,VU,hm,hw]
theorem Ng (h1:om[hb]?=some (YA c hm hu)) (h2:om[hm]?=some (XW c size hl)) {a:Int} (ha:0<=a∧a < size) {sl:Sl} (s0:sl[0]?=some (some (.o hb))) (s1:sl[1]?=some (some (.int a))):Yg (Zq c.Map "need_place" 2 (ZF c) (f1 (ZU c.Board "chart") (Za 0)) (Zc (Za 1) Zk)) sl om=some (.ok (.nx,sl),om) :=
 Yw ((Zy (Yk s0 h1 (W5 ..)) (Zz h2) (Xw _ _ _ (by decide) (by decide)) (Ze (Zb s1) Zj) rfl).trans (U9 c h2 ha.1 ha.2))
theorem Ki (h1:om[hb]?=some (YA c hm hu)) (h2:om[hm]?=some (XW c size hl)) (h3:om[hu]?=some (.dk (Zp us))) {a s:Int} (ha:0<=a∧a < size) (hs:0<=s∧s<=7) (hn:us.lookup a=none) (hlen:us.length < lim) :
    Xq c [.o hb,.int a,.int s] om=some (.ok .non,om.set hu (.dk (Zp (us++[(a,s)])))):=by
 have n1:=Ng c (sl:=[some (.o hb),some (.int a),some (.int s)]) h1 h2 ha rfl rfl
 have t1:fOr (fB (f2 kLt (Za 2) (fC (.int 0)))) (fB (f2 kGt (Za 2) (fC (.int 7)))) [some (.o hb),some (.int a),some (.int s)] om=some (.ok false,om):=by
  refine (Gg (Z9 ((ZC (Zb rfl) ZD).trans (show kLt (.int s) (.int 0) om=some (.ok (.bl false),om) by simp[kI,L2.ret]; omega)))).trans ?_
  exact Z9 ((ZC (Zb rfl) ZD).trans (by simp[kI,L2.ret]; omega))
 have t2:fB (f2 (X8 false) (Za 1) (f1 (ZU c.Board "units") (Za 0))) [some (.o hb),some (.int a),some (.int s)] om=some (.ok false,om):=by
  refine Z9 ((ZC (Zb rfl) (Yk rfl h1 (Ve ..))).trans ?_)
  simp[X8,XB,h3,YE,VI,hn]
 have p:YJ (Za 2) (f1 (ZU c.Board "units") (Za 0)) (Za 1) [some (.o hb),some (.int a),some (.int s)] om=some (.ok (.nx,[some (.o hb),some (.int a),some (.int s)]),om.set hu (.dk (Zp (us++[(a,s)])))):=by
  unfold YJ
  rw[Zo (Zb rfl),Zo (Yk rfl h1 (Ve ..)),Zo (Zb rfl)]
  refine (Zo (a:=()) (om1:=om.set hu (.dk (Zp (us++[(a,s)])))) ?_).trans rfl
  simp[RG,Qk,h3,YE,Ph,hlen,LO s hn]
 exact Vr ((Zh n1).trans ((Zh (Z3 t1)).trans ((Zh (Z3 t2)).trans p)))
theorem FM (h1:om[hb]?=some (YA c hm hu)) (h2:om[hm]?=some (XW c size hl)) (h3:om[hu]?=some (.dk (Zp us))) {a:Int} (ha:0<=a∧a < size):ZG c [.o hb,.int a] om=some (.ok (XU (us.lookup a)),om):=by
 have n1:=Ng c (sl:=[some (.o hb),some (.int a)]) h1 h2 ha rfl rfl
 have p:Nv (f1 (ZU c.Board "units") (Za 0)) (Za 1) [some (.o hb),some (.int a)] om=some (.ok (XU (us.lookup a)),om):=by
  have e:=Yk (sl:=[some (.o hb),some (.int a)]) (i:=0) rfl h1 (Ve hm hu)
  cases hq:us.lookup a with
  |none=>simp[Nv,bnd,e,Qo,isD,h3,Za,LV,XB,YE,VI,hq,L2.ret,XU]
  |some s=>simp[Nv,bnd,e,Qo,isD,h3,Za,LV,XB,YE,VI,hq,L2.ret,XU]
 exact ZH ((Zh n1).trans (Zv p))
end
open PySem L2
theorem Sq (off:Nat) (f:List (Option Int)) (n:Nat):(Ut off f n).Pairwise (fun x y=>x.1 < y.1):=by
 unfold Ut
 refine List.Pairwise.filterMap (R:=(· < ·)) _ (fun a b hab x hx y hy=>?_) List.pairwise_lt_range
 obtain ⟨s,_,rfl⟩:=Option.map_eq_some_iff.mp hx
 obtain ⟨t,_,rfl⟩:=Option.map_eq_some_iff.mp hy
 show (off:Int)+a < off+b
 omega
theorem OC {us:List (Int × Int)} (nd:(us.map (·.1)).Nodup):(YS us).Pairwise (fun x y=>x.1 < y.1):=by
 have hp:=Yj us
 have hn:((YS us).map (·.1)).Nodup:=(hp.map _).nodup_iff.mpr nd
 refine ((Xm us).and (List.pairwise_map.mp hn)).imp fun {x y} h=>?_
 have a:¬ _:=fun w'=>absurd (YR.mpr w') (by rw[h.1]; exact Bool.false_ne_true)
 have b:=h.2
 omega
theorem M6 {us vs:List (Int × Int)} (nd:(us.map (·.1)).Nodup) (hv:vs.Pairwise (fun x y=>x.1 < y.1)) (h:∀p,p∈us ↔ p∈vs):YS us=vs :=
 T7 (OC nd) hv fun p=>by rw[(Yj us).mem_iff,h]
theorem Ol {us:List (Int × Int)} (h:us.Pairwise (fun x y=>x.1 < y.1)):(us.map (·.1)).Nodup:=by
 refine List.pairwise_map.mpr (h.imp fun {x y} hxy z=>?_)
 have hxy:x.1 < y.1:=hxy
 have z:x.1=y.1:=z
 omega
theorem MI {us:List (Int × Int)} (h:us.Pairwise (fun x y=>x.1 < y.1)):YS us=us:=M6 (Ol h) h fun _=>Iff.rfl
section
variable (c:CA) {om:List Ob} {hb hm hu hl:Nat} {size:Int} {us:List (Int × Int)} {kvs:List (List Key × Wv)}
theorem Fk (h1:om[hb]?=some (YA c hm hu)) (h3:om[hu]?=some (.dk (Zp us))) (hn:us.length < 64):Z5 c [.o hb] om=some (.ok (.lst ((YS us).map prW)),om):=by
 have h2:(YS us).length=us.length:=(Yj us).length_eq
 have hlim:=ZW
 refine ZH (Zv ?_)
 unfold UQ
 refine (Zo (Yk (sl:=[some (.o hb)]) (i:=0) rfl h1 (Ve ..))).trans ?_
 refine (Zo (a:=(YS us).map prW) (om1:=om) ?_).trans ?_
 ·simp[SE,h3,Qa,hn]
 ·unfold ZQ
  rw[if_pos (by rw[List.length_map]; omega)]
  rfl
theorem Nw (h2:om[hm]?=some (XW c size hl)) {a:Int} (ha:0<=a∧a < size) {sl:Sl} {i j:Nat} (s0:sl[i]?=some (some (.o hm))) (s1:sl[j]?=some (some (.int a))):Yg (Zq c.Map "need_place" 2 (ZF c) (Za i) (Zc (Za j) Zk)) sl om=some (.ok (.nx,sl),om) :=
 Yw ((Zy (Zb s0) (Zz h2) (Xw _ _ _ (by decide) (by decide)) (Ze (Zb s1) Zj) rfl).trans (U9 c h2 ha.1 ha.2))
theorem C3 {sl:Sl} {i j k:Nat} {x y:Int} (h2:om[hm]?=some (XW c size hl)) (h3:om[hl]?=some (.dt kvs)) (hi:sl[i]?=some (some (.int x))) (hj:sl[j]?=some (some (.int y))) (hk:sl[k]?=some (some (.o hm))):f2 (X8 false) (fA VR (Zc (Za i) (Zc (Za j) Zk))) (f1 (ZU c.Map "links") (Za k)) sl om=some (.ok (.bl (OF kvs x y)),om):=by
 refine (ZC ((ZI (Ze (Zb hi) (Ze (Zb hj) Zj))).trans (Vp (by simp))) (Yk hk h2 (Rf ..))).trans ?_
 simp[X8,XB,h3,X4,YE,OF,pk]
theorem Ju (h2:om[hm]?=some (XW c size hl)) (h3:om[hl]?=some (.dt kvs)) {a b:Int} (ha:0<=a∧a < size) (hb:0<=b∧b < size):Vc c [.o hm,.int a,.int b] om=some (.ok (.bl (OF kvs a b)),om):=by
 have n1:=Nw c (sl:=[some (.o hm),some (.int a),some (.int b)]) (i:=0) (j:=1) h2 ha rfl rfl
 have n2:=Nw c (sl:=[some (.o hm),some (.int a),some (.int b)]) (i:=0) (j:=2) h2 hb rfl rfl
 exact ZH ((Zh n1).trans ((Zh n2).trans (Zv (C3 c (i:=1) (j:=2) (k:=0) h2 h3 rfl rfl rfl))))
end
end MP
namespace MP
noncomputable section
open PySem L2
def V5 (c:CA):FS :=
 (ZE (Y3 c.Orders "board" (Za 1) (Za 0))
  (Y3 c.Orders "given" (fun _=>newO (.dk [])) (Za 0)))
def Xc (c:CA):List Wv->Mw Wv:=Yl 2 (V5 c)
def Xi (c:CA):FS :=
 (Yg (Zq c.Map "need_place" 2 (ZF c) (f1 (ZU c.Board "chart") (f1 (ZU c.Orders "board") (Za 0))) (Zc (Za 3) Zk)))
def Xj (c:CA):FS :=
 (Yg (Zq c.Board "need_unit" 2 (Yy c) (f1 (ZU c.Orders "board") (Za 0)) (Zc (Za 3) Zk)))
def UL (c:CA):FS :=
 (ZE (Tc (fun sl=>bnd ((Za 1) sl) ZL) (tgN 3) (Xi c))
  (Tc (fun sl=>bnd ((Za 2) sl) ZL) (tgN 3) (Xj c)))
def YX (c:CA):List Wv->Mw Wv:=Yl 4 (UL c)
def VA (c:CA):FS :=
 (sIf (FJ (WZ (Zq c.Map "beside" 3 (Vc c) (f1 (ZU c.Board "chart") (f1 (ZU c.Orders "board") (Za 0))) (Zc (Za 1) (Zc (Za 2) Zk))))) (Ug c.OutOfReach (Np (Za 2) (Np (Za 1) Lf))) Y8)
def YC (c:CA):List Wv->Mw Wv:=Yl 3 (VA c)
def Qq (c:CA):FS :=
 (ZE (Yg (Zq c.Orders "need_all" 3 (YX c) (Za 0) (Zc (fA ZQ (Zc (Za 1) (Zc (Za 2) Zk))) (Zc (fA ZQ (Zc (Za 1) Zk)) Zk))))
  (ZE (Yg (Zq c.Orders "need_beside" 3 (YC c) (Za 0) (Zc (Za 1) (Zc (Za 2) Zk))))
  (YJ (fA VR (Zc (fC (.str "move")) (Zc (Za 2) Zk))) (f1 (ZU c.Orders "given") (Za 0)) (Za 1))))
def YV (c:CA):List Wv->Mw Wv:=Yl 3 (Qq c)
def Qm (c:CA):FS :=
 (ZE (Yg (Zq c.Board "need_unit" 2 (Yy c) (f1 (ZU c.Orders "board") (Za 0)) (Zc (Za 1) Zk)))
  (Ym (Ry (f1 (ZU c.Orders "given") (Za 0)) (Za 1) (fC (.g c.STAND)))))
def Yd (c:CA):List Wv->Mw Wv:=Yl 2 (Qm c)
def TJ (c:CA):FS :=
 (ZE (ZO 2 (Ry (f1 (ZU c.Orders "given") (Za 0)) (Za 1) (fC (.g c.STAND))))
  (ZE (sIf (fB (f2 kEq (f2 (WO c.STAND) (Za 2) (fC (.int 0))) (fC (.str "move")))) (Ym (f2 (WO c.STAND) (Za 2) (fC (.int 1)))) Y8)
  (Ym (fC .non))))
def Zl (c:CA):List Wv->Mw Wv:=Yl 3 (TJ c)
def TM (c:CA):FT :=
 (fB (f1 T5 (Zq c.Orders "goal_of" 2 (Zl c) (Za 1) (Zc (Za 0) Zk))))
def Td (c:CA):FE :=
 (Za 0)
def Ss (c:CA):FS :=
 (Ym (fA (YU ZQ) (Zc (Wb ZQ [0] (f1 (ZU c.Orders "given") (Za 0)) (TM c) (Td c)) Zk)))
def ZJ (c:CA):List Wv->Mw Wv:=Yl 1 (Ss c)
def U7 (c:CA):FT :=
 (fB (f1 T5 (Zq c.Orders "goal_of" 2 (Zl c) (Za 1) (Zc (Za 0) Zk))))
def UK (c:CA):FE :=
 (Za 0)
def To (c:CA):FS :=
 (Ym (fA (YU Vg) (Zc (Wb ZQ [0] (f1 (ZU c.Orders "given") (Za 0)) (U7 c) (UK c)) Zk)))
def TC (c:CA):List Wv->Mw Wv:=Yl 1 (To c)
end
open PySem L2
abbrev X5 (c:CA) (hb hg:Nat):Ob:=.ins c.Orders [("board",.o hb),("given",.o hg)]
theorem GL (hb hg:Nat):List.lookup (Str.ofString "board") [(Str.ofString "board",Wv.o hb),(Str.ofString "given",Wv.o hg)]=some (.o hb):=by simp[List.lookup_cons,YG]
theorem SH (hb hg:Nat):List.lookup (Str.ofString "given") [(Str.ofString "board",Wv.o hb),(Str.ofString "given",Wv.o hg)]=some (.o hg):=by simp[List.lookup_cons,YG]
theorem Z8 (m:String) (hb hg:Nat) (h1:m≠"board") (h2:m≠"given"):List.lookup (Str.ofString m) [(Str.ofString "board",Wv.o hb),(Str.ofString "given",Wv.o hg)]=none:=by simp[List.lookup_cons,YG,h1,h2]
def odG (c:CA) (off:Nat):Od->Wv
 |.stand=>.g c.STAND
 |.move g=>.tup [.str "move",.int ((off:Int)+g)]
 |.help h g=>.tup [.str "help",.int ((off:Int)+h),.int ((off:Int)+g)]
abbrev Gs:=List (Nat × Od)
def Xp (c:CA) (off:Nat) (gs:Gs):List (Key × Wv):=gs.map fun p=>(.inl ((off:Int)+p.1),odG c off p.2)
def Ql (gs:Gs) (k:Nat) (o:Od):Gs:=if (gs.any fun p=>decide (p.1=k))=true then gs.map (fun p=>if p.1=k then (p.1,o) else p) else gs++[(k,o)]
theorem EC {off a k:Nat} (h:a≠k):(Sum.inl ((off:Int)+a):Key)≠Sum.inl ((off:Int)+k):=fun z=>h (by have:=Sum.inl.inj z; omega)
theorem OD (off a k:Nat):decide ((Sum.inl ((off:Int)+a):Key)=Sum.inl ((off:Int)+k))=decide (a=k):=by
 by_cases h:a=k
 ·subst h; simp
 ·rw[decide_eq_false h,decide_eq_false (EC h)]
theorem VG (c:CA) (off:Nat) (gs:Gs) (k:Nat):WP (Xp c off gs) (.inl ((off:Int)+k))=(gs.lookup k).map (odG c off):=by
 induction gs with
 |nil=>rfl
 |cons p gs ih =>
  obtain ⟨j,o⟩:=p
  unfold WP Xp at ih ⊢
  rw[List.map_cons,List.find?_cons,List.lookup_cons]
  dsimp only
  rw[OD]
  by_cases h:j=k
  ·subst h; simp
  ·rw[decide_eq_false h,beq_eq_false_iff_ne.mpr (Ne.symm h)]
   exact ih
theorem G0 (c:CA) (off:Nat) (gs:Gs) (k:Nat) (o:Od):XX (Xp c off gs) (.inl ((off:Int)+k)) (odG c off o)=Xp c off (Ql gs k o):=by
 unfold XX Ql Xp
 have e:((gs.map fun p=>((Sum.inl ((off:Int)+p.1):Key),odG c off p.2)).any fun kv=>decide (kv.1=Sum.inl ((off:Int)+k)))=gs.any fun p=>decide (p.1=k):=by
  rw[List.any_map]
  refine congrArg (List.any gs) (funext fun p=>?_)
  exact OD off p.1 k
 rw[e]
 by_cases h:(gs.any fun p=>decide (p.1=k))=true
 ·rw[if_pos h,if_pos h,List.map_map,List.map_map]
  refine List.map_congr_left fun p _=>?_
  show (if (Sum.inl ((off:Int)+p.1):Key)=Sum.inl ((off:Int)+k) then (Sum.inl ((off:Int)+p.1),odG c off o) else (Sum.inl ((off:Int)+p.1),odG c off p.2))=((Sum.inl ((off:Int)+(if p.1=k then (p.1,o) else p).1):Key),odG c off (if p.1=k then (p.1,o) else p).2)
  by_cases hp:p.1=k
  ·rw[if_pos (by rw[hp]),if_pos hp]
  ·rw[if_neg (EC hp),if_neg hp]
 ·rw[if_neg h,if_neg h,List.map_append]
  rfl
theorem N0 (gs:Gs) (k:Nat):(gs.any fun p=>decide (p.1=k))=(gs.lookup k).isSome:=by
 induction gs with
 |nil=>rfl
 |cons p gs ih =>
  obtain ⟨j,o⟩:=p
  rw[List.any_cons,List.lookup_cons]
  dsimp only
  by_cases h:j=k
  ·subst h; simp
  ·rw[decide_eq_false h,beq_eq_false_iff_ne.mpr (Ne.symm h),Bool.false_or]
   exact ih
theorem Jj (gs:Gs) (k j:Nat) (o:Od):(gs.map fun p=>if p.1=k then (p.1,o) else p).lookup j=if j=k then (gs.lookup j).map (fun _=>o) else gs.lookup j:=by
 induction gs with
 |nil=>simp
 |cons p gs ih =>
  obtain ⟨i,q⟩:=p
  rw[List.map_cons]
  dsimp only
  by_cases h:i=k
  ·rw[if_pos h,List.lookup_cons,List.lookup_cons]
   by_cases hj:j=i
   ·subst hj; subst h; simp
   ·rw[beq_eq_false_iff_ne.mpr hj]
    exact ih
  ·rw[if_neg h,List.lookup_cons,List.lookup_cons]
   by_cases hj:j=i
   ·subst hj; simp[h]
   ·rw[beq_eq_false_iff_ne.mpr hj]
    exact ih
theorem Pc (gs:Gs) (k j:Nat) (o:Od):(Ql gs k o).lookup j=if j=k then some o else gs.lookup j:=by
 unfold Ql
 by_cases h:(gs.any fun p=>decide (p.1=k))=true
 ·rw[if_pos h,Jj]
  by_cases hj:j=k
  ·subst hj
   rw[if_pos rfl,if_pos rfl]
   rw[N0]at h
   obtain ⟨x,hx⟩:=Option.isSome_iff_exists.mp h
   rw[hx]; rfl
  ·rw[if_neg hj,if_neg hj]
 ·rw[if_neg h,List.lookup_append]
  rw[N0]at h
  by_cases hj:j=k
  ·subst hj
   rw[if_pos rfl,Option.not_isSome_iff_eq_none.mp h]
   simp
  ·rw[if_neg hj,List.lookup_cons,beq_eq_false_iff_ne.mpr hj]
   simp
theorem Mq {gs:Gs} (h:(gs.map (·.1)).Nodup) (k:Nat) (o:Od):((Ql gs k o).map (·.1)).Nodup:=by
 unfold Ql
 by_cases ha:(gs.any fun p=>decide (p.1=k))=true
 ·rw[if_pos ha,List.map_map]
  have e:(gs.map ((·.1) ∘ fun p=>if p.1=k then (p.1,o) else p))=gs.map (·.1):=List.map_congr_left fun p _=>by
   show (if p.1=k then (p.1,o) else p).1=p.1
   by_cases hp:p.1=k
   ·rw[if_pos hp]
   ·rw[if_neg hp]
  rw[e]; exact h
 ·rw[if_neg ha,List.map_append,List.nodup_append]
  refine ⟨h,by simp,fun a ha' b hb z=>ha ?_⟩
  have hb:b=k:=by simpa using hb
  obtain ⟨p,hp,rfl⟩:=List.mem_map.mp ha'
  exact List.any_eq_true.mpr ⟨p,hp,decide_eq_true (z.trans hb)⟩
structure Tell (gs:Gs) (T:Nat->Option Od):Prop where
 nd:(gs.map (·.1)).Nodup
 get:∀k o,T k=some o->(gs.lookup k).getD .stand=o
 key:∀k o,gs.lookup k=some o->T k=some o
theorem Tell.put {gs:Gs} {T:Nat->Option Od} (h:Tell gs T) (k:Nat) (o:Od):Tell (Ql gs k o) (fun j=>if j=k then some o else T j):=by
 refine ⟨Mq h.nd k o,fun j q e=>?_,fun j q e=>?_⟩
 ·rw[Pc]
  by_cases hj:j=k
  ·rw[if_pos hj]at e ⊢; cases e; rfl
  ·rw[if_neg hj]at e ⊢; exact h.get j q e
 ·rw[Pc]at e
  by_cases hj:j=k
  ·rw[if_pos hj]at e; cases e; show (if j=k then some o else T j)=some o; rw[if_pos hj]
  ·rw[if_neg hj]at e; show (if j=k then some o else T j)=some q; rw[if_neg hj]; exact h.key j q e
theorem Tell.start0 {T:Nat->Option Od} (h:∀k o,T k=some o->o=.stand):Tell [] T:=⟨by simp,fun k o e=>(h k o e).symm,fun k o e=>by cases e⟩
theorem TW {k:Nat} {o:Od}:∀{gs:Gs},gs.lookup k=some o->(k,o)∈gs
 |[],e=>by cases e
 |(j,q)::gs,e=>by
  rw[List.lookup_cons]at e
  cases hb:(k == j) with
  |true=>rw[hb]at e; cases e; rw[eq_of_beq hb]; exact .head _
  |false=>rw[hb]at e; exact .tail _ (TW e)
theorem Wt {k:Nat} {o:Od}:∀{gs:Gs},(gs.map (·.1)).Nodup->(k,o)∈gs->gs.lookup k=some o
 |[],_,e=>nomatch e
 |(j,q)::gs,nd,e=>by
  rw[List.lookup_cons]
  rw[List.map_cons,List.nodup_cons]at nd
  rcases List.mem_cons.mp e with e|e
  ·cases e; simp
  ·have hne:k≠j:=fun z=>nd.1 (List.mem_map.mpr ⟨(k,o),e,z⟩)
   rw[beq_eq_false_iff_ne.mpr hne]
   exact Wt nd.2 e
theorem WS {k s:Int}:∀{us:List (Int × Int)},us.lookup k=some s->(k,s)∈us
 |[],e=>by cases e
 |(j,q)::us,e=>by
  rw[List.lookup_cons]at e
  cases hb:(k == j) with
  |true=>rw[hb]at e; cases e; rw[eq_of_beq hb]; exact .head _
  |false=>rw[hb]at e; exact .tail _ (WS e)
theorem VF {k s:Int}:∀{us:List (Int × Int)},(us.map (·.1)).Nodup->(k,s)∈us->us.lookup k=some s
 |[],_,e=>nomatch e
 |(j,q)::us,nd,e=>by
  rw[List.lookup_cons]
  rw[List.map_cons,List.nodup_cons]at nd
  rcases List.mem_cons.mp e with e|e
  ·cases e; simp
  ·have hne:k≠j:=fun z=>nd.1 (List.mem_map.mpr ⟨(k,s),e,z⟩)
   rw[beq_eq_false_iff_ne.mpr hne]
   exact VF nd.2 e
theorem Lv {us vs:List (Int × Int)} (p:us.Perm vs) (nd:(vs.map (·.1)).Nodup) (k:Int):us.lookup k=vs.lookup k:=by
 have nd2:(us.map (·.1)).Nodup:=(p.map (·.1)).nodup_iff.mpr nd
 cases h:vs.lookup k with
 |some s=>exact VF nd2 (p.mem_iff.mpr (WS h))
 |none =>
  cases h2:us.lookup k with
  |none=>rfl
  |some s=>have:=VF nd (p.mem_iff.mp (WS h2)); rw[h]at this; cases this
theorem Pj (off:Nat) (f:List (Option Int)) (n:Nat):((Ut off f n).map (·.1)).Nodup:=List.pairwise_map.mpr ((Sq off f n).imp fun h=>Int.ne_of_lt h)
structure Wd (c:CA) (om:List Ob) (hb hm hu hl size off:Nat) (f:List (Option Int)) (kvs:List (List Key × Wv)):Prop where
 b:om[hb]?=some (YA c hm hu)
 m:om[hm]?=some (XW c size hl)
 u:∃us:List (Int × Int),om[hu]?=some (.dk (Zp us))∧us.Perm (Ut off f f.length)
 l:om[hl]?=some (.dt kvs)
 fit:off+f.length<=size
 few:size<=60
theorem N5 {α:Type} {l:List (Option α)} {k:Nat} {x:α} (h:at' l k=some x):k < l.length:=by
 by_cases hk:k < l.length
 ·exact hk
 ·rw[UN hk]at h; cases h
section
variable {c:CA} {om:List Ob} {ho hb hm hu hl hg size off:Nat} {f:List (Option Int)} {kvs:List (List Key × Wv)} {gs:Gs}
theorem Wd.grow (W:Wd c om hb hm hu hl size off f kvs) (l:List Ob):Wd c (om++l) hb hm hu hl size off f kvs:=by
 have g:∀{h:Nat} {x:Ob},om[h]?=some x->(om++l)[h]?=some x:=fun e=>by rw[List.getElem?_append_left (List.getElem?_eq_some_iff.mp e).1]; exact e
 exact ⟨g W.b,g W.m,(let ⟨us,e,p⟩:=W.u; ⟨us,g e,p⟩),g W.l,W.fit,W.few⟩
theorem Wd.look (W:Wd c om hb hm hu hl size off f kvs) (k:Nat):(Ut off f f.length).lookup ((off:Int)+k)=at' f k:=by
 rw[KA]
 by_cases h:k < f.length
 ·rw[if_pos (by omega),show ((off:Int)+k - off).toNat=k by omega]
 ·rw[if_neg (by omega),UN h]
theorem Wd.inn (W:Wd c om hb hm hu hl size off f kvs) {k:Nat} (h:k < f.length):0<=(off:Int)+k∧(off:Int)+k < (size:Nat):=by
 have:=W.fit; omega
theorem PB (W:Wd c om hb hm hu hl size off f kvs) {k:Nat} (h:k < f.length):ZG c [.o hb,.int ((off:Int)+k)] om=some (.ok (XU (at' f k)),om):=by
 obtain ⟨us,e,p⟩:=W.u
 rw[FM c W.b W.m e (W.inn h),Lv p (Pj off f f.length),W.look]
theorem Ia (W:Wd c om hb hm hu hl size off f kvs) {k:Nat} {s:Int} (h:at' f k=some s):Yy c [.o hb,.int ((off:Int)+k)] om=some (.ok .non,om):=by
 have e:fB (f1 U3 (Zq c.Board "side_at" 2 (ZG c) (Za 0) (Zc (Za 1) Zk))) [some (.o hb),some (.int ((off:Int)+k))] om=some (.ok false,om):=by
  refine Z9 ((VC ((Zy (Zb rfl) (Zz W.b) (Yt _ _ _ (by decide) (by decide)) (Ze (Zb rfl) Zj) rfl).trans (PB W (N5 h)))).trans ((OW _ _).trans ?_))
  rw[h]; rfl
 exact Vr (Z3 e)
structure Os (c:CA) (om:List Ob) (ho hb hg off:Nat) (gs:Gs):Prop where
 o:om[ho]?=some (X5 c hb hg)
 g:om[hg]?=some (.dk (Xp c off gs))
theorem ND (c:CA) (off:Nat) (gs:Gs):(Xp c off gs).length=gs.length:=by simp[Xp]
theorem Os.grow (S:Os c om ho hb hg off gs) (l:List Ob):Os c (om++l) ho hb hg off gs:=by
 have g:∀{h:Nat} {x:Ob},om[h]?=some x->(om++l)[h]?=some x:=fun e=>by rw[List.getElem?_append_left (List.getElem?_eq_some_iff.mp e).1]; exact e
 exact ⟨g S.o,g S.g⟩
theorem An (S:Os c om ho hb hg off gs) {k:Nat} {o:Od} {sl:Sl} {fv:FE} {i j:Nat} (hv:fv sl om=some (.ok (odG c off o),om)) (hi:sl[i]?=some (some (.o ho))) (hj:sl[j]?=some (some (.int ((off:Int)+k)))) (hl:gs.length < 100) :
    YJ fv (f1 (ZU c.Orders "given") (Za i)) (Za j) sl om=some (.ok (.nx,sl),om.set hg (.dk (Xp c off (Ql gs k o)))):=by
 have hlim:=ZW
 unfold YJ
 rw[Zo hv,Zo (Yk hi S.o (SH ..)),Zo (Zb hj)]
 refine (Zo (a:=()) (om1:=om.set hg (.dk (Xp c off (Ql gs k o)))) ?_).trans rfl
 have h1:(Xp c off gs).length < lim:=by rw[ND]; omega
 simp[RG,Qk,S.g,YE,h1,G0]
theorem Wf (S:Os c om ho hb hg off gs) {sl:Sl} {i:Nat} (hi:sl[i]?=some (some (.o ho))):f1 (ZU c.Orders "board") (Za i) sl om=some (.ok (.o hb),om):=Yk hi S.o (GL ..)
theorem GO (W:Wd c om hb hm hu hl size off f kvs) (S:Os c om ho hb hg off gs) {k:Nat} {s:Int} (h:at' f k=some s):Yd c [.o ho,.int ((off:Int)+k)] om=some (.ok (odG c off ((gs.lookup k).getD .stand)),om):=by
 have e1:Yg (Zq c.Board "need_unit" 2 (Yy c) (f1 (ZU c.Orders "board") (Za 0)) (Zc (Za 1) Zk)) [some (.o ho),some (.int ((off:Int)+k))] om=some (.ok (.nx,[some (.o ho),some (.int ((off:Int)+k))]),om) :=
  Yw ((Zy (Wf S rfl) (Zz W.b) (Yt _ _ _ (by decide) (by decide)) (Ze (Zb rfl) Zj) rfl).trans (Ia W h))
 have e2:Ry (f1 (ZU c.Orders "given") (Za 0)) (Za 1) (fC (.g c.STAND)) [some (.o ho),some (.int ((off:Int)+k))] om=some (.ok (odG c off ((gs.lookup k).getD .stand)),om):=by
  unfold Ry
  rw[Zo (Yk rfl S.o (SH ..))]
  refine (Zo (a:=()) (om1:=om) (by simp[Qo,isD,S.g])).trans ?_
  rw[Zo (Zb rfl),Zo ZD]
  cases hq:gs.lookup k with
  |none=>simp[Sd,XB,S.g,YE,VG,hq,odG]
  |some o=>simp[Sd,XB,S.g,YE,VG,hq]
 exact ZH ((Zh e1).trans (Zv e2))
def Vu (off:Nat):Od->Wv
 |.move g=>.int ((off:Int)+g)
 |_=>.non
theorem NV (ho':om[ho]?=some (X5 c hb hg)) (hd:om[hg]?=some (.dk (Xp c off gs))∨om[hg]?=some (.dz (Xp c off gs))) (k:Nat):Zl c [.o ho,.int ((off:Int)+k)] om=some (.ok (Vu off ((gs.lookup k).getD .stand)),om):=by
 generalize ho2:(gs.lookup k).getD .stand=o
 have e1:ZO 2 (Ry (f1 (ZU c.Orders "given") (Za 0)) (Za 1) (fC (.g c.STAND))) [some (.o ho),some (.int ((off:Int)+k)),none] om=some (.ok (.nx,[some (.o ho),some (.int ((off:Int)+k)),some (odG c off o)]),om):=by
  refine ZB (i:=2) (w:=odG c off o) ?_
  unfold Ry
  rw[Zo (Yk rfl ho' (SH ..))]
  rw[← ho2]
  rcases hd with hd|hd
  ·refine (Zo (a:=()) (om1:=om) (by simp[Qo,isD,hd])).trans ?_
   rw[Zo (Zb rfl),Zo ZD]
   cases hq:gs.lookup k with
   |none=>simp[Sd,XB,hd,YE,VG,hq,odG]
   |some o=>simp[Sd,XB,hd,YE,VG,hq]
  ·refine (Zo (a:=()) (om1:=om) (by simp[Qo,isD,hd])).trans ?_
   rw[Zo (Zb rfl),Zo ZD]
   cases hq:gs.lookup k with
   |none=>simp[Sd,XB,hd,YE,VG,hq,odG]
   |some o=>simp[Sd,XB,hd,YE,VG,hq]
 have e2:fB (f2 kEq (f2 (WO c.STAND) (Za 2) (fC (.int 0))) (fC (.str "move"))) [some (.o ho),some (.int ((off:Int)+k)),some (odG c off o)] om=some (.ok (decide (odN o="move")),om):=by
  refine Z9 ((ZC (x:=.str (odN o)) (om1:=om) ((ZC (Zb rfl) ZD).trans ?_) ZD).trans (Lg _ _ (Ka o) L9 _))
  unfold WO
  cases o with
  |stand=>rw[show odG c off .stand=.g c.STAND from rfl,J4]; exact YH (k:=0) rfl rfl
  |move g=>exact YH (k:=0) rfl rfl
  |help h g=>exact YH (k:=0) rfl rfl
 refine ZH (sl1:=[some (.o ho),some (.int ((off:Int)+k)),some (odG c off o)]) ((Zh e1).trans ?_)
 cases o with
 |stand=>exact (Zh (Z3 e2)).trans (Zv ZD)
 |help h g=>exact (Zh (Z3 e2)).trans (Zv ZD)
 |move g=>exact YI ((Y1 e2).trans (Zv ((ZC (Zb rfl) ZD).trans (YH (k:=1) rfl rfl))))
theorem Ef (S:Os c om ho hb hg off gs) (k:Nat):Zl c [.o ho,.int ((off:Int)+k)] om=some (.ok (Vu off ((gs.lookup k).getD .stand)),om):=NV S.o (.inl S.g) k
end
open PySem L2
theorem Qf {S:FS} {i:Nat} {om:List Ob} {sl:Sl} (hi:i < sl.length):∀{l:List Wv} (x:Option Wv),(∀w∈l,S (sl.set i (some w)) om=some (.ok (.nx,sl.set i (some w)),om))->∃y,WU (tgN i) S l (sl.set i x) om=some (.ok (.nx,sl.set i y),om)
 |[],x,_=>⟨x,rfl⟩
 |w::l,x,h=>by
  obtain ⟨y,e⟩:=Qf hi (l:=l) (some w) fun u hu=>h u (.tail _ hu)
  refine ⟨y,?_⟩
  show (match tgN i w (sl.set i x) with|none=>XN|some sl1=>bnd (S sl1) (Sr fun sl2=>WU (tgN i) S l sl2)) om=_
  have e1:tgN i w (sl.set i x)=some (sl.set i (some w)):=by unfold tgN; rw[List.set_set]
  rw[e1]
  dsimp only
  rw[Zo (h w (.head _))]
  exact e
section
variable {c:CA} {om:List Ob} {ho hb hm hu hl hg size off:Nat} {f:List (Option Int)} {kvs:List (List Key × Wv)} {gs:Gs}
theorem OQ (W:Wd c om hb hm hu hl size off f kvs) (S:Os c om ho hb hg off gs) (ps us:List Nat) (hp:∀k∈ps,k < f.length) (hus:∀k∈us,(at' f k).isSome=true) :
    YX c [.o ho,.lst (ps.map fun (k:Nat)=>.int ((off:Int)+k)),.lst (us.map fun (k:Nat)=>.int ((off:Int)+k))] om=some (.ok .non,om):=by
 generalize hA:Wv.lst (ps.map fun (k:Nat)=>.int ((off:Int)+k))=A
 generalize hB:Wv.lst (us.map fun (k:Nat)=>.int ((off:Int)+k))=B
 obtain ⟨y,e1⟩:=Qf (S:=Xi c) (i:=3) (om:=om) (sl:=[some (.o ho),some A,some B,none]) (by simp) (l:=ps.map fun (k:Nat)=>.int ((off:Int)+k)) none (fun w hw=>by
  obtain ⟨k,hk,rfl⟩:=List.mem_map.mp hw
  have hk:=W.inn (hp k hk)
  exact Yw ((Zy (OL (Wf S rfl) W.b (W5 ..)) (Zz W.m) (Xw _ _ _ (by decide) (by decide)) (Ze (Zb rfl) Zj) rfl).trans (U9 c W.m hk.1 hk.2)))
 obtain ⟨z,e2⟩:=Qf (S:=Xj c) (i:=3) (om:=om) (sl:=[some (.o ho),some A,some B,y]) (by simp) (l:=us.map fun (k:Nat)=>.int ((off:Int)+k)) y (fun w hw=>by
  obtain ⟨k,hk,rfl⟩:=List.mem_map.mp hw
  obtain ⟨s,hs⟩:=Option.isSome_iff_exists.mp (hus k hk)
  exact Yw ((Zy (Wf S rfl) (Zz W.b) (Yt _ _ _ (by decide) (by decide)) (Ze (Zb rfl) Zj) rfl).trans (Ia W hs)))
 have f1:Tc (fun sl=>bnd ((Za 1) sl) ZL) (tgN 3) (Xi c) [some (.o ho),some A,some B,none] om=_:=X1 (sl1:=[]) ((Zo (Zb rfl)).trans (by rw[← hA]; rfl)) e1
 have f2:Tc (fun sl=>bnd ((Za 2) sl) ZL) (tgN 3) (Xj c) [some (.o ho),some A,some B,y] om=_:=X1 (sl1:=[]) ((Zo (Zb rfl)).trans (by rw[← hB]; rfl)) e2
 exact Vr ((Zh f1).trans f2)
theorem Qh (W:Wd c om hb hm hu hl size off f kvs) (S:Os c om ho hb hg off gs) {a b:Nat} (ha:a < f.length) (hbb:b < f.length) (hk:OF kvs ((off:Int)+a) ((off:Int)+b)=true):YC c [.o ho,.int ((off:Int)+a),.int ((off:Int)+b)] om=some (.ok .non,om):=by
 refine Vr (Z3 (F6 (b:=true) (W3 ((Zy (OL (Wf S rfl) W.b (W5 ..)) (Zz W.m) (Xw _ _ _ (by decide) (by decide)) (Ze (Zb rfl) (Ze (Zb rfl) Zj)) rfl).trans ((Ju c W.m W.l (W.inn ha) (W.inn hbb)).trans ?_)))))
 rw[hk]
theorem Tj {ws:List Wv} {om:List Ob} (h:ws.length<=8):ZQ ws om=some (.ok (.lst ws),om):=by
 have:=ZW
 unfold ZQ
 rw[if_pos (by omega)]
 rfl
theorem GJ (W:Wd c om hb hm hu hl size off f kvs) (S:Os c om ho hb hg off gs) {k g:Nat} {s:Int} (h:at' f k=some s) (hgl:g < f.length) (hk:OF kvs ((off:Int)+k) ((off:Int)+g)=true) (hlen:gs.length < 100) :
    YV c [.o ho,.int ((off:Int)+k),.int ((off:Int)+g)] om=some (.ok .non,om.set hg (.dk (Xp c off (Ql gs k (.move g))))):=by
 have e1:Yg (Zq c.Orders "need_all" 3 (YX c) (Za 0) (Zc (fA ZQ (Zc (Za 1) (Zc (Za 2) Zk))) (Zc (fA ZQ (Zc (Za 1) Zk)) Zk))) [some (.o ho),some (.int ((off:Int)+k)),some (.int ((off:Int)+g))] om=some (.ok (.nx,[some (.o ho),some (.int ((off:Int)+k)),some (.int ((off:Int)+g))]),om) :=
  Yw ((Zy (Zb rfl) (Zz S.o) (Z8 _ _ _ (by decide) (by decide)) (Ze ((ZI (Ze (Zb rfl) (Ze (Zb rfl) Zj))).trans (Tj (by simp))) (Ze ((ZI (Ze (Zb rfl) Zj)).trans (Tj (by simp))) Zj)) rfl).trans
   (OQ W S [k,g] [k] (by intro j hj; simp at hj; rcases hj with rfl|rfl; exact N5 h; exact hgl) (by intro j hj; simp at hj; subst hj; rw[h]; rfl)))
 have e2:Yg (Zq c.Orders "need_beside" 3 (YC c) (Za 0) (Zc (Za 1) (Zc (Za 2) Zk))) [some (.o ho),some (.int ((off:Int)+k)),some (.int ((off:Int)+g))] om=some (.ok (.nx,[some (.o ho),some (.int ((off:Int)+k)),some (.int ((off:Int)+g))]),om) :=
  Yw ((Zy (Zb rfl) (Zz S.o) (Z8 _ _ _ (by decide) (by decide)) (Ze (Zb rfl) (Ze (Zb rfl) Zj)) rfl).trans (Qh W S (N5 h) hgl hk))
 exact Vr ((Zh e1).trans ((Zh e2).trans (An S (o:=.move g) ((ZI (Ze ZD (Ze (Zb rfl) Zj))).trans (Vp (by simp))) rfl rfl hlen)))
def mvG (gs:Gs) (k:Nat):Bool:=Xg (some ((gs.lookup k).getD .stand))
theorem Vb:∀{l m:List Int},l.Pairwise (· < ·)->m.Pairwise (· < ·)->(∀p,p∈l ↔ p∈m)->l=m
 |[],[],_,_,_=>rfl
 |[],y::m,_,_,h=>absurd ((h y).mpr (.head _)) (by simp)
 |x::l,[],_,_,h=>absurd ((h x).mp (.head _)) (by simp)
 |x::l,y::m,h1,h2,h=>by
  have h1':=List.pairwise_cons.mp h1
  have h2':=List.pairwise_cons.mp h2
  have e:x=y:=by
   rcases List.mem_cons.mp ((h x).mp (.head _)) with hx|hx
   ·exact hx
   ·rcases List.mem_cons.mp ((h y).mpr (.head _)) with hy|hy
    ·exact hy.symm
    ·have a:=h1'.1 y hy
     have b:=h2'.1 x hx
     omega
  subst e
  rw[Vb h1'.2 h2'.2 fun p=>⟨fun hp=>?_,fun hp=>?_⟩]
  ·rcases List.mem_cons.mp ((h p).mp (.tail _ hp)) with z|z
   ·have:=h1'.1 p hp; omega
   ·exact z
  ·rcases List.mem_cons.mp ((h p).mpr (.tail _ hp)) with z|z
   ·have:=h2'.1 p hp; omega
   ·exact z
theorem UX {l:List Int} (nd:l.Nodup):(YT l).Pairwise (· < ·):=by
 have hn:(YT l).Nodup:=(Yv l).nodup_iff.mpr nd
 exact ((WV l).and hn).imp fun {x y} h=>by
  have:=h.1
  have:=h.2
  omega
def XI (off:Nat) (T:Nat->Option Od) (n:Nat):List Int:=((List.range n).filter fun k=>Xg (T k)).map fun (k:Nat)=>(off:Int)+k
theorem S5 (off:Nat) (T:Nat->Option Od) (n:Nat):(XI off T n).Pairwise (· < ·):=by
 unfold XI
 refine List.pairwise_map.mpr ((List.Pairwise.filter _ List.pairwise_lt_range).imp fun {a b} h=>?_)
 show (off:Int)+a < off+b
 omega
theorem OR {gs:Gs} {T:Nat->Option Od} (h:Tell gs T) (off n:Nat) (hn:∀k o,T k=some o->k < n):YT ((gs.filter fun p=>Xg (some p.2)).map fun p=>(off:Int)+p.1)=XI off T n:=by
 refine Vb (UX ?_) (S5 off T n) fun p=>?_
 ·have nd:((gs.filter fun p=>Xg (some p.2)).map (·.1)).Nodup:=h.nd.sublist (List.Sublist.map _ (List.filter_sublist ..))
  refine List.pairwise_map.mpr ((List.pairwise_map.mp nd).imp fun {a b} hab z=>hab ?_)
  have z:(off:Int)+a.1=off+b.1:=z
  omega
 ·rw[(Yv _).mem_iff]
  unfold XI
  constructor
  ·intro hp
   obtain ⟨q,hq,rfl⟩:=List.mem_map.mp hp
   obtain ⟨hq1,hq2⟩:=List.mem_filter.mp hq
   have hk:=h.key q.1 q.2 (Wt h.nd hq1)
   exact List.mem_map.mpr ⟨q.1,List.mem_filter.mpr ⟨List.mem_range.mpr (hn _ _ hk),by rw[hk]; exact hq2⟩,rfl⟩
  ·intro hp
   obtain ⟨k,hk,rfl⟩:=List.mem_map.mp hp
   obtain ⟨_,hk2⟩:=List.mem_filter.mp hk
   match hT:T k with
   |none=>rw[hT]at hk2; cases hk2
   |some o =>
    rw[hT]at hk2
    have hg:=h.get k o hT
    cases hl:gs.lookup k with
    |none =>
     rw[hl]at hg
     have hg:Od.stand=o:=hg
     subst hg
     cases hk2
    |some q =>
     rw[hl]at hg
     have hg:q=o:=hg
     subst hg
     exact List.mem_map.mpr ⟨(k,q),List.mem_filter.mpr ⟨TW hl,hk2⟩,rfl⟩
theorem W9:∀ns:List Int,XQ (ns.map Wv.int)=some ns
 |[]=>rfl
 |n::r=>by
  show (match XQ (r.map Wv.int) with|some is=>some (n::is)|none=>none)=_
  rw[W9 r]
theorem O8 (off:Nat) (o:Od) (om:List Ob):T5 (Vu off o) om=some (.ok (.bl (Xg (some o))),om):=by
 cases o <;> rfl
theorem LM (c:CA) (off:Nat) (gs:Gs):((Xp c off gs).map fun p=>Uf p.1)=(gs.map fun p=>(off:Int)+p.1).map Wv.int:=by
 unfold Xp
 rw[List.map_map,List.map_map]
 rfl
theorem T0 {k:List Wv->Mw Wv} {cT:FT} {fE:FE} (hcT:∀om' (w:Wv),∀j:Nat,w=.int ((off:Int)+j)->om'[ho]?=some (X5 c hb hg)->om'[hg]?=some (.dz (Xp c off gs))->cT [some w,some (.o ho)] om'=some (.ok (mvG gs j),om')) (hfE:∀w om',fE [some w,some (.o ho)] om'=some (.ok w,om')) (S:Os c om ho hb hg off gs) (nd:(gs.map (·.1)).Nodup) (hlen:gs.length < 100) :
    Wb k [0] (f1 (ZU c.Orders "given") (Za 0)) cT fE [some (.o ho)] om=k (((gs.filter fun p=>Xg (some p.2)).map fun p=>(off:Int)+p.1).map Wv.int) om:=by
 have hlim:=ZW
 have nb:hg≠ho:=fun z=>by have h:=S.g; subst z; rw[S.o]at h; cases h
 have hlt:hg < om.length:=(List.getElem?_eq_some_iff.mp S.g).1
 have a1:(om.set hg (.dz (Xp c off gs)))[ho]?=some (X5 c hb hg):=by rw[List.getElem?_set_ne nb]; exact S.o
 have a2:(om.set hg (.dz (Xp c off gs)))[hg]?=some (.dz (Xp c off gs)):=by rw[List.getElem?_set_self hlt]
 unfold Wb
 rw[Zo (Yk rfl S.o (SH ..))]
 refine (Zo (a:=(true,hg,(Xp c off gs).map fun p=>Uf p.1)) (om1:=om.set hg (.dz (Xp c off gs))) ?_).trans ?_
 ·have h1:(Xp c off gs).length<=lim:=by rw[ND]; omega
  simp[Lj,S.g,h1]
 dsimp only
 have pj:∀j:Nat,((off:Int)+j - off).toNat=j:=fun j=>by omega
 have e:=Ue (c:=cT) (f:=fE) (mk:=fun w=>Xa [0] w [some (.o ho)]) (om:=om.set hg (.dz (Xp c off gs))) (fun w=>match w with|.int i=>mvG gs (i - off).toNat|_=>false) (fun w=>w) (l:=(Xp c off gs).map fun p=>Uf p.1)
  (fun w hw=>by
   rw[LM]at hw
   obtain ⟨i,hi,rfl⟩:=List.mem_map.mp hw
   obtain ⟨p,hp,rfl⟩:=List.mem_map.mp hi
   show cT [some (.int ((off:Int)+p.1)),some (.o ho)] _=some (.ok (mvG gs ((off:Int)+p.1 - off).toNat),_)
   rw[pj]
   exact hcT _ _ p.1 rfl a1 a2) (fun w hw _=>hfE w _)
 rw[Zo e]
 refine (Zo (a:=()) (om1:=om) ?_).trans ?_
 ·have:(om.set hg (.dz (Xp c off gs))).set hg (.dk (Xp c off gs))=om:=by
   rw[List.set_set]
   exact List.ext_getElem? fun i=>by
    by_cases h:hg=i
    ·subst h; rw[List.getElem?_set_self hlt,S.g]
    ·rw[List.getElem?_set_ne h]
  simp only[MK,a2,this,if_true]
 ·refine congrArg (fun l=>k l om) ?_
  rw[List.map_id',LM,List.map_map]
  clear e a1 a2 hlt nb
  have key:∀l:Gs,(∀p∈l,gs.lookup p.1=some p.2)->(l.map (Wv.int ∘ fun p=>(off:Int)+p.1)).filter (fun w=>match w with|.int i=>mvG gs (i - off).toNat|_=>false)=((l.filter fun p=>Xg (some p.2)).map fun p=>(off:Int)+p.1).map Wv.int:=by
   intro l
   induction l with
   |nil=>intro _; rfl
   |cons p l ih =>
    intro hp
    have h1:=hp p (.head _)
    have e1:mvG gs ((off:Int)+p.1 - off).toNat=Xg (some p.2):=by
     rw[pj]
     unfold mvG
     rw[h1]
     rfl
    rw[List.map_cons,List.filter_cons,List.filter_cons]
    show (if mvG gs ((off:Int)+p.1 - off).toNat=true then _ else _)=_
    rw[e1,ih fun q hq=>hp q (.tail _ hq)]
    cases Xg (some p.2) <;> rfl
  exact key gs fun p hp=>Wt nd hp
theorem Kv {T:Nat->Option Od} {n:Nat} (S:Os c om ho hb hg off gs) (t:Tell gs T) (hn:∀k o,T k=some o->k < n) (hlen:gs.length<=60):ZJ c [.o ho] om=some (.ok (.lst ((XI off T n).map Wv.int)),om)∧TC c [.o ho] om=some (.ok (.o om.length),om++[.lst ((XI off T n).map Wv.int)]):=by
 have hlim:=ZW
 have hE:∀(w:Wv) (om':List Ob),(Za 0) [some w,some (.o ho)] om'=some (.ok w,om'):=fun w om'=>Zb rfl
 have hT:∀(om':List Ob) (w:Wv),∀j:Nat,w=.int ((off:Int)+j)->om'[ho]?=some (X5 c hb hg)->om'[hg]?=some (.dz (Xp c off gs))->(fB (f1 T5 (Zq c.Orders "goal_of" 2 (Zl c) (Za 1) (Zc (Za 0) Zk)))) [some w,some (.o ho)] om'=some (.ok (mvG gs j),om'):=fun om' w j hw h1 h2=>by
  subst hw
  exact Z9 ((VC ((Zy (Zb rfl) (Zz h1) (Z8 _ _ _ (by decide) (by decide)) (Ze (Zb rfl) Zj) rfl).trans (NV h1 (.inr h2) j))).trans (O8 _ _ _))
 generalize hL:((gs.filter fun p=>Xg (some p.2)).map fun p=>(off:Int)+p.1)=L
 have hLl:L.length<=gs.length:=by rw[← hL,List.length_map]; exact List.length_filter_le _ _
 have es:YT L=XI off T n:=by rw[← hL]; exact OR t off n hn
 have hml:((XI off T n).map Wv.int).length<=gs.length:=by rw[List.length_map,← es,(Yv L).length_eq]; exact hLl
 have srt:∀k:List Wv->Mw Wv,YU k [.lst (L.map Wv.int)] om=k ((XI off T n).map Wv.int) om:=fun k=>by
  show (match XQ (L.map Wv.int) with|some ns=>if ns.length < 64 then k ((YT ns).map Wv.int) om else none|none=>none)=_
  rw[W9]
  show (if L.length < 64 then k ((YT L).map Wv.int) om else none)=_
  rw[if_pos (by omega),es]
 have lay:ZQ (L.map Wv.int) om=some (.ok (.lst (L.map Wv.int)),om):=by
  unfold ZQ
  rw[if_pos (by rw[List.length_map]; omega)]
  rfl
 refine ⟨ZH (Zv ((ZI (Ze ((T0 hT hE S t.nd (by omega)).trans (by rw[hL]; exact lay)) Zj)).trans ((srt ZQ).trans ?_))),ZH (Zv ((ZI (Ze ((T0 hT hE S t.nd (by omega)).trans (by rw[hL]; exact lay)) Zj)).trans ((srt Vg).trans ?_)))⟩
 ·unfold ZQ
  rw[if_pos (by omega)]
  rfl
 ·unfold Vg
  rw[if_pos (by omega)]
  rfl
end
open PySem L2
theorem Hv:∀(n:Nat) (l:List Nat),l.Nodup->(∀x∈l,x < n)->l.length<=n
 |0,[],_,_=>Nat.le_refl _
 |0,x::_,_,h=>absurd (h x (.head _)) (by omega)
 |n+1,l,nd,h=>by
  have h1:=Hv n (l.erase n) (nd.erase n) fun x hx=>by
   have q:=(List.Nodup.mem_erase_iff nd).mp hx
   have:=h x q.2
   have:=q.1
   omega
  have h2:l.length<=(l.erase n).length+1:=by rw[List.length_erase]; split <;> omega
  omega
theorem Tell.len {gs:Gs} {T:Nat->Option Od} {n:Nat} (h:Tell gs T) (hn:∀k o,T k=some o->k < n):gs.length<=n:=by
 rw[← List.length_map (f:=(·.1))]
 refine Hv n _ h.nd fun x hx=>?_
 obtain ⟨p,hp,rfl⟩:=List.mem_map.mp hx
 exact hn _ _ (h.key p.1 p.2 (Wt h.nd hp))
section
variable {c:CA} {om:List Ob} {ho hb hm hu hl hg size off:Nat} {f:List (Option Int)} {kvs:List (List Key × Wv)} {gs:Gs} {rows:Mx}
def Same' (f:List (Option Int)) (T:Nat->Option Od):Prop:=∀j,(T j).isSome=(at' f j).isSome
theorem Givn.same {told:List (Option Od)} (G:Givn rows f told):Same' f (at' told):=fun j=>by
 by_cases h:j < f.length
 ·have:=G.okT.both j (by rw[G.len]; exact h)
  exact Bool.eq_iff_iff.mpr this
 ·rw[UN h,UN (by rw[G.len]; exact h)]; rfl
theorem Same'.lt {T:Nat->Option Od} (h:Same' f T):∀k o,T k=some o->k < f.length:=fun k o e=>by
 have q:=h k
 rw[e]at q
 obtain ⟨s,hs⟩:=Option.isSome_iff_exists.mp q.symm
 exact N5 hs
theorem Oo (c:CA) (om:List Ob) (hb:Nat):YY c.Orders 2 (Xc c) [.o hb] om=some (.ok (.o om.length),om++[X5 c hb (om.length+1),.dk []]):=by
 simp[Xc,V5,YY,bnd,kN,chk,L2.ret,Yl,ZE,Y3,Za,WD,Pd,Xo,KI,newO,XG,Lm]
end
end MP
namespace MP
noncomputable section
open PySem L2
def QS (c:CA):FT :=
 (UZ (fB (f2 kEq (Zq c.Orders "goal_of" 2 (Zl c) (Za 1) (Zc (Za 0) Zk)) (Za 2))) (fB (f2 kNe (Zq c.Board "side_at" 2 (ZG c) (f1 (ZU c.Orders "board") (Za 1)) (Zc (Za 0) Zk)) (Za 3))))
def Pn (c:CA):FE :=
 (Za 0)
def Tk (c:CA):FE :=
 (f2 kNe (Za 0) (f2 (WO c.STAND) (Za 1) (fC (.int 2))))
def JW (c:CA):FS :=
 (ZE (ZO 2 (Zq c.Orders "told" 2 (Yd c) (Za 0) (Zc (Za 1) Zk)))
  (ZE (sIf (fB (f2 kNe (f2 (WO c.STAND) (Za 2) (fC (.int 0))) (fC (.str "help")))) (Ym (fC (.bl false))) Y8)
  (ZE (ZO 3 (Zq c.Board "side_at" 2 (ZG c) (f1 (ZU c.Orders "board") (Za 0)) (Zc (Za 1) Zk)))
  (ZE (ZO 4 (Yc ZQ [0,1,3] (fun sl=>bnd ((Zq c.Orders "movers" 1 (ZJ c) (Za 0) Zk) sl) ZL) (QS c) (Pn c)))
  (Ym (fA Gy (Zc (Yc ZQ [2] (fun sl=>bnd ((Za 4) sl) ZL) XC (Tk c)) Zk)))))))
def g_is_cut (c:CA):List Wv->Mw Wv:=Yl 5 (JW c)
def D2 (c:CA):FS :=
 (ZE (sIf (fB (f2 kEq (Za 2) (Za 1))) (Ym (f1 U3 (Zq c.Orders "goal_of" 2 (Zl c) (Za 0) (Zc (Za 1) Zk)))) Y8)
  (Ym (f2 kEq (Zq c.Orders "goal_of" 2 (Zl c) (Za 0) (Zc (Za 1) Zk)) (Za 2))))
def g_fits (c:CA):List Wv->Mw Wv:=Yl 3 (D2 c)
def Ij (c:CA):FS :=
 (ZE (ZO 2 (Zq c.Orders "told" 2 (Yd c) (Za 0) (Zc (Za 1) Zk)))
  (Ym (X7 (f2 kEq (f2 (WO c.STAND) (Za 2) (fC (.int 0))) (fC (.str "help"))) (X7 (fA (kN 3 (g_fits c)) (Zc (Za 0) (Zc (f2 (WO c.STAND) (Za 2) (fC (.int 1))) (Zc (f2 (WO c.STAND) (Za 2) (fC (.int 2))) Zk)))) (f1 E6 (fA (kN 2 (g_is_cut c)) (Zc (Za 0) (Zc (Za 1) Zk))))))))
def g_counts (c:CA):List Wv->Mw Wv:=Yl 3 (Ij c)
def G3 (c:CA):FS :=
 (ZE (ZO 3 (Zq c.Orders "told" 2 (Yd c) (Za 0) (Zc (Za 1) Zk)))
  (Ym (X7 (f2 kEq (f2 (WO c.STAND) (Za 3) (fC (.int 0))) (fC (.str "help"))) (X7 (f2 kEq (f2 (WO c.STAND) (Za 3) (fC (.int 1))) (Za 2)) (fA (kN 2 (g_counts c)) (Zc (Za 0) (Zc (Za 1) Zk)))))))
def g_backs (c:CA):List Wv->Mw Wv:=Yl 4 (G3 c)
def MT (c:CA):FT :=
 (WZ (fA (kN 3 (g_backs c)) (Zc (Za 2) (Zc (Za 0) (Zc (Za 3) Zk)))))
def ME (c:CA):FE :=
 (Za 1)
def Jb (c:CA):FS :=
 (Ym (We ZQ 2 [0,1] (fun sl=>bnd ((Zq c.Board "roll" 1 (Z5 c) (f1 (ZU c.Orders "board") (Za 0)) Zk) sl) ZL) (MT c) (ME c)))
def g_backing (c:CA):List Wv->Mw Wv:=Yl 2 (Jb c)
def Fn (c:CA):FS :=
 (ZE (sIf (fB (f1 U3 (Zq c.Orders "goal_of" 2 (Zl c) (Za 0) (Zc (Za 1) Zk)))) (Ym (fC (.int 0))) Y8)
  (Ym (f2 XD (fC (.int 1)) (fA UM (Zc (fA (kN 2 (g_backing c)) (Zc (Za 0) (Zc (Za 1) Zk))) Zk)))))
def g_force (c:CA):List Wv->Mw Wv:=Yl 2 (Fn c)
def Tt (c:CA):FT :=
 (fB (f2 kNe (Za 0) (Za 1)))
def TQ (c:CA):FE :=
 (Za 0)
def SA (c:CA):FS :=
 (ZE (sIf (fB (f1 U3 (Zq c.Orders "goal_of" 2 (Zl c) (Za 0) (Zc (Za 1) Zk)))) (Ym (fC (.int 0))) Y8)
  (Ym (f2 XD (fC (.int 1)) (fA UM (Zc (Yc ZQ [2] (fun sl=>bnd ((fA (kN 2 (g_backing c)) (Zc (Za 0) (Zc (Za 1) Zk))) sl) ZL) (Tt c) (TQ c)) Zk)))))
def g_force_against (c:CA):List Wv->Mw Wv:=Yl 3 (SA c)
def Lh (c:CA):FS :=
 (ZE (sIf (fB (f1 T5 (Zq c.Orders "goal_of" 2 (Zl c) (Za 0) (Zc (Za 1) Zk)))) (Ym (fC (.int 1))) Y8)
  (Ym (f2 XD (fC (.int 1)) (fA UM (Zc (fA (kN 2 (g_backing c)) (Zc (Za 0) (Zc (Za 1) Zk))) Zk)))))
def g_firmness (c:CA):List Wv->Mw Wv:=Yl 2 (Lh c)
end
open PySem L2
theorem Yh {α:Type} {cT:FT} {f:FE} {mk:Wv->Sl} {om:List Ob} (φ:α->Wv) (p:α->Bool) (g:α->Wv):∀{l:List α},(∀a∈l,cT (mk (φ a)) om=some (.ok (p a),om))->(∀a∈l,p a=true->f (mk (φ a)) om=some (.ok (g a),om))->Xk cT f mk (l.map φ) om=some (.ok ((l.filter p).map g),om)
 |[],_,_=>rfl
 |a::l,h1,h2=>by
  have ih:=Yh φ p g (l:=l) (fun b hb=>h1 b (.tail _ hb)) (fun b hb=>h2 b (.tail _ hb))
  have c1:Z4 (cT (mk (φ a))) om=some (.ok (p a),om):=by simp[Z4,h1 a (.head _)]
  rw[List.map_cons]
  show bnd (Z4 (cT (mk (φ a)))) (M9 (Xk cT f mk (l.map φ)) (f (mk (φ a)))) om=_
  rw[Zo c1,List.filter_cons]
  cases hp:p a with
  |false=>exact ih
  |true =>
   have c2:Z4 (f (mk (φ a))) om=some (.ok (g a),om):=by simp[Z4,h2 a (.head _) hp]
   show bnd (Z4 (f (mk (φ a)))) (fun x=>bnd (Xk cT f mk (l.map φ)) fun xs=>L2.ret (x::xs)) om=_
   rw[Zo c2,Zo ih]
   rfl
theorem Uj {α:Type} (b:α->Bool):∀l:List α,WL (l.map fun a=>Wv.bl (b a))=some (l.map b)
 |[]=>rfl
 |a::l=>by
  show (match WL (l.map fun a=>Wv.bl (b a)) with|some bs=>some (b a::bs)|none=>none)=_
  rw[Uj b l]
  rfl
theorem Ii (c:CA) (off:Nat) (o:Od) (om:List Ob):WO c.STAND (odG c off o) (.int 0) om=some (.ok (.str (odN o)),om):=by
 unfold WO
 cases o with
 |stand=>rw[show odG c off .stand=.g c.STAND from rfl,J4]; exact YH (k:=0) rfl rfl
 |move g=>exact YH (k:=0) rfl rfl
 |help h g=>exact YH (k:=0) rfl rfl
theorem ET (c:CA) (off h g:Nat) (om:List Ob):WO c.STAND (odG c off (.help h g)) (.int 1) om=some (.ok (.int ((off:Int)+h)),om):=YH (k:=1) rfl rfl
theorem Eo (c:CA) (off h g:Nat) (om:List Ob):WO c.STAND (odG c off (.help h g)) (.int 2) om=some (.ok (.int ((off:Int)+g)),om):=YH (k:=2) rfl rfl
theorem U4 {fa fb:FE} {sl:Sl} {om om1:List Ob} (h:fa sl om=some (.ok (.bl false),om1)):X7 fa fb sl om=some (.ok (.bl false),om1):=by simp[X7,bnd,h,kB,L2.ret]
theorem OJ {fa fb:FE} {sl:Sl} {om:List Ob} {a b:Bool} (h:fa sl om=some (.ok (.bl a),om)) (h2:a=true->fb sl om=some (.ok (.bl b),om)):X7 fa fb sl om=some (.ok (.bl (a&&b)),om):=by
 cases a with
 |false=>exact U4 h
 |true=>exact (U2 h).trans (h2 rfl)
theorem RV (off a b:Nat):decide ((off:Int)+a=(off:Int)+b)=decide (a=b):=by
 by_cases h:a=b
 ·rw[decide_eq_true h,decide_eq_true (by omega)]
 ·rw[decide_eq_false h,decide_eq_false (by omega)]
theorem SF (off:Nat) (o:Od) (g:Nat) (om:List Ob):Wo false (Vu off o) (.int ((off:Int)+g)) om=some (.ok (.bl (decide (o=.move g))),om):=by
 cases o with
 |stand=>simp[Vu,Wo,Y7,Wp,WK,PyData.canLay0,PyData.depth,PyData.eqv]
 |help a b=>simp[Vu,Wo,Y7,Wp,WK,PyData.canLay0,PyData.depth,PyData.eqv]
 |move a =>
  refine (WH _ _ _).trans ?_
  rw[RV]
  by_cases h:a=g
  ·subst h; simp
  ·rw[decide_eq_false h,decide_eq_false (fun z=>h (Od.move.inj z))]
theorem RA (off:Nat) (o:Od) (om:List Ob):U3 (Vu off o) om=some (.ok (.bl (!Xg (some o))),om):=by cases o <;> rfl
section
variable {c:CA} {om:List Ob} {ho hb hm hu hl hg size off:Nat} {f:List (Option Int)} {kvs:List (List Key × Wv)} {gs:Gs} {rows:Mx} {told:List (Option Od)}
def G2 (told:List (Option Od)) (f:List (Option Int)) (k:Nat):Bool:=match at' told k with
 |some (.help _ g)=>MF told f k g
 |_=>false
theorem My (W:Wd c om hb hm hu hl size off f kvs) (S:Os c om ho hb hg off gs) (G:Givn rows f told) (t:Tell gs (at' told)) {k:Nat} {o:Od} (h:at' told k=some o):Yd c [.o ho,.int ((off:Int)+k)] om=some (.ok (odG c off o),om):=by
 have hs:=G.same k
 rw[h]at hs
 obtain ⟨s,e⟩:=Option.isSome_iff_exists.mp hs.symm
 rw[GO W S e,t.get k o h]
theorem OB (S:Os c om ho hb hg off gs) (t:Tell gs (at' told)) {k:Nat} {o:Od} (h:at' told k=some o):Zl c [.o ho,.int ((off:Int)+k)] om=some (.ok (Vu off o),om):=by
 rw[Ef S k,t.get k o h]
theorem Nh (W:Wd c om hb hm hu hl size off f kvs) (S:Os c om ho hb hg off gs) (G:Givn rows f told) (t:Tell gs (at' told)):ZJ c [.o ho] om=some (.ok (.lst (((List.range f.length).filter fun k=>Xg (at' told k)).map fun (k:Nat)=>Wv.int ((off:Int)+k))),om):=by
 have h1:=t.len G.same.lt
 have h2:=W.fit
 have h3:=W.few
 rw[(Kv (n:=f.length) S t G.same.lt (by omega)).1]
 unfold XI
 rw[List.map_map]
 rfl
theorem GR (G:Givn rows f told) (k g:Nat):(((List.range f.length).filter fun m=>Xg (at' told m)).filter fun m=>decide (at' told m=some (.move k))&&!decide (at' f m=at' f k)).any (fun m=>!decide (m=g))=MF told f k g:=by
 unfold MF
 rw[G.len]
 refine Bool.eq_iff_iff.mpr ?_
 rw[List.any_eq_true,List.any_eq_true]
 constructor
 ·rintro ⟨m,hm,h⟩
  obtain ⟨hm1,hm2⟩:=List.mem_filter.mp hm
  obtain ⟨hm3,_⟩:=List.mem_filter.mp hm1
  obtain ⟨a,b⟩:=Bool.and_eq_true_iff.mp hm2
  exact ⟨m,hm3,by rw[a,h,b]; rfl⟩
 ·rintro ⟨m,hm,h⟩
  obtain ⟨a,h2⟩:=Bool.and_eq_true_iff.mp h
  obtain ⟨b,d⟩:=Bool.and_eq_true_iff.mp h2
  refine ⟨m,List.mem_filter.mpr ⟨List.mem_filter.mpr ⟨hm,?_⟩,by rw[a,d]; rfl⟩,b⟩
  rw[of_decide_eq_true a]
  rfl
theorem Jf (W:Wd c om hb hm hu hl size off f kvs) (S:Os c om ho hb hg off gs) (G:Givn rows f told) (t:Tell gs (at' told)) {k:Nat} {o:Od} (h:at' told k=some o):g_is_cut c [.o ho,.int ((off:Int)+k)] om=some (.ok (.bl (G2 told f k)),om):=by
 have hlim:=ZW
 have hk:k < f.length:=G.same.lt k o h
 have h2:=W.fit
 have h3:=W.few
 have e1:ZO 2 (Zq c.Orders "told" 2 (Yd c) (Za 0) (Zc (Za 1) Zk)) [some (.o ho),some (.int ((off:Int)+k)),none,none,none] om=some (.ok (.nx,[some (.o ho),some (.int ((off:Int)+k)),some (odG c off o),none,none]),om) :=
  ZB (i:=2) ((Zy (Zb rfl) (Zz S.o) (Z8 _ _ _ (by decide) (by decide)) (Ze (Zb rfl) Zj) rfl).trans (My W S G t h))
 have t1:fB (f2 kNe (f2 (WO c.STAND) (Za 2) (fC (.int 0))) (fC (.str "help"))) [some (.o ho),some (.int ((off:Int)+k)),some (odG c off o),none,none] om=some (.ok (!decide (odN o="help")),om):=Z9 ((ZC ((ZC (Zb rfl) ZD).trans (Ii c off o _)) ZD).trans (Cn _ _ (Ka o) SI _))
 unfold G2
 rw[h]
 match o,h with
 |.stand,h=>exact ZH ((Zh e1).trans (YI ((Y1 t1).trans (Zv ZD))))
 |.move g,h=>exact ZH ((Zh e1).trans (YI ((Y1 t1).trans (Zv ZD))))
 |.help q g,h =>
  have e3:ZO 3 (Zq c.Board "side_at" 2 (ZG c) (f1 (ZU c.Orders "board") (Za 0)) (Zc (Za 1) Zk)) [some (.o ho),some (.int ((off:Int)+k)),some (odG c off (.help q g)),none,none] om=some (.ok (.nx,[some (.o ho),some (.int ((off:Int)+k)),some (odG c off (.help q g)),some (XU (at' f k)),none]),om) :=
   ZB (i:=3) ((Zy (Wf S rfl) (Zz W.b) (Yt _ _ _ (by decide) (by decide)) (Ze (Zb rfl) Zj) rfl).trans (PB W hk))
  generalize hA:((List.range f.length).filter fun m=>Xg (at' told m))=A
  have hAm:∀m∈A,m < f.length∧∃g',at' told m=some (.move g'):=fun m hm=>by
   rw[← hA]at hm
   obtain ⟨a,b⟩:=List.mem_filter.mp hm
   refine ⟨List.mem_range.mp a,?_⟩
   match e:at' told m,b with
   |some (.move g'),_=>exact ⟨g',rfl⟩
  have hAl:A.length<=f.length:=by rw[← hA]; exact Nat.le_trans (List.length_filter_le _ _) (by simp)
  have mv:=Nh W S G t
  rw[hA]at mv
  generalize hp:(fun m=>decide (at' told m=some (.move k))&&!decide (at' f m=at' f k))=p
  have e4:ZO 4 (Yc ZQ [0,1,3] (fun sl=>bnd ((Zq c.Orders "movers" 1 (ZJ c) (Za 0) Zk) sl) ZL) (QS c) (Pn c)) [some (.o ho),some (.int ((off:Int)+k)),some (odG c off (.help q g)),some (XU (at' f k)),none] om=some (.ok (.nx,[some (.o ho),some (.int ((off:Int)+k)),some (odG c off (.help q g)),some (XU (at' f k)),some (.lst ((A.filter p).map fun (m:Nat)=>Wv.int ((off:Int)+m)))]),om):=by
   refine ZB (i:=4) ((Wg (ws:=A.map fun (m:Nat)=>Wv.int ((off:Int)+m)) (om1:=om) ((Zo ((Zy (Zb rfl) (Zz S.o) (Z8 _ _ _ (by decide) (by decide)) Zj rfl).trans mv)).trans rfl) (by rw[List.length_map]; omega) (Yh (fun (m:Nat)=>Wv.int ((off:Int)+m)) p (fun (m:Nat)=>Wv.int ((off:Int)+m)) (fun m hm=>?_) (fun m hm _=>Zb rfl))).trans ?_)
   ·obtain ⟨hm1,g',hm2⟩:=hAm m hm
    rw[← hp]
    refine R8 (Z9 ((ZC ((Zy (Zb rfl) (Zz S.o) (Z8 _ _ _ (by decide) (by decide)) (Ze (Zb rfl) Zj) rfl).trans (OB S t hm2)) (Zb rfl)).trans ((SF _ _ _ _).trans ?_))) fun _=>?_
    ·rw[hm2]
     simp
    ·exact Z9 ((ZC ((Zy (Wf S rfl) (Zz W.b) (Yt _ _ _ (by decide) (by decide)) (Ze (Zb rfl) Zj) rfl).trans (PB W hm1)) (Zb rfl)).trans (Nb _ _ _))
   ·unfold ZQ
    have:=List.length_filter_le p A
    rw[if_pos (by rw[List.length_map]; omega)]
    rfl
  have hfl:=List.length_filter_le p A
  have e5:fA Gy (Zc (Yc ZQ [2] (fun sl=>bnd ((Za 4) sl) ZL) XC (Tk c)) Zk) [some (.o ho),some (.int ((off:Int)+k)),some (odG c off (.help q g)),some (XU (at' f k)),some (.lst ((A.filter p).map fun (m:Nat)=>Wv.int ((off:Int)+m)))] om=some (.ok (.bl (MF told f k g)),om):=by
   have c1:Yc ZQ [2] (fun sl=>bnd ((Za 4) sl) ZL) XC (Tk c) [some (.o ho),some (.int ((off:Int)+k)),some (odG c off (.help q g)),some (XU (at' f k)),some (.lst ((A.filter p).map fun (m:Nat)=>Wv.int ((off:Int)+m)))] om=some (.ok (.lst ((A.filter p).map fun m=>Wv.bl (!decide (m=g)))),om):=by
    refine (Wg (ws:=(A.filter p).map fun (m:Nat)=>Wv.int ((off:Int)+m)) (om1:=om) ((Zo (a:=.lst ((A.filter p).map fun (m:Nat)=>Wv.int ((off:Int)+m))) (om1:=om) (Zb rfl)).trans rfl) (by rw[List.length_map]; omega) (Yh (fun (m:Nat)=>Wv.int ((off:Int)+m)) (fun _=>true) (fun m=>Wv.bl (!decide (m=g))) (fun m hm=>rfl) (fun m hm _=>?_))).trans ?_
    ·refine ((ZC (Zb rfl) ((ZC (Zb rfl) ZD).trans (Eo c off q g _))).trans (PO _ _ _)).trans ?_
     rw[RV]
    ·rw[List.filter_eq_self.mpr (fun _ _=>rfl)]
     unfold ZQ
     rw[if_pos (by rw[List.length_map]; omega)]
     rfl
   refine (ZI (Ze c1 Zj)).trans ?_
   show (match WL ((A.filter p).map fun m=>Wv.bl (!decide (m=g))) with|some bs=>some (Except.ok (Wv.bl (bs.any id)),om)|none=>none)=_
   rw[Uj]
   show some (Except.ok (Wv.bl (((A.filter p).map fun m=>!decide (m=g)).any id)),om)=_
   rw[List.any_map,← GR G k g,hA,hp]
   rfl
  exact ZH ((Zh e1).trans ((Zh (Z3 t1)).trans ((Zh e3).trans ((Zh e4).trans (Zv e5)))))
theorem Ff (S:Os c om ho hb hg off gs) (t:Tell gs (at' told)) {h g:Nat} {o:Od} (e:at' told h=some o):g_fits c [.o ho,.int ((off:Int)+h),.int ((off:Int)+g)] om=some (.ok (.bl (if h=g then !Xg (at' told h) else decide (at' told h=some (.move g)))),om):=by
 have t1:fB (f2 kEq (Za 2) (Za 1)) [some (.o ho),some (.int ((off:Int)+h)),some (.int ((off:Int)+g))] om=some (.ok (decide (g=h)),om):=Z9 ((v2 rfl rfl).trans ((WH _ _ _).trans (by rw[RV])))
 have gl:Zq c.Orders "goal_of" 2 (Zl c) (Za 0) (Zc (Za 1) Zk) [some (.o ho),some (.int ((off:Int)+h)),some (.int ((off:Int)+g))] om=some (.ok (Vu off o),om):=(Zy (Zb rfl) (Zz S.o) (Z8 _ _ _ (by decide) (by decide)) (Ze (Zb rfl) Zj) rfl).trans (OB S t e)
 rw[e]
 by_cases hq:h=g
 ·rw[decide_eq_true hq.symm]at t1
  rw[if_pos hq]
  exact ZH (YI ((Y1 t1).trans (Zv ((VC gl).trans (RA _ _ _)))))
 ·rw[decide_eq_false (Ne.symm hq)]at t1
  rw[if_neg hq]
  refine ZH ((Zh (Z3 t1)).trans (Zv ((ZC gl (Zb rfl)).trans ((SF _ _ _ _).trans ?_))))
  simp
theorem Jl (W:Wd c om hb hm hu hl size off f kvs) (S:Os c om ho hb hg off gs) (G:Givn rows f told) (t:Tell gs (at' told)) {k:Nat} {o:Od} (h:at' told k=some o):g_counts c [.o ho,.int ((off:Int)+k)] om=some (.ok (.bl (XH told f k)),om):=by
 have e1:ZO 2 (Zq c.Orders "told" 2 (Yd c) (Za 0) (Zc (Za 1) Zk)) [some (.o ho),some (.int ((off:Int)+k)),none] om=some (.ok (.nx,[some (.o ho),some (.int ((off:Int)+k)),some (odG c off o)]),om) :=
  ZB (i:=2) ((Zy (Zb rfl) (Zz S.o) (Z8 _ _ _ (by decide) (by decide)) (Ze (Zb rfl) Zj) rfl).trans (My W S G t h))
 have t1:f2 kEq (f2 (WO c.STAND) (Za 2) (fC (.int 0))) (fC (.str "help")) [some (.o ho),some (.int ((off:Int)+k)),some (odG c off o)] om=some (.ok (.bl (decide (odN o="help"))),om):=(ZC ((ZC (Zb rfl) ZD).trans (Ii c off o _)) ZD).trans (Lg _ _ (Ka o) SI _)
 refine ZH ((Zh e1).trans (Zv ?_)) (sl1:=[some (.o ho),some (.int ((off:Int)+k)),some (odG c off o)])
 unfold XH
 rw[h]
 match o,h with
 |.stand,h=>exact U4 t1
 |.move g,h=>exact U4 t1
 |.help q g,h =>
  have hq:=(G.okT.hl k q g h)
  obtain ⟨o2,e2⟩:=Option.isSome_iff_exists.mp ((G.same q).trans hq.2.2.2.2)
  have ic:=Jf W S G t h
  have ei:G2 told f k=MF told f k g:=by unfold G2; rw[h]
  rw[ei]at ic
  refine ((U2 t1).trans (OJ (a:=if q=g then !Xg (at' told q) else decide (at' told q=some (.move g))) (b:=!MF told f k g) ((ZI (Ze (Zb rfl) (Ze ((ZC (Zb rfl) ZD).trans (ET c off q g _)) (Ze ((ZC (Zb rfl) ZD).trans (Eo c off q g _)) Zj)))).trans ((YF rfl).trans (Ff S t e2))) fun _=>?_)).trans ?_
  ·refine (VC ((ZI (Ze (Zb rfl) (Ze (Zb rfl) Zj))).trans ((YF rfl).trans ic))).trans ?_
   rfl
  ·rw[Bool.and_comm]
end
open PySem L2
def WC (told:List (Option Od)) (f:List (Option Int)) (h k:Nat):Bool:=match at' told h with
 |some (.help q _)=>decide (q=k)&&XH told f h
 |_=>false
def Z2 (f:List (Option Int)) (n:Nat):List Nat:=(List.range n).filter fun h=>(at' f h).isSome
theorem Hw (off:Nat) (f:List (Option Int)) (n:Nat):Ut off f n=(Z2 f n).map fun (h:Nat)=>((off:Int)+h,(at' f h).getD 0):=by
 unfold Ut Z2
 generalize List.range n=l
 induction l with
 |nil=>rfl
 |cons h l ih =>
  rw[List.filterMap_cons,List.filter_cons]
  cases hh:at' f h with
  |none=>simpa using ih
  |some s =>
   simp only[Option.map_some,Option.isSome_some,if_true,List.map_cons,hh,Option.getD_some]
   rw[ih]
theorem TY {α:Type} (p:α->Bool):∀(l:List α) (a:Int),l.foldl (fun a h=>bif p h then a+1 else a) a=a+(l.filter p).length
 |[],a=>by simp
 |h::l,a=>by
  rw[List.foldl_cons,TY p l,List.filter_cons]
  cases p h with
  |false=>simp
  |true=>simp; omega
section
variable {c:CA} {om:List Ob} {ho hb hm hu hl hg size off:Nat} {f:List (Option Int)} {kvs:List (List Key × Wv)} {gs:Gs} {rows:Mx} {told:List (Option Od)}
def VV (told:List (Option Od)) (f:List (Option Int)) (k:Nat):List Nat:=(Z2 f f.length).filter fun h=>WC told f h k
theorem K4 (G:Givn rows f told) {h k:Nat} (e:WC told f h k=true):∃s,at' f h=some s:=by
 unfold WC at e
 have q:=G.same h
 match ho2:at' told h,e with
 |some (.help a b),_=>rw[ho2]at q; exact Option.isSome_iff_exists.mp q.symm
theorem NP (G:Givn rows f told) (k:Nat):VV told f k=(List.range f.length).filter fun h=>WC told f h k:=by
 unfold VV Z2
 rw[List.filter_filter]
 refine List.filter_congr fun h _=>?_
 cases e:WC told f h k with
 |false=>simp
 |true =>
  obtain ⟨s,hs⟩:=K4 G e
  rw[hs]
  rfl
theorem Ke (h k goal:Nat) (e:at' told k=some (.move goal)):WC told f h k=(decide (at' told h=some (.help k goal))&&XH told f h):=by
 unfold WC XH
 match e2:at' told h with
 |none=>simp
 |some .stand=>simp
 |some (.move g)=>simp
 |some (.help q g) =>
  dsimp only
  by_cases hq:q=k
  ·subst hq
   rw[e]
   by_cases hg:q=g
   ·subst hg
    simp[Xg]
   ·by_cases hgg:goal=g
    ·subst hgg; simp[hg]
    ·rw[if_neg hg]
     have:¬ (some (Od.move goal)=some (Od.move g)):=fun z=>hgg (by cases z; rfl)
     rw[decide_eq_false this]
     simp
  ·have h1:¬ (some (Od.help q g)=some (Od.help k goal)):=fun z=>hq (by cases z; rfl)
   rw[decide_eq_false hq,decide_eq_false h1]
theorem Ed (h k:Nat) (e:Xg (at' told k)=false):WC told f h k=(decide (at' told h=some (.help k k))&&XH told f h):=by
 unfold WC XH
 match e2:at' told h with
 |none=>simp
 |some .stand=>simp
 |some (.move g)=>simp
 |some (.help q g) =>
  dsimp only
  by_cases hq:q=k
  ·subst hq
   by_cases hg:q=g
   ·subst hg; simp
   ·rw[if_neg hg]
    have h2:¬ (at' told q=some (.move g)):=fun z=>by rw[z]at e; cases e
    have h1:¬ (some (Od.help q g)=some (Od.help q q)):=fun z=>hg (by cases z; rfl)
    rw[decide_eq_false h1,decide_eq_false h2]
    simp
  ·have h1:¬ (some (Od.help q g)=some (Od.help k k)):=fun z=>hq (by cases z; rfl)
   rw[decide_eq_false hq,decide_eq_false h1]
theorem Rn (G:Givn rows f told) (k goal:Nat) (sd:Option Int) (p:Nat->Bool) (hp:∀h,h < f.length->Lq told f k goal sd h=p h):Xr told f k goal sd=1+((List.range f.length).filter p).length:=by
 unfold Xr
 rw[TY,G.len]
 congr 3
 exact List.filter_congr fun h hh=>hp h (List.mem_range.mp hh)
theorem TR (G:Givn rows f told) (hs7:∀k s,at' f k=some s->0<=s∧s<=7) {k goal:Nat} (hb:∀h,WC told f h k=(decide (at' told h=some (.help k goal))&&XH told f h)):Xr told f k goal (some (-1))=1+(VV told f k).length:=by
 rw[NP G]
 refine Rn G k goal _ _ fun h hh=>?_
 rw[hb h]
 unfold Lq
 cases e:decide (at' told h=some (.help k goal)) with
 |false=>rfl
 |true =>
  have e:=of_decide_eq_true e
  have q:=G.same h
  rw[e]at q
  obtain ⟨s,hs⟩:=Option.isSome_iff_exists.mp q.symm
  have:=hs7 h s hs
  rw[hs,decide_eq_false (fun z=>by cases z; omega)]
  simp
theorem NN (G:Givn rows f told) {k goal:Nat} (sd:Int) (hb:∀h,WC told f h k=(decide (at' told h=some (.help k goal))&&XH told f h)):Xr told f k goal (some sd)=1+((VV told f k).filter fun h=>!decide ((at' f h).getD 0=sd)).length:=by
 rw[NP G,List.filter_filter]
 refine Rn G k goal _ _ fun h hh=>?_
 rw[hb h]
 unfold Lq
 cases e:decide (at' told h=some (.help k goal)) with
 |false=>simp
 |true =>
  have e:=of_decide_eq_true e
  have q:=G.same h
  rw[e]at q
  obtain ⟨s,hs⟩:=Option.isSome_iff_exists.mp q.symm
  rw[hs]
  by_cases hh:s=sd
  ·subst hh; simp
  ·rw[decide_eq_false (fun z=>hh (by cases z; rfl))]
   simp[hh]
theorem HG (W:Wd c om hb hm hu hl size off f kvs) (S:Os c om ho hb hg off gs) (G:Givn rows f told) (t:Tell gs (at' told)) {h k:Nat} {o:Od} (e:at' told h=some o):g_backs c [.o ho,.int ((off:Int)+h),.int ((off:Int)+k)] om=some (.ok (.bl (WC told f h k)),om):=by
 have e1:ZO 3 (Zq c.Orders "told" 2 (Yd c) (Za 0) (Zc (Za 1) Zk)) [some (.o ho),some (.int ((off:Int)+h)),some (.int ((off:Int)+k)),none] om=some (.ok (.nx,[some (.o ho),some (.int ((off:Int)+h)),some (.int ((off:Int)+k)),some (odG c off o)]),om) :=
  ZB (i:=3) ((Zy (Zb rfl) (Zz S.o) (Z8 _ _ _ (by decide) (by decide)) (Ze (Zb rfl) Zj) rfl).trans (My W S G t e))
 have t1:f2 kEq (f2 (WO c.STAND) (Za 3) (fC (.int 0))) (fC (.str "help")) [some (.o ho),some (.int ((off:Int)+h)),some (.int ((off:Int)+k)),some (odG c off o)] om=some (.ok (.bl (decide (odN o="help"))),om):=(ZC ((ZC (Zb rfl) ZD).trans (Ii c off o _)) ZD).trans (Lg _ _ (Ka o) SI _)
 refine ZH ((Zh e1).trans (Zv ?_)) (sl1:=[some (.o ho),some (.int ((off:Int)+h)),some (.int ((off:Int)+k)),some (odG c off o)])
 unfold WC
 rw[e]
 match o,e with
 |.stand,e=>exact U4 t1
 |.move g,e=>exact U4 t1
 |.help q g,e =>
  refine (U2 t1).trans (OJ (a:=decide (q=k)) ?_ fun _=>(ZI (Ze (Zb rfl) (Ze (Zb rfl) Zj))).trans ((YF rfl).trans (Jl W S G t e)))
  refine ((ZC ((ZC (Zb rfl) ZD).trans (ET c off q g _)) (Zb rfl)).trans (WH _ _ _)).trans ?_
  rw[RV]
theorem Hh (W:Wd c om hb hm hu hl size off f kvs):Z5 c [.o hb] om=some (.ok (.lst ((Z2 f f.length).map fun (h:Nat)=>Wv.tup [.int ((off:Int)+h),.int ((at' f h).getD 0)])),om):=by
 have h1:=W.fit
 have h2:=W.few
 have h3:=IF off f f.length
 obtain ⟨us,eu,pu⟩:=W.u
 have h4:=pu.length_eq
 rw[Fk c W.b eu (by omega),WX ((Yj us).trans (pu.trans (Yj _).symm)) (Xm us) (Xm _),MI (Sq off f f.length),Hw,List.map_map]
 rfl
theorem W1 (f:List (Option Int)) (n:Nat):(Z2 f n).length<=n:=by
 unfold Z2
 exact Nat.le_trans (List.length_filter_le _ _) (by simp)
theorem Uk (W:Wd c om hb hm hu hl size off f kvs) (S:Os c om ho hb hg off gs) (G:Givn rows f told) (t:Tell gs (at' told)) (k:Nat):g_backing c [.o ho,.int ((off:Int)+k)] om=some (.ok (.lst ((VV told f k).map fun (h:Nat)=>Wv.int ((at' f h).getD 0))),om):=by
 have hlim:=ZW
 have h1:=W.fit
 have h2:=W.few
 have h3:=W1 f f.length
 have hfl:(VV told f k).length<=(Z2 f f.length).length:=List.length_filter_le _ _
 refine ZH (Zv ?_)
 unfold We
 refine (Zo (a:=(Z2 f f.length).map fun (h:Nat)=>Wv.tup [.int ((off:Int)+h),.int ((at' f h).getD 0)]) (om1:=om) ((Zo ((Zy (Wf S rfl) (Zz W.b) (Yt _ _ _ (by decide) (by decide)) Zj rfl).trans (Hh W))).trans rfl)).trans ?_
 refine (Zo (a:=()) (om1:=om) (Gc ?_)).trans ?_
 ·rw[decide_eq_true (by rw[List.length_map]; omega)]
  simp[Gp]
 refine (Zo (Yh (fun (h:Nat)=>Wv.tup [.int ((off:Int)+h),.int ((at' f h).getD 0)]) (fun h=>WC told f h k) (fun (h:Nat)=>Wv.int ((at' f h).getD 0)) (fun h hh=>?_) (fun h hh _=>Zb rfl))).trans ?_
 ·have hsome:=(List.mem_filter.mp hh).2
  obtain ⟨o,ho2⟩:=Option.isSome_iff_exists.mp ((G.same h).trans hsome)
  exact W3 ((ZI (Ze (Zb rfl) (Ze (Zb rfl) (Ze (Zb rfl) Zj)))).trans ((YF rfl).trans (HG W S G t ho2)))
 ·show ZQ ((VV told f k).map fun (h:Nat)=>Wv.int ((at' f h).getD 0)) om=_
  unfold ZQ
  rw[if_pos (by rw[List.length_map]; omega)]
  rfl
theorem Lc {α:Type} {φ:α->Wv} {l:List α} {fe:FE} {sl:Sl} (h:fe sl om=some (.ok (.lst (l.map φ)),om)):f2 XD (fC (.int 1)) (fA UM (Zc fe Zk)) sl om=some (.ok (.int (1+l.length)),om):=by
 refine (ZC ZD ((ZI (Ze h Zj)).trans (Qd rfl))).trans ?_
 rw[List.length_map]
 rfl
def Ux (told:List (Option Od)) (f:List (Option Int)) (k:Nat) (sd:Int):Int:=match at' told k with
 |some (.move g)=>Xr told f k g (some sd)
 |_=>0
theorem La (S:Os c om ho hb hg off gs) (t:Tell gs (at' told)) {k:Nat} {o:Od} (e:at' told k=some o) {sl:Sl} (s0:sl[0]?=some (some (.o ho))) (s1:sl[1]?=some (some (.int ((off:Int)+k)))):Zq c.Orders "goal_of" 2 (Zl c) (Za 0) (Zc (Za 1) Zk) sl om=some (.ok (Vu off o),om):=(Zy (Zb s0) (Zz S.o) (Z8 _ _ _ (by decide) (by decide)) (Ze (Zb s1) Zj) rfl).trans (OB S t e)
theorem I0 (W:Wd c om hb hm hu hl size off f kvs) (S:Os c om ho hb hg off gs) (G:Givn rows f told) (t:Tell gs (at' told)) (hs7:∀k s,at' f k=some s->0<=s∧s<=7) {k:Nat} {o:Od} (e:at' told k=some o):g_force c [.o ho,.int ((off:Int)+k)] om=some (.ok (.int (Ux told f k (-1))),om):=by
 have t1:fB (f1 U3 (Zq c.Orders "goal_of" 2 (Zl c) (Za 0) (Zc (Za 1) Zk))) [some (.o ho),some (.int ((off:Int)+k))] om=some (.ok (!Xg (some o)),om):=Z9 ((VC (La S t e rfl rfl)).trans (RA _ _ _))
 unfold Ux
 rw[e]
 match o,e with
 |.stand,e=>exact ZH (YI ((Y1 t1).trans (Zv ZD)))
 |.help a b,e=>exact ZH (YI ((Y1 t1).trans (Zv ZD)))
 |.move g,e =>
  dsimp only
  rw[TR G hs7 (fun h=>Ke h k g e)]
  exact ZH ((Zh (Z3 t1)).trans (Zv (Lc ((ZI (Ze (Zb rfl) (Ze (Zb rfl) Zj))).trans ((YF rfl).trans (Uk W S G t k))))))
theorem Lr (W:Wd c om hb hm hu hl size off f kvs) (S:Os c om ho hb hg off gs) (G:Givn rows f told) (t:Tell gs (at' told)) {k:Nat} {o:Od} (e:at' told k=some o) (sd:Int):g_force_against c [.o ho,.int ((off:Int)+k),.int sd] om=some (.ok (.int (Ux told f k sd)),om):=by
 have hlim:=ZW
 have h1:=W.fit
 have h2:=W.few
 have h3:=W1 f f.length
 have hfl:(VV told f k).length<=(Z2 f f.length).length:=List.length_filter_le _ _
 have t1:fB (f1 U3 (Zq c.Orders "goal_of" 2 (Zl c) (Za 0) (Zc (Za 1) Zk))) [some (.o ho),some (.int ((off:Int)+k)),some (.int sd)] om=some (.ok (!Xg (some o)),om):=Z9 ((VC (La S t e rfl rfl)).trans (RA _ _ _))
 unfold Ux
 rw[e]
 match o,e with
 |.stand,e=>exact ZH (YI ((Y1 t1).trans (Zv ZD)))
 |.help a b,e=>exact ZH (YI ((Y1 t1).trans (Zv ZD)))
 |.move g,e =>
  dsimp only
  rw[NN G sd (fun h=>Ke h k g e)]
  have hfl2:=List.length_filter_le (fun h=>!decide ((at' f h).getD 0=sd)) (VV told f k)
  refine ZH ((Zh (Z3 t1)).trans (Zv (Lc (φ:=fun (h:Nat)=>Wv.int ((at' f h).getD 0)) ((Wg (ws:=(VV told f k).map fun (h:Nat)=>Wv.int ((at' f h).getD 0)) (om1:=om) ((Zo ((ZI (Ze (Zb rfl) (Ze (Zb rfl) Zj))).trans ((YF rfl).trans (Uk W S G t k)))).trans rfl) (by rw[List.length_map]; omega) (Yh (fun (h:Nat)=>Wv.int ((at' f h).getD 0)) (fun h=>!decide ((at' f h).getD 0=sd)) (fun (h:Nat)=>Wv.int ((at' f h).getD 0)) (fun h hh=>Z9 ((v2 rfl rfl).trans (PO _ _ _))) (fun h hh _=>Zb rfl))).trans ?_))))
  unfold ZQ
  rw[if_pos (by rw[List.length_map]; omega)]
  rfl
theorem NB (W:Wd c om hb hm hu hl size off f kvs) (S:Os c om ho hb hg off gs) (G:Givn rows f told) (t:Tell gs (at' told)) (hs7:∀k s,at' f k=some s->0<=s∧s<=7) {k:Nat} {o:Od} (e:at' told k=some o):g_firmness c [.o ho,.int ((off:Int)+k)] om=some (.ok (.int (N6 told f k)),om):=by
 have t1:fB (f1 T5 (Zq c.Orders "goal_of" 2 (Zl c) (Za 0) (Zc (Za 1) Zk))) [some (.o ho),some (.int ((off:Int)+k))] om=some (.ok (Xg (some o)),om):=Z9 ((VC (La S t e rfl rfl)).trans (O8 _ _ _))
 unfold N6
 rw[e]
 cases hmv:Xg (some o) with
 |true =>
  rw[hmv]at t1
  exact ZH (YI ((Y1 t1).trans (Zv ZD)))
 |false =>
  rw[hmv]at t1
  have hmv2:Xg (at' told k)=false:=by rw[e]; exact hmv
  show _=some (Except.ok (Wv.int (Xr told f k k (some (-1)))),om)
  rw[TR G hs7 (fun h=>Ed h k hmv2)]
  exact ZH ((Zh (Z3 t1)).trans (Zv (Lc ((ZI (Ze (Zb rfl) (Ze (Zb rfl) Zj))).trans ((YF rfl).trans (Uk W S G t k))))))
end
end MP
namespace MP
noncomputable section
open PySem L2
def Vj (c:CA):FS :=
 (YJ (fA (kN 2 (g_force c)) (Zc (Za 0) (Zc (Za 2) Zk))) (Za 1) (Za 2))
def S6 (c:CA):FS :=
 (ZE (ZO 1 (fun _=>newO (.dk [])))
  (ZE (Tc (fun sl=>bnd ((Zq c.Orders "movers" 1 (ZJ c) (Za 0) Zk) sl) ZL) (tgN 2) (Vj c))
  (Ym (Za 1))))
def g_weigh_movers (c:CA):List Wv->Mw Wv:=Yl 3 (S6 c)
def VW (c:CA):FT :=
 (UZ (fB (f2 kNe (Za 0) (Za 2))) (fB (f2 kEq (Zq c.Orders "goal_of" 2 (Zl c) (Za 1) (Zc (Za 0) Zk)) (Za 3))))
def VX (c:CA):FE :=
 (Za 0)
def V6 (c:CA):FE :=
 (f2 kGe (f2 Xu (Za 1) (Za 0)) (f2 Xu (Za 1) (Za 2)))
def P7 (c:CA):FS :=
 (ZE (ZO 3 (Zq c.Orders "goal_of" 2 (Zl c) (Za 0) (Zc (Za 2) Zk)))
  (ZE (ZO 4 (Wb ZQ [0,2,3] (Za 1) (VW c) (VX c)))
  (Ym (fA Gy (Zc (Yc ZQ [1,2] (fun sl=>bnd ((Za 4) sl) ZL) XC (V6 c)) Zk)))))
def g_is_outdone (c:CA):List Wv->Mw Wv:=Yl 5 (P7 c)
def O9 (c:CA):FS :=
 (ZE (ZO 4 (Zq c.Board "side_at" 2 (ZG c) (f1 (ZU c.Orders "board") (Za 0)) (Zc (Za 2) Zk)))
  (Ym (X7 (f2 kNe (Za 4) (Zq c.Board "side_at" 2 (ZG c) (f1 (ZU c.Orders "board") (Za 0)) (Zc (Za 1) Zk))) (f2 kGt (fA (kN 3 (g_force_against c)) (Zc (Za 0) (Zc (Za 1) (Zc (Za 4) Zk)))) (Za 3)))))
def g_overcomes (c:CA):List Wv->Mw Wv:=Yl 5 (O9 c)
def NF (c:CA):FS :=
 (ZE (ZO 3 (Zq c.Orders "goal_of" 2 (Zl c) (Za 0) (Zc (Za 2) Zk)))
  (ZE (sIf (WZ (fA (kN 3 (g_is_outdone c)) (Zc (Za 0) (Zc (Za 1) (Zc (Za 2) Zk))))) (Ym (fC (.int 1))) Y8)
  (ZE (sIf (fB (f1 U3 (Zq c.Board "side_at" 2 (ZG c) (f1 (ZU c.Orders "board") (Za 0)) (Zc (Za 3) Zk)))) (Ym (fC (.int 0))) Y8)
  (ZE (sIf (fB (f2 kEq (Zq c.Orders "goal_of" 2 (Zl c) (Za 0) (Zc (Za 3) Zk)) (Za 2))) (Ym (IW (WZ (fA (kN 4 (g_overcomes c)) (Zc (Za 0) (Zc (Za 2) (Zc (Za 3) (Zc (f2 Xu (Za 1) (Za 3)) Zk)))))) (fC (.int 0)) (fC (.int 2)))) Y8)
  (Ym (IW (WZ (fA (kN 4 (g_overcomes c)) (Zc (Za 0) (Zc (Za 2) (Zc (Za 3) (Zc (fA (kN 2 (g_firmness c)) (Zc (Za 0) (Zc (Za 3) Zk))) Zk)))))) (fC (.int 0)) (fC (.int 3))))))))
def g_hindrance (c:CA):List Wv->Mw Wv:=Yl 4 (NF c)
def WF (c:CA):FS :=
 (YJ (fA (kN 3 (g_hindrance c)) (Zc (Za 0) (Zc (Za 1) (Zc (Za 3) Zk)))) (Za 2) (Za 3))
def PN (c:CA):FS :=
 (ZE (ZO 1 (fA (kN 1 (g_weigh_movers c)) (Zc (Za 0) Zk)))
  (ZE (ZO 2 (fun _=>newO (.dk [])))
  (ZE (LA (Za 1) (tgN 3) (WF c))
  (Ym (Za 2)))))
def g_hindrances (c:CA):List Wv->Mw Wv:=Yl 4 (PN c)
def F5 (c:CA):FS :=
 (ZE (sIf (UZ (fB (f2 kEq (f2 Xu (Za 1) (Za 2)) (fC (.int 3)))) (fB (f2 (OG false) (Zq c.Orders "goal_of" 2 (Zl c) (Za 0) (Zc (Za 2) Zk)) (Za 3)))) (Ym (fC (.int 0))) Y8)
  (Ym (f2 Xu (Za 1) (Za 2))))
def g_fault (c:CA):List Wv->Mw Wv:=Yl 4 (F5 c)
def Rk (c:CA):FE :=
 (fA VR (Zc (Za 4) (Zc (Za 0) (Zc (fA (kN 4 (g_fault c)) (Zc (Za 1) (Zc (Za 2) (Zc (Za 0) (Zc (Za 3) Zk))))) Zk))))
def SN (c:CA):FT :=
 (fB (f2 kNe (f2 kIx (Za 0) (fC (.int 2))) (fC (.int 0))))
def RD (c:CA):FE :=
 (Za 0)
def Rh (c:CA):FT :=
 (fB (f2 kEq (f2 kIx (Za 0) (fC (.int 2))) (fC (.int 0))))
def Ri (c:CA):FE :=
 (f2 kIx (Za 0) (fC (.int 1)))
def Xy (c:CA):FS :=
 (ZE (ZO 5 (Yc ZQ [0,1,2,4] (fun sl=>bnd ((Za 2) sl) ZL) XC (Rk c)))
  (ZE (ZO 6 (Yc ZQ [] (fun sl=>bnd ((Za 5) sl) ZL) (SN c) (RD c)))
  (ZE (sIf (fB (f2 kEq (Za 6) (fA ZQ Zk))) (Ym (Za 3)) Y8)
  (ZE (Yg (Gv (Za 3) (Za 6)))
  (ZE (ZO 2 (Yc ZQ [] (fun sl=>bnd ((Za 5) sl) ZL) (Rh c) (Ri c)))
  (ZO 4 (f2 XD (Za 4) (fC (.int 1)))))))))
def JH (c:CA):FS :=
 (ZE (ZO 1 (fA (kN 1 (g_hindrances c)) (Zc (Za 0) Zk)))
  (ZE (ZO 2 (Zq c.Orders "movers" 1 (ZJ c) (Za 0) Zk))
  (ZE (ZO 3 (fA Vg Zk))
  (ZE (ZO 4 (fC (.int 1)))
  (WI (WZ (fC (.bl true))) (Xy c) 100)))))
def g_strikes (c:CA):List Wv->Mw Wv:=Yl 7 (JH c)
def YO (c:CA):List Wv->Mw Wv:=tidyG (g_strikes c)
def Rx (c:CA):FE :=
 (f2 kIx (Za 0) (fC (.int 1)))
def Lu (c:CA):FT :=
 (fB (f2 (OG true) (Za 0) (Za 1)))
def MQ (c:CA):FE :=
 (Za 0)
def KD (c:CA):FS :=
 (ZE (ZO 1 (Yc ZQ [] (fun sl=>bnd ((fA (kN 1 (YO c)) (Zc (Za 0) Zk)) sl) ZL) XC (Rx c)))
  (Ym (Yc ZQ [1] (fun sl=>bnd ((Zq c.Orders "movers" 1 (ZJ c) (Za 0) Zk) sl) ZL) (Lu c) (MQ c))))
def g_settled (c:CA):List Wv->Mw Wv:=Yl 2 (KD c)
end
open PySem L2
def Z6 (off:Nat) (l:List Nat) (v:Nat->Int):List (Key × Wv):=l.map fun (k:Nat)=>(.inl ((off:Int)+k),.int (v k))
theorem SV (off:Nat) (l:List Nat) (v:Nat->Int):(Z6 off l v).length=l.length:=by simp[Z6]
theorem N2 {off:Nat} {v:Nat->Int} {k:Nat}:∀{l:List Nat},k∈l->WP (Z6 off l v) (.inl ((off:Int)+k))=some (.int (v k))
 |[],h=>nomatch h
 |j::l,h=>by
  unfold WP Z6
  rw[List.map_cons,List.find?_cons]
  dsimp only
  rw[OD]
  by_cases e:j=k
  ·subst e; simp
  ·rw[decide_eq_false e]
   rcases List.mem_cons.mp h with z|z
   ·exact absurd z.symm e
   ·exact N2 z
theorem Hq {off:Nat} {v:Nat->Int} {k:Nat} {l:List Nat} (h:k ∉ l):XX (Z6 off l v) (.inl ((off:Int)+k)) (.int (v k))=Z6 off (l++[k]) v:=by
 have e:((Z6 off l v).any fun kv=>decide (kv.1=(.inl ((off:Int)+k):Key)))=false:=by
  rw[List.any_eq_false]
  intro p hp
  obtain ⟨j,hj,rfl⟩:=List.mem_map.mp hp
  dsimp only
  rw[OD]
  have:j≠k:=fun z=>h (z ▸ hj)
  simp[this]
 unfold XX
 rw[e,if_neg Bool.false_ne_true]
 unfold Z6
 rw[List.map_append]
 rfl
theorem QW (off:Nat) (l:List Nat) (v:Nat->Int):((Z6 off l v).map fun p=>Uf p.1)=l.map fun (k:Nat)=>Wv.int ((off:Int)+k):=by
 unfold Z6
 rw[List.map_map]
 rfl
def mvL (told:List (Option Od)) (f:List (Option Int)):List Nat:=(List.range f.length).filter fun k=>Xg (at' told k)
theorem RQ (told:List (Option Od)) (f:List (Option Int)):(mvL told f).Nodup:=List.Nodup.sublist List.filter_sublist List.nodup_range
theorem Ws {told:List (Option Od)} {f:List (Option Int)} {k:Nat}:k∈mvL told f ↔ k < f.length∧∃g,at' told k=some (.move g):=by
 unfold mvL
 rw[List.mem_filter,List.mem_range]
 refine and_congr_right fun _=>?_
 match e:at' told k with
 |none=>simp[Xg]
 |some .stand=>simp[Xg]
 |some (.move g)=>simp[Xg]
 |some (.help a b)=>simp[Xg]
theorem Wr (told:List (Option Od)) (f:List (Option Int)):(mvL told f).length<=f.length:=Nat.le_trans (List.length_filter_le _ _) (by simp)
theorem WT {α:Type} {T:TgW} {S:FS} (φ:α->Wv) (J:List α->Sl->List Ob->Prop):∀(l pre:List α) {sl:Sl} {om:List Ob},(∀p a q,pre++l=p++a::q->∀sl om,J p sl om->∃sl1 sl2 om2,T (φ a) sl=some sl1∧S sl1 om=some (.ok (.nx,sl2),om2)∧J (p++[a]) sl2 om2)->J pre sl om->∃sl' om',WU T S (l.map φ) sl om=some (.ok (.nx,sl'),om')∧J (pre++l) sl' om'
 |[],pre,sl,om,_,j=>⟨sl,om,rfl,by rw[List.append_nil]; exact j⟩
 |a::l,pre,sl,om,h,j=>by
  obtain ⟨sl1,sl2,om2,e1,e2,j2⟩:=h pre a l rfl sl om j
  have ee:pre++[a]++l=pre++a::l:=by simp
  obtain ⟨sl',om',e3,j3⟩:=WT φ J l (pre++[a]) (fun p b q hq=>h p b q (by rw[← hq,ee])) j2
  refine ⟨sl',om',?_,by rw[← ee]; exact j3⟩
  rw[List.map_cons]
  show (match T (φ a) sl with|none=>XN|some sl1=>bnd (S sl1) (Sr fun sl2=>WU T S (l.map φ) sl2)) om=_
  rw[e1]
  dsimp only
  rw[Zo e2]
  exact e3
theorem JM {k:List Wv->Mw Wv} {js:List Nat} {fd:FE} {cT:FT} {fE:FE} {sl:Sl} {om:List Ob} {h:Nat} {kvs:List (Key × Wv)} {us:List Wv} (hd:fd sl om=some (.ok (.o h),om)) (hx:om[h]?=some (.dz kvs)) (hl:kvs.length<=lim) (hc:Xk cT fE (fun w=>Xa js w sl) (kvs.map fun p=>Uf p.1) om=some (.ok us,om)):Wb k js fd cT fE sl om=k us om:=by
 unfold Wb
 rw[Zo hd]
 refine (Zo (a:=(false,h,kvs.map fun p=>Uf p.1)) (om1:=om) (by simp[Lj,hx,hl])).trans ?_
 rw[Zo hc]
 exact (Zo (a:=()) (om1:=om) rfl).trans rfl
theorem Yq {ws:List Wv} {om:List Ob} (h:ws.length<=100):ZQ ws om=some (.ok (.lst ws),om):=by
 have:=ZW
 unfold ZQ
 rw[if_pos (by omega)]
 rfl
structure Sit (c:CA) (om:List Ob) (ho hb hm hu hl hg size off:Nat) (f:List (Option Int)) (kvs:List (List Key × Wv)) (gs:Gs) (rows:Mx) (told:List (Option Od)):Prop where
 W:Wd c om hb hm hu hl size off f kvs
 S:Os c om ho hb hg off gs
 G:Givn rows f told
 t:Tell gs (at' told)
 s7:∀k s,at' f k=some s->0<=s∧s<=7
section
variable {c:CA} {om:List Ob} {ho hb hm hu hl hg size off:Nat} {f:List (Option Int)} {kvs:List (List Key × Wv)} {gs:Gs} {rows:Mx} {told:List (Option Od)}
theorem Sit.grow (A:Sit c om ho hb hm hu hl hg size off f kvs gs rows told) (l:List Ob):Sit c (om++l) ho hb hm hu hl hg size off f kvs gs rows told:=⟨A.W.grow l,A.S.grow l,A.G,A.t,A.s7⟩
theorem Sit.few (A:Sit c om ho hb hm hu hl hg size off f kvs gs rows told):f.length<=60:=by have:=A.W.fit; have:=A.W.few; omega
theorem UW (A:Sit c om ho hb hm hu hl hg size off f kvs gs rows told):ZJ c [.o ho] om=some (.ok (.lst ((mvL told f).map fun (k:Nat)=>Wv.int ((off:Int)+k))),om):=Nh A.W A.S A.G A.t
theorem Tm (A:Sit c om ho hb hm hu hl hg size off f kvs gs rows told) {k:Nat} {o:Od} (e:at' told k=some o) {sl:Sl} {i j:Nat} (s0:sl[i]?=some (some (.o ho))) (s1:sl[j]?=some (some (.int ((off:Int)+k)))):Zq c.Orders "goal_of" 2 (Zl c) (Za i) (Zc (Za j) Zk) sl om=some (.ok (Vu off o),om):=(Zy (Zb s0) (Zz A.S.o) (Z8 _ _ _ (by decide) (by decide)) (Ze (Zb s1) Zj) rfl).trans (OB A.S A.t e)
theorem MR (A:Sit c om ho hb hm hu hl hg size off f kvs gs rows told) {k:Nat} (hk:k < f.length) {sl:Sl} {i j:Nat} (s0:sl[i]?=some (some (.o ho))) (s1:sl[j]?=some (some (.int ((off:Int)+k)))):Zq c.Board "side_at" 2 (ZG c) (f1 (ZU c.Orders "board") (Za i)) (Zc (Za j) Zk) sl om=some (.ok (XU (at' f k)),om):=(Zy (Wf A.S s0) (Zz A.W.b) (Yt _ _ _ (by decide) (by decide)) (Ze (Zb s1) Zj) rfl).trans (PB A.W hk)
abbrev fN (told:List (Option Od)) (f:List (Option Int)) (k:Nat):Int:=Ux told f k (-1)
theorem Pp {om:List Ob} {l:List Nat} {v:Nat->Int} {k:Nat} {sl:Sl} {fv:FE} {i j:Nat} (n:Nat) (om0:List Ob) (hom:om=om0++[.dk (Z6 off l v)]) (hn:n=om0.length) (hv:fv sl om=some (.ok (.int (v k)),om)) (hi:sl[i]?=some (some (.o n))) (hj:sl[j]?=some (some (.int ((off:Int)+k)))) (hk:k ∉ l) (hlen:l.length<=60) :
    YJ fv (Za i) (Za j) sl om=some (.ok (.nx,sl),om0++[.dk (Z6 off (l++[k]) v)]):=by
 have hlim:=ZW
 subst hom hn
 unfold YJ
 rw[Zo hv,Zo (Zb hi),Zo (Zb hj)]
 refine (Zo (a:=()) (om1:=om0++[.dk (Z6 off (l++[k]) v)]) ?_).trans rfl
 have h1:(Z6 off l v).length < lim:=by rw[SV]; omega
 have h2:(om0++[Ob.dk (Z6 off l v)])[om0.length]?=some (.dk (Z6 off l v)):=by simp
 have h3:(om0++[Ob.dk (Z6 off l v)]).set om0.length (.dk (Z6 off (l++[k]) v))=om0++[.dk (Z6 off (l++[k]) v)]:=by
  rw[List.set_append_right _ _ (Nat.le_refl _),Nat.sub_self]; rfl
 simp only[RG,Qk,h2,YE]
 rw[if_pos h1,Hq hk,h3]
theorem JU (A:Sit c om ho hb hm hu hl hg size off f kvs gs rows told):g_weigh_movers c [.o ho] om=some (.ok (.o om.length),om++[.dk (Z6 off (mvL told f) (fN told f))]):=by
 have hlim:=ZW
 have hfew:=A.few
 have hml:=Wr told f
 have e1:ZO 1 (fun _=>newO (.dk [])) [some (.o ho),none,none] om=some (.ok (.nx,[some (.o ho),some (.o om.length),none]),om++[.dk []]):=ZB (i:=1) rfl
 have A1:=A.grow [.dk []]
 obtain ⟨sl',om',ef,ho',x,rfl⟩:=WT (T:=tgN 2) (S:=Vj c) (fun (k:Nat)=>Wv.int ((off:Int)+k)) (fun p sl om'=>om'=om++[.dk (Z6 off p (fN told f))]∧∃x,sl=[some (.o ho),some (.o om.length),x]) (mvL told f) [] (sl:=[some (.o ho),some (.o om.length),none]) (om:=om++[.dk []]) (fun p a q hq sl om' ⟨h1,x,h2⟩=>by
  subst h2
  have hq:mvL told f=p++a::q:=hq
  have ha:a∈mvL told f:=by rw[hq]; simp
  obtain ⟨_,g,hg'⟩:=Ws.mp ha
  have nd:=RQ told f
  rw[hq]at nd
  have hap:a ∉ p:=fun hp=>(List.nodup_append.mp nd).2.2 a hp a (.head _) rfl
  have hpl:p.length<=60:=by
   have:p.length<=(mvL told f).length:=by rw[hq]; simp
   omega
  have A2:Sit c om' ho hb hm hu hl hg size off f kvs gs rows told:=by rw[h1]; exact A.grow _
  refine ⟨[some (.o ho),some (.o om.length),some (.int ((off:Int)+a))],_,_,rfl,Pp (i:=1) (j:=2) (k:=a) om.length om h1 rfl ((ZI (Ze (Zb rfl) (Ze (Zb rfl) Zj))).trans ((YF rfl).trans (I0 A2.W A2.S A2.G A2.t A2.s7 hg'))) rfl rfl hap hpl,rfl,_,rfl⟩) ⟨rfl,_,rfl⟩
 have e2:=X1 (sl1:=[]) (fi:=fun sl=>bnd ((Zq c.Orders "movers" 1 (ZJ c) (Za 0) Zk) sl) ZL) (sl:=[some (.o ho),some (.o om.length),none]) ((Zo ((Zy (Zb rfl) (Zz A1.S.o) (Z8 _ _ _ (by decide) (by decide)) Zj rfl).trans (UW A1))).trans rfl) ef
 rw[ho']at e2
 exact ZH ((Zh e1).trans ((Zh e2).trans (Zv (Zb rfl))))
def MW (told:List (Option Od)) (f:List (Option Int)) (k g:Nat):Bool:=((mvL told f).filter fun m=>!decide (m=k)&&decide (at' told m=some (.move g))).any fun m=>decide (fN told f k<=fN told f m)
theorem OO {h:Nat} {l:List Nat} {v:Nat->Int} (hx:om[h]?=some (.dk (Z6 off l v))∨om[h]?=some (.dz (Z6 off l v))) {k:Nat} (hk:k∈l) {sl:Sl} {i j:Nat} (hi:sl[i]?=some (some (.o h))) (hj:sl[j]?=some (some (.int ((off:Int)+k)))):f2 Xu (Za i) (Za j) sl om=some (.ok (.int (v k)),om):=by
 refine (v2 hi hj).trans ?_
 have e:=N2 (off:=off) (v:=v) hk
 rcases hx with hx|hx
 ·simp only[Xu,XB,hx,YE,e]
 ·simp only[Xu,XB,hx,YE,e]
theorem Mu (A:Sit c om ho hb hm hu hl hg size off f kvs gs rows told) {hF k g:Nat} (hx:om[hF]?=some (.dz (Z6 off (mvL told f) (fN told f)))) (e:at' told k=some (.move g)) (hk:k < f.length):g_is_outdone c [.o ho,.o hF,.int ((off:Int)+k)] om=some (.ok (.bl (MW told f k g)),om):=by
 have hlim:=ZW
 have hfew:=A.few
 have hml:=Wr told f
 have hkm:k∈mvL told f:=Ws.mpr ⟨hk,g,e⟩
 have e1:ZO 3 (Zq c.Orders "goal_of" 2 (Zl c) (Za 0) (Zc (Za 2) Zk)) [some (.o ho),some (.o hF),some (.int ((off:Int)+k)),none,none] om=some (.ok (.nx,[some (.o ho),some (.o hF),some (.int ((off:Int)+k)),some (.int ((off:Int)+g)),none]),om):=ZB (i:=3) (Tm A e rfl rfl)
 generalize hp:(fun m=>!decide (m=k)&&decide (at' told m=some (.move g)))=p
 have hfl:=List.length_filter_le p (mvL told f)
 have e2:ZO 4 (Wb ZQ [0,2,3] (Za 1) (VW c) (VX c)) [some (.o ho),some (.o hF),some (.int ((off:Int)+k)),some (.int ((off:Int)+g)),none] om=some (.ok (.nx,[some (.o ho),some (.o hF),some (.int ((off:Int)+k)),some (.int ((off:Int)+g)),some (.lst (((mvL told f).filter p).map fun (m:Nat)=>Wv.int ((off:Int)+m)))]),om):=by
  refine ZB (i:=4) ((JM (us:=((mvL told f).filter p).map fun (m:Nat)=>Wv.int ((off:Int)+m)) (Zb rfl) hx (by rw[SV]; omega) ?_).trans (Yq (by rw[List.length_map]; omega)))
  rw[QW]
  refine Yh (fun (m:Nat)=>Wv.int ((off:Int)+m)) p (fun (m:Nat)=>Wv.int ((off:Int)+m)) (fun m hm=>?_) (fun m hm _=>Zb rfl)
  obtain ⟨hm1,g',hm2⟩:=Ws.mp hm
  rw[← hp]
  refine R8 (Z9 ((v2 rfl rfl).trans ((PO _ _ _).trans (by rw[RV])))) fun _=>Z9 ((ZC (Tm A hm2 rfl rfl) (Zb rfl)).trans ((SF _ _ _ _).trans ?_))
  rw[hm2]
  simp
 have e3:Yc ZQ [1,2] (fun sl=>bnd ((Za 4) sl) ZL) XC (V6 c) [some (.o ho),some (.o hF),some (.int ((off:Int)+k)),some (.int ((off:Int)+g)),some (.lst (((mvL told f).filter p).map fun (m:Nat)=>Wv.int ((off:Int)+m)))] om=some (.ok (.lst (((mvL told f).filter p).map fun m=>Wv.bl (decide (fN told f k<=fN told f m)))),om):=by
  refine (Wg (ws:=((mvL told f).filter p).map fun (m:Nat)=>Wv.int ((off:Int)+m)) (om1:=om) ((Zo (a:=.lst (((mvL told f).filter p).map fun (m:Nat)=>Wv.int ((off:Int)+m))) (om1:=om) (Zb rfl)).trans rfl) (by rw[List.length_map]; omega) (Yh (fun (m:Nat)=>Wv.int ((off:Int)+m)) (fun _=>true) (fun m=>Wv.bl (decide (fN told f k<=fN told f m))) (fun m hm=>rfl) (fun m hm _=>?_))).trans ?_
  ·have hmm:=(List.mem_filter.mp hm).1
   exact (ZC (OO (.inr hx) hmm rfl rfl) (OO (.inr hx) hkm rfl rfl)).trans rfl
  ·rw[List.filter_eq_self.mpr (fun _ _=>rfl)]
   exact Yq (by rw[List.length_map]; omega)
 refine ZH ((Zh e1).trans ((Zh e2).trans (Zv ((ZI (Ze e3 Zj)).trans ?_))))
 show (match WL (((mvL told f).filter p).map fun m=>Wv.bl (decide (fN told f k<=fN told f m))) with|some bs=>some (Except.ok (Wv.bl (bs.any id)),om)|none=>none)=_
 rw[Uj]
 show some (Except.ok (Wv.bl ((((mvL told f).filter p).map fun m=>decide (fN told f k<=fN told f m)).any id)),om)=_
 unfold MW
 rw[List.any_map,hp]
 rfl
def Q4 (told:List (Option Od)) (f:List (Option Int)) (k g:Nat) (st:Int):Bool:=!decide (at' f g=at' f k)&&decide (st < Xr told f k g (at' f g))
theorem GN (A:Sit c om ho hb hm hu hl hg size off f kvs gs rows told) {k g:Nat} {s:Int} (e:at' told k=some (.move g)) (hk:k < f.length) (hgs:at' f g=some s) (st:Int):g_overcomes c [.o ho,.int ((off:Int)+k),.int ((off:Int)+g),.int st] om=some (.ok (.bl (Q4 told f k g st)),om):=by
 have e1:ZO 4 (Zq c.Board "side_at" 2 (ZG c) (f1 (ZU c.Orders "board") (Za 0)) (Zc (Za 2) Zk)) [some (.o ho),some (.int ((off:Int)+k)),some (.int ((off:Int)+g)),some (.int st),none] om=some (.ok (.nx,[some (.o ho),some (.int ((off:Int)+k)),some (.int ((off:Int)+g)),some (.int st),some (.int s)]),om):=by
  have q:=MR A (N5 hgs) (sl:=[some (.o ho),some (.int ((off:Int)+k)),some (.int ((off:Int)+g)),some (.int st),none]) (i:=0) (j:=2) rfl rfl
  rw[hgs]at q
  exact ZB (i:=4) q
 refine ZH ((Zh e1).trans (Zv ?_)) (sl1:=[some (.o ho),some (.int ((off:Int)+k)),some (.int ((off:Int)+g)),some (.int st),some (.int s)])
 unfold Q4
 rw[hgs]
 refine OJ ((ZC (Zb rfl) (MR A hk rfl rfl)).trans (Nb (some s) (at' f k) om)) fun _=>?_
 have ag:=Lr A.W A.S A.G A.t e s
 rw[show Ux told f k s=Xr told f k g (some s) by unfold Ux; rw[e]]at ag
 exact (ZC ((ZI (Ze (Zb rfl) (Ze (Zb rfl) (Ze (Zb rfl) Zj)))).trans ((YF rfl).trans ag)) (Zb rfl)).trans rfl
def Vk (told:List (Option Od)) (f:List (Option Int)) (k g:Nat):Int :=
 bif MW told f k g then 1
 else bif (at' f g).isNone then 0
 else bif decide (at' told g=some (.move k)) then (bif Q4 told f k g (fN told f g) then 0 else 2)
 else (bif Q4 told f k g (N6 told f g) then 0 else 3)
theorem E7 {cT:FT} {a b:FE} {sl:Sl} {x:Bool} {m n:Int} (h:cT sl om=some (.ok x,om)) (ha:a sl om=some (.ok (.int m),om)) (hb:b sl om=some (.ok (.int n),om)):IW cT a b sl om=some (.ok (.int (bif x then m else n)),om):=by
 unfold IW
 rw[Zo h]
 cases x with
 |true=>rw[if_pos rfl]; exact ha
 |false=>rw[if_neg Bool.false_ne_true]; exact hb
theorem G9 (A:Sit c om ho hb hm hu hl hg size off f kvs gs rows told) {hF k g:Nat} (hx:om[hF]?=some (.dz (Z6 off (mvL told f) (fN told f)))) (e:at' told k=some (.move g)):g_hindrance c [.o ho,.o hF,.int ((off:Int)+k)] om=some (.ok (.int (Vk told f k g)),om):=by
 have hk:k < f.length:=A.G.same.lt k _ e
 have hgl:g < f.length:=by have:=(A.G.okT.mv k g e).1; rw[A.G.len]at this; exact this
 have e1:ZO 3 (Zq c.Orders "goal_of" 2 (Zl c) (Za 0) (Zc (Za 2) Zk)) [some (.o ho),some (.o hF),some (.int ((off:Int)+k)),none] om=some (.ok (.nx,[some (.o ho),some (.o hF),some (.int ((off:Int)+k)),some (.int ((off:Int)+g))]),om):=ZB (i:=3) (Tm A e rfl rfl)
 have t1:WZ (fA (kN 3 (g_is_outdone c)) (Zc (Za 0) (Zc (Za 1) (Zc (Za 2) Zk)))) [some (.o ho),some (.o hF),some (.int ((off:Int)+k)),some (.int ((off:Int)+g))] om=some (.ok (MW told f k g),om):=W3 ((ZI (Ze (Zb rfl) (Ze (Zb rfl) (Ze (Zb rfl) Zj)))).trans ((YF rfl).trans (Mu A hx e hk)))
 have t2:fB (f1 U3 (Zq c.Board "side_at" 2 (ZG c) (f1 (ZU c.Orders "board") (Za 0)) (Zc (Za 3) Zk))) [some (.o ho),some (.o hF),some (.int ((off:Int)+k)),some (.int ((off:Int)+g))] om=some (.ok (at' f g).isNone,om):=Z9 ((VC (MR A hgl rfl rfl)).trans (OW _ _))
 unfold Vk
 cases h1:MW told f k g with
 |true =>
  rw[h1]at t1
  exact ZH ((Zh e1).trans (YI ((Y1 t1).trans (Zv ZD))))
 |false =>
  rw[h1]at t1
  match h2:at' f g with
  |none =>
   rw[h2]at t2
   exact ZH ((Zh e1).trans ((Zh (Z3 t1)).trans (YI ((Y1 t2).trans (Zv ZD)))))
  |some s =>
   rw[h2]at t2
   obtain ⟨o,hto⟩:=Option.isSome_iff_exists.mp ((A.G.same g).trans (by rw[h2]; rfl))
   have t3:fB (f2 kEq (Zq c.Orders "goal_of" 2 (Zl c) (Za 0) (Zc (Za 3) Zk)) (Za 2)) [some (.o ho),some (.o hF),some (.int ((off:Int)+k)),some (.int ((off:Int)+g))] om=some (.ok (decide (at' told g=some (.move k))),om):=by
    refine Z9 ((ZC (Tm A hto rfl rfl) (Zb rfl)).trans ((SF _ _ _ _).trans ?_))
    rw[hto]
    simp
   have rest:∀(st:Int) (fe:FE),fe [some (.o ho),some (.o hF),some (.int ((off:Int)+k)),some (.int ((off:Int)+g))] om=some (.ok (.int st),om)->WZ (fA (kN 4 (g_overcomes c)) (Zc (Za 0) (Zc (Za 2) (Zc (Za 3) (Zc fe Zk))))) [some (.o ho),some (.o hF),some (.int ((off:Int)+k)),some (.int ((off:Int)+g))] om=some (.ok (Q4 told f k g st),om):=fun st fe he=>W3 ((ZI (Ze (Zb rfl) (Ze (Zb rfl) (Ze (Zb rfl) (Ze he Zj))))).trans ((YF rfl).trans (GN A e hk h2 st)))
   by_cases h3:at' told g=some (.move k)
   ·rw[decide_eq_true h3]at t3 ⊢
    have hgm:g∈mvL told f:=Ws.mpr ⟨hgl,k,h3⟩
    have q:=E7 (a:=fC (.int 0)) (b:=fC (.int 2)) (m:=0) (n:=2) (rest _ (f2 Xu (Za 1) (Za 3)) (OO (i:=1) (j:=3) (.inr hx) hgm rfl rfl)) ZD ZD
    exact ZH ((Zh e1).trans ((Zh (Z3 t1)).trans ((Zh (Z3 t2)).trans (YI ((Y1 t3).trans (Zv q))))))
   ·rw[decide_eq_false h3]at t3 ⊢
    have q:=E7 (a:=fC (.int 0)) (b:=fC (.int 3)) (m:=0) (n:=3) (rest _ (fA (kN 2 (g_firmness c)) (Zc (Za 0) (Zc (Za 3) Zk))) ((ZI (Ze (Zb rfl) (Ze (Zb rfl) Zj))).trans ((YF rfl).trans (NB A.W A.S A.G A.t A.s7 hto)))) ZD ZD
    exact ZH ((Zh e1).trans ((Zh (Z3 t1)).trans ((Zh (Z3 t2)).trans ((Zh (Z3 t3)).trans (Zv q)))))
def hN (told:List (Option Od)) (f:List (Option Int)) (k:Nat):Int:=match at' told k with
 |some (.move g)=>Vk told f k g
 |_=>0
theorem HE (A:Sit c om ho hb hm hu hl hg size off f kvs gs rows told):g_hindrances c [.o ho] om=some (.ok (.o (om.length+1)),om++[.dk (Z6 off (mvL told f) (fN told f)),.dk (Z6 off (mvL told f) (hN told f))]):=by
 have hlim:=ZW
 have hfew:=A.few
 have hml:=Wr told f
 generalize hD:Z6 off (mvL told f) (fN told f)=D
 have hDl:D.length<=lim:=by rw[← hD,SV]; omega
 have e1:ZO 1 (fA (kN 1 (g_weigh_movers c)) (Zc (Za 0) Zk)) [some (.o ho),none,none,none] om=some (.ok (.nx,[some (.o ho),some (.o om.length),none,none]),om++[.dk D]):=by
  rw[← hD]
  exact ZB (i:=1) ((ZI (Ze (Zb rfl) Zj)).trans ((YF rfl).trans (JU A)))
 have hl1:(om++[Ob.dk D]).length=om.length+1:=by simp
 have e2:ZO 2 (fun _=>newO (.dk [])) [some (.o ho),some (.o om.length),none,none] (om++[.dk D])=some (.ok (.nx,[some (.o ho),some (.o om.length),some (.o (om.length+1)),none]),om++[.dk D,.dk []]):=by
  refine (ZB (i:=2) (w:=.o (om++[Ob.dk D]).length) (om1:=om++[.dk D]++[.dk []]) rfl).trans ?_
  rw[hl1,List.append_assoc]
  rfl
 obtain ⟨sl',om',ef,ho',x,rfl⟩:=WT (T:=tgN 3) (S:=WF c) (fun (k:Nat)=>Wv.int ((off:Int)+k)) (fun p sl om'=>om'=om++[.dz D]++[.dk (Z6 off p (hN told f))]∧∃x,sl=[some (.o ho),some (.o om.length),some (.o (om.length+1)),x]) (mvL told f) [] (sl:=[some (.o ho),some (.o om.length),some (.o (om.length+1)),none]) (om:=om++[.dz D]++[.dk []]) (fun p a q hq sl om' ⟨h1,x,h2⟩=>by
  subst h2
  have hq:mvL told f=p++a::q:=hq
  have ha:a∈mvL told f:=by rw[hq]; simp
  obtain ⟨_,g,hg'⟩:=Ws.mp ha
  have nd:=RQ told f
  rw[hq]at nd
  have hap:a ∉ p:=fun hp=>(List.nodup_append.mp nd).2.2 a hp a (.head _) rfl
  have hpl:p.length<=60:=by
   have:p.length<=(mvL told f).length:=by rw[hq]; simp
   omega
  have A2:Sit c om' ho hb hm hu hl hg size off f kvs gs rows told:=by rw[h1,List.append_assoc]; exact A.grow _
  have hx:om'[om.length]?=some (.dz (Z6 off (mvL told f) (fN told f))):=by rw[h1,hD]; simp
  have hv:=G9 A2 hx hg'
  rw[show Vk told f a g=hN told f a by unfold hN; rw[hg']]at hv
  exact ⟨[some (.o ho),some (.o om.length),some (.o (om.length+1)),some (.int ((off:Int)+a))],_,_,rfl,Pp (i:=2) (j:=3) (k:=a) (om.length+1) (om++[.dz D]) h1 (by simp) ((ZI (Ze (Zb rfl) (Ze (Zb rfl) (Ze (Zb rfl) Zj)))).trans ((YF rfl).trans hv)) rfl rfl hap hpl,rfl,_,rfl⟩) ⟨rfl,_,rfl⟩
 have e3:LA (Za 1) (tgN 3) (WF c) [some (.o ho),some (.o om.length),some (.o (om.length+1)),none] (om++[.dk D,.dk []])=some (.ok (.nx,[some (.o ho),some (.o om.length),some (.o (om.length+1)),x]),om++[.dk D,.dk (Z6 off (mvL told f) (hN told f))]):=by
  unfold LA
  rw[Zo (Zb rfl)]
  have g0:(om++[Ob.dk D,.dk []])[om.length]?=some (.dk D):=by simp
  have g1:(om++[Ob.dk D,.dk []]).set om.length (.dz D)=om++[.dz D]++[.dk []]:=by
   rw[List.set_append_right _ _ (Nat.le_refl _),Nat.sub_self,List.append_assoc]; rfl
  refine (Zo (a:=(true,om.length,D.map fun p=>Uf p.1)) (om1:=om++[.dz D]++[.dk []]) (by simp only[Lj,g0,if_pos hDl,g1])).trans ?_
  dsimp only
  have hk:(D.map fun p=>Uf p.1)=(mvL told f).map fun (k:Nat)=>Wv.int ((off:Int)+k):=by rw[← hD,QW]
  rw[hk]
  refine (Zo (a:=(.nx,[some (.o ho),some (.o om.length),some (.o (om.length+1)),x])) (om1:=om') (by unfold Z4; rw[ef])).trans ?_
  rw[ho']
  have g2:(om++[Ob.dz D]++[Ob.dk (Z6 off ([]++mvL told f) (hN told f))])[om.length]?=some (.dz D):=by simp
  have g3:(om++[Ob.dz D]++[Ob.dk (Z6 off ([]++mvL told f) (hN told f))]).set om.length (.dk D)=om++[.dk D,.dk (Z6 off (mvL told f) (hN told f))]:=by
   rw[List.append_assoc,List.set_append_right _ _ (Nat.le_refl _),Nat.sub_self]; rfl
  have g4:MK true om.length (om++[Ob.dz D]++[Ob.dk (Z6 off ([]++mvL told f) (hN told f))])=some (.ok (),om++[.dk D,.dk (Z6 off (mvL told f) (hN told f))]):=by
   unfold MK
   rw[if_pos rfl,g2]
   dsimp only
   rw[g3]
  exact (Zo g4).trans rfl
 exact ZH ((Zh e1).trans ((Zh e2).trans ((Zh e3).trans (Zv (Zb rfl)))))
end
open PySem L2
theorem NK (off a:Nat):∀l:List Nat,inV (.int ((off:Int)+a)) (l.map fun (k:Nat)=>V.int ((off:Int)+k))=l.contains a
 |[]=>rfl
 |k::l=>by
  have ih:=NK off a l
  unfold inV at ih ⊢
  rw[List.map_cons,List.any_cons,ih,List.contains_cons]
  congr 1
  show ((off:Int)+k == (off:Int)+a)=(a == k)
  by_cases h:a=k
  ·subst h; simp
  ·rw[beq_eq_false_iff_ne.mpr h,beq_eq_false_iff_ne.mpr (by omega)]
theorem QN {off a:Nat} {l:List Nat} {om:List Ob} {pw:Wv} (hp:Xs om pw=some (l.map fun (k:Nat)=>Wv.int ((off:Int)+k))) (neg:Bool):OG neg (.int ((off:Int)+a)) pw om=some (.ok (.bl (if neg then !l.contains a else l.contains a)),om):=by
 unfold OG
 rw[hp]
 dsimp only
 have h1:(UI (.int ((off:Int)+a))&&(l.map fun (k:Nat)=>Wv.int ((off:Int)+k)).all UI)=true:=by
  rw[List.all_map]
  simp[UI]
 rw[if_pos h1,List.map_map]
 have h2:(l.map (toV ∘ fun (k:Nat)=>Wv.int ((off:Int)+k)))=l.map fun (k:Nat)=>V.int ((off:Int)+k):=rfl
 rw[h2]
 show some (Except.ok (Wv.bl (if neg=true then !inV (.int ((off:Int)+a)) (l.map fun (k:Nat)=>V.int ((off:Int)+k)) else inV (.int ((off:Int)+a)) (l.map fun (k:Nat)=>V.int ((off:Int)+k)))),om)=_
 rw[NK]
section
variable {c:CA} {om:List Ob} {ho hb hm hu hl hg size off:Nat} {f:List (Option Int)} {kvs:List (List Key × Wv)} {gs:Gs} {rows:Mx} {told:List (Option Od)}
def ZX (told:List (Option Od)) (f:List (Option Int)) (ps:List Nat) (k:Nat):Int:=match at' told k with
 |some (.move g)=>bif decide (Vk told f k g=3)&&ps.contains g then 0 else Vk told f k g
 |_=>0
theorem JO (A:Sit c om ho hb hm hu hl hg size off f kvs gs rows told) {hN' k:Nat} {pw:Wv} {ps:List Nat} (hx:om[hN']?=some (.dk (Z6 off (mvL told f) (hN told f)))) (hk:k∈mvL told f) (hp:Xs om pw=some (ps.map fun (k:Nat)=>Wv.int ((off:Int)+k))):g_fault c [.o ho,.o hN',.int ((off:Int)+k),pw] om=some (.ok (.int (ZX told f ps k)),om):=by
 obtain ⟨hkf,g,e⟩:=Ws.mp hk
 have eh:hN told f k=Vk told f k g:=by unfold hN; rw[e]
 have d1:f2 Xu (Za 1) (Za 2) [some (.o ho),some (.o hN'),some (.int ((off:Int)+k)),some pw] om=some (.ok (.int (Vk told f k g)),om):=by
  rw[← eh]
  exact OO (.inl hx) hk rfl rfl
 have t1:UZ (fB (f2 kEq (f2 Xu (Za 1) (Za 2)) (fC (.int 3)))) (fB (f2 (OG false) (Zq c.Orders "goal_of" 2 (Zl c) (Za 0) (Zc (Za 2) Zk)) (Za 3))) [some (.o ho),some (.o hN'),some (.int ((off:Int)+k)),some pw] om=some (.ok (decide (Vk told f k g=3)&&ps.contains g),om) :=
  R8 (Z9 ((ZC d1 ZD).trans (WH _ _ _))) fun _=>Z9 ((ZC (Tm A e rfl rfl) (Zb rfl)).trans (QN hp false))
 unfold ZX
 rw[e]
 dsimp only
 cases h:(decide (Vk told f k g=3)&&ps.contains g) with
 |true =>
  rw[h]at t1
  exact ZH (YI ((Y1 t1).trans (Zv ZD)))
 |false =>
  rw[h]at t1
  exact ZH ((Zh (Z3 t1)).trans (Zv d1))
end
open PySem L2
theorem VP {om:List Ob} {x y:Wv} {d:PyData} (hx:Y7 om x=some d) (hy:Y7 om y=some d) (hl:WK d=true) (neg:Bool):Wo neg x y om=some (.ok (.bl (!neg)),om):=by
 have hc:d.canLay0=true:=(Bool.and_eq_true_iff.mp hl).1
 have he:PyData.eqv d d=true:=PySem.SeqAt.eqv_refl d hc
 unfold Wo
 rw[hx,hy]
 dsimp only
 rw[hl]
 cases neg <;> simp[he]
theorem Nz (om:List Ob):∀ns:List Int,pysOf om (ns.map Wv.int)=some (ns.map PyData.int)
 |[]=>rfl
 |n::r=>by
  show (match Wp om (.int n),pysOf om (r.map Wv.int) with|some d,some ds=>some (d::ds)|_,_=>none)=_
  rw[Nz om r]
  rfl
theorem VH (ns:List Int):WK (.list (ns.map PyData.int))=true:=by
 have a:PyData.canLayAll0 (ns.map PyData.int)=true:=by
  induction ns with
  |nil=>rfl
  |cons n r ih=>simp[PyData.canLayAll0,PyData.canLay0,ih]
 have b:PyData.depthAll (ns.map PyData.int)=0:=by
  induction ns with
  |nil=>rfl
  |cons n r ih =>
   have ih:=ih (by simp[PyData.canLayAll0,PyData.canLay0]at a; simpa using a)
   simp[PyData.depthAll,PyData.depth,ih]
 simp[WK,PyData.canLay0,PyData.depth,a,b]
theorem Ks (om:List Ob) (ns:List Int):Y7 om (.lst (ns.map Wv.int))=some (.list (ns.map PyData.int)):=by
 show (pysOf om (ns.map Wv.int)).map PyData.list=_
 rw[Nz]
 rfl
theorem LB (om:List Ob):∀l:List (Int × Int),pysOf om (l.map prW)=some (l.map fun p=>PyData.tuple [.int p.1,.int p.2])
 |[]=>rfl
 |p::r=>by
  show (match Wp om (prW p),pysOf om (r.map prW) with|some d,some ds=>some (d::ds)|_,_=>none)=_
  rw[LB om r]
  rfl
theorem Il (l:List (Int × Int)):WK (.list (l.map fun p=>PyData.tuple [.int p.1,.int p.2]))=true:=by
 have a:PyData.canLayAll0 (l.map fun p=>PyData.tuple [.int p.1,.int p.2])=true∧PyData.depthAll (l.map fun p=>PyData.tuple [.int p.1,.int p.2])<=1:=by
  induction l with
  |nil=>exact ⟨rfl,by simp[PyData.depthAll]⟩
  |cons n r ih=>exact ⟨by simp[PyData.canLayAll0,PyData.canLay0]; exact ih.1,by have:=ih.2; simp[PyData.depthAll,PyData.depth]; omega⟩
 have:=a.2
 simp[WK,PyData.canLay0,PyData.depth,a.1]
 omega
theorem IS (om:List Ob) (l:List (Int × Int)):Y7 om (.lst (l.map prW))=some (.list (l.map fun p=>PyData.tuple [.int p.1,.int p.2])):=by
 show (pysOf om (l.map prW)).map PyData.list=_
 rw[LB]
 rfl
open PySem L2
abbrev R3:Type:=Int × Nat × Int
def r3W (off:Nat) (r:R3):Wv:=.tup [.int r.1,.int ((off:Int)+r.2.1),.int r.2.2]
def r3P (off:Nat) (r:R3):PyData:=.tuple [.int r.1,.int ((off:Int)+r.2.1),.int r.2.2]
theorem Mp (off:Nat) (om:List Ob):∀l:List R3,pysOf om (l.map (r3W off))=some (l.map (r3P off))
 |[]=>rfl
 |p::r=>by
  show (match Wp om (r3W off p),pysOf om (r.map (r3W off)) with|some d,some ds=>some (d::ds)|_,_=>none)=_
  rw[Mp off om r]
  rfl
theorem P1 (off:Nat) (l:List R3):WK (.list (l.map (r3P off)))=true:=by
 have a:PyData.canLayAll0 (l.map (r3P off))=true∧PyData.depthAll (l.map (r3P off))<=1:=by
  induction l with
  |nil=>exact ⟨rfl,by simp[PyData.depthAll]⟩
  |cons n r ih=>exact ⟨by simp[PyData.canLayAll0,PyData.canLay0,r3P]; exact ih.1,by have:=ih.2; simp[PyData.depthAll,PyData.depth,r3P]; omega⟩
 have:=a.2
 simp[WK,PyData.canLay0,PyData.depth,a.1]
 omega
theorem D9 (off:Nat) (l:List R3) (om:List Ob):Wo false (.lst (l.map (r3W off))) (.lst []) om=some (.ok (.bl l.isEmpty),om):=by
 have h1:Y7 om (.lst (l.map (r3W off)))=some (.list (l.map (r3P off))):=by
  show (pysOf om (l.map (r3W off))).map PyData.list=_
  rw[Mp]; rfl
 have h2:Y7 om (.lst [])=some (.list []):=rfl
 have h3:WK (.list [])=true:=P1 off []
 unfold Wo
 rw[h1,h2]
 dsimp only
 rw[P1 off l,h3]
 cases l <;> rfl
def fallen (told:List (Option Od)) (f:List (Option Int)) (l:List Nat):List Nat:=l.filter fun k=>!decide (ZX told f l k=0)
def Xf (told:List (Option Od)) (f:List (Option Int)) (l:List Nat):List Nat:=l.filter fun k=>decide (ZX told f l k=0)
def UV (told:List (Option Od)) (f:List (Option Int)):Nat->Int->List Nat->List R3
 |0,_,_=>[]
 |n+1,i,l=>((fallen told f l).map fun k=>(i,k,ZX told f l k))++UV told f n (i+1) (Xf told f l)
theorem NS {told:List (Option Od)} {f:List (Option Int)} {l:List Nat} (h:fallen told f l=[]):Xf told f l=l:=by
 refine List.filter_eq_self.mpr fun k hk=>?_
 have:=List.filter_eq_nil_iff.mp h k hk
 simpa using this
theorem W8 {told:List (Option Od)} {f:List (Option Int)} {l:List Nat} (h:fallen told f l=[]):∀(n:Nat) (i:Int),UV told f n i l=[]
 |0,_=>rfl
 |n+1,i=>by unfold UV; rw[h,NS h,W8 h n]; rfl
theorem QG (told:List (Option Od)) (f:List (Option Int)) (l:List Nat):(fallen told f l).length+(Xf told f l).length=l.length:=by
 unfold fallen Xf
 have h:∀(p:Nat->Bool) (l:List Nat),(l.filter fun k=>!p k).length+(l.filter p).length=l.length:=fun p l=>by
  induction l with
  |nil=>rfl
  |cons k r ih=>cases h:p k <;> simp[h] <;> omega
 exact h (fun k=>decide (ZX told f l k=0)) l
section
variable {c:CA} {om:List Ob} {ho hb hm hu hl hg size off:Nat} {f:List (Option Int)} {kvs:List (List Key × Wv)} {gs:Gs} {rows:Mx} {told:List (Option Od)}
abbrev pW (off:Nat) (k:Nat):Wv:=Wv.int ((off:Int)+k)
theorem Ir (A:Sit c om ho hb hm hu hl hg size off f kvs gs rows told) {hF hS:Nat} (hx:om[hF]?=some (.dk (Z6 off (mvL told f) (hN told f)))) {l:List Nat} (hl':∀k∈l,k∈mvL told f) (h60:l.length<=60) (i:Int) (x5 x6:Option Wv) :
    ZO 5 (Yc ZQ [0,1,2,4] (fun sl=>bnd ((Za 2) sl) ZL) XC (Rk c)) [some (.o ho),some (.o hF),some (.lst (l.map (pW off))),some (.o hS),some (.int i),x5,x6] om=some (.ok (.nx,[some (.o ho),some (.o hF),some (.lst (l.map (pW off))),some (.o hS),some (.int i),some (.lst (l.map fun k=>r3W off (i,k,ZX told f l k))),x6]),om):=by
 have hlim:=ZW
 refine ZB (i:=5) ((Wg (ws:=l.map (pW off)) (om1:=om) ((Zo (a:=.lst (l.map (pW off))) (om1:=om) (Zb rfl)).trans rfl) (by rw[List.length_map]; omega) (Yh (pW off) (fun _=>true) (fun k=>r3W off (i,k,ZX told f l k)) (fun k hk=>rfl) (fun k hk _=>?_))).trans ?_)
 ·refine (ZI (Ze (Zb rfl) (Ze (Zb rfl) (Ze ((ZI (Ze (Zb rfl) (Ze (Zb rfl) (Ze (Zb rfl) (Ze (Zb rfl) Zj))))).trans ((YF rfl).trans (JO A hx (hl' k hk) rfl))) Zj)))).trans ?_
  unfold VR
  rw[if_pos (by simp; omega)]
  rfl
 ·rw[List.filter_eq_self.mpr (fun _ _=>rfl)]
  exact Yq (by rw[List.length_map]; omega)
theorem F7 {sl:Sl} {off:Nat} {i:Int} {l:List Nat} {v:Nat->Int} (h5:sl[5]?=some (some (.lst (l.map fun k=>r3W off (i,k,v k))))) (h60:l.length<=60):Yc ZQ [] (fun sl=>bnd ((Za 5) sl) ZL) (SN c) (RD c) sl om=some (.ok (.lst ((l.filter fun k=>!decide (v k=0)).map fun k=>r3W off (i,k,v k))),om):=by
 have hlim:=ZW
 have hf:=List.length_filter_le (fun k=>!decide (v k=0)) l
 exact (Wg (ws:=l.map fun k=>r3W off (i,k,v k)) (om1:=om) ((Zo (Zb h5)).trans rfl) (by rw[List.length_map]; omega) (Yh (fun k=>r3W off (i,k,v k)) (fun k=>!decide (v k=0)) (fun k=>r3W off (i,k,v k)) (fun k hk=>Z9 ((ZC ((ZC (Zb rfl) ZD).trans (YH (k:=2) rfl rfl)) ZD).trans (PO _ _ _))) (fun k hk _=>Zb rfl))).trans (Yq (by rw[List.length_map]; omega))
theorem FN {sl:Sl} {off:Nat} {i:Int} {l:List Nat} {v:Nat->Int} (h5:sl[5]?=some (some (.lst (l.map fun k=>r3W off (i,k,v k))))) (h60:l.length<=60):Yc ZQ [] (fun sl=>bnd ((Za 5) sl) ZL) (Rh c) (Ri c) sl om=some (.ok (.lst ((l.filter fun k=>decide (v k=0)).map (pW off))),om):=by
 have hlim:=ZW
 have hf:=List.length_filter_le (fun k=>decide (v k=0)) l
 exact (Wg (ws:=l.map fun k=>r3W off (i,k,v k)) (om1:=om) ((Zo (Zb h5)).trans rfl) (by rw[List.length_map]; omega) (Yh (fun k=>r3W off (i,k,v k)) (fun k=>decide (v k=0)) (pW off) (fun k hk=>Z9 ((ZC ((ZC (Zb rfl) ZD).trans (YH (k:=2) rfl rfl)) ZD).trans (WH _ _ _))) (fun k hk _=>(ZC (Zb rfl) ZD).trans (YH (k:=1) rfl rfl)))).trans (Yq (by rw[List.length_map]; omega))
theorem JP {om0:List Ob} {ws us:List Wv} {sl:Sl} (h3:sl[3]?=some (some (.o om0.length))) (h6:sl[6]?=some (some (.lst us))) (h:ws.length+us.length<=lim):Yg (Gv (Za 3) (Za 6)) sl (om0++[.lst ws])=some (.ok (.nx,sl),om0++[.lst (ws++us)]):=by
 have e:(om0++[Ob.lst ws])[om0.length]?=some (.lst ws):=by simp
 refine Yw (w:=.non) ?_
 unfold Gv
 rw[Zo (Zb h3)]
 refine (Zo (a:=()) (om1:=om0++[.lst ws]) (by simp[Fa,UU,e,L2.ret])).trans ?_
 rw[Zo (Zb h6)]
 simp[CI,UU,e,h,List.set_append_right]
theorem NW {om0:List Ob} (A:Sit c om0 ho hb hm hu hl hg size off f kvs gs rows told) {hF:Nat} (hx:om0[hF]?=some (.dk (Z6 off (mvL told f) (hN told f)))):∀(n:Nat) (i:Int) (l:List Nat) (acc:List R3) (x5 x6:Option Wv),l.length < n->acc.length+l.length<=60->(∀k∈l,k∈mvL told f) ->
    ∃sl',WI (WZ (fC (.bl true))) (Xy c) n [some (.o ho),some (.o hF),some (.lst (l.map (pW off))),some (.o om0.length),some (.int i),x5,x6] (om0++[.lst (acc.map (r3W off))])=some (.ok (.rt (.o om0.length),sl'),om0++[.lst ((acc++UV told f n i l).map (r3W off))])
 |0,_,_,_,_,_,h,_,_=>by omega
 |n+1,i,l,acc,x5,x6,h,h60,hl'=>by
  have hlim:=ZW
  have hlen:=QG told f l
  have A1:=A.grow [.lst (acc.map (r3W off))]
  have hx1:(om0++[Ob.lst (acc.map (r3W off))])[hF]?=some (.dk (Z6 off (mvL told f) (hN told f))):=by
   have:hF < om0.length:=by
    by_cases h:hF < om0.length
    ·exact h
    ·rw[List.getElem?_eq_none (by omega)]at hx; cases hx
   rw[List.getElem?_append_left this]; exact hx
  have e1:=Ir (hS:=om0.length) A1 hx1 hl' (by omega) i x5 x6
  have e2:=ZB (i:=6) (F7 (c:=c) (om:=om0++[.lst (acc.map (r3W off))]) (sl:=[some (.o ho),some (.o hF),some (.lst (l.map (pW off))),some (.o om0.length),some (.int i),some (.lst (l.map fun k=>r3W off (i,k,ZX told f l k))),x6]) rfl (by omega))
  have em:(l.filter fun k=>!decide (ZX told f l k=0)).map (fun k=>r3W off (i,k,ZX told f l k))=((fallen told f l).map fun k=>(i,k,ZX told f l k)).map (r3W off):=by rw[List.map_map]; rfl
  rw[em]at e2
  have e3:fB (f2 kEq (Za 6) (fA ZQ Zk)) [some (.o ho),some (.o hF),some (.lst (l.map (pW off))),some (.o om0.length),some (.int i),some (.lst (l.map fun k=>r3W off (i,k,ZX told f l k))),some (.lst (((fallen told f l).map fun k=>(i,k,ZX told f l k)).map (r3W off)))] (om0++[.lst (acc.map (r3W off))])=some (.ok ((fallen told f l).map fun k=>(i,k,ZX told f l k)).isEmpty,om0++[.lst (acc.map (r3W off))]) :=
   Z9 ((ZC (Zb rfl) ((ZI Zj).trans (Tj (by simp)))).trans (D9 off _ _))
  show ∃sl',bnd _ (kWh (fun sl2=>WI (WZ (fC (.bl true))) (Xy c) n sl2) (Xy c) _) _=_
  rw[Zo (W3 (b:=true) ZD)]
  show ∃sl',bnd (Xy c _) (Sr fun sl2=>WI (WZ (fC (.bl true))) (Xy c) n sl2) _=_
  by_cases hf:fallen told f l=[]
  ·rw[hf]at e2 e3
   refine ⟨[some (.o ho),some (.o hF),some (.lst (l.map (pW off))),some (.o om0.length),some (.int i),some (.lst (l.map fun k=>r3W off (i,k,ZX told f l k))),some (.lst ((([]:List Nat).map fun k=>(i,k,ZX told f l k)).map (r3W off)))],(Zo ((Zh e1).trans ((Zh e2).trans (YI ((Y1 e3).trans (Zv (Zb rfl))))))).trans ?_⟩
   rw[W8 hf,List.append_nil]
   rfl
  ·have hne:(fallen told f l).length≠0:=fun z=>hf (List.eq_nil_of_length_eq_zero z)
   have hie:((fallen told f l).map fun k=>(i,k,ZX told f l k)).isEmpty=false:=by
    cases hq:fallen told f l with
    |nil=>exact absurd hq hf
    |cons _ _=>rfl
   rw[hie]at e3
   have e4:=JP (om0:=om0) (ws:=acc.map (r3W off)) (us:=((fallen told f l).map fun k=>(i,k,ZX told f l k)).map (r3W off)) (sl:=[some (.o ho),some (.o hF),some (.lst (l.map (pW off))),some (.o om0.length),some (.int i),some (.lst (l.map fun k=>r3W off (i,k,ZX told f l k))),some (.lst (((fallen told f l).map fun k=>(i,k,ZX told f l k)).map (r3W off)))]) rfl rfl (by simp only[List.length_map]; omega)
   rw[← List.map_append]at e4
   have e5:=ZB (i:=2) (FN (c:=c) (om:=om0++[.lst ((acc++(fallen told f l).map fun k=>(i,k,ZX told f l k)).map (r3W off))]) (sl:=[some (.o ho),some (.o hF),some (.lst (l.map (pW off))),some (.o om0.length),some (.int i),some (.lst (l.map fun k=>r3W off (i,k,ZX told f l k))),some (.lst (((fallen told f l).map fun k=>(i,k,ZX told f l k)).map (r3W off)))]) rfl (by omega))
   obtain ⟨sl',e7⟩:=NW A hx n (i+1) (Xf told f l) (acc++(fallen told f l).map fun k=>(i,k,ZX told f l k)) (some (.lst (l.map fun k=>r3W off (i,k,ZX told f l k)))) (some (.lst (((fallen told f l).map fun k=>(i,k,ZX told f l k)).map (r3W off)))) (by omega) (by simp only[List.length_append,List.length_map]; omega) (fun k hk=>hl' k (List.mem_filter.mp hk).1)
   refine ⟨sl',(Zo ((Zh e1).trans ((Zh e2).trans ((Zh (Z3 e3)).trans ((Zh e4).trans ((Zh e5).trans (ZB (i:=4) ((ZC (Zb rfl) ZD).trans rfl)))))))).trans (e7.trans ?_)⟩
   rw[List.append_assoc]
   rfl
abbrev Yr (told:List (Option Od)) (f:List (Option Int)):List R3:=UV told f 100 1 (mvL told f)
theorem Lo (A:Sit c om ho hb hm hu hl hg size off f kvs gs rows told):g_strikes c [.o ho] om=some (.ok (.o (om.length+2)),om++[.dk (Z6 off (mvL told f) (fN told f)),.dk (Z6 off (mvL told f) (hN told f)),.lst ((Yr told f).map (r3W off))]):=by
 have hlim:=ZW
 have hfew:=A.few
 have hml:=Wr told f
 have A2:=A.grow [.dk (Z6 off (mvL told f) (fN told f)),.dk (Z6 off (mvL told f) (hN told f))]
 have hx:(om++[Ob.dk (Z6 off (mvL told f) (fN told f)),.dk (Z6 off (mvL told f) (hN told f))])[om.length+1]?=some (.dk (Z6 off (mvL told f) (hN told f))):=by simp
 have hi:=HE A
 have hn:(om++[Ob.dk (Z6 off (mvL told f) (fN told f)),.dk (Z6 off (mvL told f) (hN told f))]).length=om.length+2:=by simp
 have hc:om++[Ob.dk (Z6 off (mvL told f) (fN told f)),.dk (Z6 off (mvL told f) (hN told f)),.lst ((Yr told f).map (r3W off))]=(om++[Ob.dk (Z6 off (mvL told f) (fN told f)),.dk (Z6 off (mvL told f) (hN told f))])++[.lst ((Yr told f).map (r3W off))]:=by simp
 rw[hc]
 generalize om++[Ob.dk (Z6 off (mvL told f) (fN told f)),.dk (Z6 off (mvL told f) (hN told f))]=om2 at A2 hx hi hn
 have e1:ZO 1 (fA (kN 1 (g_hindrances c)) (Zc (Za 0) Zk)) [some (.o ho),none,none,none,none,none,none] om=some (.ok (.nx,[some (.o ho),some (.o (om.length+1)),none,none,none,none,none]),om2):=ZB (i:=1) ((ZI (Ze (Zb rfl) Zj)).trans ((YF rfl).trans hi))
 have e2:ZO 2 (Zq c.Orders "movers" 1 (ZJ c) (Za 0) Zk) [some (.o ho),some (.o (om.length+1)),none,none,none,none,none] om2=some (.ok (.nx,[some (.o ho),some (.o (om.length+1)),some (.lst ((mvL told f).map (pW off))),none,none,none,none]),om2):=ZB (i:=2) ((Zy (Zb rfl) (Zz A2.S.o) (Z8 _ _ _ (by decide) (by decide)) Zj rfl).trans (UW A2))
 have e3:ZO 3 (fA Vg Zk) [some (.o ho),some (.o (om.length+1)),some (.lst ((mvL told f).map (pW off))),none,none,none,none] om2=some (.ok (.nx,[some (.o ho),some (.o (om.length+1)),some (.lst ((mvL told f).map (pW off))),some (.o om2.length),none,none,none]),om2++[.lst []]):=ZB (i:=3) ((ZI Zj).trans (by
  show Vg [] om2=_
  unfold Vg
  rw[if_pos (by simp)]
  rfl))
 obtain ⟨sl',e5⟩:=NW A2 hx 100 1 (mvL told f) [] none none (by omega) (by simp; omega) (fun _ h=>h)
 rw[List.nil_append]at e5
 rw[← hn]
 exact ZH ((Zh e1).trans ((Zh e2).trans ((Zh e3).trans ((Zh (ZB (i:=4) ZD)).trans e5))))
theorem ED (off n:Nat):∀l:List R3,smalls n (l.map (r3W off))
 |[]=>trivial
 |_::r=>⟨⟨trivial,trivial,trivial,trivial⟩,ED off n r⟩
theorem BF (off n:Nat) (om:List Ob) (l:List R3):(l.map (r3W off)).map (fzW om n 3)=l.map (r3W off):=by
 rw[List.map_map]
 rfl
theorem TB (A:Sit c om ho hb hm hu hl hg size off f kvs gs rows told):YO c [.o ho] om=some (.ok (.lst ((Yr told f).map (r3W off))),om):=by
 refine tidyG_ok (Lo A) (.own (by omega) (by simp) (FzWs.of_smalls (ED _ _ _))) ?_
 have e:(om++[Ob.dk (Z6 off (mvL told f) (fN told f)),.dk (Z6 off (mvL told f) (hN told f)),.lst ((Yr told f).map (r3W off))])[om.length+2]?=some (.lst ((Yr told f).map (r3W off))):=by simp
 generalize om++[Ob.dk (Z6 off (mvL told f) (fN told f)),.dk (Z6 off (mvL told f) (hN told f)),.lst ((Yr told f).map (r3W off))]=om2 at e
 show (if om.length<=om.length+2 then (match om2[om.length+2]? with|some (.lst xs)=>Wv.lst (xs.map (fzW om2 om.length 3))|_=>.o (om.length+2)) else .o (om.length+2))=_
 rw[if_pos (by omega),e]
 show Wv.lst (((Yr told f).map (r3W off)).map (fzW om2 om.length 3))=_
 rw[BF]
def Rg (told:List (Option Od)) (f:List (Option Int)):Nat->List Nat->List Nat
 |0,l=>l
 |n+1,l=>Rg told f n (Xf told f l)
theorem NM (told:List (Option Od)) (f:List (Option Int)):∀(n:Nat) (i:Int) (l:List Nat),(UV told f n i l).length<=l.length
 |0,_,_=>by simp[UV]
 |n+1,i,l=>by
  have:=QG told f l
  have:=NM told f n (i+1) (Xf told f l)
  unfold UV
  simp only[List.length_append,List.length_map]
  omega
theorem LD (told:List (Option Od)) (f:List (Option Int)):∀(n:Nat) (i:Int) (l:List Nat),l.Nodup->Rg told f n l=l.filter fun k=>!((UV told f n i l).map fun r=>r.2.1).contains k
 |0,_,l,_=>(List.filter_eq_self.mpr fun _ _=>rfl).symm
 |n+1,i,l,nd=>by
  have ih:=LD told f n (i+1) (Xf told f l) (nd.sublist List.filter_sublist)
  unfold Rg UV
  rw[ih,List.map_append,List.map_map]
  have hm:(fallen told f l).map ((fun r:R3=>r.2.1) ∘ fun k=>(i,k,ZX told f l k))=fallen told f l:=by
   conv=>rhs; rw[← List.map_id (fallen told f l)]
   rfl
  rw[hm]
  generalize (UV told f n (i+1) (Xf told f l)).map (fun r=>r.2.1)=R
  unfold Xf
  rw[List.filter_filter]
  refine List.filter_congr fun k hk=>?_
  have hc:(fallen told f l++R).contains k=((fallen told f l).contains k || R.contains k):=by
   refine Bool.eq_iff_iff.mpr ?_
   rw[Bool.or_eq_true,List.contains_iff_mem,List.contains_iff_mem,List.contains_iff_mem,List.mem_append]
  have hf:(fallen told f l).contains k=!decide (ZX told f l k=0):=by
   refine Bool.eq_iff_iff.mpr ?_
   rw[List.contains_iff_mem]
   unfold fallen
   rw[List.mem_filter]
   exact ⟨fun h=>h.2,fun h=>⟨hk,h⟩⟩
  rw[hc,hf]
  cases decide (ZX told f l k=0) <;> cases R.contains k <;> rfl
theorem Uv (A:Sit c om ho hb hm hu hl hg size off f kvs gs rows told):g_settled c [.o ho] om=some (.ok (.lst ((Rg told f 100 (mvL told f)).map (pW off))),om):=by
 have hlim:=ZW
 have hfew:=A.few
 have hml:=Wr told f
 have hsl:(Yr told f).length<=(mvL told f).length:=NM told f 100 1 (mvL told f)
 have e1:ZO 1 (Yc ZQ [] (fun sl=>bnd ((fA (kN 1 (YO c)) (Zc (Za 0) Zk)) sl) ZL) XC (Rx c)) [some (.o ho),none] om=some (.ok (.nx,[some (.o ho),some (.lst (((Yr told f).map fun r=>r.2.1).map (pW off)))]),om):=by
  refine ZB (i:=1) ((Wg (ws:=(Yr told f).map (r3W off)) (om1:=om) ((Zo ((ZI (Ze (Zb rfl) Zj)).trans ((YF rfl).trans (TB A)))).trans rfl) (by rw[List.length_map]; omega) (Yh (r3W off) (fun _=>true) (fun r=>pW off r.2.1) (fun k hk=>rfl) (fun k hk _=>(ZC (Zb rfl) ZD).trans (YH (k:=1) rfl rfl)))).trans ?_)
  rw[List.filter_eq_self.mpr (fun _ _=>rfl)]
  have e:(Yr told f).map (fun r=>pW off r.2.1)=((Yr told f).map fun r=>r.2.1).map (pW off):=by rw[List.map_map]; rfl
  rw[e]
  exact Yq (by simp only[List.length_map]; omega)
 rw[LD told f 100 1 (mvL told f) (RQ told f)]
 have hfl:=List.length_filter_le (fun k=>!((Yr told f).map fun r=>r.2.1).contains k) (mvL told f)
 refine ZH ((Zh e1).trans (Zv ((Wg (ws:=(mvL told f).map (pW off)) (om1:=om) ((Zo ((Zy (Zb rfl) (Zz A.S.o) (Z8 _ _ _ (by decide) (by decide)) Zj rfl).trans (UW A))).trans rfl) (by rw[List.length_map]; omega) (Yh (pW off) (fun k=>!((Yr told f).map fun r=>r.2.1).contains k) (pW off) (fun k hk=>?_) (fun k hk _=>Zb rfl))).trans (Yq (by rw[List.length_map]; omega)))))
 exact Z9 ((v2 rfl rfl).trans (QN (l:=(Yr told f).map fun r=>r.2.1) rfl true))
end
end MP
namespace L2
open PySem
namespace Tb
def nx (m i:Nat):Nat:=(i * 5+1) % (m+1)
def it (m:Nat):Nat->Nat->Nat
 |0,i=>i
 |k+1,i=>it m k (nx m i)
def orb (m:Nat):Nat->Nat->List Nat
 |0,_=>[]
 |k+1,i=>i::orb m k (nx m i)
theorem Pz (m:Nat):∀(a b i:Nat),it m (a+b) i=it m b (it m a i)
 |0,b,i=>by rw[Nat.zero_add]; rfl
 |a+1,b,i=>by rw[Nat.add_right_comm]; exact Pz m a b (nx m i)
theorem L8 (m:Nat):∀(k i e:Nat),e∈orb m k i->∃a,a < k∧it m a i=e
 |0,i,e,h=>nomatch h
 |k+1,i,e,h=>by
  rcases List.mem_cons.mp h with h|h
  ·exact ⟨0,Nat.succ_pos _,h.symm⟩
  ·obtain ⟨a,h1,h2⟩:=L8 m k (nx m i) e h
   exact ⟨a+1,by omega,h2⟩
def Gm (m:Nat):Prop:=m=7∨m=15∨m=31∨m=63∨m=127
def whl (m:Nat):Bool:=((List.range (m+1)).all fun e=>(orb m (m+1) 0).contains e)&&it m (m+1) 0 == 0
theorem DM {m:Nat} (h:Gm m):whl m=true:=by
 rcases h with rfl|rfl|rfl|rfl|rfl <;> decide +kernel
theorem BP {m i e:Nat} (g:Gm m) (hi:i<=m) (he:e<=m):∃k,k<=m∧it m k i=e:=by
 have w:=DM g
 unfold whl at w
 rw[Bool.and_eq_true,List.all_eq_true]at w
 have z:it m (m+1) 0=0:=by simpa using w.2
 have f:∀e,e<=m->∃a,a < m+1∧it m a 0=e:=fun e he=>L8 m _ _ _ (by simpa using w.1 e (List.mem_range.mpr (by omega)))
 obtain ⟨a,ha,rfl⟩:=f i hi
 obtain ⟨b,hb,rfl⟩:=f e he
 by_cases hab:a<=b
 ·exact ⟨b - a,by omega,by rw[← Pz,Nat.add_sub_cancel' hab]⟩
 ·refine ⟨b+(m+1) - a,by omega,?_⟩
  rw[← Pz,show a+(b+(m+1) - a)=(m+1)+b by omega,Pz,z]
def tr (m:Nat):Nat->Nat × Nat->Nat × Nat
 |0,x=>x
 |k+1,x=>tr m k (SetTable.leap m x.1 x.2)
theorem HK (m:Nat):∀(a b:Nat) (x:Nat × Nat),tr m (a+b) x=tr m b (tr m a x)
 |0,b,x=>by rw[Nat.zero_add]; rfl
 |a+1,b,x=>by rw[Nat.add_right_comm]; exact HK m a b _
theorem Kc (m:Nat):∀(k i:Nat),tr m k (i,0)=(it m k i,0)
 |0,i=>rfl
 |k+1,i=>by
  have e:SetTable.leap m i 0=(nx m i,0):=by simp[SetTable.leap,nx]
  show tr m k (SetTable.leap m i 0)=_
  rw[e,Kc m k]; rfl
theorem Gj (m:Nat):∀(k:Nat) (x:Nat × Nat),(tr m k x).2=x.2 / 32 ^ k
 |0,x=>by simp[tr]
 |k+1,x=>by
  show (tr m k _).2=_
  rw[Gj m k]
  show x.2 / 32 / 32 ^ k=_
  rw[Nat.div_div_eq_div_mul,Nat.pow_succ,Nat.mul_comm]
theorem De (m:Nat):∀(k:Nat) (x:Nat × Nat),x.1<=m->(tr m k x).1<=m
 |0,x,h=>h
 |k+1,x,h=>De m k _ (Nat.lt_succ_iff.mp (Nat.mod_lt _ (Nat.succ_pos m)))
theorem Md {m i p e:Nat} (g:Gm m) (hi:i<=m) (hp:p < 2 ^ 64) (he:e<=m):∃k,k<=m+13∧(tr m k (i,p)).1=e:=by
 have h2:(tr m 13 (i,p)).2=0:=by rw[Gj]; exact Nat.div_eq_of_lt (Nat.lt_of_lt_of_le hp (by decide))
 obtain ⟨k,hk,h⟩:=BP g (De m 13 (i,p) hi) he
 refine ⟨13+k,by omega,?_⟩
 rw[HK,show tr m 13 (i,p)=((tr m 13 (i,p)).1,0) from Prod.ext rfl h2,Kc]
 exact h
theorem LN (h:Int):SetTable.bits h < 2 ^ 64:=by
 unfold SetTable.bits
 have:h % (2 ^ 64:Int) < 2 ^ 64:=Int.emod_lt_of_pos _ (by decide)
 omega
theorem QB {m:Nat} {ow:Array (Option Nat)}:∀(k fuel i p:Nat),k < fuel->(ow.getD (tr m k (i,p)).1 (some 0)).isNone=true->∃j,SetTable.layClean.free m ow fuel i p=some j∧(ow.getD j (some 0)).isNone=true
 |k,0,i,p,h,_=>absurd h (Nat.not_lt_zero _)
 |k,fuel+1,i,p,h,e=>by
  unfold SetTable.layClean.free
  cases hf:(List.range (SetTable.runEnd m i+1 - i)).find? fun k=>(ow.getD (i+k) (some 0)).isNone with
  |some q=>exact ⟨i+q,rfl,List.find?_some (p:=fun k=>(ow.getD (i+k) (some 0)).isNone) hf⟩
  |none =>
   cases k with
   |zero =>
    have hr:0∈List.range (SetTable.runEnd m i+1 - i):=by
     unfold SetTable.runEnd
     rw[List.mem_range]; split <;> omega
    exact absurd e (List.find?_eq_none.mp hf 0 hr)
   |succ k=>exact QB k fuel _ _ (Nat.lt_of_succ_lt_succ h) e
def WR (m:Nat) (ow:Array (Option Nat)):List Nat:=(List.range (m+1)).filterMap fun j=>ow.getD j none
theorem JT {α γ:Type} {f:α->Option γ}:∀{l:List α},(∀x∈l,f x≠none)->(l.filterMap f).length=l.length
 |[],_=>rfl
 |x::l,h=>by
  cases hx:f x with
  |none=>exact absurd hx (h x (.head _))
  |some y=>rw[List.filterMap_cons_some hx,List.length_cons,List.length_cons,JT fun y hy=>h y (.tail _ hy)]
theorem UF {α γ:Type} {f g:α->Option γ}:∀{l:List α},(∀x∈l,f x=g x)->l.filterMap f=l.filterMap g
 |[],_=>rfl
 |x::l,h=>by
  have hx:=h x (.head _)
  have hl:=UF (l:=l) fun y hy=>h y (.tail _ hy)
  cases hg:g x with
  |none=>rw[List.filterMap_cons_none (hx.trans hg),List.filterMap_cons_none hg,hl]
  |some y=>rw[List.filterMap_cons_some (hx.trans hg),List.filterMap_cons_some hg,hl]
theorem JI {m:Nat} {ow:Array (Option Nat)} (h:(WR m ow).length < m+1):∃e,e<=m∧ow.getD e none=none:=by
 refine Classical.byContradiction fun n=>?_
 have:=JT (l:=List.range (m+1)) (f:=fun j=>ow.getD j none) fun x hx z=>n ⟨x,by have:=List.mem_range.mp hx; omega,z⟩
 unfold WR at h
 rw[this,List.length_range]at h
 exact Nat.lt_irrefl _ h
theorem HV {m:Nat} {ow:Array (Option Nat)} {j k:Nat} (hs:ow.size=m+1) (hj:j<=m) (hn:ow.getD j none=none):(WR m (ow.setIfInBounds j (some k))).Perm (k::WR m ow):=by
 obtain ⟨a,b,hab⟩:=List.append_of_mem (List.mem_range.mpr (show j < m+1 by omega))
 have nd:(a++j::b).Nodup:=hab ▸ List.nodup_range
 have nd':=List.nodup_append.mp nd
 have ha:j ∉ a:=fun h=>nd'.2.2 j h j (.head _) rfl
 have hb:j ∉ b:=(List.nodup_cons.mp nd'.2.1).1
 have oth:∀x,x≠j->(ow.setIfInBounds j (some k)).getD x none=ow.getD x none:=fun x hx=>by
  rw[Array.getD_eq_getD_getElem?,Array.getD_eq_getD_getElem?,Array.getElem?_setIfInBounds_ne (Ne.symm hx)]
 have self:(ow.setIfInBounds j (some k)).getD j none=some k:=by
  rw[Array.getD_eq_getD_getElem?,Array.getElem?_setIfInBounds_self_of_lt (by omega)]; rfl
 unfold WR
 rw[hab,List.filterMap_append,List.filterMap_append,List.filterMap_cons_some (f:=fun j_1=>(ow.setIfInBounds j (some k)).getD j_1 none) self,List.filterMap_cons_none (f:=fun j=>ow.getD j none) hn,
  UF (l:=a) (g:=fun j=>ow.getD j none) (fun x hx=>oth x fun z=>ha (z ▸ hx)),UF (l:=b) (g:=fun j=>ow.getD j none) (fun x hx=>oth x fun z=>hb (z ▸ hx))]
 exact List.perm_middle
abbrev D5 (m:Nat) (acc:Option (Array (Option Nat) × Nat)) (h:Int):Option (Array (Option Nat) × Nat):=do
 let (owner,k) ← acc
 let j ← SetTable.layClean.free m owner (SetTable.turns m) (SetTable.bits h % (m+1)) (SetTable.bits h)
 pure (owner.setIfInBounds j (some k),k+1)
theorem L4 {m:Nat} (g:Gm m):∀(hs:List Int) (ow:Array (Option Nat)) (k:Nat),ow.size=m+1->(WR m ow).Perm (List.range k)->k+hs.length<=m ->
    ∃ow',hs.foldl (D5 m) (some (ow,k))=some (ow',k+hs.length)∧ow'.size=m+1∧(WR m ow').Perm (List.range (k+hs.length))
 |[],ow,k,h1,h2,_=>⟨ow,rfl,h1,h2⟩
 |h::hs,ow,k,h1,h2,h3=>by
  have hl:(WR m ow).length=k:=by rw[h2.length_eq,List.length_range]
  obtain ⟨e,he,hn⟩:=JI (m:=m) (ow:=ow) (by rw[hl,List.length_cons]at *; omega)
  obtain ⟨q,hq,hz⟩:=Md g (i:=SetTable.bits h % (m+1)) (Nat.lt_succ_iff.mp (Nat.mod_lt _ (Nat.succ_pos m))) (LN h) he
  have gd:∀x,(ow.getD x (some 0)).isNone=true->x<=m∧ow.getD x none=none:=fun x hx=>by
   rw[Array.getD_eq_getD_getElem?]at hx ⊢
   cases ho:ow[x]? with
   |none=>rw[ho]at hx; cases hx
   |some y =>
    rw[ho]at hx
    obtain ⟨hlt,_⟩:=Array.getElem?_eq_some_iff.mp ho
    refine ⟨by omega,?_⟩
    cases y with
    |none=>rfl
    |some y=>cases hx
  have hn':(ow.getD e (some 0)).isNone=true:=by
   rw[Array.getD_eq_getD_getElem?]at hn ⊢
   have hlt:e < ow.size:=by omega
   rw[Array.getElem?_eq_getElem hlt]at hn ⊢
   simp only[Option.getD_some]at hn ⊢
   rw[hn]; rfl
  obtain ⟨j,hj,hjn⟩:=QB q (SetTable.turns m) (SetTable.bits h % (m+1)) (SetTable.bits h) (by unfold SetTable.turns; omega) (by rw[hz]; exact hn')
  obtain ⟨hjm,hj0⟩:=gd j hjn
  have st:D5 m (some (ow,k)) h=some (ow.setIfInBounds j (some k),k+1):=by
   show (SetTable.layClean.free m ow (SetTable.turns m) (SetTable.bits h % (m+1)) (SetTable.bits h) >>= _)=_
   rw[hj]; rfl
  obtain ⟨ow',e1,e2,e3⟩:=L4 g hs (ow.setIfInBounds j (some k)) (k+1) (by rw[Array.size_setIfInBounds,h1]) ((HV h1 hjm hj0).trans (by
   rw[List.range_succ]
   exact (h2.cons k).trans (List.perm_append_comm (l₁:=[k])))) (by rw[List.length_cons]at h3; omega)
  refine ⟨ow',?_,e2,?_⟩
  ·rw[List.foldl_cons,st,e1,List.length_cons,Nat.add_right_comm,Nat.add_assoc]
  ·rw[List.length_cons,show k+(hs.length+1)=k+1+hs.length by omega]; exact e3
theorem OY {m:Nat} (g:Gm m) {hs:Array Int} (h:hs.size<=m):∃ow,SetTable.layClean m hs=some ow∧ow.size=m+1∧(WR m ow).Perm (List.range hs.size):=by
 have h0:WR m (Array.replicate (m+1) none)=[]:=by
  unfold WR
  rw[List.filterMap_eq_nil_iff]
  intro x hx
  rw[Array.getD_eq_getD_getElem?,Array.getElem?_replicate]
  split <;> rfl
 obtain ⟨ow,e1,e2,e3⟩:=L4 g hs.toList (Array.replicate (m+1) none) 0 (Array.size_replicate) (by rw[h0]; exact List.Perm.refl _) (by rw[Array.length_toList]; omega)
 refine ⟨ow,?_,e2,by rw[Nat.zero_add,Array.length_toList]at e3; exact e3⟩
 unfold SetTable.layClean
 rw[← Array.foldl_toList]
 show Option.map _ (hs.toList.foldl (D5 m) (some (Array.replicate (m+1) none,0)))=_
 rw[e1]
 rfl
structure TG (t:SetTable) (n:Nat):Prop where
 gm:Gm t.mask
 size:t.place.size=n
 dum:t.dummies=#[]
 ris:t.place.toList.Pairwise (· < ·)
 le:∀x∈t.place.toList,x<=t.mask
 room:n * 5 < t.mask * 3
 pl:t.plain=true
theorem OP {m f mv:Nat} {led:Bool} (g:Gm m) {hs:Array Int} (h:hs.size * 5 < m * 3) :
    ∃t o,SetTable.laid m f mv led true hs=some (t,o)∧o.toList.Perm (List.range hs.size)∧TG t hs.size∧t.mask=m∧t.led=led:=by
 obtain ⟨ow,e1,e2,e3⟩:=OY g (hs:=hs) (by omega)
 have e4:((List.range (m+1)).filterMap fun j=>(ow.getD j none).map (j,·)).map (·.2)=WR m ow:=by
  unfold WR
  rw[List.map_filterMap]
  exact UF fun x _=>by cases ow.getD x none <;> rfl
 have sub:(((List.range (m+1)).filterMap fun j=>(ow.getD j none).map (j,·)).map (·.1)).Sublist (List.range (m+1)):=by
  rw[List.map_filterMap]
  generalize List.range (m+1)=l
  induction l with
  |nil=>exact List.Sublist.refl _
  |cons x l ih =>
   rw[List.filterMap_cons]
   cases ow.getD x none with
   |none=>exact ih.cons x
   |some y=>exact ih.cons₂ x
 have hl:((List.range (m+1)).filterMap fun j=>(ow.getD j none).map (j,·)).length=hs.size:=by
  have:=congrArg List.length e4
  rw[List.length_map,e3.length_eq,List.length_range]at this
  exact this
 refine ⟨_,_,by unfold SetTable.laid; rw[e1]; rfl,?_,⟨g,?_,rfl,?_,?_,h,rfl⟩,rfl,rfl⟩
 ·show (List.map _ _).Perm _
  rw[e4]; exact e3
 ·show (List.map _ _).length=_
  rw[List.length_map,hl]
 ·exact List.Pairwise.sublist sub List.pairwise_lt_range
 ·intro x hx
  have:=List.mem_range.mp (sub.subset hx)
  exact Nat.lt_succ_iff.mp this
end Tb
open PySem
namespace Tb
theorem SQ {xs:Array Nat} {j:Nat} (hr:xs.toList.Pairwise (· < ·)):∀(fuel lo hi:Nat),hi<=xs.size->hi - lo<=fuel->lo<=hi->(∀q (h:q < xs.size),q < lo->xs[q] < j)->(∀q (h:q < xs.size),hi<=q->j<=xs[q]) ->
    (SetTable.below.go xs j fuel lo hi<=xs.size∧(∀q (h:q < xs.size),q < SetTable.below.go xs j fuel lo hi->xs[q] < j)∧∀q (h:q < xs.size),SetTable.below.go xs j fuel lo hi<=q->j<=xs[q])
 |0,lo,hi,h1,h2,h3,a,b=>by
  have:lo=hi:=by omega
  subst this
  exact ⟨h1,a,b⟩
 |fuel+1,lo,hi,h1,h2,h3,a,b=>by
  have inc:∀p q (hp:p < xs.size) (hq:q < xs.size),p < q->xs[p] < xs[q]:=fun p q hp hq hpq=>by
   have:=List.pairwise_iff_getElem.mp hr p q (by simpa using hp) (by simpa using hq) hpq
   simpa using this
  unfold SetTable.below.go
  split
  ·rename_i hlt
   dsimp only
   have hm:(lo+hi) / 2 < xs.size:=by omega
   have e:xs.getD ((lo+hi) / 2) j=xs[(lo+hi) / 2]:=by rw[Array.getD_eq_getD_getElem?,Array.getElem?_eq_getElem hm]; rfl
   rw[e]
   split
   ·rename_i hc
    exact SQ hr fuel _ _ h1 (by omega) (by omega) (fun q hq hl=>by
     by_cases z:q=(lo+hi) / 2
     ·subst z; exact hc
     ·exact Nat.lt_trans (inc q _ hq hm (by omega)) hc) b
   ·rename_i hc
    exact SQ hr fuel _ _ (by omega) (by omega) (by omega) a (fun q hq hl=>by
     by_cases z:q=(lo+hi) / 2
     ·subst z; omega
     ·have:=inc _ q hm hq (by omega); omega)
  ·have:lo=hi:=by omega
   subst this
   exact ⟨h1,a,b⟩
theorem NE {xs:Array Nat} {j:Nat} (hr:xs.toList.Pairwise (· < ·)):SetTable.below xs j<=xs.size∧(∀q (h:q < xs.size),q < SetTable.below xs j->xs[q] < j)∧∀q (h:q < xs.size),SetTable.below xs j<=q->j<=xs[q] :=
 SQ hr xs.size 0 xs.size (Nat.le_refl _) (by omega) (Nat.zero_le _) (fun q _ h=>absurd h (Nat.not_lt_zero _)) fun q h h'=>absurd h (Nat.not_lt.mpr h')
theorem LH:∀{l m:List Nat},l.Nodup->(∀x∈l,x∈m)->l.length<=m.length
 |[],m,_,_=>Nat.zero_le _
 |x::l,m,nd,h=>by
  obtain ⟨a,b,rfl⟩:=List.append_of_mem (h x (.head _))
  have nd':=List.nodup_cons.mp nd
  have:=LH (l:=l) (m:=a++b) nd'.2 fun y hy=>by
   have hm:=h y (.tail _ hy)
   simp only[List.mem_append,List.mem_cons]at hm ⊢
   rcases hm with z|z|z
   ·exact .inl z
   ·exact absurd (z ▸ hy) nd'.1
   ·exact .inr z
  simp only[List.length_append,List.length_cons]at this ⊢
  omega
theorem SG {t:SetTable} (hd:t.dummies=#[]) (j:Nat):(t.slot j=.empty∧t.place[SetTable.below t.place j]?≠some j)∨(∃i,t.slot j=.live i)∧j∈t.place.toList:=by
 unfold SetTable.slot
 dsimp only
 by_cases h:t.place[SetTable.below t.place j]?=some j
 ·refine .inr ⟨⟨_,if_pos (by rw[h]; exact beq_self_eq_true _)⟩,?_⟩
  exact Array.mem_toList_iff.mpr (Array.mem_of_getElem? h)
 ·refine .inl ⟨?_,h⟩
  rw[if_neg (by simpa using h),if_neg (by rw[hd]; simp[SetTable.has])]
abbrev pgo (t:SetTable) (h:Int):=SetTable.probe.go t (fun _=>h+1) h
theorem NY {t:SetTable} (hd:t.dummies=#[]) {h:Int}:∀(more fuel:Nat) (p:SetTable.Probe),p.more=more->p.dummy=none->more < fuel ->
    (∃j,pgo t h fuel p=some (.empty j none)∧t.slot j=.empty)∨(t.slot p.j≠.empty∧pgo t h fuel p=pgo t h (fuel - (more+1)) { j:=(SetTable.leap t.mask p.i p.perturb).1,more:=SetTable.runEnd t.mask (SetTable.leap t.mask p.i p.perturb).1 - (SetTable.leap t.mask p.i p.perturb).1,i:=(SetTable.leap t.mask p.i p.perturb).1,perturb:=(SetTable.leap t.mask p.i p.perturb).2,dummy:=none })
 |more,0,p,_,_,h=>absurd h (Nat.not_lt_zero _)
 |more,fuel+1,p,hm,hn,hf=>by
  have hne:((h+1) == h)=false:=beq_eq_false_iff_ne.mpr (by omega)
  rcases SG hd p.j with ⟨he,_⟩|⟨⟨i,he⟩,_⟩
  ·refine .inl ⟨p.j,?_,he⟩
   show SetTable.probe.go t (fun _=>h+1) h (fuel+1) p=_
   unfold SetTable.probe.go
   rw[he,hn]
  ·have st:pgo t h (fuel+1) p=pgo t h fuel (t.advance p):=by
    show SetTable.probe.go t (fun _=>h+1) h (fuel+1) p=SetTable.probe.go t (fun _=>h+1) h fuel (t.advance p)
    conv=>lhs; unfold SetTable.probe.go
    rw[he]
    show (if ((h+1) == h)=true then _ else SetTable.probe.go t (fun _=>h+1) h fuel (t.advance p))=_
    rw[hne]; rfl
   have nz:t.slot p.j≠.empty:=by rw[he]; exact fun z=>nomatch z
   cases more with
   |zero =>
    refine .inr ⟨nz,st.trans ?_⟩
    unfold SetTable.advance
    rw[if_neg (by omega),hn]
    rfl
   |succ more =>
    have ad:t.advance p={ p with j:=p.j+1,more:=p.more - 1 }:=by unfold SetTable.advance; rw[if_pos (by omega)]
    rcases NY hd more fuel (t.advance p) (by rw[ad]; show p.more - 1=more; omega) (by rw[ad]; exact hn) (by omega) with ⟨j,e1,e2⟩|⟨_,e⟩
    ·exact .inl ⟨j,st.trans e1,e2⟩
    ·refine .inr ⟨nz,st.trans (e.trans ?_)⟩
     rw[ad,show fuel+1 - (more+1+1)=fuel - (more+1) by omega]
def pst (m i q:Nat):SetTable.Probe:={ j:=i,more:=SetTable.runEnd m i - i,i:=i,perturb:=q,dummy:=none }
theorem Qe {t:SetTable} (hd:t.dummies=#[]) {h:Int}:∀(k fuel i q:Nat),10 * k < fuel->10 * k+10<=fuel->t.slot (tr t.mask k (i,q)).1=.empty->∃j,pgo t h fuel (pst t.mask i q)=some (.empty j none)∧t.slot j=.empty
 |k,fuel,i,q,h1,h2,e=>by
  have hm:(pst t.mask i q).more<=9:=by
   show SetTable.runEnd t.mask i - i<=9
   unfold SetTable.runEnd; split <;> omega
  rcases NY hd (h:=h) (pst t.mask i q).more fuel (pst t.mask i q) rfl rfl (by omega) with z|⟨nz,z⟩
  ·exact z
  ·cases k with
   |zero=>exact absurd e nz
   |succ k =>
    obtain ⟨j,e1,e2⟩:=Qe hd (h:=h) k (fuel - ((pst t.mask i q).more+1)) (SetTable.leap t.mask i q).1 (SetTable.leap t.mask i q).2 (by omega) (by omega) e
    exact ⟨j,z.trans e1,e2⟩
theorem FP {t:SetTable} {n:Nat} (T:TG t n) (h:Int):∃j,t.freeSlot h=some (j,false)∧t.place[SetTable.below t.place j]?≠some j∧t.slot j=.empty:=by
 have:∃e,e<=t.mask∧e ∉ t.place.toList:=by
  refine Classical.byContradiction fun z=>?_
  have:=LH (l:=List.range (t.mask+1)) (m:=t.place.toList) List.nodup_range fun x hx=>Classical.byContradiction fun nx=>z ⟨x,by have:=List.mem_range.mp hx; omega,nx⟩
  rw[List.length_range,Array.length_toList,T.size]at this
  have:=T.room
  omega
 obtain ⟨e,he,hn⟩:=this
 obtain ⟨k,hk,hz⟩:=Md T.gm (i:=SetTable.bits h % (t.mask+1)) (Nat.lt_succ_iff.mp (Nat.mod_lt _ (Nat.succ_pos _))) (LN h) he
 have hs:t.slot e=.empty:=by
  rcases SG T.dum e with z|z
  ·exact z.1
  ·exact absurd z.2 hn
 obtain ⟨j,e1,e2⟩:=Qe T.dum (h:=h) k (10 * SetTable.turns t.mask) (SetTable.bits h % (t.mask+1)) (SetTable.bits h) (by unfold SetTable.turns; omega) (by unfold SetTable.turns; omega) (by rw[hz]; exact hs)
 refine ⟨j,?_,?_,e2⟩
 ·unfold SetTable.freeSlot
  show (match pgo t h (10 * SetTable.turns t.mask) (pst t.mask _ _) with|some (.empty j dummy)=>some (dummy.getD j,dummy.isSome)|_=>none)=_
  rw[e1]; rfl
 ·rcases SG T.dum j with z|⟨⟨i,z⟩,_⟩
  ·exact z.2
  ·rw[e2]at z; cases z
theorem Kg {t:SetTable} {n:Nat} (T:TG t n) (h:Int):∀(fuel:Nat) (p:SetTable.Probe) (j:Nat) (d:Option Nat),p.i<=t.mask->p.j+p.more<=t.mask->pgo t h fuel p=some (.empty j d)->j<=t.mask
 |0,p,j,d,_,_,e=>by cases e
 |fuel+1,p,j,d,h1,h2,e=>by
  have adv:(t.advance p).i<=t.mask∧(t.advance p).j+(t.advance p).more<=t.mask:=by
   unfold SetTable.advance
   split
   ·exact ⟨h1,by show p.j+1+(p.more - 1)<=_; omega⟩
   ·have hl:(SetTable.leap t.mask p.i p.perturb).1<=t.mask:=Nat.lt_succ_iff.mp (Nat.mod_lt _ (Nat.succ_pos _))
    refine ⟨hl,?_⟩
    show (SetTable.leap t.mask p.i p.perturb).1+(SetTable.runEnd t.mask (SetTable.leap t.mask p.i p.perturb).1 - (SetTable.leap t.mask p.i p.perturb).1)<=t.mask
    unfold SetTable.runEnd
    split <;> omega
  have e:SetTable.probe.go t (fun _=>h+1) h (fuel+1) p=some (.empty j d):=e
  unfold SetTable.probe.go at e
  rcases SG T.dum p.j with ⟨he,_⟩|⟨⟨i,he⟩,_⟩
  ·rw[he]at e
   cases e
   omega
  ·rw[he]at e
   have hne:((h+1) == h)=false:=beq_eq_false_iff_ne.mpr (by omega)
   have e:(if ((h+1) == h)=true then _ else SetTable.probe.go t (fun _=>h+1) h fuel (t.advance p))=some (.empty j d):=e
   rw[hne]at e
   exact Kg T h fuel _ j d adv.1 adv.2 e
theorem FU {t:SetTable} {n:Nat} (T:TG t n) {h:Int} {j:Nat} (e:t.freeSlot h=some (j,false)):j<=t.mask:=by
 unfold SetTable.freeSlot at e
 match hp:t.probe (fun _=>h+1) h (t.probeStart h),e with
 |some (.empty j' none),e =>
  have e:some ((none:Option Nat).getD j',(none:Option Nat).isSome)=some (j,false):=e
  have:j'=j:=by injection e with e; injection e
  subst this
  refine Kg T h _ _ j' none ?_ ?_ hp
  ·exact Nat.lt_succ_iff.mp (Nat.mod_lt _ (Nat.succ_pos _))
  ·show SetTable.bits h % (t.mask+1)+(SetTable.runEnd t.mask (SetTable.bits h % (t.mask+1)) - SetTable.bits h % (t.mask+1))<=t.mask
   have:SetTable.bits h % (t.mask+1) < t.mask+1:=Nat.mod_lt _ (Nat.succ_pos t.mask)
   unfold SetTable.runEnd
   split <;> omega
 |some (.empty j' (some d)),e=>exact nomatch e
 |some (.candidate _ _ _),e=>exact nomatch e
 |none,e=>exact nomatch e
structure TH (t:SetTable) (n:Nat):Prop where
 gm:Gm t.mask
 size:t.place.size=n
 dum:t.dummies=#[]
 ris:t.place.toList.Pairwise (· < ·)
 le:∀x∈t.place.toList,x<=t.mask
 fit:n<=t.mask
 pl:t.plain=true
theorem DA {t:SetTable} {n j:Nat} (T:TG t n) (hj:j<=t.mask) (hn:t.place[SetTable.below t.place j]?≠some j):TH (t.put j).1 (n+1)∧(t.put j).1.mask=t.mask∧(t.put j).1.led=t.led:=by
 obtain ⟨b1,b2,b3⟩:=NE (j:=j) T.ris
 have hl:(SetTable.insertAt t.place (SetTable.below t.place j) j).toList=t.place.toList.take (SetTable.below t.place j)++j::t.place.toList.drop (SetTable.below t.place j):=by
  rw[SetTable.toList_insertAt]
 have hd:(t.put j).1.dummies=#[]:=by
  show (if SetTable.has t.dummies j=true then _ else t.dummies)=_
  rw[T.dum,if_neg (by simp[SetTable.has])]
 refine ⟨⟨T.gm,?_,hd,?_,?_,?_,T.pl⟩,rfl,rfl⟩
 ·show (SetTable.insertAt t.place (SetTable.below t.place j) j).size=_
  rw[← Array.length_toList,hl,List.length_append,List.length_cons,List.length_take,List.length_drop,Array.length_toList,T.size]
  rw[T.size]at b1
  omega
 ·show (SetTable.insertAt t.place (SetTable.below t.place j) j).toList.Pairwise _
  rw[hl,List.pairwise_append,List.pairwise_cons]
  have hlow:∀x∈t.place.toList.take (SetTable.below t.place j),x < j:=fun x hx=>by
   obtain ⟨q,hq,rfl⟩:=List.mem_take_iff_getElem.mp hx
   have hq':q < t.place.size:=by rw[Array.length_toList]at hq; omega
   have:=b2 q hq' (by omega)
   simpa using this
  have hhi:∀x∈t.place.toList.drop (SetTable.below t.place j),j < x:=fun x hx=>by
   obtain ⟨q,hq,rfl⟩:=List.mem_drop_iff_getElem.mp hx
   have hq':SetTable.below t.place j+q < t.place.size:=by rw[Array.length_toList]at hq; omega
   have h1:=b3 _ hq' (by omega)
   rw[Array.getElem_toList]
   refine Nat.lt_of_le_of_ne h1 fun z=>?_
   by_cases hz:q=0
   ·subst hz
    exact hn (by rw[Array.getElem?_eq_getElem (by omega)]; exact congrArg some z.symm)
   ·have hb:SetTable.below t.place j < t.place.size:=by omega
    have h2:=b3 _ hb (Nat.le_refl _)
    have h3:=List.pairwise_iff_getElem.mp T.ris (SetTable.below t.place j) (SetTable.below t.place j+q) (by simpa using hb) (by simpa using hq') (by omega)
    simp only[Array.getElem_toList]at h3
    omega
  exact ⟨T.ris.sublist (List.take_sublist _ _),⟨hhi,T.ris.sublist (List.drop_sublist _ _)⟩,fun x hx y hy=>by
   rcases List.mem_cons.mp hy with rfl|hy
   ·exact hlow x hx
   ·exact Nat.lt_trans (hlow x hx) (hhi y hy)⟩
 ·intro x hx
  have hx:x∈(SetTable.insertAt t.place (SetTable.below t.place j) j).toList:=hx
  rw[hl]at hx
  rcases List.mem_append.mp hx with hx|hx
  ·exact T.le x (List.mem_of_mem_take hx)
  ·rcases List.mem_cons.mp hx with rfl|hx
   ·exact hj
   ·exact T.le x (List.mem_of_mem_drop hx)
 ·have:=T.room; show n+1<=t.mask; omega
theorem TH.fits {t:SetTable} {n:Nat} (T:TH t n):t.fits n=true:=by
 unfold SetTable.fits SetTable.fill
 rw[T.size,T.dum]
 simp[T.fit]
theorem TG.th {t:SetTable} {n:Nat} (T:TG t n):TH t n:=⟨T.gm,T.size,T.dum,T.ris,T.le,by have:=T.room; omega,T.pl⟩
theorem TG.fits {t:SetTable} {n:Nat} (T:TG t n):t.fits n=true:=T.th.fits
theorem Fr {n:Nat} (h:n < 32):Gm (SetTable.sizeAbove (SetTable.grown n) - 1)∧n * 5 < (SetTable.sizeAbove (SetTable.grown n) - 1) * 3:=by
 have:∀n,n < 32->((fun m=>m=7∨m=15∨m=31∨m=63∨m=127) (SetTable.sizeAbove (SetTable.grown n) - 1))∧n * 5 < (SetTable.sizeAbove (SetTable.grown n) - 1) * 3:=by decide +kernel
 exact this n h
theorem FX {n:Nat} (h:n < 32):Gm (SetTable.sizeAbove (n * 2) - 1)∧n * 5 < (SetTable.sizeAbove (n * 2) - 1) * 3∧SetTable.sizeAbove (n * 2)<=sizeLine:=by
 have:∀n,n < 32->((fun m=>m=7∨m=15∨m=31∨m=63∨m=127) (SetTable.sizeAbove (n * 2) - 1))∧n * 5 < (SetTable.sizeAbove (n * 2) - 1) * 3∧SetTable.sizeAbove (n * 2)<=128:=by decide +kernel
 obtain ⟨a,b,c⟩:=this n h
 exact ⟨a,b,Nat.le_trans c (by rw[sizeLine_eq]; decide)⟩
theorem Jn {t:SetTable} {es:Array (Int × Value)} (T:TG t es.size) (h:Int) (x:Value):∃es' t',layNew t es h x=(es',t',false,false)∧TH t' es'.size∧es'.size=es.size+1∧t'.led=t.led∧t'.mask=t.mask:=by
 obtain ⟨j,e1,e2,e3⟩:=FP T h
 obtain ⟨p1,p2,p3⟩:=DA T (FU T e1) e2
 have hs:(SetTable.insertAt es (t.put j).2 (h,x)).size=es.size+1:=by
  have:=(SetTable.insertAt_perm es (t.put j).2 (h,x)).length_eq
  rw[Array.length_toList,Array.length_toList,Array.size_push]at this
  exact this
 have hf:=p1.fits
 refine ⟨SetTable.insertAt es (t.put j).2 (h,x),(t.put j).1,?_,by rw[hs]; exact p1,hs,p3,p2⟩
 unfold layNew
 rw[e1]
 show (SetTable.insertAt es (t.put j).2 (h,x),(t.put j).1.orStandIn (SetTable.insertAt es (t.put j).2 (h,x)).size,false,!(t.put j).1.fits (SetTable.insertAt es (t.put j).2 (h,x)).size)=_
 rw[hs,hf]
 unfold SetTable.orStandIn
 rw[hf]
 rfl
theorem Nd {t:SetTable} {es:Array (Int × Value)} (T:TH t es.size) (h:es.size < 32):∃es' t',relayAll t es (SetTable.grown es.size)=(es',t',false)∧TG t' es'.size∧es'.size=es.size∧t'.led=t.led:=by
 obtain ⟨g1,g2⟩:=Fr h
 obtain ⟨t',o,e1,e2,e3,e4,e5⟩:=OP (f:=t.finger) (mv:=t.movedTo (SetTable.sizeAbove (SetTable.grown es.size) - 1)) (led:=t.led) g1 (hs:=es.map (·.1)) (by rw[Array.size_map]; exact g2)
 rw[Array.size_map]at e2 e3
 have hr:t.relaid (es.map (·.1)) (SetTable.grown es.size)=some (t',o):=by
  unfold SetTable.relaid
  rw[T.pl]; exact e1
 have hc:coversAll o es.size=true:=by
  unfold coversAll
  exact List.isPerm_iff.mpr e2
 have hp:=relayAll_perm t es (SetTable.grown es.size)
 have hsz:(o.filterMap (es[·]?)).size=es.size:=by
  rw[← Array.length_toList,Array.toList_filterMap]
  rw[(e2.filterMap _).length_eq,PySem.filterMap_getElem?_range,Array.length_toList]
 refine ⟨o.filterMap (es[·]?),t',?_,by rw[hsz]; exact e3,hsz,e5⟩
 unfold relayAll
 rw[hr]
 dsimp only
 rw[hsz,hc,e3.fits]
 rfl
end Tb
open PySem PyProof.Rows
namespace Tb
def EIn (e:Int × Value) (k:Int):Prop:=e.1=hashInt k∧∃t,e.2=.int k t
def SetL (bt:Bool) (h:Heap) (a:Addr) (ks:List Int):Prop :=
 ∃o es ep t,h.get? a=some o∧o.ExactSet∧o.data=.set es ep t∧(∃js,Paired EIn es.toList js∧js.Perm ks)∧ks.Nodup∧TG t es.size∧(bt=false->t.led=true)
theorem Ur {α γ:Type} {R:α->γ->Prop}:∀{xs:List α} {ys:List γ},Paired R xs ys->xs.length=ys.length
 |_,_,.nil=>rfl
 |_,_,.cons _ h=>congrArg (·+1) (Ur h)
theorem Ui {α γ:Type} {R:α->γ->Prop}:∀{xs:List α} {ys:List γ} {x:α},Paired R xs ys->x∈xs->∃y∈ys,R x y
 |_,_,_,.nil,h=>nomatch h
 |_,_,_,.cons r p,h=>by
  rcases List.mem_cons.mp h with rfl|h
  ·exact ⟨_,.head _,r⟩
  ·obtain ⟨y,h1,h2⟩:=Ui p h
   exact ⟨y,.tail _ h1,h2⟩
theorem RP {α γ:Type} {R:α->γ->Prop}:∀{xs:List α} {ys:List γ} {y:γ},Paired R xs ys->y∈ys->∃x∈xs,R x y
 |_,_,_,.nil,h=>nomatch h
 |_,_,_,.cons r p,h=>by
  rcases List.mem_cons.mp h with rfl|h
  ·exact ⟨_,.head _,r⟩
  ·obtain ⟨y,h1,h2⟩:=RP p h
   exact ⟨y,.tail _ h1,h2⟩
theorem XM {α γ:Type} {R:α->γ->Prop} {xs xs':List α} (p:xs'.Perm xs):∀{ys:List γ},Paired R xs ys->∃ys',Paired R xs' ys'∧ys'.Perm ys:=by
 induction p with
 |nil=>intro ys h; exact ⟨ys,h,.refl _⟩
 |cons x _ ih =>
  intro ys h
  cases h with
  |cons r h =>
   obtain ⟨ys',h1,h2⟩:=ih h
   exact ⟨_,.cons r h1,h2.cons _⟩
 |swap x y l =>
  intro ys h
  cases h with
  |cons r1 h =>
   cases h with
   |cons r2 h=>exact ⟨_,.cons r2 (.cons r1 h),List.Perm.swap _ _ _⟩
 |trans _ _ ih1 ih2 =>
  intro ys h
  obtain ⟨y1,h1,h2⟩:=ih2 h
  obtain ⟨y2,h3,h4⟩:=ih1 h1
  exact ⟨y2,h3,h4.trans h2⟩
section
variable {prog:Program} {w:World} {A:Around} {E:Value->Shared->Prop} {s:Shared} {a:Addr} {bt:Bool} {ks:List Int}
theorem E9 {es:List (Int × Value)} {js:List Int} (p:Paired EIn es js):ElemsOf (intKind prog w) es:=fun e he=>by
 obtain ⟨k,_,h1,t,h2⟩:=Ui p he
 rw[h2]
 exact ⟨⟨k,intKind_is _ _ _ _,h1⟩,rfl⟩
theorem HM {es:List (Int × Value)} {js:List Int} (p:Paired EIn es js) (k:Int):k∈js ↔ ∃e∈es,(intKind prog w).is k e.2=true:=by
 constructor
 ·intro h
  obtain ⟨e,h1,_,t,h2⟩:=RP p h
  exact ⟨e,h1,by rw[h2]; exact intKind_is _ _ _ _⟩
 ·rintro ⟨e,h1,h2⟩
  obtain ⟨j,hj,_,t,h3⟩:=Ui p h1
  rw[h3]at h2
  have:=(intKind prog w).inj _ k j h2 (intKind_is _ _ _ _)
  rw[this]; exact hj
theorem SetL.len {h:Heap} (S:SetL bt h a ks) {o:Obj} {es:Array (Int × Value)} {ep:Nat} {t:SetTable} (ho:h.get? a=some o) (hd:o.data=.set es ep t):es.size=ks.length:=by
 obtain ⟨o',es',ep',t',h1,_,h2,⟨js,h3,h4⟩,_⟩:=S
 rw[ho]at h1
 cases h1
 rw[hd]at h2
 cases h2
 rw[← Array.length_toList,Ur h3,h4.length_eq]
theorem SetL.of {h:Heap} (S:SetL bt h a ks) (hb:ks.length < scanBound):h.SetOf (intKind prog w) a (fun k=>ks.contains k) ks.length:=by
 obtain ⟨o,es,ep,t,h1,h2,h3,⟨js,h4,h5⟩,nd,T,_⟩:=S
 have hl:es.size=ks.length:=by rw[← Array.length_toList,Ur h4,h5.length_eq]
 refine ⟨o,es,ep,t,h1,h2,h3,E9 h4,fun k=>?_,by rw[hl]; exact hb,T.fits,hl⟩
 rw[← HM h4 k,h5.mem_iff]
 simp
theorem SetL.keep {h h':Heap} (S:SetL bt h a ks) (k:∀o,h.get? a=some o->h'.get? a=some o):SetL bt h' a ks :=
 let ⟨o,es,ep,t,h1,r⟩:=S; ⟨o,es,ep,t,k o h1,r⟩
theorem W2 {h:Heap} {o:Obj} {es es':Array (Int × Value)} {ep:Nat} {t t':SetTable} {js:List Int} (ho:h.get? a=some o) (hx:o.ExactSet) (hd:o.data=.set es ep t)
    (p:Paired EIn es'.toList js) (q:js.Perm ks) (nd:ks.Nodup) (T:TG t' es'.size) (hl:bt=false->t'.led=true):SetL bt (h.update a (Obj.putSet es' t')) a ks:=by
 have e:=putSet_of es' t' hd
 have g:=Heap.get?_update_self (Obj.putSet es' t') ho (by rw[e]; rfl)
 rw[e]at g
 exact ⟨_,es',ep+1,t',g,hx,rfl,⟨js,p,q⟩,nd,T,hl⟩
def Uq (ks:List Int) (k:Int):List Int:=if ks.contains k=true then ks else ks++[k]
theorem Ip (ks:List Int) (k:Int):(Uq ks k).length<=ks.length+1:=by unfold Uq; split <;> simp
theorem Up {k:Int} {tk:Tok} {Q:Bool->Shared->Prop} (S:SetL bt s.heap a ks) (hr:ks.length+1 < 32)
    (q:∀h',Heap.SameBut a s.heap h'->SetL bt h' a (Uq ks k)->Q (!ks.contains k) { s with heap:=h' }):wpAny (model prog w) A (setAddHashed a (.int k tk) (hashInt k)) Q E s:=by
 have S0:=S
 obtain ⟨o,es,ep,t,ho,hx,hd,⟨js,hp,hq⟩,nd,T,hl⟩:=S
 have hsz:es.size=ks.length:=S0.len ho hd
 have el:ElemsOf (intKind prog w) es.toList:=E9 hp
 have hk:(intKind prog w).is k (.int k tk)=true:=intKind_is _ _ _ _
 unfold setAddHashed setAddHashedIn
 refine wpAny_holding (wpAny_bind (wpAny_setState_of ho hd T.fits ?_))
 dsimp only
 rw[byScan_of (knd:=intKind prog w) rfl (by unfold scanBound; omega) el,if_pos rfl]
 unfold setAddByScan
 refine wpAny_bind (wpAny_bind (wpAny_rule (wpAny_bind ?_)))
 refine wpAny_setScan_of (knd:=intKind prog w) (k:=k) hk ho hd T.fits el ?_
 cases hf:es.toList.findIdx? (fun e=>(intKind prog w).is k e.2) with
 |some j =>
  obtain ⟨hj,hpj,_⟩:=List.findIdx?_eq_some_iff_getElem.mp hf
  have hin:ks.contains k=true:=by simpa using hq.mem_iff.mp ((HM (prog:=prog) (w:=w) hp k).mpr ⟨_,List.getElem_mem hj,hpj⟩)
  have z:=q s.heap (Heap.SameBut.refl a s.heap) (by unfold Uq; rw[if_pos hin]; exact S0)
  rw[hin]at z
  exact wpAny_pure (wpAny_pure z)
 |none =>
  have hout:ks.contains k=false:=by
   cases hc:ks.contains k with
   |false=>rfl
   |true =>
    obtain ⟨e,he,hi⟩:=(HM (prog:=prog) (w:=w) hp k).mp (hq.mem_iff.mpr (by simpa using hc))
    have:=List.findIdx?_eq_none_iff.mp hf e he
    rw[hi]at this; cases this
  have hadd:Uq ks k=ks++[k]:=by unfold Uq; rw[hout]; rfl
  obtain ⟨es1,t1,e1,T1,e2,e3,e4⟩:=Jn T (hashInt k) (.int k tk)
  have pm:=layNew_perm t es (hashInt k) (.int k tk)
  rw[e1,Array.toList_push]at pm
  have pm:es1.toList.Perm (es.toList++[(hashInt k,Value.int k tk)]):=pm
  obtain ⟨js1,p1,q1⟩:=XM pm (Paired.snoc hp (b:=k) ⟨rfl,tk,rfl⟩)
  have q2:js1.Perm (ks++[k]):=q1.trans (hq.append_right [k])
  have nd2:(ks++[k]).Nodup:=by
   rw[List.nodup_append]
   refine ⟨nd,by simp,fun x hx y hy=>?_⟩
   rw[List.mem_singleton]at hy
   subst hy
   intro z
   subst z
   rw[List.contains_iff_mem.mpr hx]at hout; cases hout
  rw[e1]
  dsimp only
  refine wpAny_bind (show wpAny (model prog w) A (pure ()) _ _ _ from wpAny_pure ?_)
  rw[T1.pl,if_pos rfl,hashByValue_scannable 8 (x:=.int k tk) rfl]
  refine wpAny_bind (wpAny_pure ?_)
  rw[if_pos (show plainKind (Value.int k tk)=true from rfl)]
  have hsz1:es1.size<=sizeLine:=by rw[sizeLine_eq]; omega
  refine wpAny_bind (wpAny_storeSet_of ho hd ?_ hsz1)
  have sb:=Heap.SameBut.update s.heap a (Obj.putSet es1 t1)
  by_cases hfull:t1.tooFull=true
  ·rw[if_pos (by rw[hfull]; rfl)]
   obtain ⟨es2,t2,f1,T2,f2,f3⟩:=Nd T1 (by omega)
   have pr:=relayAll_perm t1 es1 (SetTable.grown es1.size)
   rw[f1]at pr ⊢
   have pr:es2.toList.Perm es1.toList:=pr
   obtain ⟨js2,p2,q3⟩:=XM pr p1
   dsimp only
   refine wpAny_bind (show wpAny (model prog w) A (pure ()) _ _ _ from wpAny_pure ?_)
   have g1:=Heap.get?_update_self (Obj.putSet es1 t1) ho (by rw[putSet_of es1 t1 hd]; rfl)
   rw[putSet_of es1 t1 hd]at g1
   refine wpAny_bind (wpAny_storeSet_of g1 rfl ?_ (by rw[f2]; exact hsz1))
   refine wpAny_pure (wpAny_pure ?_)
   have z:=q _ (sb.trans (Heap.SameBut.update _ a (Obj.putSet es2 t2))) (by rw[hadd]; exact W2 (o:={ o with data:=.set es1 (ep+1) t1 }) g1 hx rfl p2 (q3.trans q2) nd2 T2 (fun z=>by rw[f3,e3]; exact hl z))
   rw[hout]at z
   exact z
  ·rw[if_neg (by simpa using hfull)]
   have T2:TG t1 es1.size:=⟨T1.gm,T1.size,T1.dum,T1.ris,T1.le,by
    have hn:¬ (t1.fill * 5 ≥ t1.mask * 3):=fun z=>hfull (by unfold SetTable.tooFull; exact decide_eq_true z)
    have hfl:t1.fill=es1.size:=by unfold SetTable.fill; rw[T1.size,T1.dum]; rfl
    omega,T1.pl⟩
   refine wpAny_pure (wpAny_pure ?_)
   have z:=q _ sb (by rw[hadd]; exact W2 ho hx hd p1 q2 nd2 T2 (fun z=>by rw[e3]; exact hl z))
   rw[hout]at z
   exact z
theorem OI (bt:Bool) (h:Heap):SetL bt (h.push { cls:=.type "set",dict:=none,data:=.set #[] 0 (.fresh 0 0 (!bt)) }) h.objs.size [] :=
 ⟨_,#[],0,_,Heap.get?_push_size _ rfl,⟨rfl,rfl,rfl⟩,rfl,⟨[],.nil,.refl _⟩,List.nodup_nil,⟨.inl rfl,rfl,rfl,List.Pairwise.nil,fun x hx=>(by simp[SetTable.fresh]at hx),(show 0 * 5 < 7 * 3 by decide),rfl⟩,fun h=>by subst h; rfl⟩
abbrev Y9 (bt:Bool):Obj:={ cls:=.type "set",dict:=none,data:=.set #[] 0 (.fresh 0 0 (!bt)) }
theorem Rc {Q:Value->Shared->Prop} (q:Q (.ref s.heap.objs.size) { s with heap:=s.heap.push (Y9 (w.params.followText "set-order")) }):wpAny (model prog w) A (newSet (.type "set")) Q E s:=by
 unfold newSet setsByText
 refine wpAny_bind (wpAny_bind (wpAny_askSetting (wpAny_pure ?_)))
 dsimp only
 simp only[newObj]
 exact wpAny_bind (wpAny_alloc (wpAny_pure q))
theorem Sk {n:Nat} {Q:Unit->Shared->Prop} (S:SetL bt s.heap a []) (hn:n < 32) (q:∀h',Heap.SameBut a s.heap h'->(∃o es ep t,h'.get? a=some o∧o.ExactSet∧o.data=.set es ep t∧es=#[]∧TG t 0∧n * 5 < t.mask * 3∧(bt=false->t.led=true))->Q () { s with heap:=h' }):wpAny (model prog w) A (setRoomFor a n) Q E s:=by
 have S0:=S
 obtain ⟨o,es,ep,t,ho,hx,hd,⟨js,hp,hq⟩,nd,T,hl⟩:=S
 have hsz:es.size=0:=S0.len ho hd
 have hes:es=#[]:=Array.eq_empty_of_size_eq_zero hsz
 subst hes
 unfold setRoomFor
 refine wpAny_bind (wpAny_setState_of ho hd T.fits ?_)
 dsimp only
 have hfl:t.fill=0:=by unfold SetTable.fill; rw[T.size,T.dum]; rfl
 unfold SetTable.roomFor
 rw[hfl,T.size]
 by_cases hc:(0+n) * 5 ≥ t.mask * 3
 ·rw[if_pos hc]
  dsimp only
  unfold setRelay
  refine wpAny_bind (wpAny_setState_of ho hd T.fits ?_)
  dsimp only
  have h0:(#[]:Array (Int × Value)).size+n=n:=Nat.zero_add n
  rw[h0]
  obtain ⟨r1,r2,r3⟩:=FX hn
  rw[if_neg (Nat.not_lt.mpr r3)]
  obtain ⟨t',o',e1,e2,e3,e4,e5⟩:=OP (f:=t.finger) (mv:=t.movedTo (SetTable.sizeAbove (n * 2) - 1)) (led:=t.led) r1 (hs:=#[]) (by show 0 * 5 < _; omega)
  have hr:t.relaid ((#[]:Array (Int × Value)).map (·.1)) (n * 2)=some (t',o'):=by unfold SetTable.relaid; rw[T.pl,show (#[]:Array (Int × Value)).map (·.1)=#[] from by simp]; exact e1
  rw[hr]
  have ho':o'=#[]:=Array.eq_empty_of_size_eq_zero (by rw[← Array.length_toList,e2.length_eq]; rfl)
  subst ho'
  refine wpAny_bind (show wpAny (model prog w) A (pure ((#[]:Array (Int × Value)),t')) _ _ _ from wpAny_pure ?_)
  refine wpAny_storeSet_of ho hd ?_ (by show 0<=sizeLine; exact Nat.zero_le _)
  have e:=putSet_of #[] t' hd
  have g:=Heap.get?_update_self (Obj.putSet #[] t') ho (by rw[e]; rfl)
  rw[e]at g
  exact q _ (Heap.SameBut.update s.heap a _) ⟨_,#[],ep+1,t',g,hx,rfl,rfl,e3,by rw[e4]; exact r2,fun z=>by rw[e5]; exact hl z⟩
 ·rw[if_neg hc]
  have z:=q s.heap (Heap.SameBut.refl a s.heap) ⟨o,#[],ep,t,ho,hx,hd,rfl,T,by omega,hl⟩
  exact wpAny_pure z
end
end Tb
open PySem PyProof.Rows
namespace Tb
theorem RJ {α:Type}:∀(l:List α) (i:Nat) (h:i < l.length),(l[i]::l.eraseIdx i).Perm l
 |[],i,h=>absurd h (Nat.not_lt_zero _)
 |x::l,0,h=>.refl _
 |x::l,i+1,h=>(List.Perm.swap x _ _).trans ((RJ l i (Nat.lt_of_succ_lt_succ h)).cons x)
theorem Kk {α:Type} (next:Nat->Nat):∀(fuel k:Nat) (left:List α) (out:Array α),left.length=fuel->(pickOrder.go next fuel k left out).toList.Perm (out.toList++left)
 |0,k,left,out,h=>by
  have:left=[]:=List.length_eq_zero_iff.mp h
  subst this
  rw[List.append_nil]
  exact .refl _
 |fuel+1,k,left,out,h=>by
  have hi:next k % left.length < left.length:=Nat.mod_lt _ (by omega)
  unfold pickOrder.go
  rw[List.getElem?_eq_getElem hi]
  dsimp only
  refine (Kk next fuel (k+1) _ _ (by rw[List.length_eraseIdx_of_lt hi]; omega)).trans ?_
  rw[Array.toList_push,List.append_assoc]
  refine List.Perm.append_left _ ?_
  show (left[next k % left.length]::left.eraseIdx (next k % left.length)).Perm left
  exact RJ left _ hi
theorem KH {α:Type} (next:Nat->Nat) (xs:Array α):(pickOrder next xs).toList.Perm xs.toList:=by
 have:=Kk next xs.size 0 xs.toList #[] (Array.length_toList)
 simpa [pickOrder] using this
section
variable {prog:Program} {w:World} {A:Around} {E:Value->Shared->Prop} {s:Shared} {a:Addr} {ks:List Int}
abbrev byT (w:World):Bool:=w.params.followText "set-order"
def VD (w:World) (a:Addr) (ep:Nat) (es:Array (Int × Value)):Array (Int × Value):=if byT w=true then pickOrder (w.params.setOrder a ep) es else es
theorem Xz (w:World) (a:Addr) (ep:Nat) (es:Array (Int × Value)):(VD w a ep es).toList.Perm es.toList:=by
 unfold VD
 split
 ·exact KH _ _
 ·exact .refl _
theorem Ud {o:Obj} {es:Array (Int × Value)} {ep:Nat} {t:SetTable} {Q:Array (Int × Value)->Shared->Prop} (ho:s.heap.get? a=some o) (hd:o.data=.set es ep t) (T:TG t es.size) (hl:byT w=false->t.led=true)
    (q:Q (VD w a ep es) s):wpAny (model prog w) A (setWalk a) Q E s:=by
 unfold setWalk
 refine wpAny_bind (wpAny_setState_of ho hd T.fits ?_)
 dsimp only
 unfold setsByText
 refine wpAny_bind (wpAny_bind (wpAny_askSetting (wpAny_pure ?_)))
 unfold VD at q
 cases hb:byT w with
 |true =>
  rw[hb,if_pos rfl]at q
  have hb:w.params.followText "set-order"=true:=hb
  show wpAny _ _ (if w.params.followText "set-order"=true then _ else _) _ _ _
  rw[hb,if_pos rfl]
  exact wpAny_bind (wpAny_askSetting (wpAny_pure q))
 |false =>
  rw[hb,if_neg Bool.false_ne_true]at q
  have hb':w.params.followText "set-order"=false:=hb
  show wpAny _ _ (if w.params.followText "set-order"=true then _ else if (!t.plain&&decide (es.size > 1))=true then _ else ((if (!t.led&&decide (es.size > 1))=true then _ else pure ()) >>= _)) _ _ _
  rw[hb',if_neg Bool.false_ne_true,T.pl,hl hb]
  exact wpAny_bind (wpAny_pure (wpAny_pure q))
theorem TU {o:Obj} {es:Array (Int × Value)} {ep:Nat} {t:SetTable} {os:List Addr} {f:Option Addr} {Q:Array (Int × Value)->Shared->Prop} (ho:s.heap.get? a=some o) (hd:o.data=.set es ep t) (T:TG t es.size) (hl:byT w=false->t.led=true)
    (q:Q (VD w a ep es) s):wpAny (model prog w) A (setWalkUnseen a os f) Q E s:=by
 unfold setWalkUnseen
 refine wpAny_bind (wpAny_setState_of ho hd T.fits ?_)
 dsimp only
 unfold setsByText
 refine wpAny_bind (wpAny_bind (wpAny_askSetting (wpAny_pure ?_)))
 show wpAny _ _ (if (w.params.followText "set-order" || t.led&&t.plain || decide (es.size<=1))=true then _ else _) _ _ _
 rw[if_pos]
 ·exact Ud ho hd T hl q
 ·cases hb:byT w with
  |true=>rw[show w.params.followText "set-order"=true from hb]; rfl
  |false=>rw[show w.params.followText "set-order"=false from hb,hl hb,T.pl]; rfl
theorem OU:Manifest.owners.lookup (String.ofList ['r','o','t','a','r','e','t','i','_','t','e','s'].reverse)=some Manifest.sig_set_iterator:=by kernel_rfl
theorem VO:PySem.Slot "set_iterator" "__next__" "set_iterator.__next__" :=
 PySem.Slot.of (owner:="set_iterator") (n:="__next__") (by rw[typeLookup_type,builtinLookup_eq_fast]; kernel_rfl) (by decide +kernel) (by decide +kernel) (by decide +kernel)
  (by first|exact .inl (by decide +kernel)|exact .inr (by decide +kernel)) (by rw[isSubtype_type]; kernel_rfl)
theorem Io:entryFor table "set_iterator.__next__"=some Builtin.«set_iterator.__next__»:=entryFor_of_tree (by kernel_rfl)
theorem LS (v:Value):argsOk "set_iterator.__next__" ⟨[v],[]⟩:=by
 unfold argsOk; rw[signature?_of (id:="set_iterator.__next__") (n:=['_','_','t','x','e','n','_','_']) (o:=['r','o','t','a','r','e','t','i','_','t','e','s']) (by kernel_rfl) OU]; kernel_rfl
theorem Hz:entryFor table "set.__iter__"=some Builtin.«frozenset.__iter__» :=
 entryFor_alias (id':="frozenset.__iter__") (by kernel_rfl) rfl (by decide +kernel) (by kernel_rfl)
def IN (w:World) (t:SetTable) (i slot:Nat):Prop:=byT w=false->∀q (h:q < t.place.size),(q < i->t.place[q] < slot)∧(i<=q->slot<=t.place[q])
def JL (w:World) (h:Heap) (I a:Addr) (o:Obj) (i:Nat):Prop:=h.get? a=some o∧∃es ep t slot oi,o.data=.set es ep t∧TG t es.size∧(byT w=false->t.led=true)∧IN w t i slot∧h.get? I=some oi∧oi.cls=.type "set_iterator"∧oi.data=.fields #[.int slot 0,.int i 0,.ref a,.int es.size 0,.int ep 0]
theorem TD {o:Obj} {es:Array (Int × Value)} {ep:Nat} {t:SetTable} {Q:Value->Shared->Prop} (ho:s.heap.get? a=some o) (hx:o.ExactSet) (hd:o.data=.set es ep t) (T:TG t es.size) (hl:byT w=false->t.led=true)
    (q:Q (.ref s.heap.objs.size) { s with heap:=s.heap.push { cls:=.type "set_iterator",data:=.fields #[.int 0 0,.int 0 0,.ref a,.int es.size 0,.int ep 0] } }) :
    wpAny (model prog w) A (pyIter (.ref a)) Q E s:=by
 have hT:s.TypeIs (.ref a) "set":=⟨o,ho,hx.1⟩
 refine wpAny_pyIter_slot hT PySem.F.slot_set_iter (wpAny_call_entry PySem.F.slot_set_iter hT Hz ?_ (PySem.F.args_set_iter_1 _))
 unfold Builtin.«frozenset.__iter__» Builtin.Frozenset.slot0 slotArgs
 simp only[List.isEmpty_nil,Bool.not_true,Bool.false_eq_true,↓reduceIte,bind_assoc,List.length_nil,bne_self_eq_false]
 unfold Builtin.Frozenset.addrOf Builtin.Frozenset.sizeOf
 refine wpAny_bind (wpAny_pure ?_)
 try dsimp only
 refine wpAny_bind (wpAny_pure ?_)
 refine wpAny_bind (wpAny_bind (wpAny_setEntries_of ho hd T.fits (wpAny_pure ?_)))
 refine wpAny_bind ?_
 unfold setDrawn
 refine wpAny_bind (wpAny_setState_of ho hd T.fits ?_)
 dsimp only
 unfold setsByText
 refine wpAny_bind (wpAny_bind (wpAny_askSetting (wpAny_pure ?_)))
 refine wpAny_pure ?_
 show wpAny _ _ (if (!w.params.followText "set-order"&&(!t.plain&&decide (es.size > 1)))=true then _ else _) _ _ _
 rw[T.pl,if_neg (by simp)]
 refine wpAny_bind (wpAny_pure ?_)
 refine wpAny_bind (wpAny_setEpoch_of ho hd T.fits ?_)
 refine wpAny_bind (wpAny_newObj_type (wpAny_pure ⟨_,rfl,"set_iterator",_,⟨_,Heap.get?_push_size _ rfl,rfl⟩,VO.lookup,?_⟩))
 exact q
theorem N7 {t:SetTable} {n i slot:Nat} (T:TG t n) (hi:i<=n) (hs:∀q (h:q < t.place.size),(q < i->t.place[q] < slot)∧(i<=q->slot<=t.place[q])):SetTable.below t.place slot=i:=by
 obtain ⟨b1,b2,b3⟩:=NE (j:=slot) T.ris
 have hz:=T.size
 rcases Nat.lt_trichotomy (SetTable.below t.place slot) i with h|h|h
 ·have h1:=(hs (SetTable.below t.place slot) (by omega)).1 h
  have h2:=b3 (SetTable.below t.place slot) (by omega) (Nat.le_refl _)
  omega
 ·exact h
 ·have h1:=(hs i (by omega)).2 (Nat.le_refl _)
  have h2:=b2 i (by omega) h
  omega
theorem SC {I:Addr} {o:Obj} {i:Nat} {es:Array (Int × Value)} {ep:Nat} {t:SetTable} {e:Int × Value} {Q:Option Value->Shared->Prop} (hne:a≠I) (st:JL w s.heap I a o i) (hd:o.data=.set es ep t) (he:(VD w a ep es)[i]?=some e)
    (q:∀h',JL w h' I a o (i+1)->Heap.SameBut I s.heap h'->Q (some e.2) { s with heap:=h' }):wpAny (model prog w) A (pyNext (.ref I)) Q E s:=by
 obtain ⟨ho,es',ep',t',slot,oi,hd',T,hl,hs,hi,hc,hf⟩:=st
 rw[hd]at hd'
 cases hd'
 have hT:s.TypeIs (.ref I) "set_iterator":=⟨oi,hi,hc⟩
 have hlt:i < es.size:=by
  have h1:=(Array.getElem?_eq_some_iff.mp he).1
  have h2:=(Xz w a ep es).length_eq
  rw[Array.length_toList,Array.length_toList]at h2
  omega
 have two:∀(sl:Nat),IN w t (i+1) sl->JL w ((s.heap.update I (Obj.mapFields (·.setIfInBounds 0 (rawInt (sl:Int))))).update I (Obj.mapFields (·.setIfInBounds 1 (rawInt ((i:Int)+1))))) I a o (i+1):=fun sl hsl=>by
  have g1:(s.heap.update I (Obj.mapFields (·.setIfInBounds 0 (rawInt (sl:Int))))).get? I=some _:=Heap.get?_update_self _ hi (Obj.isFreed_of_fields (Obj.data_mapFields hf _))
  have d1:=Obj.data_mapFields hf (·.setIfInBounds 0 (rawInt (sl:Int)))
  have g2:=Heap.get?_update_self (Obj.mapFields (·.setIfInBounds 1 (rawInt ((i:Int)+1)))) g1 (Obj.isFreed_of_fields (Obj.data_mapFields d1 _))
  refine ⟨(Heap.get?_update_other _ _ (Ne.symm hne)).trans ((Heap.get?_update_other _ _ (Ne.symm hne)).trans ho),es,ep,t,sl,_,hd,T,hl,hsl,g2,(Obj.cls_mapFields ..).trans ((Obj.cls_mapFields ..).trans hc),?_⟩
  rw[Obj.data_mapFields d1]
  simp[rawInt]
 unfold pyNext
 refine wpAny_bind (wpAny_attempt (wpAny_callSpecial?_slot (name:=Str.ofString "__next__") hT VO (wpAny_call_entry VO hT Io ?_ (LS _))))
 unfold Builtin.«set_iterator.__next__» slotArgs
 simp only[List.isEmpty_nil,Bool.not_true,Bool.false_eq_true,↓reduceIte,bind_assoc,List.length_nil,bne_self_eq_false]
 refine wpAny_bind (wpAny_pure ?_)
 refine wpAny_bind (wpAny_fieldsOf hi hf ?_)
 dsimp only
 refine wpAny_bind (wpAny_setEntries_of ho hd T.fits ?_)
 rw[if_neg (by simp)]
 refine wpAny_bind ?_
 unfold setNext
 refine wpAny_bind (wpAny_setState_of ho hd T.fits ?_)
 dsimp only
 unfold setsByText
 refine wpAny_bind (wpAny_bind (wpAny_askSetting (wpAny_pure ?_)))
 cases hb:byT w with
 |true =>
  have hb':w.params.followText "set-order"=true:=hb
  show wpAny _ _ (if w.params.followText "set-order"=true then _ else _) _ _ _
  rw[hb',if_pos rfl]
  rw[if_neg (by simp)]
  refine wpAny_bind (Ud ho hd T hl (wpAny_pure ?_))
  simp only[Int.toNat_natCast]
  rw[he]
  show wpAny _ _ (setField (.ref I) 0 (rawInt _) >>= _) _ _ _
  refine wpAny_bind (wpAny_setField hi hf (by simp) ?_)
  have g1:=Heap.get?_update_self (Obj.mapFields (·.setIfInBounds 0 (rawInt ((slot:Nat):Int)))) hi (Obj.isFreed_of_fields (Obj.data_mapFields hf _))
  have d1:=Obj.data_mapFields hf (·.setIfInBounds 0 (rawInt ((slot:Nat):Int)))
  refine wpAny_bind (wpAny_setField g1 d1 (by simp) ?_)
  refine wpAny_pure ⟨_,rfl,wpAny_pure (q _ (two slot fun z=>?_) ?_)⟩
  ·rw[hb]at z; cases z
  ·exact (Heap.SameBut.update ..).trans (Heap.SameBut.update ..)
 |false =>
  have hb':w.params.followText "set-order"=false:=hb
  have hw:VD w a ep es=es:=by unfold VD; rw[hb]; rfl
  rw[hw]at he
  have hbel:=N7 T (Nat.le_of_lt hlt) (hs hb)
  have hpl:i < t.place.size:=by rw[T.size]; exact hlt
  show wpAny _ _ (if w.params.followText "set-order"=true then _ else if (!t.plain&&decide (es.size > 1))=true then _ else ((if (!t.led&&!es.isEmpty)=true then _ else pure ()) >>= _)) _ _ _
  rw[hb',if_neg Bool.false_ne_true,T.pl,hl hb]
  refine wpAny_bind (wpAny_pure ?_)
  simp only[Int.toNat_natCast]
  rw[hbel,he,Array.getElem?_eq_getElem hpl]
  refine wpAny_pure ?_
  show wpAny _ _ (setField (.ref I) 0 (rawInt _) >>= _) _ _ _
  refine wpAny_bind (wpAny_setField hi hf (by simp) ?_)
  have g1:=Heap.get?_update_self (Obj.mapFields (·.setIfInBounds 0 (rawInt ((t.place[i]+1:Nat):Int)))) hi (Obj.isFreed_of_fields (Obj.data_mapFields hf _))
  have d1:=Obj.data_mapFields hf (·.setIfInBounds 0 (rawInt ((t.place[i]+1:Nat):Int)))
  refine wpAny_bind (wpAny_setField g1 d1 (by simp) ?_)
  refine wpAny_pure ⟨_,rfl,wpAny_pure (q _ (two (t.place[i]+1) fun _ p hp=>?_) ?_)⟩
  ·have inc:∀x y (hx:x < t.place.size) (hy:y < t.place.size),x < y->t.place[x] < t.place[y]:=fun x y hx hy hxy=>by
    have:=List.pairwise_iff_getElem.mp T.ris x y (by simpa using hx) (by simpa using hy) hxy
    simpa using this
   constructor
   ·intro z
    by_cases hz:p=i
    ·subst hz; omega
    ·have:=inc p i hp hpl (by omega); omega
   ·intro z
    exact inc i p hpl hp (by omega)
  ·exact (Heap.SameBut.update ..).trans (Heap.SameBut.update ..)
theorem Rp {I:Addr} {o:Obj} {es:Array (Int × Value)} {ep:Nat} {t:SetTable} {Q:Option Value->Shared->Prop} (hh:A.handled=none) (st:JL w s.heap I a o es.size) (hd:o.data=.set es ep t)
    (q:∀h',Heap.ExtBut I s.heap h'->Q none { s with heap:=h' }):wpAny (model prog w) A (pyNext (.ref I)) Q E s:=by
 obtain ⟨ho,es',ep',t',slot,oi,hd',T,hl,hs,hi,hc,hf⟩:=st
 rw[hd]at hd'
 cases hd'
 have hT:s.TypeIs (.ref I) "set_iterator":=⟨oi,hi,hc⟩
 unfold pyNext
 refine wpAny_bind (wpAny_attempt (wpAny_callSpecial?_slot (name:=Str.ofString "__next__") hT VO (wpAny_call_entry VO hT Io ?_ (LS _))))
 unfold Builtin.«set_iterator.__next__» slotArgs
 simp only[List.isEmpty_nil,Bool.not_true,Bool.false_eq_true,↓reduceIte,bind_assoc,List.length_nil,bne_self_eq_false]
 refine wpAny_bind (wpAny_pure ?_)
 refine wpAny_bind (wpAny_fieldsOf hi hf ?_)
 dsimp only
 refine wpAny_bind (wpAny_setEntries_of ho hd T.fits ?_)
 rw[if_neg (by simp)]
 refine wpAny_bind ?_
 unfold setNext
 refine wpAny_bind (wpAny_setState_of ho hd T.fits ?_)
 dsimp only
 unfold setsByText
 refine wpAny_bind (wpAny_bind (wpAny_askSetting (wpAny_pure ?_)))
 have hwl:(VD w a ep es).size=es.size:=by
  have h2:=(Xz w a ep es).length_eq
  rw[Array.length_toList,Array.length_toList]at h2
  exact h2
 cases hb:byT w with
 |true =>
  have hb':w.params.followText "set-order"=true:=hb
  show wpAny _ _ (if w.params.followText "set-order"=true then _ else _) _ _ _
  rw[hb',if_pos rfl]
  rw[if_neg (by simp)]
  refine wpAny_bind (Ud ho hd T hl (wpAny_pure ?_))
  simp only[Int.toNat_natCast]
  rw[Array.getElem?_eq_none (by omega)]
  show wpAny _ _ (setField (.ref I) 2 .none >>= _) _ _ _
  refine wpAny_bind (wpAny_setField hi hf (by simp) ?_)
  show wpAny _ _ (newExc (.type "StopIteration") [] >>= _) _ _ _
  refine wpAny_bind ?_
  simp only[newExc,newTuple]
  refine wpAny_bind (wpAny_newObj_type ?_ (by size_fits))
  refine wpAny_bind (m:=firstArgMember _ _) (wpAny_of_eq (a:=Value.none) (by first|rfl|(simp only[firstArgMember]; rfl)) ?_)
  refine wpAny_newObj_type ?_ (by size_fits)
  simp only[raiseNew]
  refine wpAny_bind (wpAny_handled ?_)
  rw[show A.in1.handled=none from hh]
  refine wpAny_bind (wpAny_pure (wpAny_throw ?_))
  refine wpAny_bind (wpAny_isInstance (T:="StopIteration") (b:=true) ⟨_,Heap.get?_push_size _ rfl,rfl⟩ isSubtype_stop ?_)
  exact wpAny_pure (q _ (((Heap.SameBut.update ..).extBut.push _).push _))
 |false =>
  have hb':w.params.followText "set-order"=false:=hb
  have hbel:=N7 T (Nat.le_refl _) (hs hb)
  show wpAny _ _ (if w.params.followText "set-order"=true then _ else if (!t.plain&&decide (es.size > 1))=true then _ else ((if (!t.led&&!es.isEmpty)=true then _ else pure ()) >>= _)) _ _ _
  rw[hb',if_neg Bool.false_ne_true,T.pl,hl hb]
  refine wpAny_bind (wpAny_pure ?_)
  simp only[Int.toNat_natCast]
  rw[hbel,Array.getElem?_eq_none (Nat.le_refl _)]
  refine wpAny_pure ?_
  show wpAny _ _ (setField (.ref I) 2 .none >>= _) _ _ _
  refine wpAny_bind (wpAny_setField hi hf (by simp) ?_)
  show wpAny _ _ (newExc (.type "StopIteration") [] >>= _) _ _ _
  refine wpAny_bind ?_
  simp only[newExc,newTuple]
  refine wpAny_bind (wpAny_newObj_type ?_ (by size_fits))
  refine wpAny_bind (m:=firstArgMember _ _) (wpAny_of_eq (a:=Value.none) (by first|rfl|(simp only[firstArgMember]; rfl)) ?_)
  refine wpAny_newObj_type ?_ (by size_fits)
  simp only[raiseNew]
  refine wpAny_bind (wpAny_handled ?_)
  rw[show A.in1.handled=none from hh]
  refine wpAny_bind (wpAny_pure (wpAny_throw ?_))
  refine wpAny_bind (wpAny_isInstance (T:="StopIteration") (b:=true) ⟨_,Heap.get?_push_size _ rfl,rfl⟩ isSubtype_stop ?_)
  exact wpAny_pure (q _ (((Heap.SameBut.update ..).extBut.push _).push _))
end
end Tb
open PySem PyProof.Rows
namespace Tb
theorem Nt:PySem.Slot "set_iterator" "__iter__" "set_iterator.__iter__" :=
 PySem.Slot.of (owner:="set_iterator") (n:="__iter__") (by rw[typeLookup_type,builtinLookup_eq_fast]; kernel_rfl) (by decide +kernel) (by decide +kernel) (by decide +kernel)
  (by first|exact .inl (by decide +kernel)|exact .inr (by decide +kernel)) (by rw[isSubtype_type]; kernel_rfl)
theorem Fe:entryFor table "set_iterator.__iter__"=some Builtin.«dict_keyiterator.__iter__» :=
 entryFor_alias (id':="dict_keyiterator.__iter__") (by kernel_rfl) rfl (by decide +kernel) (by kernel_rfl)
theorem IK (v:Value):argsOk "set_iterator.__iter__" ⟨[v],[]⟩:=by
 unfold argsOk; rw[signature?_of (id:="set_iterator.__iter__") (n:=['_','_','r','e','t','i','_','_']) (o:=['r','o','t','a','r','e','t','i','_','t','e','s']) (by kernel_rfl) OU]; kernel_rfl
section
variable {prog:Program} {w:World} {A:Around} {E:Value->Shared->Prop} {s:Shared} {a:Addr} {ks:List Int}
theorem Jt (hh:A.handled=none) (I a:Addr) (hne:a≠I) (o:Obj) {es:Array (Int × Value)} {ep:Nat} {t:SetTable} (hd:o.data=.set es ep t) :
    Walks prog w A I [I,a] [I] es.size (fun i v=>∃e,(VD w a ep es)[i]?=some e∧v=e.2) (fun i h=>JL w h I a o i) where
 sub:=fun b hb=>by simp at hb; simp[hb]
 frame:=fun i h h' st hk=>by
  obtain ⟨ho,es',ep',t',slot,oi,h1,h2,h3,h4,h5,h6,h7⟩:=st
  exact ⟨hk a (by simp) _ ho,es',ep',t',slot,oi,h1,h2,h3,h4,hk I (by simp) _ h5,h6,h7⟩
 item:=fun i s Q E hi st hQ=>by
  have hs:(VD w a ep es).size=es.size:=by
   have h2:=(Xz w a ep es).length_eq
   rw[Array.length_toList,Array.length_toList]at h2
   exact h2
  have he:(VD w a ep es)[i]?=some ((VD w a ep es)[i]'(by omega)):=Array.getElem?_eq_getElem _
  exact SC hne st hd he fun h' st' sb=>hQ _ h' s.toks ⟨_,he,rfl⟩ st' fun b o hb e=>sb.extBut b o (fun h=>hb (by simp[h])) e
 done:=fun s Q E st hQ=>Rp hh st hd fun h' eb=>hQ h' s.toks fun b o hb e=>eb b o (fun h=>hb (by simp[h])) e
 self:=fun i s Q E st hQ=>by
  obtain ⟨ho,es',ep',t',slot,oi,h1,h2,h3,h4,h5,h6,h7⟩:=st
  have hT:s.TypeIs (.ref I) "set_iterator":=⟨oi,h5,h6⟩
  refine wpAny_pyIter_slot hT Nt (wpAny_call_entry Nt hT Fe ?_ (IK _))
  show wpAny _ _ (PySem.ret (.ref I)) _ _ s
  exact wpAny_pure ⟨_,rfl,"set_iterator",_,hT,VO.lookup,hQ⟩
theorem HW (hT:s.TypeIs (.ref a) "set") {Q:Bool->Shared->Prop} (h:Q false s):wpAny (model prog w) A (Builtin.List.listLengthHint (.ref a)) Q E s:=by
 unfold Builtin.List.listLengthHint
 refine wpAny_bind (wpAny_specialOf hT PySem.F.slot_set_len.lookup ?_)
 generalize hid:("set.__len__":String)=id0
 wp_delta
 rw[show splitId id0=some ("set","__len__") from by subst hid; decide +kernel]
 subst hid
 refine wpAny_bind (wpAny_isInstance (T:="set") (b:=true) hT (by rw[isSubtype_type]; kernel_rfl) ?_)
 refine wpAny_ite_split (fun hab=>absurd hab (by decide)) (fun _=>?_)
 refine wpAny_ite_split (fun _=>?_) (fun hab=>absurd (by decide +kernel) hab)
 refine wpAny_bind (wpAny_typeOf hT ?_)
 exact wpAny_pure h
theorem K5 (hT:s.TypeIs (.ref a) "dict") {Q:Bool->Shared->Prop} (h:Q false s):wpAny (model prog w) A (Builtin.List.listLengthHint (.ref a)) Q E s:=by
 unfold Builtin.List.listLengthHint
 refine wpAny_bind (wpAny_specialOf hT (r:=some (.builtin "dict.__len__")) (by rw[typeLookup_type,builtinLookup_eq_fast]; kernel_rfl) ?_)
 generalize hid:("dict.__len__":String)=id0
 wp_delta
 rw[show splitId id0=some ("dict","__len__") from by subst hid; decide +kernel]
 subst hid
 refine wpAny_bind (wpAny_isInstance (T:="dict") (b:=true) hT (by rw[isSubtype_type]; kernel_rfl) ?_)
 refine wpAny_ite_split (fun hab=>absurd hab (by decide)) (fun _=>?_)
 refine wpAny_ite_split (fun _=>?_) (fun hab=>absurd (by decide +kernel) hab)
 refine wpAny_bind (wpAny_typeOf hT ?_)
 exact wpAny_pure h
theorem So {T:String} {o oi:Obj} {n:Nat} {P:Nat->Value->Prop} {St:Addr->Nat->Heap->Prop} {R:List Value->Shared->Prop} (hl:(Value.type T == Value.type "list")=false) (ht:(Value.type T == Value.type "tuple")=false)
    (ho:s.heap.get? a=some o) (hT:o.cls=.type T) (hn:n<=sizeLine)
    (hint:∀(s1:Shared) (Q:Bool->Shared->Prop) (E':Value->Shared->Prop),s1.TypeIs (.ref a) T->Q false s1->wpAny (model prog w) A.in1 (Builtin.List.listLengthHint (.ref a)) Q E' s1)
    (hit:∀(s1:Shared) (Q:Value->Shared->Prop) (E':Value->Shared->Prop),s1.heap.get? a=some o->Q (.ref s1.heap.objs.size) { s1 with heap:=s1.heap.push oi }->wpAny (model prog w) A.in1 (pyIter (.ref a)) Q E' s1)
    (W:∀I,a≠I->Walks prog w A.in1 I [I,a] [I] n P (St I)) (h0:∀I h,h.get? a=some o->h.get? I=some oi->St I 0 h) (hf:oi.isFreed=false)
    (q:∀(h':Heap) (tk:Nat) (acc:Array Value),(∀b x,s.heap.get? b=some x->h'.get? b=some x)->s.heap.objs.size<=h'.objs.size->ItemsOf P acc n->R acc.toList { s with heap:=h',toks:=tk }):wpAny (model prog w) A (collect (.ref a)) R E s:=by
 have ha:a < s.heap.objs.size:=Heap.lt_size ho
 unfold collect
 refine wpAny_bind (wpAny_runValue (codeAny_builtin PySem.F.entry_proto_collect ?_))
 rw[Around.under_plainId PySem.F.plain_proto_collect _]
 show wpAny _ A.in1 (newList [] >>= fun l=>again (.builtin "list.__iadd__" ⟨[l,.ref a],[]⟩)) _ _ s
 refine wpAny_bind (wpAny_newObj_type ?_)
 refine wpAny_pure ⟨plainId_quiet PySem.F.plain_list_iadd _,codeAny_builtin PySem.F.entry_list_iadd ?_⟩
 rw[Around.under_plainId PySem.F.plain_list_iadd _]
 generalize hL:s.heap.objs.size=L at ha
 have g1:(s.heap.push { cls:=.type "list",data:=.seq ([]:List Value).toArray }).get? L=some { cls:=.type "list",data:=.seq ([]:List Value).toArray }:=by rw[← hL]; exact Heap.get?_push_size _ rfl
 have k1:∀b x,s.heap.get? b=some x->(s.heap.push { cls:=.type "list",data:=.seq ([]:List Value).toArray }).get? b=some x:=fun b x e=>Heap.get?_push_of_some _ e
 have z1:(s.heap.push { cls:=.type "list",data:=.seq ([]:List Value).toArray }).objs.size=L+1:=by rw[Heap.size_push,hL]
 generalize s.heap.push { cls:=.type "list",data:=.seq ([]:List Value).toArray }=h1 at g1 k1 z1
 show wpAny _ A.in1 (Builtin.List.listExtendWith (.ref L) (.ref a) (.ref L)) _ _ { s with heap:=h1 }
 unfold Builtin.List.listExtendWith
 refine wpAny_bind (wpAny_typeOf (T:=T) ⟨o,k1 a o ho,hT⟩ ?_)
 have hs:Builtin.List.listSameRef (.ref L) (.ref a)=false:=by simp[Builtin.List.listSameRef]; exact Nat.ne_of_gt ha
 rw[hs,hl,ht,if_neg (by decide)]
 refine wpAny_bind (hit _ _ _ (k1 a o ho) ?_)
 have g2:(h1.push oi).get? h1.objs.size=some oi:=Heap.get?_push_size _ hf
 have k2:∀b x,h1.get? b=some x->(h1.push oi).get? b=some x:=fun b x e=>Heap.get?_push_of_some _ e
 show wpAny _ A.in1 _ _ _ { s with heap:=h1.push oi }
 generalize hI:h1.objs.size=I at g2
 have hIa:a≠I:=by rw[← hI,z1]; exact Nat.ne_of_lt (Nat.lt_succ_of_lt ha)
 have hIL:L≠I:=by rw[← hI,z1]; exact Nat.ne_of_lt (Nat.lt_succ_self L)
 show wpAny _ A.in1 (holding [.ref I] _ >>= _) _ _ _
 generalize h1.push oi=h2 at g2 k2
 refine wpAny_bind (wpAny_holding (hint _ _ _ ⟨o,k2 _ _ (k1 _ _ ho),hT⟩ ?_))
 have key : ∀ (h3 : Heap) (c : Nat),(∀ b x,b ≠ L -> h2.get? b = some x -> h3.get? b = some x) -> h3.get? L = some { cls := .type "list",data := .seq #[] c } ->
     codeAny (model prog w) A (.builtin "list.extend.loop" ⟨[.ref L,.ref I,.ref L],[]⟩) (fun q' s'=>∃(h':Heap) (tk:Nat) (acc:Array Value) (c':Nat),q'=.ok (.ret (.ref L))∧s'={ s with heap:=h',toks:=tk }∧(∀b x,s.heap.get? b=some x->h'.get? b=some x) ∧
      h'.get? L=some { cls:=.type "list",dict:=none,data:=.seq acc c',slots:=#[] }∧ItemsOf P acc n) { s with heap:=h3 }:=fun h3 c k3 g3=>by
  refine codeAny_extend_loopS ((W I hIa).toS) hn L (by simp only[List.mem_cons,List.mem_singleton,List.not_mem_nil,or_false,not_or]; exact ⟨hIL,Nat.ne_of_gt ha⟩) (.ref L) n 0 _ #[] c rfl (Nat.zero_le _) (h0 I h3 (k3 a o (Nat.ne_of_lt ha) (k2 _ _ (k1 _ _ ho))) (k3 I oi (Ne.symm hIL) g2)) g3 (ItemsOf.nil P) fun s' acc c' hm hS hacc=>?_
  obtain ⟨h',g',d',tk',os'⟩:=s'
  have eg:g'=s.gens:=hm.gens
  have ed:d'=s.drawn:=hm.drawn
  have eo:os'=s.os:=hm.os
  subst eg; subst ed; subst eo
  refine ⟨h',tk',acc,c',rfl,rfl,fun b x e=>?_,hS,hacc⟩
  have hb:b < L:=by rw[← hL]; exact Heap.lt_size e
  exact hm.heap b x (by simp only[List.mem_cons,List.mem_singleton,List.not_mem_nil,or_false,not_or]; exact ⟨Nat.ne_of_lt hb,by rw[← hI,z1]; exact Nat.ne_of_lt (Nat.lt_succ_of_lt hb)⟩) (k3 b x (Nat.ne_of_lt hb) (k2 _ _ (k1 _ _ e)))
 have fin : ∀ (q' : Result) (s' : Shared),(∃ (h' : Heap) (tk : Nat) (acc : Array Value) (c' : Nat),q' = .ok (.ret (.ref L)) ∧ s' = { s with heap:=h',toks:=tk } ∧ (∀ b x,s.heap.get? b = some x -> h'.get? b = some x) ∧
       h'.get? L=some { cls:=.type "list",dict:=none,data:=.seq acc c',slots:=#[] }∧ItemsOf P acc n)->∃h' tk acc c',q'=.ok (.ret (.ref L))∧s'={ s with heap:=h',toks:=tk }∧h'.get? L=some { cls:=.type "list",dict:=none,data:=.seq acc c',slots:=#[] }∧R acc.toList { s with heap:=h',toks:=tk } :=
  fun q' s' ⟨h',tk,acc,c',e1,e2,e3,e4,e5⟩=>⟨h',tk,acc,c',e1,e2,e4,q h' tk acc e3 (by rw[hL]; exact Nat.le_of_lt (Heap.lt_size e4)) e5⟩
 refine wpAny_ite_split (fun _=>?_) (fun _=>wpAny_pure ⟨plainId_quiet PySem.F.plain_extend_loop _,codeAny_mono (key h2 0 (fun b x _ e=>e) (k2 _ _ g1)) fun q' s' z=>?_⟩)
 ·refine wpAny_bind (wpAny_rule ?_)
  refine wpAny_bind ?_
  show wpAny _ _ (updateSeq L (·.push .none) >>= fun _=>updateSeq L (·.pop)) _ _ _
  have g3:=k2 _ _ g1
  refine wpAny_bind (wpAny_updateSeq g3 rfl ?_)
  have g4:=Heap.get?_update_self (Obj.mapSeq (·.push Value.none)) g3 rfl
  refine wpAny_updateSeq (hz:=by seq_fits) g4 rfl ?_
  have g5:=Heap.get?_update_self (Obj.mapSeq (·.pop)) g4 rfl
  refine wpAny_pure ⟨plainId_quiet PySem.F.plain_extend_loop _,codeAny_mono (key _ _ (fun b x hb e=>(Heap.get?_update_other _ _ (Ne.symm hb)).trans ((Heap.get?_update_other _ _ (Ne.symm hb)).trans e)) g5) fun q' s' z=>?_⟩
  obtain ⟨h',tk,acc,c',rfl,rfl,e4,e5⟩:=fin q' s' z
  show wpAny _ A (load L >>= _) _ _ _
  exact wpAny_bind (wpAny_load e4 (wpAny_pure e5))
 ·obtain ⟨h',tk,acc,c',rfl,rfl,e4,e5⟩:=fin q' s' z
  show wpAny _ A (load L >>= _) _ _ _
  exact wpAny_bind (wpAny_load e4 (wpAny_pure e5))
theorem Sf {v:Value} {ns:List Int} {Q:Value->Shared->Prop} (h64:ns.length < 64)
    (hc:∀(R:List Value->Shared->Prop) (E':Value->Shared->Prop),(∀(h':Heap) (tk:Nat) (vs:List Value) (ms:List Int),(∀b x,s.heap.get? b=some x->h'.get? b=some x)->s.heap.objs.size<=h'.objs.size->IntsAre vs ms->ms.Perm ns->R vs { s with heap:=h',toks:=tk })->wpAny (model prog w) A.in1 (collect v) R E' s)
    (q:∀(h':Heap) (tk:Nat) (B:Addr) (us:List Value) (ms:List Int) (c:Nat),(∀b x,s.heap.get? b=some x->h'.get? b=some x)->s.heap.objs.size<=B->h'.get? B=some (seqObj "list" us.toArray c)->IntsAre us ms->ms.Perm ns->ms.Pairwise (·<=·)->Q (.ref B) { s with heap:=h',toks:=tk }) :
    wpAny (model prog w) A (call (.builtin "sorted") [v]) Q E s:=by
 refine Calls.call_function_entry kind_sorted plain_sorted entry_sorted (args_sorted1 _) (show wpAny _ _ (Builtin.«sorted» _) _ _ _ from ?_)
 unfold Builtin.«sorted»
 refine wpAny_bind (m:=checkCount "sorted" 1 1 _) (wpAny_pure (wpAny_bind (hc _ _ fun h' tk vs ms kk hB hI hp=>?_)))
 have hlen:vs.length=ns.length:=by rw[IntsAre.length hI,hp.length_eq]
 refine wpAny_bind (wpAny_newList ?_ (by rw[sizeLine_eq]; omega))
 have g1:(h'.push (seqObj "list" vs.toArray 0)).get? h'.objs.size=some (seqObj "list" vs.toArray 0):=Heap.get?_push_size _ rfl
 refine wpAny_bind (wpAny_holding (wpAny_call_entry slot_list_sort ⟨_,g1,rfl⟩ entry_list_sort (list_sort_tree (s:={ s with heap:=h'.push (seqObj "list" vs.toArray 0),toks:=tk }) g1 hI (by omega) fun out ns' a1 a2 a3=>⟨_,rfl,wpAny_pure ⟨_,rfl,?_⟩⟩) (args_list_sort _)))
 obtain ⟨e,he⟩:=sortedHeap_at (out:=out) g1
 refine q _ _ h'.objs.size out.toList ns' e (fun b x hx=>?_) hB (by rw[show out.toList.toArray=out by simp]; exact he) a1 (a2.trans hp) a3
 have hb:b < h'.objs.size:=Heap.lt_size (kk b x hx)
 rw[sortedHeap_old (Nat.ne_of_lt hb) (by rw[Heap.size_push]; exact Nat.lt_succ_of_lt hb)]
 exact Heap.get?_push_of_some _ (kk b x hx)
theorem sort_set {Q:Value->Shared->Prop} (hh:A.handled=none) (S:SetL (byT w) s.heap a ks) (hn:ks.length < 64)
    (q:∀(h':Heap) (tk:Nat) (B:Addr) (us:List Value) (ms:List Int) (c:Nat),(∀b x,s.heap.get? b=some x->h'.get? b=some x)->s.heap.objs.size<=B->h'.get? B=some (seqObj "list" us.toArray c)->IntsAre us ms->ms.Perm ks->ms.Pairwise (·<=·)->Q (.ref B) { s with heap:=h',toks:=tk }) :
    wpAny (model prog w) A (call (.builtin "sorted") [.ref a]) Q E s:=by
 have S0:=S
 obtain ⟨o,es,ep,t,ho,hx,hd,⟨js,hp,hq⟩,nd,T,hl⟩:=S
 have hz:es.size=ks.length:=S0.len ho hd
 refine Sf hn (fun R E' k=>?_) q
 refine So (T:="set") (o:=o) (n:=es.size) (by decide) (by decide) ho hx.1 (by rw[sizeLine_eq]; omega) (fun s1 Q' E1 hT q1=>HW hT q1)
  (fun s1 Q' E1 h1 q1=>TD h1 hx hd T hl q1) (fun I hI=>Jt (A:=A.in1.in1) (by simp[hh]) I a hI o hd) (fun I h e1 e2=>⟨e1,es,ep,t,0,_,hd,T,hl,fun _ p hp=>⟨fun z=>absurd z (Nat.not_lt_zero _),fun _=>Nat.zero_le _⟩,e2,rfl,rfl⟩) rfl fun h' tk acc kk hB hI=>?_
 obtain ⟨js',p1,p2⟩:=XM (Xz w a ep es) hp
 refine k h' tk acc.toList js' kk hB ?_ (p2.trans hq)
 have hwl:(VD w a ep es).toList.length=acc.toList.length:=by rw[(Xz w a ep es).length_eq,Array.length_toList,Array.length_toList,hI.1]
 have he:acc.toList=(VD w a ep es).toList.map (·.2):=by
  refine List.ext_getElem (by rw[List.length_map,hwl]) fun i h1 h2=>?_
  obtain ⟨e,e1,e2⟩:=hI.2 i acc[i] (Array.getElem?_eq_getElem (by simpa using h1))
  rw[List.getElem_map,Array.getElem_toList,e2]
  have:=(Array.getElem?_eq_some_iff.mp e1).2
  rw[Array.getElem_toList,this]
 rw[he]
 clear he hwl hI p2
 generalize (VD w a ep es).toList=l at p1
 induction p1 with
 |nil=>exact .nil
 |cons r _ ih =>
  obtain ⟨_,t,e⟩:=r
  rw[List.map_cons,e]
  exact .cons _ t ih
end
end Tb
open PySem PyProof.Rows
namespace Tb
section
variable {prog:Program} {w:World} {A:Around} {E:Value->Shared->Prop} {s:Shared} {a:Addr} {ks:List Int}
theorem Fu (v:Value) {Q:Value->Shared->Prop} (q:Q (.ref s.heap.objs.size) { s with heap:=s.heap.push (Y9 (byT w)) }) :
    codeAny (model prog w) A (.call (.builtin "set.__new__") ⟨[.type "set",v],[]⟩) (wants Q E) s:=by
 refine codeAny_of_tree ?_
 show wpAny _ A.in1 (do checkBuiltinCall "set.__new__" ⟨[.type "set",v],[]⟩; again (.builtin "set.__new__" ⟨[.type "set",v],[]⟩)) _ _ s
 refine wpAny_bind (wpAny_of_eq (PySem.F.newCall_set_1 v) (wpAny_pure ⟨plainId_quiet PySem.F.plain_set_new _,codeAny_builtin PySem.F.entry_set_new ?_⟩))
 rw[Around.under_plainId PySem.F.plain_set_new _]
 unfold Builtin.«set.__new__» Builtin.Frozenset.newClass
 have hsub:=sub_set_self
 obtain ⟨hp,g,d,tk,os⟩:=s
 dsimp only
 wp_walk
 refine wpAny_askSetting (wpAny_pure ?_)
 dsimp only
 simp only[newObj]
 refine wpAny_bind (wpAny_alloc (wpAny_pure ?_))
 exact wpAny_pure q
theorem Pa {v:Value} {Q:Value->Shared->Prop}
    (hb:∀(R:Unit->Shared->Prop) (E':Value->Shared->Prop),(∀h' tk,Q (.ref s.heap.objs.size) { s with heap:=h',toks:=tk }->R () { s with heap:=h',toks:=tk })->wpAny (model prog w) A.in1.in1 (Builtin.Frozenset.updateFrom "set.__init__" s.heap.objs.size v) R E' { s with heap:=s.heap.push (Y9 (byT w)) }) :
    wpAny (model prog w) A (call (.type "set") [v]) Q E s:=by
 obtain ⟨c,tl,hmro⟩:=PySem.F.called_set.mro
 have hmade:=PySem.F.called_set.made
 have hsub:=PySem.F.called_set.sub
 refine wpAny_call (codeAny_of_tree ?_)
 show wpAny _ _ (callAny (.type "set") _) _ _ _
 refine wpAny_pure ⟨Code.quiet_builtin _ (by decide +kernel),codeAny_builtin PySem.F.entry_type_call ?_⟩
 rw[Around.under_plain (weight_type_call_type "set" [v] []) rfl]
 have h1:=PySem.F.called_set.notType
 have h2:=PySem.F.called_set.canCreate
 have hct:=PySem.F.typeCall_set_1 v
 repeat (any_goals (first|assumption|wp_step))
 refine codeAny_mono (Fu v (E:=E) (Q:=fun obj s₁=>obj=.ref s.heap.objs.size∧s₁={ s with heap:=s.heap.push (Y9 (byT w)) }) ⟨rfl,rfl⟩) fun r s₁ hr=>?_
 cases r with
 |error e=>exact hr
 |ok fl =>
  cases fl with
  |ret obj =>
   obtain ⟨rfl,rfl⟩:=hr
   have hS:(s.heap.push (Y9 (byT w))).get? s.heap.objs.size=some (Y9 (byT w)):=Heap.get?_push_size _ rfl
   have hT:Shared.TypeIs { s with heap:=s.heap.push (Y9 (byT w)) } (.ref s.heap.objs.size) "set":=⟨_,hS,rfl⟩
   have hli:=PySem.F.called_set.init.lookup
   have hbi:=PySem.F.called_set.init.bind (.ref s.heap.objs.size)
   repeat (any_goals (first|assumption|wp_step))
   refine codeAny_mono (codeAny_call_builtin (R:=wants (fun r s₂=>r=.none∧∃h' tk,s₂={ s with heap:=h',toks:=tk }∧Q (.ref s.heap.objs.size) s₂) E) PySem.F.called_set.init.plain PySem.F.entry_set_init (check_set_init_1 hT ?_)) fun r₂ s₂ hr₂=>?_
   ·unfold Builtin.«set.__init__» noKeywords
    have hb':=hb
    generalize hU:Builtin.Frozenset.updateFrom=U at hb'
    wp_walk
    exact hb' _ _ fun h' tk hq=>wpAny_pure ⟨rfl,h',tk,rfl,hq⟩
   ·cases r₂ with
    |error e=>exact hr₂
    |ok fl₂ =>
     cases fl₂ with
     |ret r =>
      obtain ⟨rfl,h',tk,rfl,hq⟩:=hr₂
      repeat (any_goals (first|assumption|wp_step))
     |_=>exact hr₂.elim
  |_=>exact hr.elim
end
end Tb
open PySem PyProof.Rows
namespace Tb
def Yi (ks js:List Int):List Int:=js.foldl Uq ks
theorem H9 {ks:List Int} {k x:Int}:x∈Uq ks k ↔ x∈ks∨x=k:=by
 unfold Uq
 split
 ·rename_i h
  have h:k∈ks:=by simpa using h
  exact ⟨.inl,fun z=>z.elim id fun e=>e ▸ h⟩
 ·simp
theorem Tq:∀{js ks:List Int} {x:Int},x∈Yi ks js ↔ x∈ks∨x∈js
 |[],ks,x=>by simp[Yi]
 |j::js,ks,x=>by
  show x∈Yi (Uq ks j) js ↔ _
  rw[Tq,H9,List.mem_cons,or_assoc]
theorem Xn:∀(js ks:List Int),(Yi ks js).length<=ks.length+js.length
 |[],ks=>Nat.le_refl _
 |j::js,ks=>by
  have h1:=Xn js (Uq ks j)
  have h2:=Ip ks j
  show (Yi (Uq ks j) js).length<=_
  rw[List.length_cons]; omega
theorem Ul (ks js:List Int) (k:Int):Yi ks (js++[k])=Uq (Yi ks js) k:=by
 unfold Yi; rw[List.foldl_append]; rfl
section
variable {prog:Program} {w:World} {A:Around} {E:Value->Shared->Prop} {s:Shared} {a:Addr} {ks:List Int}
theorem Go {v:Value} {T:String} {Q:Bool->Shared->Prop} (hT:s.TypeIs v T) (h1:isSubtype (.type T) (.type "set")=pure false) (h2:isSubtype (.type T) (.type "frozenset")=pure false) (q:Q false s):wpAny (model prog w) A (Builtin.Frozenset.isAnySet v) Q E s:=by
 show wpAny _ _ (isInstance v (.type "set") >>= _) _ _ _
 refine wpAny_bind (wpAny_isInstance hT h1 ?_)
 show wpAny _ _ (isInstance v (.type "frozenset")) _ _ _
 exact wpAny_isInstance hT h2 q
theorem SD {v:Value} {Q:Bool->Shared->Prop} (hT:s.TypeIs v "set") (q:Q true s):wpAny (model prog w) A (Builtin.Frozenset.isAnySet v) Q E s:=by
 show wpAny _ _ (isInstance v (.type "set") >>= _) _ _ _
 refine wpAny_bind (wpAny_isInstance hT sub_set_self ?_)
 exact wpAny_pure q
theorem J0 {R:Result->Shared->Prop} {I l:Addr} {items:Array Value} {ns:List Int} {St:Nat->Shared->Prop} (hi:IntsAre items.toList ns) (hb:ns.length < 31) (W:WalksS prog w A.in1 I [I,l] [I] (fun x y=>y=x) items.size (fun i v=>items[i]?=some v) St) (S:Addr) (hS1:S≠I) (hS2:S≠l) :
    ∀(k i:Nat) (s:Shared),items.size - i=k->i<=items.size->St i s->SetL (byT w) s.heap S (Yi [] (ns.take i)) ->
     (∀s',Moved [S,I] (fun x y=>y=x) s s'->SetL (byT w) s'.heap S (Yi [] ns)->R (.ok (.ret .none)) s') ->
     codeAny (model prog w) A (.builtin "set.update.loop" ⟨[.ref S,.ref I],[]⟩) R s:=by
 have hnl:items.size=ns.length:=by rw[← Array.length_toList]; exact IntsAre.length hi
 have hSw:S ∉ [I]:=by simpa using hS1
 intro k
 induction k with
 |zero =>
  intro i s hk hi' hst hS hR
  have hin:i=items.size:=by omega
  subst hin
  rw[hnl,List.take_length]at hS
  refine codeAny_builtin PyProof.Rows.F.entry_set_update_loop ?_
  rw[Around.under_plainId PyProof.Rows.F.plain_set_update_loop _]
  show wpAny _ A.in1 (pyNext (.ref I) >>= _) _ _ s
  refine wpAny_bind (W.done s _ _ hst fun s' hm=>?_)
  show wpAny _ A.in1 (PySem.ret Value.none) _ _ s'
  exact wpAny_pure (hR s' (hm.mono fun b hb=>List.mem_cons_of_mem _ hb) (hS.keep fun o e=>hm.heap S o hSw e))
 |succ k ih =>
  intro i s hk hi' hst hS hR
  have hlt:i < items.size:=by omega
  refine codeAny_builtin PyProof.Rows.F.entry_set_update_loop ?_
  rw[Around.under_plainId PyProof.Rows.F.plain_set_update_loop _]
  show wpAny _ A.in1 (pyNext (.ref I) >>= _) _ _ s
  refine wpAny_bind (W.item i s _ _ hlt hst fun v s' hP hst' hm=>?_)
  obtain ⟨t,hv⟩:=IntsAre.int_at hi i v (by rw[Array.getElem?_toList]; exact hP)
  subst hv
  have hS':=hS.keep fun o e=>hm.heap S o hSw e
  show wpAny _ A.in1 (holding [_] (setAdd S (.int (ns.getD i 0) t)) >>= _) _ _ s'
  refine wpAny_bind (wpAny_holding ?_)
  unfold setAdd
  refine wpAny_holding (wpAny_bind ((intKind prog w).pyHash (k:=ns.getD i 0) (intKind_is _ _ _ _) ?_))
  have hl:=Xn (ns.take i) []
  rw[List.length_take,List.length_nil]at hl
  refine Up (s:={ s' with toks:=s'.toks+1 }) hS' (by omega) fun h' sb S2=>?_
  have e:ns.take (i+1)=ns.take i++[ns.getD i 0]:=by
   rw[List.take_add_one,List.getElem?_eq_getElem (by omega)]
   simp[show i < ns.length by omega]
  rw[← Ul,← e]at S2
  refine wpAny_pure ⟨plainId_quiet PyProof.Rows.F.plain_set_update_loop _,ih (i+1) _ (by omega) hlt (W.frame _ s' _ _ hst' (Nat.le_succ _) fun b hb o e=>?_) S2 fun s'' hm'' hS''=>?_⟩
  ·rw[sb.2 b (fun z=>by subst z; simp only[List.mem_cons,List.mem_singleton,List.not_mem_nil,or_false]at hb; rcases hb with z|z; exact hS1 z; exact hS2 z)]; exact e
  ·refine hR s'' (Moved.trans W.gtrans ((hm.mono fun b hb=>List.mem_cons_of_mem _ hb).then_heap (Nat.le_succ _) fun b o hb e=>?_) hm'') hS''
   rw[sb.2 b (fun z=>hb (by rw[z]; exact List.mem_cons_self))]; exact e
theorem set_list {l:Addr} {items:Array Value} {ns:List Int} {Q:Value->Shared->Prop} (hh:A.handled=none) (hl:s.heap.IsList l items) (hi:IntsAre items.toList ns) (hb:ns.length < 31)
    (q:∀(h':Heap) (tk:Nat),SetL (byT w) h' s.heap.objs.size (Yi [] ns)->(∀b o,s.heap.get? b=some o->h'.get? b=some o)->Q (.ref s.heap.objs.size) { s with heap:=h',toks:=tk }):wpAny (model prog w) A (call (.type "set") [.ref l]) Q E s:=by
 refine Pa fun R E' hR=>?_
 obtain ⟨ol,hol,hcl,nl,hdl⟩:=id hl
 have hlS:l < s.heap.objs.size:=Heap.lt_size hol
 have k1:∀b o,s.heap.get? b=some o->(s.heap.push (Y9 (byT w))).get? b=some o:=fun b o e=>Heap.get?_push_of_some _ e
 have F0:=OI (byT w) s.heap
 have z1:(s.heap.push (Y9 (byT w))).objs.size=s.heap.objs.size+1:=Heap.size_push ..
 have hl1:(s.heap.push (Y9 (byT w))).IsList l items:=⟨ol,k1 _ _ hol,hcl,nl,hdl⟩
 have hT:Shared.TypeIs { s with heap:=s.heap.push (Y9 (byT w)) } (.ref l) "list":=⟨ol,k1 _ _ hol,hcl⟩
 unfold Builtin.Frozenset.updateFrom
 refine wpAny_bind (Go hT PySem.F.sub_list_set PySem.F.sub_list_frozenset ?_)
 rw[if_neg Bool.false_ne_true]
 refine wpAny_bind (wpAny_typeOf hT ?_)
 rw[if_neg (by decide)]
 refine wpAny_bind (wpAny_pyIter_list hl1 ?_)
 refine wpAny_bind (wpAny_runValue ?_)
 have hne:l≠(s.heap.push (Y9 (byT w))).objs.size:=by rw[z1]; exact Nat.ne_of_lt (Nat.lt_succ_of_lt hlS)
 refine J0 hi hb ((Walks.list (A:=A.in1.in1.in1) (by simp[hh]) _ l hne items).toS) s.heap.objs.size (by rw[z1]; exact Nat.ne_of_lt (Nat.lt_succ_self _)) (Nat.ne_of_gt hlS) (items.size - 0) 0 _ rfl (Nat.zero_le _)
  ⟨⟨_,Heap.get?_push_size _ rfl,rfl,rfl⟩,hl1.push _⟩ (F0.keep fun o e=>Heap.get?_push_of_some _ e) fun s' hm hS'=>?_
 obtain ⟨h',g',d',tk',os'⟩:=s'
 have eg:g'=s.gens:=hm.gens
 have ed:d'=s.drawn:=hm.drawn
 have eo:os'=s.os:=hm.os
 subst eg; subst ed; subst eo
 refine wpAny_pure (hR h' tk' (q h' tk' hS' fun b o e=>?_))
 have hb':b < s.heap.objs.size:=Heap.lt_size e
 exact hm.heap b o (by simp only[List.mem_cons,List.mem_singleton,List.not_mem_nil,or_false,not_or,z1]; exact ⟨Nat.ne_of_lt hb',Nat.ne_of_lt (Nat.lt_succ_of_lt hb')⟩) (Heap.get?_push_of_some _ (k1 _ _ e))
theorem set_dict {d:Addr} {od:Obj} {es:Array DictEntry} {ep:Nat} {ns:List Int} {Q:Value->Shared->Prop} (ho:s.heap.get? d=some od) (hc:od.cls=.type "dict") (hd:od.data=.dict es ep) (hs:(d == sysModules)=false)
    (hk:es.toList.length=ns.length∧∀i e,es[i]?=some e->e.hash=hashInt (ns.getD i 0)∧∃t,e.key=.int (ns.getD i 0) t) (hb:ns.length < 31)
    (q:∀(h':Heap),SetL (byT w) h' s.heap.objs.size (Yi [] ns)->(∀b o,s.heap.get? b=some o->h'.get? b=some o)->Q (.ref s.heap.objs.size) { s with heap:=h' }):wpAny (model prog w) A (call (.type "set") [.ref d]) Q E s:=by
 refine Pa fun R E' hR=>?_
 have hlS:d < s.heap.objs.size:=Heap.lt_size ho
 have k1:∀b o,s.heap.get? b=some o->(s.heap.push (Y9 (byT w))).get? b=some o:=fun b o e=>Heap.get?_push_of_some _ e
 have F0:=OI (byT w) s.heap
 have hT:Shared.TypeIs { s with heap:=s.heap.push (Y9 (byT w)) } (.ref d) "dict":=⟨od,k1 _ _ ho,hc⟩
 have hsz:es.size=ns.length:=by rw[← Array.length_toList]; exact hk.1
 unfold Builtin.Frozenset.updateFrom
 refine wpAny_bind (Go hT (by rw[isSubtype_type]; kernel_rfl) (by rw[isSubtype_type]; kernel_rfl) ?_)
 rw[if_neg Bool.false_ne_true]
 refine wpAny_bind (wpAny_typeOf hT ?_)
 rw[if_pos (by rfl)]
 refine wpAny_bind (wpAny_rule ?_)
 refine wpAny_bind (show wpAny (model prog w) A.in1.in1 (pure d) _ _ _ from wpAny_pure ?_)
 rw[if_neg (by rw[hs]; exact Bool.false_ne_true)]
 refine wpAny_bind (wpAny_dictEpoch (k1 _ _ ho) hd ?_)
 refine wpAny_bind (wpAny_dictEntries (k1 _ _ ho) hd ?_)
 refine wpAny_bind (Sk F0 (by omega) fun h1 sb1 ⟨o1,e1,p1,t1,a1,a2,a3,a4,a5,a6,a7⟩=>?_)
 subst a4
 have S1:SetL (byT w) h1 s.heap.objs.size []:=⟨o1,#[],p1,t1,a1,a2,a3,⟨[],.nil,.refl _⟩,List.nodup_nil,a5,a7⟩
 have k2:∀b o,s.heap.get? b=some o->h1.get? b=some o:=fun b o e=>(sb1.2 b (Nat.ne_of_lt (Heap.lt_size e))).trans (k1 _ _ e)
 refine wpAny_bind (wpAny_dictEntries (k2 _ _ ho) hd ?_)
 rw[Std.Legacy.Range.forIn_eq_forIn_range']
 refine wpAny_bind (wpAny_forIn_list _ (fun rest _ s'=>∃h',s'={ s with heap:=h' }∧(∀b o,s.heap.get? b=some o->h'.get? b=some o)∧rest.length<=es.size∧rest=List.range' (es.size - rest.length) rest.length∧SetL (byT w) h' s.heap.objs.size (Yi [] (ns.take (es.size - rest.length)))) _ ?_ ?_ _ _ ?_)
 ·rintro x rest b s' ⟨h',rfl,kk,hle,hr,S⟩
  rw[List.length_cons]at hle hr S
  have hx:x=es.size - (rest.length+1):=by rw[List.range'_succ]at hr; exact (List.cons.inj hr).1
  have hr':rest=List.range' (es.size - rest.length) rest.length:=by
   rw[List.range'_succ]at hr
   have:=(List.cons.inj hr).2
   rw[show es.size - (rest.length+1)+1=es.size - rest.length by omega]at this
   exact this
  have hlt:x < es.size:=by omega
  refine wpAny_bind (wpAny_dictEntries (kk _ _ ho) hd ?_)
  obtain ⟨f1,t,f2⟩:=hk.2 x es[x] (Array.getElem?_eq_getElem hlt)
  rw[Array.getElem?_eq_getElem hlt]
  dsimp only
  rw[f1,f2]
  have hl:=Xn (ns.take x) []
  rw[List.length_take,List.length_nil]at hl
  rw[← hx]at S
  refine wpAny_bind (wpAny_holding (Up (s:={ s with heap:=h' }) S (by omega) fun h2 sb2 S2=>?_))
  have e:ns.take (x+1)=ns.take x++[ns.getD x 0]:=by
   rw[List.take_add_one,List.getElem?_eq_getElem (by omega)]
   simp[show x < ns.length by omega]
  rw[← Ul,← e]at S2
  have kk2:∀b o,s.heap.get? b=some o->h2.get? b=some o:=fun b o e=>(sb2.2 b (Nat.ne_of_lt (Heap.lt_size e))).trans (kk b o e)
  refine wpAny_bind (wpAny_dictEpoch (kk2 _ _ ho) hd ?_)
  rw[if_neg (by simp)]
  refine wpAny_pure ⟨h2,rfl,kk2,by omega,hr',?_⟩
  rw[show es.size - rest.length=x+1 by omega]
  exact S2
 ·rintro b s' ⟨h',rfl,kk,_,_,S⟩
  rw[List.length_nil,Nat.sub_zero,hsz,List.take_length]at S
  exact wpAny_pure (hR h' s.toks (q h' S kk))
 ·refine ⟨h1,rfl,k2,?_,?_,?_⟩
  ·rw[List.length_range']; simp
  ·rw[List.length_range']; simp
  ·rw[List.length_range']; simpa [Yi] using S1
end
end Tb
open PySem PyProof.Rows
namespace Tb
theorem GV:entryFor table "set.__sub__"=some Builtin.«frozenset.__sub__» :=
 entryFor_alias (id':="frozenset.__sub__") (by kernel_rfl) rfl (by decide +kernel) (by kernel_rfl)
section
variable {prog:Program} {w:World} {A:Around} {E:Value->Shared->Prop} {s:Shared} {a b:Addr} {ks ms:List Int}
theorem SetL.type {h:Heap} {bt:Bool} (S:SetL bt h a ks):∃o,h.get? a=some o∧o.cls=.type "set":=let ⟨o,_,_,_,h1,h2,_⟩:=S; ⟨o,h1,h2.1⟩
theorem SetL.lt {h:Heap} {bt:Bool} (S:SetL bt h a ks):a < h.objs.size:=let ⟨_,_,_,_,h1,_⟩:=S; Heap.lt_size h1
theorem SetL.ndp {h:Heap} {bt:Bool} (S:SetL bt h a ks):ks.Nodup:=let ⟨_,_,_,_,_,_,_,_,h,_⟩:=S; h
theorem WA {bt:Bool} {Q:Nat->Shared->Prop} (S:SetL bt s.heap a ks) (q:Q ks.length s):wpAny (model prog w) A (Builtin.Frozenset.sizeOf a) Q E s:=by
 have S0:=S
 obtain ⟨o,es,ep,t,ho,hx,hd,hp,nd,T,hl⟩:=S
 unfold Builtin.Frozenset.sizeOf
 refine wpAny_bind (wpAny_setEntries_of ho hd T.fits (wpAny_pure ?_))
 rw[S0.len ho hd]; exact q
theorem TZ {bt:Bool} {Q:Value->Shared->Prop} (S:SetL bt s.heap a ks) (q:Q (.type "set") s):wpAny (model prog w) A (Builtin.Frozenset.baseOf a) Q E s:=by
 unfold Builtin.Frozenset.baseOf
 refine wpAny_bind (wpAny_isInstance (T:="set") (b:=true) S.type sub_set_self (wpAny_pure ?_))
 exact q
theorem O0 {Q:Value->Shared->Prop} (S:SetL (byT w) s.heap a ks) (hn:ks.length < 32) (q:∀h',(∀b o,s.heap.get? b=some o->h'.get? b=some o)->SetL (byT w) h' s.heap.objs.size ks->Q (.ref s.heap.objs.size) { s with heap:=h' }):wpAny (model prog w) A (Builtin.Frozenset.copyOf a) Q E s:=by
 unfold Builtin.Frozenset.copyOf
 refine wpAny_bind (TZ S ?_)
 refine wpAny_bind (Rc ?_)
 have F0:=OI (byT w) s.heap
 have k1:∀b o,s.heap.get? b=some o->(s.heap.push (Y9 (byT w))).get? b=some o:=fun b o e=>Heap.get?_push_of_some _ e
 have S1:=S.keep fun o e=>k1 a o e
 refine wpAny_bind (show wpAny (model prog w) A (pure s.heap.objs.size) _ _ _ from wpAny_pure ?_)
 have hlt:=S.lt
 refine wpAny_bind ?_
 unfold setMerge
 rw[if_neg (by simp; exact Nat.ne_of_gt hlt)]
 have S0:=S1
 obtain ⟨o,es,ep,t,ho,hx,hd,⟨js,hp,hq⟩,nd,T,hl⟩:=S1
 have hz:es.size=ks.length:=S0.len ho hd
 refine wpAny_bind (wpAny_setState_of ho hd T.fits ?_)
 dsimp only
 by_cases h0:es.isEmpty=true
 ·rw[if_pos h0]
  have:ks=[]:=List.length_eq_zero_iff.mp (by rw[← hz]; simpa using h0)
  subst this
  exact wpAny_pure (wpAny_pure (q _ k1 F0))
 ·rw[if_neg h0]
  refine wpAny_bind (Sk F0 (by omega) fun h1 sb1 ⟨o1,e1,p1,t1,a1,a2,a3,a4,a5,a6,a7⟩=>?_)
  subst a4
  have k2:∀b o,s.heap.get? b=some o->h1.get? b=some o:=fun b o e=>(sb1.2 b (Nat.ne_of_lt (Heap.lt_size e))).trans (k1 _ _ e)
  refine wpAny_bind (wpAny_setState_of a1 a3 a5.fits ?_)
  dsimp only
  have hfl:t1.fill=0:=by unfold SetTable.fill; rw[a5.size,a5.dum]; rfl
  have hzl:es.size<=sizeLine:=by rw[sizeLine_eq]; omega
  unfold SetTable.road
  rw[hfl,if_neg (by decide)]
  by_cases hm:(t1.mask == t.mask&&t.dummies.isEmpty)=true
  ·rw[if_pos hm]
   dsimp only
   refine wpAny_storeSet_of a1 a3 ?_ hzl
   refine wpAny_pure (q _ (fun b o e=>(Heap.get?_update_other _ _ (Ne.symm (Nat.ne_of_lt (Heap.lt_size e)))).trans (k2 b o e)) (W2 a1 a2 a3 hp hq nd ⟨T.gm,T.size,T.dum,T.ris,T.le,T.room,?_⟩ fun z=>?_))
   ·show (t1.plain&&t.plain)=true
    rw[a5.pl,T.pl]; rfl
   ·show (t1.led&&t.led)=true
    rw[a7 z,hl z]; rfl
  ·rw[if_neg hm]
   dsimp only
   obtain ⟨t2,o2,e1,e2,e3,e4,e5⟩:=OP (f:=t1.finger) (mv:=t1.moves) (led:=t1.led&&t.led) a5.gm (hs:=es.map (·.1)) (by rw[Array.size_map]; exact a6)
   rw[Array.size_map]at e2 e3
   rw[a5.pl,T.pl,show (true&&true)=true from rfl,e1]
   have hsz:(o2.filterMap (es[·]?)).size=es.size:=by
    rw[← Array.length_toList,Array.toList_filterMap,(e2.filterMap _).length_eq,PySem.filterMap_getElem?_range,Array.length_toList]
   have hpm:(o2.filterMap (es[·]?)).toList.Perm es.toList:=by
    rw[Array.toList_filterMap]
    refine (e2.filterMap _).trans ?_
    rw[PySem.filterMap_getElem?_range]
   obtain ⟨js2,p2,q2⟩:=XM hpm hp
   refine wpAny_bind ?_
   show wpAny (model prog w) A (if ((o2.filterMap (es[·]?)).size != es.size)=true then ((unsupported _:Sem PUnit) >>= fun _=>pure (o2.filterMap (es[·]?),t2)) else pure (o2.filterMap (es[·]?),t2)) _ _ _
   rw[if_neg (by rw[hsz]; simp)]
   refine wpAny_pure ?_
   refine wpAny_storeSet_of a1 a3 ?_ (by rw[hsz]; exact hzl)
   exact wpAny_pure (q _ (fun b o e=>(Heap.get?_update_other _ _ (Ne.symm (Nat.ne_of_lt (Heap.lt_size e)))).trans (k2 b o e)) (W2 a1 a2 a3 p2 (q2.trans hq) nd (by rw[hsz]; exact e3) fun z=>by rw[e5,a7 z,hl z]; rfl))
theorem Gk {id:String} {Q:Value->Shared->Prop} (Sa:SetL (byT w) s.heap a ks) (Sb:SetL (byT w) s.heap b ms) (hn:ks.length < 31) (hm:ms.length < 31) (hq:ks.length / 4<=ms.length∨ms=[])
    (q:∀(h':Heap) (rs:List Int),(∀b o,s.heap.get? b=some o->h'.get? b=some o)->SetL (byT w) h' s.heap.objs.size rs->(∀k,k∈rs ↔ k∈ks∧k ∉ ms)->rs.length<=ks.length->Q (.ref s.heap.objs.size) { s with heap:=h' }) :
    wpAny (model prog w) A (Builtin.Frozenset.difference id a (.ref b)) Q E s:=by
 have ha:=Sa.lt
 have hb:=Sb.lt
 unfold Builtin.Frozenset.difference
 dsimp only
 refine wpAny_bind (SD Sb.type ?_)
 rw[if_neg (by decide)]
 refine wpAny_bind (show wpAny (model prog w) A (pure b) _ _ _ from wpAny_pure ?_)
 rw[if_neg (by simp),if_pos rfl]
 refine wpAny_bind (WA Sb ?_)
 refine wpAny_bind (WA Sa ?_)
 by_cases hp:ks.length / 4 > ms.length
 ·have hms:ms=[]:=hq.resolve_left (by omega)
  subst hms
  rw[if_pos hp]
  refine wpAny_bind (wpAny_rule ?_)
  refine wpAny_bind (O0 Sa (by omega) fun h1 k1 S1=>?_)
  refine wpAny_bind (show wpAny (model prog w) A (pure s.heap.objs.size) _ _ _ from wpAny_pure ?_)
  refine wpAny_bind (wpAny_holding ?_)
  unfold Builtin.Frozenset.differenceUpdate
  rw[if_neg (by simp; exact Nat.ne_of_lt hb)]
  have Sb1:=Sb.keep fun o e=>k1 b o e
  refine wpAny_bind (SD (s:={ s with heap:=h1 }) Sb1.type ?_)
  rw[if_pos rfl]
  refine wpAny_bind (show wpAny (model prog w) A (pure b) _ _ _ from wpAny_pure ?_)
  refine wpAny_bind (WA (s:={ s with heap:=h1 }) Sb1 ?_)
  refine wpAny_bind (WA (s:={ s with heap:=h1 }) S1 ?_)
  rw[if_neg (by simp)]
  have Sb0:=Sb1
  obtain ⟨o,es,ep,t,ho,hx,hd,hpp,nd,T,hl⟩:=Sb1
  have hz:es=#[]:=Array.eq_empty_of_size_eq_zero (Sb0.len ho hd)
  subst hz
  dsimp only
  refine wpAny_bind (wpAny_setEpoch_of ho hd T.fits ?_)
  have hw:VD w b ep #[]=#[]:=Array.eq_empty_of_size_eq_zero (by have:=(Xz w b ep #[]).length_eq; simpa using this)
  refine wpAny_bind (wpAny_holding (wpAny_bind (TU ho hd T hl ?_)))
  rw[hw]
  refine wpAny_bind (MeetsSeq2.wpAny_forIn_array _ (fun rest _ s'=>rest=[]∧s'={ s with heap:=h1 }) _ (fun x rest _ s' h=>nomatch h.1) ?_ #[] _ ⟨rfl,rfl⟩)
  rintro _ s' ⟨_,rfl⟩
  refine wpAny_pure ?_
  have S1':=S1
  obtain ⟨o2,e2,p2,t2,c1,c2,c3,c4,c5,c6,c7⟩:=S1
  unfold setTidy
  refine wpAny_bind (wpAny_setState_of c1 c3 c6.fits ?_)
  dsimp only
  rw[if_neg (by unfold SetTable.tooManyDummies; rw[c6.dum]; simp)]
  exact wpAny_pure (wpAny_pure (q h1 ks k1 S1' (fun k=>by simp) (Nat.le_refl _)))
 ·rw[if_neg hp]
  refine wpAny_bind (TZ Sa ?_)
  refine wpAny_bind (Rc ?_)
  refine wpAny_bind (show wpAny (model prog w) A (pure s.heap.objs.size) _ _ _ from wpAny_pure ?_)
  have F0:=OI (byT w) s.heap
  have k1:∀b o,s.heap.get? b=some o->(s.heap.push (Y9 (byT w))).get? b=some o:=fun b o e=>Heap.get?_push_of_some _ e
  have Sa0:=Sa
  obtain ⟨o,es,ep,t,ho,hx,hd,⟨js,hpj,hqj⟩,nd,T,hl⟩:=Sa
  refine wpAny_bind (wpAny_setEpoch_of (k1 _ _ ho) hd T.fits ?_)
  rw[if_pos rfl]
  refine wpAny_bind (wpAny_holding (wpAny_bind (TU (k1 _ _ ho) hd T hl ?_)))
  obtain ⟨js2,p2,q2⟩:=XM (Xz w a ep es) hpj
  have q3:js2.Perm ks:=q2.trans hqj
  have l2:js2.length=ks.length:=q3.length_eq
  refine wpAny_bind (MeetsSeq2.wpAny_forIn_array _ (fun rest _ s'=>∃(h':Heap) (dn jr:List Int),s'={ s with heap:=h' }∧(∀b o,s.heap.get? b=some o->h'.get? b=some o)∧js2=dn++jr∧Paired EIn rest jr∧SetL (byT w) h' s.heap.objs.size (Yi [] (dn.filter fun k=>!ms.contains k))) _ ?_ ?_ _ _ ⟨_,[],js2,rfl,k1,rfl,p2,F0⟩)
  ·rintro ⟨hx',vx⟩ rest _ s' ⟨h',dn,jr,rfl,kk,e1,e2,S⟩
   cases e2 with
   |@cons _ j _ jr r e2 =>
    obtain ⟨r1,tk,r2⟩:=r
    have r1:hx'=hashInt j:=r1
    have r2:vx=.int j tk:=r2
    subst r1 r2
    have Sb1:=Sb.keep fun o e=>kk b o e
    have hdl:dn.length < ks.length:=by rw[← l2,e1,List.length_append,List.length_cons]; omega
    have hne:a≠s.heap.objs.size:=Nat.ne_of_lt ha
    have fin : ∀ (h2 : Heap) (Q' : ForInStep PUnit -> Shared -> Prop),(∀ b o,s.heap.get? b = some o -> h2.get? b = some o) -> Q' (.yield PUnit.unit) { s with heap:=h2 } ->
        wpAny (model prog w) A (Builtin.Frozenset.unchanged id a ep >>= fun _=>pure (ForInStep.yield PUnit.unit)) Q' E { s with heap:=h2 }:=fun h2 Q' kk2 z=>by
     unfold Builtin.Frozenset.unchanged
     refine wpAny_bind (wpAny_bind (wpAny_setEpoch_of (s:={ s with heap:=h2 }) (kk2 _ _ ho) hd T.fits ?_))
     rw[if_neg (by simp)]
     exact wpAny_pure (wpAny_pure z)
    refine wpAny_bind (wpAny_holding ?_)
    rw[if_pos rfl]
    refine wpAny_bind (wpAny_setFind_of (knd:=intKind prog w) (k:=j) (intKind_is _ _ _ _) rfl (Sb1.of (by unfold scanBound; omega)) fun r hr=>?_)
    refine wpAny_bind (wpAny_pure ?_)
    rw[hr]
    cases hc:ms.contains j with
    |true =>
     rw[if_neg (by simp)]
     refine wpAny_pure (fin h' _ kk ⟨h',dn++[j],jr,rfl,kk,by rw[e1]; simp,e2,?_⟩)
     rw[List.filter_append,List.filter_cons_of_neg (by simpa using hc),List.filter_nil,List.append_nil]
     exact S
    |false =>
     rw[if_pos (by rfl)]
     have hl:=Xn (dn.filter fun k=>!ms.contains k) []
     have hl2:=List.length_filter_le (fun k=>!ms.contains k) dn
     rw[List.length_nil]at hl
     refine wpAny_bind (Up (s:={ s with heap:=h' }) S (by omega) fun h2 sb2 S2=>?_)
     have kk2:∀b o,s.heap.get? b=some o->h2.get? b=some o:=fun b o e=>(sb2.2 b (Nat.ne_of_lt (Heap.lt_size e))).trans (kk b o e)
     refine wpAny_pure (fin h2 _ kk2 ⟨h2,dn++[j],jr,rfl,kk2,by rw[e1]; simp,e2,?_⟩)
     rw[List.filter_append,List.filter_cons_of_pos (by simpa using hc),List.filter_nil,Ul]
     exact S2
  ·rintro _ s' ⟨h',dn,jr,rfl,kk,e1,e2,S⟩
   cases e2
   rw[List.append_nil]at e1
   subst e1
   refine wpAny_pure (wpAny_pure (q h' _ kk S (fun k=>?_) ?_))
   ·rw[Tq,List.mem_filter,q3.mem_iff]
    simp
   ·have hl:=Xn (js2.filter fun k=>!ms.contains k) []
    have hl2:=List.length_filter_le (fun k=>!ms.contains k) js2
    rw[List.length_nil]at hl
    omega
theorem sub_set {Q:Value->Shared->Prop} (Sa:SetL (byT w) s.heap a ks) (Sb:SetL (byT w) s.heap b ms) (hn:ks.length < 31) (hm:ms.length < 31) (hq:ks.length / 4<=ms.length∨ms=[])
    (q:∀(h':Heap) (rs:List Int),(∀b o,s.heap.get? b=some o->h'.get? b=some o)->SetL (byT w) h' s.heap.objs.size rs->(∀k,k∈rs ↔ k∈ks∧k ∉ ms)->rs.length<=ks.length->Q (.ref s.heap.objs.size) { s with heap:=h' }) :
    wpAny (model prog w) A (binaryOp .Sub (.ref a) (.ref b)) Q E s:=by
 refine wpAny_binaryOp_same Sa.type Sb.type PySem.F.fills_set_sub PySem.F.slot_set_sub (wpAny_call_entry PySem.F.slot_set_sub Sa.type GV ?_ (PySem.F.args_set_sub_2 _ _))
 show wpAny (model prog w) A.in1 (Builtin.Frozenset.slot1 "__sub__" ⟨[.ref a,.ref b],[]⟩ >>= _) _ _ _
 unfold Builtin.Frozenset.slot1 slotArgs
 simp only[List.isEmpty_nil,Bool.not_true,Bool.false_eq_true,↓reduceIte,bind_assoc,List.length_nil,bne_self_eq_false]
 refine wpAny_bind (wpAny_pure ?_)
 refine wpAny_bind (wpAny_pure ?_)
 refine wpAny_bind ?_
 show wpAny (model prog w) A.in1 (Builtin.Frozenset.isAnySet (.ref a) >>= _) _ _ _
 refine wpAny_bind (SD Sa.type ?_)
 show wpAny (model prog w) A.in1 (Builtin.Frozenset.isAnySet (.ref b)) _ _ _
 refine SD Sb.type ?_
 rw[if_neg (by decide)]
 refine wpAny_bind (show wpAny (model prog w) A.in1 (pure a) _ _ _ from wpAny_pure ?_)
 refine wpAny_bind (Gk Sa Sb hn hm hq fun h' rs kk S hr hl=>?_)
 exact wpAny_pure ⟨_,rfl,(fun z=>nomatch z),q h' rs kk S hr hl⟩
end
end Tb
end L2
namespace L2
noncomputable section
open PySem PySem.Spec PyProof.Rows Tb
def UT (bt:Bool) (p:Addr) (ks:List Int):HO:=.ext fun h=>SetL bt h p ks
def V3 {α:Type}:List (Key × α)->Option (List Int)
 |[]=>some []
 |(.inl k,_)::r=>match V3 r with
  |some ns=>some (k::ns)
  |none=>none
 |_=>none
theorem Tz {α:Type}:∀{kvs:List (Key × α)} {ns:List Int},V3 kvs=some ns->kvs.map (·.1)=ns.map Sum.inl
 |[],_,e=>by cases e; rfl
 |(.inr _,_)::_,_,e=>by cases e
 |(.inl k,v)::r,ns,e=>by
  have e:(match V3 r with|some ns=>some (k::ns)|none=>none)=some ns:=e
  match hr:V3 r,e with
  |some ms,e =>
   have e:some (k::ms)=some ns:=e
   cases e
   rw[List.map_cons,List.map_cons,Tz hr]
  |none,e=>exact nomatch e
theorem PQ {F:Hp} {β:List Addr}:∀{kvs:List (Key × Wv)} {qs:List (Key × V)},RK F β kvs qs->qs.map (·.1)=kvs.map (·.1)
 |_,_,.nil=>rfl
 |_,_,.cons h r=>by rw[List.map_cons,List.map_cons,PQ r]
section
variable {X:Cx} {E:XK}
theorem PR {P:Program} {w:World} {H:Hp} {h:Heap} {bt:Bool} {p:Addr} {ks:List Int} (S:SetL bt h p ks):ObjOk P w H h p (UT bt p ks) :=
 ⟨S,let ⟨o,_,_,_,e,_⟩:=S; ⟨o,e⟩,fun h1 h2 S1 k=>S1.keep k⟩
theorem Oi {P:Program} {w:World} {H:Hp} {h:Heap} {bt:Bool} {p:Addr} {ks:List Int} (ok:HOk P w H h) (e:H p=some (UT bt p ks)):SetL bt h p ks:=(ok p _ e).1
def AB (X:Cx):List V->Hp->VK->Prop:=fun xs H Q=>∃l ns,xs=[.ref l]∧(SqL X.K H l (ns.map V.int)∨∃kvs,H l=some (.dK kvs)∧kvs.map (·.1)=ns.map Sum.inl)∧ns.length < 31∧∀p,H p=none->Q (.ref p) (upd H p (UT (byT X.w) p (Yi [] ns)))
theorem Et {kvs:List (Key × V)} {vs:List (Key × Value)} {ns:List Int} (r:KV kvs vs) (e:kvs.map (·.1)=ns.map Sum.inl):vs.map (·.1)=ns.map Sum.inl:=by
 rw[← e]
 clear e
 induction r with
 |nil=>rfl
 |cons h _ ih=>rw[List.map_cons,List.map_cons,ih,h.1]
theorem Nk (hc:X.calm=true):CallR X (.type "set") (AB X):=by
 intro pins s σ H xs us Q I r h
 obtain ⟨l,ns,rfl,hl,hb,q⟩:=h
 obtain ⟨u,rfl,ru⟩:=V1 r
 cases (show u=Value.ref l from ru)
 rcases hl with hl|⟨kvs,hd,hk⟩
 ·obtain ⟨its,rv,p,hz⟩:=I.list hl
  refine Tb.set_list (I.ok.hd hc) p.isList (by simpa using RC rfl rv) hb fun h' tk S kk=>?_
  exact ⟨.ref s.heap.objs.size,_,I.laid (t':=tk) kk (Nat.le_refl _) (PR S),rfl,q _ (I.hok.fresh (Nat.le_refl _))⟩
 ·obtain ⟨z,hS,ws,rk,m⟩:=(show kvs.length<=sizeLine∧(l == sysModules)=false∧∃vs,KV kvs vs∧s.heap.DictOf (ZM X.prog X.w) l vs from I.hok l _ hd)
  obtain ⟨o,es,ep,ho,hex,hdat,hko,hp,hn⟩:=m
  have hws:=Et rk hk
  have hwl:ws.length=ns.length:=by have:=congrArg List.length hws; simpa using this
  refine Tb.set_dict (ns:=ns) ho hex.1 hdat hS ⟨by rw[hp.length,hwl],fun i e he=>?_⟩ hb fun h' S kk=>?_
  ·have hi:i < ns.length:=by
    have:=(Array.getElem?_eq_some_iff.mp he).1
    have h2:=hp.length
    rw[Array.length_toList]at h2
    omega
   have hg:ws[i]?=some (ws[i]'(by omega)):=List.getElem?_eq_getElem _
   have hk1:(ws[i]'(by omega)).1=Sum.inl (ns.getD i 0):=by
    have h3:(ws.map (·.1))[i]?=(ns.map Sum.inl)[i]?:=by rw[hws]
    rw[List.getElem?_map,List.getElem?_map,hg,List.getElem?_eq_getElem hi]at h3
    have h4:(ws[i]'(by omega)).1=Sum.inl ns[i]:=Option.some.inj h3
    rw[h4]; simp[hi]
   obtain ⟨g1,_⟩:=hp.get? (e:=e) (by rw[Array.getElem?_toList]; exact he) hg
   have g1:(ZM X.prog X.w).is (ws[i]'(by omega)).1 e.key=true:=g1
   rw[hk1]at g1
   obtain ⟨t,ht⟩:=Value.isInt_shape (k:=ns.getD i 0) (v:=e.key) g1
   obtain ⟨k',c1,c2⟩:=hko e (Array.mem_of_getElem? he)
   have:k'=Sum.inl (ns.getD i 0):=(ZM X.prog X.w).inj _ _ _ c1 g1
   rw[this]at c2
   exact ⟨c2,t,ht⟩
  ·exact ⟨.ref s.heap.objs.size,_,I.laid (t':=s.toks) kk (Nat.le_refl _) (PR S),rfl,q _ (I.hok.fresh (Nat.le_refl _))⟩
def Ab (X:Cx):R2:=fun x y H Q=>∃a b ks ms,x=.ref a∧y=.ref b∧H a=some (UT (byT X.w) a ks)∧H b=some (UT (byT X.w) b ms)∧ks.length < 31∧ms.length < 31∧(ks.length / 4<=ms.length∨ms=[]) ∧
 ∀p rs,H p=none->rs.Nodup->(∀k,k∈rs ↔ k∈ks∧k ∉ ms)->rs.length<=ks.length->Q (.ref p) (upd H p (UT (byT X.w) p rs))
theorem FH:OpR X (binaryOp .Sub) (Ab X):=by
 intro pins s σ H x y v u Q I rx ry h
 obtain ⟨a,b,ks,ms,rfl,rfl,ha,hb,h1,h2,h3,q⟩:=h
 cases rx
 cases ry
 refine Tb.sub_set (Oi I.hok ha) (Oi I.hok hb) h1 h2 h3 fun h' rs kk S hm hl=>?_
 exact ⟨.ref s.heap.objs.size,_,I.laid (t':=s.toks) kk (Nat.le_refl _) (PR S),rfl,q _ rs (I.hok.fresh (Nat.le_refl _)) S.ndp hm hl⟩
def Ic (X:Cx):List V->Hp->VK->Prop:=fun xs H Q=>∃(a:Addr) (ks:List Int),xs=[.ref a]∧(H a=some (UT (byT X.w) a ks)∨∃kvs,H a=some (.dK kvs)∧kvs.map (·.1)=ks.map Sum.inl)∧ks.length < 64∧∀(p:Addr) (ms:List Int),ms.Perm ks->ms.Pairwise (·<=·)->H p=none->Q (.ref p) (upd H p (.lst (ms.map V.int)))
theorem SX (hc:X.calm=true):CallR X (.builtin "sorted") (Ic X):=by
 intro pins s σ H xs us Q I r h
 obtain ⟨a,ks,rfl,ha,h64,q⟩:=h
 obtain ⟨u,rfl,ru⟩:=V1 r
 cases (show u=Value.ref a from ru)
 have fin:∀(h':Heap) (tk:Nat) (B:Addr) (us:List Value) (ms:List Int) (c:Nat),(∀b x,s.heap.get? b=some x->h'.get? b=some x)->s.heap.objs.size<=B->h'.get? B=some (seqObj "list" us.toArray c)->IntsAre us ms->ms.Perm ks->ms.Pairwise (·<=·)->EP X pins σ Q (.ref B) { s with heap:=h',toks:=tk }:=fun h' tk B us ms c kk hB e1 e2 e3 e4=>by
  have hl:ms.length=ks.length:=e3.length_eq
  exact ⟨.ref B,_,I.laid (o:=.lst (ms.map V.int)) (t':=tk) kk hB ⟨by rw[List.length_map,sizeLine_eq]; omega,us,c,Oy e2,e1⟩,rfl,q B ms e3 e4 (I.hok.fresh hB)⟩
 rcases ha with ha|⟨kvs,hd,hk⟩
 ·exact Tb.sort_set (I.ok.hd hc) (Oi I.hok ha) h64 fin
 ·obtain ⟨z,hS,ws,rk,m⟩:=(show kvs.length<=sizeLine∧(a == sysModules)=false∧∃vs,KV kvs vs∧s.heap.DictOf (ZM X.prog X.w) a vs from I.hok a _ hd)
  have hws:=Et rk hk
  have hwl:ws.length=ks.length:=by have:=congrArg List.length hws; simpa using this
  obtain ⟨o,es,ep,ho,hex,hdat,hko,hp,hn⟩:=m
  refine Sf h64 (fun R E' k=>?_) fin
  refine So (T:="dict") (o:=o) (oi:={ cls:=.type "dict_keyiterator",data:=.fields #[.ref a,.int 0 0,.int ws.length 0,.int ep 0] }) (n:=ws.length) (by decide) (by decide) ho hex.1 (by rw[sizeLine_eq]; omega) (fun s1 Q' E1 hT q1=>K5 hT q1)
   (fun s1 Q' E1 h1 q1=>wpAny_pyIter_dict (knd:=ZM X.prog X.w) (kvs:=ws) (ep:=ep) hS ⟨o,es,h1,hex,hdat,hko,hp,hn⟩ q1)
   (fun I' hI=>Walks.dictKeys (knd:=ZM X.prog X.w) (A:=X.A.in1.in1) (by simp[I.ok.hd hc]) I' a hI ws ep) (fun I' h e1 e2=>⟨⟨_,e2,rfl,rfl⟩,⟨o,es,e1,hex,hdat,hko,hp,hn⟩⟩) rfl fun h' tk acc kk hB hI=>?_
  refine k h' tk acc.toList ks kk hB ?_ (.refl _)
  have hal:acc.toList.length=ks.length:=by rw[Array.length_toList,hI.1,hwl]
  have hat:∀i (h1:i < acc.toList.length) (h2:i < ks.length),∃t,acc.toList[i]=.int ks[i] t:=fun i h1 h2=>by
   obtain ⟨k',x,e1,e2⟩:=hI.2 i acc.toList[i] (by rw[← Array.getElem?_toList]; exact List.getElem?_eq_getElem h1)
   have h3:(ws.map (·.1))[i]?=(ks.map Sum.inl)[i]?:=by rw[hws]
   rw[List.getElem?_map,List.getElem?_map,e1,List.getElem?_eq_getElem h2]at h3
   have h4:k'=Sum.inl ks[i]:=Option.some.inj h3
   rw[h4]at e2
   exact Value.isInt_shape (k:=ks[i]) e2
  clear hI k hws hwl hp rk hk
  generalize acc.toList=l at hal hat
  clear hB kk fin q h64
  induction l generalizing ks with
  |nil =>
   cases ks with
   |nil=>exact .nil
   |cons _ _=>cases hal
  |cons y l ih =>
   cases ks with
   |nil=>cases hal
   |cons k0 ks =>
    obtain ⟨t,e⟩:=hat 0 (by simp) (by simp)
    have e:y=.int k0 t:=e
    rw[e]
    exact .cons k0 t (ih ks (by simpa using hal) fun i h1 h2=>hat (i+1) (by simpa using h1) (by simpa using h2))
def sdL (ns ks:List Int):List Int:=YT ((Yi [] ns).filter fun k=>!ks.contains k)
def P5 (x:Wv):Mw (List Int):=fun om=>match x with
 |.lst ws=>match XQ ws with
  |some ns=>if ns.length < 31 then some (.ok ns,om) else none
  |none=>none
 |_=>none
def UB (ns:List Int) (y:Wv):Mw (List Wv):=fun om=>match y with
 |.o h=>match om[h]? with
  |some (.dk kvs)=>match V3 kvs with
   |some ks=>if ks.length < 31∧((Yi [] ns).length / 4<=(Yi [] ks).length∨ks=[]) then some (.ok ((sdL ns ks).map Wv.int),om) else none
   |none=>none
  |_=>none
 |_=>none
def Vx (k:List Wv->Mw Wv) (fa fb:FE):FE:=fun sl=>bnd (fa sl) fun x=>bnd (P5 x) fun ns=>bnd (fb sl) fun y=>bnd (UB ns y) k
variable {e a b:Expr} {es:List Expr} {fa fb:FE} {fs:FA} {k:List Wv->Mw Wv} {p p1 p2 p3 pos pos1 pos2:Pos}
theorem Sm:∀(js ks:List Int),ks.Nodup->(Yi ks js).Nodup
 |[],ks,h=>h
 |j::js,ks,h=>Sm js (Uq ks j) (by
  unfold Uq
  split
  ·exact h
  ·rename_i hc
   rw[List.nodup_append]
   refine ⟨h,by simp,fun x hx y hy z=>hc ?_⟩
   rw[List.mem_singleton]at hy
   rw[← hy,← z]
   simpa using hx)
theorem QZ (l:List Int) (x:Int):x∈YT l ↔ x∈l:=(Yv l).mem_iff
theorem MB (hk:Vf E k) (hc:X.calm=true) (hg:Gl X "sorted") (hm:X.mg "sorted"=none) (hg2:Gl X "set") (hm2:X.mg "set"=none) (ha:PE X a (tE E fa)) (hb:PE X b (tE E fb))
    (ea:starEach [a] X.env=(false,eval a X.env)::starEach [] X.env:=by rfl) (eb:starEach [b] X.env=(false,eval b X.env)::starEach [] X.env:=by rfl)
    (h0:starEach [.BinOp (.Call (.Name "set" p1) [a] [] pos1) .Sub (.Call (.Name "set" p2) [b] [] pos2) p3] X.env=(false,eval (.BinOp (.Call (.Name "set" p1) [a] [] pos1) .Sub (.Call (.Name "set" p2) [b] [] pos2) p3) X.env)::starEach [] X.env:=by rfl)
    (l1:(backTo pos1 (starEach [] X.env)).any (·.1)=false:=by rfl) (l2:(backTo pos2 (starEach [] X.env)).any (·.1)=false:=by rfl) (l3:(backTo pos (starEach [] X.env)).any (·.1)=false:=by rfl) :
    PE X (.Call (.Name "sorted" p) [.BinOp (.Call (.Name "set" p1) [a] [] pos1) .Sub (.Call (.Name "set" p2) [b] [] pos2) p3] [] pos) (tE E (Vx k fa fb)) :=
 (Qc (SX hc) hg hm PyProof.Rows.boot_sorted (WB (Eu FH (Tp (Nk hc) hg2 hm2 (by rfl) (WB ha Vo ea) (by decide) (by decide) ea l1) (Tp (Nk hc) hg2 hm2 (by rfl) (WB hb Vo eb) (by decide) (by decide) eb l2)) Vo h0) (by decide) (by decide) h0 l3).weak fun σ H Q ⟨F,β,om,sl,M,V,R⟩=>by
 refine ⟨F,β,om,sl,M,V,R.bind fun x om1 F1 H1 β1 g1 M1 R1 v rv=>?_⟩
 cases rv with
 |@lst pl xs ws hl rs =>
  unfold bnd P5 at R1
  dsimp only at R1
  match hn:XQ ws,R1 with
  |none,R1=>exact R1.elim
  |some ns,R1 =>
   dsimp only at R1
   by_cases hlen:ns.length < 31
   ·have R2:Res E ((bnd (fb sl) fun y=>bnd (UB ns y) k) om1) F1 H1 β1 (PV Q):=by
     rw[if_pos hlen]at R1
     exact R1
    have exs:=Uc rs hn
    subst exs
    refine ⟨pl,ns,rfl,.inl (.inl (Rd.same M1.sub hl)),hlen,fun p hp=>?_⟩
    have MU:=M1.newU (o:=UT (byT X.w) p (Yi [] ns)) hp
    have gU:=M1.gxU (o:=UT (byT X.w) p (Yi [] ns)) hp
    refine ⟨F1,β1,om1,sl,MU,V.mono g1.toGr,(Res.mono gU R2).bind fun y om2 F2 H2 β2 g2 M2 R3 u ru=>?_⟩
    have hpb:p ∉ β1:=fun hb=>by
     obtain ⟨i,hi⟩:=List.getElem?_of_mem hb
     obtain ⟨z,hz⟩:=M1.there hi
     rw[hp]at hz; cases hz
    have hpp:H2 p=some (UT (byT X.w) p (Yi [] ns)):=g2.keep p _ Zu hpb
    cases ru with
    |@o hh d ed =>
     unfold bnd UB at R3
     dsimp only at R3
     match hx:om2[hh]?,R3 with
     |none,R3=>exact R3.elim
     |some (.ins _ _),R3=>exact R3.elim
     |some (.exc _),R3=>exact R3.elim
     |some (.dz _),R3=>exact R3.elim
     |some (.lst _),R3=>exact R3.elim
     |some (.dt _),R3=>exact R3.elim
     |some (.dk kvs),R3 =>
      obtain ⟨d',ea',_,qs,hqs,rq⟩:=M2.at hx
      rw[ed]at ea'; cases ea'
      dsimp only at R3
      match hks:V3 kvs,R3 with
      |none,R3=>exact R3.elim
      |some ks,R3 =>
       dsimp only at R3
       by_cases hcond:ks.length < 31∧((Yi [] ns).length / 4<=(Yi [] ks).length∨ks=[])
       ·have R4:Res E (k ((sdL ns ks).map Wv.int) om2) F2 H2 β2 (PV Q):=by
         rw[if_pos hcond]at R3
         exact R3
        obtain ⟨c1,c2⟩:=hcond
        have la:=Xn ns []
        have lb:=Xn ks []
        rw[List.length_nil]at la lb
        refine ⟨d,ks,rfl,.inr ⟨qs,hqs,by rw[PQ rq,Tz hks]⟩,c1,fun p2 hp2=>?_⟩
        have M3:=M2.newU (o:=UT (byT X.w) p2 (Yi [] ks)) hp2
        have g3:=M2.gxU (o:=UT (byT X.w) p2 (Yi [] ks)) hp2
        refine ⟨p,p2,Yi [] ns,Yi [] ks,rfl,rfl,by rw[Zr (ZR hpp hp2)]; exact hpp,Zu,by omega,by omega,c2.imp id (fun z=>by rw[z]; rfl),fun p3 rs' hp3 nd hmem hrl=>?_⟩
        have M4:=M3.newU (o:=UT (byT X.w) p3 rs') hp3
        have g4:=M3.gxU (o:=UT (byT X.w) p3 rs') hp3
        refine ⟨p3,rs',rfl,.inl Zu,by omega,fun p4 ms hpm hps hp4=>?_⟩
        have ems:ms=sdL ns ks:=by
         refine VQ (hpm.trans (List.Perm.trans ?_ (Yv _).symm)) hps (WV _)
         have ndA:(Yi [] ns).Nodup:=Sm _ _ List.nodup_nil
         refine (List.perm_ext_iff_of_nodup nd (ndA.filter _)).mpr fun z=>?_
         rw[hmem z,List.mem_filter,Tq (js:=ks)]
         simp
        rw[ems]
        exact (hk M4 (U5 _) (Res.mono (g3.trans g4) R4)).2 hp4
       ·rw[if_neg hcond]at R3; exact R3.elim
    |_=>exact R3.elim
   ·rw[if_neg hlen]at R1; exact R1.elim
 |_=>exact R1.elim
def X2 (k:List Wv->Mw Wv) (ws:List Wv):Mw Wv:=fun om=>match ws with
 |[x]=>match x with
  |.o h=>match om[h]? with
   |some (.dk kvs)=>match V3 kvs with
    |some ns=>if ns.length < 64 then k ((YT ns).map Wv.int) om else none
    |none=>none
   |_=>none
  |_=>none
 |_=>none
theorem NJ (lk:Vf E k):VZ E (Ic X) (X2 k):=by
 intro F H β om ws vs Q M rs R
 match ws,rs,R with
 |[],_,R=>exact R.elim
 |_::_::_,_,R=>exact R.elim
 |[x],.cons rx .nil,R =>
  cases rx with
  |@o hh d ed =>
   unfold X2 at R
   dsimp only at R
   match hx:om[hh]?,R with
   |none,R=>exact R.elim
   |some (.ins _ _),R=>exact R.elim
   |some (.exc _),R=>exact R.elim
   |some (.dz _),R=>exact R.elim
   |some (.lst _),R=>exact R.elim
   |some (.dt _),R=>exact R.elim
   |some (.dk kvs),R =>
    obtain ⟨d',ea',_,qs,hqs,rq⟩:=M.at hx
    rw[ed]at ea'; cases ea'
    dsimp only at R
    match hks:V3 kvs,R with
    |none,R=>exact R.elim
    |some ns,R =>
     dsimp only at R
     by_cases hl:ns.length < 64
     ·rw[if_pos hl]at R
      refine ⟨d,ns,rfl,.inr ⟨qs,hqs,by rw[PQ rq,Tz hks]⟩,hl,fun q ms h1 h2 hq=>?_⟩
      have e:ms=YT ns:=VQ (h1.trans (Yv ns).symm) h2 (WV ns)
      rw[e]
      exact (lk M (U5 _) R).2 hq
     ·rw[if_neg hl]at R; exact R.elim
  |_=>exact R.elim
theorem NH (lk:Vf E k) (hc:X.calm=true) (hg:Gl X "sorted") (hm:X.mg "sorted"=none) (ha:PA X [e] (tA E fs)) (he:starEach [e] X.env=(false,eval e X.env)::starEach [] X.env:=by rfl) (hpl:(backTo pos (starEach [] X.env)).any (·.1)=false:=by rfl) :
    PE X (.Call (.Name "sorted" p) [e] [] pos) (tE E (fA (X2 k) fs)):=W0 (SX hc) (NJ (X:=X) lk) hg hm PyProof.Rows.boot_sorted ha (by decide) (by decide) he hpl
end
end
end L2
namespace L2
noncomputable section
open PySem PySem.Spec PyProof.Rows PySem.W
theorem RWs.rev {F:Hp} {β:List Addr}:∀{ws:List Wv} {vs:List V},RWs F β ws vs->RWs F β ws.reverse vs.reverse
 |_,_,.nil=>.nil
 |_,_,.cons h r=>by rw[List.reverse_cons,List.reverse_cons]; exact (RWs.rev r).append (.cons h .nil)
section
variable {X:Cx} {E:XK} {e o:Expr} {es:List Expr} {fo:FE} {fs:FA} {k:List Wv->Mw Wv} {p pos:Pos}
def CM (x:Wv):Mw Wv:=fun om=>match UU om x with
 |some (h,ws)=>some (.ok .non,om.set h (.lst ws.reverse))
 |none=>none
theorem Le {apos cpos:Pos} (ho:PE X o (tE E fo)) (hbase:attributeBase o "reverse" X.env (eval o X.env)=eval o X.env:=by rfl) (hline:(apos.endLine == cpos.line)=true:=by rfl) :
    PE X (.Call (.Attribute o "reverse" apos) [] [] cpos) (tE E (f1 CM fo)):=(JY PySem.F.plainAttrs_list PySem.F.slot_list_reverse PySem.F.type_list_reverse Mv ho hbase hline).weak fun σ H Q h=>by
 refine Hj (r:=fun x H1 Q=>tyV X.K "list" x H1∧N8 x [] H1 Q) ?_ h
 intro F H β om x v Q M rx R
 unfold CM at R
 match hx:UU om x,R with
 |none,R=>exact R.elim
 |some (h,ws),R =>
  obtain ⟨a,xs,_,_,eb,rfl,ha,rs⟩:=Tn M rx hx
  exact ⟨.inl ⟨rfl,xs,SqL.of ha⟩,a,xs,rfl,rfl,ha,R F _ β (M.gxP eb (nz ha)) (M.put eb ⟨_,Zu,rs.rev⟩) _ .non⟩
def IV (X:Cx):List V->Hp->VK->Prop:=fun xs H Q=>∃(l:Addr) (as:List Addr) (ps:List (Int × Int)),xs=[.ref l]∧SqL X.K H l (as.map V.ref)∧as.length=ps.length∧(∀(i:Nat) (a:Addr) (p:Int × Int),as[i]?=some a->ps[i]?=some p->H a=some (prT p))∧ps.length < 64 ∧
 ∀(B:Addr) (bs:List Addr) (qs:List (Int × Int)),H B=none->(∃p:List Nat,p.Perm (List.range as.length)∧bs=p.map (fun i=>as.getD i 0)∧qs=p.map (fun i=>ps.getD i (0,0)))->qs.Pairwise (fun x y=>ltP y x=false)->Q (.ref B) (upd H B (.lst (bs.map V.ref)))
theorem LC:∀{as:List Addr} {us:List Value},Vals (as.map V.ref) us->us=as.map Value.ref
 |[],_,.nil=>rfl
 |a::as,_,.cons h r=>by rw[List.map_cons,LC r,show _=Value.ref a from h]
theorem MG:CallR X (.builtin "sorted") (IV X):=by
 intro pins s σ H xs us Q I r h
 obtain ⟨l,as,ps,rfl,hl,hlen,hat,h64,q⟩:=h
 obtain ⟨u,rfl,ru⟩:=V1 r
 cases (show u=Value.ref l from ru)
 obtain ⟨its,rv,pl,hz⟩:=I.list hl
 have hits:=LC rv
 subst hits
 have pa:PrsAt s.heap as ps:=⟨hlen,fun i a p e1 e2=>by
  obtain ⟨_,its,rt,o,ho,hc,n,hd⟩:=I.hok a _ (hat i a p e1 e2)
  cases rt with
  |cons h1 rt =>
   cases rt with
   |cons h2 rt =>
    cases rt
    obtain ⟨t,rfl⟩:=(show ∃t,_=Value.int p.1 t from h1)
    obtain ⟨u,rfl⟩:=(show ∃u,_=Value.int p.2 u from h2)
    exact ⟨o,t,u,n,ho,hc,hd⟩⟩
 refine Calls.call_function_entry kind_sorted plain_sorted entry_sorted (args_sorted1 _) (show wpAny _ _ (Builtin.«sorted» _) _ _ _ from ?_)
 unfold Builtin.«sorted»
 refine wpAny_bind (m:=checkCount "sorted" 1 1 _) (wpAny_pure (wpAny_bind (collect_list (vs:=as.map Value.ref) pl.isList ?_ (by rw[List.length_map,sizeLine_eq]; omega))))
 have sz1:((s.heap.push (seqObj "list" #[] 0)).update s.heap.objs.size (Obj.mapSeq (·++(as.map Value.ref).toArray))).objs.size=s.heap.objs.size+1:=by rw[Heap.size_update,size_push']
 have k1:∀b o,s.heap.get? b=some o->((s.heap.push (seqObj "list" #[] 0)).update s.heap.objs.size (Obj.mapSeq (·++(as.map Value.ref).toArray))).get? b=some o:=fun b o e=>by
  rw[Heap.get?_update_ne _ _ _ _ (Nat.ne_of_lt (Heap.lt_size e))]
  exact Heap.get?_push_of_some _ e
 generalize (s.heap.push (seqObj "list" #[] 0)).update s.heap.objs.size (Obj.mapSeq (·++(as.map Value.ref).toArray))=h1 at sz1 k1
 refine wpAny_bind (wpAny_newList ?_ (by rw[List.length_map,sizeLine_eq]; omega))
 have g2:(h1.push (seqObj "list" (as.map Value.ref).toArray 0)).get? h1.objs.size=some (seqObj "list" (as.map Value.ref).toArray 0):=Heap.get?_push_size _ rfl
 have k2:∀b o,s.heap.get? b=some o->(h1.push (seqObj "list" (as.map Value.ref).toArray 0)).get? b=some o:=fun b o e=>Heap.get?_push_of_some _ (k1 b o e)
 have lt:∀a∈as,a < s.heap.objs.size:=fun a ha=>by
  obtain ⟨i,hi⟩:=List.getElem?_of_mem ha
  have hil:i < ps.length:=by rw[← hlen]; exact (List.getElem?_eq_some_iff.mp hi).1
  obtain ⟨o,_,_,_,ho,_⟩:=pa.at' i a ps[i] hi (List.getElem?_eq_getElem hil)
  exact Heap.lt_size ho
 have hB:h1.objs.size ∉ as:=fun hm=>absurd (lt _ hm) (by rw[sz1]; exact Nat.not_lt.mpr (Nat.le_succ _))
 refine wpAny_bind (wpAny_holding (wpAny_call_entry slot_list_sort ⟨_,g2,rfl⟩ entry_list_sort (RY (s:={ s with heap:=h1.push (seqObj "list" (as.map Value.ref).toArray 0) }) g2 (pa.keep fun a _ o e=>k2 a o e) hB (by omega) fun h2 bs qs c kk g3 hp hs=>⟨_,rfl,wpAny_pure ⟨_,rfl,?_⟩⟩) (args_list_sort _)))
 have hle:s.heap.objs.size<=h1.objs.size:=by rw[sz1]; exact Nat.le_succ _
 refine ⟨.ref h1.objs.size,_,I.laid (o:=.lst (bs.map V.ref)) (t':=s.toks) (fun b o e=>kk b o (Nat.ne_of_lt (Nat.lt_of_lt_of_le (Heap.lt_size e) hle)) (k2 b o e)) hle ⟨?_,bs.map Value.ref,c,Tv bs,g3⟩,rfl,q _ bs qs (I.hok.fresh hle) hp hs⟩
 obtain ⟨p,hp1,hp2,_⟩:=hp
 rw[List.length_map,hp2,List.length_map,hp1.length_eq,List.length_range,sizeLine_eq]; omega
def No:List Wv->Option (List (Int × Int))
 |[]=>some []
 |.tup [.int a,.int b]::r=>match No r with
  |some ps=>some ((a,b)::ps)
  |none=>none
 |_=>none
theorem O5:∀ps:List (Int × Int),No (ps.map prW)=some ps
 |[]=>rfl
 |(a,b)::ps=>by
  show (match No (ps.map prW) with|some ps=>some ((a,b)::ps)|none=>none)=_
  rw[O5 ps]
theorem LY:∀{us:List Wv} {ps:List (Int × Int)},No us=some ps->us=ps.map prW
 |[],_,e=>by cases e; rfl
 |u::us,ps,e=>by
  unfold No at e
  split at e
  ·rename_i h; cases h
  ·rename_i a b r h
   cases h
   match hr:No us,e with
   |some qs,e =>
    have e:some ((a,b)::qs)=some ps:=e
    cases e
    rw[List.map_cons,← LY hr]; rfl
   |none,e=>exact nomatch e
  ·cases e
theorem Km {F:Hp} {β:List Addr}:∀{ps:List (Int × Int)} {vs:List V},RWs F β (ps.map prW) vs->∃as:List Addr,vs=as.map V.ref∧as.length=ps.length∧∀(i:Nat) (a:Addr) (p:Int × Int),as[i]?=some a->ps[i]?=some p->F a=some (prT p)
 |[],_,.nil=>⟨[],rfl,rfl,fun i a p e=>by simp at e⟩
 |(x,y)::ps,_,.cons h r=>by
  obtain ⟨as,e1,e2,e3⟩:=Km r
  cases h with
  |@tup a xs ws e r =>
   cases r with
   |cons h1 r =>
    cases r with
    |cons h2 r =>
     cases r
     cases h1
     cases h2
     refine ⟨a::as,by rw[e1]; rfl,by simp[e2],fun i b p q1 q2=>?_⟩
     cases i with
     |zero=>simp at q1 q2; subst q1 q2; exact e
     |succ i=>exact e3 i b p (by simpa using q1) (by simpa using q2)
def XO (k:List Wv->Mw Wv) (ws:List Wv):Mw Wv:=fun om=>match ws with
 |[x]=>match x with
  |.lst us=>match No us with
   |some ps=>if ps.length < 64 then k ((YS ps).map prW) om else none
   |none=>none
  |_=>none
 |_=>none
theorem Na (lk:Vf E k):VZ E (IV X) (XO k):=by
 intro F H β om ws vs Q M rs R
 match ws,rs,R with
 |[],_,R=>exact R.elim
 |_::_::_,_,R=>exact R.elim
 |[x],.cons rx .nil,R =>
  cases rx with
  |@lst l xs us hl rs =>
   unfold XO at R
   dsimp only at R
   match hp:No us,R with
   |none,R=>exact R.elim
   |some ps,R =>
    dsimp only at R
    by_cases h64:ps.length < 64
    ·rw[if_pos h64]at R
     rw[LY hp]at rs
     obtain ⟨as,rfl,hlen,hat⟩:=Km rs
     refine ⟨l,as,ps,rfl,.inl (Rd.same M.sub hl),hlen,fun i a p e1 e2=>M.sub a _ (hat i a p e1 e2),h64,fun B bs qs hB ⟨p,hp1,hp2,hp3⟩ hs=>?_⟩
     have eqs:qs=YS ps:=by
      refine WX ?_ hs (Xm ps)
      refine List.Perm.trans ?_ (Yj ps).symm
      rw[hp3]
      refine (hp1.map _).trans ?_
      rw[hlen]
      have:(List.range ps.length).map (fun i=>ps.getD i (0,0))=ps:=List.ext_getElem? fun i=>by
       by_cases hi:i < ps.length
       ·simp[hi]
       ·simp[hi]
      rw[this]
     have rws:RWs F β ((YS ps).map prW) (bs.map L2.V.ref):=by
      rw[← eqs,hp3,hp2]
      have hall:∀i∈p,i < as.length:=fun i hi=>by have:=hp1.mem_iff.mp hi; simpa using this
      clear hp1 hp2 hp3 eqs hs
      induction p with
      |nil=>exact .nil
      |cons i p ih =>
       have hi:=hall i (.head _)
       refine .cons ?_ (ih fun j hj=>hall j (.tail _ hj))
       have e1:as.getD i 0=as[i]:=by simp[hi]
       have e2:ps.getD i (0,0)=ps[i]'(by omega):=by simp[show i < ps.length by omega]
       show RW F β (prW (ps.getD i (0,0))) (L2.V.ref (as.getD i 0))
       rw[e1,e2]
       exact .tup (hat i _ _ (List.getElem?_eq_getElem hi) (List.getElem?_eq_getElem (by omega))) (.cons (.int _) (.cons (.int _) .nil))
     exact (lk M rws R).2 hB
    ·rw[if_neg h64]at R; exact R.elim
  |_=>exact R.elim
theorem ML (lk:Vf E k) (hg:Gl X "sorted") (hm:X.mg "sorted"=none) (ha:PA X [e] (tA E fs)) (he:starEach [e] X.env=(false,eval e X.env)::starEach [] X.env:=by rfl) (hpl:(backTo pos (starEach [] X.env)).any (·.1)=false:=by rfl) :
    PE X (.Call (.Name "sorted" p) [e] [] pos) (tE E (fA (XO k) fs)):=W0 MG (Na (X:=X) lk) hg hm PyProof.Rows.boot_sorted ha (by decide) (by decide) he hpl
end
end
end L2
namespace MP
noncomputable section
open PySem L2
def Wc (c:CA):FE :=
 (f2 XS (f2 XD (Za 2) (Za 0)) (Za 1))
def Qv (c:CA):FS :=
 (ZE (ZO 2 (f2 XS (fA (kN 2 (g__law_cell_at c)) (Zc (Za 0) (Zc (fC (.int 2)) Zk))) (Za 1)))
  (ZE (ZO 3 (Yc Vg [1,2] (fun sl=>bnd ((Za 1) sl) Wn) XC (Wc c)))
  (ZE (sIf (fB (f2 kEq (f2 XS (f2 Sw (fA (kN 2 (g__law_cell_at c)) (Zc (Za 0) (Zc (fC (.int 2)) Zk))) (fC (.int 60))) (fC (.int 2))) (fC (.int 1)))) (Yg (f1 CM (Za 3))) Y8)
  (Ym (Za 3)))))
def g__law_places (c:CA):List Wv->Mw Wv:=Yl 4 (Qv c)
def Wx (c:CA):FS :=
 (Yg (Zq c.Map "link" 3 (XA c) (Za 5) (Zc (f2 kIx (Za 0) (Za 6)) (Zc (f2 kIx (Za 0) (f2 XD (Za 6) (fC (.int 1)))) Zk))))
def Ww (c:CA):FS :=
 (Yg (Zq c.Board "post" 3 (Xq c) (Za 7) (Zc (f2 kIx (Za 0) (Za 6)) (Zc (f2 XS (f2 GS (Za 6) (Za 3)) (fC (.int 8))) Zk))))
def Wy (c:CA):FS :=
 (Yg (Zq c.Orders "move" 3 (YV c) (Za 8) (Zc (f2 kIx (Za 0) (Za 6)) (Zc (f2 kIx (Za 0) (f2 XD (Za 6) (fC (.int 1)))) Zk))))
def Tu (c:CA):FS :=
 (ZE (ZO 4 (fA UM (Zc (Za 0) Zk)))
  (ZE (ZO 5 (fA (YY c.Map 2 (Wh c)) (Zc (Za 4) Zk)))
  (ZE (Tc (fun sl=>bnd ((f2 Wq (Za 4) (fC (.int 1))) sl) Wn) (tgN 6) (Wx c))
  (ZE (sIf (WZ (Za 1)) (Yg (Zq c.Map "link" 3 (XA c) (Za 5) (Zc (f2 kIx (Za 0) (f2 Wq (Za 4) (fC (.int 1)))) (Zc (f2 kIx (Za 0) (fC (.int 0))) Zk)))) Y8)
  (ZE (ZO 7 (fA (YY c.Board 2 (YQ c)) (Zc (Za 5) Zk)))
  (ZE (Tc (fun sl=>bnd ((f2 XD (f2 Wq (Za 4) (fC (.int 1))) (fA Qg (Zc (Za 2) Zk))) sl) Wn) (tgN 6) (Ww c))
  (ZE (ZO 8 (fA (YY c.Orders 2 (Xc c)) (Zc (Za 7) Zk)))
  (ZE (Tc (fun sl=>bnd ((f2 Wq (Za 4) (fC (.int 1))) sl) Wn) (tgN 6) (Wy c))
  (ZE (sIf (WZ (Za 1)) (Yg (Zq c.Orders "move" 3 (YV c) (Za 8) (Zc (f2 kIx (Za 0) (f2 Wq (Za 4) (fC (.int 1)))) (Zc (f2 kIx (Za 0) (fC (.int 0))) Zk)))) Y8)
  (Ym (Za 8)))))))))))
def g__law_orders_on (c:CA):List Wv->Mw Wv:=Yl 9 (Tu c)
def Qs (c:CA):FE :=
 (fA VR (Zc (Za 0) (Zc (f2 Xu (f1 (ZU c.Turn "pushed") (Za 1)) (Za 0)) (Zc (f2 Xu (f1 (ZU c.Turn "comers") (Za 1)) (Za 0)) Zk))))
def Oe (c:CA):FS :=
 (Ym (Yc ZQ [0] (fun sl=>bnd ((fA (X2 ZQ) (Zc (f1 (ZU c.Turn "pushed") (Za 0)) Zk)) sl) ZL) XC (Qs c)))
def XZ (c:CA):List Wv->Mw Wv:=Yl 1 (Oe c)
def Wj (c:CA):FT :=
 (fB (f2 (X8 false) (Za 0) (Za 2)))
def Wi (c:CA):FE :=
 (fA VR (Zc (f2 Xu (Za 2) (Za 0)) (Zc (Za 1) Zk)))
def Wm (c:CA):FT :=
 (UZ (fB (f2 (X8 true) (Za 0) (Za 2))) (fB (f2 (X8 true) (Za 0) (Za 3))))
def Wl (c:CA):FE :=
 (fA VR (Zc (Za 0) (Zc (Za 1) Zk)))
def Qt (c:CA):FS :=
 (ZE (ZO 3 (We ZQ 2 [1] (fun sl=>bnd ((Zq c.Board "roll" 1 (Z5 c) (Za 0) Zk) sl) ZL) (Wj c) (Wi c)))
  (ZE (ZO 4 (We ZQ 2 [1,2] (fun sl=>bnd ((Zq c.Board "roll" 1 (Z5 c) (Za 0) Zk) sl) ZL) (Wm c) (Wl c)))
  (Ym (f2 CT (Za 3) (Za 4)))))
def g_units_after (c:CA):List Wv->Mw Wv:=Yl 5 (Qt c)
def Vh (c:CA):FS :=
 (Yg (Zq c.Board "post" 3 (Xq c) (Za 2) (Zc (Za 3) (Zc (Za 4) Zk))))
def RO (c:CA):FS :=
 (ZE (ZO 2 (fA (YY c.Board 2 (YQ c)) (Zc (Za 0) Zk)))
  (ZE (Tc (fun sl=>bnd ((Za 1) sl) ZL) (J1 [3,4]) (Vh c))
  (Ym (Za 2))))
def g_posted_board (c:CA):List Wv->Mw Wv:=Yl 5 (RO c)
def U1 (c:CA):FS :=
 (ZE (YJ (Zq c.Orders "goal_of" 2 (Zl c) (Za 1) (Zc (Za 2) Zk)) (f1 (ZU c.Turn "goals") (Za 0)) (Za 2))
  (YJ (Za 2) (f1 (ZU c.Turn "comers") (Za 0)) (Zq c.Orders "goal_of" 2 (Zl c) (Za 1) (Zc (Za 2) Zk))))
def UO (c:CA):FS :=
 (sIf (UZ (fB (f2 (X8 false) (Za 2) (f1 (ZU c.Turn "comers") (Za 0)))) (fB (f2 (X8 true) (Za 2) (f1 (ZU c.Turn "goals") (Za 0))))) (YJ (Za 3) (f1 (ZU c.Turn "pushed") (Za 0)) (Za 2)) Y8)
def UE (c:CA):FE :=
 (Zq c.Orders "goal_of" 2 (Zl c) (Za 1) (Zc (Za 0) Zk))
def Ni (c:CA):FS :=
 (ZE (Y3 c.Turn "goals" (fun _=>newO (.dk [])) (Za 0))
  (ZE (Y3 c.Turn "comers" (fun _=>newO (.dk [])) (Za 0))
  (ZE (Tc (fun sl=>bnd ((fA (kN 1 (g_settled c)) (Zc (Za 1) Zk)) sl) ZL) (tgN 2) (U1 c))
  (ZE (Y3 c.Turn "pushed" (fun _=>newO (.dk [])) (Za 0))
  (ZE (Tc (fun sl=>bnd ((Zq c.Board "roll" 1 (Z5 c) (f1 (ZU c.Orders "board") (Za 1)) Zk) sl) ZL) (J1 [2,3]) (UO c))
  (ZE (ZO 4 (Yc ZQ [1] (fun sl=>bnd ((Zq c.Orders "movers" 1 (ZJ c) (Za 1) Zk) sl) ZL) XC (UE c)))
  (ZE (Y3 c.Turn "closed" (Vx ZQ (Za 4) (f1 (ZU c.Turn "comers") (Za 0))) (Za 0))
  (Y3 c.Turn "board" (fA (kN 2 (g_posted_board c)) (Zc (f1 (ZU c.Board "chart") (f1 (ZU c.Orders "board") (Za 1))) (Zc (fA (kN 3 (g_units_after c)) (Zc (f1 (ZU c.Orders "board") (Za 1)) (Zc (f1 (ZU c.Turn "goals") (Za 0)) (Zc (f1 (ZU c.Turn "comers") (Za 0)) Zk)))) Zk))) (Za 0)))))))))
def Yz (c:CA):List Wv->Mw Wv:=Yl 5 (Ni c)
def O3 (c:CA):FS :=
 (Ym (UQ ZQ (f1 (ZU c.Turn "goals") (Za 0))))
def XJ (c:CA):List Wv->Mw Wv:=Yl 1 (O3 c)
def Mj (c:CA):FE :=
 (fA VR (Zc (f2 XD (Za 0) (fC (.int 1))) (Zc (f2 kIx (Za 2) (f2 Wq (f2 Wq (Za 1) (fC (.int 2))) (Za 0))) (Zc (fC (.int 3)) Zk))))
def M0 (c:CA):FE :=
 (fA VR (Zc (f2 kIx (Za 2) (Za 0)) (Zc (f2 kIx (Za 2) (f2 XS (f2 XD (Za 0) (fC (.int 1))) (Za 1))) Zk)))
def SR (c:CA):FE :=
 (f2 kIx (Za 0) (fC (.int 0)))
def Bf (c:CA):FS :=
 (ZE (ZO 1 (f2 XD (fC (.int 3)) (f2 XS (fA (kN 2 (g__law_cell_at c)) (Zc (Za 0) (Zc (fC (.int 0)) Zk))) (fC (.int 5)))))
  (ZE (sIf (fB (f2 kEq (f2 XS (f2 Sw (fA (kN 2 (g__law_cell_at c)) (Zc (Za 0) (Zc (fC (.int 0)) Zk))) (fC (.int 5))) (fC (.int 4))) (fC (.int 1)))) (ZO 1 (f2 XD (fC (.int 3)) (f2 XS (f2 Sw (fA (kN 2 (g__law_cell_at c)) (Zc (Za 0) (Zc (fC (.int 0)) Zk))) (fC (.int 20))) (fC (.int 22))))) Y8)
  (ZE (ZO 2 (f2 XS (fA (kN 2 (g__law_cell_at c)) (Zc (Za 0) (Zc (fC (.int 1)) Zk))) (fC (.int 3))))
  (ZE (sIf (fB (f2 kEq (Za 2) (fC (.int 1)))) (ZO 1 (fA Ny (Zc (Za 1) (Zc (fC (.int 17)) Zk)))) Y8)
  (ZE (ZO 3 (fA (kN 2 (g__law_places c)) (Zc (Za 0) (Zc (Za 1) Zk))))
  (ZE (ZO 4 (f2 XS (f2 Sw (fA (kN 2 (g__law_cell_at c)) (Zc (Za 0) (Zc (fC (.int 1)) Zk))) (fC (.int 3))) (fC (.int 8))))
  (ZE (ZO 5 (fA (kN 4 (g__law_orders_on c)) (Zc (Za 3) (Zc (f2 kEq (Za 2) (fC (.int 0))) (Zc (f2 kLt (Za 2) (fC (.int 2))) (Zc (Za 4) Zk))))))
  (ZE (sIf (fB (f2 kEq (Za 2) (fC (.int 1)))) (ZE (ZO 6 (Yc ZQ [1,3] (fun sl=>bnd ((f2 Wq (Za 1) (fC (.int 1))) sl) Wn) XC (Mj c)))
  (Ym (X7 (f2 kEq (fA (kN 1 (g_settled c)) (Zc (Za 5) Zk)) (fA ZQ Zk)) (f2 kEq (fA (kN 1 (YO c)) (Zc (Za 5) Zk)) (Za 6))))) Y8)
  (ZE (ZO 7 (Yc ZQ [1,3] (fun sl=>bnd ((f2 XD (f2 Wq (Za 1) (fC (.int 1))) (fA Qg (Zc (f2 kEq (Za 2) (fC (.int 0))) Zk))) sl) Wn) XC (M0 c)))
  (ZE (sIf (fOr (fB (f2 kNe (fA (kN 1 (YO c)) (Zc (Za 5) Zk)) (fA ZQ Zk))) (fB (f2 kNe (fA (kN 1 (g_settled c)) (Zc (Za 5) Zk)) (fA (YU ZQ) (Zc (Yc ZQ [] (fun sl=>bnd ((Za 7) sl) ZL) XC (SR c)) Zk))))) (Ym (fC (.bl false))) Y8)
  (Ym (X7 (f2 kEq (Zq c.Turn "done" 1 (XJ c) (fA (YY c.Turn 2 (Yz c)) (Zc (Za 5) Zk)) Zk) (fA (XO ZQ) (Zc (Za 7) Zk))) (f2 kEq (Zq c.Turn "aside" 1 (XZ c) (fA (YY c.Turn 2 (Yz c)) (Zc (Za 5) Zk)) Zk) (fA ZQ Zk))))))))))))))
def Hk (c:CA):List Wv->Mw Wv:=Yl 8 (Bf c)
end
open PySem L2
structure Rw (n:Nat) (p q:Nat->Nat):Prop where
 lt:∀k,k < n->p k < n
 inv:∀k,k < n->q (p k)=k
 ltq:∀x,x < n->q x < n
 invq:∀x,x < n->p (q x)=x
theorem Rw.inj {n:Nat} {p q:Nat->Nat} (R:Rw n p q) {i j:Nat} (hi:i < n) (hj:j < n) (h:p i=p j):i=j:=by
 rw[← R.inv i hi,← R.inv j hj,h]
theorem HD {α:Type} (g:Nat->Option α) (n j:Nat):at' ((List.range n).map g) j=if j < n then g j else none:=by
 unfold at'
 rw[List.getD_eq_getElem?_getD,List.getElem?_map]
 by_cases h:j < n
 ·rw[List.getElem?_range h,if_pos h]; rfl
 ·rw[List.getElem?_eq_none (by rw[List.length_range]; omega),if_neg h]; rfl
theorem CB {l:List Nat} {a:Nat} (nd:l.Nodup) (h:∀x,x∈l ↔ x=a):l=[a]:=by
 match l,nd,h with
 |[],_,h=>exact absurd ((h a).mpr rfl) (by simp)
 |[b],_,h=>rw[(h b).mp (.head _)]
 |b::d::l,nd,h =>
  have h1:=(h b).mp (.head _)
  have h2:=(h d).mp (.tail _ (.head _))
  subst h1 h2
  exact absurd (List.Mem.head _) (List.nodup_cons.mp nd).1
section
variable (n:Nat) (p q:Nat->Nat) (ring last:Bool) (sd:Nat->Int)
def un (k:Nat):Bool:=decide (k+1 < n) || (last&&decide (k+1=n))
def mvB (k:Nat):Bool:=decide (k+1 < n) || (ring&&decide (k+1=n))
def f16:List (Option Int):=(List.range n).map fun x=>if un n last (q x)=true then some (sd (q x)) else none
def t16:List (Option Od):=(List.range n).map fun x=>if un n last (q x)=true then some (if mvB n ring (q x)=true then .move (p ((q x+1) % n)) else .stand) else none
def adj (a b:Nat):Bool:=(mvB n ring a&&decide ((a+1) % n=b)) || (mvB n ring b&&decide ((b+1) % n=a))
def r16:Mx:=(List.range n).map fun i=>(List.range n).map fun j=>adj n ring (q i) (q j)
theorem Y5:(f16 n q last sd).length=n:=by simp[f16]
theorem GU:(t16 n p q ring last).length=n:=by simp[t16]
theorem Vw (x:Nat):at' (f16 n q last sd) x=if x < n then (if un n last (q x)=true then some (sd (q x)) else none) else none:=HD ..
theorem SZ (x:Nat):at' (t16 n p q ring last) x=if x < n then (if un n last (q x)=true then some (if mvB n ring (q x)=true then .move (p ((q x+1) % n)) else .stand) else none) else none:=HD ..
theorem Og (i j:Nat):P6 (r16 n q ring) i j=(decide (i < n)&&(decide (j < n)&&adj n ring (q i) (q j))):=by
 have row:(r16 n q ring).getD i []=if i < n then (List.range n).map (fun j=>adj n ring (q i) (q j)) else []:=by
  unfold r16
  rw[List.getD_eq_getElem?_getD,List.getElem?_map]
  by_cases h:i < n
  ·rw[List.getElem?_range h,if_pos h]; rfl
  ·rw[List.getElem?_eq_none (by rw[List.length_range]; omega),if_neg h]; rfl
 unfold P6
 rw[row]
 by_cases h:i < n
 ·rw[if_pos h,List.getD_eq_getElem?_getD,List.getElem?_map]
  by_cases h2:j < n
  ·rw[List.getElem?_range h2]
   simp[h,h2]
  ·rw[List.getElem?_eq_none (by rw[List.length_range]; omega)]
   simp[h2]
 ·rw[if_neg h]
  simp[h]
variable {n p q ring last sd} (R:Rw n p q) (h3:3<=n) (rl:ring=true->last=true)
include rl in
theorem Bl {k:Nat} (h:mvB n ring k=true):un n last k=true:=by
 unfold mvB at h
 unfold un
 rw[Bool.or_eq_true]at h ⊢
 rcases h with h|h
 ·exact .inl h
 ·rw[Bool.and_eq_true]at h
  refine .inr ?_
  rw[rl h.1,h.2]; rfl
include h3 in
theorem VB (k:Nat):(k+1) % n < n:=Nat.mod_lt _ (by omega)
include R h3 rl in
theorem Mg {x g:Nat}:at' (t16 n p q ring last) x=some (.move g) ↔ x < n∧mvB n ring (q x)=true∧g=p ((q x+1) % n):=by
 rw[SZ]
 by_cases hx:x < n
 ·rw[if_pos hx]
  cases hm:mvB n ring (q x) with
  |true =>
   rw[if_pos (Bl rl hm),if_pos rfl]
   exact ⟨fun h=>⟨hx,rfl,by injection h with h; injection h with h; exact h.symm⟩,fun ⟨_,_,h⟩=>by rw[h]⟩
  |false =>
   rw[if_neg Bool.false_ne_true]
   refine ⟨fun h=>?_,fun h=>nomatch h.2.1⟩
   split at h
   ·cases h
   ·cases h
 ·rw[if_neg hx]
  exact ⟨fun h=>(nomatch h),fun h=>absurd h.1 hx⟩
theorem DI {x a b:Nat}:at' (t16 n p q ring last) x≠some (.help a b):=by
 rw[SZ]
 intro h
 split at h
 ·split at h
  ·split at h <;> cases h
  ·cases h
 ·cases h
theorem Me (k g:Nat) (s:Option Int):Xr (t16 n p q ring last) (f16 n q last sd) k g s=1:=by
 unfold Xr
 have:∀l:List Nat,l.foldl (fun a h=>bif Lq (t16 n p q ring last) (f16 n q last sd) k g s h then a+1 else a) (1:Int)=1:=fun l=>by
  induction l with
  |nil=>rfl
  |cons h l ih =>
   rw[List.foldl_cons]
   have e:Lq (t16 n p q ring last) (f16 n q last sd) k g s h=false:=by
    unfold Lq
    rw[decide_eq_false DI]; rfl
   rw[e]
   exact ih
 exact this _
theorem CK (k:Nat):N6 (t16 n p q ring last) (f16 n q last sd) k=1:=by
 unfold N6
 rw[Me]
 cases Xg (at' (t16 n p q ring last) k) <;> rfl
include R h3 in
theorem Fw (a:Nat) (ha:a < n):adj n ring a a=false:=by
 unfold adj
 have:¬ (a+1) % n=a:=fun h=>by
  by_cases e:a+1 < n
  ·rw[Nat.mod_eq_of_lt e]at h; omega
  ·have:a+1=n:=by omega
   rw[this,Nat.mod_self]at h; omega
 rw[decide_eq_false this]
 simp
include R h3 in
theorem AO:Lk n (r16 n q ring):=by
 refine ⟨by simp[r16],fun a ha=>?_,fun a b=>?_,fun a=>?_⟩
 ·unfold r16
  rw[List.getD_eq_getElem?_getD,List.getElem?_map,List.getElem?_range ha]
  simp
 ·rw[Og,Og]
  have:adj n ring (q a) (q b)=adj n ring (q b) (q a):=by unfold adj; rw[Bool.or_comm]
  rw[this]
  cases decide (a < n) <;> cases decide (b < n) <;> rfl
 ·rw[Og]
  by_cases h:a < n
  ·rw[Fw R h3 (q a) (R.ltq a h)]; simp
  ·simp[h]
include R h3 rl in
theorem Fj (hn:n<=60):Givn (r16 n q ring) (f16 n q last sd) (t16 n p q ring last):=by
 refine ⟨by rw[Y5]; exact AO R h3,by rw[GU,Y5],by rw[Y5]; exact hn,fun x hx=>?_⟩
 rw[Y5]at hx
 rw[SZ,if_pos hx]
 have hf:=Vw n q last sd x
 rw[if_pos hx]at hf
 cases hu:un n last (q x) with
 |false =>
  rw[hu,if_neg Bool.false_ne_true]at hf
  rw[if_neg Bool.false_ne_true]
  exact hf
 |true =>
  rw[hu,if_pos rfl]at hf
  rw[if_pos rfl]
  cases hm:mvB n ring (q x) with
  |false =>
   rw[if_neg Bool.false_ne_true]
   show (at' (f16 n q last sd) x).isSome=true
   rw[hf]; rfl
  |true =>
   rw[if_pos rfl]
   have hl:=VB h3 (q x)
   refine ⟨by rw[hf]; rfl,by rw[Y5]; exact R.lt _ hl,?_⟩
   rw[Og,R.inv _ hl]
   have:adj n ring (q x) ((q x+1) % n)=true:=by unfold adj; rw[hm]; simp
   rw[this,decide_eq_true hx,decide_eq_true (R.lt _ hl)]; rfl
theorem Sj {x:Nat} (R:Rw n p q) (h3:3<=n) (rl:ring=true->last=true):x∈mvL (t16 n p q ring last) (f16 n q last sd) ↔ x < n∧mvB n ring (q x)=true:=by
 rw[Ws,Y5]
 exact ⟨fun ⟨h1,g,h2⟩=>⟨h1,((Mg R h3 rl).mp h2).2.1⟩,fun ⟨h1,h2⟩=>⟨h1,_,(Mg R h3 rl).mpr ⟨h1,h2,rfl⟩⟩⟩
theorem Iz {n i j:Nat} (hi:i < n) (hj:j < n) (h:(i+1) % n=(j+1) % n):i=j:=by
 by_cases e1:i+1 < n
 ·rw[Nat.mod_eq_of_lt e1]at h
  by_cases e2:j+1 < n
  ·rw[Nat.mod_eq_of_lt e2]at h; omega
  ·rw[show j+1=n by omega,Nat.mod_self]at h; omega
 ·rw[show i+1=n by omega,Nat.mod_self]at h
  by_cases e2:j+1 < n
  ·rw[Nat.mod_eq_of_lt e2]at h; omega
  ·omega
theorem DZ {n i:Nat} (h3:3<=n) (hi:i < n):((i+1) % n+1) % n≠i:=fun h=>by
 by_cases e1:i+1 < n
 ·rw[Nat.mod_eq_of_lt e1]at h
  by_cases e2:i+1+1 < n
  ·rw[Nat.mod_eq_of_lt e2]at h; omega
  ·rw[show i+1+1=n by omega,Nat.mod_self]at h; omega
 ·rw[show i+1=n by omega,Nat.mod_self,Nat.mod_eq_of_lt (by omega)]at h; omega
include R h3 rl in
theorem Dw {x g:Nat} (h:at' (t16 n p q ring last) x=some (.move g)):Vk (t16 n p q ring last) (f16 n q last sd) x g=bif (at' (f16 n q last sd) g).isNone then 0 else 3:=by
 obtain ⟨hx,hm,hg⟩:=(Mg R h3 rl).mp h
 have ho:MW (t16 n p q ring last) (f16 n q last sd) x g=false:=by
  unfold MW
  rw[List.any_eq_false]
  intro m hm'
  obtain ⟨_,h2⟩:=List.mem_filter.mp hm'
  rw[Bool.and_eq_true,decide_eq_true_iff]at h2
  obtain ⟨h4,h5⟩:=h2
  obtain ⟨hy,hym,hyg⟩:=(Mg R h3 rl).mp h5
  rw[hg]at hyg
  have:=R.inj (VB h3 _) (VB h3 _) hyg
  have:=Iz (R.ltq x hx) (R.ltq m hy) this
  have:m=x:=by rw[← R.invq m hy,← R.invq x hx,this]
  subst this
  simp at h4
 have hh:¬ at' (t16 n p q ring last) g=some (.move x):=fun z=>by
  obtain ⟨hy,hym,hyg⟩:=(Mg R h3 rl).mp z
  have e1:q g=(q x+1) % n:=by rw[hg]; exact R.inv _ (VB h3 _)
  have e2:q x=(q g+1) % n:=by
   have:=R.inv _ (VB h3 (q g))
   rw[← hyg]at this; exact this
  rw[e1]at e2
  exact DZ h3 (R.ltq x hx) e2.symm
 unfold Vk Q4
 rw[ho,decide_eq_false hh,CK,Me]
 cases (at' (f16 n q last sd) g).isNone <;> simp
include R h3 rl in
theorem L0 {x g:Nat} (ps:List Nat) (h:at' (t16 n p q ring last) x=some (.move g)):ZX (t16 n p q ring last) (f16 n q last sd) ps x=bif (at' (f16 n q last sd) g).isNone || ps.contains g then 0 else 3:=by
 unfold ZX
 rw[h]
 dsimp only
 rw[Dw R h3 rl h]
 cases (at' (f16 n q last sd) g).isNone <;> cases ps.contains g <;> rfl
include R h3 rl in
theorem Da (hw:ring=last):Yr (t16 n p q ring last) (f16 n q last sd)=[]∧Rg (t16 n p q ring last) (f16 n q last sd) 100 (mvL (t16 n p q ring last) (f16 n q last sd))=mvL (t16 n p q ring last) (f16 n q last sd):=by
 have hf:fallen (t16 n p q ring last) (f16 n q last sd) (mvL (t16 n p q ring last) (f16 n q last sd))=[]:=by
  unfold fallen
  rw[List.filter_eq_nil_iff]
  intro x hx
  obtain ⟨h1,h2⟩:=(Sj R h3 rl).mp hx
  have e:=(Mg R h3 rl).mpr ⟨h1,h2,rfl⟩
  rw[L0 R h3 rl _ e]
  have hl:=VB h3 (q x)
  have:((at' (f16 n q last sd) (p ((q x+1) % n))).isNone || (mvL (t16 n p q ring last) (f16 n q last sd)).contains (p ((q x+1) % n)))=true:=by
   rw[Vw,if_pos (R.lt _ hl),R.inv _ hl]
   cases hu:un n last ((q x+1) % n) with
   |false=>rfl
   |true =>
    have hm:mvB n ring ((q x+1) % n)=true:=by rw[hw]; exact hu
    have:p ((q x+1) % n)∈mvL (t16 n p q ring last) (f16 n q last sd):=(Sj R h3 rl).mpr ⟨R.lt _ hl,by rw[R.inv _ hl]; exact hm⟩
    rw[List.contains_iff_mem.mpr this]; simp
  rw[this]
  simp
 refine ⟨W8 hf 100 1,?_⟩
 have:∀m,Rg (t16 n p q ring last) (f16 n q last sd) m (mvL (t16 n p q ring last) (f16 n q last sd))=mvL (t16 n p q ring last) (f16 n q last sd):=fun m=>by
  induction m with
  |zero=>rfl
  |succ m ih=>unfold Rg; rw[NS hf]; exact ih
 exact this 100
end
section
variable {n:Nat} {p q:Nat->Nat} {sd:Nat->Int} (R:Rw n p q) (h3:3<=n)
def lf (n:Nat) (q:Nat->Nat) (r:Nat):List Nat:=(List.range n).filter fun x=>decide (q x+1+r < n)
theorem RN {n:Nat} {q:Nat->Nat} {r x:Nat}:x∈lf n q r ↔ x < n∧q x+1+r < n:=by
 unfold lf; rw[List.mem_filter,List.mem_range,decide_eq_true_iff]
include R h3 in
theorem OA {r x:Nat} (hx:x∈lf n q r):ZX (t16 n p q false true) (f16 n q true sd) (lf n q r) x=if q x+2+r < n then 0 else 3:=by
 obtain ⟨h1,h2⟩:=RN.mp hx
 have hm:mvB n false (q x)=true:=by unfold mvB; rw[decide_eq_true (by omega)]; rfl
 have e:=(Mg (last:=true) R h3 (by simp)).mpr ⟨h1,hm,rfl⟩
 rw[L0 R h3 (by simp) _ e]
 have hn:(q x+1) % n=q x+1:=Nat.mod_eq_of_lt (by omega)
 have hl:q x+1 < n:=by omega
 rw[hn,Vw,if_pos (R.lt _ hl),R.inv _ hl]
 have hu:un n true (q x+1)=true:=by
  unfold un
  by_cases z:q x+1+1 < n
  ·rw[decide_eq_true z]; rfl
  ·rw[decide_eq_true (show q x+1+1=n by omega)]; simp
 rw[if_pos hu]
 have hc:(lf n q r).contains (p (q x+1))=decide (q x+2+r < n):=by
  rw[Bool.eq_iff_iff,List.contains_iff_mem,RN,decide_eq_true_iff,R.inv _ hl]
  exact ⟨fun h=>by omega,fun h=>⟨R.lt _ hl,by omega⟩⟩
 rw[hc]
 by_cases z:q x+2+r < n
 ·rw[decide_eq_true z,if_pos z]; rfl
 ·rw[decide_eq_false z,if_neg z]; rfl
include R h3 in
theorem Ei (r:Nat):Xf (t16 n p q false true) (f16 n q true sd) (lf n q r)=lf n q (r+1):=by
 unfold Xf
 rw[List.filter_congr (q:=fun x=>decide (q x+2+r < n)) fun x hx=>by
  rw[OA R h3 hx]
  by_cases z:q x+2+r < n
  ·rw[if_pos z]; simp[z]
  ·rw[if_neg z]; simp[z]]
 unfold lf
 rw[List.filter_filter]
 refine List.filter_congr fun x _=>?_
 by_cases z:q x+2+r < n
 ·rw[decide_eq_true z,decide_eq_true (show q x+1+r < n by omega),decide_eq_true (show q x+1+(r+1) < n by omega)]; rfl
 ·rw[decide_eq_false z,decide_eq_false (show ¬ q x+1+(r+1) < n by omega)]; rfl
include R h3 in
theorem Aj {r:Nat} (hr:r+2<=n):fallen (t16 n p q false true) (f16 n q true sd) (lf n q r)=[p (n - 2 - r)]:=by
 unfold fallen
 refine CB ((List.nodup_range.sublist List.filter_sublist).sublist List.filter_sublist) fun x=>?_
 rw[List.mem_filter]
 constructor
 ·rintro ⟨h1,h2⟩
  rw[OA R h3 h1]at h2
  obtain ⟨h4,h5⟩:=RN.mp h1
  have:¬ q x+2+r < n:=fun z=>by rw[if_pos z]at h2; simp at h2
  rw[show n - 2 - r=q x by omega,R.invq x h4]
 ·intro hx
  have hl:n - 2 - r < n:=by omega
  have hq:q x=n - 2 - r:=by rw[hx]; exact R.inv _ hl
  have h1:x∈lf n q r:=RN.mpr ⟨by rw[hx]; exact R.lt _ hl,by omega⟩
  refine ⟨h1,?_⟩
  rw[OA R h3 h1,if_neg (by omega)]; rfl
include R h3 in
theorem EK:∀(m r:Nat),r+1+m=n->∀k,m<=k->UV (t16 n p q false true) (f16 n q true sd) k ((r:Int)+1) (lf n q r)=(List.range m).map fun j=>((((r+j:Nat):Int)+1,p (n - 2 - r - j),3):R3)
 |0,r,h,k,_=>by
  have:lf n q r=[]:=by
   unfold lf
   rw[List.filter_eq_nil_iff]
   intro x _
   rw[decide_eq_false (by omega)]
   exact Bool.false_ne_true
  rw[this]
  exact W8 rfl k _
 |m+1,r,h,0,hk=>absurd hk (by omega)
 |m+1,r,h,k+1,hk=>by
  unfold UV
  rw[Aj R h3 (by omega),Ei R h3]
  have e:=EK m (r+1) (by omega) k (by omega)
  rw[show (((r+1:Nat):Int)+1)=(r:Int)+1+1 by omega]at e
  rw[e,List.range_succ_eq_map,List.map_cons,List.map_cons,List.map_map,List.map_nil]
  have hx:p (n - 2 - r)∈lf n q r:=RN.mpr ⟨R.lt _ (by omega),by rw[R.inv _ (by omega)]; omega⟩
  rw[OA R h3 hx,if_neg (by rw[R.inv _ (by omega)]; omega)]
  show _::_=_::_
  congr 1
  refine List.map_congr_left fun j _=>?_
  show (_,_,_)=((((r+(j+1):Nat):Int)+1,p (n - 2 - r - (j+1)),3):R3)
  rw[show r+(j+1)=r+1+j by omega,show n - 2 - r - (j+1)=n - 2 - (r+1) - j by omega]
theorem CD:mvL (t16 n p q false true) (f16 n q true sd)=lf n q 0:=by
 unfold mvL lf
 rw[Y5]
 refine List.filter_congr fun x hx=>?_
 have hx:=List.mem_range.mp hx
 rw[SZ,if_pos hx]
 by_cases z:q x+1 < n
 ·rw[show un n true (q x)=true from by unfold un; rw[decide_eq_true z]; rfl,show mvB n false (q x)=true from by unfold mvB; rw[decide_eq_true z]; rfl,decide_eq_true (show q x+1+0 < n by omega)]
  rfl
 ·rw[show mvB n false (q x)=false from by unfold mvB; rw[decide_eq_false z]; rfl,decide_eq_false (show ¬ q x+1+0 < n by omega)]
  cases un n true (q x) <;> rfl
include R h3 in
theorem Dz (hn:n<=100):Yr (t16 n p q false true) (f16 n q true sd)=((List.range (n - 1)).map fun j=>(((j:Nat):Int)+1,p (n - 2 - j),3))∧Rg (t16 n p q false true) (f16 n q true sd) 100 (mvL (t16 n p q false true) (f16 n q true sd))=[]:=by
 rw[show Yr (t16 n p q false true) (f16 n q true sd)=UV (t16 n p q false true) (f16 n q true sd) 100 1 (mvL (t16 n p q false true) (f16 n q true sd)) from rfl,CD]
 constructor
 ·have e:=EK (sd:=sd) R h3 (n - 1) 0 (by omega) 100 (by omega)
  have e0:(((0:Nat):Int)+1)=1:=rfl
  rw[e0]at e
  rw[e]
  refine List.map_congr_left fun j _=>?_
  rw[Nat.zero_add,Nat.sub_zero]
 ·have:∀m r,Rg (t16 n p q false true) (f16 n q true sd) m (lf n q r)=lf n q (r+m):=fun m=>by
   induction m with
   |zero=>intro r; rfl
   |succ m ih=>intro r; unfold Rg; rw[Ei R h3,ih,show r+1+m=r+(m+1) by omega]
  rw[this]
  unfold lf
  rw[List.filter_eq_nil_iff]
  intro x _
  rw[decide_eq_false (by omega)]
  exact Bool.false_ne_true
end
open PySem L2
theorem Lx {sl:Sl} {om:List Ob} {fa fb:FE} {a q:Int} (h:fa sl om=some (.ok (.int a),om)) (h2:fb sl om=some (.ok (.int q),om)) (hq:0 < q):f2 XS fa fb sl om=some (.ok (.int (a % q)),om):=(ZC h h2).trans (by simp[kIc,L2.ret,hq])
def upP (n a k:Nat):Nat:=if a+k < n then a+k else a+k - n
def upQ (n a x:Nat):Nat:=if a<=x then x - a else x+n - a
theorem C6 {n a:Nat} (ha:a < n):Rw n (upP n a) (upQ n a):=by
 refine ⟨fun k hk=>?_,fun k hk=>?_,fun x hx=>?_,fun x hx=>?_⟩
 ·unfold upP; split <;> omega
 ·unfold upP upQ; split <;> split <;> omega
 ·unfold upQ; split <;> omega
 ·unfold upQ upP; split <;> split <;> omega
theorem CO {n:Nat} {p q:Nat->Nat} (R:Rw n p q):Rw n (fun k=>p (n - 1 - k)) (fun x=>n - 1 - q x):=by
 refine ⟨fun k hk=>R.lt _ (by omega),fun k hk=>?_,fun x hx=>by have:=R.ltq x hx; show n - 1 - q x < n; omega,fun x hx=>?_⟩
 ·show n - 1 - q (p (n - 1 - k))=k
  rw[R.inv _ (by omega)]; omega
 ·show p (n - 1 - (n - 1 - q x))=x
  have:=R.ltq x hx
  rw[show n - 1 - (n - 1 - q x)=q x by omega,R.invq x hx]
theorem D7 {n a k:Nat} (ha:a < n) (hk:k < n):((a:Int)+(k:Int)) % (n:Int)=(upP n a k:Nat):=by
 have e:((a:Int)+(k:Int)) % (n:Int)=((a+k) % n:Nat):=rfl
 rw[e]
 unfold upP
 by_cases h:a+k < n
 ·rw[if_pos h,Nat.mod_eq_of_lt h]
 ·rw[if_neg h,Nat.mod_eq_sub_mod (by omega),Nat.mod_eq_of_lt (by omega)]
abbrev Yn (n:Nat) (p:Nat->Nat):List Wv:=(List.range n).map fun (k:Nat)=>Wv.int ((p k:Nat):Int)
theorem GZ (n:Nat) (p:Nat->Nat):(Yn n p).reverse=Yn n (fun k=>p (n - 1 - k)):=by
 refine List.ext_getElem? fun i=>?_
 by_cases h:i < n
 ·rw[List.getElem?_reverse (by simpa using h),List.length_map,List.length_range,List.getElem?_map,List.getElem?_map,List.getElem?_range h,List.getElem?_range (by omega)]
  rfl
 ·rw[List.getElem?_eq_none (by simp; omega),List.getElem?_eq_none (by simp; omega)]
theorem DH {n:Nat} {p:Nat->Nat} {k:Nat} (h:k < n):(Yn n p)[k]?=some (.int ((p k:Nat):Int)):=by
 rw[List.getElem?_map,List.getElem?_range h]; rfl
section
variable {c:CA} {ns:List Int}
theorem KZ {n:Nat} (h3:3<=n) (hn:n<=24):∃p q,Rw n p q∧g__law_places c [XV ns,.int (n:Nat)] []=some (.ok (.o 0),[.lst (Yn n p)]):=by
 have hlim:=ZW
 obtain ⟨a,ha,hal⟩:∃a:Nat,ns.getD 2 0 % (n:Int)=a∧a < n:=by
  have h1:=Int.emod_nonneg (ns.getD 2 0) (show (n:Int)≠0 by omega)
  have h2:=Int.emod_lt_of_pos (ns.getD 2 0) (show 0 < (n:Int) by omega)
  exact ⟨(ns.getD 2 0 % (n:Int)).toNat,by omega,by omega⟩
 have R:=C6 hal
 have e1:ZO 2 (f2 XS (fA (kN 2 (g__law_cell_at c)) (Zc (Za 0) (Zc (fC (.int 2)) Zk))) (Za 1)) [some (XV ns),some (.int (n:Nat)),none,none] []=some (.ok (.nx,[some (XV ns),some (.int (n:Nat)),some (.int (a:Nat)),none]),[]):=by
  have:=Lx (om:=[]) (q:=(n:Int)) (fb:=Za 1) (MO c (om:=[]) (ns:=ns) (k:=2) (i:=0) (sl:=[some (XV ns),some (.int (n:Nat)),none,none]) (fe:=fC (.int 2)) rfl ZD) (Zb rfl) (by omega)
  rw[ha]at this
  exact ZB (i:=2) this
 have e2:ZO 3 (Yc Vg [1,2] (fun sl=>bnd ((Za 1) sl) Wn) XC (Wc c)) [some (XV ns),some (.int (n:Nat)),some (.int (a:Nat)),none] []=some (.ok (.nx,[some (XV ns),some (.int (n:Nat)),some (.int (a:Nat)),some (.o 0)]),[.lst (Yn n (upP n a))]):=by
  have cr:=Rj (cT:=XC) (f:=Wc c) (mk:=fun w=>Xa [1,2] w [some (XV ns),some (.int (n:Nat)),some (.int (a:Nat)),none]) (om:=[]) (n:=n) (fun _=>true) (fun k=>Wv.int ((upP n a k:Nat):Int)) (fun k hk=>rfl) (fun k hk _=>by
   have:=Lx (om:=[]) (q:=(n:Int)) (fb:=Za 1) (fa:=f2 XD (Za 2) (Za 0)) (a:=(a:Int)+(k:Int)) (sl:=Xa [1,2] (.int (k:Nat)) [some (XV ns),some (.int (n:Nat)),some (.int (a:Nat)),none]) ((v2 rfl rfl).trans rfl) (Zb rfl) (by omega)
   rw[D7 hal hk]at this
   exact this)
  refine ZB (i:=3) ((Wg (ws:=W7 n) (om1:=[]) (GD rfl (by omega) _) (by rw[Rl]; omega) cr).trans ?_)
  rw[List.filter_eq_self.mpr (fun _ _=>rfl)]
  unfold Vg
  rw[if_pos (by rw[List.length_map,List.length_range]; omega)]
  rfl
 have e3:∀st,fB (f2 kEq (f2 XS (f2 Sw (fA (kN 2 (g__law_cell_at c)) (Zc (Za 0) (Zc (fC (.int 2)) Zk))) (fC (.int 60))) (fC (.int 2))) (fC (.int 1))) [some (XV ns),some (.int (n:Nat)),some (.int (a:Nat)),some (.o 0)] st=some (.ok (decide (ns.getD 2 0 / 60 % 2=1)),st):=fun st=>Z9 ((ZC (R0 (om:=st) (q:=2) (Kj (om:=st) (q:=60) (MO c (om:=st) (ns:=ns) (k:=2) (i:=0) (fe:=fC (.int 2)) rfl ZD) (by decide)) (by decide)) ZD).trans (WH _ 1 _))
 by_cases hz:ns.getD 2 0 / 60 % 2=1
 ·rw[decide_eq_true hz]at e3
  refine ⟨_,_,CO R,ZH ((Zh e1).trans ((Zh e2).trans ((Zh ((Y1 (e3 _)).trans (Yw (w:=.non) ((VC (Zb rfl)).trans ?_)))).trans (Zv (Zb rfl)))))⟩
  rw[← GZ]; rfl
 ·rw[decide_eq_false hz]at e3
  exact ⟨_,_,R,ZH ((Zh e1).trans ((Zh e2).trans ((Zh (Z3 (e3 _))).trans (Zv (Zb rfl)))))⟩
end
open PySem L2
def YD (p:Nat->Nat) (sd:Nat->Int) (m:Nat):List (Int × Int):=(List.range m).map fun k=>(((p k:Nat):Int),sd k)
def mN (n:Nat) (last:Bool):Nat:=if last=true then n else n - 1
def TF (n:Nat) (p q:Nat->Nat) (last:Bool) (m x:Nat):Option Od:=if x < n∧q x < mN n last then (if q x < m then some (.move (p ((q x+1) % n))) else some .stand) else none
section
variable {n:Nat} {p q:Nat->Nat} {ring last:Bool} {sd:Nat->Int}
theorem JB (p:Nat->Nat) (sd:Nat->Int) (m:Nat):YD p sd (m+1)=YD p sd m++[(((p m:Nat):Int),sd m)]:=by
 unfold YD; rw[List.range_succ,List.map_append]; rfl
theorem Ik (p:Nat->Nat) (sd:Nat->Int) (m:Nat):(YD p sd m).length=m:=by simp[YD]
theorem IH (R:Rw n p q) {m:Nat} (hm:m < n):(YD p sd m).lookup ((p m:Nat):Int)=none:=by
 cases h:(YD p sd m).lookup ((p m:Nat):Int) with
 |none=>rfl
 |some s =>
  obtain ⟨j,hj,e⟩:=List.mem_map.mp (WS h)
  have hj:=List.mem_range.mp hj
  have e1:((p j:Nat):Int)=((p m:Nat):Int):=congrArg Prod.fst e
  have e2:p j=p m:=by omega
  have:=R.inj (by omega) hm e2
  omega
theorem U0 (n:Nat) (last:Bool):mN n last<=n:=by unfold mN; split <;> omega
theorem Ag {n:Nat} (h:1<=n) (last:Bool):mN n last=n - 1+(if last=true then 1 else 0):=by unfold mN; split <;> omega
theorem Tf {k:Nat} (h1:1<=n):un n last k=true ↔ k < mN n last:=by
 unfold un mN
 rw[Bool.or_eq_true,Bool.and_eq_true,decide_eq_true_iff,decide_eq_true_iff]
 cases last
 ·rw[if_neg Bool.false_ne_true]
  exact ⟨fun h=>h.elim (fun h=>by omega) fun h=>(nomatch h.1),fun h=>.inl (by omega)⟩
 ·rw[if_pos rfl]
  exact ⟨fun h=>h.elim (fun h=>by omega) fun h=>by omega,fun h=>by
   by_cases e:k+1 < n
   ·exact .inl e
   ·exact .inr ⟨rfl,by omega⟩⟩
theorem P8 {k:Nat} (h1:1<=n):mvB n ring k=true ↔ k < mN n ring:=Tf (last:=ring) h1
theorem Fx (R:Rw n p q) {m:Nat} (hm:m<=n):((YD p sd m).map (·.1)).Nodup:=by
 unfold YD
 rw[List.map_map]
 refine List.pairwise_map.mpr (List.Pairwise.imp_of_mem (fun {a b} ha hb h=>?_) List.nodup_range)
 intro e
 have ha:=List.mem_range.mp ha
 have hb:=List.mem_range.mp hb
 have e:((p a:Nat):Int)=((p b:Nat):Int):=e
 exact h (R.inj (by omega) (by omega) (by omega))
theorem OH {us:List (Int × Int)} (h:(us.map (·.1)).Nodup):us.Nodup:=(List.pairwise_map.mp h).imp fun h e=>h (by rw[e])
theorem Jo (R:Rw n p q) (h1:1<=n):(YD p sd (mN n last)).Perm (Ut 0 (f16 n q last sd) n):=by
 have hN:=U0 n last
 refine (List.perm_ext_iff_of_nodup (OH (Fx R hN)) (OH (Pj ..))).mpr fun y=>?_
 unfold YD Ut
 rw[List.mem_map,List.mem_filterMap]
 constructor
 ·rintro ⟨k,hk,e⟩
  have hk:=List.mem_range.mp hk
  refine ⟨p k,List.mem_range.mpr (R.lt k (by omega)),?_⟩
  rw[Vw,if_pos (R.lt k (by omega)),R.inv k (by omega),if_pos ((Tf h1).mpr hk),← e]
  show some (((0:Nat):Int)+((p k:Nat):Int),sd k)=_
  rw[show (((0:Nat):Int)+((p k:Nat):Int))=((p k:Nat):Int) by omega]
 ·rintro ⟨x,hx,e⟩
  have hx:=List.mem_range.mp hx
  rw[Vw,if_pos hx]at e
  by_cases hu:un n last (q x)=true
  ·rw[if_pos hu]at e
   have e:some (((0:Nat):Int)+(x:Int),sd (q x))=some y:=e
   rw[show (((0:Nat):Int)+(x:Int))=(x:Int) by omega]at e
   refine ⟨q x,List.mem_range.mpr ((Tf h1).mp hu),?_⟩
   rw[R.invq x hx]
   exact Option.some.inj e
  ·rw[if_neg hu]at e
   cases e
theorem Ft {m k:Nat} {o:Od} (h:TF n p q last m k=some o):k < n:=by
 unfold TF at h
 by_cases e:k < n∧q k < mN n last
 ·exact e.1
 ·rw[if_neg e]at h; cases h
theorem K0 (R:Rw n p q) {m:Nat} (hm:m < mN n last):TF n p q last (m+1)=fun j=>if j=p m then some (.move (p ((m+1) % n))) else TF n p q last m j:=by
 have hN:=U0 n last
 funext j
 unfold TF
 by_cases h:j=p m
 ·have hq:q j=m:=by rw[h]; exact R.inv m (by omega)
  rw[if_pos h,hq,if_pos ⟨by rw[h]; exact R.lt m (by omega),hm⟩,if_pos (by omega)]
 ·rw[if_neg h]
  by_cases hc:j < n∧q j < mN n last
  ·have hne:q j≠m:=fun z=>h (by rw[← z,R.invq j hc.1])
   rw[if_pos hc,if_pos hc]
   by_cases hq:q j < m
   ·rw[if_pos hq,if_pos (by omega)]
   ·rw[if_neg hq,if_neg (by omega)]
  ·rw[if_neg hc,if_neg hc]
theorem Hg (h1:1<=n):TF n p q last (mN n ring)=at' (t16 n p q ring last):=by
 funext x
 rw[SZ]
 unfold TF
 by_cases hx:x < n
 ·rw[if_pos hx]
  by_cases hu:un n last (q x)=true
  ·rw[if_pos hu,if_pos ⟨hx,(Tf h1).mp hu⟩]
   by_cases hm:mvB n ring (q x)=true
   ·rw[if_pos hm,if_pos ((P8 h1).mp hm)]
   ·rw[if_neg hm,if_neg fun z=>hm ((P8 h1).mpr z)]
  ·rw[if_neg hu,if_neg fun z=>hu ((Tf h1).mpr z.2)]
 ·rw[if_neg hx,if_neg fun z=>hx z.1]
theorem Jc:Tell [] (TF n p q last 0):=Tell.start0 fun k o h=>by
 unfold TF at h
 split at h
 ·rw[if_neg (by omega)]at h; exact (Option.some.inj h).symm
 ·cases h
end
abbrev VS (c:CA) (n:Nat) (p:Nat->Nat) (kvs:List (List Key × Wv)):List Ob:=[.lst (Yn n p),XW c n 2,.dt kvs]
abbrev US (c:CA) (n:Nat) (p:Nat->Nat) (kvs:List (List Key × Wv)) (us:List (Int × Int)):List Ob:=[.lst (Yn n p),XW c n 2,.dt kvs,YA c 1 4,.dk (Zp us)]
abbrev Vq (c:CA) (n:Nat) (p:Nat->Nat) (kvs:List (List Key × Wv)) (us:List (Int × Int)) (gs:Gs):List Ob:=[.lst (Yn n p),XW c n 2,.dt kvs,YA c 1 4,.dk (Zp us),X5 c 3 6,.dk (Xp c 0 gs)]
abbrev XT (n:Nat) (ring last:Bool) (step:Int) (x5 x6 x7 x8:Option Wv):Sl:=[some (.o 0),some (.bl ring),some (.bl last),some (.int step),some (.int (n:Nat)),x5,x6,x7,x8]
theorem Sx {st:List Ob} {sl:Sl} {fe:FE} {n k i:Nat} {w:Wv} {p:Nat->Nat} (h0:Xs st w=some (Yn n p)) (hv:sl[i]?=some (some w)) (hk:k < n) (he:fe sl st=some (.ok (.int (k:Nat)),st)):f2 kIx (Za i) fe sl st=some (.ok (.int ((p k:Nat):Int)),st):=(ZC (Zb hv) he).trans (YH h0 (DH hk))
theorem Ox {sl:Sl} {om:List Ob} {n i:Nat} (h:sl[i]?=some (some (.int (n:Nat)))) (h1:1<=n):f2 Wq (Za i) (fC (.int 1)) sl om=some (.ok (.int ((n - 1:Nat):Int)),om):=(ZC (Zb h) ZD).trans (by
 show some (Except.ok (Wv.int ((n:Int) - 1)),om)=_
 rw[show ((n:Int) - 1)=((n - 1:Nat):Int) by omega])
theorem MJ {sl:Sl} {om:List Ob} {n i:Nat} (h:sl[i]?=some (some (.int (n:Nat)))):f2 XD (Za i) (fC (.int 1)) sl om=some (.ok (.int ((n+1:Nat):Int)),om):=(ZC (Zb h) ZD).trans (by
 show some (Except.ok (Wv.int ((n:Int)+1)),om)=_
 rw[show ((n:Int)+1)=((n+1:Nat):Int) by omega])
theorem MV {sl:Sl} {om:List Ob} {n i:Nat} (h:sl[i]?=some (some (.int (n:Nat)))) (h1:1<=n) (hn:n<=60):(fun sl=>bnd ((f2 Wq (Za i) (fC (.int 1))) sl) Wn) sl om=some (.ok (W7 (n - 1)),om):=(Zo (Ox h h1)).trans (Te _ _ (by have:=ZW; omega))
theorem IC {sl:Sl} {om:List Ob} {n i:Nat} {fe:FE} {b:Bool} (h:sl[i]?=some (some (.int (n:Nat)))) (he:fe sl om=some (.ok (.bl b),om)) (h1:1<=n) (hn:n<=60):(fun sl=>bnd ((f2 XD (f2 Wq (Za i) (fC (.int 1))) (fA Qg (Zc fe Zk))) sl) Wn) sl om=some (.ok (W7 (mN n b)),om):=by
 have hl:=ZW
 have hN:=U0 n b
 have e:f2 XD (f2 Wq (Za i) (fC (.int 1))) (fA Qg (Zc fe Zk)) sl om=some (.ok (.int ((mN n b:Nat):Int)),om):=by
  refine (ZC (Ox h h1) ((ZI (Ze he Zj)).trans rfl)).trans ?_
  rw[Ag h1]
  cases b
  ·show some (Except.ok (Wv.int (((n - 1:Nat):Int)+0)),om)=_
   rw[Int.add_zero]; rfl
  ·rfl
 exact (Zo e).trans (Te _ _ (by omega))
structure Ln (n:Nat) (p:Nat->Nat) (m:Nat) (kvs:List (List Key × Wv)):Prop where
 far:∀k,k < m->OF kvs ((p k:Nat):Int) ((p ((k+1) % n):Nat):Int)=true
 len:kvs.length<=2 * m
section
variable {c:CA} {n:Nat} {p q:Nat->Nat} {ring last:Bool} {step:Int}
theorem Ln.on {m r:Nat} {kvs:List (List Key × Wv)} (L:Ln n p m kvs) (hr:r=m+1):Ln n p r (Um kvs ((p m:Nat):Int) ((p ((m+1) % n):Nat):Int)):=by
 subst hr
 refine ⟨fun k hk=>?_,by have:=L.len; have:=Mh kvs ((p m:Nat):Int) ((p ((m+1) % n):Nat):Int); omega⟩
 rw[Jx]
 by_cases h:k=m
 ·subst h; simp
 ·rw[L.far k (by omega)]; simp
theorem IL {kvs:List (List Key × Wv)} {m:Nat} (R:Rw n p q) (h3:3<=n) (hn:n<=24) (L:Ln n p m kvs) (hm:m < n) {sl:Sl} {fa fb:FE} (hv:sl[5]?=some (some (.o 1))) (ha:fa sl (VS c n p kvs)=some (.ok (.int ((p m:Nat):Int)),VS c n p kvs)) (hb:fb sl (VS c n p kvs)=some (.ok (.int ((p ((m+1) % n):Nat):Int)),VS c n p kvs)) :
    Yg (Zq c.Map "link" 3 (XA c) (Za 5) (Zc fa (Zc fb Zk))) sl (VS c n p kvs)=some (.ok (.nx,sl),VS c n p (Um kvs ((p m:Nat):Int) ((p ((m+1) % n):Nat):Int))):=by
 have hlim:=ZW
 have hl:=L.len
 have h1:=R.lt m hm
 have h4:=VB h3 m
 have h2:=R.lt _ h4
 have hne:p m≠p ((m+1) % n):=fun z=>by
  have:=R.inj hm h4 z
  by_cases e:m+1 < n
  ·rw[Nat.mod_eq_of_lt e]at this; omega
  ·rw[show m+1=n by omega,Nat.mod_self]at this; omega
 have e:=Fb (c:=c) (h:=1) (hl:=2) (om:=VS c n p kvs) (by decide) rfl rfl (a:=((p m:Nat):Int)) (b:=((p ((m+1) % n):Nat):Int)) (by omega) (by omega) (by omega) (by omega)
 exact Yw ((Zy (Zb hv) (Zz (h:=1) rfl) (Xw _ _ _ (by decide) (by decide)) (Ze ha (Ze hb Zj)) rfl).trans e)
theorem CQ {kvs:List (List Key × Wv)} {m:Nat} {sd:Nat->Int} (R:Rw n p q) (hn:n<=24) (hm:m < n) (hs:0<=sd m∧sd m<=7) {sl:Sl} {fa fb:FE} (hv:sl[7]?=some (some (.o 3))) (ha:fa sl (US c n p kvs (YD p sd m))=some (.ok (.int ((p m:Nat):Int)),US c n p kvs (YD p sd m))) (hb:fb sl (US c n p kvs (YD p sd m))=some (.ok (.int (sd m)),US c n p kvs (YD p sd m))) :
    Yg (Zq c.Board "post" 3 (Xq c) (Za 7) (Zc fa (Zc fb Zk))) sl (US c n p kvs (YD p sd m))=some (.ok (.nx,sl),US c n p kvs (YD p sd (m+1))):=by
 have hlim:=ZW
 have h1:=R.lt m hm
 have hl:=Ik p sd m
 have e:=Ki (c:=c) (om:=US c n p kvs (YD p sd m)) (hb:=3) (hm:=1) (hu:=4) (hl:=2) (size:=(n:Nat)) (us:=YD p sd m) rfl rfl rfl (a:=((p m:Nat):Int)) (s:=sd m) (by omega) hs (IH R hm) (by omega)
 rw[← JB]at e
 exact Yw ((Zy (Zb hv) (Zz (h:=3) rfl) (Yt _ _ _ (by decide) (by decide)) (Ze ha (Ze hb Zj)) rfl).trans e)
theorem W16 {kvs:List (List Key × Wv)} {sd:Nat->Int} (R:Rw n p q) (h3:3<=n) (hn:n<=24) (gs:Gs):Wd c (Vq c n p kvs (YD p sd (mN n last)) gs) 3 1 4 2 n 0 (f16 n q last sd) kvs :=
 ⟨rfl,rfl,⟨_,rfl,by rw[Y5]; exact Jo R (by omega)⟩,rfl,by rw[Y5]; omega,by omega⟩
theorem HC {kvs:List (List Key × Wv)} {m r:Nat} {gs:Gs} {sd:Nat->Int} (R:Rw n p q) (h3:3<=n) (hn:n<=24) (L:Ln n p r kvs) (hr:m < r) (hm:m < mN n last) (t:Tell gs (TF n p q last m)) {sl:Sl} {fa fb:FE} (hv:sl[8]?=some (some (.o 5))) (ha:fa sl (Vq c n p kvs (YD p sd (mN n last)) gs)=some (.ok (.int ((p m:Nat):Int)),Vq c n p kvs (YD p sd (mN n last)) gs)) (hb:fb sl (Vq c n p kvs (YD p sd (mN n last)) gs)=some (.ok (.int ((p ((m+1) % n):Nat):Int)),Vq c n p kvs (YD p sd (mN n last)) gs)) :
    ∃gs',Yg (Zq c.Orders "move" 3 (YV c) (Za 8) (Zc fa (Zc fb Zk))) sl (Vq c n p kvs (YD p sd (mN n last)) gs)=some (.ok (.nx,sl),Vq c n p kvs (YD p sd (mN n last)) gs')∧Tell gs' (TF n p q last (m+1)):=by
 have hN:=U0 n last
 have hl:gs.length<=n:=t.len fun k o h=>Ft h
 have hx:=R.lt m (by omega)
 have h4:=VB h3 m
 have z0:∀x:Int,((0:Nat):Int)+x=x:=fun x=>by omega
 have hf:at' (f16 n q last sd) (p m)=some (sd m):=by rw[Vw,if_pos hx,R.inv m (by omega),if_pos ((Tf (by omega)).mpr hm)]
 have e:=GJ (W16 (c:=c) (kvs:=kvs) (sd:=sd) (last:=last) R h3 hn gs) (ho:=5) (hg:=6) ⟨rfl,rfl⟩ (k:=p m) (g:=p ((m+1) % n)) hf (by rw[Y5]; exact R.lt _ h4) (by rw[z0,z0]; exact L.far m hr) (by omega)
 rw[z0,z0]at e
 have t2:=t.put (p m) (.move (p ((m+1) % n)))
 rw[← K0 R hm]at t2
 exact ⟨_,Yw ((Zy (Zb hv) (Zz (h:=5) rfl) (Z8 _ _ _ (by decide) (by decide)) (Ze ha (Ze hb Zj)) rfl).trans e),t2⟩
end
open PySem L2
def XY (step:Int) (k:Nat):Int:=((k:Int) * step) % 8
section
variable {c:CA} {n:Nat} {p q:Nat->Nat}
theorem JA (R:Rw n p q) (h3:3<=n) (hn:n<=24) (ring last:Bool) (rl:ring=true->last=true) {step:Int} (hst:0<=step∧step<=7) :
    ∃kvs gs,g__law_orders_on c [.o 0,.bl ring,.bl last,.int step] [.lst (Yn n p)]=some (.ok (.o 5),Vq c n p kvs (YD p (XY step) (mN n last)) gs)∧Sit c (Vq c n p kvs (YD p (XY step) (mN n last)) gs) 5 3 1 4 2 6 n 0 (f16 n q last (XY step)) kvs gs (r16 n q ring) (t16 n p q ring last):=by
 have hlim:=ZW
 have hNl:=U0 n last
 have hsd:∀k,0<=XY step k∧XY step k<=7:=fun k=>by unfold XY; omega
 have a1:ZO 4 (fA UM (Zc (Za 0) Zk)) [some (.o 0),some (.bl ring),some (.bl last),some (.int step),none,none,none,none,none] [.lst (Yn n p)]=some (.ok (.nx,XT n ring last step none none none none),[.lst (Yn n p)]):=by
  have:=Qd (om:=[.lst (Yn n p)]) (w:=.o 0) (xs:=Yn n p) rfl
  rw[List.length_map,List.length_range]at this
  exact ZB (i:=4) ((ZI (Ze (Zb rfl) Zj)).trans this)
 have a2:ZO 5 (fA (YY c.Map 2 (Wh c)) (Zc (Za 4) Zk)) (XT n ring last step none none none none) [.lst (Yn n p)]=some (.ok (.nx,XT n ring last step (some (.o 1)) none none none),VS c n p []):=ZB (i:=5) ((ZI (Ze (Zb rfl) Zj)).trans (Jq (c:=c) (size:=(n:Nat)) [.lst (Yn n p)]))
 obtain ⟨sl',om',a3,kvs,x6,rfl,rfl,L⟩:=SO (T:=tgN 6) (S:=Wx c) (n:=n - 1) (fun m sl om'=>∃kvs x,sl=XT n ring last step (some (.o 1)) x none none∧om'=VS c n p kvs∧Ln n p m kvs) (sl:=XT n ring last step (some (.o 1)) none none none) (om:=VS c n p []) (fun m hmm sl om' ⟨kvs,x,h1,h2,L⟩=>by
  subst h1 h2
  have hmod:(m+1) % n=m+1:=Nat.mod_eq_of_lt (by omega)
  have f1:=IL (c:=c) R h3 hn L (show m < n by omega) (sl:=XT n ring last step (some (.o 1)) (some (.int (m:Nat))) none none) (fa:=f2 kIx (Za 0) (Za 6)) (fb:=f2 kIx (Za 0) (f2 XD (Za 6) (fC (.int 1)))) rfl (Sx rfl rfl (by omega) (Zb rfl)) (by rw[hmod]; exact Sx rfl rfl (by omega) (MJ rfl))
  exact ⟨_,.nx,_,_,rfl,f1,.inl rfl,_,_,rfl,rfl,L.on rfl⟩) ⟨[],none,rfl,rfl,⟨fun k hk=>by omega,by simp⟩⟩
 obtain ⟨kv,a4,L⟩:∃kv,sIf (WZ (Za 1)) (Yg (Zq c.Map "link" 3 (XA c) (Za 5) (Zc (f2 kIx (Za 0) (f2 Wq (Za 4) (fC (.int 1)))) (Zc (f2 kIx (Za 0) (fC (.int 0))) Zk)))) Y8 (XT n ring last step (some (.o 1)) x6 none none) (VS c n p kvs)=some (.ok (.nx,XT n ring last step (some (.o 1)) x6 none none),VS c n p kv)∧Ln n p (mN n ring) kv:=by
  have tr:WZ (Za 1) (XT n ring last step (some (.o 1)) x6 none none) (VS c n p kvs)=some (.ok ring,VS c n p kvs):=W3 (Zb rfl)
  cases ring with
  |false=>exact ⟨kvs,Z3 tr,L⟩
  |true =>
   have hmod:(n - 1+1) % n=0:=by rw[show n - 1+1=n by omega,Nat.mod_self]
   have f1:=IL (c:=c) R h3 hn L (show n - 1 < n by omega) (sl:=XT n true last step (some (.o 1)) x6 none none) (fa:=f2 kIx (Za 0) (f2 Wq (Za 4) (fC (.int 1)))) (fb:=f2 kIx (Za 0) (fC (.int 0))) rfl (Sx rfl rfl (by omega) (Ox rfl (by omega))) (by rw[hmod]; exact Sx (k:=0) rfl rfl (by omega) ZD)
   exact ⟨_,(Y1 tr).trans f1,L.on (show n=n - 1+1 by omega)⟩
 have a5:ZO 7 (fA (YY c.Board 2 (YQ c)) (Zc (Za 5) Zk)) (XT n ring last step (some (.o 1)) x6 none none) (VS c n p kv)=some (.ok (.nx,XT n ring last step (some (.o 1)) x6 (some (.o 3)) none),US c n p kv (YD p (XY step) 0)):=ZB (i:=7) ((ZI (Ze (Zb rfl) Zj)).trans (TV (c:=c) (VS c n p kv) 1))
 obtain ⟨sl',om',a6,y6,rfl,rfl⟩:=SO (T:=tgN 6) (S:=Ww c) (n:=mN n last) (fun m sl om'=>∃x,sl=XT n ring last step (some (.o 1)) x (some (.o 3)) none∧om'=US c n p kv (YD p (XY step) m)) (sl:=XT n ring last step (some (.o 1)) x6 (some (.o 3)) none) (om:=US c n p kv (YD p (XY step) 0)) (fun m hmm sl om' ⟨x,h1,h2⟩=>by
  subst h1 h2
  have hd:decide (-(2 ^ 64) < (m:Int)∧(m:Int) < 2 ^ 64∨-(2 ^ 64) < step∧step < 2 ^ 64)=true:=decide_eq_true (.inl ⟨by omega,by omega⟩)
  have m5:f2 GS (Za 6) (Za 3) (XT n ring last step (some (.o 1)) (some (.int (m:Nat))) (some (.o 3)) none) (US c n p kv (YD p (XY step) m))=some (.ok (.int ((m:Int) * step)),US c n p kv (YD p (XY step) m)):=(v2 rfl rfl).trans (by simp only[kIc]; rw[if_pos hd]; rfl)
  have f1:=CQ (c:=c) (kvs:=kv) (sd:=XY step) R hn (show m < n by omega) (hsd m) (sl:=XT n ring last step (some (.o 1)) (some (.int (m:Nat))) (some (.o 3)) none) (fa:=f2 kIx (Za 0) (Za 6)) (fb:=f2 XS (f2 GS (Za 6) (Za 3)) (fC (.int 8))) rfl (Sx rfl rfl (by omega) (Zb rfl)) (R0 (q:=8) m5 (by decide))
  exact ⟨_,.nx,_,_,rfl,f1,.inl rfl,_,rfl,rfl⟩) ⟨x6,rfl,rfl⟩
 have a7:ZO 8 (fA (YY c.Orders 2 (Xc c)) (Zc (Za 7) Zk)) (XT n ring last step (some (.o 1)) y6 (some (.o 3)) none) (US c n p kv (YD p (XY step) (mN n last)))=some (.ok (.nx,XT n ring last step (some (.o 1)) y6 (some (.o 3)) (some (.o 5))),Vq c n p kv (YD p (XY step) (mN n last)) []):=ZB (i:=8) ((ZI (Ze (Zb rfl) Zj)).trans (Oo c (US c n p kv (YD p (XY step) (mN n last))) 3))
 have hNr:n - 1<=mN n ring:=by unfold mN; split <;> omega
 have hNl2:n - 1<=mN n last:=by unfold mN; split <;> omega
 obtain ⟨sl',om',a8,gs,z6,rfl,rfl,t⟩:=SO (T:=tgN 6) (S:=Wy c) (n:=n - 1) (fun m sl om'=>∃gs x,sl=XT n ring last step (some (.o 1)) x (some (.o 3)) (some (.o 5))∧om'=Vq c n p kv (YD p (XY step) (mN n last)) gs∧Tell gs (TF n p q last m)) (sl:=XT n ring last step (some (.o 1)) y6 (some (.o 3)) (some (.o 5))) (om:=Vq c n p kv (YD p (XY step) (mN n last)) []) (fun m hmm sl om' ⟨gs,x,h1,h2,t⟩=>by
  subst h1 h2
  have hmod:(m+1) % n=m+1:=Nat.mod_eq_of_lt (by omega)
  obtain ⟨gs',f1,t'⟩:=HC (c:=c) (kvs:=kv) (sd:=XY step) R h3 hn L (show m < mN n ring by omega) (show m < mN n last by omega) t (sl:=XT n ring last step (some (.o 1)) (some (.int (m:Nat))) (some (.o 3)) (some (.o 5))) (fa:=f2 kIx (Za 0) (Za 6)) (fb:=f2 kIx (Za 0) (f2 XD (Za 6) (fC (.int 1)))) rfl (Sx rfl rfl (by omega) (Zb rfl)) (by rw[hmod]; exact Sx rfl rfl (by omega) (MJ rfl))
  exact ⟨_,.nx,_,_,rfl,f1,.inl rfl,_,_,rfl,rfl,t'⟩) ⟨[],y6,rfl,rfl,Jc⟩
 obtain ⟨gs,a9,t⟩:∃gs',sIf (WZ (Za 1)) (Yg (Zq c.Orders "move" 3 (YV c) (Za 8) (Zc (f2 kIx (Za 0) (f2 Wq (Za 4) (fC (.int 1)))) (Zc (f2 kIx (Za 0) (fC (.int 0))) Zk)))) Y8 (XT n ring last step (some (.o 1)) z6 (some (.o 3)) (some (.o 5))) (Vq c n p kv (YD p (XY step) (mN n last)) gs)=some (.ok (.nx,XT n ring last step (some (.o 1)) z6 (some (.o 3)) (some (.o 5))),Vq c n p kv (YD p (XY step) (mN n last)) gs')∧Tell gs' (TF n p q last (mN n ring)):=by
  have tr:WZ (Za 1) (XT n ring last step (some (.o 1)) z6 (some (.o 3)) (some (.o 5))) (Vq c n p kv (YD p (XY step) (mN n last)) gs)=some (.ok ring,Vq c n p kv (YD p (XY step) (mN n last)) gs):=W3 (Zb rfl)
  cases ring with
  |false=>exact ⟨gs,Z3 tr,t⟩
  |true =>
   have hmod:(n - 1+1) % n=0:=by rw[show n - 1+1=n by omega,Nat.mod_self]
   have hlast:mN n last=n:=by unfold mN; rw[if_pos (rl rfl)]
   obtain ⟨gs',f1,t'⟩:=HC (c:=c) (kvs:=kv) (sd:=XY step) R h3 hn L (show n - 1 < mN n true by show n - 1 < n; omega) (show n - 1 < mN n last by omega) t (sl:=XT n true last step (some (.o 1)) z6 (some (.o 3)) (some (.o 5))) (fa:=f2 kIx (Za 0) (f2 Wq (Za 4) (fC (.int 1)))) (fb:=f2 kIx (Za 0) (fC (.int 0))) rfl (Sx rfl rfl (by omega) (Ox rfl (by omega))) (by rw[hmod]; exact Sx (k:=0) rfl rfl (by omega) ZD)
   refine ⟨gs',(Y1 tr).trans f1,?_⟩
   rw[show n - 1+1=n by omega]at t'
   exact t'
 rw[Hg (by omega)]at t
 refine ⟨kv,gs,ZH ((Zh a1).trans ((Zh a2).trans ((Zh (X1 (sl1:=[]) (MV rfl (by omega) (by omega)) a3)).trans ((Zh a4).trans ((Zh a5).trans ((Zh (X1 (sl1:=[]) (IC rfl (Zb rfl) (by omega) (by omega)) a6)).trans ((Zh a7).trans ((Zh (X1 (sl1:=[]) (MV rfl (by omega) (by omega)) a8)).trans ((Zh a9).trans (Zv (Zb rfl))))))))))),⟨W16 R h3 hn gs,⟨rfl,rfl⟩,Fj R h3 rl (by omega),t,fun k s h=>?_⟩⟩
 rw[Vw]at h
 split at h
 ·split at h
  ·rw[← Option.some.inj h]; exact hsd _
  ·cases h
 ·cases h
end
open PySem L2 Tb
theorem Yb (om l:List Ob) (i:Nat):(om++l)[om.length+i]?=l[i]?:=by rw[List.getElem?_append_right (by omega),Nat.add_sub_cancel_left]
theorem UG (om l:List Ob) (i:Nat) (x:Ob):(om++l).set (om.length+i) x=om++l.set i x:=by rw[List.set_append_right _ _ (by omega),Nat.add_sub_cancel_left]
theorem IP {om l:List Ob} {i:Nat} {x:Ob} (h:om[i]?=some x):(om++l)[i]?=some x:=by rw[List.getElem?_append_left (List.getElem?_eq_some_iff.mp h).1,h]
theorem z0 (x:Int):((0:Nat):Int)+x=x:=by omega
theorem pW0:(fun (k:Nat)=>Wv.int (((0:Nat):Int)+(k:Int)))=fun (k:Nat)=>Wv.int (k:Int):=funext fun k=>by rw[z0]
section
variable {sl:Sl} {om om1:List Ob} {us:List (Int × Int)} {fv fd fk fo:FE} {h:Nat} {a s:Int}
theorem Ly {C:Addr} {n:Str} {fs:List (Str × Wv)} {v:Wv} (hv:fv sl om=some (.ok v,om1)) (ho:fo sl om1=some (.ok (.o h),om1)) (hi:om1[h]?=some (.ins C fs)) (hl:fs.length < 900):Y3 C n fv fo sl om=some (.ok (.nx,sl),om1.set h (.ins C (Xo n v fs))):=by
 unfold Y3
 rw[Zo hv,Zo ho]
 refine (Zo (a:=()) (om1:=om1.set h (.ins C (Xo n v fs))) ?_).trans rfl
 simp[Pd,hi,hl]
theorem PZ (hv:fv sl om=some (.ok (.int s),om)) (hd:fd sl om=some (.ok (.o h),om)) (hk:fk sl om=some (.ok (.int a),om)) (hx:om[h]?=some (.dk (Zp us))) (hn:us.lookup a=none) (hl:us.length<=60):YJ fv fd fk sl om=some (.ok (.nx,sl),om.set h (.dk (Zp (us++[(a,s)])))):=by
 have hlim:=ZW
 have hlen:us.length < lim:=by omega
 unfold YJ
 rw[Zo hv,Zo hd,Zo hk]
 refine (Zo (a:=()) (om1:=om.set h (.dk (Zp (us++[(a,s)])))) ?_).trans rfl
 simp[RG,Qk,hx,YE,Ph,hlen,LO s hn]
theorem PD (hx:om[h]?=some (.dk (Zp us))) (neg:Bool):X8 neg (.int a) (.o h) om=some (.ok (.bl (if neg then !(us.lookup a).isSome else (us.lookup a).isSome)),om):=by
 simp[X8,XB,hx,YE,VI]
theorem Op (hx:om[h]?=some (.dk (Zp us))) (e:us.lookup a=some s):Xu (.o h) (.int a) om=some (.ok (.int s),om):=by
 simp[Xu,XB,hx,YE,VI,e]
theorem Iv {k:List Wv->Mw Wv} {n:Nat} {js:List Nat} {fi:FI} {c:FT} {f:FE} {ws us:List Wv} (h:fi sl om=some (.ok ws,om)) (hl:ws.length<=lim) (ht:ws.all (Gp n)=true) (hc:Xk c f (fun w=>UD js w sl) ws om=some (.ok us,om)):We k n js fi c f sl om=k us om:=by
 unfold We
 rw[Zo h]
 refine (Zo (a:=()) (om1:=om) (Gc ?_)).trans ?_
 ·rw[decide_eq_true hl,ht]; rfl
 ·exact Zo hc
end
theorem Pu {us:List (Int × Int)} {k:Int} (h:∀s,(k,s) ∉ us):us.lookup k=none:=by
 cases e:us.lookup k with
 |none=>rfl
 |some s=>exact absurd (WS e) (h s)
abbrev goP (g:Nat->Nat) (F:List Nat):List (Int × Int):=F.map fun (k:Nat)=>((k:Int),((g k:Nat):Int))
abbrev coP (g:Nat->Nat) (F:List Nat):List (Int × Int):=F.map fun (k:Nat)=>(((g k:Nat):Int),(k:Int))
abbrev sN (f:List (Option Int)) (k:Nat):Int:=(at' f k).getD 0
abbrev unP (f:List (Option Int)) (l:List Nat):List (Int × Int):=l.map fun (k:Nat)=>((k:Int),sN f k)
abbrev gnP (f:List (Option Int)) (g:Nat->Nat) (l:List Nat):List (Int × Int):=l.map fun k=>(((g k:Nat):Int),sN f k)
theorem QP (v:Nat->Int) (x:Nat):∀F:List Nat,(F.map fun (k:Nat)=>((k:Int),v k)).lookup (x:Int)=if F.contains x=true then some (v x) else none
 |[]=>rfl
 |k::F=>by
  rw[List.map_cons,List.lookup_cons,L3]
  by_cases e:x=k
  ·subst e
   simp
  ·rw[decide_eq_false e]
   have:(k::F).contains x=F.contains x:=by
    rw[List.contains_cons,beq_eq_false_iff_ne.mpr e,Bool.false_or]
   rw[this]
   exact QP v x F
theorem Iu (g:Nat->Nat) (v:Nat->Int) (x:Nat):∀F:List Nat,((F.map fun k=>(((g k:Nat):Int),v k)).lookup (x:Int)).isSome=(F.map g).contains x
 |[]=>rfl
 |k::F=>by
  rw[List.map_cons,List.lookup_cons,L3,List.map_cons,List.contains_cons]
  by_cases e:x=g k
  ·subst e
   simp
  ·rw[decide_eq_false e,beq_eq_false_iff_ne.mpr e,Bool.false_or]
   exact Iu g v x F
structure Trn (f:List (Option Int)) (told:List (Option Od)) (g:Nat->Nat) (F:List Nat):Prop where
 fin:Rg told f 100 (mvL told f)=F
 mv:∀k∈mvL told f,at' told k=some (.move (g k))
 sub:∀k∈F,k∈mvL told f
 nd:F.Nodup
 inj:∀i∈F,∀j∈F,g i=g j->i=j
 few:(mvL told f).length<=30
 gap:(Yi [] ((mvL told f).map fun k=>((g k:Nat):Int))).length / 4<=(Yi [] (F.map fun k=>((g k:Nat):Int))).length∨F=[]
abbrev tn1 (a:Wv):List (Str × Wv):=[("goals",a)]
abbrev tn2 (a b:Wv):List (Str × Wv):=[("goals",a),("comers",b)]
abbrev tn3 (a b d:Wv):List (Str × Wv):=[("goals",a),("comers",b),("pushed",d)]
abbrev tn4 (a b d e:Wv):List (Str × Wv):=[("goals",a),("comers",b),("pushed",d),("closed",e)]
abbrev tn5 (a b d e g:Wv):List (Str × Wv):=[("goals",a),("comers",b),("pushed",d),("closed",e),("board",g)]
theorem pf2 (a b:Wv):Xo (Str.ofString "comers") b (tn1 a)=tn2 a b:=by simp[Xo,XG]
theorem pf3 (a b d:Wv):Xo (Str.ofString "pushed") d (tn2 a b)=tn3 a b d:=by simp[Xo,XG]
theorem pf4 (a b d e:Wv):Xo (Str.ofString "closed") e (tn3 a b d)=tn4 a b d e:=by simp[Xo,XG]
theorem pf5 (a b d e g:Wv):Xo (Str.ofString "board") g (tn4 a b d e)=tn5 a b d e g:=by simp[Xo,XG]
theorem lg (a:Wv) (r:List (Str × Wv)):List.lookup (Str.ofString "goals") ((Str.ofString "goals",a)::r)=some a:=by simp[List.lookup_cons,YG]
theorem lc (a b:Wv) (r:List (Str × Wv)):List.lookup (Str.ofString "comers") ((Str.ofString "goals",a)::(Str.ofString "comers",b)::r)=some b:=by simp[List.lookup_cons,YG]
theorem lp (a b d:Wv) (r:List (Str × Wv)):List.lookup (Str.ofString "pushed") ((Str.ofString "goals",a)::(Str.ofString "comers",b)::(Str.ofString "pushed",d)::r)=some d:=by simp[List.lookup_cons,YG]
section
variable {c:CA} {om:List Ob} {ho hb hm hu hl hg size:Nat} {f:List (Option Int)} {kvs:List (List Key × Wv)} {gs:Gs} {rows:Mx} {told:List (Option Od)} {g:Nat->Nat} {F:List Nat}
theorem J5 (A:Sit c om ho hb hm hu hl hg size 0 f kvs gs rows told) {k gg:Nat} (e:at' told k=some (.move gg)) {sl:Sl} {i j:Nat} (s0:sl[i]?=some (some (.o ho))) (s1:sl[j]?=some (some (.int (k:Int)))):Zq c.Orders "goal_of" 2 (Zl c) (Za i) (Zc (Za j) Zk) sl om=some (.ok (.int (gg:Int)),om):=by
 have:=Tm A e (sl:=sl) (i:=i) (j:=j) s0 (by rw[z0]; exact s1)
 rw[this]
 show some (Except.ok (Wv.int (((0:Nat):Int)+(gg:Int))),om)=_
 rw[z0]
theorem Lz (f:List (Option Int)) (l:List Nat):(unP f l).map prW=l.map fun (k:Nat)=>prW ((k:Int),sN f k):=by rw[unP,List.map_map]; rfl
theorem BK (f:List (Option Int)) (g:Nat->Nat) (l:List Nat):(gnP f g l).map prW=l.map fun (k:Nat)=>prW (((g k:Nat):Int),sN f k):=by rw[gnP,List.map_map]; rfl
theorem Hn (A:Sit c om ho hb hm hu hl hg size 0 f kvs gs rows told) {sl:Sl} {fo:FE} (h:fo sl om=some (.ok (.o hb),om)):(fun sl=>bnd ((Zq c.Board "roll" 1 (Z5 c) fo Zk) sl) ZL) sl om=some (.ok ((unP f (Z2 f f.length)).map prW),om):=by
 have:=Hh A.W
 refine (Zo ((Zy h (Zz A.W.b) (Yt _ _ _ (by decide) (by decide)) Zj rfl).trans this)).trans ?_
 show some (Except.ok _,om)=_
 rw[List.map_map]
 congr 3
 refine List.map_congr_left fun k _=>?_
 show Wv.tup [.int (((0:Nat):Int)+(k:Int)),_]=Wv.tup [.int (k:Int),_]
 rw[z0]
theorem SJ {k:Nat} (h:k∈Z2 f f.length):k < f.length∧at' f k=some (sN f k):=by
 obtain ⟨h1,h2⟩:=List.mem_filter.mp h
 obtain ⟨s,e⟩:=Option.isSome_iff_exists.mp h2
 exact ⟨List.mem_range.mp h1,by unfold sN; rw[e]; rfl⟩
theorem S9 (f:List (Option Int)):(Z2 f f.length).Nodup:=List.nodup_range.sublist List.filter_sublist
theorem Kd (l:List (Int × Int)):(l.map prW).all (Gp 2)=true:=by
 rw[List.all_eq_true]
 intro w hw
 obtain ⟨x,_,rfl⟩:=List.mem_map.mp hw
 rfl
abbrev Vv (f:List (Option Int)) (F:List Nat):List Nat:=(Z2 f f.length).filter fun x=>F.contains x
abbrev kept (f:List (Option Int)) (g:Nat->Nat) (F:List Nat):List Nat:=(Z2 f f.length).filter fun x=>!F.contains x&&!(F.map g).contains x
abbrev push (f:List (Option Int)) (g:Nat->Nat) (F:List Nat):List Nat:=(Z2 f f.length).filter fun x=>(F.map g).contains x&&!F.contains x
theorem NI (f:List (Option Int)) (g:Nat->Nat) (F:List Nat):(Vv f F).length+(kept f g F).length<=(Z2 f f.length).length:=by
 unfold Vv kept
 induction Z2 f f.length with
 |nil=>simp
 |cons x l ih =>
  rw[List.filter_cons,List.filter_cons]
  cases F.contains x
  ·cases (F.map g).contains x <;> simp at ih ⊢ <;> omega
  ·simp at ih ⊢; omega
theorem RU:∀{l m:List Nat},l.Nodup->(∀x∈l,x∈m)->l.length<=m.length
 |[],_,_,_=>Nat.zero_le _
 |x::l,m,nd,h=>by
  have hx:=h x (.head _)
  have nd:=List.nodup_cons.mp nd
  have:=RU (l:=l) (m:=m.erase x) nd.2 fun y hy=>(List.mem_erase_of_ne fun z:y=x=>nd.1 (z ▸ hy)).mpr (h y (.tail _ hy))
  have e:=List.length_erase_of_mem hx
  have p:0 < m.length:=List.length_pos_of_mem hx
  show l.length+1<=m.length
  omega
theorem R9 (A:Sit c om ho hb hm hu hl hg size 0 f kvs gs rows told) {hG hC:Nat} (e1:om[hG]?=some (.dk (Zp (goP g F)))) (e2:om[hC]?=some (.dk (Zp (coP g F)))):g_units_after c [.o hb,.o hG,.o hC] om=some (.ok (.lst ((gnP f g (Vv f F)++unP f (kept f g F)).map prW)),om):=by
 have hlim:=ZW
 have hfew:=A.few
 have hu:=W1 f f.length
 have l1:(Vv f F).length<=(Z2 f f.length).length:=List.length_filter_le _ _
 have l2:(kept f g F).length<=(Z2 f f.length).length:=List.length_filter_le _ _
 have i1:∀(x:Nat) (neg:Bool),X8 neg (.int (x:Int)) (.o hG) om=some (.ok (.bl (if neg then !F.contains x else F.contains x)),om):=fun x neg=>by
  rw[PD e1,QP]
  cases F.contains x <;> cases neg <;> rfl
 have i2:∀(x:Nat) (neg:Bool),X8 neg (.int (x:Int)) (.o hC) om=some (.ok (.bl (if neg then !(F.map g).contains x else (F.map g).contains x)),om):=fun x neg=>by
  rw[PD e2,Iu]
 have a1:ZO 3 (We ZQ 2 [1] (fun sl=>bnd ((Zq c.Board "roll" 1 (Z5 c) (Za 0) Zk) sl) ZL) (Wj c) (Wi c)) [some (.o hb),some (.o hG),some (.o hC),none,none] om=some (.ok (.nx,[some (.o hb),some (.o hG),some (.o hC),some (.lst ((gnP f g (Vv f F)).map prW)),none]),om):=by
  have cm:=Yh (cT:=Wj c) (f:=Wi c) (mk:=fun w=>UD [1] w [some (.o hb),some (.o hG),some (.o hC),none,none]) (om:=om) (fun (k:Nat)=>prW ((k:Int),sN f k)) (fun k=>F.contains k) (fun k=>prW (((g k:Nat):Int),sN f k)) (l:=Z2 f f.length) (fun k hk=>Z9 ((v2 rfl rfl).trans (i1 k false))) (fun k hk hc=>(ZI (Ze ((v2 rfl rfl).trans (Op e1 (by rw[QP,if_pos hc]))) (Ze (Zb rfl) Zj))).trans (Vp (by simp)))
  refine ZB (i:=3) ((Iv (ws:=(unP f (Z2 f f.length)).map prW) (Hn A (Zb rfl)) (by simp only[List.length_map]; omega) (Kd _) (us:=(gnP f g (Vv f F)).map prW) ?_).trans (Yq (by simp only[List.length_map]; omega)))
  rw[← Lz f (Z2 f f.length),← BK f g (Vv f F)]at cm
  exact cm
 have a2:ZO 4 (We ZQ 2 [1,2] (fun sl=>bnd ((Zq c.Board "roll" 1 (Z5 c) (Za 0) Zk) sl) ZL) (Wm c) (Wl c)) [some (.o hb),some (.o hG),some (.o hC),some (.lst ((gnP f g (Vv f F)).map prW)),none] om=some (.ok (.nx,[some (.o hb),some (.o hG),some (.o hC),some (.lst ((gnP f g (Vv f F)).map prW)),some (.lst ((unP f (kept f g F)).map prW))]),om):=by
  have cm:=Yh (cT:=Wm c) (f:=Wl c) (mk:=fun w=>UD [1,2] w [some (.o hb),some (.o hG),some (.o hC),some (.lst ((gnP f g (Vv f F)).map prW)),none]) (om:=om) (fun (k:Nat)=>prW ((k:Int),sN f k)) (fun x=>!F.contains x&&!(F.map g).contains x) (fun k=>prW ((k:Int),sN f k)) (l:=Z2 f f.length) (fun k hk=>R8 (Z9 ((v2 rfl rfl).trans (i1 k true))) fun _=>Z9 ((v2 rfl rfl).trans (i2 k true))) (fun k hk hc=>(ZI (Ze (Zb rfl) (Ze (Zb rfl) Zj))).trans (Vp (by simp)))
  refine ZB (i:=4) ((Iv (ws:=(unP f (Z2 f f.length)).map prW) (Hn A (Zb rfl)) (by simp only[List.length_map]; omega) (Kd _) (us:=(unP f (kept f g F)).map prW) ?_).trans (Yq (by simp only[List.length_map]; omega)))
  rw[← Lz f (Z2 f f.length),← Lz f (kept f g F)]at cm
  exact cm
 refine ZH ((Zh a1).trans ((Zh a2).trans (Zv ((v2 rfl rfl).trans ?_))))
 unfold CT
 dsimp only
 rw[if_pos (by simp only[List.length_map]; omega),List.map_append]
theorem JG {om:List Ob} {hm hl:Nat} {us:List (Int × Int)} (h2:om[hm]?=some (XW c (size:Nat) hl)) (nd:(us.map (·.1)).Nodup) (hr:∀x∈us,(0<=x.1∧x.1 < (size:Nat))∧0<=x.2∧x.2<=7) (hl60:us.length<=60):g_posted_board c [.o hm,.lst (us.map prW)] om=some (.ok (.o om.length),om++[YA c hm (om.length+1),.dk (Zp us)]):=by
 have hlim:=ZW
 have a1:ZO 2 (fA (YY c.Board 2 (YQ c)) (Zc (Za 0) Zk)) [some (.o hm),some (.lst (us.map prW)),none,none,none] om=some (.ok (.nx,[some (.o hm),some (.lst (us.map prW)),some (.o om.length),none,none]),om++[YA c hm (om.length+1),.dk (Zp [])]):=ZB (i:=2) ((ZI (Ze (Zb rfl) Zj)).trans (TV (c:=c) om hm))
 obtain ⟨sl',om',a2,x3,x4,rfl,rfl⟩:=WT (T:=J1 [3,4]) (S:=Vh c) prW (fun pre sl om'=>∃x3 x4,sl=[some (.o hm),some (.lst (us.map prW)),some (.o om.length),x3,x4]∧om'=om++[YA c hm (om.length+1),.dk (Zp pre)]) us [] (sl:=[some (.o hm),some (.lst (us.map prW)),some (.o om.length),none,none]) (om:=om++[YA c hm (om.length+1),.dk (Zp [])]) (fun pre x post hq sl om' ⟨x3,x4,h1,h2'⟩=>by
  subst h1 h2'
  have hq:us=pre++x::post:=hq
  have hx:=hr x (by rw[hq]; simp)
  have hln:pre.length<=60:=by rw[hq,List.length_append]at hl60; omega
  have hn:pre.lookup x.1=none:=Pu fun s hs=>by
   rw[hq,List.map_append,List.map_cons]at nd
   have:=(List.nodup_append.mp nd).2.2 x.1 (List.mem_map.mpr ⟨_,hs,rfl⟩) x.1 (.head _)
   exact this rfl
  have e:=Ki (c:=c) (om:=om++[YA c hm (om.length+1),.dk (Zp pre)]) (hb:=om.length) (hm:=hm) (hu:=om.length+1) (hl:=hl) (size:=(size:Nat)) (us:=pre) (Yb om _ 0) (IP h2) (Yb om _ 1) (a:=x.1) (s:=x.2) hx.1 hx.2 hn (by omega)
  rw[UG]at e
  refine ⟨_,_,_,rfl,Yw ((Zy (Zb rfl) (Zz (Yb om _ 0)) (Yt _ _ _ (by decide) (by decide)) (Ze (Zb rfl) (Ze (Zb rfl) Zj)) rfl).trans e),_,_,rfl,rfl⟩) ⟨none,none,rfl,rfl⟩
 exact ZH ((Zh a1).trans ((Zh (X1 (sl1:=[]) ((Zo (Zb (i:=1) (w:=.lst (us.map prW)) rfl)).trans rfl) a2)).trans (Zv (Zb rfl))))
end
open PySem L2 Tb
theorem Rt (om l:List Ob) (x:Ob):(om++l).set om.length x=om++l.set 0 x:=UG om l 0 x
theorem Ct (om l:List Ob) (x:Ob) (sl:Sl):(fun (_:Sl)=>newO x) sl (om++l)=some (.ok (.o (om.length+l.length)),om++(l++[x])):=by
 show some (Except.ok (Wv.o (om++l).length),om++l++[x])=_
 rw[List.length_append,List.append_assoc]
theorem SU {C:Addr} {n:Str} {fs:List (Str × Wv)} (om l:List Ob) (sl:Sl) (h0:sl[0]?=some (some (.o om.length))) (hi:l[0]?=some (.ins C fs)) (hl:fs.length < 900):Y3 C n (fun _=>newO (.dk [])) (Za 0) sl (om++l)=some (.ok (.nx,sl),om++(l++[Ob.dk []]).set 0 (.ins C (Xo n (.o (om.length+l.length)) fs))):=by
 have:=Ly (n:=n) (fv:=fun _=>newO (.dk [])) (fo:=Za 0) (sl:=sl) (om:=om++l) (h:=om.length) (Ct om l (.dk []) sl) (Zb h0) ((Yb om (l++[.dk []]) 0).trans (IP hi)) hl
 rw[Rt]at this
 exact this
theorem S4:∀us:List (Int × Int),V3 (Zp us)=some (us.map (·.1))
 |[]=>rfl
 |x::us=>by
  have:=S4 us
  show (match V3 (Zp us) with|some ns=>some (x.1::ns)|none=>none)=_
  rw[this]
  rfl
theorem Fy (ns ks:List Int):(sdL ns ks).length<=ns.length:=by
 unfold sdL
 rw[(Yv _).length_eq]
 refine Nat.le_trans (List.length_filter_le _ _) ?_
 have:=Xn ns []
 simpa using this
theorem Kw {sl:Sl} {om:List Ob} {fa fb:FE} {ns:List Int} {us:List (Int × Int)} {h:Nat} (ha:fa sl om=some (.ok (.lst (ns.map Wv.int)),om)) (hb:fb sl om=some (.ok (.o h),om)) (hx:om[h]?=some (.dk (Zp us))) (h1:ns.length < 31) (h2:us.length < 31) (gap:(Yi [] ns).length / 4<=(Yi [] (us.map (·.1))).length∨us.map (·.1)=[]):Vx ZQ fa fb sl om=some (.ok (.lst ((sdL ns (us.map (·.1))).map Wv.int)),om):=by
 have hl:=Fy ns (us.map (·.1))
 unfold Vx
 rw[Zo ha]
 refine (Zo (a:=ns) (om1:=om) ?_).trans ?_
 ·simp[P5,W9,h1]
 rw[Zo hb]
 refine (Zo (a:=(sdL ns (us.map (·.1))).map Wv.int) (om1:=om) ?_).trans (Yq (by rw[List.length_map]; omega))
 unfold UB
 dsimp only
 rw[hx]
 dsimp only
 rw[S4]
 dsimp only
 rw[if_pos ⟨by rw[List.length_map]; exact h2,gap⟩]
section
variable {c:CA} {om:List Ob} {ho hb hm hu hl hg size:Nat} {f:List (Option Int)} {kvs:List (List Key × Wv)} {gs:Gs} {rows:Mx} {told:List (Option Od)} {g:Nat->Nat} {F:List Nat}
theorem Trn.lt (A:Sit c om ho hb hm hu hl hg size 0 f kvs gs rows told) (T:Trn f told g F) {k:Nat} (h:k∈mvL told f):g k < f.length:=by
 have h1:=(Ws.mp h).1
 have:=A.G.ok k h1
 rw[T.mv k h]at this
 exact this.2.1
theorem Iy (T:Trn f told g F):((gnP f g (Vv f F)++unP f (kept f g F)).map (·.1)).Nodup:=by
 rw[List.map_append,List.map_map,List.map_map,List.nodup_append]
 refine ⟨?_,?_,?_⟩
 ·refine List.pairwise_map.mpr (List.Pairwise.imp_of_mem (fun {a b} ha hb h e=>?_) ((S9 f).sublist List.filter_sublist))
  have ha:=List.contains_iff_mem.mp (List.mem_filter.mp ha).2
  have hb:=List.contains_iff_mem.mp (List.mem_filter.mp hb).2
  have e:((g a:Nat):Int)=((g b:Nat):Int):=e
  exact h (T.inj a ha b hb (by omega))
 ·refine List.pairwise_map.mpr (((S9 f).sublist List.filter_sublist).imp fun {a b} h e=>?_)
  have e:(a:Int)=(b:Int):=e
  exact h (by omega)
 ·intro a ha b hb e
  obtain ⟨i,hi,rfl⟩:=List.mem_map.mp ha
  obtain ⟨j,hj,rfl⟩:=List.mem_map.mp hb
  have e:((g i:Nat):Int)=(j:Int):=e
  have hi:=List.contains_iff_mem.mp (List.mem_filter.mp hi).2
  have hj:=(List.mem_filter.mp hj).2
  rw[Bool.and_eq_true,Bool.not_eq_true',Bool.not_eq_true']at hj
  have:j∈F.map g:=List.mem_map.mpr ⟨i,hi,by omega⟩
  rw[List.contains_iff_mem.mpr this]at hj
  exact nomatch hj.2
theorem HR (A:Sit c om ho hb hm hu hl hg size 0 f kvs gs rows told) (T:Trn f told g F):∀x∈gnP f g (Vv f F)++unP f (kept f g F),(0<=x.1∧x.1 < (size:Nat))∧0<=x.2∧x.2<=7:=fun x hx=>by
 have hfit:=A.W.fit
 rcases List.mem_append.mp hx with hx|hx
 ·obtain ⟨k,hk,rfl⟩:=List.mem_map.mp hx
  obtain ⟨h1,h2⟩:=List.mem_filter.mp hk
  have h3:=T.lt A (T.sub k (List.contains_iff_mem.mp h2))
  exact ⟨⟨by show (0:Int)<=((g k:Nat):Int); omega,by show ((g k:Nat):Int) < _; omega⟩,A.s7 k _ (SJ h1).2⟩
 ·obtain ⟨k,hk,rfl⟩:=List.mem_map.mp hx
  obtain ⟨h1,h2⟩:=List.mem_filter.mp hk
  have h3:=(SJ h1).1
  exact ⟨⟨by show (0:Int)<=(k:Int); omega,by show (k:Int) < _; omega⟩,A.s7 k _ (SJ h1).2⟩
abbrev tOf (c:CA) (N:Nat) (cl:List Int):Ob:=.ins c.Turn (tn5 (.o (N+1)) (.o (N+2)) (.o (N+3)) (.lst (cl.map Wv.int)) (.o (N+4)))
abbrev clL (told:List (Option Od)) (f:List (Option Int)) (g:Nat->Nat) (F:List Nat):List Int:=sdL ((mvL told f).map fun k=>((g k:Nat):Int)) (F.map fun k=>((g k:Nat):Int))
theorem L5 (A:Sit c om ho hb hm hu hl hg size 0 f kvs gs rows told) (T:Trn f told g F):YY c.Turn 2 (Yz c) [.o ho] om=some (.ok (.o om.length),om++[tOf c om.length (clL told f g F),.dk (Zp (goP g F)),.dk (Zp (coP g F)),.dk (Zp (unP f (push f g F))),YA c hm (om.length+5),.dk (Zp (gnP f g (Vv f F)++unP f (kept f g F)))]):=by
 have hlim:=ZW
 have hfew:=A.few
 have hml:=Wr told f
 have hul:=W1 f f.length
 have hmf:=T.few
 have hFl:F.length<=30:=Nat.le_trans (RU T.nd T.sub) hmf
 have s1:Y3 c.Turn "goals" (fun _=>newO (.dk [])) (Za 0) [some (.o om.length),some (.o ho),none,none,none] (om++[.ins c.Turn []])=some (.ok (.nx,[some (.o om.length),some (.o ho),none,none,none]),om++[.ins c.Turn (tn1 (.o (om.length+1))),.dk []]):=(SU om [.ins c.Turn []] _ rfl rfl (by simp)).trans rfl
 have s2:Y3 c.Turn "comers" (fun _=>newO (.dk [])) (Za 0) [some (.o om.length),some (.o ho),none,none,none] (om++[.ins c.Turn (tn1 (.o (om.length+1))),.dk []])=some (.ok (.nx,[some (.o om.length),some (.o ho),none,none,none]),om++[.ins c.Turn (tn2 (.o (om.length+1)) (.o (om.length+2))),.dk (Zp (goP g [])),.dk (Zp (coP g []))]):=(SU om [.ins c.Turn (tn1 (.o (om.length+1))),.dk []] _ rfl rfl (by simp)).trans (by rw[pf2]; rfl)
 have i3:(fun sl=>bnd ((fA (kN 1 (g_settled c)) (Zc (Za 1) Zk)) sl) ZL) [some (.o om.length),some (.o ho),none,none,none] (om++[.ins c.Turn (tn2 (.o (om.length+1)) (.o (om.length+2))),.dk (Zp (goP g [])),.dk (Zp (coP g []))])=some (.ok (F.map fun (k:Nat)=>Wv.int (k:Int)),om++[.ins c.Turn (tn2 (.o (om.length+1)) (.o (om.length+2))),.dk (Zp (goP g [])),.dk (Zp (coP g []))]):=by
  have:=Uv (A.grow [.ins c.Turn (tn2 (.o (om.length+1)) (.o (om.length+2))),.dk (Zp (goP g [])),.dk (Zp (coP g []))])
  rw[T.fin]at this
  refine (Zo ((ZI (Ze (Zb rfl) Zj)).trans ((YF rfl).trans this))).trans ?_
  show some (Except.ok (F.map fun (k:Nat)=>Wv.int (((0:Nat):Int)+(k:Int))),_)=_
  rw[pW0]
 obtain ⟨sl',om',s3,x2,rfl,rfl⟩:=WT (T:=tgN 2) (S:=U1 c) (fun (k:Nat)=>Wv.int (k:Int)) (fun pre sl om'=>∃x,sl=[some (.o om.length),some (.o ho),x,none,none]∧om'=om++[.ins c.Turn (tn2 (.o (om.length+1)) (.o (om.length+2))),.dk (Zp (goP g pre)),.dk (Zp (coP g pre))]) F [] (sl:=[some (.o om.length),some (.o ho),none,none,none]) (om:=om++[.ins c.Turn (tn2 (.o (om.length+1)) (.o (om.length+2))),.dk (Zp (goP g [])),.dk (Zp (coP g []))]) (fun pre k post hq sl om' ⟨x,h1,h2⟩=>by
  subst h1 h2
  have hq:F=pre++k::post:=hq
  have hkF:k∈F:=by rw[hq]; simp
  have hmk:=T.mv k (T.sub k hkF)
  have hpl:pre.length<=30:=by rw[hq,List.length_append]at hFl; omega
  have hkn:k ∉ pre:=fun z=>by
   have:=T.nd
   rw[hq]at this
   exact (List.nodup_append.mp this).2.2 k z k (.head _) rfl
  have n1:(goP g pre).lookup (k:Int)=none:=by
   rw[QP,if_neg fun z=>hkn (List.contains_iff_mem.mp z)]
  have n2:(coP g pre).lookup ((g k:Nat):Int)=none:=Pu fun s hs=>by
   obtain ⟨j,hj,e⟩:=List.mem_map.mp hs
   have e:((g j:Nat):Int)=((g k:Nat):Int):=congrArg Prod.fst e
   have:=T.inj j (by rw[hq]; exact List.mem_append_left _ hj) k hkF (by omega)
   exact hkn (this ▸ hj)
  have e1:=PZ (om:=om++[.ins c.Turn (tn2 (.o (om.length+1)) (.o (om.length+2))),.dk (Zp (goP g pre)),.dk (Zp (coP g pre))]) (sl:=[some (.o om.length),some (.o ho),some (.int (k:Int)),none,none]) (us:=goP g pre) (a:=(k:Int)) (s:=((g k:Nat):Int)) (h:=om.length+1) (fd:=f1 (ZU c.Turn "goals") (Za 0)) (fk:=Za 2) (J5 (A.grow _) hmk (i:=1) (j:=2) rfl rfl) (Yk rfl (Yb om _ 0) (lg ..)) (Zb rfl) (Yb om _ 1) n1 (by rw[List.length_map]; omega)
  rw[UG,show goP g pre++[((k:Int),((g k:Nat):Int))]=goP g (pre++[k]) by rw[goP,goP,List.map_append]; rfl]at e1
  have e2:=PZ (om:=om++[.ins c.Turn (tn2 (.o (om.length+1)) (.o (om.length+2))),.dk (Zp (goP g (pre++[k]))),.dk (Zp (coP g pre))]) (sl:=[some (.o om.length),some (.o ho),some (.int (k:Int)),none,none]) (us:=coP g pre) (a:=((g k:Nat):Int)) (s:=(k:Int)) (h:=om.length+2) (fv:=Za 2) (fd:=f1 (ZU c.Turn "comers") (Za 0)) (Zb rfl) (Yk rfl (Yb om _ 0) (lc ..)) (J5 (A.grow _) hmk (i:=1) (j:=2) rfl rfl) (Yb om _ 2) n2 (by rw[List.length_map]; omega)
  rw[UG,show coP g pre++[(((g k:Nat):Int),(k:Int))]=coP g (pre++[k]) by rw[coP,coP,List.map_append]; rfl]at e2
  exact ⟨_,_,_,rfl,(Zh e1).trans e2,_,rfl,rfl⟩) ⟨none,rfl,rfl⟩
 have s4:Y3 c.Turn "pushed" (fun _=>newO (.dk [])) (Za 0) [some (.o om.length),some (.o ho),x2,none,none] (om++[.ins c.Turn (tn2 (.o (om.length+1)) (.o (om.length+2))),.dk (Zp (goP g ([]++F))),.dk (Zp (coP g ([]++F)))])=some (.ok (.nx,[some (.o om.length),some (.o ho),x2,none,none]),om++[.ins c.Turn (tn3 (.o (om.length+1)) (.o (om.length+2)) (.o (om.length+3))),.dk (Zp (goP g F)),.dk (Zp (coP g F)),.dk (Zp (unP f []))]):=(SU om [.ins c.Turn (tn2 (.o (om.length+1)) (.o (om.length+2))),.dk (Zp (goP g ([]++F))),.dk (Zp (coP g ([]++F)))] _ rfl rfl (by simp)).trans (by rw[pf3]; rfl)
 have i5:=Hn (A.grow [.ins c.Turn (tn3 (.o (om.length+1)) (.o (om.length+2)) (.o (om.length+3))),.dk (Zp (goP g F)),.dk (Zp (coP g F)),.dk (Zp (unP f []))]) (sl:=[some (.o om.length),some (.o ho),x2,none,none]) (fo:=f1 (ZU c.Orders "board") (Za 1)) (Wf (A.grow _).S rfl)
 rw[Lz]at i5
 obtain ⟨sl',om',s5,y2,y3,rfl,rfl⟩:=WT (T:=J1 [2,3]) (S:=UO c) (fun (k:Nat)=>prW ((k:Int),sN f k)) (fun pre sl om'=>∃y2 y3,sl=[some (.o om.length),some (.o ho),y2,y3,none]∧om'=om++[.ins c.Turn (tn3 (.o (om.length+1)) (.o (om.length+2)) (.o (om.length+3))),.dk (Zp (goP g F)),.dk (Zp (coP g F)),.dk (Zp (unP f (pre.filter fun x=>(F.map g).contains x&&!F.contains x)))]) (Z2 f f.length) [] (sl:=[some (.o om.length),some (.o ho),x2,none,none]) (om:=om++[.ins c.Turn (tn3 (.o (om.length+1)) (.o (om.length+2)) (.o (om.length+3))),.dk (Zp (goP g F)),.dk (Zp (coP g F)),.dk (Zp (unP f []))]) (fun pre k post hq sl om' ⟨y2,y3,h1,h2⟩=>by
  subst h1 h2
  have hq:Z2 f f.length=pre++k::post:=hq
  have hkn:k ∉ pre:=fun z=>by
   have:=S9 f
   rw[hq]at this
   exact (List.nodup_append.mp this).2.2 k z k (.head _) rfl
  have hpl:pre.length<=60:=by rw[hq,List.length_append]at hul; omega
  have hpf:=List.length_filter_le (fun x=>(F.map g).contains x&&!F.contains x) pre
  have cc:∀P:List (Int × Int),UZ (fB (f2 (X8 false) (Za 2) (f1 (ZU c.Turn "comers") (Za 0)))) (fB (f2 (X8 true) (Za 2) (f1 (ZU c.Turn "goals") (Za 0)))) [some (.o om.length),some (.o ho),some (.int (k:Int)),some (.int (sN f k)),none] (om++[.ins c.Turn (tn3 (.o (om.length+1)) (.o (om.length+2)) (.o (om.length+3))),.dk (Zp (goP g F)),.dk (Zp (coP g F)),.dk (Zp P)])=some (.ok ((F.map g).contains k&&!F.contains k),om++[.ins c.Turn (tn3 (.o (om.length+1)) (.o (om.length+2)) (.o (om.length+3))),.dk (Zp (goP g F)),.dk (Zp (coP g F)),.dk (Zp P)]):=fun P=>by
   refine R8 (Z9 ((ZC (Zb rfl) (Yk rfl (Yb om _ 0) (lc ..))).trans ((PD (Yb om _ 2) false).trans ?_))) fun _=>Z9 ((ZC (Zb rfl) (Yk rfl (Yb om _ 0) (lg ..))).trans ((PD (Yb om _ 1) true).trans ?_))
   ·rw[Iu]; rfl
   ·rw[QP]
    cases F.contains k <;> rfl
  by_cases hp:((F.map g).contains k&&!F.contains k)=true
  ·rw[hp]at cc
   have n1:(unP f (pre.filter fun x=>(F.map g).contains x&&!F.contains x)).lookup (k:Int)=none:=by
    rw[QP,if_neg fun z=>hkn (List.mem_filter.mp (List.contains_iff_mem.mp z)).1]
   have e1:=PZ (om:=om++[.ins c.Turn (tn3 (.o (om.length+1)) (.o (om.length+2)) (.o (om.length+3))),.dk (Zp (goP g F)),.dk (Zp (coP g F)),.dk (Zp (unP f (pre.filter fun x=>(F.map g).contains x&&!F.contains x)))]) (sl:=[some (.o om.length),some (.o ho),some (.int (k:Int)),some (.int (sN f k)),none]) (us:=unP f (pre.filter fun x=>(F.map g).contains x&&!F.contains x)) (a:=(k:Int)) (s:=sN f k) (h:=om.length+3) (fv:=Za 3) (fd:=f1 (ZU c.Turn "pushed") (Za 0)) (fk:=Za 2) (Zb rfl) (Yk rfl (Yb om _ 0) (lp ..)) (Zb rfl) (Yb om _ 3) n1 (by rw[List.length_map]; omega)
   rw[UG,show unP f (pre.filter fun x=>(F.map g).contains x&&!F.contains x)++[((k:Int),sN f k)]=unP f ((pre++[k]).filter fun x=>(F.map g).contains x&&!F.contains x) by rw[List.filter_append,unP,unP,List.map_append,List.filter_cons_of_pos (p:=fun x=>(F.map g).contains x&&!F.contains x) hp]; rfl]at e1
   exact ⟨_,_,_,rfl,(Y1 (cc _)).trans e1,_,_,rfl,rfl⟩
  ·rw[Bool.not_eq_true]at hp
   rw[hp]at cc
   refine ⟨_,_,_,rfl,Z3 (cc _),_,_,rfl,?_⟩
   rw[List.filter_append,List.filter_cons_of_neg (p:=fun x=>(F.map g).contains x&&!F.contains x) (by rw[hp]; exact Bool.false_ne_true),List.filter_nil,List.append_nil]) ⟨x2,none,rfl,rfl⟩
 have s5':=X1 (fi:=fun sl=>bnd ((Zq c.Board "roll" 1 (Z5 c) (f1 (ZU c.Orders "board") (Za 1)) Zk) sl) ZL) (sl1:=[]) i5 s5
 rw[List.nil_append]at s5'
 generalize hP:(Z2 f f.length).filter (fun x=>(F.map g).contains x&&!F.contains x)=P at s5'
 have s6:ZO 4 (Yc ZQ [1] (fun sl=>bnd ((Zq c.Orders "movers" 1 (ZJ c) (Za 1) Zk) sl) ZL) XC (UE c)) [some (.o om.length),some (.o ho),y2,y3,none] (om++[.ins c.Turn (tn3 (.o (om.length+1)) (.o (om.length+2)) (.o (om.length+3))),.dk (Zp (goP g F)),.dk (Zp (coP g F)),.dk (Zp (unP f P))])=some (.ok (.nx,[some (.o om.length),some (.o ho),y2,y3,some (.lst (((mvL told f).map fun k=>((g k:Nat):Int)).map Wv.int))]),om++[.ins c.Turn (tn3 (.o (om.length+1)) (.o (om.length+2)) (.o (om.length+3))),.dk (Zp (goP g F)),.dk (Zp (coP g F)),.dk (Zp (unP f P))]):=by
  have AA:=A.grow [.ins c.Turn (tn3 (.o (om.length+1)) (.o (om.length+2)) (.o (om.length+3))),.dk (Zp (goP g F)),.dk (Zp (coP g F)),.dk (Zp (unP f P))]
  generalize om++[.ins c.Turn (tn3 (.o (om.length+1)) (.o (om.length+2)) (.o (om.length+3))),.dk (Zp (goP g F)),.dk (Zp (coP g F)),.dk (Zp (unP f P))]=st at AA
  have mv:=UW AA
  rw[pW0]at mv
  refine ZB (i:=4) ((Wg (ws:=(mvL told f).map fun (k:Nat)=>Wv.int (k:Int)) (om1:=st) ((Zo ((Zy (Zb rfl) (Zz AA.S.o) (Z8 _ _ _ (by decide) (by decide)) Zj rfl).trans mv)).trans rfl) (by rw[List.length_map]; omega) (Yh (fun (k:Nat)=>Wv.int (k:Int)) (fun _=>true) (fun k=>Wv.int ((g k:Nat):Int)) (fun k hk=>rfl) (fun k hk _=>J5 AA (T.mv k hk) rfl rfl))).trans ?_)
  rw[List.filter_eq_self.mpr (fun _ _=>rfl),List.map_map]
  exact Yq (by rw[List.length_map]; omega)
 have s7:Y3 c.Turn "closed" (Vx ZQ (Za 4) (f1 (ZU c.Turn "comers") (Za 0))) (Za 0) [some (.o om.length),some (.o ho),y2,y3,some (.lst (((mvL told f).map fun k=>((g k:Nat):Int)).map Wv.int))] (om++[.ins c.Turn (tn3 (.o (om.length+1)) (.o (om.length+2)) (.o (om.length+3))),.dk (Zp (goP g F)),.dk (Zp (coP g F)),.dk (Zp (unP f P))])=some (.ok (.nx,[some (.o om.length),some (.o ho),y2,y3,some (.lst (((mvL told f).map fun k=>((g k:Nat):Int)).map Wv.int))]),om++[.ins c.Turn (tn4 (.o (om.length+1)) (.o (om.length+2)) (.o (om.length+3)) (.lst ((clL told f g F).map Wv.int))),.dk (Zp (goP g F)),.dk (Zp (coP g F)),.dk (Zp (unP f P))]):=by
  have ek:(coP g F).map (·.1)=F.map fun k=>((g k:Nat):Int):=by rw[List.map_map]; rfl
  have sd:=Kw (sl:=[some (.o om.length),some (.o ho),y2,y3,some (.lst (((mvL told f).map fun k=>((g k:Nat):Int)).map Wv.int))]) (om:=om++[.ins c.Turn (tn3 (.o (om.length+1)) (.o (om.length+2)) (.o (om.length+3))),.dk (Zp (goP g F)),.dk (Zp (coP g F)),.dk (Zp (unP f P))]) (fa:=Za 4) (fb:=f1 (ZU c.Turn "comers") (Za 0)) (ns:=(mvL told f).map fun k=>((g k:Nat):Int)) (us:=coP g F) (h:=om.length+2) (Zb rfl) (Yk rfl (Yb om _ 0) (lc ..)) (Yb om _ 2) (by rw[List.length_map]; omega) (by rw[List.length_map]; omega) (by
   rw[ek]
   exact T.gap.imp id fun h=>by rw[h]; rfl)
  rw[ek]at sd
  exact (Ly (h:=om.length) sd (Zb rfl) (Yb om _ 0) (by simp)).trans (by rw[Rt,pf4]; rfl)
 generalize hC:clL told f g F=cl at s7 ⊢
 have s8:Y3 c.Turn "board" (fA (kN 2 (g_posted_board c)) (Zc (f1 (ZU c.Board "chart") (f1 (ZU c.Orders "board") (Za 1))) (Zc (fA (kN 3 (g_units_after c)) (Zc (f1 (ZU c.Orders "board") (Za 1)) (Zc (f1 (ZU c.Turn "goals") (Za 0)) (Zc (f1 (ZU c.Turn "comers") (Za 0)) Zk)))) Zk))) (Za 0) [some (.o om.length),some (.o ho),y2,y3,some (.lst (((mvL told f).map fun k=>((g k:Nat):Int)).map Wv.int))] (om++[.ins c.Turn (tn4 (.o (om.length+1)) (.o (om.length+2)) (.o (om.length+3)) (.lst (cl.map Wv.int))),.dk (Zp (goP g F)),.dk (Zp (coP g F)),.dk (Zp (unP f P))])=some (.ok (.nx,[some (.o om.length),some (.o ho),y2,y3,some (.lst (((mvL told f).map fun k=>((g k:Nat):Int)).map Wv.int))]),om++[tOf c om.length cl,.dk (Zp (goP g F)),.dk (Zp (coP g F)),.dk (Zp (unP f P)),YA c hm (om.length+5),.dk (Zp (gnP f g (Vv f F)++unP f (kept f g F)))]):=by
  have AA:=A.grow [.ins c.Turn (tn4 (.o (om.length+1)) (.o (om.length+2)) (.o (om.length+3)) (.lst (cl.map Wv.int))),.dk (Zp (goP g F)),.dk (Zp (coP g F)),.dk (Zp (unP f P))]
  have l1:(Vv f F).length<=(Z2 f f.length).length:=List.length_filter_le _ _
  have l2:=NI f g F
  have ua:=R9 (g:=g) (F:=F) AA (hG:=om.length+1) (hC:=om.length+2) (Yb om _ 1) (Yb om _ 2)
  have pb:=JG (c:=c) (size:=size) AA.W.m (Iy T) (HR A T) (by rw[List.length_append,List.length_map,List.length_map]; omega)
  rw[List.length_append,List.append_assoc]at pb
  have e:=(ZI (k:=kN 2 (g_posted_board c)) (Ze (OL (Wf AA.S (sl:=[some (.o om.length),some (.o ho),y2,y3,some (.lst (((mvL told f).map fun k=>((g k:Nat):Int)).map Wv.int))]) (i:=1) rfl) AA.W.b (W5 ..)) (Ze ((ZI (Ze (Wf AA.S (i:=1) rfl) (Ze (Yk (i:=0) (h:=om.length) rfl (Yb om _ 0) (lg ..)) (Ze (Yk (i:=0) (h:=om.length) rfl (Yb om _ 0) (lc ..)) Zj)))).trans ((YF rfl).trans ua)) Zj))).trans ((YF rfl).trans pb)
  exact (Ly (h:=om.length) e (Zb rfl) (Yb om _ 0) (by simp)).trans (by rw[Rt,pf5]; rfl)
 have hPP:unP f P=unP f (push f g F):=by rw[← hP]
 rw[← hPP]
 exact (Zo ((YF rfl).trans (Vr ((Zh s1).trans ((Zh s2).trans ((Zh (X1 (sl1:=[]) i3 s3)).trans ((Zh s4).trans ((Zh s5').trans ((Zh s6).trans ((Zh s7).trans s8)))))))))).trans rfl
theorem FK {om:List Ob} {h hG:Nat} {r:List (Str × Wv)} {us:List (Int × Int)} (e0:om[h]?=some (.ins c.Turn ((Str.ofString "goals",.o hG)::r))) (e1:om[hG]?=some (.dk (Zp us))) (hl:us.length < 64):XJ c [.o h] om=some (.ok (.lst ((YS us).map prW)),om):=by
 have hls:(YS us).length=us.length:=(Yj us).length_eq
 refine ZH (Zv ?_)
 unfold UQ
 refine (Zo (Yk rfl e0 (lg ..))).trans ?_
 refine (Zo (a:=(YS us).map prW) (om1:=om) ?_).trans (Yq (by rw[List.length_map]; omega))
 simp[SE,e1,Qa,hl]
theorem HZ {om:List Ob} {h hP hC:Nat} {a:Wv} {r:List (Str × Wv)} {us co:List (Int × Int)} {v:Int->Int} (e0:om[h]?=some (.ins c.Turn ((Str.ofString "goals",a)::(Str.ofString "comers",.o hC)::(Str.ofString "pushed",.o hP)::r))) (e1:om[hP]?=some (.dk (Zp us))) (e2:om[hC]?=some (.dk (Zp co))) (hl:us.length < 64) (nd:(us.map (·.1)).Nodup) (hv:∀x∈us,co.lookup x.1=some (v x.1)):XZ c [.o h] om=some (.ok (.lst ((YT (us.map (·.1))).map fun x=>Wv.tup [.int x,.int ((us.lookup x).getD 0),.int (v x)])),om):=by
 have hlim:=ZW
 have hls:(YT (us.map (·.1))).length=us.length:=by rw[(Yv _).length_eq,List.length_map]
 have ek:fA (X2 ZQ) (Zc (f1 (ZU c.Turn "pushed") (Za 0)) Zk) [some (.o h)] om=some (.ok (.lst ((YT (us.map (·.1))).map Wv.int)),om):=by
  refine (ZI (Ze (Yk rfl e0 (lp ..)) Zj)).trans ?_
  unfold X2
  dsimp only
  rw[e1]
  dsimp only
  rw[S4]
  dsimp only
  rw[if_pos (by rw[List.length_map]; exact hl)]
  exact Yq (by rw[List.length_map]; omega)
 refine ZH (Zv ((Wg (ws:=(YT (us.map (·.1))).map Wv.int) (om1:=om) ((Zo ek).trans rfl) (by rw[List.length_map]; omega) (Yh Wv.int (fun _=>true) (fun x=>Wv.tup [.int x,.int ((us.lookup x).getD 0),.int (v x)]) (fun _ _=>rfl) (fun x hx _=>?_))).trans ?_))
 ·obtain ⟨y,hy,rfl⟩:=List.mem_map.mp ((QZ _ _).mp hx)
  have q1:us.lookup y.1=some ((us.lookup y.1).getD 0):=by rw[VF nd (k:=y.1) (s:=y.2) hy]; rfl
  exact (ZI (Ze (Zb rfl) (Ze ((ZC (Yk rfl e0 (lp ..)) (Zb rfl)).trans (Op e1 q1)) (Ze ((ZC (Yk rfl e0 (lc ..)) (Zb rfl)).trans (Op e2 (hv y hy))) Zj)))).trans (Vp (by simp))
 ·rw[List.filter_eq_self.mpr (fun _ _=>rfl)]
  exact Yq (by rw[List.length_map]; omega)
end
open PySem L2 Tb
theorem EA (off:Nat) (om:List Ob) (l:List R3):Y7 om (.lst (l.map (r3W off)))=some (.list (l.map (r3P off))):=by
 show (pysOf om (l.map (r3W off))).map PyData.list=_
 rw[Mp]; rfl
def WJ (n:Nat) (p:Nat->Nat) (m:Nat):List (Int × Int):=(List.range m).map fun k=>(((p k:Nat):Int),((p ((k+1) % n):Nat):Int))
abbrev gg (n:Nat) (p q:Nat->Nat) (x:Nat):Nat:=p ((q x+1) % n)
section
variable {n:Nat} {p q:Nat->Nat} {b:Bool} {sd:Nat->Int} (R:Rw n p q) (h3:3<=n)
include R h3
theorem E8:((WJ n p (mN n b)).map (·.1)).Nodup:=by
 have hN:=U0 n b
 unfold WJ
 rw[List.map_map]
 refine List.pairwise_map.mpr (List.Pairwise.imp_of_mem (fun {a b} ha hb h e=>?_) List.nodup_range)
 have ha:=List.mem_range.mp ha
 have hb:=List.mem_range.mp hb
 have e:((p a:Nat):Int)=((p b:Nat):Int):=e
 exact h (R.inj (by omega) (by omega) (by omega))
theorem Ms (y:Int × Int):y∈goP (gg n p q) (mvL (t16 n p q b b) (f16 n q b sd)) ↔ y∈WJ n p (mN n b):=by
 have hN:=U0 n b
 unfold WJ
 rw[List.mem_map,List.mem_map]
 constructor
 ·rintro ⟨x,hx,rfl⟩
  obtain ⟨h1,h2⟩:=(Sj R h3 id).mp hx
  exact ⟨q x,List.mem_range.mpr ((P8 (by omega)).mp h2),by rw[R.invq x h1]⟩
 ·rintro ⟨k,hk,rfl⟩
  have hk:=List.mem_range.mp hk
  refine ⟨p k,(Sj R h3 id).mpr ⟨R.lt k (by omega),?_⟩,?_⟩
  ·rw[R.inv k (by omega)]; exact (P8 (by omega)).mpr hk
  ·unfold gg; rw[R.inv k (by omega)]
theorem FL:YS (goP (gg n p q) (mvL (t16 n p q b b) (f16 n q b sd)))=YS (WJ n p (mN n b)):=by
 have nd1:((goP (gg n p q) (mvL (t16 n p q b b) (f16 n q b sd))).map (·.1)).Nodup:=by
  rw[List.map_map]
  refine List.pairwise_map.mpr ((RQ _ _).imp fun {x y} h e=>?_)
  have e:(x:Int)=(y:Int):=e
  exact h (by omega)
 have pm:=(List.perm_ext_iff_of_nodup (OH nd1) (OH (E8 (b:=b) R h3))).mpr fun y=>Ms (sd:=sd) R h3 y
 exact WX ((Yj _).trans (pm.trans (Yj _).symm)) (Xm _) (Xm _)
theorem GY:((mvL (t16 n p q b b) (f16 n q b sd)).map fun (k:Nat)=>(k:Int))=YT ((WJ n p (mN n b)).map (·.1)):=by
 refine Vb ?_ (UX (E8 R h3)) fun x=>?_
 ·refine List.pairwise_map.mpr ((List.pairwise_lt_range.sublist List.filter_sublist).imp fun h=>?_)
  omega
 ·rw[QZ,List.mem_map,List.mem_map]
  constructor
  ·rintro ⟨k,hk,rfl⟩
   exact ⟨_,(Ms (sd:=sd) R h3 _).mp (List.mem_map.mpr ⟨k,hk,rfl⟩),rfl⟩
  ·rintro ⟨y,hy,rfl⟩
   obtain ⟨k,hk,rfl⟩:=List.mem_map.mp ((Ms (sd:=sd) R h3 y).mpr hy)
   exact ⟨k,hk,rfl⟩
theorem BR (hn:n<=24):Trn (f16 n q b sd) (t16 n p q b b) (gg n p q) (mvL (t16 n p q b b) (f16 n q b sd)):=by
 refine ⟨(Da R h3 id rfl).2,fun k hk=>?_,fun _ h=>h,RQ _ _,fun i hi j hj e=>?_,?_,.inl (Nat.div_le_self _ _)⟩
 ·obtain ⟨h1,h2⟩:=(Sj R h3 id).mp hk
  exact (Mg R h3 id).mpr ⟨h1,h2,rfl⟩
 ·obtain ⟨h1,_⟩:=(Sj R h3 id).mp hi
  obtain ⟨h2,_⟩:=(Sj R h3 id).mp hj
  have:=Iz (R.ltq i h1) (R.ltq j h2) (R.inj (VB h3 _) (VB h3 _) e)
  rw[← R.invq i h1,← R.invq j h2,this]
 ·have:=Wr (t16 n p q b b) (f16 n q b sd)
  rw[Y5]at this
  omega
theorem IT:push (f16 n q b sd) (gg n p q) (mvL (t16 n p q b b) (f16 n q b sd))=[]:=by
 rw[push,List.filter_eq_nil_iff]
 intro x hx
 obtain ⟨h1,h2⟩:=SJ hx
 rw[Y5]at h1
 rw[Vw,if_pos h1]at h2
 have hu:un n b (q x)=true:=by
  by_cases z:un n b (q x)=true
  ·exact z
  ·rw[if_neg z]at h2; cases h2
 have:x∈mvL (t16 n p q b b) (f16 n q b sd):=(Sj R h3 id).mpr ⟨h1,hu⟩
 rw[List.contains_iff_mem.mpr this,Bool.not_true,Bool.and_false]
 exact Bool.false_ne_true
end
section
variable {c:CA} {n:Nat} {p q:Nat->Nat} {b:Bool} {sd:Nat->Int} {kvs:List (List Key × Wv)} {gs:Gs} {st:List Ob} {sl:Sl}
theorem Kr (a b' d e g:Wv):List.lookup (Str.ofString "done") (tn5 a b' d e g)=none:=by simp[List.lookup_cons,YG]
theorem Li (a b' d e g:Wv):List.lookup (Str.ofString "aside") (tn5 a b' d e g)=none:=by simp[List.lookup_cons,YG]
theorem DV (R:Rw n p q) (h3:3<=n) (hn:n<=24) (A:Sit c st 5 3 1 4 2 6 n 0 (f16 n q b sd) kvs gs (r16 n q b) (t16 n p q b b)) (v5:sl[5]?=some (some (.o 5))) (v7:sl[7]?=some (some (.lst ((WJ n p (mN n b)).map prW)))) :
    ∃om',ZE (sIf (fOr (fB (f2 kNe (fA (kN 1 (YO c)) (Zc (Za 5) Zk)) (fA ZQ Zk))) (fB (f2 kNe (fA (kN 1 (g_settled c)) (Zc (Za 5) Zk)) (fA (YU ZQ) (Zc (Yc ZQ [] (fun sl=>bnd ((Za 7) sl) ZL) XC (SR c)) Zk))))) (Ym (fC (.bl false))) Y8)
    (Ym (X7 (f2 kEq (Zq c.Turn "done" 1 (XJ c) (fA (YY c.Turn 2 (Yz c)) (Zc (Za 5) Zk)) Zk) (fA (XO ZQ) (Zc (Za 7) Zk))) (f2 kEq (Zq c.Turn "aside" 1 (XZ c) (fA (YY c.Turn 2 (Yz c)) (Zc (Za 5) Zk)) Zk) (fA ZQ Zk)))) sl st=some (.ok (.rt (.bl true),sl),om'):=by
 have hlim:=ZW
 have hN:=U0 n b
 have hgl:(WJ n p (mN n b)).length=mN n b:=by simp[WJ]
 obtain ⟨w1,w2⟩:=Da (sd:=sd) R h3 (ring:=b) (last:=b) id rfl
 have T:=BR (b:=b) (sd:=sd) R h3 hn
 have q2:=TB A
 rw[w1]at q2
 have q1:=Uv A
 rw[w2]at q1
 have e1:(mvL (t16 n p q b b) (f16 n q b sd)).map (pW 0)=(YT ((WJ n p (mN n b)).map (·.1))).map Wv.int:=by
  rw[← GY (sd:=sd) R h3,List.map_map]
  refine List.map_congr_left fun k _=>?_
  show Wv.int (((0:Nat):Int)+(k:Int))=Wv.int (k:Int)
  rw[z0]
 rw[e1]at q1
 have c1:fB (f2 kNe (fA (kN 1 (YO c)) (Zc (Za 5) Zk)) (fA ZQ Zk)) sl st=some (.ok false,st):=Z9 ((ZC ((ZI (Ze (Zb v5) Zj)).trans ((YF rfl).trans q2)) ((ZI Zj).trans (Tj (by simp)))).trans (VP (Ks st []) (Ks st []) (VH []) true))
 have hsl:(YT ((WJ n p (mN n b)).map (·.1))).length=mN n b:=by rw[(Yv _).length_eq,List.length_map,hgl]
 have k1:fA (YU ZQ) (Zc (Yc ZQ [] (fun sl=>bnd ((Za 7) sl) ZL) XC (SR c)) Zk) sl st=some (.ok (.lst ((YT ((WJ n p (mN n b)).map (·.1))).map Wv.int)),st):=by
  have cm:Yc ZQ [] (fun sl=>bnd ((Za 7) sl) ZL) XC (SR c) sl st=some (.ok (.lst (((WJ n p (mN n b)).map (·.1)).map Wv.int)),st):=by
   refine (Wg (ws:=(WJ n p (mN n b)).map prW) (om1:=st) ((Zo (Zb v7)).trans rfl) (by rw[List.length_map]; omega) (Yh prW (fun _=>true) (fun x=>Wv.int x.1) (fun _ _=>rfl) (fun x hx _=>(ZC (Zb rfl) ZD).trans (YH (k:=0) rfl rfl)))).trans ?_
   rw[List.filter_eq_self.mpr (fun _ _=>rfl),List.map_map]
   exact Yq (by rw[List.length_map]; omega)
  refine (ZI (Ze cm Zj)).trans ?_
  have hx:((WJ n p (mN n b)).map (·.1)).length < 64:=by rw[List.length_map]; omega
  show (match XQ (((WJ n p (mN n b)).map (·.1)).map Wv.int) with|some ns=>if ns.length < 64 then ZQ ((YT ns).map Wv.int) st else none|none=>none)=_
  rw[W9]
  dsimp only
  rw[if_pos hx]
  exact Yq (by rw[List.length_map,hsl]; omega)
 have c2:fB (f2 kNe (fA (kN 1 (g_settled c)) (Zc (Za 5) Zk)) (fA (YU ZQ) (Zc (Yc ZQ [] (fun sl=>bnd ((Za 7) sl) ZL) XC (SR c)) Zk))) sl st=some (.ok false,st):=Z9 ((ZC ((ZI (Ze (Zb v5) Zj)).trans ((YF rfl).trans q1)) k1).trans (VP (Ks st _) (Ks st _) (VH _) true))
 have t1:=L5 A T
 rw[IT R h3]at t1
 have mk1:=(ZI (k:=YY c.Turn 2 (Yz c)) (Ze (Zb (om:=st) v5) Zj)).trans t1
 generalize hl1:[tOf c st.length (clL (t16 n p q b b) (f16 n q b sd) (gg n p q) (mvL (t16 n p q b b) (f16 n q b sd))),.dk (Zp (goP (gg n p q) (mvL (t16 n p q b b) (f16 n q b sd)))),.dk (Zp (coP (gg n p q) (mvL (t16 n p q b b) (f16 n q b sd)))),.dk (Zp (unP (f16 n q b sd) [])),YA c 1 (st.length+5),.dk (Zp (gnP (f16 n q b sd) (gg n p q) (Vv (f16 n q b sd) (mvL (t16 n p q b b) (f16 n q b sd)))++unP (f16 n q b sd) (kept (f16 n q b sd) (gg n p q) (mvL (t16 n p q b b) (f16 n q b sd)))))]=l1 at mk1
 have i0:(st++l1)[st.length]?=some (tOf c st.length (clL (t16 n p q b b) (f16 n q b sd) (gg n p q) (mvL (t16 n p q b b) (f16 n q b sd)))):=by rw[← hl1]; exact Yb st _ 0
 have i1:(st++l1)[st.length+1]?=some (.dk (Zp (goP (gg n p q) (mvL (t16 n p q b b) (f16 n q b sd))))):=by rw[← hl1]; exact Yb st _ 1
 have hml:=Wr (t16 n p q b b) (f16 n q b sd)
 rw[Y5]at hml
 have d1:=FK (c:=c) i0 i1 (by rw[List.length_map]; omega)
 rw[FL R h3]at d1
 have hps:(YS (WJ n p (mN n b))).length=mN n b:=by rw[(Yj _).length_eq,hgl]
 have k2:∀om,fA (XO ZQ) (Zc (Za 7) Zk) sl om=some (.ok (.lst ((YS (WJ n p (mN n b))).map prW)),om):=fun om=>by
  refine (ZI (Ze (Zb v7) Zj)).trans ?_
  unfold XO
  dsimp only
  rw[O5]
  dsimp only
  rw[if_pos (by omega)]
  exact Yq (by rw[List.length_map]; omega)
 have r1:f2 kEq (Zq c.Turn "done" 1 (XJ c) (fA (YY c.Turn 2 (Yz c)) (Zc (Za 5) Zk)) Zk) (fA (XO ZQ) (Zc (Za 7) Zk)) sl st=some (.ok (.bl true),st++l1):=(ZC ((Zy mk1 (Zz i0) (Kr ..) Zj rfl).trans d1) (k2 _)).trans (VP (IS _ _) (IS _ _) (Il _) false)
 have A2:=A.grow l1
 generalize st++l1=st2 at r1 A2
 have t2:=L5 A2 T
 rw[IT R h3]at t2
 have mk2:=(ZI (k:=YY c.Turn 2 (Yz c)) (Ze (Zb (om:=st2) v5) Zj)).trans t2
 have d2:=HZ (c:=c) (v:=fun _=>0) (Yb st2 [tOf c st2.length (clL (t16 n p q b b) (f16 n q b sd) (gg n p q) (mvL (t16 n p q b b) (f16 n q b sd))),.dk (Zp (goP (gg n p q) (mvL (t16 n p q b b) (f16 n q b sd)))),.dk (Zp (coP (gg n p q) (mvL (t16 n p q b b) (f16 n q b sd)))),.dk (Zp (unP (f16 n q b sd) [])),YA c 1 (st2.length+5),.dk (Zp (gnP (f16 n q b sd) (gg n p q) (Vv (f16 n q b sd) (mvL (t16 n p q b b) (f16 n q b sd)))++unP (f16 n q b sd) (kept (f16 n q b sd) (gg n p q) (mvL (t16 n p q b b) (f16 n q b sd)))))] 0) (us:=unP (f16 n q b sd) []) (co:=coP (gg n p q) (mvL (t16 n p q b b) (f16 n q b sd))) (Yb st2 _ 3) (Yb st2 _ 2) (by simp) (by simp) (by simp)
 refine ⟨_,(Zh (Z3 ((Gg c1).trans c2))).trans (Zv ((U2 r1).trans ((ZC ((Zy mk2 (Zz (Yb st2 _ 0)) (Li ..) Zj rfl).trans d2) ((ZI Zj).trans (Tj (by simp)))).trans (VP (d:=.list []) rfl rfl (VH []) false))))⟩
theorem Dq (R:Rw n p q) (h3:3<=n) (hn:n<=24) (A:Sit c st 5 3 1 4 2 6 n 0 (f16 n q true sd) kvs gs (r16 n q false) (t16 n p q false true)) (v5:sl[5]?=some (some (.o 5))) (v6:sl[6]?=some (some (.lst (((List.range (n - 1)).map fun j=>(((j:Nat):Int)+1,p (n - 2 - j),(3:Int))).map (r3W 0))))) :
    Ym (X7 (f2 kEq (fA (kN 1 (g_settled c)) (Zc (Za 5) Zk)) (fA ZQ Zk)) (f2 kEq (fA (kN 1 (YO c)) (Zc (Za 5) Zk)) (Za 6))) sl st=some (.ok (.rt (.bl true),sl),st):=by
 obtain ⟨w1,w2⟩:=Dz (sd:=sd) R h3 (by omega)
 have q2:=TB A
 rw[w1]at q2
 have q1:=Uv A
 rw[w2]at q1
 exact Zv ((U2 ((ZC ((ZI (Ze (Zb v5) Zj)).trans ((YF rfl).trans q1)) ((ZI Zj).trans (Tj (by simp)))).trans (VP (Ks st []) (Ks st []) (VH []) false))).trans ((ZC ((ZI (Ze (Zb v5) Zj)).trans ((YF rfl).trans q2)) (Zb v6)).trans (VP (EA 0 st _) (EA 0 st _) (P1 0 _) false)))
end
open PySem L2
abbrev YZ (ns:List Int) (x1 x2 x3 x4 x5 x6 x7:Option Wv):Sl:=[some (XV ns),x1,x2,x3,x4,x5,x6,x7]
theorem HB (c:CA) (ns:List Int):∃om,Hk c [XV ns] []=some (.ok (.bl true),om):=by
 have hlim:=ZW
 have cl:∀(om:List Ob) (sl:Sl) (k:Nat),sl[0]?=some (some (XV ns))->fA (kN 2 (g__law_cell_at c)) (Zc (Za 0) (Zc (fC (.int (k:Nat))) Zk)) sl om=some (.ok (.int (ns.getD k 0)),om):=fun om sl k h=>MO c (om:=om) (ns:=ns) (k:=k) (i:=0) (fe:=fC (.int (k:Nat))) h ZD
 generalize hc0:ns.getD 0 0=c0
 generalize hc1:ns.getD 1 0=c1
 obtain ⟨m,hm3,hm24,a12⟩:∃m:Nat,3<=m∧m<=24∧∀S:FS,ZE (ZO 1 (f2 XD (fC (.int 3)) (f2 XS (fA (kN 2 (g__law_cell_at c)) (Zc (Za 0) (Zc (fC (.int 0)) Zk))) (fC (.int 5))))) (ZE (sIf (fB (f2 kEq (f2 XS (f2 Sw (fA (kN 2 (g__law_cell_at c)) (Zc (Za 0) (Zc (fC (.int 0)) Zk))) (fC (.int 5))) (fC (.int 4))) (fC (.int 1)))) (ZO 1 (f2 XD (fC (.int 3)) (f2 XS (f2 Sw (fA (kN 2 (g__law_cell_at c)) (Zc (Za 0) (Zc (fC (.int 0)) Zk))) (fC (.int 20))) (fC (.int 22))))) Y8) S) (YZ ns none none none none none none none) []=S (YZ ns (some (.int (m:Nat))) none none none none none none) []:=by
  have b1:ZO 1 (f2 XD (fC (.int 3)) (f2 XS (fA (kN 2 (g__law_cell_at c)) (Zc (Za 0) (Zc (fC (.int 0)) Zk))) (fC (.int 5)))) (YZ ns none none none none none none none) []=some (.ok (.nx,YZ ns (some (.int (3+c0 % 5))) none none none none none none),[]):=by
   have:=R0 (om:=[]) (q:=5) (cl [] (YZ ns none none none none none none none) 0 rfl) (by decide)
   rw[hc0]at this
   exact ZB (i:=1) ((ZC ZD this).trans rfl)
  have b2:fB (f2 kEq (f2 XS (f2 Sw (fA (kN 2 (g__law_cell_at c)) (Zc (Za 0) (Zc (fC (.int 0)) Zk))) (fC (.int 5))) (fC (.int 4))) (fC (.int 1))) (YZ ns (some (.int (3+c0 % 5))) none none none none none none) []=some (.ok (decide (c0 / 5 % 4=1)),[]):=by
   have:=R0 (om:=[]) (q:=4) (Kj (om:=[]) (q:=5) (cl [] (YZ ns (some (.int (3+c0 % 5))) none none none none none none) 0 rfl) (by decide)) (by decide)
   rw[hc0]at this
   exact Z9 ((ZC this ZD).trans (WH _ 1 _))
  by_cases hz:c0 / 5 % 4=1
  ·rw[decide_eq_true hz]at b2
   have b3:ZO 1 (f2 XD (fC (.int 3)) (f2 XS (f2 Sw (fA (kN 2 (g__law_cell_at c)) (Zc (Za 0) (Zc (fC (.int 0)) Zk))) (fC (.int 20))) (fC (.int 22)))) (YZ ns (some (.int (3+c0 % 5))) none none none none none none) []=some (.ok (.nx,YZ ns (some (.int (3+c0 / 20 % 22))) none none none none none none),[]):=by
    have:=R0 (om:=[]) (q:=22) (Kj (om:=[]) (q:=20) (cl [] (YZ ns (some (.int (3+c0 % 5))) none none none none none none) 0 rfl) (by decide)) (by decide)
    rw[hc0]at this
    exact ZB (i:=1) ((ZC ZD this).trans rfl)
   refine ⟨(3+c0 / 20 % 22).toNat,by omega,by omega,fun S=>(Zh b1).trans ((Zh ((Y1 b2).trans b3)).trans ?_)⟩
   rw[show (((3+c0 / 20 % 22).toNat:Nat):Int)=3+c0 / 20 % 22 by omega]
  ·rw[decide_eq_false hz]at b2
   refine ⟨(3+c0 % 5).toNat,by omega,by omega,fun S=>(Zh b1).trans ((Zh (Z3 b2)).trans ?_)⟩
   rw[show (((3+c0 % 5).toNat:Nat):Int)=3+c0 % 5 by omega]
 obtain ⟨w,hw⟩:∃w,c1 % 3=w:=⟨_,rfl⟩
 have hw0:0<=w∧w<=2:=by omega
 have a3:ZO 2 (f2 XS (fA (kN 2 (g__law_cell_at c)) (Zc (Za 0) (Zc (fC (.int 1)) Zk))) (fC (.int 3))) (YZ ns (some (.int (m:Nat))) none none none none none none) []=some (.ok (.nx,YZ ns (some (.int (m:Nat))) (some (.int w)) none none none none none),[]):=by
  have:=R0 (om:=[]) (q:=3) (cl [] (YZ ns (some (.int (m:Nat))) none none none none none none) 1 rfl) (by decide)
  rw[hc1,hw]at this
  exact ZB (i:=2) this
 have w1:∀(x:Wv) (st:List Ob) (x3 x4 x5 x6 x7:Option Wv),fB (f2 kEq (Za 2) (fC (.int 1))) (YZ ns (some x) (some (.int w)) x3 x4 x5 x6 x7) st=some (.ok (decide (w=1)),st):=fun x st x3 x4 x5 x6 x7=>Z9 ((ZC (Zb rfl) ZD).trans (WH _ 1 _))
 obtain ⟨n,h3,hn,a4⟩:∃n:Nat,3<=n∧n<=24∧sIf (fB (f2 kEq (Za 2) (fC (.int 1)))) (ZO 1 (fA Ny (Zc (Za 1) (Zc (fC (.int 17)) Zk)))) Y8 (YZ ns (some (.int (m:Nat))) (some (.int w)) none none none none none) []=some (.ok (.nx,YZ ns (some (.int (n:Nat))) (some (.int w)) none none none none none),[]):=by
  have cc:=w1 (.int (m:Nat)) [] none none none none none
  by_cases hz:w=1
  ·rw[decide_eq_true hz]at cc
   have e:fA Ny (Zc (Za 1) (Zc (fC (.int 17)) Zk)) (YZ ns (some (.int (m:Nat))) (some (.int w)) none none none none none) []=some (.ok (.int (if (17:Int) < (m:Int) then 17 else (m:Int))),[]):=(ZI (Ze (Zb rfl) (Ze ZD Zj))).trans rfl
   by_cases h17:(17:Int) < (m:Int)
   ·rw[if_pos h17]at e
    exact ⟨17,by omega,by omega,(Y1 cc).trans (ZB (i:=1) e)⟩
   ·rw[if_neg h17]at e
    exact ⟨m,hm3,hm24,(Y1 cc).trans (ZB (i:=1) e)⟩
  ·rw[decide_eq_false hz]at cc
   exact ⟨m,hm3,hm24,Z3 cc⟩
 obtain ⟨p,q,R,pl⟩:=KZ (c:=c) (ns:=ns) h3 hn
 have a5:ZO 3 (fA (kN 2 (g__law_places c)) (Zc (Za 0) (Zc (Za 1) Zk))) (YZ ns (some (.int (n:Nat))) (some (.int w)) none none none none none) []=some (.ok (.nx,YZ ns (some (.int (n:Nat))) (some (.int w)) (some (.o 0)) none none none none),[.lst (Yn n p)]):=ZB (i:=3) ((ZI (Ze (Zb rfl) (Ze (Zb rfl) Zj))).trans ((YF rfl).trans pl))
 obtain ⟨step,hst⟩:∃step,c1 / 3 % 8=step:=⟨_,rfl⟩
 have hs0:0<=step∧step<=7:=by omega
 have a6:ZO 4 (f2 XS (f2 Sw (fA (kN 2 (g__law_cell_at c)) (Zc (Za 0) (Zc (fC (.int 1)) Zk))) (fC (.int 3))) (fC (.int 8))) (YZ ns (some (.int (n:Nat))) (some (.int w)) (some (.o 0)) none none none none) [.lst (Yn n p)]=some (.ok (.nx,YZ ns (some (.int (n:Nat))) (some (.int w)) (some (.o 0)) (some (.int step)) none none none),[.lst (Yn n p)]):=by
  have:=R0 (om:=[.lst (Yn n p)]) (q:=8) (Kj (om:=[.lst (Yn n p)]) (q:=3) (cl [.lst (Yn n p)] (YZ ns (some (.int (n:Nat))) (some (.int w)) (some (.o 0)) none none none none) 1 rfl) (by decide)) (by decide)
  rw[hc1,hst]at this
  exact ZB (i:=4) this
 have wr:∀(st:List Ob) (x4 x5 x6 x7:Option Wv),f2 kEq (Za 2) (fC (.int 0)) (YZ ns (some (.int (n:Nat))) (some (.int w)) (some (.o 0)) x4 x5 x6 x7) st=some (.ok (.bl (decide (w=0))),st):=fun st x4 x5 x6 x7=>(ZC (Zb rfl) ZD).trans (WH _ 0 _)
 have wl:∀st:List Ob,f2 kLt (Za 2) (fC (.int 2)) (YZ ns (some (.int (n:Nat))) (some (.int w)) (some (.o 0)) (some (.int step)) none none none) st=some (.ok (.bl (decide (w < 2))),st):=fun st=>(ZC (Zb rfl) ZD).trans rfl
 obtain ⟨kvs,gs,os,A⟩:=JA (c:=c) R h3 hn (decide (w=0)) (decide (w < 2)) (fun h=>decide_eq_true (by have:=of_decide_eq_true h; omega)) hs0
 generalize hst16:Vq c n p kvs (YD p (XY step) (mN n (decide (w < 2)))) gs=st at os A
 have h0:Xs st (.o 0)=some (Yn n p):=by rw[← hst16]; rfl
 have a7:ZO 5 (fA (kN 4 (g__law_orders_on c)) (Zc (Za 3) (Zc (f2 kEq (Za 2) (fC (.int 0))) (Zc (f2 kLt (Za 2) (fC (.int 2))) (Zc (Za 4) Zk))))) (YZ ns (some (.int (n:Nat))) (some (.int w)) (some (.o 0)) (some (.int step)) none none none) [.lst (Yn n p)]=some (.ok (.nx,YZ ns (some (.int (n:Nat))) (some (.int w)) (some (.o 0)) (some (.int step)) (some (.o 5)) none none),st):=ZB (i:=5) ((ZI (Ze (Zb rfl) (Ze (wr _ _ _ _ _) (Ze (wl _) (Ze (Zb rfl) Zj))))).trans ((YF rfl).trans os))
 have cc:=w1 (.int (n:Nat)) st (some (.o 0)) (some (.int step)) (some (.o 5)) none none
 by_cases hz:w=1
 ·rw[decide_eq_true hz]at cc
  rw[decide_eq_false (show ¬ w=0 by omega),decide_eq_true (show w < 2 by omega)]at A
  have a8:ZO 6 (Yc ZQ [1,3] (fun sl=>bnd ((f2 Wq (Za 1) (fC (.int 1))) sl) Wn) XC (Mj c)) (YZ ns (some (.int (n:Nat))) (some (.int w)) (some (.o 0)) (some (.int step)) (some (.o 5)) none none) st=some (.ok (.nx,YZ ns (some (.int (n:Nat))) (some (.int w)) (some (.o 0)) (some (.int step)) (some (.o 5)) (some (.lst (((List.range (n - 1)).map fun j=>(((j:Nat):Int)+1,p (n - 2 - j),(3:Int))).map (r3W 0)))) none),st):=by
   have cr:=Rj (cT:=XC) (f:=Mj c) (mk:=fun w'=>Xa [1,3] w' (YZ ns (some (.int (n:Nat))) (some (.int w)) (some (.o 0)) (some (.int step)) (some (.o 5)) none none)) (om:=st) (n:=n - 1) (fun _=>true) (fun k=>r3W 0 (((k:Nat):Int)+1,p (n - 2 - k),(3:Int))) (fun k hk=>rfl) (fun k hk _=>by
    have ix:f2 Wq (f2 Wq (Za 1) (fC (.int 2))) (Za 0) (Xa [1,3] (.int (k:Nat)) (YZ ns (some (.int (n:Nat))) (some (.int w)) (some (.o 0)) (some (.int step)) (some (.o 5)) none none)) st=some (.ok (.int ((n - 2 - k:Nat):Int)),st):=(ZC ((ZC (Zb rfl) ZD).trans rfl) (Zb rfl)).trans (by
     show some (Except.ok (Wv.int ((n:Int) - 2 - (k:Int))),st)=_
     rw[show ((n:Int) - 2 - (k:Int))=((n - 2 - k:Nat):Int) by omega])
    refine (ZI (Ze ((ZC (Zb rfl) ZD).trans rfl) (Ze (Sx h0 rfl (by omega) ix) (Ze ZD Zj)))).trans ((Vp (by simp)).trans ?_)
    show _=some (Except.ok (Wv.tup [.int (((k:Nat):Int)+1),.int (((0:Nat):Int)+((p (n - 2 - k):Nat):Int)),.int 3]),st)
    rw[z0])
   refine ZB (i:=6) ((Wg (ws:=W7 (n - 1)) (om1:=st) (MV rfl (by omega) (by omega)) (by rw[Rl]; omega) cr).trans ?_)
   rw[List.filter_eq_self.mpr (fun _ _=>rfl),List.map_map]
   exact Yq (by rw[List.length_map,List.length_range]; omega)
  have e9:=Dq (c:=c) (sl:=YZ ns (some (.int (n:Nat))) (some (.int w)) (some (.o 0)) (some (.int step)) (some (.o 5)) (some (.lst (((List.range (n - 1)).map fun j=>(((j:Nat):Int)+1,p (n - 2 - j),(3:Int))).map (r3W 0)))) none) R h3 hn A rfl rfl
  exact ⟨_,ZH ((a12 _).trans ((Zh a3).trans ((Zh a4).trans ((Zh a5).trans ((Zh a6).trans ((Zh a7).trans (YI ((Y1 cc).trans ((Zh a8).trans e9)))))))))⟩
 ·rw[decide_eq_false hz]at cc
  have hb:decide (w < 2)=decide (w=0):=by
   by_cases z:w=0
   ·rw[decide_eq_true z,decide_eq_true (by omega)]
   ·rw[decide_eq_false z,decide_eq_false (by omega)]
  rw[hb]at A
  have wr':=wr st (some (.int step)) (some (.o 5)) none none
  generalize decide (w=0)=b at A wr'
  have hN:=U0 n b
  have a9:ZO 7 (Yc ZQ [1,3] (fun sl=>bnd ((f2 XD (f2 Wq (Za 1) (fC (.int 1))) (fA Qg (Zc (f2 kEq (Za 2) (fC (.int 0))) Zk))) sl) Wn) XC (M0 c)) (YZ ns (some (.int (n:Nat))) (some (.int w)) (some (.o 0)) (some (.int step)) (some (.o 5)) none none) st=some (.ok (.nx,YZ ns (some (.int (n:Nat))) (some (.int w)) (some (.o 0)) (some (.int step)) (some (.o 5)) none (some (.lst ((WJ n p (mN n b)).map prW)))),st):=by
   have cr:=Rj (cT:=XC) (f:=M0 c) (mk:=fun w'=>Xa [1,3] w' (YZ ns (some (.int (n:Nat))) (some (.int w)) (some (.o 0)) (some (.int step)) (some (.o 5)) none none)) (om:=st) (n:=mN n b) (fun _=>true) (fun k=>prW (((p k:Nat):Int),((p ((k+1) % n):Nat):Int))) (fun k hk=>rfl) (fun k hk _=>by
    have ix:f2 XS (f2 XD (Za 0) (fC (.int 1))) (Za 1) (Xa [1,3] (.int (k:Nat)) (YZ ns (some (.int (n:Nat))) (some (.int w)) (some (.o 0)) (some (.int step)) (some (.o 5)) none none)) st=some (.ok (.int (((k+1) % n:Nat):Int)),st):=Lx (q:=(n:Int)) (MJ rfl) (Zb rfl) (by omega)
    exact (ZI (Ze (Sx h0 rfl (by omega) (Zb rfl)) (Ze (Sx h0 rfl (VB h3 k) ix) Zj))).trans (Vp (by simp)))
   refine ZB (i:=7) ((Wg (ws:=W7 (mN n b)) (om1:=st) (IC rfl wr' (by omega) (by omega)) (by rw[Rl]; omega) cr).trans ?_)
   rw[List.filter_eq_self.mpr (fun _ _=>rfl),WJ,List.map_map]
   exact Yq (by rw[List.length_map,List.length_range]; omega)
  obtain ⟨om',e9⟩:=DV (c:=c) (sl:=YZ ns (some (.int (n:Nat))) (some (.int w)) (some (.o 0)) (some (.int step)) (some (.o 5)) none (some (.lst ((WJ n p (mN n b)).map prW)))) R h3 hn A rfl rfl
  exact ⟨_,ZH ((a12 _).trans ((Zh a3).trans ((Zh a4).trans ((Zh a5).trans ((Zh a6).trans ((Zh a7).trans ((Zh (Z3 cc)).trans ((Zh a9).trans e9))))))))⟩
open PySem L2 PyProof.Rows
theorem Ma:bootBuiltins "int"=some (.type "int"):=by decide +kernel
theorem NT:bootBuiltins "any"=some (.builtin "any"):=by decide +kernel
theorem IR:bootBuiltins "min"=some (.builtin "min"):=by decide +kernel
theorem C7:FnScope ["script","k"] ["script","k"] (Zg Kq):=⟨rfl,rfl,rfl,by decide +kernel,rfl,by decide +kernel,by decide +kernel⟩
theorem Aa:FnScope ["script","many","first","row"] ["script","many"] (Zg KF):=⟨rfl,rfl,rfl,by decide +kernel,rfl,by decide +kernel,by decide +kernel⟩
theorem Bn:FnScope ["self","size"] ["self","size"] (Zg KJ):=⟨rfl,rfl,rfl,by decide +kernel,rfl,by decide +kernel,by decide +kernel⟩
theorem Ao:FnScope ["self","at"] ["self","at"] (Zg Jr):=⟨rfl,rfl,rfl,by decide +kernel,rfl,by decide +kernel,by decide +kernel⟩
theorem Ak:FnScope ["self","a","b"] ["self","a","b"] (Zg KU):=⟨rfl,rfl,rfl,by decide +kernel,rfl,by decide +kernel,by decide +kernel⟩
theorem BC:FnScope ["self","chart"] ["self","chart"] (Zg K3):=⟨rfl,rfl,rfl,by decide +kernel,rfl,by decide +kernel,by decide +kernel⟩
theorem Bv:FnScope ["self","at","side"] ["self","at","side"] (Zg Ku):=⟨rfl,rfl,rfl,by decide +kernel,rfl,by decide +kernel,by decide +kernel⟩
theorem Al:FnScope ["self","board"] ["self","board"] (Zg Ky):=⟨rfl,rfl,rfl,by decide +kernel,rfl,by decide +kernel,by decide +kernel⟩
theorem Bt:FnScope ["self","at"] ["self","at"] (Zg JJ):=⟨rfl,rfl,rfl,by decide +kernel,rfl,by decide +kernel,by decide +kernel⟩
theorem Am:FnScope ["self","at"] ["self","at"] (Zg Jw):=⟨rfl,rfl,rfl,by decide +kernel,rfl,by decide +kernel,by decide +kernel⟩
theorem EH:FnScope ["self","places","units","at"] ["self","places","units"] (Zg QC):=⟨rfl,rfl,rfl,by decide +kernel,rfl,by decide +kernel,by decide +kernel⟩
theorem EI:FnScope ["self","a","b"] ["self","a","b"] (Zg Pe):=⟨rfl,rfl,rfl,by decide +kernel,rfl,by decide +kernel,by decide +kernel⟩
theorem Db:FnScope ["self","at","goal"] ["self","at","goal"] (Zg Q7):=⟨rfl,rfl,rfl,by decide +kernel,rfl,by decide +kernel,by decide +kernel⟩
theorem EV:FnScope ["self","at","goal"] ["self","at","goal"] (Zg QH):=⟨rfl,rfl,rfl,by decide +kernel,rfl,by decide +kernel,by decide +kernel⟩
theorem E3:FnScope ["row","ring","last","step","many","chart","k","board","orders"] ["row","ring","last","step"] (Zg Qz):=⟨rfl,rfl,rfl,by decide +kernel,rfl,by decide +kernel,by decide +kernel⟩
theorem Dc:FnScope ["self","at","order"] ["self","at"] (Zg Q1):=⟨rfl,rfl,rfl,by decide +kernel,rfl,by decide +kernel,by decide +kernel⟩
theorem Ej:FnScope ["self"] ["self"] (Zg QQ):=⟨rfl,rfl,rfl,by decide +kernel,rfl,by decide +kernel,by decide +kernel⟩
theorem Dh:FnScope ["self"] ["self"] (Zg Pq):=⟨rfl,rfl,rfl,by decide +kernel,rfl,by decide +kernel,by decide +kernel⟩
theorem EL:FnScope ["self","at"] ["self","at"] (Zg Pg):=⟨rfl,rfl,rfl,by decide +kernel,rfl,by decide +kernel,by decide +kernel⟩
theorem EM:FnScope ["orders","at","order","own","comers"] ["orders","at"] (Zg QJ):=⟨rfl,rfl,rfl,by decide +kernel,rfl,by decide +kernel,by decide +kernel⟩
theorem Ez:FnScope ["orders","helped","goal"] ["orders","helped","goal"] (Zg Pb):=⟨rfl,rfl,rfl,by decide +kernel,rfl,by decide +kernel,by decide +kernel⟩
theorem EQ:FnScope ["orders","at","order"] ["orders","at"] (Zg Po):=⟨rfl,rfl,rfl,by decide +kernel,rfl,by decide +kernel,by decide +kernel⟩
theorem EU:FnScope ["orders","helper","at","order"] ["orders","helper","at"] (Zg Pl):=⟨rfl,rfl,rfl,by decide +kernel,rfl,by decide +kernel,by decide +kernel⟩
theorem Ep:FnScope ["orders","at"] ["orders","at"] (Zg QK):=⟨rfl,rfl,rfl,by decide +kernel,rfl,by decide +kernel,by decide +kernel⟩
theorem EF:FnScope ["orders","at"] ["orders","at"] (Zg QV):=⟨rfl,rfl,rfl,by decide +kernel,rfl,by decide +kernel,by decide +kernel⟩
theorem EB:FnScope ["orders","forces","at"] ["orders"] (Zg QD):=⟨rfl,rfl,rfl,by decide +kernel,rfl,by decide +kernel,by decide +kernel⟩
theorem Em:FnScope ["orders","forces","at","goal","rivals"] ["orders","forces","at"] (Zg Qw):=⟨rfl,rfl,rfl,by decide +kernel,rfl,by decide +kernel,by decide +kernel⟩
theorem EW:FnScope ["orders","at","side"] ["orders","at","side"] (Zg Q9):=⟨rfl,rfl,rfl,by decide +kernel,rfl,by decide +kernel,by decide +kernel⟩
theorem Ey:FnScope ["orders","at","goal","strength","side"] ["orders","at","goal","strength"] (Zg Py):=⟨rfl,rfl,rfl,by decide +kernel,rfl,by decide +kernel,by decide +kernel⟩
theorem Ew:FnScope ["orders","at"] ["orders","at"] (Zg QA):=⟨rfl,rfl,rfl,by decide +kernel,rfl,by decide +kernel,by decide +kernel⟩
theorem El:FnScope ["orders","forces","at","goal"] ["orders","forces","at"] (Zg Q3):=⟨rfl,rfl,rfl,by decide +kernel,rfl,by decide +kernel,by decide +kernel⟩
theorem E5:FnScope ["orders","forces","found","at"] ["orders"] (Zg QF):=⟨rfl,rfl,rfl,by decide +kernel,rfl,by decide +kernel,by decide +kernel⟩
theorem EY:FnScope ["orders","found","at","places"] ["orders","found","at","places"] (Zg QR):=⟨rfl,rfl,rfl,by decide +kernel,rfl,by decide +kernel,by decide +kernel⟩
theorem EZ:FnScope ["orders","found","left","struck","count","faults","fallen"] ["orders"] (Zg QX):=⟨rfl,rfl,rfl,by decide +kernel,rfl,by decide +kernel,by decide +kernel⟩
theorem ER:FnScope ["orders","struck"] ["orders"] (Zg Pk):=⟨rfl,rfl,rfl,by decide +kernel,rfl,by decide +kernel,by decide +kernel⟩
theorem Er:FnScope ["self"] ["self"] (Zg QL):=⟨rfl,rfl,rfl,by decide +kernel,rfl,by decide +kernel,by decide +kernel⟩
theorem ES:FnScope ["board","goals","comers","moved","stayed"] ["board","goals","comers"] (Zg Pw):=⟨rfl,rfl,rfl,by decide +kernel,rfl,by decide +kernel,by decide +kernel⟩
theorem EG:FnScope ["chart","units","board","at","side"] ["chart","units"] (Zg QT):=⟨rfl,rfl,rfl,by decide +kernel,rfl,by decide +kernel,by decide +kernel⟩
theorem Eg:FnScope ["self","orders","at","side","wanted"] ["self","orders"] (Zg QU):=⟨rfl,rfl,rfl,by decide +kernel,rfl,by decide +kernel,by decide +kernel⟩
theorem EO:FnScope ["self"] ["self"] (Zg Ps):=⟨rfl,rfl,rfl,by decide +kernel,rfl,by decide +kernel,by decide +kernel⟩
theorem Ek:FnScope ["script","many","way","row","step","orders","due","goals"] ["script"] (Zg Pf):=⟨rfl,rfl,rfl,by decide +kernel,rfl,by decide +kernel,by decide +kernel⟩
structure Ad where
 f_0:Addr
 d_0:FuncData
 f_1:Addr
 d_1:FuncData
 f_2:Addr
 d_2:FuncData
 f_3:Addr
 d_3:FuncData
 f_4:Addr
 d_4:FuncData
 f_5:Addr
 d_5:FuncData
 f_6:Addr
 d_6:FuncData
 f_7:Addr
 d_7:FuncData
 f_8:Addr
 d_8:FuncData
 f_9:Addr
 d_9:FuncData
 f_10:Addr
 d_10:FuncData
 f_11:Addr
 d_11:FuncData
 f_12:Addr
 d_12:FuncData
 f_13:Addr
 d_13:FuncData
 f_14:Addr
 d_14:FuncData
 f_15:Addr
 d_15:FuncData
 f_16:Addr
 d_16:FuncData
 f_17:Addr
 d_17:FuncData
 f_18:Addr
 d_18:FuncData
 f_19:Addr
 d_19:FuncData
 f_20:Addr
 d_20:FuncData
 f_21:Addr
 d_21:FuncData
 f_22:Addr
 d_22:FuncData
 f_23:Addr
 d_23:FuncData
 f_24:Addr
 d_24:FuncData
 f_25:Addr
 d_25:FuncData
 f_26:Addr
 d_26:FuncData
 f_27:Addr
 d_27:FuncData
 f_28:Addr
 d_28:FuncData
 f_29:Addr
 d_29:FuncData
 f_30:Addr
 d_30:FuncData
 f_31:Addr
 d_31:FuncData
 f_32:Addr
 d_32:FuncData
 f_33:Addr
 d_33:FuncData
 f_34:Addr
 d_34:FuncData
 f_35:Addr
 d_35:FuncData
 f_36:Addr
 d_36:FuncData
 f_37:Addr
 d_37:FuncData
 f_38:Addr
 d_38:FuncData
 f_39:Addr
 d_39:FuncData
 f_40:Addr
 d_40:FuncData
structure All (K:W.Frag) (mg:Str->Option Value) (c:CA) (a:Ad):Prop where
 cl_Board:Cls K c.Board
 cl_Map:Cls K c.Map
 cl_Orders:Cls K c.Orders
 cl_Turn:Cls K c.Turn
 na_Board_chart:NoAttr K c.Board "chart"
 na_Board_units:NoAttr K c.Board "units"
 na_Map_links:NoAttr K c.Map "links"
 na_Map_size:NoAttr K c.Map "size"
 na_Orders_board:NoAttr K c.Orders "board"
 na_Orders_given:NoAttr K c.Orders "given"
 na_Turn_board:NoAttr K c.Turn "board"
 na_Turn_closed:NoAttr K c.Turn "closed"
 na_Turn_comers:NoAttr K c.Turn "comers"
 na_Turn_goals:NoAttr K c.Turn "goals"
 na_Turn_pushed:NoAttr K c.Turn "pushed"
 mk_Board:Mk K c.Board a.f_5
 mk_Map:Mk K c.Map a.f_2
 mk_Orders:Mk K c.Orders a.f_7
 mk_Turn:Mk K c.Turn a.f_38
 c_Board:mg "Board"=some (.ref c.Board)
 c_Crowded:mg "Crowded"=some (.ref c.Crowded)
 c_FACED:∃t,mg "FACED"=some (.int 2 t)
 c_FREE:∃t,mg "FREE"=some (.int 0 t)
 c_HELD:∃t,mg "HELD"=some (.int 3 t)
 c_LAST_SIDE:∃t,mg "LAST_SIDE"=some (.int 7 t)
 c_Map:mg "Map"=some (.ref c.Map)
 c_NoPlace:mg "NoPlace"=some (.ref c.NoPlace)
 c_NoSide:mg "NoSide"=some (.ref c.NoSide)
 c_NoUnit:mg "NoUnit"=some (.ref c.NoUnit)
 c_Orders:mg "Orders"=some (.ref c.Orders)
 c_OutOfReach:mg "OutOfReach"=some (.ref c.OutOfReach)
 c_RIVAL:∃t,mg "RIVAL"=some (.int 1 t)
 c_Turn:mg "Turn"=some (.ref c.Turn)
 c_STAND:mg "STAND"=some (.ref c.STAND)
 gt_STAND:GTup K c.STAND
 x_Crowded:W.excIn K c.Crowded [.type "ValueError",.type "Exception",.type "BaseException",.type "object"] "ValueError.__new__"=true
 x_NoPlace:W.excIn K c.NoPlace [.type "ValueError",.type "Exception",.type "BaseException",.type "object"] "ValueError.__new__"=true
 x_NoSide:W.excIn K c.NoSide [.type "ValueError",.type "Exception",.type "BaseException",.type "object"] "ValueError.__new__"=true
 x_NoUnit:W.excIn K c.NoUnit [.type "ValueError",.type "Exception",.type "BaseException",.type "object"] "ValueError.__new__"=true
 x_OutOfReach:W.excIn K c.OutOfReach [.type "ValueError",.type "Exception",.type "BaseException",.type "object"] "ValueError.__new__"=true
 z_any:mg "any"=none
 z_int:mg "int"=none
 z_len:mg "len"=none
 z_min:mg "min"=none
 z_range:mg "range"=none
 z_set:mg "set"=none
 z_sorted:mg "sorted"=none
 F_0:Fun K "_law_cell_at" "_law_cell_at" Kq a.f_0 a.d_0
 b_0:Binds K a.d_0 ["script","k"] []
 g__law_cell_at:mg "_law_cell_at"=some (.ref a.f_0)
 k_0:W.keepIn K (.ref a.f_0)=true
 F_1:Fun K "_law_places" "_law_places" KF a.f_1 a.d_1
 b_1:Binds K a.d_1 ["script","many"] []
 g__law_places:mg "_law_places"=some (.ref a.f_1)
 k_1:W.keepIn K (.ref a.f_1)=true
 F_2:Fun K "__init__" "Map.__init__" KJ a.f_2 a.d_2
 b_2:Binds K a.d_2 ["self","size"] []
 F_3:Fun K "need_place" "Map.need_place" Jr a.f_3 a.d_3
 b_3:Binds K a.d_3 ["self","at"] []
 m_3:Meth K c.Map "need_place" a.f_3
 F_4:Fun K "link" "Map.link" KU a.f_4 a.d_4
 b_4:Binds K a.d_4 ["self","a","b"] []
 m_4:Meth K c.Map "link" a.f_4
 F_5:Fun K "__init__" "Board.__init__" K3 a.f_5 a.d_5
 b_5:Binds K a.d_5 ["self","chart"] []
 F_6:Fun K "post" "Board.post" Ku a.f_6 a.d_6
 b_6:Binds K a.d_6 ["self","at","side"] []
 m_6:Meth K c.Board "post" a.f_6
 F_7:Fun K "__init__" "Orders.__init__" Ky a.f_7 a.d_7
 b_7:Binds K a.d_7 ["self","board"] []
 F_8:Fun K "side_at" "Board.side_at" JJ a.f_8 a.d_8
 b_8:Binds K a.d_8 ["self","at"] []
 m_8:Meth K c.Board "side_at" a.f_8
 F_9:Fun K "need_unit" "Board.need_unit" Jw a.f_9 a.d_9
 b_9:Binds K a.d_9 ["self","at"] []
 m_9:Meth K c.Board "need_unit" a.f_9
 F_10:Fun K "need_all" "Orders.need_all" QC a.f_10 a.d_10
 b_10:Binds K a.d_10 ["self","places","units"] []
 m_10:Meth K c.Orders "need_all" a.f_10
 F_11:Fun K "beside" "Map.beside" Pe a.f_11 a.d_11
 b_11:Binds K a.d_11 ["self","a","b"] []
 m_11:Meth K c.Map "beside" a.f_11
 F_12:Fun K "need_beside" "Orders.need_beside" Q7 a.f_12 a.d_12
 b_12:Binds K a.d_12 ["self","at","goal"] []
 m_12:Meth K c.Orders "need_beside" a.f_12
 F_13:Fun K "move" "Orders.move" QH a.f_13 a.d_13
 b_13:Binds K a.d_13 ["self","at","goal"] []
 m_13:Meth K c.Orders "move" a.f_13
 F_14:Fun K "_law_orders_on" "_law_orders_on" Qz a.f_14 a.d_14
 b_14:Binds K a.d_14 ["row","ring","last","step"] []
 g__law_orders_on:mg "_law_orders_on"=some (.ref a.f_14)
 k_14:W.keepIn K (.ref a.f_14)=true
 F_15:Fun K "goal_of" "Orders.goal_of" Q1 a.f_15 a.d_15
 b_15:Binds K a.d_15 ["self","at"] []
 m_15:Meth K c.Orders "goal_of" a.f_15
 F_16:Fun K "movers" "Orders.movers" QQ a.f_16 a.d_16
 b_16:Binds K a.d_16 ["self"] []
 m_16:Meth K c.Orders "movers" a.f_16
 F_17:Fun K "roll" "Board.roll" Pq a.f_17 a.d_17
 b_17:Binds K a.d_17 ["self"] []
 m_17:Meth K c.Board "roll" a.f_17
 F_18:Fun K "told" "Orders.told" Pg a.f_18 a.d_18
 b_18:Binds K a.d_18 ["self","at"] []
 m_18:Meth K c.Orders "told" a.f_18
 F_19:Fun K "is_cut" "is_cut" QJ a.f_19 a.d_19
 b_19:Binds K a.d_19 ["orders","at"] []
 g_is_cut:mg "is_cut"=some (.ref a.f_19)
 k_19:W.keepIn K (.ref a.f_19)=true
 F_20:Fun K "fits" "fits" Pb a.f_20 a.d_20
 b_20:Binds K a.d_20 ["orders","helped","goal"] []
 g_fits:mg "fits"=some (.ref a.f_20)
 k_20:W.keepIn K (.ref a.f_20)=true
 F_21:Fun K "counts" "counts" Po a.f_21 a.d_21
 b_21:Binds K a.d_21 ["orders","at"] []
 g_counts:mg "counts"=some (.ref a.f_21)
 k_21:W.keepIn K (.ref a.f_21)=true
 F_22:Fun K "backs" "backs" Pl a.f_22 a.d_22
 b_22:Binds K a.d_22 ["orders","helper","at"] []
 g_backs:mg "backs"=some (.ref a.f_22)
 k_22:W.keepIn K (.ref a.f_22)=true
 F_23:Fun K "backing" "backing" QK a.f_23 a.d_23
 b_23:Binds K a.d_23 ["orders","at"] []
 g_backing:mg "backing"=some (.ref a.f_23)
 k_23:W.keepIn K (.ref a.f_23)=true
 F_24:Fun K "force" "force" QV a.f_24 a.d_24
 b_24:Binds K a.d_24 ["orders","at"] []
 g_force:mg "force"=some (.ref a.f_24)
 k_24:W.keepIn K (.ref a.f_24)=true
 F_25:Fun K "weigh_movers" "weigh_movers" QD a.f_25 a.d_25
 b_25:Binds K a.d_25 ["orders"] []
 g_weigh_movers:mg "weigh_movers"=some (.ref a.f_25)
 k_25:W.keepIn K (.ref a.f_25)=true
 F_26:Fun K "is_outdone" "is_outdone" Qw a.f_26 a.d_26
 b_26:Binds K a.d_26 ["orders","forces","at"] []
 g_is_outdone:mg "is_outdone"=some (.ref a.f_26)
 k_26:W.keepIn K (.ref a.f_26)=true
 F_27:Fun K "force_against" "force_against" Q9 a.f_27 a.d_27
 b_27:Binds K a.d_27 ["orders","at","side"] []
 g_force_against:mg "force_against"=some (.ref a.f_27)
 k_27:W.keepIn K (.ref a.f_27)=true
 F_28:Fun K "overcomes" "overcomes" Py a.f_28 a.d_28
 b_28:Binds K a.d_28 ["orders","at","goal","strength"] []
 g_overcomes:mg "overcomes"=some (.ref a.f_28)
 k_28:W.keepIn K (.ref a.f_28)=true
 F_29:Fun K "firmness" "firmness" QA a.f_29 a.d_29
 b_29:Binds K a.d_29 ["orders","at"] []
 g_firmness:mg "firmness"=some (.ref a.f_29)
 k_29:W.keepIn K (.ref a.f_29)=true
 F_30:Fun K "hindrance" "hindrance" Q3 a.f_30 a.d_30
 b_30:Binds K a.d_30 ["orders","forces","at"] []
 g_hindrance:mg "hindrance"=some (.ref a.f_30)
 k_30:W.keepIn K (.ref a.f_30)=true
 F_31:Fun K "hindrances" "hindrances" QF a.f_31 a.d_31
 b_31:Binds K a.d_31 ["orders"] []
 g_hindrances:mg "hindrances"=some (.ref a.f_31)
 k_31:W.keepIn K (.ref a.f_31)=true
 F_32:Fun K "fault" "fault" QR a.f_32 a.d_32
 b_32:Binds K a.d_32 ["orders","found","at","places"] []
 g_fault:mg "fault"=some (.ref a.f_32)
 k_32:W.keepIn K (.ref a.f_32)=true
 F_33:Fun K "strikes" "strikes" QX a.f_33 a.d_33
 b_33:Binds K a.d_33 ["orders"] []
 g_strikes:mg "strikes"=some (.ref a.f_33)
 k_33:W.keepIn K (.ref a.f_33)=true
 F_34:Fun K "settled" "settled" Pk a.f_34 a.d_34
 b_34:Binds K a.d_34 ["orders"] []
 g_settled:mg "settled"=some (.ref a.f_34)
 k_34:W.keepIn K (.ref a.f_34)=true
 F_35:Fun K "aside" "Turn.aside" QL a.f_35 a.d_35
 b_35:Binds K a.d_35 ["self"] []
 m_35:Meth K c.Turn "aside" a.f_35
 F_36:Fun K "units_after" "units_after" Pw a.f_36 a.d_36
 b_36:Binds K a.d_36 ["board","goals","comers"] []
 g_units_after:mg "units_after"=some (.ref a.f_36)
 k_36:W.keepIn K (.ref a.f_36)=true
 F_37:Fun K "posted_board" "posted_board" QT a.f_37 a.d_37
 b_37:Binds K a.d_37 ["chart","units"] []
 g_posted_board:mg "posted_board"=some (.ref a.f_37)
 k_37:W.keepIn K (.ref a.f_37)=true
 F_38:Fun K "__init__" "Turn.__init__" QU a.f_38 a.d_38
 b_38:Binds K a.d_38 ["self","orders"] []
 F_39:Fun K "done" "Turn.done" Ps a.f_39 a.d_39
 b_39:Binds K a.d_39 ["self"] []
 m_39:Meth K c.Turn "done" a.f_39
 F_40:Fun K "law" "law" Pf a.f_40 a.d_40
 b_40:Binds K a.d_40 ["script"] []
 Hk:mg "law"=some (.ref a.f_40)
 k_40:W.keepIn K (.ref a.f_40)=true
section
variable {P:Program} {w:World} {K:W.Frag} {mg:Str->Option Value} {base:Heap} {c:CA} {a:Ad}
theorem Vi (T:All K mg c a):FnOk P w K mg base (CXw P w) 1 a.f_0 a.d_0 ["script","k"] (spM 2 (g__law_cell_at c)):=by
 refine Z0 T.F_0 C7 fun cdv A outer s H E hr=>?_
 have Sc:=C7
 exact (Zi (YN (IX (Zf 1) (RZ rfl T.z_len (Zd (Zf 0) Zm))) (Zn (ZK (Xv (Zf 0) (Zf 1)))) ZY)
     (Zn (ZK Zs)))
theorem RE (T:All K mg c a):FnOk P w K mg base (CXw P w) 2 a.f_1 a.d_1 ["script","many"] (spM 2 (g__law_places c)):=by
 have G_0:=Vi (P:=P) (w:=w) (base:=base) T
 have b_0:=T.b_0
 refine Z0 T.F_1 Aa fun cdv A outer s H E hr=>?_
 have Sc:=Aa
 exact (Zi (ZZ (i:=2) Sc.nd rfl (Or.inr rfl) (WE (ZN G_0 (hr.mono (by decide)) rfl T.g__law_cell_at T.k_0 b_0 Zt (Zd (Zf 0) (Zd Zs Zm))) (Zf 1)))
     (Zi (Xh (j:=3) KR (Z1 (js:=[1,2]) (cn:=["many","first"]) (by with_unfolding_all rfl) (by decide +kernel) rfl (by decide +kernel) rfl (by with_unfolding_all rfl) rfl (by with_unfolding_all rfl) (by decide +kernel)) rfl (X3 rfl T.z_range (Zf 1)) (fun _ _ _ _=>Xb) (fun _ _ _ _=>(WE (Xx (Zf 2) (Zf 0)) (Zf 1))) Sc.nd rfl (Or.inl rfl) (by with_unfolding_all rfl))
     (Zi (YN (WQ hr.units (WE (On (ZN G_0 (hr.mono (by decide)) rfl T.g__law_cell_at T.k_0 b_0 Zt (Zd (Zf 0) (Zd Zs Zm))) Zs) Zs) Zs) (Zn (Yo (Le (Zf 3)))) ZY)
     (Zn (ZK (Zf 3))))))
theorem NZ (T:All K mg c a):FnOk P w K mg base (CXw P w) 1 a.f_2 a.d_2 ["self","size"] (spM 2 (Wh c)):=by
 refine Z0 T.F_2 Bn fun cdv A outer s H E hr=>?_
 have Sc:=Bn
 exact (Zi (X9 T.cl_Map T.na_Map_size (Zf 1) (Zf 0))
     (Zn (X9 T.cl_Map T.na_Map_links IZ (Zf 0))))
theorem YB (T:All K mg c a):FnOk P w K mg base (CXw P w) 1 a.f_3 a.d_3 ["self","at"] (spM 2 (ZF c)):=by
 refine Z0 T.F_3 Ao fun cdv A outer s H E hr=>?_
 have Sc:=Ao
 exact (Zn (YN (PW.pt (Hd (IX (Zf 1) Zs) (MA (BD (Zf 1) (ZP T.cl_Map T.na_Map_size (Zf 0)))))) (Zn (WW PySem.F.excBase_ValueError T.x_NoPlace rfl T.c_NoPlace rfl Tr (Ua (Zf 1) (Vn Ts)))) ZY))
theorem Nu (T:All K mg c a):FnOk P w K mg base (CXw P w) 2 a.f_4 a.d_4 ["self","a","b"] (spM 3 (XA c)):=by
 have G_3:=YB (P:=P) (w:=w) (base:=base) T
 have b_3:=T.b_3
 refine Z0 T.F_4 Ak fun cdv A outer s H E hr=>?_
 have Sc:=Ak
 exact (Zi (Yo (ZA (Zf 0) T.cl_Map T.m_3 G_3 (hr.mono (by decide)) b_3 Zt (Zd (Zf 1) Zm)))
     (Zi (Yo (ZA (Zf 0) T.cl_Map T.m_3 G_3 (hr.mono (by decide)) b_3 Zt (Zd (Zf 2) Zm)))
     (Zi (YN (WQ hr.units (Zf 1) (Zf 2)) (Zn (WW PySem.F.excBase_ValueError T.x_OutOfReach rfl T.c_OutOfReach rfl Tr (Vn (Ua (Zf 1) (Vn Ts))))) ZY)
     (Zi (X0 hr.units OV (ZP T.cl_Map T.na_Map_links (Zf 0)) (WM (Zd (Zf 1) (Zd (Zf 2) Zm))))
     (Zn (X0 hr.units OV (ZP T.cl_Map T.na_Map_links (Zf 0)) (WM (Zd (Zf 2) (Zd (Zf 1) Zm)))))))))
theorem V4 (T:All K mg c a):FnOk P w K mg base (CXw P w) 1 a.f_5 a.d_5 ["self","chart"] (spM 2 (YQ c)):=by
 refine Z0 T.F_5 BC fun cdv A outer s H E hr=>?_
 have Sc:=BC
 exact (Zi (X9 T.cl_Board T.na_Board_chart (Zf 1) (Zf 0))
     (Zn (X9 T.cl_Board T.na_Board_units X6 (Zf 0))))
theorem V8 (T:All K mg c a):FnOk P w K mg base (CXw P w) 2 a.f_6 a.d_6 ["self","at","side"] (spM 3 (Xq c)):=by
 have G_3:=YB (P:=P) (w:=w) (base:=base) T
 have b_3:=T.b_3
 refine Z0 T.F_6 Bv fun cdv A outer s H E hr=>?_
 have Sc:=Bv
 exact (Zi (Yo (ZA (ZP T.cl_Board T.na_Board_chart (Zf 0)) T.cl_Map T.m_3 G_3 (hr.mono (by decide)) b_3 Zt (Zd (Zf 1) Zm)))
     (Zi (YN (PW.pt (Hd (IX (Zf 2) Zs) (MA (BV (Zf 2) (Vs rfl T.c_LAST_SIDE))))) (Zn (WW PySem.F.excBase_ValueError T.x_NoSide rfl T.c_NoSide rfl Tr (Ua (Zf 2) (Vn Ts)))) ZY)
     (Zi (YN (MY hr.units (Zf 1) (ZP T.cl_Board T.na_Board_units (Zf 0))) (Zn (WW PySem.F.excBase_ValueError T.x_Crowded rfl T.c_Crowded rfl Tr (Vn (Ua (Zf 1) Ts)))) ZY)
     (Zn (X0 hr.units (Zf 2) (ZP T.cl_Board T.na_Board_units (Zf 0)) (Zf 1))))))
theorem RX (T:All K mg c a):FnOk P w K mg base (CXw P w) 1 a.f_7 a.d_7 ["self","board"] (spM 2 (Xc c)):=by
 refine Z0 T.F_7 Al fun cdv A outer s H E hr=>?_
 have Sc:=Al
 exact (Zi (X9 T.cl_Orders T.na_Orders_board (Zf 1) (Zf 0))
     (Zn (X9 T.cl_Orders T.na_Orders_given X6 (Zf 0))))
theorem Y6 (T:All K mg c a):FnOk P w K mg base (CXw P w) 2 a.f_8 a.d_8 ["self","at"] (spM 2 (ZG c)):=by
 have G_3:=YB (P:=P) (w:=w) (base:=base) T
 have b_3:=T.b_3
 refine Z0 T.F_8 Bt fun cdv A outer s H E hr=>?_
 have Sc:=Bt
 exact (Zi (Yo (ZA (ZP T.cl_Board T.na_Board_chart (Zf 0)) T.cl_Map T.m_3 G_3 (hr.mono (by decide)) b_3 Zt (Zd (Zf 1) Zm)))
     (Zn (ZK (GI hr.units (ZP T.cl_Board T.na_Board_units (Zf 0)) (Zf 1)))))
theorem Wk (T:All K mg c a):FnOk P w K mg base (CXw P w) 3 a.f_9 a.d_9 ["self","at"] (spM 2 (Yy c)):=by
 have G_8:=Y6 (P:=P) (w:=w) (base:=base) T
 have b_8:=T.b_8
 refine Z0 T.F_9 Am fun cdv A outer s H E hr=>?_
 have Sc:=Am
 exact (Zn (YN (Oa (ZA (Zf 0) T.cl_Board T.m_8 G_8 (hr.mono (by decide)) b_8 Zt (Zd (Zf 1) Zm))) (Zn (WW PySem.F.excBase_ValueError T.x_NoUnit rfl T.c_NoUnit rfl Tr (Vn (Ua (Zf 1) Ts)))) ZY))
theorem Uw (T:All K mg c a):FnOk P w K mg base (CXw P w) 4 a.f_10 a.d_10 ["self","places","units"] (spM 3 (YX c)):=by
 have G_9:=Wk (P:=P) (w:=w) (base:=base) T
 have b_9:=T.b_9
 have G_3:=YB (P:=P) (w:=w) (base:=base) T
 have b_3:=T.b_3
 refine Z0 T.F_10 EH fun cdv A outer s H E hr=>?_
 have Sc:=EH
 exact (Zi (Va PassesOwn.leaving rfl (Ye (Zf 1)) (Yx (i:=3) Sc.nd rfl (Or.inl rfl)) (Xl 3) (Zn (Yo (ZA (ZP T.cl_Board T.na_Board_chart (ZP T.cl_Orders T.na_Orders_board (Zf 0))) T.cl_Map T.m_3 G_3 (hr.mono (by decide)) b_3 Zt (Zd (Zf 3) Zm)))))
     (Zn (Va PassesOwn.leaving rfl (Ye (Zf 2)) (Yx (i:=3) Sc.nd rfl (Or.inl rfl)) (Xl 3) (Zn (Yo (ZA (ZP T.cl_Orders T.na_Orders_board (Zf 0)) T.cl_Board T.m_9 G_9 (hr.mono (by decide)) b_9 Zt (Zd (Zf 3) Zm)))))))
theorem Qj (T:All K mg c a):FnOk P w K mg base (CXw P w) 2 a.f_11 a.d_11 ["self","a","b"] (spM 3 (Vc c)):=by
 have G_3:=YB (P:=P) (w:=w) (base:=base) T
 have b_3:=T.b_3
 refine Z0 T.F_11 EI fun cdv A outer s H E hr=>?_
 have Sc:=EI
 exact (Zi (Yo (ZA (Zf 0) T.cl_Map T.m_3 G_3 (hr.mono (by decide)) b_3 Zt (Zd (Zf 1) Zm)))
     (Zi (Yo (ZA (Zf 0) T.cl_Map T.m_3 G_3 (hr.mono (by decide)) b_3 Zt (Zd (Zf 2) Zm)))
     (Zn (ZK (Cq hr.units (WM (Zd (Zf 1) (Zd (Zf 2) Zm))) (ZP T.cl_Map T.na_Map_links (Zf 0)))))))
theorem Vl (T:All K mg c a):FnOk P w K mg base (CXw P w) 3 a.f_12 a.d_12 ["self","at","goal"] (spM 3 (YC c)):=by
 have G_11:=Qj (P:=P) (w:=w) (base:=base) T
 have b_11:=T.b_11
 refine Z0 T.F_12 Db fun cdv A outer s H E hr=>?_
 have Sc:=Db
 exact (Zn (YN (Ch (Vz (ZA (ZP T.cl_Board T.na_Board_chart (ZP T.cl_Orders T.na_Orders_board (Zf 0))) T.cl_Map T.m_11 G_11 (hr.mono (by decide)) b_11 Zt (Zd (Zf 1) (Zd (Zf 2) Zm))))) (Zn (WW PySem.F.excBase_ValueError T.x_OutOfReach rfl T.c_OutOfReach rfl Tr (Vn (Ua (Zf 2) (Vn (Ua (Zf 1) Ts)))))) ZY))
theorem Re (T:All K mg c a):FnOk P w K mg base (CXw P w) 5 a.f_13 a.d_13 ["self","at","goal"] (spM 3 (YV c)):=by
 have G_10:=Uw (P:=P) (w:=w) (base:=base) T
 have b_10:=T.b_10
 have G_12:=Vl (P:=P) (w:=w) (base:=base) T
 have b_12:=T.b_12
 refine Z0 T.F_13 EV fun cdv A outer s H E hr=>?_
 have Sc:=EV
 exact (Zi (Yo (ZA (Zf 0) T.cl_Orders T.m_10 G_10 (hr.mono (by decide)) b_10 Zt (Zd (Th (Zd (Zf 1) (Zd (Zf 2) Zm))) (Zd (Th (Zd (Zf 1) Zm)) Zm))))
     (Zi (Yo (ZA (Zf 0) T.cl_Orders T.m_12 G_12 (hr.mono (by decide)) b_12 Zt (Zd (Zf 1) (Zd (Zf 2) Zm))))
     (Zn (X0 hr.units (WM (Zd Ra (Zd (Zf 2) Zm))) (ZP T.cl_Orders T.na_Orders_given (Zf 0)) (Zf 1)))))
theorem UH (T:All K mg c a):FnOk P w K mg base (CXw P w) 6 a.f_14 a.d_14 ["row","ring","last","step"] (spM 4 (g__law_orders_on c)):=by
 have G_5:=V4 (P:=P) (w:=w) (base:=base) T
 have b_5:=T.b_5
 have G_6:=V8 (P:=P) (w:=w) (base:=base) T
 have b_6:=T.b_6
 have G_2:=NZ (P:=P) (w:=w) (base:=base) T
 have b_2:=T.b_2
 have G_4:=Nu (P:=P) (w:=w) (base:=base) T
 have b_4:=T.b_4
 have G_7:=RX (P:=P) (w:=w) (base:=base) T
 have b_7:=T.b_7
 have G_13:=Re (P:=P) (w:=w) (base:=base) T
 have b_13:=T.b_13
 refine Z0 T.F_14 E3 fun cdv A outer s H E hr=>?_
 have Sc:=E3
 exact (Zi (ZZ (i:=4) Sc.nd rfl (Or.inl rfl) (RZ rfl T.z_len (Zd (Zf 0) Zm)))
     (Zi (ZZ (i:=5) Sc.nd rfl (Or.inl rfl) (VE T.mk_Map G_2 (hr.mono (by decide)) rfl T.c_Map b_2 Zt (Zd (Zf 4) Zm)))
     (Zi (Va PassesOwn.leaving rfl (X3 rfl T.z_range (W6 (Zf 4) Zs)) (Yx (i:=6) Sc.nd rfl (Or.inl rfl)) (Xl 6) (Zn (Yo (ZA (Zf 5) T.cl_Map T.m_4 G_4 (hr.mono (by decide)) b_4 Zt (Zd (Xv (Zf 0) (Zf 6)) (Zd (Xv (Zf 0) (Xx (Zf 6) Zs)) Zm))))))
     (Zi (YN (Vz (Zf 1)) (Zn (Yo (ZA (Zf 5) T.cl_Map T.m_4 G_4 (hr.mono (by decide)) b_4 Zt (Zd (Xv (Zf 0) (W6 (Zf 4) Zs)) (Zd (Xv (Zf 0) Zs) Zm))))) ZY)
     (Zi (ZZ (i:=7) Sc.nd rfl (Or.inl rfl) (VE T.mk_Board G_5 (hr.mono (by decide)) rfl T.c_Board b_5 Zt (Zd (Zf 5) Zm)))
     (Zi (Va PassesOwn.leaving rfl (X3 rfl T.z_range (Xx (W6 (Zf 4) Zs) (LQ rfl T.z_int Ma (Zd (Zf 2) Zm)))) (Yx (i:=6) Sc.nd rfl (Or.inl rfl)) (Xl 6) (Zn (Yo (ZA (Zf 7) T.cl_Board T.m_6 G_6 (hr.mono (by decide)) b_6 Zt (Zd (Xv (Zf 0) (Zf 6)) (Zd (WE (DJ (Zf 6) (Zf 3)) Zs) Zm))))))
     (Zi (ZZ (i:=8) Sc.nd rfl (Or.inl rfl) (VE T.mk_Orders G_7 (hr.mono (by decide)) rfl T.c_Orders b_7 Zt (Zd (Zf 7) Zm)))
     (Zi (Va PassesOwn.leaving rfl (X3 rfl T.z_range (W6 (Zf 4) Zs)) (Yx (i:=6) Sc.nd rfl (Or.inl rfl)) (Xl 6) (Zn (Yo (ZA (Zf 8) T.cl_Orders T.m_13 G_13 (hr.mono (by decide)) b_13 Zt (Zd (Xv (Zf 0) (Zf 6)) (Zd (Xv (Zf 0) (Xx (Zf 6) Zs)) Zm))))))
     (Zi (YN (Vz (Zf 1)) (Zn (Yo (ZA (Zf 8) T.cl_Orders T.m_13 G_13 (hr.mono (by decide)) b_13 Zt (Zd (Xv (Zf 0) (W6 (Zf 4) Zs)) (Zd (Xv (Zf 0) Zs) Zm))))) ZY)
     (Zn (ZK (Zf 8))))))))))))
theorem ZT (T:All K mg c a):FnOk P w K mg base (CXw P w) 1 a.f_15 a.d_15 ["self","at"] (spM 2 (Zl c)):=by
 refine Z0 T.F_15 Dc fun cdv A outer s H E hr=>?_
 have Sc:=Dc
 exact (Zi (ZZ (i:=2) Sc.nd rfl (Or.inl rfl) (LP hr.units (ZP T.cl_Orders T.na_Orders_given (Zf 0)) (Zf 1) (LF rfl T.c_STAND)))
     (Zi (YN (WQ hr.units (Vd T.gt_STAND (Zf 2) Zs) Ra) (Zn (ZK (Vd T.gt_STAND (Zf 2) Zs))) ZY)
     (Zn (ZK Cr))))
theorem YM (T:All K mg c a):FnOk P w K mg base (CXw P w) 2 a.f_16 a.d_16 ["self"] (spM 1 (ZJ c)):=by
 have G_15:=ZT (P:=P) (w:=w) (base:=base) T
 have b_15:=T.b_15
 refine Z0 T.F_16 Ej fun cdv A outer s H E hr=>?_
 have Sc:=Ej
 exact (Zn (ZK (Se ZV rfl T.z_sorted (Zd (Im ZV (Z1 (js:=[0]) (cn:=["self"]) (by with_unfolding_all rfl) (by decide +kernel) rfl (by decide +kernel) rfl (by with_unfolding_all rfl) rfl (by with_unfolding_all rfl) (by decide +kernel)) rfl (ZP T.cl_Orders T.na_Orders_given (Zf 0)) (fun _ _ _ _=>(Xe (Kn (ZA (Zf 1) T.cl_Orders T.m_15 G_15 (hr.mono (by decide)) b_15 RS (Zd (Zf 0) Zm))))) (fun _ _ _ _=>(Zf 0))) Zm))))
theorem WN (T:All K mg c a):FnOk P w K mg base (CXw P w) 1 a.f_17 a.d_17 ["self"] (spM 1 (Z5 c)):=by
 refine Z0 T.F_17 Dh fun cdv A outer s H E hr=>?_
 have Sc:=Dh
 exact (Zn (ZK (QI ZV rfl rfl T.z_sorted (ZP T.cl_Board T.na_Board_units (Zf 0)))))
theorem Wa (T:All K mg c a):FnOk P w K mg base (CXw P w) 4 a.f_18 a.d_18 ["self","at"] (spM 2 (Yd c)):=by
 have G_9:=Wk (P:=P) (w:=w) (base:=base) T
 have b_9:=T.b_9
 refine Z0 T.F_18 EL fun cdv A outer s H E hr=>?_
 have Sc:=EL
 exact (Zi (Yo (ZA (ZP T.cl_Orders T.na_Orders_board (Zf 0)) T.cl_Board T.m_9 G_9 (hr.mono (by decide)) b_9 Zt (Zd (Zf 1) Zm)))
     (Zn (ZK (LP hr.units (ZP T.cl_Orders T.na_Orders_given (Zf 0)) (Zf 1) (LF rfl T.c_STAND)))))
theorem KK (T:All K mg c a):FnOk P w K mg base (CXw P w) 5 a.f_19 a.d_19 ["orders","at"] (spM 2 (g_is_cut c)):=by
 have G_8:=Y6 (P:=P) (w:=w) (base:=base) T
 have b_8:=T.b_8
 have G_15:=ZT (P:=P) (w:=w) (base:=base) T
 have b_15:=T.b_15
 have G_16:=YM (P:=P) (w:=w) (base:=base) T
 have b_16:=T.b_16
 have G_18:=Wa (P:=P) (w:=w) (base:=base) T
 have b_18:=T.b_18
 refine Z0 T.F_19 EM fun cdv A outer s H E hr=>?_
 have Sc:=EM
 exact (Zi (ZZ (i:=2) Sc.nd rfl (Or.inr rfl) (ZA (Zf 0) T.cl_Orders T.m_18 G_18 (hr.mono (by decide)) b_18 Zt (Zd (Zf 1) Zm)))
     (Zi (YN (S8 hr.units (Vd T.gt_STAND (Zf 2) Zs) Ra) (Zn (ZK OV)) ZY)
     (Zi (ZZ (i:=3) Sc.nd rfl (Or.inr rfl) (ZA (ZP T.cl_Orders T.na_Orders_board (Zf 0)) T.cl_Board T.m_8 G_8 (hr.mono (by decide)) b_8 Zt (Zd (Zf 1) Zm)))
     (Zi (Xh (j:=4) ZV (Z1 (js:=[0,1,3]) (cn:=["orders","at","own"]) (by with_unfolding_all rfl) (by decide +kernel) rfl (by decide +kernel) rfl (by with_unfolding_all rfl) rfl (by with_unfolding_all rfl) (by decide +kernel)) rfl (Ye (Y2 (Zf 0) T.cl_Orders T.m_16 G_16 (hr.mono (by decide)) b_16 Zt)) (fun _ _ _ _=>(Xe (PW.pt (R6 (WQ hr.units (ZA (Zf 1) T.cl_Orders T.m_15 G_15 (hr.mono (by decide)) b_15 RS (Zd (Zf 0) Zm)) (Zf 2)) (UR (S8 hr.units (ZA (ZP T.cl_Orders T.na_Orders_board (Zf 1)) T.cl_Board T.m_8 G_8 (hr.mono (by decide)) b_8 RS (Zd (Zf 0) Zm)) (Zf 3))))))) (fun _ _ _ _=>(Zf 0)) Sc.nd rfl (Or.inl rfl) (by with_unfolding_all rfl))
     (Zn (ZK (ID rfl rfl T.z_any NT (Zd (Wz ZV (Z1 (js:=[2]) (cn:=["order"]) (by with_unfolding_all rfl) (by decide +kernel) rfl (by decide +kernel) rfl (by with_unfolding_all rfl) rfl (by with_unfolding_all rfl) (by decide +kernel)) rfl (Ye (Zf 4)) (fun _ _ _ _=>Xb) (fun _ _ _ _=>(EE hr.units (Zf 0) (Vd T.gt_STAND (Zf 1) Zs)))) Zm))))))))
theorem G4 (T:All K mg c a):FnOk P w K mg base (CXw P w) 2 a.f_20 a.d_20 ["orders","helped","goal"] (spM 3 (g_fits c)):=by
 have G_15:=ZT (P:=P) (w:=w) (base:=base) T
 have b_15:=T.b_15
 refine Z0 T.F_20 Ez fun cdv A outer s H E hr=>?_
 have Sc:=Ez
 exact (Zi (YN (WQ hr.units (Zf 2) (Zf 1)) (Zn (ZK (DW (ZA (Zf 0) T.cl_Orders T.m_15 G_15 (hr.mono (by decide)) b_15 Zt (Zd (Zf 1) Zm))))) ZY)
     (Zn (ZK (VY hr.units (ZA (Zf 0) T.cl_Orders T.m_15 G_15 (hr.mono (by decide)) b_15 Zt (Zd (Zf 1) Zm)) (Zf 2)))))
theorem Ji (T:All K mg c a):FnOk P w K mg base (CXw P w) 6 a.f_21 a.d_21 ["orders","at"] (spM 2 (g_counts c)):=by
 have G_18:=Wa (P:=P) (w:=w) (base:=base) T
 have b_18:=T.b_18
 have G_20:=G4 (P:=P) (w:=w) (base:=base) T
 have b_20:=T.b_20
 have G_19:=KK (P:=P) (w:=w) (base:=base) T
 have b_19:=T.b_19
 refine Z0 T.F_21 EQ fun cdv A outer s H E hr=>?_
 have Sc:=EQ
 exact (Zi (ZZ (i:=2) Sc.nd rfl (Or.inl rfl) (ZA (Zf 0) T.cl_Orders T.m_18 G_18 (hr.mono (by decide)) b_18 Zt (Zd (Zf 1) Zm)))
     (Zn (ZK (Ub (VY hr.units (Vd T.gt_STAND (Zf 2) Zs) Ra) (Ub (ZN G_20 (hr.mono (by decide)) rfl T.g_fits T.k_20 b_20 Zt (Zd (Zf 0) (Zd (Vd T.gt_STAND (Zf 2) Zs) (Zd (Vd T.gt_STAND (Zf 2) Zs) Zm)))) (S7 (DN (ZN G_19 (hr.mono (by decide)) rfl T.g_is_cut T.k_19 b_19 Zt (Zd (Zf 0) (Zd (Zf 1) Zm))))))))))
theorem Hx (T:All K mg c a):FnOk P w K mg base (CXw P w) 7 a.f_22 a.d_22 ["orders","helper","at"] (spM 3 (g_backs c)):=by
 have G_18:=Wa (P:=P) (w:=w) (base:=base) T
 have b_18:=T.b_18
 have G_21:=Ji (P:=P) (w:=w) (base:=base) T
 have b_21:=T.b_21
 refine Z0 T.F_22 EU fun cdv A outer s H E hr=>?_
 have Sc:=EU
 exact (Zi (ZZ (i:=3) Sc.nd rfl (Or.inl rfl) (ZA (Zf 0) T.cl_Orders T.m_18 G_18 (hr.mono (by decide)) b_18 Zt (Zd (Zf 1) Zm)))
     (Zn (ZK (Ub (VY hr.units (Vd T.gt_STAND (Zf 3) Zs) Ra) (Ub (VY hr.units (Vd T.gt_STAND (Zf 3) Zs) (Zf 2)) (S7 (ZN G_21 (hr.mono (by decide)) rfl T.g_counts T.k_21 b_21 Zt (Zd (Zf 0) (Zd (Zf 1) Zm)))))))))
theorem Uu (T:All K mg c a):FnOk P w K mg base (CXw P w) 8 a.f_23 a.d_23 ["orders","at"] (spM 2 (g_backing c)):=by
 have G_17:=WN (P:=P) (w:=w) (base:=base) T
 have b_17:=T.b_17
 have G_22:=Hx (P:=P) (w:=w) (base:=base) T
 have b_22:=T.b_22
 refine Z0 T.F_23 Ep fun cdv A outer s H E hr=>?_
 have Sc:=Ep
 exact (Zn (ZK (Iw ZV (Us (xs:=["helper","side"]) (js:=[0,1]) (cn:=["orders","at"]) (by with_unfolding_all rfl) (by decide +kernel) rfl (by decide +kernel) (by with_unfolding_all rfl) rfl (by with_unfolding_all rfl) (by decide +kernel)) rfl (fun _ _ _ _=>RF rfl (Xd (Yx (i:=0) (show (["helper","side","orders","at"]:List Str).Nodup by decide +kernel) rfl (Or.inl rfl)) (Xd (Yx (i:=1) (show (["helper","side","orders","at"]:List Str).Nodup by decide +kernel) rfl (Or.inl rfl)) U6))) (Ye (Y2 (ZP T.cl_Orders T.na_Orders_board (Zf 0)) T.cl_Board T.m_17 G_17 (hr.mono (by decide)) b_17 Zt)) (fun _ _ _ _=>(Xe (Vz (ZN G_22 (hr.mono (by decide)) rfl T.g_backs T.k_22 b_22 RS (Zd (Zf 2) (Zd (Zf 0) (Zd (Zf 3) Zm))))))) (fun _ _ _ _=>(Zf 1)))))
theorem JN (T:All K mg c a):FnOk P w K mg base (CXw P w) 9 a.f_24 a.d_24 ["orders","at"] (spM 2 (g_force c)):=by
 have G_15:=ZT (P:=P) (w:=w) (base:=base) T
 have b_15:=T.b_15
 have G_23:=Uu (P:=P) (w:=w) (base:=base) T
 have b_23:=T.b_23
 refine Z0 T.F_24 EF fun cdv A outer s H E hr=>?_
 have Sc:=EF
 exact (Zi (YN (Oa (ZA (Zf 0) T.cl_Orders T.m_15 G_15 (hr.mono (by decide)) b_15 Zt (Zd (Zf 1) Zm))) (Zn (ZK Zs)) ZY)
     (Zn (ZK (Xx Zs (RZ rfl T.z_len (Zd (ZN G_23 (hr.mono (by decide)) rfl T.g_backing T.k_23 b_23 Zt (Zd (Zf 0) (Zd (Zf 1) Zm))) Zm))))))
theorem Sy (T:All K mg c a):FnOk P w K mg base (CXw P w) 10 a.f_25 a.d_25 ["orders"] (spM 1 (g_weigh_movers c)):=by
 have G_16:=YM (P:=P) (w:=w) (base:=base) T
 have b_16:=T.b_16
 have G_24:=JN (P:=P) (w:=w) (base:=base) T
 have b_24:=T.b_24
 refine Z0 T.F_25 EB fun cdv A outer s H E hr=>?_
 have Sc:=EB
 exact (Zi (ZZ (i:=1) Sc.nd rfl (Or.inl rfl) X6)
     (Zi (Va PassesOwn.leaving rfl (Ye (Y2 (Zf 0) T.cl_Orders T.m_16 G_16 (hr.mono (by decide)) b_16 Zt)) (Yx (i:=2) Sc.nd rfl (Or.inl rfl)) (Xl 2) (Zn (X0 hr.units (ZN G_24 (hr.mono (by decide)) rfl T.g_force T.k_24 b_24 Zt (Zd (Zf 0) (Zd (Zf 2) Zm))) (Zf 1) (Zf 2))))
     (Zn (ZK (Zf 1)))))
theorem Qn (T:All K mg c a):FnOk P w K mg base (CXw P w) 2 a.f_26 a.d_26 ["orders","forces","at"] (spM 3 (g_is_outdone c)):=by
 have G_15:=ZT (P:=P) (w:=w) (base:=base) T
 have b_15:=T.b_15
 refine Z0 T.F_26 Em fun cdv A outer s H E hr=>?_
 have Sc:=Em
 exact (Zi (ZZ (i:=3) Sc.nd rfl (Or.inr rfl) (ZA (Zf 0) T.cl_Orders T.m_15 G_15 (hr.mono (by decide)) b_15 Zt (Zd (Zf 2) Zm)))
     (Zi (Nr (j:=4) ZV (Z1 (js:=[0,2,3]) (cn:=["orders","at","goal"]) (by with_unfolding_all rfl) (by decide +kernel) rfl (by decide +kernel) rfl (by with_unfolding_all rfl) rfl (by with_unfolding_all rfl) (by decide +kernel)) rfl (Zf 1) (fun _ _ _ _=>(Xe (PW.pt (R6 (S8 hr.units (Zf 0) (Zf 2)) (UR (WQ hr.units (ZA (Zf 1) T.cl_Orders T.m_15 G_15 (hr.mono (by decide)) b_15 RS (Zd (Zf 0) Zm)) (Zf 3))))))) (fun _ _ _ _=>(Zf 0)) Sc.nd rfl (Or.inl rfl) (by with_unfolding_all rfl))
     (Zn (ZK (ID rfl rfl T.z_any NT (Zd (Wz ZV (Z1 (js:=[1,2]) (cn:=["forces","at"]) (by with_unfolding_all rfl) (by decide +kernel) rfl (by decide +kernel) rfl (by with_unfolding_all rfl) rfl (by with_unfolding_all rfl) (by decide +kernel)) rfl (Ye (Zf 4)) (fun _ _ _ _=>Xb) (fun _ _ _ _=>(Bu (Wu hr.units (Zf 1) (Zf 0)) (Wu hr.units (Zf 1) (Zf 2))))) Zm))))))
theorem Ty (T:All K mg c a):FnOk P w K mg base (CXw P w) 9 a.f_27 a.d_27 ["orders","at","side"] (spM 3 (g_force_against c)):=by
 have G_15:=ZT (P:=P) (w:=w) (base:=base) T
 have b_15:=T.b_15
 have G_23:=Uu (P:=P) (w:=w) (base:=base) T
 have b_23:=T.b_23
 refine Z0 T.F_27 EW fun cdv A outer s H E hr=>?_
 have Sc:=EW
 exact (Zi (YN (Oa (ZA (Zf 0) T.cl_Orders T.m_15 G_15 (hr.mono (by decide)) b_15 Zt (Zd (Zf 1) Zm))) (Zn (ZK Zs)) ZY)
     (Zn (ZK (Xx Zs (RZ rfl T.z_len (Zd (Wz ZV (Z1 (js:=[2]) (cn:=["side"]) (by with_unfolding_all rfl) (by decide +kernel) rfl (by decide +kernel) rfl (by with_unfolding_all rfl) rfl (by with_unfolding_all rfl) (by decide +kernel)) rfl (Ye (ZN G_23 (hr.mono (by decide)) rfl T.g_backing T.k_23 b_23 Zt (Zd (Zf 0) (Zd (Zf 1) Zm)))) (fun _ _ _ _=>(Xe (S8 hr.units (Zf 0) (Zf 1)))) (fun _ _ _ _=>(Zf 0))) Zm))))))
theorem OE (T:All K mg c a):FnOk P w K mg base (CXw P w) 10 a.f_28 a.d_28 ["orders","at","goal","strength"] (spM 4 (g_overcomes c)):=by
 have G_8:=Y6 (P:=P) (w:=w) (base:=base) T
 have b_8:=T.b_8
 have G_27:=Ty (P:=P) (w:=w) (base:=base) T
 have b_27:=T.b_27
 refine Z0 T.F_28 Ey fun cdv A outer s H E hr=>?_
 have Sc:=Ey
 exact (Zi (ZZ (i:=4) Sc.nd rfl (Or.inl rfl) (ZA (ZP T.cl_Orders T.na_Orders_board (Zf 0)) T.cl_Board T.m_8 G_8 (hr.mono (by decide)) b_8 Zt (Zd (Zf 2) Zm)))
     (Zn (ZK (Ub (EE hr.units (Zf 4) (ZA (ZP T.cl_Orders T.na_Orders_board (Zf 0)) T.cl_Board T.m_8 G_8 (hr.mono (by decide)) b_8 Zt (Zd (Zf 1) Zm))) (S7 (Bm (ZN G_27 (hr.mono (by decide)) rfl T.g_force_against T.k_27 b_27 Zt (Zd (Zf 0) (Zd (Zf 1) (Zd (Zf 4) Zm)))) (Zf 3)))))))
theorem Nj (T:All K mg c a):FnOk P w K mg base (CXw P w) 9 a.f_29 a.d_29 ["orders","at"] (spM 2 (g_firmness c)):=by
 have G_15:=ZT (P:=P) (w:=w) (base:=base) T
 have b_15:=T.b_15
 have G_23:=Uu (P:=P) (w:=w) (base:=base) T
 have b_23:=T.b_23
 refine Z0 T.F_29 Ew fun cdv A outer s H E hr=>?_
 have Sc:=Ew
 exact (Zi (YN (Kn (ZA (Zf 0) T.cl_Orders T.m_15 G_15 (hr.mono (by decide)) b_15 Zt (Zd (Zf 1) Zm))) (Zn (ZK Zs)) ZY)
     (Zn (ZK (Xx Zs (RZ rfl T.z_len (Zd (ZN G_23 (hr.mono (by decide)) rfl T.g_backing T.k_23 b_23 Zt (Zd (Zf 0) (Zd (Zf 1) Zm))) Zm))))))
theorem Om (T:All K mg c a):FnOk P w K mg base (CXw P w) 11 a.f_30 a.d_30 ["orders","forces","at"] (spM 3 (g_hindrance c)):=by
 have G_8:=Y6 (P:=P) (w:=w) (base:=base) T
 have b_8:=T.b_8
 have G_15:=ZT (P:=P) (w:=w) (base:=base) T
 have b_15:=T.b_15
 have G_29:=Nj (P:=P) (w:=w) (base:=base) T
 have b_29:=T.b_29
 have G_26:=Qn (P:=P) (w:=w) (base:=base) T
 have b_26:=T.b_26
 have G_28:=OE (P:=P) (w:=w) (base:=base) T
 have b_28:=T.b_28
 refine Z0 T.F_30 El fun cdv A outer s H E hr=>?_
 have Sc:=El
 exact (Zi (ZZ (i:=3) Sc.nd rfl (Or.inl rfl) (ZA (Zf 0) T.cl_Orders T.m_15 G_15 (hr.mono (by decide)) b_15 Zt (Zd (Zf 2) Zm)))
     (Zi (YN (Vz (ZN G_26 (hr.mono (by decide)) rfl T.g_is_outdone T.k_26 b_26 Zt (Zd (Zf 0) (Zd (Zf 1) (Zd (Zf 2) Zm))))) (Zn (ZK (Vs rfl T.c_RIVAL))) ZY)
     (Zi (YN (Oa (ZA (ZP T.cl_Orders T.na_Orders_board (Zf 0)) T.cl_Board T.m_8 G_8 (hr.mono (by decide)) b_8 Zt (Zd (Zf 3) Zm))) (Zn (ZK (Vs rfl T.c_FREE))) ZY)
     (Zi (YN (WQ hr.units (ZA (Zf 0) T.cl_Orders T.m_15 G_15 (hr.mono (by decide)) b_15 Zt (Zd (Zf 3) Zm)) (Zf 2)) (Zn (ZK (JV (Vz (ZN G_28 (hr.mono (by decide)) rfl T.g_overcomes T.k_28 b_28 Zt (Zd (Zf 0) (Zd (Zf 2) (Zd (Zf 3) (Zd (Wu hr.units (Zf 1) (Zf 3)) Zm)))))) (Vs rfl T.c_FREE) (Vs rfl T.c_FACED)))) ZY)
     (Zn (ZK (JV (Vz (ZN G_28 (hr.mono (by decide)) rfl T.g_overcomes T.k_28 b_28 Zt (Zd (Zf 0) (Zd (Zf 2) (Zd (Zf 3) (Zd (ZN G_29 (hr.mono (by decide)) rfl T.g_firmness T.k_29 b_29 Zt (Zd (Zf 0) (Zd (Zf 3) Zm))) Zm)))))) (Vs rfl T.c_FREE) (Vs rfl T.c_HELD))))))))
theorem Qr (T:All K mg c a):FnOk P w K mg base (CXw P w) 12 a.f_31 a.d_31 ["orders"] (spM 1 (g_hindrances c)):=by
 have G_30:=Om (P:=P) (w:=w) (base:=base) T
 have b_30:=T.b_30
 have G_25:=Sy (P:=P) (w:=w) (base:=base) T
 have b_25:=T.b_25
 refine Z0 T.F_31 E5 fun cdv A outer s H E hr=>?_
 have Sc:=E5
 exact (Zi (ZZ (i:=1) Sc.nd rfl (Or.inl rfl) (ZN G_25 (hr.mono (by decide)) rfl T.g_weigh_movers T.k_25 b_25 Zt (Zd (Zf 0) Zm)))
     (Zi (ZZ (i:=2) Sc.nd rfl (Or.inl rfl) X6)
     (Zi (Fh PassesOwn.leaving rfl (Zf 1) (Yx (i:=3) Sc.nd rfl (Or.inl rfl)) (Xl 3) (Zn (X0 hr.units (ZN G_30 (hr.mono (by decide)) rfl T.g_hindrance T.k_30 b_30 Zt (Zd (Zf 0) (Zd (Zf 1) (Zd (Zf 3) Zm)))) (Zf 2) (Zf 3))))
     (Zn (ZK (Zf 2))))))
theorem IB (T:All K mg c a):FnOk P w K mg base (CXw P w) 2 a.f_32 a.d_32 ["orders","found","at","places"] (spM 4 (g_fault c)):=by
 have G_15:=ZT (P:=P) (w:=w) (base:=base) T
 have b_15:=T.b_15
 refine Z0 T.F_32 EY fun cdv A outer s H E hr=>?_
 have Sc:=EY
 exact (Zi (YN (PW.pt (R6 (WQ hr.units (Wu hr.units (Zf 1) (Zf 2)) (Vs rfl T.c_HELD)) (UR (B2 (ZA (Zf 0) T.cl_Orders T.m_15 G_15 (hr.mono (by decide)) b_15 Zt (Zd (Zf 2) Zm)) (Zf 3))))) (Zn (ZK (Vs rfl T.c_FREE))) ZY)
     (Zn (ZK (Wu hr.units (Zf 1) (Zf 2)))))
theorem MS (T:All K mg c a):FnOk P w K mg base (CXw P w) 13 a.f_33 a.d_33 ["orders"] (spM 1 (g_strikes c)):=by
 have G_16:=YM (P:=P) (w:=w) (base:=base) T
 have b_16:=T.b_16
 have G_32:=IB (P:=P) (w:=w) (base:=base) T
 have b_32:=T.b_32
 have G_31:=Qr (P:=P) (w:=w) (base:=base) T
 have b_31:=T.b_31
 refine Z0 T.F_33 EZ fun cdv A outer s H E hr=>?_
 have Sc:=EZ
 exact (Zi (ZZ (i:=1) Sc.nd rfl (Or.inr rfl) (ZN G_31 (hr.mono (by decide)) rfl T.g_hindrances T.k_31 b_31 Zt (Zd (Zf 0) Zm)))
     (Zi (ZZ (i:=2) Sc.nd rfl (Or.inr rfl) (Y2 (Zf 0) T.cl_Orders T.m_16 G_16 (hr.mono (by decide)) b_16 Zt))
     (Zi (ZZ (i:=3) Sc.nd rfl (Or.inl rfl) (Fc Zm))
     (Zi (ZZ (i:=4) Sc.nd rfl (Or.inr rfl) Zs)
     (Zn (HX 100 PassesOwn.leaving (Vz OV) (Zi (Xh (j:=5) ZV (Z1 (js:=[0,1,2,4]) (cn:=["orders","found","left","count"]) (by with_unfolding_all rfl) (by decide +kernel) rfl (by decide +kernel) rfl (by with_unfolding_all rfl) rfl (by with_unfolding_all rfl) (by decide +kernel)) rfl (Ye (Zf 2)) (fun _ _ _ _=>Xb) (fun _ _ _ _=>(WM (Zd (Zf 4) (Zd (Zf 0) (Zd (ZN G_32 (hr.mono (by decide)) rfl T.g_fault T.k_32 b_32 RS (Zd (Zf 1) (Zd (Zf 2) (Zd (Zf 0) (Zd (Zf 3) Zm))))) Zm))))) Sc.nd rfl (Or.inl rfl) (by with_unfolding_all rfl))
     (Zi (Xh (j:=6) ZV (Z1 (js:=[]) (cn:=[]) (by with_unfolding_all rfl) (by decide +kernel) rfl (by decide +kernel) rfl (by with_unfolding_all rfl) rfl (by with_unfolding_all rfl) (by decide +kernel)) rfl (Ye (Zf 5)) (fun _ _ _ _=>(Xe (S8 hr.units (Xv (Zf 0) Zs) (Vs rfl T.c_FREE)))) (fun _ _ _ _=>(Zf 0)) Sc.nd rfl (Or.inl rfl) (by with_unfolding_all rfl))
     (Zi (YN (WQ hr.units (Zf 6) (Th Zm)) (Zn (ZK (Zf 3))) ZY)
     (Zi (Yo (KL (Zf 3) (Zf 6)))
     (Zi (ZZ (i:=2) Sc.nd rfl (Or.inr rfl) (Wz ZV (Z1 (js:=[]) (cn:=[]) (by with_unfolding_all rfl) (by decide +kernel) rfl (by decide +kernel) rfl (by with_unfolding_all rfl) rfl (by with_unfolding_all rfl) (by decide +kernel)) rfl (Ye (Zf 5)) (fun _ _ _ _=>(Xe (WQ hr.units (Xv (Zf 0) Zs) (Vs rfl T.c_FREE)))) (fun _ _ _ _=>(Xv (Zf 0) Zs))))
     (Zn (ZZ (i:=4) Sc.nd rfl (Or.inr rfl) (Xx (Zf 4) Zs))))))))))))))
theorem TX (T:All K mg c a):FnOk P w K mg base (CXw P w) 13 a.f_33 a.d_33 ["orders"] (spM 1 (YO c)):=FnOk.tidyG (MS T)
theorem Rz (T:All K mg c a):FnOk P w K mg base (CXw P w) 14 a.f_34 a.d_34 ["orders"] (spM 1 (g_settled c)):=by
 have G_16:=YM (P:=P) (w:=w) (base:=base) T
 have b_16:=T.b_16
 have G_33:=TX (P:=P) (w:=w) (base:=base) T
 have b_33:=T.b_33
 refine Z0 T.F_34 ER fun cdv A outer s H E hr=>?_
 have Sc:=ER
 exact (Zi (ZZ (i:=1) Sc.nd rfl (Or.inr rfl) (Wz ZV (Z1 (js:=[]) (cn:=[]) (by with_unfolding_all rfl) (by decide +kernel) rfl (by decide +kernel) rfl (by with_unfolding_all rfl) rfl (by with_unfolding_all rfl) (by decide +kernel)) rfl (Ye (ZN G_33 (hr.mono (by decide)) rfl T.g_strikes T.k_33 b_33 Zt (Zd (Zf 0) Zm))) (fun _ _ _ _ => Xb) (fun _ _ _ _ => (Xv (Zf 0) Zs))))
     (Zn (ZK (Wz ZV (Z1 (js:=[1]) (cn:=["struck"]) (by with_unfolding_all rfl) (by decide +kernel) rfl (by decide +kernel) rfl (by with_unfolding_all rfl) rfl (by with_unfolding_all rfl) (by decide +kernel)) rfl (Ye (Y2 (Zf 0) T.cl_Orders T.m_16 G_16 (hr.mono (by decide)) b_16 Zt)) (fun _ _ _ _=>(Xe (Du (Zf 0) (Zf 1)))) (fun _ _ _ _=>(Zf 0))))))
theorem Qp (T:All K mg c a):FnOk P w K mg base (CXw P w) 1 a.f_35 a.d_35 ["self"] (spM 1 (XZ c)):=by
 refine Z0 T.F_35 Er fun cdv A outer s H E hr=>?_
 have Sc:=Er
 exact (Zn (ZK (Wz ZV (Z1 (js:=[0]) (cn:=["self"]) (by with_unfolding_all rfl) (by decide +kernel) rfl (by decide +kernel) rfl (by with_unfolding_all rfl) rfl (by with_unfolding_all rfl) (by decide +kernel)) rfl (Ye (NH ZV rfl rfl T.z_sorted (Zd (ZP T.cl_Turn T.na_Turn_pushed (Zf 0)) Zm))) (fun _ _ _ _=>Xb) (fun _ _ _ _=>(WM (Zd (Zf 0) (Zd (Wu hr.units (ZP T.cl_Turn T.na_Turn_pushed (Zf 1)) (Zf 0)) (Zd (Wu hr.units (ZP T.cl_Turn T.na_Turn_comers (Zf 1)) (Zf 0)) Zm))))))))
theorem Qi (T:All K mg c a):FnOk P w K mg base (CXw P w) 2 a.f_36 a.d_36 ["board","goals","comers"] (spM 3 (g_units_after c)):=by
 have G_17:=WN (P:=P) (w:=w) (base:=base) T
 have b_17:=T.b_17
 refine Z0 T.F_36 ES fun cdv A outer s H E hr=>?_
 have Sc:=ES
 exact (Zi (Si (j := 3) ZV (Us (xs := ["at","side"]) (js := [1]) (cn := ["goals"]) (by with_unfolding_all rfl) (by decide +kernel) rfl (by decide +kernel) (by with_unfolding_all rfl) rfl (by with_unfolding_all rfl) (by decide +kernel)) rfl (fun _ _ _ _ => RF rfl (Xd (Yx (i := 0) (show (["at","side","goals"] : List Str).Nodup by decide +kernel) rfl (Or.inl rfl)) (Xd (Yx (i := 1) (show (["at","side","goals"] : List Str).Nodup by decide +kernel) rfl (Or.inl rfl)) U6))) (Ye (Y2 (Zf 0) T.cl_Board T.m_17 G_17 (hr.mono (by decide)) b_17 Zt)) (fun _ _ _ _ => (Xe (MY hr.units (Zf 0) (Zf 2)))) (fun _ _ _ _ => (WM (Zd (Wu hr.units (Zf 2) (Zf 0)) (Zd (Zf 1) Zm)))) Sc.nd rfl (Or.inl rfl) (by with_unfolding_all rfl))
     (Zi (Si (j:=4) ZV (Us (xs:=["at","side"]) (js:=[1,2]) (cn:=["goals","comers"]) (by with_unfolding_all rfl) (by decide +kernel) rfl (by decide +kernel) (by with_unfolding_all rfl) rfl (by with_unfolding_all rfl) (by decide +kernel)) rfl (fun _ _ _ _=>RF rfl (Xd (Yx (i:=0) (show (["at","side","goals","comers"]:List Str).Nodup by decide +kernel) rfl (Or.inl rfl)) (Xd (Yx (i:=1) (show (["at","side","goals","comers"]:List Str).Nodup by decide +kernel) rfl (Or.inl rfl)) U6))) (Ye (Y2 (Zf 0) T.cl_Board T.m_17 G_17 (hr.mono (by decide)) b_17 Zt)) (fun _ _ _ _=>(Xe (PW.pt (R6 (Oj hr.units (Zf 0) (Zf 2)) (UR (Oj hr.units (Zf 0) (Zf 3))))))) (fun _ _ _ _=>(WM (Zd (Zf 0) (Zd (Zf 1) Zm)))) Sc.nd rfl (Or.inl rfl) (by with_unfolding_all rfl))
     (Zn (ZK (CY (Zf 3) (Zf 4))))))
theorem SB (T:All K mg c a):FnOk P w K mg base (CXw P w) 3 a.f_37 a.d_37 ["chart","units"] (spM 2 (g_posted_board c)):=by
 have G_5:=V4 (P:=P) (w:=w) (base:=base) T
 have b_5:=T.b_5
 have G_6:=V8 (P:=P) (w:=w) (base:=base) T
 have b_6:=T.b_6
 refine Z0 T.F_37 EG fun cdv A outer s H E hr=>?_
 have Sc:=EG
 exact (Zi (ZZ (i:=2) Sc.nd rfl (Or.inl rfl) (VE T.mk_Board G_5 (hr.mono (by decide)) rfl T.c_Board b_5 Zt (Zd (Zf 0) Zm)))
     (Zi (Va PassesOwn.leaving rfl (Ye (Zf 1)) (RF rfl (Xd (Yx (i:=3) Sc.nd rfl (Or.inl rfl)) (Xd (Yx (i:=4) Sc.nd rfl (Or.inl rfl)) U6))) (LW [3,4]) (Zn (Yo (ZA (Zf 2) T.cl_Board T.m_6 G_6 (hr.mono (by decide)) b_6 Zt (Zd (Zf 3) (Zd (Zf 4) Zm))))))
     (Zn (ZK (Zf 2)))))
theorem Ot (T:All K mg c a):FnOk P w K mg base (CXw P w) 15 a.f_38 a.d_38 ["self","orders"] (spM 2 (Yz c)):=by
 have G_17:=WN (P:=P) (w:=w) (base:=base) T
 have b_17:=T.b_17
 have G_15:=ZT (P:=P) (w:=w) (base:=base) T
 have b_15:=T.b_15
 have G_16:=YM (P:=P) (w:=w) (base:=base) T
 have b_16:=T.b_16
 have G_37:=SB (P:=P) (w:=w) (base:=base) T
 have b_37:=T.b_37
 have G_34:=Rz (P:=P) (w:=w) (base:=base) T
 have b_34:=T.b_34
 have G_36:=Qi (P:=P) (w:=w) (base:=base) T
 have b_36:=T.b_36
 refine Z0 T.F_38 Eg fun cdv A outer s H E hr=>?_
 have Sc:=Eg
 exact (Zi (X9 T.cl_Turn T.na_Turn_goals X6 (Zf 0))
     (Zi (X9 T.cl_Turn T.na_Turn_comers X6 (Zf 0))
     (Zi (Va PassesOwn.leaving rfl (Ye (ZN G_34 (hr.mono (by decide)) rfl T.g_settled T.k_34 b_34 Zt (Zd (Zf 1) Zm))) (Yx (i:=2) Sc.nd rfl (Or.inl rfl)) (Xl 2) (Zi (X0 hr.units (ZA (Zf 1) T.cl_Orders T.m_15 G_15 (hr.mono (by decide)) b_15 Zt (Zd (Zf 2) Zm)) (ZP T.cl_Turn T.na_Turn_goals (Zf 0)) (Zf 2))
     (Zn (X0 hr.units (Zf 2) (ZP T.cl_Turn T.na_Turn_comers (Zf 0)) (ZA (Zf 1) T.cl_Orders T.m_15 G_15 (hr.mono (by decide)) b_15 Zt (Zd (Zf 2) Zm))))))
     (Zi (X9 T.cl_Turn T.na_Turn_pushed X6 (Zf 0))
     (Zi (Va PassesOwn.leaving rfl (Ye (Y2 (ZP T.cl_Orders T.na_Orders_board (Zf 1)) T.cl_Board T.m_17 G_17 (hr.mono (by decide)) b_17 Zt)) (RF rfl (Xd (Yx (i:=2) Sc.nd rfl (Or.inl rfl)) (Xd (Yx (i:=3) Sc.nd rfl (Or.inl rfl)) U6))) (LW [2,3]) (Zn (YN (PW.pt (R6 (MY hr.units (Zf 2) (ZP T.cl_Turn T.na_Turn_comers (Zf 0))) (UR (Oj hr.units (Zf 2) (ZP T.cl_Turn T.na_Turn_goals (Zf 0)))))) (Zn (X0 hr.units (Zf 3) (ZP T.cl_Turn T.na_Turn_pushed (Zf 0)) (Zf 2))) ZY)))
     (Zi (Xh (j:=4) ZV (Z1 (js:=[1]) (cn:=["orders"]) (by with_unfolding_all rfl) (by decide +kernel) rfl (by decide +kernel) rfl (by with_unfolding_all rfl) rfl (by with_unfolding_all rfl) (by decide +kernel)) rfl (Ye (Y2 (Zf 1) T.cl_Orders T.m_16 G_16 (hr.mono (by decide)) b_16 Zt)) (fun _ _ _ _=>Xb) (fun _ _ _ _=>(ZA (Zf 1) T.cl_Orders T.m_15 G_15 (hr.mono (by decide)) b_15 RS (Zd (Zf 0) Zm))) Sc.nd rfl (Or.inl rfl) (by with_unfolding_all rfl))
     (Zi (X9 T.cl_Turn T.na_Turn_closed (MB ZV rfl rfl T.z_sorted rfl T.z_set (Zf 4) (ZP T.cl_Turn T.na_Turn_comers (Zf 0))) (Zf 0))
     (Zn (X9 T.cl_Turn T.na_Turn_board (ZN G_37 (hr.mono (by decide)) rfl T.g_posted_board T.k_37 b_37 Zt (Zd (ZP T.cl_Board T.na_Board_chart (ZP T.cl_Orders T.na_Orders_board (Zf 1))) (Zd (ZN G_36 (hr.mono (by decide)) rfl T.g_units_after T.k_36 b_36 Zt (Zd (ZP T.cl_Orders T.na_Orders_board (Zf 1)) (Zd (ZP T.cl_Turn T.na_Turn_goals (Zf 0)) (Zd (ZP T.cl_Turn T.na_Turn_comers (Zf 0)) Zm)))) Zm))) (Zf 0))))))))))
theorem PL (T:All K mg c a):FnOk P w K mg base (CXw P w) 1 a.f_39 a.d_39 ["self"] (spM 1 (XJ c)):=by
 refine Z0 T.F_39 EO fun cdv A outer s H E hr=>?_
 have Sc:=EO
 exact (Zn (ZK (QI ZV rfl rfl T.z_sorted (ZP T.cl_Turn T.na_Turn_goals (Zf 0)))))
theorem Do (T:All K mg c a):FnOk P w K mg base (CXw P w) 17 a.f_40 a.d_40 ["script"] (spM 1 (Hk c)):=by
 have G_38:=Ot (P:=P) (w:=w) (base:=base) T
 have b_38:=T.b_38
 have G_35:=Qp (P:=P) (w:=w) (base:=base) T
 have b_35:=T.b_35
 have G_39:=PL (P:=P) (w:=w) (base:=base) T
 have b_39:=T.b_39
 have G_0:=Vi (P:=P) (w:=w) (base:=base) T
 have b_0:=T.b_0
 have G_14:=UH (P:=P) (w:=w) (base:=base) T
 have b_14:=T.b_14
 have G_1:=RE (P:=P) (w:=w) (base:=base) T
 have b_1:=T.b_1
 have G_34:=Rz (P:=P) (w:=w) (base:=base) T
 have b_34:=T.b_34
 have G_33:=TX (P:=P) (w:=w) (base:=base) T
 have b_33:=T.b_33
 refine Z0 T.F_40 Ek fun cdv A outer s H E hr=>?_
 have Sc:=Ek
 exact (Zi (ZZ (i:=1) Sc.nd rfl (Or.inr rfl) (Xx Zs (WE (ZN G_0 (hr.mono (by decide)) rfl T.g__law_cell_at T.k_0 b_0 Zt (Zd (Zf 0) (Zd Zs Zm))) Zs)))
     (Zi (YN (WQ hr.units (WE (On (ZN G_0 (hr.mono (by decide)) rfl T.g__law_cell_at T.k_0 b_0 Zt (Zd (Zf 0) (Zd Zs Zm))) Zs) Zs) Zs) (Zn (ZZ (i:=1) Sc.nd rfl (Or.inr rfl) (Xx Zs (WE (On (ZN G_0 (hr.mono (by decide)) rfl T.g__law_cell_at T.k_0 b_0 Zt (Zd (Zf 0) (Zd Zs Zm))) Zs) Zs)))) ZY)
     (Zi (ZZ (i:=2) Sc.nd rfl (Or.inl rfl) (WE (ZN G_0 (hr.mono (by decide)) rfl T.g__law_cell_at T.k_0 b_0 Zt (Zd (Zf 0) (Zd Zs Zm))) Zs))
     (Zi (YN (WQ hr.units (Zf 2) Zs) (Zn (ZZ (i:=1) Sc.nd rfl (Or.inr rfl) (Fd rfl rfl T.z_min IR (Zd (Zf 1) (Zd Zs Zm))))) ZY)
     (Zi (ZZ (i:=3) Sc.nd rfl (Or.inr rfl) (ZN G_1 (hr.mono (by decide)) rfl T.g__law_places T.k_1 b_1 Zt (Zd (Zf 0) (Zd (Zf 1) Zm))))
     (Zi (ZZ (i:=4) Sc.nd rfl (Or.inl rfl) (WE (On (ZN G_0 (hr.mono (by decide)) rfl T.g__law_cell_at T.k_0 b_0 Zt (Zd (Zf 0) (Zd Zs Zm))) Zs) Zs))
     (Zi (ZZ (i:=5) Sc.nd rfl (Or.inl rfl) (ZN G_14 (hr.mono (by decide)) rfl T.g__law_orders_on T.k_14 b_14 Zt (Zd (Zf 3) (Zd (VY hr.units (Zf 2) Zs) (Zd (B9 (Zf 2) Zs) (Zd (Zf 4) Zm))))))
     (Zi (YN (WQ hr.units (Zf 2) Zs) (Zi (Xh (j:=6) ZV (Z1 (js:=[1,3]) (cn:=["many","row"]) (by with_unfolding_all rfl) (by decide +kernel) rfl (by decide +kernel) rfl (by with_unfolding_all rfl) rfl (by with_unfolding_all rfl) (by decide +kernel)) rfl (X3 rfl T.z_range (W6 (Zf 1) Zs)) (fun _ _ _ _=>Xb) (fun _ _ _ _=>(WM (Zd (Xx (Zf 0) Zs) (Zd (Xv (Zf 2) (W6 (W6 (Zf 1) Zs) (Zf 0))) (Zd Zs Zm))))) Sc.nd rfl (Or.inl rfl) (by with_unfolding_all rfl))
     (Zn (ZK (Ub (VY hr.units (ZN G_34 (hr.mono (by decide)) rfl T.g_settled T.k_34 b_34 Zt (Zd (Zf 5) Zm)) (Th Zm)) (S7 (VY hr.units (ZN G_33 (hr.mono (by decide)) rfl T.g_strikes T.k_33 b_33 Zt (Zd (Zf 5) Zm)) (Zf 6))))))) ZY)
     (Zi (Xh (j:=7) ZV (Z1 (js:=[1,3]) (cn:=["many","row"]) (by with_unfolding_all rfl) (by decide +kernel) rfl (by decide +kernel) rfl (by with_unfolding_all rfl) rfl (by with_unfolding_all rfl) (by decide +kernel)) rfl (X3 rfl T.z_range (Xx (W6 (Zf 1) Zs) (LQ rfl T.z_int Ma (Zd (VY hr.units (Zf 2) Zs) Zm)))) (fun _ _ _ _=>Xb) (fun _ _ _ _=>(WM (Zd (Xv (Zf 2) (Zf 0)) (Zd (Xv (Zf 2) (WE (Xx (Zf 0) Zs) (Zf 1))) Zm)))) Sc.nd rfl (Or.inl rfl) (by with_unfolding_all rfl))
     (Zi (YN (PW.pt (Hd (S8 hr.units (ZN G_33 (hr.mono (by decide)) rfl T.g_strikes T.k_33 b_33 Zt (Zd (Zf 5) Zm)) (Th Zm)) (MA (S8 hr.units (ZN G_34 (hr.mono (by decide)) rfl T.g_settled T.k_34 b_34 Zt (Zd (Zf 5) Zm)) (Se ZV rfl T.z_sorted (Zd (Wz ZV (Z1 (js:=[]) (cn:=[]) (by with_unfolding_all rfl) (by decide +kernel) rfl (by decide +kernel) rfl (by with_unfolding_all rfl) rfl (by with_unfolding_all rfl) (by decide +kernel)) rfl (Ye (Zf 7)) (fun _ _ _ _=>Xb) (fun _ _ _ _=>(Xv (Zf 0) Zs))) Zm)))))) (Zn (ZK OV)) ZY)
     (Zn (ZK (Ub (VY hr.units (Y2 (VE T.mk_Turn G_38 (hr.mono (by decide)) rfl T.c_Turn b_38 Zt (Zd (Zf 5) Zm)) T.cl_Turn T.m_39 G_39 (hr.mono (by decide)) b_39 Zt) (ML ZV rfl T.z_sorted (Zd (Zf 7) Zm))) (S7 (VY hr.units (Y2 (VE T.mk_Turn G_38 (hr.mono (by decide)) rfl T.c_Turn b_38 Zt (Zd (Zf 5) Zm)) T.cl_Turn T.m_35 G_35 (hr.mono (by decide)) b_35 Zt) (Th Zm))))))))))))))))
end
open PySem L2
theorem p1 {K:W.Frag} {x y:Option (Option Value)} (g:GK K) (i:Nat) (h1:nth (Cl K) i=some x) (h2:nth CG i=some y):x=y:=Ta g.1 i h1 h2
theorem p2 {K:W.Frag} {x y:Bool} (g:GK K) (i:Nat) (h1:nth (Cs K) i=some x) (h2:nth D8 i=some y):x=y:=Ta g.2.1 i h1 h2
theorem p3 {K:W.Frag} {x y:Option (FuncData × Bool)} (g:GK K) (i:Nat) (h1:nth (D6 K) i=some x) (h2:nth CC i=some y):x=y:=Ta g.2.2.1 i h1 h2
theorem Av {l:W.OpenLaw} {w:World} {K:W.Frag} {h:Heap} {mg:Str->Option Value} {fa:Addr} (g:GK K) (X:K.In h) (G:h.Ns mainGlobals mg) (hfa:mg "law"=some (.ref fa)) :
    ∃fd:FuncData,(∀(s:Shared) (v:Value),BindsTo s fd ⟨[v],[]⟩ [("script",v)])∧∀base:Heap,K.In base->base.Ns mainGlobals mg->FnOk l.prog w K mg base (CXw l.prog w) 17 fa fd ["script"] (E2 K):=by
 obtain ⟨_,v_FACED⟩:=Mf (Ta g.2.2.2.1 0 rfl rfl)
 obtain ⟨_,v_FREE⟩:=Mf (Ta g.2.2.2.1 1 rfl rfl)
 obtain ⟨_,v_HELD⟩:=Mf (Ta g.2.2.2.1 2 rfl rfl)
 obtain ⟨_,v_LAST_SIDE⟩:=Mf (Ta g.2.2.2.1 3 rfl rfl)
 obtain ⟨_,v_RIVAL⟩:=Mf (Ta g.2.2.2.1 4 rfl rfl)
 obtain ⟨_,_,_,_,l_STAND⟩:=B3 (Ta g.2.2.2.2.1 0 rfl rfl)
 have a_Map:=(p1 g 0 rfl rfl)
 have a_Board:=(p1 g 1 rfl rfl)
 have a_Orders:=(p1 g 2 rfl rfl)
 have a_Turn:=(p1 g 3 rfl rfl)
 have a_OrderError:=(p1 g 4 rfl rfl)
 have a_NoPlace:=(p1 g 5 rfl rfl)
 have a_NoSide:=(p1 g 6 rfl rfl)
 have a_Crowded:=(p1 g 7 rfl rfl)
 have a_NoUnit:=(p1 g 8 rfl rfl)
 have a_OutOfReach:=(p1 g 9 rfl rfl)
 have a_STAND:=(p1 g 10 rfl rfl)
 have a_0:=(p1 g 11 rfl rfl)
 have l_0:=(YK (p3 g 0 rfl rfl))
 have c_0:=(YL (p3 g 0 rfl rfl))
 have k_0:=(p2 g 0 rfl rfl)
 have a_1:=(p1 g 12 rfl rfl)
 have l_1:=(YK (p3 g 1 rfl rfl))
 have c_1:=(YL (p3 g 1 rfl rfl))
 have k_1:=(p2 g 1 rfl rfl)
 have a_2:=(p1 g 13 rfl rfl)
 have i_2:=(p2 g 2 rfl rfl)
 have l_2:=(YK (p3 g 2 rfl rfl))
 have c_2:=(YL (p3 g 2 rfl rfl))
 have k_2:=(p2 g 3 rfl rfl)
 have a_3:=(p1 g 14 rfl rfl)
 have i_3:=(p2 g 4 rfl rfl)
 have l_3:=(YK (p3 g 3 rfl rfl))
 have c_3:=(YL (p3 g 3 rfl rfl))
 have k_3:=(p2 g 5 rfl rfl)
 have a_4:=(p1 g 15 rfl rfl)
 have i_4:=(p2 g 6 rfl rfl)
 have l_4:=(YK (p3 g 4 rfl rfl))
 have c_4:=(YL (p3 g 4 rfl rfl))
 have k_4:=(p2 g 7 rfl rfl)
 have a_5:=(p1 g 16 rfl rfl)
 have i_5:=(p2 g 8 rfl rfl)
 have l_5:=(YK (p3 g 5 rfl rfl))
 have c_5:=(YL (p3 g 5 rfl rfl))
 have k_5:=(p2 g 9 rfl rfl)
 have a_6:=(p1 g 17 rfl rfl)
 have i_6:=(p2 g 10 rfl rfl)
 have l_6:=(YK (p3 g 6 rfl rfl))
 have c_6:=(YL (p3 g 6 rfl rfl))
 have k_6:=(p2 g 11 rfl rfl)
 have a_7:=(p1 g 18 rfl rfl)
 have i_7:=(p2 g 12 rfl rfl)
 have l_7:=(YK (p3 g 7 rfl rfl))
 have c_7:=(YL (p3 g 7 rfl rfl))
 have k_7:=(p2 g 13 rfl rfl)
 have a_8:=(p1 g 19 rfl rfl)
 have i_8:=(p2 g 14 rfl rfl)
 have l_8:=(YK (p3 g 8 rfl rfl))
 have c_8:=(YL (p3 g 8 rfl rfl))
 have k_8:=(p2 g 15 rfl rfl)
 have a_9:=(p1 g 20 rfl rfl)
 have i_9:=(p2 g 16 rfl rfl)
 have l_9:=(YK (p3 g 9 rfl rfl))
 have c_9:=(YL (p3 g 9 rfl rfl))
 have k_9:=(p2 g 17 rfl rfl)
 have a_10:=(p1 g 21 rfl rfl)
 have i_10:=(p2 g 18 rfl rfl)
 have l_10:=(YK (p3 g 10 rfl rfl))
 have c_10:=(YL (p3 g 10 rfl rfl))
 have k_10:=(p2 g 19 rfl rfl)
 have a_11:=(p1 g 22 rfl rfl)
 have i_11:=(p2 g 20 rfl rfl)
 have l_11:=(YK (p3 g 11 rfl rfl))
 have c_11:=(YL (p3 g 11 rfl rfl))
 have k_11:=(p2 g 21 rfl rfl)
 have a_12:=(p1 g 23 rfl rfl)
 have i_12:=(p2 g 22 rfl rfl)
 have l_12:=(YK (p3 g 12 rfl rfl))
 have c_12:=(YL (p3 g 12 rfl rfl))
 have k_12:=(p2 g 23 rfl rfl)
 have a_13:=(p1 g 24 rfl rfl)
 have i_13:=(p2 g 24 rfl rfl)
 have l_13:=(YK (p3 g 13 rfl rfl))
 have c_13:=(YL (p3 g 13 rfl rfl))
 have k_13:=(p2 g 25 rfl rfl)
 have a_14:=(p1 g 25 rfl rfl)
 have l_14:=(YK (p3 g 14 rfl rfl))
 have c_14:=(YL (p3 g 14 rfl rfl))
 have k_14:=(p2 g 26 rfl rfl)
 have a_15:=(p1 g 26 rfl rfl)
 have i_15:=(p2 g 27 rfl rfl)
 have l_15:=(YK (p3 g 15 rfl rfl))
 have c_15:=(YL (p3 g 15 rfl rfl))
 have k_15:=(p2 g 28 rfl rfl)
 have a_16:=(p1 g 27 rfl rfl)
 have i_16:=(p2 g 29 rfl rfl)
 have l_16:=(YK (p3 g 16 rfl rfl))
 have c_16:=(YL (p3 g 16 rfl rfl))
 have k_16:=(p2 g 30 rfl rfl)
 have a_17:=(p1 g 28 rfl rfl)
 have i_17:=(p2 g 31 rfl rfl)
 have l_17:=(YK (p3 g 17 rfl rfl))
 have c_17:=(YL (p3 g 17 rfl rfl))
 have k_17:=(p2 g 32 rfl rfl)
 have a_18:=(p1 g 29 rfl rfl)
 have i_18:=(p2 g 33 rfl rfl)
 have l_18:=(YK (p3 g 18 rfl rfl))
 have c_18:=(YL (p3 g 18 rfl rfl))
 have k_18:=(p2 g 34 rfl rfl)
 have a_19:=(p1 g 30 rfl rfl)
 have l_19:=(YK (p3 g 19 rfl rfl))
 have c_19:=(YL (p3 g 19 rfl rfl))
 have k_19:=(p2 g 35 rfl rfl)
 have a_20:=(p1 g 31 rfl rfl)
 have l_20:=(YK (p3 g 20 rfl rfl))
 have c_20:=(YL (p3 g 20 rfl rfl))
 have k_20:=(p2 g 36 rfl rfl)
 have a_21:=(p1 g 32 rfl rfl)
 have l_21:=(YK (p3 g 21 rfl rfl))
 have c_21:=(YL (p3 g 21 rfl rfl))
 have k_21:=(p2 g 37 rfl rfl)
 have a_22:=(p1 g 33 rfl rfl)
 have l_22:=(YK (p3 g 22 rfl rfl))
 have c_22:=(YL (p3 g 22 rfl rfl))
 have k_22:=(p2 g 38 rfl rfl)
 have a_23:=(p1 g 34 rfl rfl)
 have l_23:=(YK (p3 g 23 rfl rfl))
 have c_23:=(YL (p3 g 23 rfl rfl))
 have k_23:=(p2 g 39 rfl rfl)
 have a_24:=(p1 g 35 rfl rfl)
 have l_24:=(YK (p3 g 24 rfl rfl))
 have c_24:=(YL (p3 g 24 rfl rfl))
 have k_24:=(p2 g 40 rfl rfl)
 have a_25:=(p1 g 36 rfl rfl)
 have l_25:=(YK (p3 g 25 rfl rfl))
 have c_25:=(YL (p3 g 25 rfl rfl))
 have k_25:=(p2 g 41 rfl rfl)
 have a_26:=(p1 g 37 rfl rfl)
 have l_26:=(YK (p3 g 26 rfl rfl))
 have c_26:=(YL (p3 g 26 rfl rfl))
 have k_26:=(p2 g 42 rfl rfl)
 have a_27:=(p1 g 38 rfl rfl)
 have l_27:=(YK (p3 g 27 rfl rfl))
 have c_27:=(YL (p3 g 27 rfl rfl))
 have k_27:=(p2 g 43 rfl rfl)
 have a_28:=(p1 g 39 rfl rfl)
 have l_28:=(YK (p3 g 28 rfl rfl))
 have c_28:=(YL (p3 g 28 rfl rfl))
 have k_28:=(p2 g 44 rfl rfl)
 have a_29:=(p1 g 40 rfl rfl)
 have l_29:=(YK (p3 g 29 rfl rfl))
 have c_29:=(YL (p3 g 29 rfl rfl))
 have k_29:=(p2 g 45 rfl rfl)
 have a_30:=(p1 g 41 rfl rfl)
 have l_30:=(YK (p3 g 30 rfl rfl))
 have c_30:=(YL (p3 g 30 rfl rfl))
 have k_30:=(p2 g 46 rfl rfl)
 have a_31:=(p1 g 42 rfl rfl)
 have l_31:=(YK (p3 g 31 rfl rfl))
 have c_31:=(YL (p3 g 31 rfl rfl))
 have k_31:=(p2 g 47 rfl rfl)
 have a_32:=(p1 g 43 rfl rfl)
 have l_32:=(YK (p3 g 32 rfl rfl))
 have c_32:=(YL (p3 g 32 rfl rfl))
 have k_32:=(p2 g 48 rfl rfl)
 have a_33:=(p1 g 44 rfl rfl)
 have l_33:=(YK (p3 g 33 rfl rfl))
 have c_33:=(YL (p3 g 33 rfl rfl))
 have k_33:=(p2 g 49 rfl rfl)
 have a_34:=(p1 g 45 rfl rfl)
 have l_34:=(YK (p3 g 34 rfl rfl))
 have c_34:=(YL (p3 g 34 rfl rfl))
 have k_34:=(p2 g 50 rfl rfl)
 have a_35:=(p1 g 46 rfl rfl)
 have i_35:=(p2 g 51 rfl rfl)
 have l_35:=(YK (p3 g 35 rfl rfl))
 have c_35:=(YL (p3 g 35 rfl rfl))
 have k_35:=(p2 g 52 rfl rfl)
 have a_36:=(p1 g 47 rfl rfl)
 have l_36:=(YK (p3 g 36 rfl rfl))
 have c_36:=(YL (p3 g 36 rfl rfl))
 have k_36:=(p2 g 53 rfl rfl)
 have a_37:=(p1 g 48 rfl rfl)
 have l_37:=(YK (p3 g 37 rfl rfl))
 have c_37:=(YL (p3 g 37 rfl rfl))
 have k_37:=(p2 g 54 rfl rfl)
 have a_38:=(p1 g 49 rfl rfl)
 have i_38:=(p2 g 55 rfl rfl)
 have l_38:=(YK (p3 g 38 rfl rfl))
 have c_38:=(YL (p3 g 38 rfl rfl))
 have k_38:=(p2 g 56 rfl rfl)
 have a_39:=(p1 g 50 rfl rfl)
 have i_39:=(p2 g 57 rfl rfl)
 have l_39:=(YK (p3 g 39 rfl rfl))
 have c_39:=(YL (p3 g 39 rfl rfl))
 have k_39:=(p2 g 58 rfl rfl)
 have a_40:=(p1 g 51 rfl rfl)
 have l_40:=(YK (p3 g 40 rfl rfl))
 have c_40:=(YL (p3 g 40 rfl rfl))
 have k_40:=(p2 g 59 rfl rfl)
 have pg_Board:=(p2 g 60 rfl rfl)
 have hd_Board:=(p2 g 61 rfl rfl)
 have po_Board:=(p2 g 62 rfl rfl)
 have sa_Board:=(p1 g 52 rfl rfl)
 have pg_Map:=(p2 g 63 rfl rfl)
 have hd_Map:=(p2 g 64 rfl rfl)
 have po_Map:=(p2 g 65 rfl rfl)
 have sa_Map:=(p1 g 53 rfl rfl)
 have pg_Orders:=(p2 g 66 rfl rfl)
 have hd_Orders:=(p2 g 67 rfl rfl)
 have po_Orders:=(p2 g 68 rfl rfl)
 have sa_Orders:=(p1 g 54 rfl rfl)
 have pg_Turn:=(p2 g 69 rfl rfl)
 have hd_Turn:=(p2 g 70 rfl rfl)
 have po_Turn:=(p2 g 71 rfl rfl)
 have sa_Turn:=(p1 g 55 rfl rfl)
 have n_Board_chart:=(p1 g 56 rfl rfl)
 have n_Board_units:=(p1 g 57 rfl rfl)
 have n_Map_links:=(p1 g 58 rfl rfl)
 have n_Map_size:=(p1 g 59 rfl rfl)
 have n_Orders_board:=(p1 g 60 rfl rfl)
 have n_Orders_given:=(p1 g 61 rfl rfl)
 have n_Turn_board:=(p1 g 62 rfl rfl)
 have n_Turn_closed:=(p1 g 63 rfl rfl)
 have n_Turn_comers:=(p1 g 64 rfl rfl)
 have n_Turn_goals:=(p1 g 65 rfl rfl)
 have n_Turn_pushed:=(p1 g 66 rfl rfl)
 have mm_Board:=(p2 g 72 rfl rfl)
 have kp_Board:=(p2 g 73 rfl rfl)
 have mm_Map:=(p2 g 74 rfl rfl)
 have kp_Map:=(p2 g 75 rfl rfl)
 have mm_Orders:=(p2 g 76 rfl rfl)
 have kp_Orders:=(p2 g 77 rfl rfl)
 have mm_Turn:=(p2 g 78 rfl rfl)
 have kp_Turn:=(p2 g 79 rfl rfl)
 have x_Crowded:=(p2 g 80 rfl rfl)
 have x_NoPlace:=(p2 g 81 rfl rfl)
 have x_NoSide:=(p2 g 82 rfl rfl)
 have x_NoUnit:=(p2 g 83 rfl rfl)
 have x_OutOfReach:=(p2 g 84 rfl rfl)
 have z_any:=(p1 g 67 rfl rfl)
 have z_int:=(p1 g 68 rfl rfl)
 have z_len:=(p1 g 69 rfl rfl)
 have z_min:=(p1 g 70 rfl rfl)
 have z_range:=(p1 g 71 rfl rfl)
 have z_set:=(p1 g 72 rfl rfl)
 have z_sorted:=(p1 g 73 rfl rfl)
 have noL:=(p2 g 85 rfl rfl)
 have e:=hfa.symm.trans (W.mg_of X G a_40)
 cases e
 have F_0:=ZS (st:=Kq) l_0 c_0 k_0
 have b_0:=F_0.binds (ps:=["script","k"]) fun _ _ _ _ _ _ us hl=>match us,hl with|[_,_],_=>rfl
 have F_1:=ZS (st:=KF) l_1 c_1 k_1
 have b_1:=F_1.binds (ps:=["script","many"]) fun _ _ _ _ _ _ us hl=>match us,hl with|[_,_],_=>rfl
 have F_2:=ZS (st:=KJ) l_2 c_2 k_2
 have b_2:=F_2.binds (ps:=["self","size"]) fun _ _ _ _ _ _ us hl=>match us,hl with|[_,_],_=>rfl
 have F_3:=ZS (st:=Jr) l_3 c_3 k_3
 have b_3:=F_3.binds (ps:=["self","at"]) fun _ _ _ _ _ _ us hl=>match us,hl with|[_,_],_=>rfl
 have F_4:=ZS (st:=KU) l_4 c_4 k_4
 have b_4:=F_4.binds (ps:=["self","a","b"]) fun _ _ _ _ _ _ us hl=>match us,hl with|[_,_,_],_=>rfl
 have F_5:=ZS (st:=K3) l_5 c_5 k_5
 have b_5:=F_5.binds (ps:=["self","chart"]) fun _ _ _ _ _ _ us hl=>match us,hl with|[_,_],_=>rfl
 have F_6:=ZS (st:=Ku) l_6 c_6 k_6
 have b_6:=F_6.binds (ps:=["self","at","side"]) fun _ _ _ _ _ _ us hl=>match us,hl with|[_,_,_],_=>rfl
 have F_7:=ZS (st:=Ky) l_7 c_7 k_7
 have b_7:=F_7.binds (ps:=["self","board"]) fun _ _ _ _ _ _ us hl=>match us,hl with|[_,_],_=>rfl
 have F_8:=ZS (st:=JJ) l_8 c_8 k_8
 have b_8:=F_8.binds (ps:=["self","at"]) fun _ _ _ _ _ _ us hl=>match us,hl with|[_,_],_=>rfl
 have F_9:=ZS (st:=Jw) l_9 c_9 k_9
 have b_9:=F_9.binds (ps:=["self","at"]) fun _ _ _ _ _ _ us hl=>match us,hl with|[_,_],_=>rfl
 have F_10:=ZS (st:=QC) l_10 c_10 k_10
 have b_10:=F_10.binds (ps:=["self","places","units"]) fun _ _ _ _ _ _ us hl=>match us,hl with|[_,_,_],_=>rfl
 have F_11:=ZS (st:=Pe) l_11 c_11 k_11
 have b_11:=F_11.binds (ps:=["self","a","b"]) fun _ _ _ _ _ _ us hl=>match us,hl with|[_,_,_],_=>rfl
 have F_12:=ZS (st:=Q7) l_12 c_12 k_12
 have b_12:=F_12.binds (ps:=["self","at","goal"]) fun _ _ _ _ _ _ us hl=>match us,hl with|[_,_,_],_=>rfl
 have F_13:=ZS (st:=QH) l_13 c_13 k_13
 have b_13:=F_13.binds (ps:=["self","at","goal"]) fun _ _ _ _ _ _ us hl=>match us,hl with|[_,_,_],_=>rfl
 have F_14:=ZS (st:=Qz) l_14 c_14 k_14
 have b_14:=F_14.binds (ps:=["row","ring","last","step"]) fun _ _ _ _ _ _ us hl=>match us,hl with|[_,_,_,_],_=>rfl
 have F_15:=ZS (st:=Q1) l_15 c_15 k_15
 have b_15:=F_15.binds (ps:=["self","at"]) fun _ _ _ _ _ _ us hl=>match us,hl with|[_,_],_=>rfl
 have F_16:=ZS (st:=QQ) l_16 c_16 k_16
 have b_16:=F_16.binds (ps:=["self"]) fun _ _ _ _ _ _ us hl=>match us,hl with|[_],_=>rfl
 have F_17:=ZS (st:=Pq) l_17 c_17 k_17
 have b_17:=F_17.binds (ps:=["self"]) fun _ _ _ _ _ _ us hl=>match us,hl with|[_],_=>rfl
 have F_18:=ZS (st:=Pg) l_18 c_18 k_18
 have b_18:=F_18.binds (ps:=["self","at"]) fun _ _ _ _ _ _ us hl=>match us,hl with|[_,_],_=>rfl
 have F_19:=ZS (st:=QJ) l_19 c_19 k_19
 have b_19:=F_19.binds (ps:=["orders","at"]) fun _ _ _ _ _ _ us hl=>match us,hl with|[_,_],_=>rfl
 have F_20:=ZS (st:=Pb) l_20 c_20 k_20
 have b_20:=F_20.binds (ps:=["orders","helped","goal"]) fun _ _ _ _ _ _ us hl=>match us,hl with|[_,_,_],_=>rfl
 have F_21:=ZS (st:=Po) l_21 c_21 k_21
 have b_21:=F_21.binds (ps:=["orders","at"]) fun _ _ _ _ _ _ us hl=>match us,hl with|[_,_],_=>rfl
 have F_22:=ZS (st:=Pl) l_22 c_22 k_22
 have b_22:=F_22.binds (ps:=["orders","helper","at"]) fun _ _ _ _ _ _ us hl=>match us,hl with|[_,_,_],_=>rfl
 have F_23:=ZS (st:=QK) l_23 c_23 k_23
 have b_23:=F_23.binds (ps:=["orders","at"]) fun _ _ _ _ _ _ us hl=>match us,hl with|[_,_],_=>rfl
 have F_24:=ZS (st:=QV) l_24 c_24 k_24
 have b_24:=F_24.binds (ps:=["orders","at"]) fun _ _ _ _ _ _ us hl=>match us,hl with|[_,_],_=>rfl
 have F_25:=ZS (st:=QD) l_25 c_25 k_25
 have b_25:=F_25.binds (ps:=["orders"]) fun _ _ _ _ _ _ us hl=>match us,hl with|[_],_=>rfl
 have F_26:=ZS (st:=Qw) l_26 c_26 k_26
 have b_26:=F_26.binds (ps:=["orders","forces","at"]) fun _ _ _ _ _ _ us hl=>match us,hl with|[_,_,_],_=>rfl
 have F_27:=ZS (st:=Q9) l_27 c_27 k_27
 have b_27:=F_27.binds (ps:=["orders","at","side"]) fun _ _ _ _ _ _ us hl=>match us,hl with|[_,_,_],_=>rfl
 have F_28:=ZS (st:=Py) l_28 c_28 k_28
 have b_28:=F_28.binds (ps:=["orders","at","goal","strength"]) fun _ _ _ _ _ _ us hl=>match us,hl with|[_,_,_,_],_=>rfl
 have F_29:=ZS (st:=QA) l_29 c_29 k_29
 have b_29:=F_29.binds (ps:=["orders","at"]) fun _ _ _ _ _ _ us hl=>match us,hl with|[_,_],_=>rfl
 have F_30:=ZS (st:=Q3) l_30 c_30 k_30
 have b_30:=F_30.binds (ps:=["orders","forces","at"]) fun _ _ _ _ _ _ us hl=>match us,hl with|[_,_,_],_=>rfl
 have F_31:=ZS (st:=QF) l_31 c_31 k_31
 have b_31:=F_31.binds (ps:=["orders"]) fun _ _ _ _ _ _ us hl=>match us,hl with|[_],_=>rfl
 have F_32:=ZS (st:=QR) l_32 c_32 k_32
 have b_32:=F_32.binds (ps:=["orders","found","at","places"]) fun _ _ _ _ _ _ us hl=>match us,hl with|[_,_,_,_],_=>rfl
 have F_33:=ZS (st:=QX) l_33 c_33 k_33
 have b_33:=F_33.binds (ps:=["orders"]) fun _ _ _ _ _ _ us hl=>match us,hl with|[_],_=>rfl
 have F_34:=ZS (st:=Pk) l_34 c_34 k_34
 have b_34:=F_34.binds (ps:=["orders"]) fun _ _ _ _ _ _ us hl=>match us,hl with|[_],_=>rfl
 have F_35:=ZS (st:=QL) l_35 c_35 k_35
 have b_35:=F_35.binds (ps:=["self"]) fun _ _ _ _ _ _ us hl=>match us,hl with|[_],_=>rfl
 have F_36:=ZS (st:=Pw) l_36 c_36 k_36
 have b_36:=F_36.binds (ps:=["board","goals","comers"]) fun _ _ _ _ _ _ us hl=>match us,hl with|[_,_,_],_=>rfl
 have F_37:=ZS (st:=QT) l_37 c_37 k_37
 have b_37:=F_37.binds (ps:=["chart","units"]) fun _ _ _ _ _ _ us hl=>match us,hl with|[_,_],_=>rfl
 have F_38:=ZS (st:=QU) l_38 c_38 k_38
 have b_38:=F_38.binds (ps:=["self","orders"]) fun _ _ _ _ _ _ us hl=>match us,hl with|[_,_],_=>rfl
 have F_39:=ZS (st:=Ps) l_39 c_39 k_39
 have b_39:=F_39.binds (ps:=["self"]) fun _ _ _ _ _ _ us hl=>match us,hl with|[_],_=>rfl
 have F_40:=ZS (st:=Pf) l_40 c_40 k_40
 have b_40:=F_40.binds (ps:=["script"]) fun _ _ _ _ _ _ us hl=>match us,hl with|[_],_=>rfl
 have T:All K mg ⟨295,246,371,435,131,144,156,168,180,192,300,fun C D=>(W.kitOne K (.ref C) D).getD false,fun O C=>decide (W.exmOne K (.ref C) (.ref O)=some true)⟩ ⟨446,_,458,_,264,_,271,_,278,_,208,_,215,_,314,_,222,_,229,_,361,_,285,_,368,_,328,_,465,_,354,_,347,_,243,_,342,_,26,_,33,_,40,_,47,_,52,_,59,_,78,_,83,_,64,_,90,_,71,_,97,_,104,_,111,_,116,_,121,_,411,_,387,_,382,_,399,_,406,_,470,_⟩:=⟨⟨pg_Board,hd_Board,po_Board,sa_Board⟩,
  ⟨pg_Map,hd_Map,po_Map,sa_Map⟩,
  ⟨pg_Orders,hd_Orders,po_Orders,sa_Orders⟩,
  ⟨pg_Turn,hd_Turn,po_Turn,sa_Turn⟩,
  n_Board_chart,
  n_Board_units,
  n_Map_links,
  n_Map_size,
  n_Orders_board,
  n_Orders_given,
  n_Turn_board,
  n_Turn_closed,
  n_Turn_comers,
  n_Turn_goals,
  n_Turn_pushed,
  ⟨mm_Board,a_5,i_5,kp_Board⟩,
  ⟨mm_Map,a_2,i_2,kp_Map⟩,
  ⟨mm_Orders,a_7,i_7,kp_Orders⟩,
  ⟨mm_Turn,a_38,i_38,kp_Turn⟩,
  W.mg_of X G a_Board,
  W.mg_of X G a_Crowded,
  ⟨_,W.mg_of X G v_FACED⟩,
  ⟨_,W.mg_of X G v_FREE⟩,
  ⟨_,W.mg_of X G v_HELD⟩,
  ⟨_,W.mg_of X G v_LAST_SIDE⟩,
  W.mg_of X G a_Map,
  W.mg_of X G a_NoPlace,
  W.mg_of X G a_NoSide,
  W.mg_of X G a_NoUnit,
  W.mg_of X G a_Orders,
  W.mg_of X G a_OutOfReach,
  ⟨_,W.mg_of X G v_RIVAL⟩,
  W.mg_of X G a_Turn,
  W.mg_of X G a_STAND,
  GTup.of l_STAND,
  x_Crowded,
  x_NoPlace,
  x_NoSide,
  x_NoUnit,
  x_OutOfReach,
  W.mg_none_of X G z_any,
  W.mg_none_of X G z_int,
  W.mg_none_of X G z_len,
  W.mg_none_of X G z_min,
  W.mg_none_of X G z_range,
  W.mg_none_of X G z_set,
  W.mg_none_of X G z_sorted,
  F_0,
  b_0,
  W.mg_of X G a_0,
  k_0,
  F_1,
  b_1,
  W.mg_of X G a_1,
  k_1,
  F_2,
  b_2,
  F_3,
  b_3,
  ⟨a_3,i_3,k_3⟩,
  F_4,
  b_4,
  ⟨a_4,i_4,k_4⟩,
  F_5,
  b_5,
  F_6,
  b_6,
  ⟨a_6,i_6,k_6⟩,
  F_7,
  b_7,
  F_8,
  b_8,
  ⟨a_8,i_8,k_8⟩,
  F_9,
  b_9,
  ⟨a_9,i_9,k_9⟩,
  F_10,
  b_10,
  ⟨a_10,i_10,k_10⟩,
  F_11,
  b_11,
  ⟨a_11,i_11,k_11⟩,
  F_12,
  b_12,
  ⟨a_12,i_12,k_12⟩,
  F_13,
  b_13,
  ⟨a_13,i_13,k_13⟩,
  F_14,
  b_14,
  W.mg_of X G a_14,
  k_14,
  F_15,
  b_15,
  ⟨a_15,i_15,k_15⟩,
  F_16,
  b_16,
  ⟨a_16,i_16,k_16⟩,
  F_17,
  b_17,
  ⟨a_17,i_17,k_17⟩,
  F_18,
  b_18,
  ⟨a_18,i_18,k_18⟩,
  F_19,
  b_19,
  W.mg_of X G a_19,
  k_19,
  F_20,
  b_20,
  W.mg_of X G a_20,
  k_20,
  F_21,
  b_21,
  W.mg_of X G a_21,
  k_21,
  F_22,
  b_22,
  W.mg_of X G a_22,
  k_22,
  F_23,
  b_23,
  W.mg_of X G a_23,
  k_23,
  F_24,
  b_24,
  W.mg_of X G a_24,
  k_24,
  F_25,
  b_25,
  W.mg_of X G a_25,
  k_25,
  F_26,
  b_26,
  W.mg_of X G a_26,
  k_26,
  F_27,
  b_27,
  W.mg_of X G a_27,
  k_27,
  F_28,
  b_28,
  W.mg_of X G a_28,
  k_28,
  F_29,
  b_29,
  W.mg_of X G a_29,
  k_29,
  F_30,
  b_30,
  W.mg_of X G a_30,
  k_30,
  F_31,
  b_31,
  W.mg_of X G a_31,
  k_31,
  F_32,
  b_32,
  W.mg_of X G a_32,
  k_32,
  F_33,
  b_33,
  W.mg_of X G a_33,
  k_33,
  F_34,
  b_34,
  W.mg_of X G a_34,
  k_34,
  F_35,
  b_35,
  ⟨a_35,i_35,k_35⟩,
  F_36,
  b_36,
  W.mg_of X G a_36,
  k_36,
  F_37,
  b_37,
  W.mg_of X G a_37,
  k_37,
  F_38,
  b_38,
  F_39,
  b_39,
  ⟨a_39,i_39,k_39⟩,
  F_40,
  b_40,
  W.mg_of X G a_40,
  k_40⟩
 refine ⟨_,?_,fun base _ _=>FO noL (Do T) (HB _)⟩
 exact fun s v=>.of_eq rfl
theorem walk {l:W.OpenLaw} {q:Program} {loose:List Str} {XP:(Str->Option Value)->Heap->Prop} {d:DefRec} (hn:l.most=some 63) (hdf:d.params.defaults=[]) (hd:d.name="law") :
    W.WalkO q loose XP (W.Hook.says hook) l.row.toRowW d [] (fun f vs=>PySem.call f vs):=by
 refine Att.attach_call hn hdf fun w s₀ s₁ mg mb fa o pm cd doc a vs ns G Y ho hd' hcd hmg hobj hints hlen hg=>?_
 obtain ⟨K,KX,g⟩:=Y
 rw[hd]at hmg
 obtain ⟨fd,hb,hF⟩:=Av (l:=l) (w:=w) g KX G.T.g hmg
 exact IU KX G.T.g G.T.b G.T.builtins G.T.nolimit hg hobj hints (Nat.le_trans hlen (by decide)) ⟨rfl,by decide,by decide⟩ hF hb (fun H hO hS=>⟨a,ns,rfl,hS,hlen,fun _=>rfl⟩) fun H e s' ⟨_,_,_,_,_,z⟩=>z
end MP
open PySem PySem.W PyProof.Rows
set_option maxRecDepth 100000 in
set_option maxHeartbeats 0 in
theorem PySem.Challenge.cw_atonce_k16_whole_rings_and_chains_holds : PySem.Challenge.rw_atonce_k16_whole_rings_and_chains.Holds := by
 w_on; o_law
 refine PySem.W.holds_open (q:=MP.view) (loose:=[]) (XP:=PySem.W.XL MP.view []) MP.run (PySem.W.Hook.of MP.hook) (PySem.W.Hook.keeps MP.hook) (fun s e=>PySem.W.xl_of s (Bool.and_eq_true_iff.mp e).1) PySem.W.XL.keeps (by rfl) (by rfl) (by rfl) (fun s e=>PySem.W.recFacts_of (Bool.and_eq_true_iff.mp e).2) (by rfl) (by first|assumption|decide +kernel) (by decide +kernel) ⟨rfl,rfl,rfl,rfl,rfl,by decide +kernel⟩ ?hw ?hc
 case hw=>w_witness2
 case hc=>exact MP.walk (l:=PySem.Challenge.rw_atonce_k16_whole_rings_and_chains) rfl rfl rfl
